/-
  Contract of the statements' awake: the document's example.
-/
import Derived.Test.YtmkibkeacbhhaaaHash
namespace Go.Proofs.Ytmkibkeacbhhaaa
open Go.RowKit
set_option maxHeartbeats 400000
theorem seed_awake : seedV [0, 1, 2, 3, 4, 5, 6, 7, 8, 9, 10, 11, 12, 13, 14, 15] = #[.int .u8 0, .int .u8 1, .int .u8 2, .int .u8 3, .int .u8 4, .int .u8 5, .int .u8 6, .int .u8 7, .int .u8 8, .int .u8 9, .int .u8 10, .int .u8 11, .int .u8 12, .int .u8 13, .int .u8 14, .int .u8 15] := by
  simp [seedV]
/-- a whole array out of its block, inside a region's quiet head -/
theorem still_load_row {P : Program} {ops : Array Oper} {rest : List Oper} {o : Oper} {a : Act} {w : World} {Q : Act → Prop} (hgd : o.guard = none) (ty : TypeId) (x : Operand) (ho : o.op = .load ty x)
    (g : Nat) (hx : a.eval x = .pointer (some ⟨g, 0, none⟩)) (t : TypeId) (cs : Array Value) (fr : Nat × Nat) (d : TypeDesc) (hg : w.heap[g]? = some (.cells cs t fr))
    (hu : P.underlying ty = some d) (hd : (match d with | .struct _ | .array _ _ => true | _ => false) = true) (hi : (P.info? ty).map (·.size) = some cs.size)
    (h : wpStill P ops w Q rest (a.put o.dst (.agg cs))) : wpStill P ops w Q (o :: rest) a := by
  refine wpStill_step (fun K hK => ?_)
  have hw : Region.wanted o (yielded ops a.tmps) = true := by simp [Region.wanted, hgd]
  rw [if_pos hw]
  unfold Oper.still execOp
  simp only [ho, hx, Instr.loadAt, Instr.sureAddr, Sem.run_bind, Sem.run_pure, Result.andThen_ok, run_loadVar_row w g t ty cs fr d hg hu hd hi]
  exact ⟨rfl, hK _ h⟩
set_option maxRecDepth 10000 in
theorem awake_any (w : World) : Calls Try.prog 8 #[] w fun e w' => e = .returned (.bool true) ∧ Below w.heap.size w w' := by
  have hh : ∀ W : World, W.heap[w.heap.size]? = some (.cells (seedV [0, 1, 2, 3, 4, 5, 6, 7, 8, 9, 10, 11, 12, 13, 14, 15]) 23 (0, 0)) → Calls Try.prog 9 #[.agg (seedV [0, 1, 2, 3, 4, 5, 6, 7, 8, 9, 10, 11, 12, 13, 14, 15]), .slice (some ⟨w.heap.size, 0, none⟩) 15 16] W fun e w' => e = .returned (.int .u64 11613035633349379557) ∧ Below W.heap.size W w' := by
    intro W hW
    have h := hash_any [0, 1, 2, 3, 4, 5, 6, 7, 8, 9, 10, 11, 12, 13, 14, 15] [0, 1, 2, 3, 4, 5, 6, 7, 8, 9, 10, 11, 12, 13, 14] (some ⟨w.heap.size, 0, none⟩) 16 W (seed_bts hW 0 15) (by decide) (by decide) rfl
    rw [hash_awake] at h
    exact h
  rw [seed_awake] at hh
  have HH := Lib.hid hh; clear hh
  go_enter Try.func8, Try.ntmps8
  go_wp2_with fail
  generalize hA : (#[Value.int .u8 0, .int .u8 1, .int .u8 2, .int .u8 3, .int .u8 4, .int .u8 5, .int .u8 6, .int .u8 7, .int .u8 8, .int .u8 9, .int .u8 10, .int .u8 11, .int .u8 12, .int .u8 13, .int .u8 14, .int .u8 15] : Array Value) = arr at *
  have hsz : arr.size = 16 := by rw [← hA]; rfl
  have HA := Lib.hid hA; clear hA
  refine wp_region_still_tail 2 (by kernel_rfl) (by kernel_rfl) ?_
  simp only [List.take_succ_cons, List.take_zero, List.drop_succ_cons, List.drop_zero]
  refine still_load_row rfl 23 _ rfl w.heap.size rfl 23 arr (0, 0) _ (heap_alloc_new w _) Try.underlying23 rfl (by rw [hsz]; kernel_rfl) ?_
  still_step
  refine wpStill_nil ?_
  change wpList _ _ _ _ _ (w.alloc (.cells arr 23)).drew
  go_wp2_with fail
  refine (HH.out (w.alloc (.cells arr 23)).drew (heap_alloc_new w _)).mono ?_
  rintro e w1 ⟨rfl, hb⟩
  have HB := Lib.hid hb; clear hb
  go_wp2_with fail
  go_ret
  exact ⟨rfl, below_then ((Below.refl _ _).alloc (Nat.le_refl _) _).drew HB.out⟩
end Go.Proofs.Ytmkibkeacbhhaaa
