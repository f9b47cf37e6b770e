/-
  Contract of awake: the document's example.
-/
import Derived.Test.YtngfbkkfnooobaaGreatDoorShape
import Derived.Lib.ConvBytes
namespace Go.Proofs.YtngfbkkfnooobaaGreatDoor
open Go.RowKit
set_option maxHeartbeats 4000000
set_option maxRecDepth 100000
/-- the example's entries -/
def exL : List En := [(1, ([97], [])), (33, ([98], []))]
theorem exL_come : comeE exL = exL := by decide
def exS : List Sp := [⟨0, 3, 0, 2, 2⟩, ⟨1, 3, 0, 3, 2⟩, ⟨2, 1, 1, 0, 1⟩, ⟨2, 1, 33, 0, 1⟩]
theorem exL_shape : (layL 13 0 (comeE exL)).shape 0 = exS := by rw [exL_come]; decide +kernel
theorem exL_fit : FitE exL := by
  refine ⟨by decide, fun e he => ?_⟩
  simp only [exL, List.mem_cons, List.not_mem_nil, or_false] at he
  rcases he with rfl | rfl <;> exact ⟨by decide, by decide, by decide⟩
theorem laid_of {L : List En} (h : FitE L) : Laid (comeE L) 0 (layL 13 0 (comeE L)) := lay_laid 13 0 _ rfl h.good
theorem conv_const (w : World) (C : Array Value) (n c : Nat) : (convert 46 46 (.slice (some ⟨w.heap.size, 0, none⟩) n c)).run Tryz.prog (w.alloc (.cells C 5)) = .ok (.slice (some ⟨w.heap.size, 0, none⟩) n c) (w.alloc (.cells C 5 (C.size, C.size + 1))) :=
  Lib.run_convert_bytes_const (P := Tryz.prog) w 46 5 C n c Tryz.underlying46 Tryz.underlying5
theorem awake_any {w : World} (hT : Tab w) : Calls Tryz.prog 6 #[] w fun e w' => e = .returned (.bool true) ∧ Below w.heap.size w w' := by
  have cc1 := conv_const w #[.int .u8 97] 1 1
  obtain ⟨w1, hw1⟩ : ∃ w1, w1 = w.alloc (.cells #[.int .u8 97] 5 (1, 2)) := ⟨_, rfl⟩
  have s1 : w1.heap.size = w.heap.size + 1 := by rw [hw1]; simp
  have cc2 := conv_const w1 #[.int .u8 98] 1 1
  obtain ⟨w3, hw3⟩ : ∃ w3, w3 = (w1.alloc (.cells #[.int .u8 98] 5 (1, 2))).alloc (.cells #[.int .u64 1, .slice (some ⟨w.heap.size, 0, none⟩) 1 1, .slice none 0 0, .int .u64 33, .slice (some ⟨w.heap.size + 1, 0, none⟩) 1 1, .slice none 0 0] 50) := ⟨_, rfl⟩
  have b3 : Below w.heap.size w w3 := by rw [hw3, hw1]; exact (((Below.refl _ _).alloc (Nat.le_refl _) _).alloc (by simp) _).alloc (by simp; omega) _
  have r0 : w3.heap[w.heap.size]? = some (.cells #[.int .u8 97] 5 (1, 2)) := by
    rw [hw3, hw1, Below.heap_alloc _ _ _ (by simp; omega), heap_alloc2_old]
  have r1 : w3.heap[w.heap.size + 1]? = some (.cells #[.int .u8 98] 5 (1, 2)) := by
    rw [hw3, hw1, Below.heap_alloc _ _ _ (by simp)]
    exact heap_alloc2_new w _ _
  have r2 : w3.heap[w.heap.size + 1 + 1]? = some (.cells #[.int .u64 1, .slice (some ⟨w.heap.size, 0, none⟩) 1 1, .slice none 0 0, .int .u64 33, .slice (some ⟨w.heap.size + 1, 0, none⟩) 1 1, .slice none 0 0] 50 (0, 0)) := by
    have := heap_alloc_new (w1.alloc (.cells #[.int .u8 98] 5 (1, 2))) (.cells #[.int .u64 1, .slice (some ⟨w.heap.size, 0, none⟩) 1 1, .slice none 0 0, .int .u64 33, .slice (some ⟨w.heap.size + 1, 0, none⟩) 1 1, .slice none 0 0] 50)
    rw [World.size_alloc, s1] at this
    rw [hw3]
    exact this
  have hE : Ens w3 (some ⟨w.heap.size + 1 + 1, 0, none⟩) exL := by
    have k0 : Bts w3 (some ⟨w.heap.size, 0, none⟩) [97] := bts_row (l := [97]) r0
    have k1 : Bts w3 (some ⟨w.heap.size + 1, 0, none⟩) [98] := bts_row (l := [98]) r1
    refine .inr ⟨w.heap.size + 1 + 1, 0, rfl, (Array.getElem?_eq_some_iff.1 r2).1, fun i hi => ?_⟩
    have hi2 : i = 0 ∨ i = 1 := by simp [exL] at hi; omega
    rcases hi2 with rfl | rfl
    · exact ⟨_, 1, none, 0, row_cell r2 rfl, row_cell r2 rfl, row_cell r2 rfl, k0, .inl rfl⟩
    · exact ⟨_, 1, none, 0, row_cell r2 rfl, row_cell r2 rfl, row_cell r2 rfl, k1, .inl rfl⟩
  have hof := of_any (F := fun b => w3.heap.size ≤ b) 2 (fun b hb => hb) (hT.below b3) hE exL_fit
  have hsh : ∀ (W : World) (v : Value), Tab W → Nde (fun b => w3.heap.size ≤ b) W (layL 13 0 (comeE exL)) v → Calls Tryz.prog 16 #[v] W fun e w' => ∃ A c, e = .returned (.slice A 4 c) ∧ Sps w' A exS ∧ Below W.heap.size W w' := fun W v hTW hv => by
    have h := shape_any hv (laid_of exL_fit).ok (laid_of exL_fit).right hTW (by rw [exL_shape]; decide)
    rw [exL_shape] at h
    refine h.mono ?_
    rintro e w' ⟨A, c, h1, _, h2⟩
    exact ⟨A, c, h1, h2⟩
  rw [s1] at cc2
  have HW1 := Lib.hid hw1
  have HW1b := Lib.hid hw1
  rw [hw1] at cc2
  have HSH := Lib.hid hsh; clear hsh
  have HOF : Hid (Calls Tryz.prog 7 #[.slice (some ⟨w.heap.size + 1 + 1, 0, none⟩) 2 2] w3 fun e w' => ∃ v, e = .returned v ∧ Nde (fun b => w3.heap.size ≤ b) w' (layL 13 0 (comeE exL)) v ∧ Below w3.heap.size w3 w') := hof
  clear hof hE r0 r1 r2 s1
  rw [hw1] at hw3
  have HW3 := Lib.hid hw3; clear hw3 hw1
  have HB3 := Lib.hid b3; clear b3
  have HT := Lib.hid hT; clear hT
  go_enter Tryz.func6, Tryz.ntmps6
  go_wp2_with fail
  rw [← HW3.out]
  refine HOF.out.mono ?_
  rintro e w4 ⟨v, rfl, hv, b4⟩
  have HV := Lib.hid hv; clear hv
  have B4 := Lib.hid (below_then HB3.out b4); clear b4
  go_wp2_with fail
  refine (HSH.out w4 v (HT.out.below B4.out) HV.out).mono ?_
  rintro e w5 ⟨A, c, rfl, hs, b5⟩
  have B5 := Lib.hid (below_then B4.out b5); clear b5
  rcases hs with h | ⟨g, rfl, hg, hc⟩
  · cases h
  have e0 := hc 0 (by decide)
  have e1 := hc 1 (by decide)
  have e2 := hc 2 (by decide)
  have e3 := hc 3 (by decide)
  simp only [exS, List.getElem_cons_zero, List.getElem_cons_succ, Nat.zero_mul, Nat.zero_add, Nat.one_mul, Nat.reduceMul, Nat.reduceAdd] at e0 e1 e2 e3
  obtain ⟨_, _, _, q0, _⟩ := e0
  obtain ⟨q1, _, _, q2, _⟩ := e1
  obtain ⟨_, q3, _, _, _⟩ := e2
  obtain ⟨_, _, q4, _, _⟩ := e3
  clear hc hg
  go_wp2_with fail
  go_ret
  exact ⟨rfl, B5.out⟩
end Go.Proofs.YtngfbkkfnooobaaGreatDoor
