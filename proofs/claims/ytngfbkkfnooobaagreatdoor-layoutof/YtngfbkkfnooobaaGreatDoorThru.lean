/-
  Contract of through: a way that goes on, in the same row or in a new one.
-/
import Derived.Test.YtngfbkkfnooobaaGreatDoorWays
namespace Go.Proofs.YtngfbkkfnooobaaGreatDoor
open Go.RowKit
set_option maxHeartbeats 4000000
set_option maxRecDepth 100000
attribute [local go_sem] Oper.semAt_some
/-- append of one number that was laid into a block of its own just ahead, where a region draws its order -/
theorem step_app1 {B : Nat} {w : World} {ops : Array Oper} {o : Oper} {a : Act} {K : Act → World → Prop} {Q : Exit → Act → World → Prop} {E : Prop}
    (hgd : o.guard = none) (s x : Operand) (ho : o.op = .call { callee := .builtin .append, args := #[s, x], argTypes := #[30, 30] }) (v : Value) (n : Nat) (xs : List Value) (h : w.ownsRow B 3 1 v n xs) (x1 : Value) (h1 : x1.oneCell' = true)
    (hs : a.eval s = v) (hx : a.eval x = .slice (some ⟨w.heap.size, 0, none⟩) 1 1) (hn : n ≤ 1000) (hB : B ≤ w.heap.size)
    (hK : ∀ v' w', w'.ownsRow B 3 1 v' (n + 1) (xs ++ [x1]) → w.grownBy w' v.ownBlock → (v'.ownBlock = v.ownBlock ∨ v'.ownBlock = some (w.heap.size + 1)) → w'.ownsRow B 3 1 v n xs → K (a.put o.dst v') w') : if Region.wanted o (yielded ops a.tmps) = true then Oper.wp Tryz.prog o a (w.alloc (.cells #[x1] 3)) K Q else E := by
  have hw : Region.wanted o (yielded ops a.tmps) = true := by simp [Region.wanted, hgd]
  rw [if_pos hw]
  obtain ⟨i0, hi, hz0, hz1, hz2⟩ := info_parts Bt.Tryz.info3
  obtain ⟨v', w', hr, hown, hg, hob, hpre⟩ := run_append_pre (w := w.alloc (.cells #[x1] 3)) B 30 o.type 3 i0 _ 1 8 Tryz.underlying30 hi hz0 hz1 hz2 rfl (by decide) v n xs (World.ownsRow.alloc h _) ⟨w.heap.size, 0, none⟩ 1 1 [x1] rfl (cell_one_new _ _ _)
    (by
      intro u hu
      rcases List.mem_cons.1 hu with rfl | hu
      · exact h1
      · cases hu)
    (by unfold maxLen; omega) (by omega) (by simp; omega)
  rw [World.size_alloc] at hob
  have hg2 : w.grownBy w' v.ownBlock := grown_then (World.grownBy_alloc w _ none) hg
  unfold Oper.wp execOp
  simp only [ho, resolve, invoke, builtin, Sem.run_bind, Sem.run_pure, Result.andThen_ok, List.map_toArray, List.map_cons, List.map_nil, hs, hx, hr]
  exact hK v' w' hown hg2 hob hpre
theorem thru_step {B n g : Nat} {w wB w1 : World} {v v' : Value} {xs ys : List Value} {fr : Nat} {u : Value} (hg : g = w.heap.size) (h : w.ownsRow B 3 1 v n xs) (hb : Below w.heap.size w wB) (hr0 : wB.heap[g]? = some (.cells #[.int .i64 (fr : Int), u] 87 (0, 0))) (hr : wB.heap[g + 1]? = some (.cells #[.int .i64 0, .slice none 0 0] 87 (0, 0)))
    (h1 : w1.ownsRow B 3 1 v' (n + 1) ys) (hgr : wB.grownBy w1 v.ownBlock) (hob : v'.ownBlock = v.ownBlock ∨ ∃ q, wB.heap.size ≤ q ∧ v'.ownBlock = some q) (hpre : w1.ownsRow B 3 1 v n xs) :
    (w1.cell? ⟨g, 0, none⟩ = some (.int .i64 (fr : Int)) ∧ w1.cell? ⟨g + 1, 0, none⟩ = some (.int .i64 0) ∧ w1.cell? ⟨g + 1, 1, none⟩ = some (.slice none 0 0) ∧ w1.frozen? ⟨g + 1, 0, none⟩ = false ∧ w1.frozen? ⟨g + 1, 1, none⟩ = false) ∧
      ((w1.setCell ⟨g + 1, 0, none⟩ (.int .i64 (fr : Int))).setCell ⟨g + 1, 1, none⟩ v').heap[g + 1]? = some (.cells #[.int .i64 (fr : Int), v'] 87 (0, 0)) ∧
      ((w1.setCell ⟨g + 1, 0, none⟩ (.int .i64 (fr : Int))).setCell ⟨g + 1, 1, none⟩ v').ownsRow B 3 1 v' (n + 1) ys ∧ ((w1.setCell ⟨g + 1, 0, none⟩ (.int .i64 (fr : Int))).setCell ⟨g + 1, 1, none⟩ v').ownsRow B 3 1 v n xs ∧
      But (fun k => v.ownBlock = some k) w ((w1.setCell ⟨g + 1, 0, none⟩ (.int .i64 (fr : Int))).setCell ⟨g + 1, 1, none⟩ v') ∧ (v'.ownBlock = v.ownBlock ∨ ∃ q, w.heap.size ≤ q ∧ v'.ownBlock = some q) := by
  subst hg
  have hlt := (Array.getElem?_eq_some_iff.1 hr).1
  have hne : some (w.heap.size + 1) ≠ v.ownBlock := fun e => by
    have := (own_lt h e.symm).2.1
    omega
  have r1 : w1.heap[w.heap.size + 1]? = some (.cells #[.int .i64 0, .slice none 0 0] 87 (0, 0)) := (hgr.block _ hlt hne).trans hr
  obtain ⟨a0, a1, a2, a3⟩ := row2 r1
  have hne0 : some w.heap.size ≠ v.ownBlock := fun e => by
    have := (own_lt h e.symm).2.1
    omega
  have z0 := (row2 ((hgr.block _ (Array.getElem?_eq_some_iff.1 hr0).1 hne0).trans hr0)).1
  obtain ⟨s1, s2⟩ := set2 r1 (.int .i64 (fr : Int)) v'
  have hv' : v'.ownBlock ≠ some (w.heap.size + 1) := fun e => by
    obtain ⟨_, _, cur, h3⟩ := own_lt h1 e
    rw [r1] at h3
    injection h3 with h3
    injection h3 with _ h3
    cases h3
  refine ⟨⟨z0, a0, a1, a2, a3⟩, s1, own_kept h1 fun q hq => s2 q fun e => hv' (e ▸ hq), own_kept hpre fun q hq => s2 q fun e => hne (e ▸ hq.symm), ?_, ?_⟩
  · have k1 : But (fun k => v.ownBlock = some k) w w1 := (((But.refl _ _).then hb).grown hgr fun k hk => hk)
    have b := below_set2 (w := w1) (g := w.heap.size + 1) (B := w.heap.size + 1) (.int .i64 (fr : Int)) v' (Nat.le_refl _)
    exact ⟨b.os.trans k1.os, b.tape.trans k1.tape, b.output.trans k1.output, Nat.le_trans k1.size b.size, fun i hi hx => (b.block i (by omega)).trans (k1.block i hi hx)⟩
  · rcases hob with h | ⟨q, h2, h3⟩
    · exact .inl h
    · exact .inr ⟨q, Nat.le_trans hb.size h2, h3⟩
theorem through_any {B n : Nat} {w : World} {v : Value} {ns : List Int} (fr : Nat) (c : Int) (h : w.ownsRow B 3 1 v n (Bt.icells ns)) (hn : n ≤ 100) (hB : B ≤ w.heap.size) :
    Calls Tryz.prog 83 #[.agg #[.int .i64 (fr : Int), v], .int .i64 c] w fun e w' => ∃ v', e = .returned (.agg #[.int .i64 (fr : Int), v']) ∧ w'.ownsRow B 3 1 v' (n + 1) (Bt.icells (ns ++ [c])) ∧ w'.ownsRow B 3 1 v n (Bt.icells ns) ∧
      But (fun k => v.ownBlock = some k) w w' ∧ (v'.ownBlock = v.ownBlock ∨ ∃ q, w.heap.size ≤ q ∧ v'.ownBlock = some q) := by
  obtain ⟨_, A, cp, rfl, _, _⟩ := row_reads1 h
  rw [Bt.icells_snoc]
  obtain ⟨xs, hxs⟩ : ∃ xs, xs = Bt.icells ns := ⟨_, rfl⟩
  rw [← hxs] at h ⊢
  obtain ⟨w2, hw2⟩ : ∃ w2, w2 = (w.alloc (.cells #[.int .i64 (fr : Int), .slice A n cp] 87)).alloc (.cells #[.int .i64 0, .slice none 0 0] 87) := ⟨_, rfl⟩
  have hb : Below w.heap.size w w2 := by rw [hw2]; exact ((Below.refl _ _).alloc (Nat.le_refl _) _).alloc (by simp) _
  have r0 : w2.heap[w.heap.size]? = some (.cells #[.int .i64 (fr : Int), .slice A n cp] 87 (0, 0)) := by rw [hw2]; exact heap_alloc2_old w _ _
  have r1 : w2.heap[w.heap.size + 1]? = some (.cells #[.int .i64 0, .slice none 0 0] 87 (0, 0)) := by rw [hw2]; exact heap_alloc2_new w _ _
  have hsz : w2.heap.size = w.heap.size + 2 := by rw [hw2]; simp
  have hd : Below w2.heap.size w2 w2.drew := (Below.refl _ _).drew
  have ha : Below w2.heap.size w2 (w2.alloc (.cells #[.int .i64 c] 3)) := (Below.refl _ _).alloc (Nat.le_refl _) _
  obtain ⟨a0, a1, _, _⟩ := row2 r0
  obtain ⟨b0, b1, _, _⟩ := row2 ((hd.block w.heap.size (by omega)).trans r0)
  obtain ⟨c0, c1, _, _⟩ := row2 ((ha.block w.heap.size (by omega)).trans r0)
  have HO : Hid (w2.drew.ownsRow B 3 1 (.slice A n cp) n xs) := own_below (own_below h hb) hd
  have HP : Hid (∀ (v' : Value) (w1 : World), w1.ownsRow B 3 1 v' (n + 1) (xs ++ [.int .i64 c]) → w2.drew.grownBy w1 (Value.ownBlock (.slice A n cp)) → (v'.ownBlock = Value.ownBlock (.slice A n cp) ∨ v'.ownBlock = some (w2.drew.heap.size + 1)) → w1.ownsRow B 3 1 (.slice A n cp) n xs → _) :=
    fun v' w1 h1 h2 h3 h4 => thru_step (fr := fr) rfl h (below_then hb hd) ((hd.block w.heap.size (by omega)).trans r0) ((hd.block (w.heap.size + 1) (by omega)).trans r1) h1 h2 (h3.imp id fun e => ⟨_, Nat.le_succ _, e⟩) h4
  have HS : Hid (B ≤ w2.drew.heap.size) := Nat.le_trans hB (Nat.le_trans hb.size hd.size)
  have HW := Lib.hid hw2; clear hw2
  have HX := Lib.hid hxs; clear hxs
  clear h hb r0 r1 hsz hd ha
  go_enter Tryz.func83, Tryz.ntmps83
  go_wp2_with fail
  rw [← HW.out]
  go_region_law (first
    | (refine step_app1 (B := B) (w := w2.drew) rfl (.tmp 8) (.tmp 10) rfl _ n xs HO.out (.int .i64 c) rfl (by simp [Act.eval]) (by simp [Act.eval]) (by omega) HS.out ?_; intro v' w1 hown hgr hob hpre; obtain ⟨⟨s0, s1, s2, s3, s4⟩, s5, s6, s7, s8, s9⟩ := HP.out v' w1 hown hgr hob hpre; have S5 := Lib.hid s5; have S6 := Lib.hid s6; have S7 := Lib.hid s7; have S8 := Lib.hid s8; have S9 := Lib.hid s9; obtain ⟨_, A', c', rfl, _, _⟩ := row_reads1 hown; clear s5 s6 s7 s8 s9 hown hgr hob hpre)
    | fail)
  all_goals
    go_wp2_with fail
    refine bodyPost_ret (results_cell_row rfl _ _ (w.heap.size + 1) 87 _ (0, 0) _ rfl S5.out Tryz.underlying87 rfl (by kernel_rfl)) rfl ?_
    exact ⟨_, rfl, S6.out, S7.out, S8.out, S9.out⟩
end Go.Proofs.YtngfbkkfnooobaaGreatDoor
