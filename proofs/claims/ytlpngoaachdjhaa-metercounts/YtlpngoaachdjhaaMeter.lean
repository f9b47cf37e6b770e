/-
  A meter in memory; contracts of oneMore, Visit, Compare, Within, with a meter and with none.
-/
import Derived.Test.YtlpngoaachdjhaaKeys
namespace Go.Proofs.Ytlpngoaachdjhaa
open Go.RowKit
set_option maxHeartbeats 400000
set_option maxRecDepth 100000
/-- the meter at block g has v visits and c compares -/
def Mtr (w : World) (g : Nat) (v c : Int) : Prop := w.heap[g]? = some (.cells #[.int .i64 v, .int .i64 c] 27 (0, 0))
theorem Mtr.cells {w : World} {g : Nat} {v c : Int} (h : Mtr w g v c) : w.cell? ⟨g, 0, none⟩ = some (.int .i64 v) ∧ w.cell? ⟨g, 1, none⟩ = some (.int .i64 c) ∧ w.frozen? ⟨g, 0, none⟩ = false ∧ w.frozen? ⟨g, 1, none⟩ = false := by
  unfold Mtr at h
  refine ⟨by rw [cell_of_row w g 0 _ 27 (0, 0) h]; rfl, by rw [cell_of_row w g 1 _ 27 (0, 0) h]; rfl, by simp [World.frozen?, h], by simp [World.frozen?, h]⟩
theorem Mtr.lt {w : World} {g : Nat} {v c : Int} (h : Mtr w g v c) : g < w.heap.size := (Array.getElem?_eq_some_iff.1 h).1
theorem Mtr.below {w w' : World} {g : Nat} {v c : Int} (h : Mtr w g v c) (hb : Below w.heap.size w w') : Mtr w' g v c := (hb.block g h.lt).trans h
theorem Mtr.drew {w : World} {g : Nat} {v c : Int} (h : Mtr w g v c) (n : Nat) : Mtr (w.drewN n) g v c := h.below (below_drewN (Below.refl _ _) n)
/-- what a call that counts leaves: all blocks but the meter's -/
structure Only (g : Nat) (w w' : World) : Prop where
  os : w'.os = w.os
  tape : w'.tape = w.tape
  output : w'.output = w.output
  size : w.heap.size ≤ w'.heap.size
  block : ∀ k, k < w.heap.size → k ≠ g → w'.heap[k]? = w.heap[k]?
theorem Only.set (w : World) (g i : Nat) (v : Value) : Only g w (w.setCell ⟨g, i, none⟩ v) :=
  ⟨rfl, rfl, rfl, by simp, fun k _ hk => Below.heap_setCell w ⟨g, i, none⟩ v k hk⟩
theorem Only.below {B g : Nat} {w w' : World} (h : Only g w w') (hB : B ≤ w.heap.size) (hg : B ≤ g) : Below B w w' :=
  ⟨h.os, h.tape, h.output, h.size, fun k hk => h.block k (Nat.lt_of_lt_of_le hk hB) (by omega)⟩
theorem Mtr.visit {w : World} {g : Nat} {v c : Int} (h : Mtr w g v c) (x : Int) : Mtr (w.setCell ⟨g, 0, none⟩ (.int .i64 x)) g x c := by
  unfold Mtr
  rw [heap_setCell_same w g 0 _ 27 _ h]
  rfl
theorem Mtr.compare {w : World} {g : Nat} {v c : Int} (h : Mtr w g v c) (x : Int) : Mtr (w.setCell ⟨g, 1, none⟩ (.int .i64 x)) g v x := by
  unfold Mtr
  rw [heap_setCell_same w g 1 _ 27 _ h]
  rfl
theorem more_any (z : Nat) (w : World) (hz : z ≤ 1000000) : Calls Try.prog 17 #[.int .i64 (z : Int)] w fun e w' => e = .returned (.int .i64 ((z + 1 : Nat) : Int)) ∧ w = w' := by
  go_enter Try.func17, Try.ntmps17
  go_wp2
  go_ret
  exact ⟨ret_int (by omega), rfl⟩
theorem visit_any {w : World} {g : Nat} {v : Nat} {c : Int} (h : Mtr w g v c) (hv : v ≤ 1000000) (x : Nat) (hx : x = v + 1) :
    Calls Try.prog 12 #[.pointer (some ⟨g, 0, none⟩)] w fun e w' => e = .returned (.tuple #[]) ∧ Mtr w' g x c ∧ Only g w w' := by
  obtain ⟨c0, _, f0, _⟩ := h.cells
  have k := more_any v w hv
  rw [← hx] at k
  have K := Lib.hid k; clear k
  have HM := Lib.hid h; clear h
  clear hx
  go_enter Try.func12, Try.ntmps12
  go_wp2_with fail
  refine K.out.mono ?_
  rintro e w' ⟨rfl, rfl⟩
  go_wp2_with fail
  go_end0
  exact ⟨rfl, HM.out.visit _, Only.set _ _ _ _⟩
theorem visit_nil (w : World) : Calls Try.prog 12 #[.pointer none] w fun e w' => e = .returned (.tuple #[]) ∧ w = w' := by
  go_enter Try.func12, Try.ntmps12
  go_wp2_with fail
  go_end0
  exact ⟨rfl, rfl⟩
theorem mcompare_nil {w : World} {A B : Option Addr} {l m : List UInt8} (ha : Bts w A l) (hb : Bts w B m) (c d : Nat) :
    Calls Try.prog 11 #[.pointer none, .slice A l.length c, .slice B m.length d] w fun e w' => e = .returned (.int .i64 (cmp l m)) ∧ w = w' := by
  have H := Lib.hid (compare_any ha hb c d)
  clear ha hb
  go_enter Try.func11, Try.ntmps11
  go_wp2_with fail
  refine H.out.mono ?_
  rintro e w' ⟨rfl, rfl⟩
  go_wp2_with fail
  go_ret
  exact ⟨rfl, rfl⟩
theorem mcompare_any {w : World} {g : Nat} {v : Int} {k : Nat} (h : Mtr w g v k) (hk : k ≤ 1000000) (x : Nat) (hx : x = k + 1) {A B : Option Addr} {l m : List UInt8} (c d : Nat) (ha : ∀ w', Only g w w' → Bts w' A l ∧ Bts w' B m) :
    Calls Try.prog 11 #[.pointer (some ⟨g, 0, none⟩), .slice A l.length c, .slice B m.length d] w fun e w' => e = .returned (.int .i64 (cmp l m)) ∧ Mtr w' g v x ∧ Only g w w' := by
  obtain ⟨_, c1, _, f1⟩ := h.cells
  have q := more_any k w hk
  rw [← hx] at q
  have K := Lib.hid q; clear q
  have HM := Lib.hid (h.compare (x : Int)); clear h
  have HO := Lib.hid (Only.set w g 1 (.int .i64 (x : Int)))
  have H := Lib.hid (compare_any (ha _ HO.out).1 (ha _ HO.out).2 c d); clear ha
  clear hx
  go_enter Try.func11, Try.ntmps11
  go_wp2_with fail
  refine K.out.mono ?_
  rintro e w' ⟨rfl, rfl⟩
  go_wp2_with fail
  refine H.out.mono ?_
  rintro e w' ⟨rfl, rfl⟩
  go_wp2_with fail
  go_ret
  exact ⟨rfl, HM.out, HO.out⟩
/-- within the bound: of a meter -/
def inB (v c : Int) (b : Nat) : Bool := decide (v ≤ (b : Int)) && decide (c ≤ v)
theorem within_any {w : World} {g : Nat} {v c : Int} (h : Mtr w g v c) (z : Int) (b : Nat) (hb : b = bnd z) :
    Calls Try.prog 13 #[.pointer (some ⟨g, 0, none⟩), .int .i64 z] w fun e w' => e = .returned (.bool (inB v c b)) ∧ ∃ n, w' = w.drewN n := by
  have hc : ∀ W, Calls Try.prog 6 #[.int .i64 z] W fun e w' => e = .returned (.int .i64 (b : Nat)) ∧ w' = W := fun W => by
    have q := bound_any z W
    rw [← hb] at q
    exact q.mono fun e w' ⟨h1, h2⟩ => ⟨h1, h2.symm⟩
  have H := Lib.hid hc; clear hc
  clear hb
  have hd := h.drew
  have k0 : ∀ n, (w.drewN n).cell? ⟨g, 0, none⟩ = some (.int .i64 v) := fun n => (hd n).cells.1
  have k1 : ∀ n, (w.drewN n).cell? ⟨g, 1, none⟩ = some (.int .i64 c) := fun n => (hd n).cells.2.1
  obtain ⟨c0, c1, _, _⟩ := h.cells
  clear hd h
  rcases Int.lt_or_le (b : Int) v with h1 | h1
  · have d1 : decide (v ≤ (b : Int)) = false := by rw [decide_eq_false_iff_not]; omega
    unfold inB
    rw [d1, Bool.false_and]
    go_enter Try.func13, Try.ntmps13
    go_wp2_with fail
    go_quiet (first | (go_at_call 6; refine Calls.quiet_of_same (H.out _)))
    go_wp2_with fail
    go_ret
    exact ⟨rfl, _, rfl⟩
  · have d1 : decide (v ≤ (b : Int)) = true := by rw [decide_eq_true_iff]; omega
    rcases Int.lt_or_le v c with h2 | h2
    · have d2 : decide (c ≤ v) = false := by rw [decide_eq_false_iff_not]; omega
      unfold inB
      rw [d1, d2, Bool.true_and]
      go_enter Try.func13, Try.ntmps13
      go_wp2_with fail
      go_quiet (first | (go_at_call 6; refine Calls.quiet_of_same (H.out _)))
      go_wp2_with fail
      go_ret
      exact ⟨rfl, _, rfl⟩
    · have d2 : decide (c ≤ v) = true := by rw [decide_eq_true_iff]; omega
      unfold inB
      rw [d1, d2, Bool.true_and]
      go_enter Try.func13, Try.ntmps13
      go_wp2_with fail
      go_quiet (first | (go_at_call 6; refine Calls.quiet_of_same (H.out _)))
      go_wp2_with fail
      go_ret
      exact ⟨rfl, _, rfl⟩
theorem within_nil (w : World) (z : Int) : Calls Try.prog 13 #[.pointer none, .int .i64 z] w fun e w' => e = .returned (.bool true) ∧ ∃ n, w' = w.drewN n := by
  go_enter Try.func13, Try.ntmps13
  go_wp2_with fail
  go_quiet (fail)
  go_wp2_with fail
  go_ret
  exact ⟨rfl, _, rfl⟩
end Go.Proofs.Ytlpngoaachdjhaa
