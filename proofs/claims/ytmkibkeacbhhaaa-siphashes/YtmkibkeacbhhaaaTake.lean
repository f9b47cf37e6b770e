/-
  Contracts of Take, End.
-/
import Derived.Test.YtmkibkeacbhhaaaRound
namespace Go.Proofs.Ytmkibkeacbhhaaa
open Go.RowKit
set_option maxHeartbeats 400000
theorem take_any (p q r s m : Nat) (w : World) (h : (⟨p, q, r, s⟩ : St).ok) (hm : m < 18446744073709551616) (y : St) (hy : y = St.take ⟨p, q, r, s⟩ m) :
    Calls Try.prog 15 #[.agg #[.int .u64 p, .int .u64 q, .int .u64 r, .int .u64 s], .int .u64 m] w fun e w' => e = .returned (.agg #[.int .u64 (y.p : Int), .int .u64 (y.q : Int), .int .u64 (y.r : Int), .int .u64 (y.s : Int)]) ∧ Below w.heap.size w w' := by
  obtain ⟨hp, hq, hr, hs⟩ := h
  simp only at hp hq hr hs
  obtain ⟨s1, hs1⟩ : ∃ x, x = s ^^^ m := ⟨_, rfl⟩
  obtain ⟨es1, ls1⟩ := name_xor s1 hs1 hs hm
  have hok : St.ok ⟨p, q, r, s1⟩ := ⟨hp, hq, hr, ls1⟩
  obtain ⟨z, hz⟩ : ∃ z, z = St.rounds 2 ⟨p, q, r, s1⟩ := ⟨_, rfl⟩
  have hc := fun W => rounds_any p q r s1 2 W hok (by decide) z hz
  have hzo : z.ok := by rw [hz]; exact St.rounds_ok 2 hok
  have hy2 : y = ⟨z.p ^^^ m, z.q, z.r, z.s⟩ := by rw [hy, hz, hs1]; rfl
  clear hz hy hok
  obtain ⟨a, b, c, d⟩ := z
  obtain ⟨ha, _, _, _⟩ := hzo
  simp only at ha hc hy2
  obtain ⟨a1, ha1⟩ : ∃ x, x = a ^^^ m := ⟨_, rfl⟩
  obtain ⟨ea1, _⟩ := name_xor a1 ha1 ha hm
  rw [← ha1] at hy2
  subst hy2
  simp only
  have HC := Lib.hid hc; clear hc
  clear hs1 ha1 hp hq hr hs
  go_enter Try.func15, Try.ntmps15
  go_wp2_with fail
  refine (HC.out _).mono ?_
  rintro e w1 ⟨rfl, hb⟩
  have HB := Lib.hid hb; clear hb
  have hr0 := row_below (heap_alloc2_old w _ _) HB.out
  have hr1 := row_below (heap_alloc2_new w _ _) HB.out
  obtain ⟨k0, k1, k2, k3, k4⟩ := cells4 hr0
  obtain ⟨m0, m1, m2, m3, m4⟩ := cells4 hr1
  have HR1 := Lib.hid hr1; clear hr1 hr0
  go_wp2_with fail
  refine bodyPost_ret (results_cell_row rfl _ _ (w.heap.size + 1) 31 _ (0, 0) _ rfl (store4 _ _ _ _ _ _ _ _ _ _ _ ((heap_setCell_other _ _ _ _ (by simp)).trans ((other4 _ _ _ _ _ _ _ (by simp)).trans HR1.out))) Try.underlying31 rfl (by kernel_rfl)) rfl ?_
  exact ⟨rfl, below4 ((below4 (below_then (((Below.refl _ _).alloc (Nat.le_refl _) _).alloc (by simp) _) HB.out) (Nat.le_refl _) _ _ _ _).setCell (Nat.le_refl _) _) (by omega) _ _ _ _⟩
/-- the end of a state -/
theorem end_any (p q r s : Nat) (w : World) (h : (⟨p, q, r, s⟩ : St).ok) (y : Nat) (hy : y = St.fin ⟨p, q, r, s⟩) :
    Calls Try.prog 17 #[.agg #[.int .u64 p, .int .u64 q, .int .u64 r, .int .u64 s]] w fun e w' => e = .returned (.int .u64 (y : Int)) ∧ Below w.heap.size w w' := by
  obtain ⟨hp, hq, hr, hs⟩ := h
  simp only at hp hq hr hs
  obtain ⟨r1, hr1⟩ : ∃ x, x = r ^^^ 255 := ⟨_, rfl⟩
  obtain ⟨er1, lr1⟩ := name_xor r1 hr1 hr (by decide)
  have hok : St.ok ⟨p, q, r1, s⟩ := ⟨hp, hq, lr1, hs⟩
  obtain ⟨z, hz⟩ : ∃ z, z = St.rounds 4 ⟨p, q, r1, s⟩ := ⟨_, rfl⟩
  have hc := fun W => rounds_any p q r1 s 4 W hok (by decide) z hz
  have hzo : z.ok := by rw [hz]; exact St.rounds_ok 4 hok
  have hy2 : y = z.p ^^^ z.q ^^^ z.r ^^^ z.s := by rw [hy, hz, hr1]; rfl
  clear hz hy hok
  obtain ⟨a, b, c, d⟩ := z
  obtain ⟨ha, hb, hc', hd⟩ := hzo
  simp only at ha hb hc' hd hc hy2
  obtain ⟨a1, ha1⟩ : ∃ x, x = a ^^^ b := ⟨_, rfl⟩
  obtain ⟨ea1, la1⟩ := name_xor a1 ha1 ha hb
  rw [← ha1] at hy2
  obtain ⟨a2, ha2⟩ : ∃ x, x = a1 ^^^ c := ⟨_, rfl⟩
  obtain ⟨ea2, la2⟩ := name_xor a2 ha2 la1 hc'
  rw [← ha2] at hy2
  obtain ⟨ea3, _⟩ := name_xor y hy2 la2 hd
  have HC := Lib.hid hc; clear hc
  clear hr1 ha1 ha2 hp hq hr hs hy2
  have er2 : bits .xor .u64 (r : Int) 255 = (r1 : Int) := er1
  clear er1
  go_enter Try.func17, Try.ntmps17
  go_wp2_with fail
  refine (HC.out _).mono ?_
  rintro e w1 ⟨rfl, hb⟩
  have HB := Lib.hid hb; clear hb
  have hr0 := row_below (heap_alloc_new w _) HB.out
  obtain ⟨k0, k1, k2, k3, k4⟩ := cells4 hr0
  clear hr0
  go_wp2_with fail
  go_ret
  exact ⟨rfl, below4 (below_then ((Below.refl _ _).alloc (Nat.le_refl _) _) HB.out) (Nat.le_refl _) _ _ _ _⟩
end Go.Proofs.Ytmkibkeacbhhaaa
