/-
  Contract of Round.
-/
import Derived.Test.YtmkibkeacbhhaaaTurn
namespace Go.Proofs.Ytmkibkeacbhhaaa
open Go.RowKit
set_option maxHeartbeats 400000
theorem row_below {w w' : World} {g : Nat} {o : Obj} (h : w.heap[g]? = some o) (hb : Below w.heap.size w w') : w'.heap[g]? = some o := by
  rw [hb.block g (Array.getElem?_eq_some_iff.1 h).1]; exact h
/-- a block of four cells, written over -/
theorem store4 (W : World) (g : Nat) (t : TypeId) (c0 c1 c2 c3 a b c d : Value) (h : W.heap[g]? = some (.cells #[c0, c1, c2, c3] t (0, 0))) :
    ((((W.setCell ⟨g, 0, none⟩ a).setCell ⟨g, 1, none⟩ b).setCell ⟨g, 2, none⟩ c).setCell ⟨g, 3, none⟩ d).heap[g]? = some (.cells #[a, b, c, d] t (0, 0)) :=
  heap_setCell_same _ g 3 _ t d (heap_setCell_same _ g 2 _ t c (heap_setCell_same _ g 1 _ t b (heap_setCell_same W g 0 _ t a h)))
theorem other4 (W : World) (g k : Nat) (a b c d : Value) (hk : k ≠ g) : ((((W.setCell ⟨g, 0, none⟩ a).setCell ⟨g, 1, none⟩ b).setCell ⟨g, 2, none⟩ c).setCell ⟨g, 3, none⟩ d).heap[k]? = W.heap[k]? := by
  rw [heap_setCell_other _ _ k _ hk, heap_setCell_other _ _ k _ hk, heap_setCell_other _ _ k _ hk, heap_setCell_other _ _ k _ hk]
theorem below4 {B : Nat} {w W : World} (h : Below B w W) {g : Nat} (hg : B ≤ g) (a b c d : Value) : Below B w ((((W.setCell ⟨g, 0, none⟩ a).setCell ⟨g, 1, none⟩ b).setCell ⟨g, 2, none⟩ c).setCell ⟨g, 3, none⟩ d) :=
  (((h.setCell hg _).setCell hg _).setCell hg _).setCell hg _
theorem cells4 {W : World} {g : Nat} {t : TypeId} {a b c d : Value} (h : W.heap[g]? = some (.cells #[a, b, c, d] t (0, 0))) :
    W.cell? ⟨g, 0, none⟩ = some a ∧ W.cell? ⟨g, 1, none⟩ = some b ∧ W.cell? ⟨g, 2, none⟩ = some c ∧ W.cell? ⟨g, 3, none⟩ = some d ∧ ∀ i, W.frozen? ⟨g, i, none⟩ = false :=
  ⟨cell_of_row W g 0 _ t _ h, cell_of_row W g 1 _ t _ h, cell_of_row W g 2 _ t _ h, cell_of_row W g 3 _ t _ h, fun i => frozen_of_row W g i _ t h⟩
theorem name_add {a b : Nat} (x : Nat) (h : x = addN a b) : IntKind.u64.wrap ((a : Int) + (b : Int)) = (x : Int) ∧ x < 18446744073709551616 := by
  rw [h]; exact ⟨wrap_add a b, addN_lt a b⟩
theorem name_xor {a b : Nat} (x : Nat) (h : x = a ^^^ b) (ha : a < 18446744073709551616) (hb : b < 18446744073709551616) : bits .xor .u64 (a : Int) (b : Int) = (x : Int) ∧ x < 18446744073709551616 := by
  rw [h]; exact ⟨bits_xor a b ha hb, xor_lt a b ha hb⟩
theorem name_turn {a : Nat} (x k : Nat) (h : x = turnN a k) (ha : a < 18446744073709551616) (hk : k < 64) :
    (∀ W, Calls Try.prog 22 #[.int .u64 a, .int .i64 k] W fun e w' => e = .returned (.int .u64 (x : Int)) ∧ ∃ n, w' = W.drewN n) ∧ x < 18446744073709551616 := by
  rw [h]; exact ⟨fun W => turn_any a k W ha hk, turnN_lt a k ha⟩
theorem round_any (p q r s : Nat) (w : World) (h : (⟨p, q, r, s⟩ : St).ok) (y : St) (hy : y = St.round ⟨p, q, r, s⟩) :
    Calls Try.prog 11 #[.agg #[.int .u64 p, .int .u64 q, .int .u64 r, .int .u64 s]] w fun e w' => e = .returned (.agg #[.int .u64 (y.p : Int), .int .u64 (y.q : Int), .int .u64 (y.r : Int), .int .u64 (y.s : Int)]) ∧ Below w.heap.size w w' := by
  obtain ⟨hp, hq, hr, hs⟩ := h
  simp only at hp hq hr hs
  obtain ⟨p1, hp1⟩ : ∃ x, x = addN p q := ⟨_, rfl⟩
  obtain ⟨ep1, lp1⟩ := name_add p1 hp1
  obtain ⟨a1, ha1⟩ : ∃ x, x = turnN q 13 := ⟨_, rfl⟩
  obtain ⟨ea1, la1⟩ := name_turn a1 13 ha1 hq (by decide)
  obtain ⟨q1, hq1⟩ : ∃ x, x = a1 ^^^ p1 := ⟨_, rfl⟩
  obtain ⟨eq1, lq1⟩ := name_xor q1 hq1 la1 lp1
  obtain ⟨p2, hp2⟩ : ∃ x, x = turnN p1 32 := ⟨_, rfl⟩
  obtain ⟨ep2, lp2⟩ := name_turn p2 32 hp2 lp1 (by decide)
  obtain ⟨r1, hr1⟩ : ∃ x, x = addN r s := ⟨_, rfl⟩
  obtain ⟨er1, lr1⟩ := name_add r1 hr1
  obtain ⟨b1, hb1⟩ : ∃ x, x = turnN s 16 := ⟨_, rfl⟩
  obtain ⟨eb1, lb1⟩ := name_turn b1 16 hb1 hs (by decide)
  obtain ⟨s1, hs1⟩ : ∃ x, x = b1 ^^^ r1 := ⟨_, rfl⟩
  obtain ⟨es1, ls1⟩ := name_xor s1 hs1 lb1 lr1
  obtain ⟨p3, hp3⟩ : ∃ x, x = addN p2 s1 := ⟨_, rfl⟩
  obtain ⟨ep3, lp3⟩ := name_add p3 hp3
  obtain ⟨b2, hb2⟩ : ∃ x, x = turnN s1 21 := ⟨_, rfl⟩
  obtain ⟨eb2, lb2⟩ := name_turn b2 21 hb2 ls1 (by decide)
  obtain ⟨s2, hs2⟩ : ∃ x, x = b2 ^^^ p3 := ⟨_, rfl⟩
  obtain ⟨es2, ls2⟩ := name_xor s2 hs2 lb2 lp3
  obtain ⟨r2, hr2⟩ : ∃ x, x = addN r1 q1 := ⟨_, rfl⟩
  obtain ⟨er2, lr2⟩ := name_add r2 hr2
  obtain ⟨a2, ha2⟩ : ∃ x, x = turnN q1 17 := ⟨_, rfl⟩
  obtain ⟨ea2, la2⟩ := name_turn a2 17 ha2 lq1 (by decide)
  obtain ⟨q2, hq2⟩ : ∃ x, x = a2 ^^^ r2 := ⟨_, rfl⟩
  obtain ⟨eq2, lq2⟩ := name_xor q2 hq2 la2 lr2
  obtain ⟨r3, hr3⟩ : ∃ x, x = turnN r2 32 := ⟨_, rfl⟩
  obtain ⟨er3, lr3⟩ := name_turn r3 32 hr3 lr2 (by decide)
  have hy2 : y = ⟨p3, q2, r3, s2⟩ := by subst hp3 hq2 hr3 hs2 ha2 hr2 hb2 hs1 hb1 hr1 hp2 hq1 ha1 hp1; exact hy
  clear hp3 hq2 hr3 hs2 ha2 hr2 hb2 hs1 hb1 hr1 hp2 hq1 ha1 hp1 hy
  subst hy2
  simp only
  have EA1 := Lib.hid ea1; clear ea1
  have EP2 := Lib.hid ep2; clear ep2
  have EB1 := Lib.hid eb1; clear eb1
  have EB2 := Lib.hid eb2; clear eb2
  have EA2 := Lib.hid ea2; clear ea2
  have ER3 := Lib.hid er3; clear er3
  clear hp hq hr hs lp1 la1 lq1 lp2 lr1 lb1 ls1 lp3 lb2 ls2 lr2 la2 lq2 lr3
  go_enter Try.func11, Try.ntmps11
  go_wp2_with fail
  go_quiet (fail)
  go_wp2_with fail
  refine (EA1.out _).mono ?_
  rintro e w' ⟨rfl, n1, rfl⟩
  go_wp2_with fail
  refine (EP2.out _).mono ?_
  rintro e w' ⟨rfl, n2, rfl⟩
  go_wp2_with fail
  refine (EB1.out _).mono ?_
  rintro e w' ⟨rfl, n3, rfl⟩
  go_wp2_with fail
  refine (EB2.out _).mono ?_
  rintro e w' ⟨rfl, n4, rfl⟩
  go_wp2_with fail
  refine (EA2.out _).mono ?_
  rintro e w' ⟨rfl, n5, rfl⟩
  go_wp2_with fail
  refine (ER3.out _).mono ?_
  rintro e w' ⟨rfl, n6, rfl⟩
  go_wp2_with fail
  refine bodyPost_ret (results_cell_row rfl _ _ (w.heap.size + 1) 31 _ (0, 0) _ rfl (store4 _ _ _ _ _ _ _ _ _ _ _ (heap_alloc2_new w _ _)) Try.underlying31 rfl (by kernel_rfl)) rfl ?_
  exact ⟨rfl, below4 (below_drewN (((Below.refl _ _).alloc (Nat.le_refl _) _).alloc (by simp) _) _) (by omega) _ _ _ _⟩
/-- so many rounds -/
theorem rounds_any (p q r s n : Nat) (w : World) (h : (⟨p, q, r, s⟩ : St).ok) (hn : n ≤ 100) (y : St) (hy : y = St.rounds n ⟨p, q, r, s⟩) :
    Calls Try.prog 27 #[.agg #[.int .u64 p, .int .u64 q, .int .u64 r, .int .u64 s], .int .i64 n] w fun e w' => e = .returned (.agg #[.int .u64 (y.p : Int), .int .u64 (y.q : Int), .int .u64 (y.r : Int), .int .u64 (y.s : Int)]) ∧ Below w.heap.size w w' := by
  go_enter Try.func27, Try.ntmps27
  go_wp2_with fail
  go_loopw [6] (fun i wr => ∃ (j a b c d : Nat), j ≤ n ∧ i = .int .i64 j ∧ Hid (St.mk a b c d = St.rounds j ⟨p, q, r, s⟩) ∧ Hid (Below w.heap.size w wr) ∧
    Hid (wr.heap[w.heap.size]? = some (.cells #[.int .u64 a, .int .u64 b, .int .u64 c, .int .u64 d] 31 (0, 0))) ∧
    Hid (wr.heap[w.heap.size + 1]? = some (.cells #[.int .u64 0, .int .u64 0, .int .u64 0, .int .u64 0] 31 (0, 0)))) (fun i _ => n - (intOf i).toNat)
  case atStart => exact ⟨0, p, q, r, s, by omega, rfl, (St.rounds_zero _).symm, ((Below.refl _ _).alloc (Nat.le_refl _) _).alloc (by simp) _, heap_alloc2_old w _ _, heap_alloc2_new w _ _⟩
  case round =>
    obtain ⟨j, a, b, c, d, hj, rfl, hx, hb, hr0, hr1⟩ := hrel
    by_cases hlt : j < n
    · obtain ⟨z, hz⟩ : ∃ z, z = St.round ⟨a, b, c, d⟩ := ⟨_, rfl⟩
      have hok : St.ok ⟨a, b, c, d⟩ := by rw [hx.out]; exact St.rounds_ok j h
      have hc := round_any a b c d wr hok z hz
      have hz2 : z = St.rounds (j + 1) ⟨p, q, r, s⟩ := by rw [St.rounds_succ, ← hx.out, hz]
      obtain ⟨a2, b2, c2, d2⟩ := z
      simp only at hc
      have HC := Lib.hid hc; clear hc
      have HZ := Lib.hid hz2; clear hz2 hz hok
      obtain ⟨k0, k1, k2, k3, k4⟩ := cells4 hr0.out
      go_wp2_with fail
      refine HC.out.mono ?_
      rintro e w1 ⟨rfl, hb1⟩
      clear k0 k1 k2 k3 k4
      have HB1 := Lib.hid hb1; clear hb1
      obtain ⟨k0, k1, k2, k3, k4⟩ := cells4 (row_below hr0.out HB1.out)
      go_wp2_with fail
      go_roundw
      case rel =>
        refine ⟨j + 1, a2, b2, c2, d2, by omega, by go_num, HZ.out, below4 (below_then hb.out HB1.out) (Nat.le_refl _) _ _ _ _, store4 _ _ _ _ _ _ _ _ _ _ _ (row_below hr0.out HB1.out), ?_⟩
        show _ = _
        rw [other4 _ _ _ _ _ _ _ (by omega)]
        exact row_below hr1.out HB1.out
      case measure => simp [intOf]; omega
    · have hjn : j = n := by omega
      subst hjn
      have hyy : y = ⟨a, b, c, d⟩ := by rw [hy, hx.out]
      clear hy
      subst hyy
      obtain ⟨k0, k1, k2, k3, k4⟩ := cells4 hr0.out
      obtain ⟨m0, m1, m2, m3, m4⟩ := cells4 hr1.out
      go_wp2_with fail
      refine bodyPost_ret (results_cell_row rfl _ _ (w.heap.size + 1) 31 _ (0, 0) _ rfl (store4 _ _ _ _ _ _ _ _ _ _ _ hr1.out) Try.underlying31 rfl (by kernel_rfl)) rfl ?_
      exact ⟨rfl, below4 hb.out (by omega) _ _ _ _⟩
end Go.Proofs.Ytmkibkeacbhhaaa
