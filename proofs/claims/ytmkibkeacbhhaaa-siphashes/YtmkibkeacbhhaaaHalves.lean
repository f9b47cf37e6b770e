/-
  Contracts of the reference's numbers of two halves: Of, Whole, plus, xor, turn, swap.
-/
import Derived.Test.YtmkibkeacbhhaaaRound
namespace Go.Proofs.Ytmkibkeacbhhaaa
open Go.RowKit
set_option maxHeartbeats 400000
/-- the halves of a number -/
def hi (x : Nat) : Nat := x / 4294967296
def lo (x : Nat) : Nat := x % 4294967296
theorem hi_lt {x : Nat} (h : x < 18446744073709551616) : hi x < 4294967296 := by unfold hi; omega
theorem lo_lt (x : Nat) : lo x < 4294967296 := by unfold lo; omega
theorem store2 (W : World) (g : Nat) (t : TypeId) (c0 c1 a b : Value) (h : W.heap[g]? = some (.cells #[c0, c1] t (0, 0))) :
    ((W.setCell ⟨g, 0, none⟩ a).setCell ⟨g, 1, none⟩ b).heap[g]? = some (.cells #[a, b] t (0, 0)) :=
  heap_setCell_same _ g 1 _ t b (heap_setCell_same W g 0 _ t a h)
theorem heap_alloc3_new (w : World) (A B C : Obj) : (((w.alloc A).alloc B).alloc C).heap[w.heap.size + 2]? = some C := by
  have h := heap_alloc_new ((w.alloc A).alloc B) C
  have e : ((w.alloc A).alloc B).heap.size = w.heap.size + 2 := by simp
  rwa [e] at h
theorem of_any (x : Nat) (w : World) (hx : x < 18446744073709551616) :
    Calls Try.prog 23 #[.int .u64 x] w fun e w' => e = .returned (.agg #[.int .u64 (hi x : Nat), .int .u64 (lo x : Nat)]) ∧ Below w.heap.size w w' := by
  have e1 : (x : Int) / 4294967296 = (hi x : Int) := by unfold hi; omega
  have e2 : (x : Int) % 4294967296 = (lo x : Int) := by unfold lo; omega
  have e3 : (x : Int).tdiv 4294967296 = (hi x : Int) := by rw [Int.tdiv_eq_ediv_of_nonneg (by omega)]; exact e1
  have e4 : (x : Int).tmod 4294967296 = (lo x : Int) := by rw [Int.tmod_eq_emod_of_nonneg (by omega)]; exact e2
  go_enter Try.func23, Try.ntmps23
  go_wp2_with fail
  refine bodyPost_ret (results_cell_row rfl _ _ w.heap.size 51 _ (0, 0) _ rfl (heap_alloc_new w _) Try.underlying51 rfl (by kernel_rfl)) rfl ?_
  exact ⟨rfl, (Below.refl _ _).alloc (Nat.le_refl _) _⟩
theorem whole_any (x : Nat) (w : World) (hx : x < 18446744073709551616) :
    Calls Try.prog 25 #[.agg #[.int .u64 (hi x : Nat), .int .u64 (lo x : Nat)]] w fun e w' => e = .returned (.int .u64 x) ∧ Below w.heap.size w w' := by
  obtain ⟨a, ha⟩ : ∃ a, a = hi x := ⟨_, rfl⟩
  obtain ⟨b, hb⟩ : ∃ a, a = lo x := ⟨_, rfl⟩
  have e1 : a * 4294967296 + b = x := by rw [ha, hb]; unfold hi lo; omega
  rw [← ha, ← hb]
  clear ha hb
  go_enter Try.func25, Try.ntmps25
  go_wp2_with fail
  go_ret
  exact ⟨ret_int (by omega), (Below.refl _ _).alloc (Nat.le_refl _) _⟩
theorem plus_any (a b : Nat) (w : World) (ha : a < 18446744073709551616) (hb : b < 18446744073709551616) :
    Calls Try.prog 28 #[.agg #[.int .u64 (hi a : Nat), .int .u64 (lo a : Nat)], .agg #[.int .u64 (hi b : Nat), .int .u64 (lo b : Nat)]] w fun e w' => e = .returned (.agg #[.int .u64 (hi (addN a b) : Nat), .int .u64 (lo (addN a b) : Nat)]) ∧ Below w.heap.size w w' := by
  have h1 := plus_hi a b
  have h2 := plus_lo a b
  have a1l := hi_lt ha
  have a0l := lo_lt a
  have b1l := hi_lt hb
  have b0l := lo_lt b
  change (hi a + hi b + (lo a + lo b) / 4294967296) % 4294967296 = hi (addN a b) at h1
  change (lo a + lo b) % 4294967296 = lo (addN a b) at h2
  generalize hi (addN a b) = c1 at *
  generalize lo (addN a b) = c0 at *
  generalize hi a = a1 at *
  generalize hi b = b1 at *
  generalize lo a = a0 at *
  generalize lo b = b0 at *
  clear ha hb
  have e1 : ((a1 : Int) + b1 + ((a0 : Int) + b0) / 4294967296) % 4294967296 = (c1 : Int) := by omega
  have e2 : ((a0 : Int) + b0) % 4294967296 = (c0 : Int) := by omega
  clear h1 h2
  go_enter Try.func28, Try.ntmps28
  go_wp2_with fail
  refine bodyPost_ret (results_cell_row rfl _ _ (w.heap.size + 2) 51 _ (0, 0) _ rfl (heap_alloc3_new w _ _ _) Try.underlying51 rfl (by kernel_rfl)) rfl ?_
  exact ⟨rfl, (((Below.refl _ _).alloc (Nat.le_refl _) _).alloc (by simp) _).alloc (by simp; omega) _⟩
theorem xor_any (a b : Nat) (w : World) (ha : a < 18446744073709551616) (hb : b < 18446744073709551616) :
    Calls Try.prog 29 #[.agg #[.int .u64 (hi a : Nat), .int .u64 (lo a : Nat)], .agg #[.int .u64 (hi b : Nat), .int .u64 (lo b : Nat)]] w fun e w' => e = .returned (.agg #[.int .u64 (hi (a ^^^ b) : Nat), .int .u64 (lo (a ^^^ b) : Nat)]) ∧ Below w.heap.size w w' := by
  have h1 := xor_hi a b
  have h2 := xor_lo a b
  have a1l := hi_lt ha
  have a0l := lo_lt a
  have b1l := hi_lt hb
  have b0l := lo_lt b
  change hi a ^^^ hi b = hi (a ^^^ b) at h1
  change lo a ^^^ lo b = lo (a ^^^ b) at h2
  have e1 := (name_xor _ h1.symm (by omega) (by omega)).1
  have e2 := (name_xor _ h2.symm (by omega) (by omega)).1
  clear h1 h2
  generalize hi (a ^^^ b) = c1 at *
  generalize lo (a ^^^ b) = c0 at *
  generalize hi a = a1 at *
  generalize hi b = b1 at *
  generalize lo a = a0 at *
  generalize lo b = b0 at *
  clear ha hb
  go_enter Try.func29, Try.ntmps29
  go_wp2_with fail
  refine bodyPost_ret (results_cell_row rfl _ _ (w.heap.size + 2) 51 _ (0, 0) _ rfl (heap_alloc3_new w _ _ _) Try.underlying51 rfl (by kernel_rfl)) rfl ?_
  exact ⟨rfl, (((Below.refl _ _).alloc (Nat.le_refl _) _).alloc (by simp) _).alloc (by simp; omega) _⟩
theorem swap_any (a : Nat) (w : World) (ha : a < 18446744073709551616) :
    Calls Try.prog 31 #[.agg #[.int .u64 (hi a : Nat), .int .u64 (lo a : Nat)]] w fun e w' => e = .returned (.agg #[.int .u64 (hi (turnN a 32) : Nat), .int .u64 (lo (turnN a 32) : Nat)]) ∧ Below w.heap.size w w' := by
  have h1 := swap_hi a ha
  have h2 := swap_lo a ha
  change hi (turnN a 32) = lo a at h1
  change lo (turnN a 32) = hi a at h2
  rw [h1, h2]
  clear h1 h2 ha
  generalize hi a = a1 at *
  generalize lo a = a0 at *
  go_enter Try.func31, Try.ntmps31
  go_wp2_with fail
  refine bodyPost_ret (results_cell_row rfl _ _ (w.heap.size + 1) 51 _ (0, 0) _ rfl (heap_alloc2_new w _ _) Try.underlying51 rfl (by kernel_rfl)) rfl ?_
  exact ⟨rfl, ((Below.refl _ _).alloc (Nat.le_refl _) _).alloc (by simp) _⟩
theorem pow_lt (k : Nat) (h : k ≤ 31) : 2 ^ k ≤ 2147483648 := Nat.pow_le_pow_right (n := 2) (by decide) h
theorem refTurn_any (a k : Nat) (w : World) (ha : a < 18446744073709551616) (hk : k = 13 ∨ k = 16 ∨ k = 17 ∨ k = 21) :
    Calls Try.prog 30 #[.agg #[.int .u64 (hi a : Nat), .int .u64 (lo a : Nat)], .int .u64 k] w fun e w' => e = .returned (.agg #[.int .u64 (hi (turnN a k) : Nat), .int .u64 (lo (turnN a k) : Nat)]) ∧ Below w.heap.size w w' := by
  obtain ⟨h1, h2⟩ := turn_half a k ha hk
  have hk31 : k ≤ 31 := by omega
  have a1l := hi_lt ha
  have a0l := lo_lt a
  change hi a * 2 ^ k % 4294967296 + lo a * 2 ^ k / 4294967296 = hi (turnN a k) at h1
  change lo a * 2 ^ k % 4294967296 + hi a * 2 ^ k / 4294967296 = lo (turnN a k) at h2
  generalize hi (turnN a k) = c1 at *
  generalize lo (turnN a k) = c0 at *
  generalize hi a = a1 at *
  generalize lo a = a0 at *
  clear ha hk
  have H1 := Lib.hid h1; clear h1
  have H2 := Lib.hid h2; clear h2
  go_enter Try.func30, Try.ntmps30
  go_wp2_with fail
  go_loop [5, 6] (fun p i => ∃ j x : Nat, j ≤ k ∧ i = .int .u64 j ∧ p = .int .u64 (x : Int) ∧ Hid (x = 2 ^ j)) (fun _ i => k - (intOf i).toNat)
  case atStart => exact ⟨0, 1, by omega, rfl, rfl, rfl⟩
  case round =>
    obtain ⟨j, x, hj, rfl, rfl, hx⟩ := hrel
    have hxl : x ≤ 2147483648 := by rw [hx.out]; exact pow_lt j (by omega)
    by_cases hlt : j < k
    · go_wp2_with fail
      go_round
      case rel =>
        refine ⟨j + 1, x * 2, by omega, by go_num, by go_num, ?_⟩
        show _ = _
        rw [hx.out, Nat.pow_succ]
      case measure => simp [intOf]; omega
    · have hjk : j = k := by omega
      subst hjk
      rw [← hx.out] at H1 H2
      have h1 := H1.out
      have h2 := H2.out
      clear H1 H2
      obtain ⟨u, hu⟩ : ∃ u, u = a1 * x := ⟨_, rfl⟩
      obtain ⟨v, hv⟩ : ∃ u, u = a0 * x := ⟨_, rfl⟩
      rw [← hu, ← hv] at h1 h2
      have hu2 : u ≤ 4294967295 * 2147483648 := by rw [hu]; exact Nat.mul_le_mul (by omega) hxl
      have hv2 : v ≤ 4294967295 * 2147483648 := by rw [hv]; exact Nat.mul_le_mul (by omega) hxl
      have eu : IntKind.u64.wrap ((a1 : Int) * (x : Int)) = (u : Int) := by
        have e : (a1 : Int) * (x : Int) = (u : Int) := by rw [hu]; simp
        rw [e, IntKind.wrap_u64]; omega
      have ev : IntKind.u64.wrap ((a0 : Int) * (x : Int)) = (v : Int) := by
        have e : (a0 : Int) * (x : Int) = (v : Int) := by rw [hv]; simp
        rw [e, IntKind.wrap_u64]; omega
      have f1 : (u : Int) % 4294967296 + (v : Int) / 4294967296 = (c1 : Int) := by omega
      have f2 : (v : Int) % 4294967296 + (u : Int) / 4294967296 = (c0 : Int) := by omega
      clear h1 h2 hu hv
      go_wp2_with fail
      go_quiet (fail)
      go_wp2_with fail
      refine bodyPost_ret (results_cell_row rfl _ _ (w.heap.size + 1) 51 _ (0, 0) _ rfl (store2 _ _ _ _ _ _ _ (heap_alloc2_new w _ _)) Try.underlying51 rfl (by kernel_rfl)) rfl ?_
      exact ⟨rfl, ((below_drewN (((Below.refl _ _).alloc (Nat.le_refl _) _).alloc (by simp) _) _).setCell (Nat.le_succ _) _).setCell (Nat.le_succ _) _⟩
end Go.Proofs.Ytmkibkeacbhhaaa
