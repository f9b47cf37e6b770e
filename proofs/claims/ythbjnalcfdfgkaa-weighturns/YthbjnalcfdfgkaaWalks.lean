/-
  Contracts of held, heldSize, areEven, Even, Single, leastBeside, Beside, oneHigher, Least, Height, of the document's Held, Even, Beside, Least, and of awake.
-/
import Derived.Test.YthbjnalcfdfgkaaRows
import Derived.Test.YthbjnalcfdfgkaaMath
import Derived.WalkKit
import Derived.WalkLawsBesides
import Derived.Outline
import Derived.IntWalk
import Derived.Lib.Hide
import Derived.Deep.QuietTactic
import Derived.BigQuiet
import Derived.WalkSmall
namespace Go.Proofs.Ythbjnalcfdfgkaa
open Go.RowKit
set_option maxHeartbeats 400000
theorem ret_int {k : IntKind} {a b : Int} (h : a = b) : Ending.returned (.int k a) = .returned (.int k b) := by rw [h]
theorem ret_bool {a b : Bool} (h : a = b) : Ending.returned (.bool a) = .returned (.bool b) := by rw [h]
theorem held_any (n m : Int) (w : World) (h : 0 ≤ m) :
    Calls Try.prog 20 #[.int .i64 n, .int .i64 m] w fun e w' => e = .returned (.int .i64 (max 0 (min n m))) ∧ w = w' := by
  go_enter Try.func20, Try.ntmps20
  go_wp2
  all_goals go_ret
  all_goals exact ⟨ret_int (by omega), rfl⟩
theorem heldSize_any (z : Int) (w : World) :
    Calls Try.prog 18 #[.int .i64 z] w fun e w' => e = .returned (.int .i64 (hd z : Nat)) ∧ w = w' := by
  have h := held_any z 1048576 w (by decide)
  have e1 : max 0 (min z 1048576) = (hd z : Int) := by unfold hd; omega
  rw [e1] at h
  have H := Lib.hid h; clear h e1
  go_enter Try.func18, Try.ntmps18
  go_wp2_with fail
  refine H.out.mono ?_
  rintro e w' ⟨rfl, rfl⟩
  go_wp2_with fail
  go_ret
  exact ⟨rfl, rfl⟩
theorem refHeld_any (z : Int) (w : World) :
    Calls Try.prog 8 #[.int .i64 z] w fun e w' => e = .returned (.int .i64 (hd z : Nat)) ∧ w = w' := by
  rcases Int.lt_or_le z 0 with h1 | h1
  · go_enter Try.func8, Try.ntmps8
    go_wp2
    go_ret
    exact ⟨ret_int (by unfold hd; omega), rfl⟩
  · rcases Int.lt_or_le 1048576 z with h2 | h2
    · go_enter Try.func8, Try.ntmps8
      go_wp2
      go_ret
      exact ⟨ret_int (by unfold hd; omega), rfl⟩
    · go_enter Try.func8, Try.ntmps8
      go_wp2
      go_ret
      exact ⟨ret_int (by unfold hd; omega), rfl⟩
theorem areEven_any (a b : Nat) (w : World) (ha : a ≤ 4194304) (hb : b ≤ 4194304) :
    Calls Try.prog 17 #[.int .i64 a, .int .i64 b] w fun e w' => e = .returned (.bool (ev a b)) ∧ w = w' := by
  go_enter Try.func17, Try.ntmps17
  go_wp2
  all_goals go_ret
  all_goals exact ⟨ret_bool (by unfold ev; rw [Bool.eq_iff_iff]; simp; omega), rfl⟩
theorem refEven_any (a b : Nat) (w : World) (ha : a ≤ 4194304) (hb : b ≤ 4194304) :
    Calls Try.prog 10 #[.int .i64 a, .int .i64 b] w fun e w' => e = .returned (.bool (ev a b)) ∧ w = w' := by
  go_enter Try.func10, Try.ntmps10
  go_wp2
  all_goals go_ret
  all_goals exact ⟨ret_bool (by unfold ev; rw [Bool.eq_iff_iff]; simp; omega), rfl⟩
theorem even_any (x y : Int) (w : World) :
    Calls Try.prog 9 #[.int .i64 x, .int .i64 y] w fun e w' => e = .returned (.bool (ev (hd x) (hd y))) ∧ w = w' := by
  have h1 := heldSize_any x w
  have h2 := heldSize_any y w
  have b1 := hd_le x
  have b2 := hd_le y
  obtain ⟨a, ha⟩ : ∃ a, a = hd x := ⟨_, rfl⟩
  obtain ⟨b, hb⟩ : ∃ b, b = hd y := ⟨_, rfl⟩
  simp only [← ha, ← hb] at h1 h2 b1 b2 ⊢
  have h3 := areEven_any a b w (by omega) (by omega)
  obtain ⟨t, ht⟩ : ∃ t, t = ev a b := ⟨_, rfl⟩
  rw [← ht] at h3 ⊢
  have H1 := Lib.hid h1; clear h1
  have H2 := Lib.hid h2; clear h2
  have H3 := Lib.hid h3; clear h3
  clear ht ha hb
  go_enter Try.func9, Try.ntmps9
  go_wp2_with fail
  refine H1.out.mono ?_
  rintro e w' ⟨rfl, rfl⟩
  go_wp2_with fail
  refine H2.out.mono ?_
  rintro e w' ⟨rfl, rfl⟩
  go_wp2_with fail
  refine H3.out.mono ?_
  rintro e w' ⟨rfl, rfl⟩
  go_wp2_with fail
  go_ret
  exact ⟨rfl, rfl⟩
theorem single_any (x y z : Int) (w : World) :
    Calls Try.prog 11 #[.int .i64 x, .int .i64 y, .int .i64 z] w fun e w' => e = .returned (.bool (ev (hd x) (hd y) && ev (hd x + hd y + 1) (hd z))) ∧ w = w' := by
  have h1 := heldSize_any x w
  have h2 := heldSize_any y w
  have h3 := heldSize_any z w
  have b1 := hd_le x
  have b2 := hd_le y
  have b3 := hd_le z
  obtain ⟨a, ha⟩ : ∃ a, a = hd x := ⟨_, rfl⟩
  obtain ⟨b, hb⟩ : ∃ b, b = hd y := ⟨_, rfl⟩
  obtain ⟨c, hc⟩ : ∃ c, c = hd z := ⟨_, rfl⟩
  simp only [← ha, ← hb, ← hc] at h1 h2 h3 b1 b2 b3 ⊢
  have h4 := areEven_any a b w (by omega) (by omega)
  have h5 := areEven_any (a + b + 1) c w (by omega) (by omega)
  rw [show ((a + b + 1 : Nat) : Int) = (a : Int) + b + 1 by omega] at h5
  obtain ⟨t, ht⟩ : ∃ t, t = ev a b := ⟨_, rfl⟩
  obtain ⟨u, hu⟩ : ∃ u, u = ev (a + b + 1) c := ⟨_, rfl⟩
  simp only [← ht, ← hu] at h4 h5 ⊢
  have H1 := Lib.hid h1; clear h1
  have H2 := Lib.hid h2; clear h2
  have H3 := Lib.hid h3; clear h3
  have H4 := Lib.hid h4; clear h4
  have H5 := Lib.hid h5; clear h5
  clear ht hu ha hb hc
  cases t with
  | false =>
    go_enter Try.func11, Try.ntmps11
    go_wp2_with fail
    refine H1.out.mono ?_
    rintro e w' ⟨rfl, rfl⟩
    go_wp2_with fail
    refine H2.out.mono ?_
    rintro e w' ⟨rfl, rfl⟩
    go_wp2_with fail
    refine H3.out.mono ?_
    rintro e w' ⟨rfl, rfl⟩
    go_wp2_with fail
    refine H4.out.mono ?_
    rintro e w' ⟨rfl, rfl⟩
    go_wp2_with fail
    go_ret
    exact ⟨rfl, rfl⟩
  | true =>
    go_enter Try.func11, Try.ntmps11
    go_wp2_with fail
    refine H1.out.mono ?_
    rintro e w' ⟨rfl, rfl⟩
    go_wp2_with fail
    refine H2.out.mono ?_
    rintro e w' ⟨rfl, rfl⟩
    go_wp2_with fail
    refine H3.out.mono ?_
    rintro e w' ⟨rfl, rfl⟩
    go_wp2_with fail
    refine H4.out.mono ?_
    rintro e w' ⟨rfl, rfl⟩
    go_wp2_with fail
    refine H5.out.mono ?_
    rintro e w' ⟨rfl, rfl⟩
    go_wp2_with fail
    go_ret
    exact ⟨rfl, rfl⟩
theorem leastBeside_any (n : Nat) (w : World) (hn : n < 4398046511104) :
    Calls Try.prog 19 #[.int .i64 n] w fun e w' => e = .returned (.int .i64 (n / 3 : Nat)) ∧ w = w' := by
  go_enter Try.func19, Try.ntmps19
  go_wp2
  go_ret
  exact ⟨ret_int (by omega), rfl⟩
theorem beside_any (z : Int) (w : World) :
    Calls Try.prog 13 #[.int .i64 z] w fun e w' => e = .returned (.int .i64 (hd z / 3 : Nat)) ∧ w = w' := by
  have h1 := heldSize_any z w
  have b1 := hd_le z
  have h2 := leastBeside_any (hd z) w (by omega)
  obtain ⟨q, hq⟩ : ∃ q, q = hd z / 3 := ⟨_, rfl⟩
  rw [← hq] at h2 ⊢
  obtain ⟨a, ha⟩ : ∃ a, a = hd z := ⟨_, rfl⟩
  simp only [← ha] at h1 h2
  have H1 := Lib.hid h1; clear h1
  have H2 := Lib.hid h2; clear h2
  clear hq ha b1
  go_enter Try.func13, Try.ntmps13
  go_wp2_with fail
  refine H1.out.mono ?_
  rintro e w' ⟨rfl, rfl⟩
  go_wp2_with fail
  refine H2.out.mono ?_
  rintro e w' ⟨rfl, rfl⟩
  go_wp2_with fail
  go_ret
  exact ⟨rfl, rfl⟩
theorem oneHigher_any (n : Nat) (w : World) (hn : n < 4398046511104) :
    Calls Try.prog 21 #[.int .i64 n] w fun e w' => e = .returned (.int .i64 (1 + n + n / 3 : Nat)) ∧ w = w' := by
  have h2 := leastBeside_any n w hn
  obtain ⟨q, hq⟩ : ∃ q, q = n / 3 := ⟨_, rfl⟩
  have hb : q ≤ n := by omega
  rw [← hq] at h2 ⊢
  have H2 := Lib.hid h2; clear h2 hq
  go_enter Try.func21, Try.ntmps21
  go_wp2_with fail
  refine H2.out.mono ?_
  rintro e w' ⟨rfl, rfl⟩
  go_wp2_with fail
  go_ret
  exact ⟨ret_int (by omega), rfl⟩
theorem higher_low (j : Nat) (w : World) (hj : j < 64) :
    Calls Try.prog 21 #[.int .i64 (low j : Nat)] w fun e w' => e = .returned (.int .i64 (low (j + 1) : Nat)) ∧ w = w' := by
  have h := oneHigher_any (low j) w (by have := low_bound (Nat.le_of_lt hj); omega)
  rw [← low_step] at h
  exact h
end Go.Proofs.Ythbjnalcfdfgkaa
