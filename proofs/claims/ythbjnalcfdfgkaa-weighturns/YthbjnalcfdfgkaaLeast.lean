/-
  Contracts of Least and Height, of the document's Beside and Least, and of awake.
-/
import Derived.Test.YthbjnalcfdfgkaaWalks
namespace Go.Proofs.Ythbjnalcfdfgkaa
open Go.RowKit
set_option maxHeartbeats 400000
attribute [local irreducible] low
theorem least_any (z : Int) (w : World) :
    Calls Try.prog 14 #[.int .i64 z] w fun e w' => e = .returned (.int .i64 (low (max 0 (min z 64)).toNat : Nat)) ∧ w = w' := by
  obtain ⟨n, hn⟩ : ∃ n, n = (max 0 (min z 64)).toNat := ⟨_, rfl⟩
  have h1 := held_any z 64 w (by decide)
  have e1 : max 0 (min z 64) = (n : Int) := by omega
  have hle : n ≤ 64 := by omega
  rw [e1] at h1
  rw [← hn]
  have h2 := fun j W (hj : j < 64) => higher_low j W hj
  have H1 := Lib.hid h1; clear h1
  have H2 := Lib.hid h2; clear h2
  clear e1 hn
  go_enter Try.func14, Try.ntmps14
  go_wp2_with fail
  refine H1.out.mono ?_
  rintro e w' ⟨rfl, rfl⟩
  go_wp2_with fail
  go_loop [3, 6] (fun s i => ∃ j m : Nat, j ≤ n ∧ i = .int .i64 j ∧ s = .int .i64 m ∧ Hid (m = low j)) (fun _ i => n - (intOf i).toNat)
  case atStart => exact ⟨0, 0, by omega, rfl, rfl, by unfold low; rfl⟩
  case round =>
    obtain ⟨j, m, hj, rfl, rfl, hm⟩ := hrel
    by_cases hlt : j < n
    · have h3 := H2.out j w (by omega)
      rw [← hm.out] at h3
      obtain ⟨m1, hm1⟩ : ∃ m1, m1 = low (j + 1) := ⟨_, rfl⟩
      rw [← hm1] at h3
      have H3 := Lib.hid h3; clear h3
      have HM := Lib.hid hm1; clear hm1
      go_wp2_with fail
      refine H3.out.mono ?_
      rintro e w' ⟨rfl, rfl⟩
      go_wp2_with fail
      go_round
      case rel => exact ⟨j + 1, m1, by omega, by go_num, rfl, HM.out⟩
      case measure => simp [intOf]; omega
    · obtain rfl : j = n := by omega
      go_wp2_with fail
      go_ret
      exact ⟨ret_int (by rw [hm.out]), rfl⟩
theorem height_any (z : Int) (w : World) :
    Calls Try.prog 16 #[.int .i64 z] w fun e w' => ∃ h : Nat, h < 64 ∧ low h ≤ hd z ∧ hd z < low (h + 1) ∧ e = .returned (.int .i64 h) ∧ w = w' := by
  have h1 := heldSize_any z w
  have b1 := hd_le z
  obtain ⟨k, hk⟩ : ∃ k, k = hd z := ⟨_, rfl⟩
  simp only [← hk] at h1 b1 ⊢
  have h2 := fun j W (hj : j < 64) => higher_low j W hj
  have H1 := Lib.hid h1; clear h1
  have H2 := Lib.hid h2; clear h2
  clear hk
  go_enter Try.func16, Try.ntmps16
  go_wp2_with fail
  refine H1.out.mono ?_
  rintro e w' ⟨rfl, rfl⟩
  go_wp2_with fail
  go_loop [3, 7] (fun s i => ∃ j m : Nat, j ≤ 64 ∧ m ≤ k ∧ i = .int .i64 j ∧ s = .int .i64 m ∧ Hid (m = low j)) (fun _ i => 64 - (intOf i).toNat)
  case atStart => exact ⟨0, 0, by omega, by omega, rfl, rfl, by unfold low; rfl⟩
  case round =>
    obtain ⟨j, m, hj, hmk, rfl, rfl, hm⟩ := hrel
    by_cases hlt : j < 64
    · have h3 := H2.out j w hlt
      rw [← hm.out] at h3
      have hb := low_bound (show j + 1 ≤ 64 by omega)
      obtain ⟨m1, hm1⟩ : ∃ m1, m1 = low (j + 1) := ⟨_, rfl⟩
      rw [← hm1] at h3 hb
      have H3 := Lib.hid h3; clear h3
      have HM := Lib.hid hm1; clear hm1
      by_cases hgt : k < m1
      · go_wp2_with fail
        refine H3.out.mono ?_
        rintro e w' ⟨rfl, rfl⟩
        go_wp2_with fail
        go_ret
        exact ⟨j, hlt, by rw [← hm.out]; exact hmk, by rw [← HM.out]; exact hgt, rfl, rfl⟩
      · go_wp2_with fail
        refine H3.out.mono ?_
        rintro e w' ⟨rfl, rfl⟩
        go_wp2_with fail
        go_round
        case rel => exact ⟨j + 1, m1, by omega, by omega, by go_num, rfl, HM.out⟩
        case measure => simp [intOf]; omega
    · exfalso
      obtain rfl : j = 64 := by omega
      have := low_above
      rw [← hm.out] at this
      omega
theorem refBeside_any (n : Nat) (w : World) (hn : n ≤ 1048576) :
    Calls Try.prog 22 #[.int .i64 n] w fun e w' => e = .returned (.int .i64 (n / 3 : Nat)) ∧ w = w' := by
  obtain ⟨q, hq⟩ : ∃ q, q = n / 3 := ⟨_, rfl⟩
  have hq1 : 3 * q ≤ n := by omega
  have hq2 : n ≤ 3 * q + 2 := by omega
  rw [← hq]
  clear hq
  have h1 := fun k (hk : k ≤ 4194304) W => refEven_any k n W hk (by omega)
  have H1 := Lib.hid h1; clear h1
  go_enter Try.func22, Try.ntmps22
  go_wp2_with fail
  go_loop [3] (fun k => ∃ j : Nat, j ≤ q ∧ k = .int .i64 j) (fun k => q - (intOf k).toNat)
  case atStart => exact ⟨0, by omega, rfl⟩
  case round =>
    obtain ⟨j, hj, rfl⟩ := hrel
    have h2 := H1.out j (by omega) w
    by_cases hlt : j < q
    · rw [ev_false.2 (by omega)] at h2
      have H2 := Lib.hid h2; clear h2
      go_wp2_with fail
      refine H2.out.mono ?_
      rintro e w' ⟨rfl, rfl⟩
      go_wp2_with fail
      go_round
      case rel => exact ⟨j + 1, by omega, by go_num⟩
      case measure => simp [intOf]; omega
    · obtain rfl : j = q := by omega
      rw [ev_true.2 (by omega)] at h2
      have H2 := Lib.hid h2; clear h2
      go_wp2_with fail
      refine H2.out.mono ?_
      rintro e w' ⟨rfl, rfl⟩
      go_wp2_with fail
      go_ret
      exact ⟨rfl, rfl⟩
theorem refLeast_any (h : Nat) : h ≤ 30 → ∀ w : World,
    Calls Try.prog 15 #[.int .i64 h] w fun e w' => e = .returned (.int .i64 (low h : Nat)) ∧ w = w' := by
  induction h with
  | zero =>
    intro _ w
    have e0 : low 0 = 0 := by unfold low; rfl
    rw [e0]
    go_enter Try.func15, Try.ntmps15
    go_wp2
    go_ret
    exact ⟨rfl, rfl⟩
  | succ n ih =>
    intro hn w
    have h1 := ih (by omega) w
    have hb := low_few (show n ≤ 30 by omega)
    have h2 := refBeside_any (low n) w hb
    have e1 := low_step n
    obtain ⟨s, hs⟩ : ∃ s, s = low n := ⟨_, rfl⟩
    rw [← hs] at h1 hb h2 e1
    rw [e1]
    obtain ⟨q, hq⟩ : ∃ q, q = s / 3 := ⟨_, rfl⟩
    have hq1 : q ≤ s := by omega
    rw [← hq] at h2 ⊢
    have H1 := Lib.hid h1; clear h1 ih
    have H2 := Lib.hid h2; clear h2
    clear hs hq e1
    go_enter Try.func15, Try.ntmps15
    go_wp2_with fail
    refine H1.out.mono ?_
    rintro e w' ⟨rfl, rfl⟩
    go_wp2_with fail
    refine H2.out.mono ?_
    rintro e w' ⟨rfl, rfl⟩
    go_wp2_with fail
    go_ret
    exact ⟨ret_int (by omega), rfl⟩
theorem awake_any (w : World) : Calls Try.prog 12 #[] w fun e w' => e = .returned (.bool true) ∧ w = w' := by
  have h1 : Calls Try.prog 9 #[.int .i64 2, .int .i64 0] w fun e w' => e = .returned (.bool true) ∧ w = w' := even_any 2 0 w
  have h2 : Calls Try.prog 9 #[.int .i64 3, .int .i64 0] w fun e w' => e = .returned (.bool false) ∧ w = w' := even_any 3 0 w
  have h3 : Calls Try.prog 13 #[.int .i64 3] w fun e w' => e = .returned (.int .i64 1) ∧ w = w' := beside_any 3 w
  have H1 := Lib.hid h1; clear h1
  have H2 := Lib.hid h2; clear h2
  have H3 := Lib.hid h3; clear h3
  go_enter Try.func12, Try.ntmps12
  go_wp2_with fail
  refine H1.out.mono ?_
  rintro e w' ⟨rfl, rfl⟩
  go_wp2_with fail
  refine H2.out.mono ?_
  rintro e w' ⟨rfl, rfl⟩
  go_wp2_with fail
  refine H3.out.mono ?_
  rintro e w' ⟨rfl, rfl⟩
  go_wp2_with fail
  go_ret
  exact ⟨rfl, rfl⟩
end Go.Proofs.Ythbjnalcfdfgkaa
