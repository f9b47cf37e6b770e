/-
  Contracts of held, Cut, At, greatest, Common, awake.
-/
import Derived.Test.YtmbifgmdilmkgaaRows
import Derived.Test.YtmbifgmdilmkgaaMath
import Derived.WalkKit
import Derived.WalkLawsBesides
import Derived.Outline
import Derived.IntWalk
import Derived.Lib.Hide
import Derived.Laws.IdiomStrings
import Derived.Laws.MakeOwn
import Derived.OwnWalk
import Derived.Deep.QuietTactic
import Derived.BigQuiet
import Derived.WalkSmall
namespace Go.Proofs.Ytmbifgmdilmkgaa
open Go.RowKit
set_option maxHeartbeats 400000
theorem below_then {w a b : World} (h : Below w.heap.size w a) (k : Below a.heap.size a b) : Below w.heap.size w b := h.trans (k.mono h.size)
theorem ret_int {k : IntKind} {a b : Int} (h : a = b) : Ending.returned (.int k a) = .returned (.int k b) := by rw [h]
theorem held_any (n m : Int) (w : World) (h : 0 ≤ m) :
    Calls Try.prog 16 #[.int .i64 n, .int .i64 m] w fun e w' => e = .returned (.int .i64 (max 0 (min n m))) ∧ w = w' := by
  go_enter Try.func16, Try.ntmps16
  go_wp2
  all_goals go_ret
  all_goals exact ⟨ret_int (by omega), rfl⟩
theorem cut_any (x : Nat) (f k : Int) (w : World) (hx : x < 18446744073709551616) :
    Calls Try.prog 14 #[.int .u64 x, .int .i64 f, .int .i64 k] w fun e w' => e = .returned (.int .u64 (cutN x (max 0 (min f 64)).toNat (max 0 (min k 64)).toNat : Nat)) ∧ w = w' := by
  go_enter Try.func14, Try.ntmps14
  go_wp2_with (go_at_call 16; refine (held_any _ _ _ (by omega)).mono ?_; rintro e w' ⟨rfl, rfl⟩)
  go_ret
  exact ⟨ret_int (cut_bits x _ _ hx (by omega)), rfl⟩
theorem at_cut (x i : Nat) (w : World) (hx : x < 18446744073709551616) (hi : i ≤ 12) :
    Calls Try.prog 14 #[.int .u64 x, .int .i64 (5 * (i : Int)), .int .i64 5] w fun e w' => e = .returned (.int .u64 (ch x i : Nat)) ∧ w = w' := by
  have h := cut_any x (5 * (i : Int)) 5 w hx
  have e1 : (max 0 (min (5 * (i : Int)) 64)).toNat = 5 * i := by omega
  have e2 : (max 0 (min (5 : Int) 64)).toNat = 5 := by decide
  rw [e1, e2, cut_ch] at h
  exact h
theorem at_any (x : Nat) (z : Int) (w : World) (hx : x < 18446744073709551616) :
    Calls Try.prog 9 #[.int .u64 x, .int .i64 z] w fun e w' => e = .returned (.int .i64 (ch x (lv z) : Nat)) ∧ w = w' := by
  obtain ⟨i, hi⟩ : ∃ i, i = lv z := ⟨_, rfl⟩
  have hl : i ≤ 12 := by rw [hi]; exact lv_le z
  have hc := at_cut x i w hx hl
  have hlt := ch_lt x i
  rw [← hi]
  obtain ⟨c, hcc⟩ : ∃ c, c = ch x i := ⟨_, rfl⟩
  rw [← hcc] at hc hlt ⊢
  have HC := Lib.hid hc; clear hc hcc
  rcases Int.lt_or_le z 0 with h1 | h1
  · have e0 : i = 0 := by rw [hi]; unfold lv; omega
    subst e0
    clear hi
    go_enter Try.func9, Try.ntmps9
    go_wp2_with fail
    refine HC.out.mono ?_
    rintro e w' ⟨rfl, rfl⟩
    go_wp2_with fail
    go_ret
    exact ⟨ret_int (by omega), rfl⟩
  · rcases Int.lt_or_le 12 z with h2 | h2
    · have e0 : i = 12 := by rw [hi]; unfold lv; omega
      subst e0
      clear hi
      go_enter Try.func9, Try.ntmps9
      go_wp2_with fail
      refine HC.out.mono ?_
      rintro e w' ⟨rfl, rfl⟩
      go_wp2_with fail
      go_ret
      exact ⟨ret_int (by omega), rfl⟩
    · have e0 : z = (i : Int) := by rw [hi]; unfold lv; omega
      subst e0
      clear hi
      by_cases h3 : i = 0
      · subst h3
        go_enter Try.func9, Try.ntmps9
        go_wp2_with fail
        refine HC.out.mono ?_
        rintro e w' ⟨rfl, rfl⟩
        go_wp2_with fail
        go_ret
        exact ⟨ret_int (by omega), rfl⟩
      · by_cases h4 : i = 12
        · subst h4
          go_enter Try.func9, Try.ntmps9
          go_wp2_with fail
          refine HC.out.mono ?_
          rintro e w' ⟨rfl, rfl⟩
          go_wp2_with fail
          go_ret
          exact ⟨ret_int (by omega), rfl⟩
        · have h5 : 0 < i := by omega
          have h6 : i < 12 := by omega
          go_enter Try.func9, Try.ntmps9
          go_wp2_with fail
          refine HC.out.mono ?_
          rintro e w' ⟨rfl, rfl⟩
          go_wp2_with fail
          go_ret
          exact ⟨ret_int (by omega), rfl⟩
theorem at_nat (x i : Nat) (w : World) (hx : x < 18446744073709551616) (hi : i ≤ 12) :
    Calls Try.prog 9 #[.int .u64 x, .int .i64 (i : Int)] w fun e w' => e = .returned (.int .i64 (ch x i : Nat)) ∧ w = w' := by
  have h := at_any x (i : Int) w hx
  rw [lv_nat i hi] at h
  exact h
theorem greatest_any (i : Nat) (w : World) (hi : i ≤ 12) :
    Calls Try.prog 15 #[.int .i64 (i : Int)] w fun e w' => e = .returned (.int .i64 (gr i : Nat)) ∧ w = w' := by
  have h := at_nat 18446744073709551615 i w (by decide) hi
  rw [show ch 18446744073709551615 i = gr i from rfl] at h
  have H := Lib.hid h; clear h
  go_enter Try.func15, Try.ntmps15
  go_wp2_with fail
  refine H.out.mono ?_
  rintro e w' ⟨rfl, rfl⟩
  go_wp2_with fail
  go_ret
  exact ⟨rfl, rfl⟩
theorem common_any (a b : Nat) (w : World) (ha : a < 18446744073709551616) (hb : b < 18446744073709551616) :
    Calls Try.prog 12 #[.int .u64 a, .int .u64 b] w fun e w' => e = .returned (.int .i64 (com a b : Nat)) ∧ w = w' := by
  go_enter Try.func12, Try.ntmps12
  go_wp2
  go_loop [6] (fun i => ∃ j : Nat, j ≤ 13 ∧ i = .int .i64 j ∧ Hid (com a b = comFrom a b j (13 - j))) (fun i => 13 - (intOf i).toNat)
  case atStart => exact ⟨0, by omega, rfl, rfl⟩
  case round =>
    obtain ⟨j, hj, rfl, hcm⟩ := hrel
    by_cases hlt : j < 13
    · have h1 := at_nat a j w ha (by omega)
      have h2 := at_nat b j w hb (by omega)
      have hstep : comFrom a b j (13 - j) = if ch a j = ch b j then comFrom a b (j + 1) (13 - (j + 1)) else j := by
        rw [show 13 - j = (13 - (j + 1)) + 1 by omega, comFrom]
      by_cases he : ch a j = ch b j
      · rw [if_pos he] at hstep
        obtain ⟨x, hx⟩ : ∃ x, x = ch b j := ⟨_, rfl⟩
        rw [he, ← hx] at h1
        rw [← hx] at h2
        have H1 := Lib.hid h1; clear h1
        have H2 := Lib.hid h2; clear h2
        have HS := Lib.hid hstep; clear hstep
        clear hx he
        go_wp2_with fail
        refine H1.out.mono ?_
        rintro e w' ⟨rfl, rfl⟩
        go_wp2_with fail
        refine H2.out.mono ?_
        rintro e w' ⟨rfl, rfl⟩
        go_wp2_with fail
        go_round
        case rel => exact ⟨j + 1, by omega, by go_num, hcm.out.trans HS.out⟩
        case measure => simp [intOf]; omega
      · rw [if_neg he] at hstep
        obtain ⟨x, hx⟩ : ∃ x, x = ch a j := ⟨_, rfl⟩
        obtain ⟨y, hy⟩ : ∃ y, y = ch b j := ⟨_, rfl⟩
        rw [← hx] at h1
        rw [← hy] at h2
        rw [← hx, ← hy] at he
        have hne : ¬ ((x : Int) = (y : Int)) := by omega
        have H1 := Lib.hid h1; clear h1
        have H2 := Lib.hid h2; clear h2
        have HS := Lib.hid hstep; clear hstep
        clear hx hy he
        go_wp2_with fail
        refine H1.out.mono ?_
        rintro e w' ⟨rfl, rfl⟩
        go_wp2_with fail
        refine H2.out.mono ?_
        rintro e w' ⟨rfl, rfl⟩
        go_wp2_with fail
        go_ret
        exact ⟨ret_int (by rw [hcm.out, HS.out]), rfl⟩
    · obtain rfl : j = 13 := by omega
      go_wp2
      go_ret
      exact ⟨ret_int (by rw [hcm.out]; rfl), rfl⟩
theorem awake_any (w : World) : Calls Try.prog 10 #[] w fun e w' => e = .returned (.bool true) ∧ w = w' := by
  have h1 : ∀ W, Calls Try.prog 9 #[.int .u64 1023, .int .i64 1] W fun e w' => e = .returned (.int .i64 31) ∧ W = w' := fun W => at_nat 1023 1 W (by decide) (by decide)
  have h2 : ∀ W, Calls Try.prog 12 #[.int .u64 0, .int .u64 32] W fun e w' => e = .returned (.int .i64 1) ∧ W = w' := fun W => common_any 0 32 W (by decide) (by decide)
  have H1 := Lib.hid h1; clear h1
  have H2 := Lib.hid h2; clear h2
  go_enter Try.func10, Try.ntmps10
  go_wp2_with fail
  refine (H1.out _).mono ?_
  rintro e w' ⟨rfl, rfl⟩
  go_wp2_with fail
  refine (H2.out _).mono ?_
  rintro e w' ⟨rfl, rfl⟩
  go_wp2_with fail
  go_ret
  exact ⟨rfl, rfl⟩
end Go.Proofs.Ytmbifgmdilmkgaa
