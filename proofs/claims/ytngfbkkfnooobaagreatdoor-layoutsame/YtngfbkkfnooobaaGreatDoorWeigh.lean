/-
  Contracts of held, heldSize, areEven, Even, Single, and of the tree's own even and single.
-/
import Derived.Test.YtngfbkkfnooobaaGreatDoorMath3
import Derived.Test.YtngfbkkfnooobaaGreatDoorWalks
namespace Go.Proofs.YtngfbkkfnooobaaGreatDoor
open Go.RowKit
set_option maxHeartbeats 400000
theorem held_any (n m : Int) (w : World) (h : 0 ≤ m) :
    Calls Tryz.prog 104 #[.int .i64 n, .int .i64 m] w fun e w' => e = .returned (.int .i64 (max 0 (min n m))) ∧ w = w' := by
  go_enter Tryz.func104, Tryz.ntmps104
  go_wp2
  all_goals go_ret
  all_goals exact ⟨ret_int (by omega), rfl⟩
theorem heldSize_any (z : Int) (w : World) :
    Calls Tryz.prog 97 #[.int .i64 z] w fun e w' => e = .returned (.int .i64 (hd z : Nat)) ∧ w = w' := by
  have h := held_any z 1048576 w (by decide)
  have e1 : max 0 (min z 1048576) = (hd z : Int) := by unfold hd; omega
  rw [e1] at h
  have H := Lib.hid h; clear h e1
  go_enter Tryz.func97, Tryz.ntmps97
  go_wp2_with fail
  refine H.out.mono ?_
  rintro e w' ⟨rfl, rfl⟩
  go_wp2_with fail
  go_ret
  exact ⟨rfl, rfl⟩
theorem areEven_any (a b : Nat) (w : World) (ha : a ≤ 4194304) (hb : b ≤ 4194304) :
    Calls Tryz.prog 96 #[.int .i64 a, .int .i64 b] w fun e w' => e = .returned (.bool (ev a b)) ∧ w = w' := by
  go_enter Tryz.func96, Tryz.ntmps96
  go_wp2
  all_goals go_ret
  all_goals exact ⟨ret_bool (by unfold ev; rw [Bool.eq_iff_iff]; simp; omega), rfl⟩
theorem wEven_any (x y : Int) (w : World) :
    Calls Tryz.prog 76 #[.int .i64 x, .int .i64 y] w fun e w' => e = .returned (.bool (ev (hd x) (hd y))) ∧ w = w' := by
  have h1 := heldSize_any x w
  have h2 := heldSize_any y w
  have b1 := hd_le x
  have b2 := hd_le y
  obtain ⟨a, ha⟩ : ∃ a, a = hd x := ⟨_, rfl⟩
  obtain ⟨b, hb⟩ : ∃ b, b = hd y := ⟨_, rfl⟩
  simp only [← ha, ← hb] at h1 h2 b1 b2 ⊢
  have h3 := areEven_any a b w (by omega) (by omega)
  obtain ⟨t, ht⟩ : ∃ t, t = ev a b := ⟨_, rfl⟩
  rw [← ht] at h3 ⊢
  have H1 := Lib.hid h1; clear h1
  have H2 := Lib.hid h2; clear h2
  have H3 := Lib.hid h3; clear h3
  clear ht ha hb
  go_enter Tryz.func76, Tryz.ntmps76
  go_wp2_with fail
  refine H1.out.mono ?_
  rintro e w' ⟨rfl, rfl⟩
  go_wp2_with fail
  refine H2.out.mono ?_
  rintro e w' ⟨rfl, rfl⟩
  go_wp2_with fail
  refine H3.out.mono ?_
  rintro e w' ⟨rfl, rfl⟩
  go_wp2_with fail
  go_ret
  exact ⟨rfl, rfl⟩
theorem even_any (a b : Nat) (w : World) (ha : a ≤ 100000) (hb : b ≤ 100000) :
    Calls Tryz.prog 49 #[.int .i64 a, .int .i64 b] w fun e w' => e = .returned (.bool (ev a b)) ∧ w = w' := by
  rcases Nat.le_total a b with h | h
  · have h1 := wEven_any a b w
    rw [hd_nat a (by omega), hd_nat b (by omega)] at h1
    obtain ⟨t, ht⟩ : ∃ t, t = ev a b := ⟨_, rfl⟩
    rw [← ht] at h1 ⊢
    have H1 := Lib.hid h1; clear h1
    clear ht
    rcases Nat.lt_or_eq_of_le h with h | h
    · go_enter Tryz.func49, Tryz.ntmps49
      go_wp2_with fail
      refine H1.out.mono ?_
      rintro e w' ⟨rfl, rfl⟩
      go_wp2_with fail
      go_ret
      exact ⟨rfl, rfl⟩
    · subst h
      go_enter Tryz.func49, Tryz.ntmps49
      go_wp2_with fail
      refine H1.out.mono ?_
      rintro e w' ⟨rfl, rfl⟩
      go_wp2_with fail
      go_ret
      exact ⟨rfl, rfl⟩
  · have h1 := wEven_any b a w
    rw [hd_nat a (by omega), hd_nat b (by omega), ev_turn] at h1
    obtain ⟨t, ht⟩ : ∃ t, t = ev a b := ⟨_, rfl⟩
    rw [← ht] at h1 ⊢
    have H1 := Lib.hid h1; clear h1
    clear ht
    rcases Nat.lt_or_eq_of_le h with h | h
    · go_enter Tryz.func49, Tryz.ntmps49
      go_wp2_with fail
      refine H1.out.mono ?_
      rintro e w' ⟨rfl, rfl⟩
      go_wp2_with fail
      go_ret
      exact ⟨rfl, rfl⟩
    · subst h
      go_enter Tryz.func49, Tryz.ntmps49
      go_wp2_with fail
      refine H1.out.mono ?_
      rintro e w' ⟨rfl, rfl⟩
      go_wp2_with fail
      go_ret
      exact ⟨rfl, rfl⟩
end Go.Proofs.YtngfbkkfnooobaaGreatDoor
