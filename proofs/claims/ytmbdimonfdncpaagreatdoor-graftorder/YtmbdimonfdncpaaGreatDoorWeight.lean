/-
  Out of an elder text.
-/
import Derived.Test.YtmbdimonfdncpaaGreatDoorMem
import Derived.Test.YtmbdimonfdncpaaGreatDoorMade
import Derived.Test.YtmbdimonfdncpaaGreatDoorPlain
import Derived.Test.YtmbdimonfdncpaaGreatDoorWalks
namespace Go.Proofs.YtmbdimonfdncpaaGreatDoor
open Go.RowKit
set_option maxHeartbeats 400000
set_option maxRecDepth 100000
theorem more_any (z : Nat) (w : World) (hz : z ≤ 1000000) : Calls Tryz.prog 63 #[.int .i64 (z : Int)] w fun e w' => e = .returned (.int .i64 ((z + 1 : Nat) : Int)) ∧ w = w' := by
  go_enter Tryz.func63, Tryz.ntmps63
  go_wp2
  go_ret
  exact ⟨ret_int (by omega), rfl⟩
theorem visit_any {w : World} {m : Option Addr} {v c : Nat} (h : Met w m v c) (hv : v ≤ 1000000) :
    Calls Tryz.prog 41 #[.pointer m] w fun e w' => e = .returned (.tuple #[]) ∧ Met w' m (v + 1) c ∧ Only m w w' := by
  rcases h with rfl | ⟨g, rfl, h⟩
  · go_enter Tryz.func41, Tryz.ntmps41
    go_wp2_with fail
    go_end0
    exact ⟨rfl, .inl rfl, Only.refl _ _⟩
  · have c0 : w.cell? ⟨g, 0, none⟩ = some (.int .i64 (v : Int)) := by rw [cell_of_row w g 0 _ 51 (0, 0) h]; rfl
    have f0 : w.frozen? ⟨g, 0, none⟩ = false := by simp [World.frozen?, h]
    obtain ⟨x, hx⟩ : ∃ x, x = v + 1 := ⟨_, rfl⟩
    have k := more_any v w hv
    rw [← hx] at k ⊢
    have K := Lib.hid k; clear k
    have HM := Lib.hid h; clear h
    clear hx
    go_enter Tryz.func41, Tryz.ntmps41
    go_wp2_with fail
    refine K.out.mono ?_
    rintro e w' ⟨rfl, rfl⟩
    go_wp2_with fail
    go_end0
    refine ⟨rfl, .inr ⟨g, rfl, ?_⟩, Only.set _ _ _ _⟩
    rw [heap_setCell_same w g 0 _ 51 _ HM.out]
    rfl
theorem mcompare_any {w : World} {m : Option Addr} {v c : Nat} (h : Met w m v c) (hc : c ≤ 1000000) {A B : Option Addr} {k l : List UInt8} (x y : Nat) (ha : Bts w A k) (hb : Bts w B l) :
    Calls Tryz.prog 44 #[.pointer m, .slice A k.length x, .slice B l.length y] w fun e w' => e = .returned (.int .i64 (cmp k l)) ∧ Met w' m v (c + 1) ∧ Only m w w' := by
  rcases h with rfl | ⟨g, rfl, h⟩
  · have H := Lib.hid (compare_any ha hb x y)
    clear ha hb
    go_enter Tryz.func44, Tryz.ntmps44
    go_wp2_with fail
    refine H.out.mono ?_
    rintro e w' ⟨rfl, rfl⟩
    go_wp2_with fail
    go_ret
    exact ⟨rfl, .inl rfl, Only.refl _ _⟩
  · have c1 : w.cell? ⟨g, 1, none⟩ = some (.int .i64 (c : Int)) := by rw [cell_of_row w g 1 _ 51 (0, 0) h]; rfl
    have f1 : w.frozen? ⟨g, 1, none⟩ = false := by simp [World.frozen?, h]
    obtain ⟨z, hz⟩ : ∃ z, z = c + 1 := ⟨_, rfl⟩
    have q := more_any c w hc
    rw [← hz] at q ⊢
    have K := Lib.hid q; clear q
    have HO := Lib.hid (Only.set w g 1 (.int .i64 (z : Int)))
    have hm : Met w (some ⟨g, 0, none⟩) v c := .inr ⟨g, rfl, h⟩
    have H := Lib.hid (compare_any (ha.only hm HO.out) (hb.only hm HO.out) x y); clear ha hb hm
    have HM := Lib.hid h; clear h
    clear hz
    go_enter Tryz.func44, Tryz.ntmps44
    go_wp2_with fail
    refine K.out.mono ?_
    rintro e w' ⟨rfl, rfl⟩
    go_wp2_with fail
    refine H.out.mono ?_
    rintro e w' ⟨rfl, rfl⟩
    go_wp2_with fail
    go_ret
    refine ⟨rfl, .inr ⟨g, rfl, ?_⟩, HO.out⟩
    rw [heap_setCell_same w g 1 _ 51 _ HM.out]
    rfl
end Go.Proofs.YtmbdimonfdncpaaGreatDoor
/-
  Contracts of held, heldSize, areEven, Even, Single, and of the tree's own even and single.
-/
namespace Go.Proofs.YtmbdimonfdncpaaGreatDoor
open Go.RowKit
set_option maxHeartbeats 400000
theorem held_any (n m : Int) (w : World) (h : 0 ≤ m) :
    Calls Tryz.prog 104 #[.int .i64 n, .int .i64 m] w fun e w' => e = .returned (.int .i64 (max 0 (min n m))) ∧ w = w' := by
  go_enter Tryz.func104, Tryz.ntmps104
  go_wp2
  all_goals go_ret
  all_goals exact ⟨ret_int (by omega), rfl⟩
theorem heldSize_any (z : Int) (w : World) :
    Calls Tryz.prog 102 #[.int .i64 z] w fun e w' => e = .returned (.int .i64 (hd z : Nat)) ∧ w = w' := by
  have h := held_any z 1048576 w (by decide)
  have e1 : max 0 (min z 1048576) = (hd z : Int) := by unfold hd; omega
  rw [e1] at h
  have H := Lib.hid h; clear h e1
  go_enter Tryz.func102, Tryz.ntmps102
  go_wp2_with fail
  refine H.out.mono ?_
  rintro e w' ⟨rfl, rfl⟩
  go_wp2_with fail
  go_ret
  exact ⟨rfl, rfl⟩
theorem areEven_any (a b : Nat) (w : World) (ha : a ≤ 4194304) (hb : b ≤ 4194304) :
    Calls Tryz.prog 101 #[.int .i64 a, .int .i64 b] w fun e w' => e = .returned (.bool (ev a b)) ∧ w = w' := by
  go_enter Tryz.func101, Tryz.ntmps101
  go_wp2
  all_goals go_ret
  all_goals exact ⟨ret_bool (by unfold ev; rw [Bool.eq_iff_iff]; simp; omega), rfl⟩
theorem wEven_any (x y : Int) (w : World) :
    Calls Tryz.prog 99 #[.int .i64 x, .int .i64 y] w fun e w' => e = .returned (.bool (ev (hd x) (hd y))) ∧ w = w' := by
  have h1 := heldSize_any x w
  have h2 := heldSize_any y w
  have b1 := hd_le x
  have b2 := hd_le y
  obtain ⟨a, ha⟩ : ∃ a, a = hd x := ⟨_, rfl⟩
  obtain ⟨b, hb⟩ : ∃ b, b = hd y := ⟨_, rfl⟩
  simp only [← ha, ← hb] at h1 h2 b1 b2 ⊢
  have h3 := areEven_any a b w (by omega) (by omega)
  obtain ⟨t, ht⟩ : ∃ t, t = ev a b := ⟨_, rfl⟩
  rw [← ht] at h3 ⊢
  have H1 := Lib.hid h1; clear h1
  have H2 := Lib.hid h2; clear h2
  have H3 := Lib.hid h3; clear h3
  clear ht ha hb
  go_enter Tryz.func99, Tryz.ntmps99
  go_wp2_with fail
  refine H1.out.mono ?_
  rintro e w' ⟨rfl, rfl⟩
  go_wp2_with fail
  refine H2.out.mono ?_
  rintro e w' ⟨rfl, rfl⟩
  go_wp2_with fail
  refine H3.out.mono ?_
  rintro e w' ⟨rfl, rfl⟩
  go_wp2_with fail
  go_ret
  exact ⟨rfl, rfl⟩
theorem even_any (a b : Nat) (w : World) (ha : a ≤ 100000) (hb : b ≤ 100000) :
    Calls Tryz.prog 96 #[.int .i64 a, .int .i64 b] w fun e w' => e = .returned (.bool (ev a b)) ∧ w = w' := by
  rcases Nat.le_total a b with h | h
  · have h1 := wEven_any a b w
    rw [hd_nat a (by omega), hd_nat b (by omega)] at h1
    obtain ⟨t, ht⟩ : ∃ t, t = ev a b := ⟨_, rfl⟩
    rw [← ht] at h1 ⊢
    have H1 := Lib.hid h1; clear h1
    clear ht
    rcases Nat.lt_or_eq_of_le h with h | h
    · go_enter Tryz.func96, Tryz.ntmps96
      go_wp2_with fail
      refine H1.out.mono ?_
      rintro e w' ⟨rfl, rfl⟩
      go_wp2_with fail
      go_ret
      exact ⟨rfl, rfl⟩
    · subst h
      go_enter Tryz.func96, Tryz.ntmps96
      go_wp2_with fail
      refine H1.out.mono ?_
      rintro e w' ⟨rfl, rfl⟩
      go_wp2_with fail
      go_ret
      exact ⟨rfl, rfl⟩
  · have h1 := wEven_any b a w
    rw [hd_nat a (by omega), hd_nat b (by omega), ev_turn] at h1
    obtain ⟨t, ht⟩ : ∃ t, t = ev a b := ⟨_, rfl⟩
    rw [← ht] at h1 ⊢
    have H1 := Lib.hid h1; clear h1
    clear ht
    rcases Nat.lt_or_eq_of_le h with h | h
    · go_enter Tryz.func96, Tryz.ntmps96
      go_wp2_with fail
      refine H1.out.mono ?_
      rintro e w' ⟨rfl, rfl⟩
      go_wp2_with fail
      go_ret
      exact ⟨rfl, rfl⟩
    · subst h
      go_enter Tryz.func96, Tryz.ntmps96
      go_wp2_with fail
      refine H1.out.mono ?_
      rintro e w' ⟨rfl, rfl⟩
      go_wp2_with fail
      go_ret
      exact ⟨rfl, rfl⟩
end Go.Proofs.YtmbdimonfdncpaaGreatDoor
/-
  Out of an elder text.
-/
namespace Go.Proofs.YtmbdimonfdncpaaGreatDoor
open Go.RowKit
set_option maxHeartbeats 400000
theorem wSingle_any (x y z : Int) (w : World) :
    Calls Tryz.prog 103 #[.int .i64 x, .int .i64 y, .int .i64 z] w fun e w' => e = .returned (.bool (ev (hd x) (hd y) && ev (hd x + hd y + 1) (hd z))) ∧ w = w' := by
  have h1 := heldSize_any x w
  have h2 := heldSize_any y w
  have h3 := heldSize_any z w
  have b1 := hd_le x
  have b2 := hd_le y
  have b3 := hd_le z
  obtain ⟨a, ha⟩ : ∃ a, a = hd x := ⟨_, rfl⟩
  obtain ⟨b, hb⟩ : ∃ b, b = hd y := ⟨_, rfl⟩
  obtain ⟨c, hc⟩ : ∃ c, c = hd z := ⟨_, rfl⟩
  simp only [← ha, ← hb, ← hc] at h1 h2 h3 b1 b2 b3 ⊢
  have h4 := areEven_any a b w (by omega) (by omega)
  have h5 := areEven_any (a + b + 1) c w (by omega) (by omega)
  rw [show ((a + b + 1 : Nat) : Int) = (a : Int) + b + 1 by omega] at h5
  obtain ⟨t, ht⟩ : ∃ t, t = ev a b := ⟨_, rfl⟩
  obtain ⟨u, hu⟩ : ∃ u, u = ev (a + b + 1) c := ⟨_, rfl⟩
  simp only [← ht, ← hu] at h4 h5 ⊢
  have H1 := Lib.hid h1; clear h1
  have H2 := Lib.hid h2; clear h2
  have H3 := Lib.hid h3; clear h3
  have H4 := Lib.hid h4; clear h4
  have H5 := Lib.hid h5; clear h5
  clear ht hu ha hb hc
  cases t with
  | false =>
    go_enter Tryz.func103, Tryz.ntmps103
    go_wp2_with fail
    refine H1.out.mono ?_
    rintro e w' ⟨rfl, rfl⟩
    go_wp2_with fail
    refine H2.out.mono ?_
    rintro e w' ⟨rfl, rfl⟩
    go_wp2_with fail
    refine H3.out.mono ?_
    rintro e w' ⟨rfl, rfl⟩
    go_wp2_with fail
    refine H4.out.mono ?_
    rintro e w' ⟨rfl, rfl⟩
    go_wp2_with fail
    go_ret
    exact ⟨rfl, rfl⟩
  | true =>
    go_enter Tryz.func103, Tryz.ntmps103
    go_wp2_with fail
    refine H1.out.mono ?_
    rintro e w' ⟨rfl, rfl⟩
    go_wp2_with fail
    refine H2.out.mono ?_
    rintro e w' ⟨rfl, rfl⟩
    go_wp2_with fail
    refine H3.out.mono ?_
    rintro e w' ⟨rfl, rfl⟩
    go_wp2_with fail
    refine H4.out.mono ?_
    rintro e w' ⟨rfl, rfl⟩
    go_wp2_with fail
    refine H5.out.mono ?_
    rintro e w' ⟨rfl, rfl⟩
    go_wp2_with fail
    go_ret
    exact ⟨rfl, rfl⟩
theorem single_any (a b c : Nat) (w : World) (ha : a ≤ 100000) (hb : b ≤ 100000) (hc : c ≤ 100000) :
    Calls Tryz.prog 100 #[.int .i64 a, .int .i64 b, .int .i64 c] w fun e w' => e = .returned (.bool (ev a b && ev (a + b + 1) c)) ∧ w = w' := by
  have h1 := wSingle_any a b c w
  rw [hd_nat a (by omega), hd_nat b (by omega), hd_nat c (by omega)] at h1
  obtain ⟨t, ht⟩ : ∃ t, t = (ev a b && ev (a + b + 1) c) := ⟨_, rfl⟩
  rw [← ht] at h1 ⊢
  have H1 := Lib.hid h1; clear h1
  clear ht
  go_enter Tryz.func100, Tryz.ntmps100
  go_wp2_with fail
  all_goals
    refine H1.out.mono ?_
    rintro e w' ⟨rfl, rfl⟩
    go_wp2_with fail
    go_ret
    exact ⟨rfl, rfl⟩
end Go.Proofs.YtmbdimonfdncpaaGreatDoor
