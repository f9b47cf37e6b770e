/-
  Contracts of the reference's Digit and One.
-/
import Derived.Test.YtjagpamefcgpoaaRef
import Derived.WalkSpells
namespace Go.Proofs.Ytjagpamefcgpoaa
open Go.RowKit
set_option maxHeartbeats 400000
set_option maxRecDepth 100000
theorem conv_one (z : UInt8) (v : Int) (hz : v = (z.toNat : Int)) (W : World) : (convert 22 9 (.slice (some ⟨W.heap.size, 0, none⟩) 1 1)).run Try.prog (W.alloc (.cells #[.int .u8 v] 5)) = .ok (.string ⟨#[z]⟩) (W.alloc (.cells #[.int .u8 v] 5)) := by
  subst hz
  exact conv_bts (W.alloc (.cells #[.int .u8 (z.toNat : Int)] 5)) [z] W.heap.size 0 1 (by
    intro i hi
    have h0 : i = 0 := by simpa using hi
    subst h0; simp)
theorem digit_any (d : Nat) (w : World) (hd : d < 16) :
    Calls Try.prog 28 #[.int .i64 (d : Int)] w fun e w' => e = .returned (.string ⟨#[hexd d]⟩) ∧ Below w.heap.size w w' := by
  have hsz : d < (⟨#[48, 49, 50, 51, 52, 53, 54, 55, 56, 57, 97, 98, 99, 100, 101, 102]⟩ : ByteArray).size := hd
  have hcv := conv_one (hexd d) ((⟨#[48, 49, 50, 51, 52, 53, 54, 55, 56, 57, 97, 98, 99, 100, 101, 102]⟩ : ByteArray)[d]'hsz).toNat (by rw [digit_at d hd hsz])
  go_enter Try.func28, Try.ntmps28
  go_wp2
  go_ret
  exact ⟨rfl, (Below.refl _ _).alloc (Nat.le_refl _) _⟩
theorem digit_int (z : Int) (d : Nat) (w : World) (hz : z = (d : Int)) (hd : d < 16) :
    Calls Try.prog 28 #[.int .i64 z] w fun e w' => e = .returned (.string ⟨#[hexd d]⟩) ∧ Below w.heap.size w w' := by
  subst hz; exact digit_any d w hd
theorem ret_two {a b : ByteArray} {x y : Int} (h : a = b) (k : x = y) : Ending.returned (.tuple #[.string a, .int .i64 x]) = .returned (.tuple #[.string b, .int .i64 y]) := by rw [h, k]
def oneB (l : List UInt8) : ByteArray := ⟨(oneL l).toArray⟩
theorem one_stray (s : ByteArray) (w : World) (h : 0 < s.size) (hw : width s.data.toList = 0) :
    Calls Try.prog 20 #[.string s] w fun e w' => e = .returned (.tuple #[.string (oneB s.data.toList), .int .i64 (1 : Int)]) ∧ Below w.heap.size w w' := by
  have m1 := width_any s w h
  rw [hw] at m1
  have M1 := Lib.hid m1; clear m1
  have hone : oneB s.data.toList = ⟨#[92, 120, hexd ((s[0]'h).toNat / 16), hexd ((s[0]'h).toNat % 16)]⟩ := by
    obtain ⟨r, hr⟩ := list_cons s h
    rw [oneB, oneL]
    simp only [hw, if_true]
    rw [hr]; simp
  have HO := Lib.hid hone; clear hone
  have HW := Lib.hid hw; clear hw
  have hc : (s[0]'h).toNat < 256 := (s[0]'h).toNat_lt
  go_enter Try.func20, Try.ntmps20
  go_wp2_with fail
  refine M1.out.mono ?_
  rintro e w' ⟨rfl, rfl⟩
  go_wp2_with fail
  refine (digit_any ((s[0]'h).toNat / 16) _ (by omega)).mono ?_
  rintro e w1 ⟨rfl, hb1⟩
  go_wp2_with fail
  refine (digit_any ((s[0]'h).toNat % 16) _ (by omega)).mono ?_
  rintro e w2 ⟨rfl, hb2⟩
  go_wp2_with fail
  go_ret2
  exact ⟨ret_two (by rw [HO.out]; rfl) rfl, below_then hb1 hb2⟩
theorem one_sign (s : ByteArray) (w : World) (h : 0 < s.size) (hw : width s.data.toList = 1) (hs : s.size ≤ 1000000) (hc : (s[0]'h).toNat = 34 ∨ (s[0]'h).toNat = 92) :
    Calls Try.prog 20 #[.string s] w fun e w' => e = .returned (.tuple #[.string (oneB s.data.toList), .int .i64 (1 : Int)]) ∧ Below w.heap.size w w' := by
  have m1 := width_any s w h
  rw [hw] at m1
  have M1 := Lib.hid m1; clear m1
  have hone : oneB s.data.toList = ⟨#[92]⟩ ++ s.extract 0 1 := by
    obtain ⟨r, hr⟩ := list_cons s h
    rw [oneB, oneL, Lib.extract_eq]
    simp only [hw]
    rw [hr]
    simp only [List.getD_cons_zero]
    rw [if_neg (by decide), if_pos ⟨trivial, hc⟩]
    rfl
  have HO := Lib.hid hone; clear hone
  have HW := Lib.hid hw; clear hw
  rcases hc with hc | hc
  all_goals
    have e1 : ((s[0]'h).toNat : Int) = _ := congrArg Nat.cast hc
    have HC := Lib.hid hc; clear hc
    go_enter Try.func20, Try.ntmps20
    go_wp2_with fail
    refine M1.out.mono ?_
    rintro e w' ⟨rfl, rfl⟩
    go_wp2_with fail
    go_ret2
    exact ⟨ret_two (by rw [HO.out]) rfl, Below.refl _ _⟩
theorem one_low (s : ByteArray) (w : World) (h : 0 < s.size) (hw : width s.data.toList = 1) (hc : (s[0]'h).toNat < 32 ∨ (s[0]'h).toNat = 127) :
    Calls Try.prog 20 #[.string s] w fun e w' => e = .returned (.tuple #[.string (oneB s.data.toList), .int .i64 (1 : Int)]) ∧ Below w.heap.size w w' := by
  have m1 := width_any s w h
  rw [hw] at m1
  have M1 := Lib.hid m1; clear m1
  have hone : oneB s.data.toList = ⟨#[92, 117, 48, 48, hexd ((s[0]'h).toNat / 16), hexd ((s[0]'h).toNat % 16)]⟩ := by
    obtain ⟨r, hr⟩ := list_cons s h
    rw [oneB, oneL]
    simp only [hw]
    rw [hr]
    simp only [List.getD_cons_zero]
    rw [if_neg (by decide), if_neg (by omega), if_pos ⟨trivial, hc⟩]
  have HO := Lib.hid hone; clear hone
  have HW := Lib.hid hw; clear hw
  have hc2 : (s[0]'h).toNat < 256 := (s[0]'h).toNat_lt
  have e1 : (((s[0]'h).toNat : Int) == 34) = false := by simp; omega
  have e2 : (((s[0]'h).toNat : Int) == 92) = false := by simp; omega
  have hc3 : (s[0]'h).toNat < 32 ∨ (¬ (s[0]'h).toNat < 32 ∧ (((s[0]'h).toNat : Int) == 127) = true) := by
    rcases hc with hc | hc
    · exact .inl hc
    · right; simp; omega
  clear hc
  rcases hc3 with hc | ⟨hc, hc4⟩
  all_goals
    go_enter Try.func20, Try.ntmps20
    go_wp2_with fail
    refine M1.out.mono ?_
    rintro e w' ⟨rfl, rfl⟩
    go_wp2_with fail
    refine (digit_any ((s[0]'h).toNat / 16) _ (by omega)).mono ?_
    rintro e w1 ⟨rfl, hb1⟩
    go_wp2_with fail
    refine (digit_any ((s[0]'h).toNat % 16) _ (by omega)).mono ?_
    rintro e w2 ⟨rfl, hb2⟩
    go_wp2_with fail
    go_ret2
    exact ⟨ret_two (by rw [HO.out]; rfl) rfl, below_then hb1 hb2⟩
theorem one_itself1 (s : ByteArray) (w : World) (h : 0 < s.size) (hw : width s.data.toList = 1) (h34 : (s[0]'h).toNat ≠ 34) (h92 : (s[0]'h).toNat ≠ 92) (h32 : ¬ (s[0]'h).toNat < 32) (h127 : (s[0]'h).toNat ≠ 127) :
    Calls Try.prog 20 #[.string s] w fun e w' => e = .returned (.tuple #[.string (oneB s.data.toList), .int .i64 (1 : Int)]) ∧ Below w.heap.size w w' := by
  have m1 := width_any s w h
  rw [hw] at m1
  have M1 := Lib.hid m1; clear m1
  have hone : oneB s.data.toList = s.extract 0 1 := by
    obtain ⟨r, hr⟩ := list_cons s h
    rw [oneB, oneL, Lib.extract_eq]
    simp only [hw]
    rw [hr]
    simp only [List.getD_cons_zero]
    rw [if_neg (by decide), if_neg (by omega), if_neg (by omega), if_neg (by omega)]
    rfl
  have HO := Lib.hid hone; clear hone
  have HW := Lib.hid hw; clear hw
  have e1 : (((s[0]'h).toNat : Int) == 34) = false := by simp; omega
  have e2 : (((s[0]'h).toNat : Int) == 92) = false := by simp; omega
  have e3 : (((s[0]'h).toNat : Int) == 127) = false := by simp; omega
  clear h34 h92 h127
  have hc2 : (s[0]'h).toNat < 256 := (s[0]'h).toNat_lt
  go_enter Try.func20, Try.ntmps20
  go_wp2_with fail
  refine M1.out.mono ?_
  rintro e w' ⟨rfl, rfl⟩
  go_wp2_with fail
  go_ret2
  exact ⟨ret_two (by rw [HO.out]) rfl, Below.refl _ _⟩
theorem one_two (s : ByteArray) (w : World) (h : 0 < s.size) (hw : width s.data.toList = 2) (hlt : 1 < s.size) (hs : s.size ≤ 1000000) (hc : (s[0]'h).toNat = 194) (h1 : (s[1]'hlt).toNat < 160) :
    Calls Try.prog 20 #[.string s] w fun e w' => e = .returned (.tuple #[.string (oneB s.data.toList), .int .i64 (2 : Int)]) ∧ Below w.heap.size w w' := by
  have m1 := width_any s w h
  rw [hw] at m1
  have M1 := Lib.hid m1; clear m1
  have hone : oneB s.data.toList = ⟨#[92, 117, 48, 48, hexd ((s[1]'hlt).toNat / 16), hexd ((s[1]'hlt).toNat % 16)]⟩ := by
    obtain ⟨r, hr⟩ := list_cons s h
    have h2 := at_list s 1 hlt
    have e0 : s.data.toList.getD 0 0 = s[0]'h := by rw [hr]; rfl
    have e1 : s.data.toList.getD 1 0 = s[1]'hlt := by rw [List.getD_eq_getElem?_getD, h2]; rfl
    rw [oneB, oneL]
    simp only [hw, e0, e1]
    rw [if_neg (by decide), if_neg (by omega), if_neg (by omega), if_pos ⟨trivial, hc, h1⟩]
  have HO := Lib.hid hone; clear hone
  have HW := Lib.hid hw; clear hw
  have e1 : ((s[0]'h).toNat : Int) = 194 := by omega
  have HC := Lib.hid hc; clear hc
  have hc2 : (s[1]'hlt).toNat < 256 := (s[1]'hlt).toNat_lt
  go_enter Try.func20, Try.ntmps20
  go_wp2_with fail
  refine M1.out.mono ?_
  rintro e w' ⟨rfl, rfl⟩
  go_wp2_with fail
  have hq0 : IntKind.i64.wrap ((s[1]'hlt).toNat : Int) = ((s[1]'hlt).toNat : Int) := IntWalk.i64_in _ (by omega)
  have hq1 : IntKind.i64.wrap ((IntKind.i64.wrap ((s[1]'hlt).toNat : Int)).tdiv 16) = (((s[1]'hlt).toNat / 16 : Nat) : Int) := by
    rw [hq0, Int.tdiv_eq_ediv_of_nonneg (by omega), IntWalk.i64_in _ (by omega)]; omega
  have hq2 : (IntKind.i64.wrap ((s[1]'hlt).toNat : Int)).tmod 16 = (((s[1]'hlt).toNat % 16 : Nat) : Int) := by
    rw [hq0, Int.tmod_eq_emod_of_nonneg (by omega)]; omega
  have HQ1 := Lib.hid hq1; clear hq1
  have HQ2 := Lib.hid hq2; clear hq2
  clear hq0
  go_region_held3 (fun _ => True) (trivial) (first
    | (go_at_call 28; (with_reducible refine (digit_int (IntKind.i64.wrap ((IntKind.i64.wrap ((s[1]'hlt).toNat : Int)).tdiv 16)) ((s[1]'hlt).toNat / 16) _ HQ1.out (by omega)).mono ?_); rintro e w1 ⟨rfl, hb1⟩)
    | (go_at_call 28; (with_reducible refine (digit_int ((IntKind.i64.wrap ((s[1]'hlt).toNat : Int)).tmod 16) ((s[1]'hlt).toNat % 16) _ HQ2.out (by omega)).mono ?_); rintro e w2 ⟨rfl, hb2⟩))
  all_goals
    go_wp2_with fail
    go_ret2
    exact ⟨ret_two (by rw [HO.out]; rfl) rfl, ((Below.refl _ _).drew).trans (below_then hb1 hb2)⟩
theorem one_itself2 (s : ByteArray) (w : World) (h : 0 < s.size) (hw : width s.data.toList = 2) (hlt : 1 < s.size) (hs : s.size ≤ 1000000) (hc : (s[0]'h).toNat ≠ 194 ∨ ((s[0]'h).toNat = 194 ∧ ¬ (s[1]'hlt).toNat < 160)) :
    Calls Try.prog 20 #[.string s] w fun e w' => e = .returned (.tuple #[.string (oneB s.data.toList), .int .i64 (2 : Int)]) ∧ Below w.heap.size w w' := by
  have m1 := width_any s w h
  rw [hw] at m1
  have M1 := Lib.hid m1; clear m1
  have hone : oneB s.data.toList = s.extract 0 2 := by
    obtain ⟨r, hr⟩ := list_cons s h
    have h2 := at_list s 1 hlt
    have e0 : s.data.toList.getD 0 0 = s[0]'h := by rw [hr]; rfl
    have e1 : s.data.toList.getD 1 0 = s[1]'hlt := by rw [List.getD_eq_getElem?_getD, h2]; rfl
    rw [oneB, oneL, Lib.extract_eq]
    simp only [hw, e0, e1]
    rw [if_neg (by decide), if_neg (by omega), if_neg (by omega), if_neg (by omega)]
    rfl
  have HO := Lib.hid hone; clear hone
  have HW := Lib.hid hw; clear hw
  have hc3 : (((s[0]'h).toNat : Int) == 194) = false ∨ ((((s[0]'h).toNat : Int) == 194) = true ∧ ¬ (s[1]'hlt).toNat < 160) := by
    rcases hc with hc | ⟨hc, h1⟩
    · left; simp; omega
    · right; refine ⟨?_, h1⟩; simp; omega
  clear hc
  have hc2 : (s[0]'h).toNat < 256 := (s[0]'h).toNat_lt
  have hc4 : (s[1]'hlt).toNat < 256 := (s[1]'hlt).toNat_lt
  rcases hc3 with hc | ⟨hc, h1⟩
  all_goals
    go_enter Try.func20, Try.ntmps20
    go_wp2_with fail
    refine M1.out.mono ?_
    rintro e w' ⟨rfl, rfl⟩
    go_wp2_with fail
    go_ret2
    exact ⟨ret_two (by rw [HO.out]) rfl, Below.refl _ _⟩
theorem one_itself3 (s : ByteArray) (w : World) (h : 0 < s.size) (hw : width s.data.toList = 3) (hlt : 3 ≤ s.size) :
    Calls Try.prog 20 #[.string s] w fun e w' => e = .returned (.tuple #[.string (oneB s.data.toList), .int .i64 (3 : Int)]) ∧ Below w.heap.size w w' := by
  have m1 := width_any s w h
  rw [hw] at m1
  have M1 := Lib.hid m1; clear m1
  have hone : oneB s.data.toList = s.extract 0 3 := by
    rw [oneB, oneL, Lib.extract_eq]
    simp only [hw]
    rw [if_neg (by decide), if_neg (by simp), if_neg (by simp), if_neg (by simp)]
    rfl
  have HO := Lib.hid hone; clear hone
  have HW := Lib.hid hw; clear hw
  go_enter Try.func20, Try.ntmps20
  go_wp2_with fail
  refine M1.out.mono ?_
  rintro e w' ⟨rfl, rfl⟩
  go_wp2_with fail
  go_ret2
  exact ⟨ret_two (by rw [HO.out]) rfl, Below.refl _ _⟩
theorem one_itself4 (s : ByteArray) (w : World) (h : 0 < s.size) (hw : width s.data.toList = 4) (hlt : 4 ≤ s.size) :
    Calls Try.prog 20 #[.string s] w fun e w' => e = .returned (.tuple #[.string (oneB s.data.toList), .int .i64 (4 : Int)]) ∧ Below w.heap.size w w' := by
  have m1 := width_any s w h
  rw [hw] at m1
  have M1 := Lib.hid m1; clear m1
  have hone : oneB s.data.toList = s.extract 0 4 := by
    rw [oneB, oneL, Lib.extract_eq]
    simp only [hw]
    rw [if_neg (by decide), if_neg (by simp), if_neg (by simp), if_neg (by simp)]
    rfl
  have HO := Lib.hid hone; clear hone
  have HW := Lib.hid hw; clear hw
  go_enter Try.func20, Try.ntmps20
  go_wp2_with fail
  refine M1.out.mono ?_
  rintro e w' ⟨rfl, rfl⟩
  go_wp2_with fail
  go_ret2
  exact ⟨ret_two (by rw [HO.out]) rfl, Below.refl _ _⟩
theorem kind_size (s : ByteArray) : width s.data.toList ≤ s.size := by
  have := width_le s.data.toList
  rw [Lib.size_eq]; exact this
theorem one_any (s : ByteArray) (w : World) (h : 0 < s.size) (hs : s.size ≤ 1000000) :
    Calls Try.prog 20 #[.string s] w fun e w' => e = .returned (.tuple #[.string (oneB s.data.toList), .int .i64 ((step s.data.toList : Nat) : Int)]) ∧ Below w.heap.size w w' := by
  by_cases h0 : width s.data.toList = 0
  · rw [show step s.data.toList = 1 by simp [step, h0]]; exact one_stray s w h h0
  have hst : step s.data.toList = width s.data.toList := by simp [step, h0]
  rw [hst]
  have hle := kind_size s
  by_cases h1 : width s.data.toList = 1
  · rw [h1]
    by_cases hc : (s[0]'h).toNat = 34 ∨ (s[0]'h).toNat = 92
    · exact one_sign s w h h1 hs hc
    · by_cases hd : (s[0]'h).toNat < 32 ∨ (s[0]'h).toNat = 127
      · exact one_low s w h h1 hd
      · exact one_itself1 s w h h1 (by omega) (by omega) (by omega) (by omega)
  by_cases h2 : width s.data.toList = 2
  · rw [h2]
    have hlt : 1 < s.size := by omega
    by_cases hc : (s[0]'h).toNat = 194 ∧ (s[1]'hlt).toNat < 160
    · exact one_two s w h h2 hlt hs hc.1 hc.2
    · exact one_itself2 s w h h2 hlt hs (by omega)
  by_cases h3 : width s.data.toList = 3
  · rw [h3]; exact one_itself3 s w h h3 (by omega)
  have h4 : width s.data.toList = 4 := by have := width_le4 s.data.toList; omega
  rw [h4]; exact one_itself4 s w h h4 (by omega)
end Go.Proofs.Ytjagpamefcgpoaa
