/-
  Contracts of the reference's more and Width, for every string that is not empty.
-/
import Derived.Test.YtjagpamefcgpoaaPrint
namespace Go.Proofs.Ytjagpamefcgpoaa
open Go.RowKit
set_option maxHeartbeats 400000
set_option maxRecDepth 100000
theorem at_list (s : ByteArray) (k : Nat) (h : k < s.size) : s.data.toList[k]? = some (s[k]'h) := by
  have hl : k < s.data.toList.length := by rw [← Lib.size_eq]; exact h
  rw [List.getElem?_eq_getElem hl]
  rfl
theorem more_any (s : ByteArray) (k lo hi : Nat) (w : World) :
    Calls Try.prog 29 #[.string s, .int .i64 (k : Int), .int .u8 (lo : Int), .int .u8 (hi : Int)] w fun e w' => e = .returned (.bool (moreB s.data.toList k lo hi)) ∧ w = w' := by
  by_cases h : k < s.size
  · have e : moreB s.data.toList k lo hi = (decide (lo ≤ (s[k]'h).toNat) && decide ((s[k]'h).toNat ≤ hi)) := by
      rw [moreB, at_list s k h]
    have HE := Lib.hid e; clear e
    by_cases h1 : lo ≤ (s[k]'h).toNat
    · by_cases h2 : (s[k]'h).toNat ≤ hi
      · go_enter Try.func29, Try.ntmps29
        go_wp2
        go_ret
        exact ⟨ret_bool (by rw [HE.out]; simp [h1, h2]), rfl⟩
      · go_enter Try.func29, Try.ntmps29
        go_wp2
        go_ret
        exact ⟨ret_bool (by rw [HE.out]; simp [h2]), rfl⟩
    · go_enter Try.func29, Try.ntmps29
      go_wp2
      go_ret
      exact ⟨ret_bool (by rw [HE.out]; simp [h1]), rfl⟩
  · have e : moreB s.data.toList k lo hi = false := by
      rw [moreB, List.getElem?_eq_none (by rw [← Lib.size_eq]; omega)]
    have HE := Lib.hid e; clear e
    go_enter Try.func29, Try.ntmps29
    go_wp2
    go_ret
    exact ⟨ret_bool (by rw [HE.out]), rfl⟩
theorem list_cons (s : ByteArray) (h : 0 < s.size) : ∃ r, s.data.toList = (s[0]'h) :: r := by
  have e := at_list s 0 h
  cases hl : s.data.toList with
  | nil => rw [hl] at e; simp at e
  | cons a r => rw [hl] at e; simp at e; exact ⟨r, by rw [e]⟩
theorem width_eq (s : ByteArray) (h : 0 < s.size) : width s.data.toList =
    if (s[0]'h).toNat < 128 then 1
    else if 194 ≤ (s[0]'h).toNat ∧ (s[0]'h).toNat ≤ 223 then (if moreB s.data.toList 1 128 191 then 2 else 0)
    else if 224 ≤ (s[0]'h).toNat ∧ (s[0]'h).toNat ≤ 239 then (if moreB s.data.toList 1 (if (s[0]'h).toNat = 224 then 160 else 128) (if (s[0]'h).toNat = 237 then 159 else 191) && moreB s.data.toList 2 128 191 then 3 else 0)
    else if 240 ≤ (s[0]'h).toNat ∧ (s[0]'h).toNat ≤ 244 then (if moreB s.data.toList 1 (if (s[0]'h).toNat = 240 then 144 else 128) (if (s[0]'h).toNat = 244 then 143 else 191) && moreB s.data.toList 2 128 191 && moreB s.data.toList 3 128 191 then 4 else 0)
    else 0 := by
  obtain ⟨r, hr⟩ := list_cons s h
  have hm : ∀ k lo hi, moreB s.data.toList (k + 1) lo hi = moreB r k lo hi := by
    intro k lo hi; rw [hr]; simp [moreB]
  rw [hm 0, hm 0, hm 0, hm 1, hm 2]
  generalize s[0] = a at *
  rw [hr, width]
theorem width2 (s : ByteArray) (w : World) (h : 0 < s.size) (h1 : 194 ≤ (s[0]'h).toNat) (h2 : (s[0]'h).toNat ≤ 223) :
    Calls Try.prog 21 #[.string s] w fun e w' => e = .returned (.int .i64 ((if moreB s.data.toList 1 128 191 then 2 else 0 : Nat) : Int)) ∧ w = w' := by
  have M1 := Lib.hid (more_any s 1 128 191 w)
  have h3 : ¬ (s[0]'h).toNat < 128 := by omega
  cases hm1 : moreB s.data.toList 1 128 191
  all_goals
    rw [hm1] at M1
    clear hm1
    go_enter Try.func21, Try.ntmps21
    go_wp2_with fail
    try (refine M1.out.mono ?_; rintro e w' ⟨rfl, rfl⟩)
    go_wp2_with fail
    go_ret
    exact ⟨rfl, rfl⟩
theorem width3a (s : ByteArray) (w : World) (h : 0 < s.size) (hc : (s[0]'h).toNat = 224) :
    Calls Try.prog 21 #[.string s] w fun e w' => e = .returned (.int .i64 ((if moreB s.data.toList 1 160 191 && moreB s.data.toList 2 128 191 then 3 else 0 : Nat) : Int)) ∧ w = w' := by
  have M1 := Lib.hid (more_any s 1 160 191 w)
  have M2 := Lib.hid (more_any s 2 128 191 w)
  have e1 : ((s[0]'h).toNat : Int) = 224 := by omega
  have HC := Lib.hid hc; clear hc
  cases hm1 : moreB s.data.toList 1 160 191 <;> cases hm2 : moreB s.data.toList 2 128 191
  all_goals
    rw [hm1] at M1
    clear hm1
    rw [hm2] at M2
    clear hm2
    go_enter Try.func21, Try.ntmps21
    go_wp2_with fail
    try (refine M1.out.mono ?_; rintro e w' ⟨rfl, rfl⟩)
    go_wp2_with fail
    try (refine M2.out.mono ?_; rintro e w' ⟨rfl, rfl⟩)
    go_wp2_with fail
    go_ret
    exact ⟨rfl, rfl⟩
theorem width3b (s : ByteArray) (w : World) (h : 0 < s.size) (hc : (s[0]'h).toNat = 237) :
    Calls Try.prog 21 #[.string s] w fun e w' => e = .returned (.int .i64 ((if moreB s.data.toList 1 128 159 && moreB s.data.toList 2 128 191 then 3 else 0 : Nat) : Int)) ∧ w = w' := by
  have M1 := Lib.hid (more_any s 1 128 159 w)
  have M2 := Lib.hid (more_any s 2 128 191 w)
  have e1 : ((s[0]'h).toNat : Int) = 237 := by omega
  have HC := Lib.hid hc; clear hc
  cases hm1 : moreB s.data.toList 1 128 159 <;> cases hm2 : moreB s.data.toList 2 128 191
  all_goals
    rw [hm1] at M1
    clear hm1
    rw [hm2] at M2
    clear hm2
    go_enter Try.func21, Try.ntmps21
    go_wp2_with fail
    try (refine M1.out.mono ?_; rintro e w' ⟨rfl, rfl⟩)
    go_wp2_with fail
    try (refine M2.out.mono ?_; rintro e w' ⟨rfl, rfl⟩)
    go_wp2_with fail
    go_ret
    exact ⟨rfl, rfl⟩
theorem width3c (s : ByteArray) (w : World) (h : 0 < s.size) (h1 : 224 ≤ (s[0]'h).toNat) (h2 : (s[0]'h).toNat ≤ 239) (n1 : (s[0]'h).toNat ≠ 224) (n2 : (s[0]'h).toNat ≠ 237) :
    Calls Try.prog 21 #[.string s] w fun e w' => e = .returned (.int .i64 ((if moreB s.data.toList 1 128 191 && moreB s.data.toList 2 128 191 then 3 else 0 : Nat) : Int)) ∧ w = w' := by
  have M1 := Lib.hid (more_any s 1 128 191 w)
  have M2 := Lib.hid (more_any s 2 128 191 w)
  have h3 : ¬ (s[0]'h).toNat < 128 := by omega
  have h4 : ¬ (s[0]'h).toNat ≤ 223 := by omega
  have h5 : 194 ≤ (s[0]'h).toNat := by omega
  have e1 : (((s[0]'h).toNat : Int) == 224) = false := by simp; omega
  have e2 : (((s[0]'h).toNat : Int) == 237) = false := by simp; omega
  clear n1 n2
  cases hm1 : moreB s.data.toList 1 128 191 <;> cases hm2 : moreB s.data.toList 2 128 191
  all_goals
    rw [hm1] at M1
    clear hm1
    rw [hm2] at M2
    clear hm2
    go_enter Try.func21, Try.ntmps21
    go_wp2_with fail
    try (refine M1.out.mono ?_; rintro e w' ⟨rfl, rfl⟩)
    go_wp2_with fail
    try (refine M2.out.mono ?_; rintro e w' ⟨rfl, rfl⟩)
    go_wp2_with fail
    go_ret
    exact ⟨rfl, rfl⟩
theorem width4a (s : ByteArray) (w : World) (h : 0 < s.size) (hc : (s[0]'h).toNat = 240) :
    Calls Try.prog 21 #[.string s] w fun e w' => e = .returned (.int .i64 ((if moreB s.data.toList 1 144 191 && moreB s.data.toList 2 128 191 && moreB s.data.toList 3 128 191 then 4 else 0 : Nat) : Int)) ∧ w = w' := by
  have M1 := Lib.hid (more_any s 1 144 191 w)
  have M2 := Lib.hid (more_any s 2 128 191 w)
  have M3 := Lib.hid (more_any s 3 128 191 w)
  have e1 : ((s[0]'h).toNat : Int) = 240 := by omega
  have HC := Lib.hid hc; clear hc
  cases hm1 : moreB s.data.toList 1 144 191 <;> cases hm2 : moreB s.data.toList 2 128 191 <;> cases hm3 : moreB s.data.toList 3 128 191
  all_goals
    rw [hm1] at M1
    clear hm1
    rw [hm2] at M2
    clear hm2
    rw [hm3] at M3
    clear hm3
    go_enter Try.func21, Try.ntmps21
    go_wp2_with fail
    try (refine M1.out.mono ?_; rintro e w' ⟨rfl, rfl⟩)
    go_wp2_with fail
    try (refine M2.out.mono ?_; rintro e w' ⟨rfl, rfl⟩)
    go_wp2_with fail
    try (refine M3.out.mono ?_; rintro e w' ⟨rfl, rfl⟩)
    go_wp2_with fail
    go_ret
    exact ⟨rfl, rfl⟩
theorem width4b (s : ByteArray) (w : World) (h : 0 < s.size) (hc : (s[0]'h).toNat = 244) :
    Calls Try.prog 21 #[.string s] w fun e w' => e = .returned (.int .i64 ((if moreB s.data.toList 1 128 143 && moreB s.data.toList 2 128 191 && moreB s.data.toList 3 128 191 then 4 else 0 : Nat) : Int)) ∧ w = w' := by
  have M1 := Lib.hid (more_any s 1 128 143 w)
  have M2 := Lib.hid (more_any s 2 128 191 w)
  have M3 := Lib.hid (more_any s 3 128 191 w)
  have e1 : ((s[0]'h).toNat : Int) = 244 := by omega
  have HC := Lib.hid hc; clear hc
  cases hm1 : moreB s.data.toList 1 128 143 <;> cases hm2 : moreB s.data.toList 2 128 191 <;> cases hm3 : moreB s.data.toList 3 128 191
  all_goals
    rw [hm1] at M1
    clear hm1
    rw [hm2] at M2
    clear hm2
    rw [hm3] at M3
    clear hm3
    go_enter Try.func21, Try.ntmps21
    go_wp2_with fail
    try (refine M1.out.mono ?_; rintro e w' ⟨rfl, rfl⟩)
    go_wp2_with fail
    try (refine M2.out.mono ?_; rintro e w' ⟨rfl, rfl⟩)
    go_wp2_with fail
    try (refine M3.out.mono ?_; rintro e w' ⟨rfl, rfl⟩)
    go_wp2_with fail
    go_ret
    exact ⟨rfl, rfl⟩
theorem width4c (s : ByteArray) (w : World) (h : 0 < s.size) (h1 : 240 ≤ (s[0]'h).toNat) (h2 : (s[0]'h).toNat ≤ 244) (n1 : (s[0]'h).toNat ≠ 240) (n2 : (s[0]'h).toNat ≠ 244) :
    Calls Try.prog 21 #[.string s] w fun e w' => e = .returned (.int .i64 ((if moreB s.data.toList 1 128 191 && moreB s.data.toList 2 128 191 && moreB s.data.toList 3 128 191 then 4 else 0 : Nat) : Int)) ∧ w = w' := by
  have M1 := Lib.hid (more_any s 1 128 191 w)
  have M2 := Lib.hid (more_any s 2 128 191 w)
  have M3 := Lib.hid (more_any s 3 128 191 w)
  have h3 : ¬ (s[0]'h).toNat < 128 := by omega
  have h4 : ¬ (s[0]'h).toNat ≤ 223 := by omega
  have h5 : 194 ≤ (s[0]'h).toNat := by omega
  have h6 : ¬ (s[0]'h).toNat ≤ 239 := by omega
  have h7 : 224 ≤ (s[0]'h).toNat := by omega
  have e1 : (((s[0]'h).toNat : Int) == 240) = false := by simp; omega
  have e2 : (((s[0]'h).toNat : Int) == 244) = false := by simp; omega
  clear n1 n2
  cases hm1 : moreB s.data.toList 1 128 191 <;> cases hm2 : moreB s.data.toList 2 128 191 <;> cases hm3 : moreB s.data.toList 3 128 191
  all_goals
    rw [hm1] at M1
    clear hm1
    rw [hm2] at M2
    clear hm2
    rw [hm3] at M3
    clear hm3
    go_enter Try.func21, Try.ntmps21
    go_wp2_with fail
    try (refine M1.out.mono ?_; rintro e w' ⟨rfl, rfl⟩)
    go_wp2_with fail
    try (refine M2.out.mono ?_; rintro e w' ⟨rfl, rfl⟩)
    go_wp2_with fail
    try (refine M3.out.mono ?_; rintro e w' ⟨rfl, rfl⟩)
    go_wp2_with fail
    go_ret
    exact ⟨rfl, rfl⟩
theorem width1 (s : ByteArray) (w : World) (h : 0 < s.size) (h1 : (s[0]'h).toNat < 128) :
    Calls Try.prog 21 #[.string s] w fun e w' => e = .returned (.int .i64 ((1 : Nat) : Int)) ∧ w = w' := by
  go_enter Try.func21, Try.ntmps21
  go_wp2_with fail
  go_ret
  exact ⟨rfl, rfl⟩
theorem width0a (s : ByteArray) (w : World) (h : 0 < s.size) (h1 : ¬ (s[0]'h).toNat < 128) (h2 : ¬ 194 ≤ (s[0]'h).toNat) :
    Calls Try.prog 21 #[.string s] w fun e w' => e = .returned (.int .i64 ((0 : Nat) : Int)) ∧ w = w' := by
  have h4 : ¬ 224 ≤ (s[0]'h).toNat := by omega
  have h5 : ¬ 240 ≤ (s[0]'h).toNat := by omega
  go_enter Try.func21, Try.ntmps21
  go_wp2_with fail
  go_ret
  exact ⟨rfl, rfl⟩
theorem width0b (s : ByteArray) (w : World) (h : 0 < s.size) (h1 : ¬ (s[0]'h).toNat ≤ 244) :
    Calls Try.prog 21 #[.string s] w fun e w' => e = .returned (.int .i64 ((0 : Nat) : Int)) ∧ w = w' := by
  have h3 : ¬ (s[0]'h).toNat < 128 := by omega
  have h4 : ¬ (s[0]'h).toNat ≤ 223 := by omega
  have h5 : 194 ≤ (s[0]'h).toNat := by omega
  have h6 : ¬ (s[0]'h).toNat ≤ 239 := by omega
  have h7 : 224 ≤ (s[0]'h).toNat := by omega
  have h8 : 240 ≤ (s[0]'h).toNat := by omega
  go_enter Try.func21, Try.ntmps21
  go_wp2_with fail
  go_ret
  exact ⟨rfl, rfl⟩
theorem width_any (s : ByteArray) (w : World) (h : 0 < s.size) :
    Calls Try.prog 21 #[.string s] w fun e w' => e = .returned (.int .i64 ((width s.data.toList : Nat) : Int)) ∧ w = w' := by
  rw [width_eq s h]
  by_cases h1 : (s[0]'h).toNat < 128
  · rw [if_pos h1]; exact width1 s w h h1
  rw [if_neg h1]
  by_cases h2 : 194 ≤ (s[0]'h).toNat ∧ (s[0]'h).toNat ≤ 223
  · rw [if_pos h2]; exact width2 s w h h2.1 h2.2
  rw [if_neg h2]
  by_cases h3 : 224 ≤ (s[0]'h).toNat ∧ (s[0]'h).toNat ≤ 239
  · rw [if_pos h3]
    by_cases c1 : (s[0]'h).toNat = 224
    · have c3 : ¬ (s[0]'h).toNat = 237 := by omega
      rw [if_pos c1, if_neg c3]; exact width3a s w h c1
    · by_cases c2 : (s[0]'h).toNat = 237
      · rw [if_neg c1, if_pos c2]; exact width3b s w h c2
      · rw [if_neg c1, if_neg c2]; exact width3c s w h h3.1 h3.2 c1 c2
  rw [if_neg h3]
  by_cases h4 : 240 ≤ (s[0]'h).toNat ∧ (s[0]'h).toNat ≤ 244
  · rw [if_pos h4]
    by_cases c1 : (s[0]'h).toNat = 240
    · have c3 : ¬ (s[0]'h).toNat = 244 := by omega
      rw [if_pos c1, if_neg c3]; exact width4a s w h c1
    · by_cases c2 : (s[0]'h).toNat = 244
      · rw [if_neg c1, if_pos c2]; exact width4b s w h c2
      · rw [if_neg c1, if_neg c2]; exact width4c s w h h4.1 h4.2 c1 c2
  rw [if_neg h4]
  by_cases h5 : 194 ≤ (s[0]'h).toNat
  · exact width0b s w h (by omega)
  · exact width0a s w h h1 h5
end Go.Proofs.Ytjagpamefcgpoaa
