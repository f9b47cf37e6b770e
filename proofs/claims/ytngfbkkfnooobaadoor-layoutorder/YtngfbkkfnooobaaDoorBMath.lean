/-
  Sets of the numbers from 0 to 31 as numbers: their bits, their lists, how many there are. No program.
-/
import GoSem.Claim
namespace Go.Proofs.YtngfbkkfnooobaaDoor.Bt
/-- how many of the lowest k bits are 1 -/
def cnt (m : Nat) : Nat → Nat
  | 0 => 0
  | k + 1 => cnt m k + (m.testBit k).toNat
/-- the numbers below k that a set has, rising -/
def lst (m : Nat) : Nat → List Int
  | 0 => []
  | k + 1 => lst m k ++ (if m.testBit k then [(k : Int)] else [])
/-- the set of one number -/
def one (z : Int) : Nat := if 0 ≤ z ∧ z < 32 then 2 ^ z.toNat else 0
/-- the set of some numbers, one after another -/
def ofL (L : List Int) : Nat := L.foldl (fun m z => m ||| one z) 0
/-- a set without the numbers of another -/
def wo (m a : Nat) : Nat := m ^^^ (m &&& a)
/-- z held within 0 and 32 -/
def hl (z : Int) : Nat := (max 0 (min z 32)).toNat
/-- the set of all numbers below z -/
def bel (z : Int) : Nat := 2 ^ hl z - 1
/-- the number of a list, k bits of it from the highest on -/
def num (L : List Int) : Nat → Nat
  | 0 => 0
  | k + 1 => num L k * 2 + (if ((31 - k : Nat) : Int) ∈ L then 1 else 0)
theorem cnt_add (m a : Nat) : ∀ b, cnt m (a + b) = cnt m a + cnt (m >>> a) b
  | 0 => rfl
  | b + 1 => by
    rw [← Nat.add_assoc, cnt, cnt_add m a b, cnt, Nat.testBit_shiftRight, Nat.add_assoc]
theorem cnt_mod (m k : Nat) : ∀ j, j ≤ k → cnt (m % 2 ^ k) j = cnt m j
  | 0, _ => rfl
  | j + 1, h => by
    rw [cnt, cnt, cnt_mod m k j (by omega), Nat.testBit_mod_two_pow]
    have : decide (j < k) = true := by simp; omega
    rw [this, Bool.true_and]
theorem cnt_le (m : Nat) : ∀ k, cnt m k ≤ k
  | 0 => Nat.le_refl _
  | k + 1 => by
    have := cnt_le m k
    rw [cnt]
    cases m.testBit k <;> simp <;> omega
theorem cnt_lst (m : Nat) : ∀ k, (lst m k).length = cnt m k
  | 0 => rfl
  | k + 1 => by
    rw [lst, cnt, List.length_append, cnt_lst m k]
    cases m.testBit k <;> simp
theorem mem_lst (m : Nat) (z : Int) : ∀ k, z ∈ lst m k ↔ ∃ i, i < k ∧ m.testBit i = true ∧ z = (i : Int)
  | 0 => by simp [lst]
  | k + 1 => by
    rw [lst, List.mem_append, mem_lst m z k]
    constructor
    · rintro (⟨i, h1, h2, h3⟩ | h)
      · exact ⟨i, by omega, h2, h3⟩
      · by_cases hk : m.testBit k = true
        · rw [if_pos hk] at h
          exact ⟨k, by omega, hk, by simpa using h⟩
        · rw [if_neg hk] at h
          cases h
    · rintro ⟨i, h1, h2, h3⟩
      by_cases e : i = k
      · subst e
        right
        rw [if_pos h2]
        simp [h3]
      · exact .inl ⟨i, by omega, h2, h3⟩
theorem bit_one (z : Int) (t : Nat) : (one z).testBit t = decide (t < 32 ∧ (t : Int) = z) := by
  unfold one
  split
  · rename_i h
    rw [Nat.testBit_two_pow]
    by_cases e : z.toNat = t
    · have : t < 32 ∧ (t : Int) = z := by omega
      rw [decide_eq_true e, decide_eq_true this]
    · have : ¬ (t < 32 ∧ (t : Int) = z) := by omega
      rw [decide_eq_false e, decide_eq_false this]
  · rename_i h
    have : ¬ (t < 32 ∧ (t : Int) = z) := by omega
    rw [decide_eq_false this, Nat.zero_testBit]
theorem one_lt (z : Int) : one z < 4294967296 := by
  unfold one
  split
  · exact Nat.pow_lt_pow_right (by decide) (by omega : z.toNat < 32)
  · decide
theorem bit_fold (t : Nat) : ∀ (L : List Int) (a : Nat), (L.foldl (fun m z => m ||| one z) a).testBit t = (a.testBit t || decide (t < 32 ∧ (t : Int) ∈ L))
  | [], a => by simp
  | z :: L, a => by
    rw [List.foldl_cons, bit_fold t L, Nat.testBit_or, bit_one]
    by_cases h1 : t < 32 <;> by_cases h2 : (t : Int) = z <;> by_cases h3 : (t : Int) ∈ L <;> cases a.testBit t <;> simp [h1, h2, h3]
    all_goals (subst h2; simp_all)
theorem bit_of (L : List Int) (t : Nat) : (ofL L).testBit t = decide (t < 32 ∧ (t : Int) ∈ L) := by
  unfold ofL
  rw [bit_fold, Nat.zero_testBit, Bool.false_or]
theorem ofL_snoc (L : List Int) (z : Int) : ofL (L ++ [z]) = ofL L ||| one z := by simp [ofL, List.foldl_append]
theorem lt_of_bits {n : Nat} (h : ∀ t, 32 ≤ t → n.testBit t = false) : n < 4294967296 := Nat.lt_pow_two_of_testBit (n := 32) n (fun i hi => h i hi)
theorem bits_of_lt {n : Nat} (h : n < 4294967296) (t : Nat) (ht : 32 ≤ t) : n.testBit t = false :=
  Nat.testBit_lt_two_pow (Nat.lt_of_lt_of_le h (Nat.pow_le_pow_right (by decide) ht : 2 ^ 32 ≤ 2 ^ t))
theorem of_lt (L : List Int) : ofL L < 4294967296 := lt_of_bits fun t ht => by rw [bit_of]; simp; omega
theorem or_lt {a b : Nat} (ha : a < 4294967296) (hb : b < 4294967296) : a ||| b < 4294967296 := Nat.or_lt_two_pow (n := 32) ha hb
theorem and_lt {a b : Nat} (ha : a < 4294967296) : a &&& b < 4294967296 := Nat.lt_of_le_of_lt Nat.and_le_left ha
theorem bit_wo (m a t : Nat) : (wo m a).testBit t = (m.testBit t && !a.testBit t) := by
  unfold wo
  rw [Nat.testBit_xor, Nat.testBit_and]
  cases m.testBit t <;> cases a.testBit t <;> rfl
theorem wo_lt {m a : Nat} (h : m < 4294967296) : wo m a < 4294967296 := lt_of_bits fun t ht => by rw [bit_wo, bits_of_lt h t ht]; rfl
theorem bit_bel (z : Int) (t : Nat) : (bel z).testBit t = decide (t < 32 ∧ (t : Int) < z) := by
  unfold bel
  rw [Nat.testBit_two_pow_sub_one]
  have : t < hl z ↔ t < 32 ∧ (t : Int) < z := by unfold hl; omega
  exact decide_eq_decide.2 this
theorem bel_lt (z : Int) : bel z < 4294967296 := lt_of_bits fun t ht => by rw [bit_bel]; simp; omega
theorem bit_num (L : List Int) : ∀ k, k ≤ 32 → ∀ t, (num L k).testBit t = decide (t < k ∧ ((32 - k + t : Nat) : Int) ∈ L)
  | 0, _, t => by simp [num]
  | k + 1, hk, t => by
    rw [num]
    cases t with
    | zero =>
      rw [Nat.testBit_zero]
      by_cases h : ((31 - k : Nat) : Int) ∈ L
      · rw [if_pos h]
        have e : 32 - (k + 1) + 0 = 31 - k := by omega
        rw [e, decide_eq_true (show 0 < k + 1 ∧ _ from ⟨by omega, h⟩)]
        simp
      · rw [if_neg h]
        have e : 32 - (k + 1) + 0 = 31 - k := by omega
        rw [e, decide_eq_false (show ¬ (0 < k + 1 ∧ _) from fun x => h x.2)]
        simp
    | succ t =>
      rw [Nat.testBit_succ]
      have e : (num L k * 2 + if ((31 - k : Nat) : Int) ∈ L then 1 else 0) / 2 = num L k := by split <;> omega
      rw [e, bit_num L k (by omega) t]
      have e2 : 32 - (k + 1) + (t + 1) = 32 - k + t := by omega
      rw [e2]
      exact decide_eq_decide.2 ⟨fun x => ⟨by omega, x.2⟩, fun x => ⟨by omega, x.2⟩⟩
theorem num_lt (L : List Int) : ∀ k, num L k < 2 ^ k
  | 0 => by simp [num]
  | k + 1 => by
    have := num_lt L k
    rw [num, Nat.pow_succ]
    split <;> omega
theorem bit_num32 (L : List Int) (t : Nat) : (num L 32).testBit t = decide (t < 32 ∧ (t : Int) ∈ L) := by
  rw [bit_num L 32 (Nat.le_refl _)]
  simp
/-- the set of numbers is their list's number -/
theorem of_num (L : List Int) : ofL L = num L 32 := Nat.eq_of_testBit_eq fun t => by rw [bit_of, bit_num32]
theorem mem_all (m : Nat) (t : Nat) : (t : Int) ∈ lst m 32 ↔ t < 32 ∧ m.testBit t = true := by
  rw [mem_lst]
  constructor
  · rintro ⟨i, h1, h2, h3⟩
    obtain rfl : t = i := by omega
    exact ⟨h1, h2⟩
  · rintro ⟨h1, h2⟩
    exact ⟨t, h1, h2, rfl⟩
/-- a set and a number: the number of its list with that number behind -/
theorem with_num (m : Nat) (z : Int) (h : m < 4294967296) : m ||| one z = num (lst m 32 ++ [z]) 32 := Nat.eq_of_testBit_eq fun t => by
  rw [bit_num32, Nat.testBit_or, bit_one]
  by_cases ht : t < 32
  · have e := mem_all m t
    cases hb : m.testBit t <;> simp [ht, hb] at e <;> simp [ht, e]
  · rw [bits_of_lt h t (by omega)]
    simp [ht]
/-- a set without a number: the number of its list but for that number -/
theorem without_num (m : Nat) (z : Int) (h : m < 4294967296) : wo m (one z) = num ((lst m 32).filter (fun x => x != z)) 32 := Nat.eq_of_testBit_eq fun t => by
  rw [bit_num32, bit_wo, bit_one]
  by_cases ht : t < 32
  · have e := mem_all m t
    cases hb : m.testBit t <;> simp [ht, hb] at e <;> simp [ht, e]
  · rw [bits_of_lt h t (by omega)]
    simp [ht]
theorem and_one (m : Nat) (z : Int) : m &&& one z ≠ 0 ↔ z ∈ lst m 32 := by
  constructor
  · intro h
    obtain ⟨t, ht⟩ : ∃ t, (m &&& one z).testBit t = true := by
      apply Classical.byContradiction
      intro hn
      apply h
      apply Nat.eq_of_testBit_eq
      intro i
      rw [Nat.zero_testBit]
      cases hb : (m &&& one z).testBit i with
      | false => rfl
      | true => exact absurd ⟨i, hb⟩ hn
    rw [Nat.testBit_and, bit_one, Bool.and_eq_true, decide_eq_true_eq] at ht
    obtain ⟨h1, h2, rfl⟩ := ht
    exact (mem_all m t).2 ⟨h2, h1⟩
  · intro h h0
    obtain ⟨i, h1, h2, rfl⟩ := (mem_lst m z 32).1 h
    have : (m &&& one (i : Int)).testBit i = true := by rw [Nat.testBit_and, bit_one, h2]; simp [h1]
    rw [h0, Nat.zero_testBit] at this
    cases this
/-- how many of a list are less than z -/
def less (L : List Int) (z : Int) : Nat := (L.filter (fun x => decide (x < z))).length
theorem cnt_bel (m : Nat) (z : Int) : ∀ k, k ≤ 32 → cnt (m &&& bel z) k = less (lst m k) z
  | 0, _ => rfl
  | k + 1, hk => by
    rw [cnt, cnt_bel m z k (by omega), Nat.testBit_and, bit_bel, lst]
    unfold less
    rw [List.filter_append, List.length_append]
    have h32 : k < 32 := by omega
    by_cases hz : (k : Int) < z <;> cases m.testBit k <;> simp [hz, h32]
theorem less_append (A B : List Int) (z : Int) : less (A ++ B) z = less A z + less B z := by simp [less, List.filter_append]
theorem less_le (L : List Int) (z : Int) : less L z ≤ L.length := by unfold less; exact List.length_filter_le _ _
theorem cnt_add_div (m a b : Nat) : cnt m (a + b) = cnt m a + cnt (m / 2 ^ a) b := by rw [cnt_add, Nat.shiftRight_eq_div_pow]
/-- 32 bits by four bytes -/
theorem cnt_bytes (m : Nat) : cnt m 32 = cnt (m / 16777216) 8 + cnt (m / 65536 % 256) 8 + cnt (m / 256 % 256) 8 + cnt (m % 256) 8 := by
  have e1 : cnt m 32 = cnt m 8 + cnt (m / 256) 24 := cnt_add_div m 8 24
  have e2 : cnt (m / 256) 24 = cnt (m / 256) 8 + cnt (m / 256 / 256) 16 := cnt_add_div (m / 256) 8 16
  have e3 : cnt (m / 256 / 256) 16 = cnt (m / 256 / 256) 8 + cnt (m / 256 / 256 / 256) 8 := cnt_add_div (m / 256 / 256) 8 8
  have m1 : cnt (m % 256) 8 = cnt m 8 := cnt_mod m 8 8 (Nat.le_refl _)
  have m2 : cnt (m / 256 % 256) 8 = cnt (m / 256) 8 := cnt_mod (m / 256) 8 8 (Nat.le_refl _)
  have m3 : cnt (m / 65536 % 256) 8 = cnt (m / 65536) 8 := cnt_mod (m / 65536) 8 8 (Nat.le_refl _)
  rw [Nat.div_div_eq_div_mul m 256 256, Nat.div_div_eq_div_mul] at e3
  rw [Nat.div_div_eq_div_mul m 256 256] at e2
  simp only [Nat.reduceMul] at e2 e3
  omega
theorem list_le (m k : Nat) : (lst m k).length ≤ k := by rw [cnt_lst]; exact cnt_le m k
theorem bit_div (m j : Nat) : (m / 2 ^ j % 2 = 1) ↔ m.testBit j = true := by
  rw [Nat.testBit_eq_decide_div_mod_eq, decide_eq_true_eq]
theorem half (m j : Nat) : m / 2 ^ j / 2 = m / 2 ^ (j + 1) := by rw [Nat.div_div_eq_div_mul, Nat.pow_succ]
end Go.Proofs.YtngfbkkfnooobaaDoor.Bt
