/-
  Sets of the numbers from 0 to 31 as numbers: their bits, their lists, how many there are. No program.
-/
import GoSem.Claim
import Derived.Test.YtmbdimonfdncpaaGreatDoorRows
import Derived.WalkKit
import Derived.WalkLawsBesides
import Derived.Outline
import Derived.IntWalk
import Derived.Lib.Hide
import Derived.Laws.IdiomStrings
import Derived.Laws.MakeOwn
import Derived.OwnWalk
import Derived.Deep.QuietTactic
import Derived.BigQuiet
import Derived.WalkSmall
import Derived.Lib.BitFns
import Derived.Maps.AppendAt
import Derived.Test.YtmbdimonfdncpaaGreatDoorApp
import Derived.Lib.TrailingZeros
namespace Go.Proofs.YtmbdimonfdncpaaGreatDoor.Bt
/-- how many of the lowest k bits are 1 -/
def cnt (m : Nat) : Nat → Nat
  | 0 => 0
  | k + 1 => cnt m k + (m.testBit k).toNat
/-- the numbers below k that a set has, rising -/
def lst (m : Nat) : Nat → List Int
  | 0 => []
  | k + 1 => lst m k ++ (if m.testBit k then [(k : Int)] else [])
/-- the set of one number -/
def one (z : Int) : Nat := if 0 ≤ z ∧ z < 32 then 2 ^ z.toNat else 0
/-- the set of some numbers, one after another -/
def ofL (L : List Int) : Nat := L.foldl (fun m z => m ||| one z) 0
/-- a set without the numbers of another -/
def wo (m a : Nat) : Nat := m ^^^ (m &&& a)
/-- z held within 0 and 32 -/
def hl (z : Int) : Nat := (max 0 (min z 32)).toNat
/-- the set of all numbers below z -/
def bel (z : Int) : Nat := 2 ^ hl z - 1
/-- the number of a list, k bits of it from the highest on -/
def num (L : List Int) : Nat → Nat
  | 0 => 0
  | k + 1 => num L k * 2 + (if ((31 - k : Nat) : Int) ∈ L then 1 else 0)
theorem cnt_add (m a : Nat) : ∀ b, cnt m (a + b) = cnt m a + cnt (m >>> a) b
  | 0 => rfl
  | b + 1 => by
    rw [← Nat.add_assoc, cnt, cnt_add m a b, cnt, Nat.testBit_shiftRight, Nat.add_assoc]
theorem cnt_mod (m k : Nat) : ∀ j, j ≤ k → cnt (m % 2 ^ k) j = cnt m j
  | 0, _ => rfl
  | j + 1, h => by
    rw [cnt, cnt, cnt_mod m k j (by omega), Nat.testBit_mod_two_pow]
    have : decide (j < k) = true := by simp; omega
    rw [this, Bool.true_and]
theorem cnt_le (m : Nat) : ∀ k, cnt m k ≤ k
  | 0 => Nat.le_refl _
  | k + 1 => by
    have := cnt_le m k
    rw [cnt]
    cases m.testBit k <;> simp <;> omega
theorem cnt_lst (m : Nat) : ∀ k, (lst m k).length = cnt m k
  | 0 => rfl
  | k + 1 => by
    rw [lst, cnt, List.length_append, cnt_lst m k]
    cases m.testBit k <;> simp
theorem mem_lst (m : Nat) (z : Int) : ∀ k, z ∈ lst m k ↔ ∃ i, i < k ∧ m.testBit i = true ∧ z = (i : Int)
  | 0 => by simp [lst]
  | k + 1 => by
    rw [lst, List.mem_append, mem_lst m z k]
    constructor
    · rintro (⟨i, h1, h2, h3⟩ | h)
      · exact ⟨i, by omega, h2, h3⟩
      · by_cases hk : m.testBit k = true
        · rw [if_pos hk] at h
          exact ⟨k, by omega, hk, by simpa using h⟩
        · rw [if_neg hk] at h
          cases h
    · rintro ⟨i, h1, h2, h3⟩
      by_cases e : i = k
      · subst e
        right
        rw [if_pos h2]
        simp [h3]
      · exact .inl ⟨i, by omega, h2, h3⟩
theorem bit_one (z : Int) (t : Nat) : (one z).testBit t = decide (t < 32 ∧ (t : Int) = z) := by
  unfold one
  split
  · rename_i h
    rw [Nat.testBit_two_pow]
    by_cases e : z.toNat = t
    · have : t < 32 ∧ (t : Int) = z := by omega
      rw [decide_eq_true e, decide_eq_true this]
    · have : ¬ (t < 32 ∧ (t : Int) = z) := by omega
      rw [decide_eq_false e, decide_eq_false this]
  · rename_i h
    have : ¬ (t < 32 ∧ (t : Int) = z) := by omega
    rw [decide_eq_false this, Nat.zero_testBit]
theorem one_lt (z : Int) : one z < 4294967296 := by
  unfold one
  split
  · exact Nat.pow_lt_pow_right (by decide) (by omega : z.toNat < 32)
  · decide
theorem bit_fold (t : Nat) : ∀ (L : List Int) (a : Nat), (L.foldl (fun m z => m ||| one z) a).testBit t = (a.testBit t || decide (t < 32 ∧ (t : Int) ∈ L))
  | [], a => by simp
  | z :: L, a => by
    rw [List.foldl_cons, bit_fold t L, Nat.testBit_or, bit_one]
    by_cases h1 : t < 32 <;> by_cases h2 : (t : Int) = z <;> by_cases h3 : (t : Int) ∈ L <;> cases a.testBit t <;> simp [h1, h2, h3]
    all_goals (subst h2; simp_all)
theorem bit_of (L : List Int) (t : Nat) : (ofL L).testBit t = decide (t < 32 ∧ (t : Int) ∈ L) := by
  unfold ofL
  rw [bit_fold, Nat.zero_testBit, Bool.false_or]
theorem ofL_snoc (L : List Int) (z : Int) : ofL (L ++ [z]) = ofL L ||| one z := by simp [ofL, List.foldl_append]
theorem lt_of_bits {n : Nat} (h : ∀ t, 32 ≤ t → n.testBit t = false) : n < 4294967296 := Nat.lt_pow_two_of_testBit (n := 32) n (fun i hi => h i hi)
theorem bits_of_lt {n : Nat} (h : n < 4294967296) (t : Nat) (ht : 32 ≤ t) : n.testBit t = false :=
  Nat.testBit_lt_two_pow (Nat.lt_of_lt_of_le h (Nat.pow_le_pow_right (by decide) ht : 2 ^ 32 ≤ 2 ^ t))
theorem of_lt (L : List Int) : ofL L < 4294967296 := lt_of_bits fun t ht => by rw [bit_of]; simp; omega
theorem or_lt {a b : Nat} (ha : a < 4294967296) (hb : b < 4294967296) : a ||| b < 4294967296 := Nat.or_lt_two_pow (n := 32) ha hb
theorem and_lt {a b : Nat} (ha : a < 4294967296) : a &&& b < 4294967296 := Nat.lt_of_le_of_lt Nat.and_le_left ha
theorem bit_wo (m a t : Nat) : (wo m a).testBit t = (m.testBit t && !a.testBit t) := by
  unfold wo
  rw [Nat.testBit_xor, Nat.testBit_and]
  cases m.testBit t <;> cases a.testBit t <;> rfl
theorem wo_lt {m a : Nat} (h : m < 4294967296) : wo m a < 4294967296 := lt_of_bits fun t ht => by rw [bit_wo, bits_of_lt h t ht]; rfl
theorem bit_bel (z : Int) (t : Nat) : (bel z).testBit t = decide (t < 32 ∧ (t : Int) < z) := by
  unfold bel
  rw [Nat.testBit_two_pow_sub_one]
  have : t < hl z ↔ t < 32 ∧ (t : Int) < z := by unfold hl; omega
  exact decide_eq_decide.2 this
theorem bel_lt (z : Int) : bel z < 4294967296 := lt_of_bits fun t ht => by rw [bit_bel]; simp; omega
theorem bit_num (L : List Int) : ∀ k, k ≤ 32 → ∀ t, (num L k).testBit t = decide (t < k ∧ ((32 - k + t : Nat) : Int) ∈ L)
  | 0, _, t => by simp [num]
  | k + 1, hk, t => by
    rw [num]
    cases t with
    | zero =>
      rw [Nat.testBit_zero]
      by_cases h : ((31 - k : Nat) : Int) ∈ L
      · rw [if_pos h]
        have e : 32 - (k + 1) + 0 = 31 - k := by omega
        rw [e, decide_eq_true (show 0 < k + 1 ∧ _ from ⟨by omega, h⟩)]
        simp
      · rw [if_neg h]
        have e : 32 - (k + 1) + 0 = 31 - k := by omega
        rw [e, decide_eq_false (show ¬ (0 < k + 1 ∧ _) from fun x => h x.2)]
        simp
    | succ t =>
      rw [Nat.testBit_succ]
      have e : (num L k * 2 + if ((31 - k : Nat) : Int) ∈ L then 1 else 0) / 2 = num L k := by split <;> omega
      rw [e, bit_num L k (by omega) t]
      have e2 : 32 - (k + 1) + (t + 1) = 32 - k + t := by omega
      rw [e2]
      exact decide_eq_decide.2 ⟨fun x => ⟨by omega, x.2⟩, fun x => ⟨by omega, x.2⟩⟩
theorem num_lt (L : List Int) : ∀ k, num L k < 2 ^ k
  | 0 => by simp [num]
  | k + 1 => by
    have := num_lt L k
    rw [num, Nat.pow_succ]
    split <;> omega
theorem bit_num32 (L : List Int) (t : Nat) : (num L 32).testBit t = decide (t < 32 ∧ (t : Int) ∈ L) := by
  rw [bit_num L 32 (Nat.le_refl _)]
  simp
/-- the set of numbers is their list's number -/
theorem of_num (L : List Int) : ofL L = num L 32 := Nat.eq_of_testBit_eq fun t => by rw [bit_of, bit_num32]
theorem mem_all (m : Nat) (t : Nat) : (t : Int) ∈ lst m 32 ↔ t < 32 ∧ m.testBit t = true := by
  rw [mem_lst]
  constructor
  · rintro ⟨i, h1, h2, h3⟩
    obtain rfl : t = i := by omega
    exact ⟨h1, h2⟩
  · rintro ⟨h1, h2⟩
    exact ⟨t, h1, h2, rfl⟩
/-- a set and a number: the number of its list with that number behind -/
theorem with_num (m : Nat) (z : Int) (h : m < 4294967296) : m ||| one z = num (lst m 32 ++ [z]) 32 := Nat.eq_of_testBit_eq fun t => by
  rw [bit_num32, Nat.testBit_or, bit_one]
  by_cases ht : t < 32
  · have e := mem_all m t
    cases hb : m.testBit t <;> simp [ht, hb] at e <;> simp [ht, e]
  · rw [bits_of_lt h t (by omega)]
    simp [ht]
/-- a set without a number: the number of its list but for that number -/
theorem without_num (m : Nat) (z : Int) (h : m < 4294967296) : wo m (one z) = num ((lst m 32).filter (fun x => x != z)) 32 := Nat.eq_of_testBit_eq fun t => by
  rw [bit_num32, bit_wo, bit_one]
  by_cases ht : t < 32
  · have e := mem_all m t
    cases hb : m.testBit t <;> simp [ht, hb] at e <;> simp [ht, e]
  · rw [bits_of_lt h t (by omega)]
    simp [ht]
theorem and_one (m : Nat) (z : Int) : m &&& one z ≠ 0 ↔ z ∈ lst m 32 := by
  constructor
  · intro h
    obtain ⟨t, ht⟩ : ∃ t, (m &&& one z).testBit t = true := by
      apply Classical.byContradiction
      intro hn
      apply h
      apply Nat.eq_of_testBit_eq
      intro i
      rw [Nat.zero_testBit]
      cases hb : (m &&& one z).testBit i with
      | false => rfl
      | true => exact absurd ⟨i, hb⟩ hn
    rw [Nat.testBit_and, bit_one, Bool.and_eq_true, decide_eq_true_eq] at ht
    obtain ⟨h1, h2, rfl⟩ := ht
    exact (mem_all m t).2 ⟨h2, h1⟩
  · intro h h0
    obtain ⟨i, h1, h2, rfl⟩ := (mem_lst m z 32).1 h
    have : (m &&& one (i : Int)).testBit i = true := by rw [Nat.testBit_and, bit_one, h2]; simp [h1]
    rw [h0, Nat.zero_testBit] at this
    cases this
/-- how many of a list are less than z -/
def less (L : List Int) (z : Int) : Nat := (L.filter (fun x => decide (x < z))).length
theorem cnt_bel (m : Nat) (z : Int) : ∀ k, k ≤ 32 → cnt (m &&& bel z) k = less (lst m k) z
  | 0, _ => rfl
  | k + 1, hk => by
    rw [cnt, cnt_bel m z k (by omega), Nat.testBit_and, bit_bel, lst]
    unfold less
    rw [List.filter_append, List.length_append]
    have h32 : k < 32 := by omega
    by_cases hz : (k : Int) < z <;> cases m.testBit k <;> simp [hz, h32]
theorem less_append (A B : List Int) (z : Int) : less (A ++ B) z = less A z + less B z := by simp [less, List.filter_append]
theorem less_le (L : List Int) (z : Int) : less L z ≤ L.length := by unfold less; exact List.length_filter_le _ _
theorem cnt_add_div (m a b : Nat) : cnt m (a + b) = cnt m a + cnt (m / 2 ^ a) b := by rw [cnt_add, Nat.shiftRight_eq_div_pow]
/-- 32 bits by four bytes -/
theorem cnt_bytes (m : Nat) : cnt m 32 = cnt (m / 16777216) 8 + cnt (m / 65536 % 256) 8 + cnt (m / 256 % 256) 8 + cnt (m % 256) 8 := by
  have e1 : cnt m 32 = cnt m 8 + cnt (m / 256) 24 := cnt_add_div m 8 24
  have e2 : cnt (m / 256) 24 = cnt (m / 256) 8 + cnt (m / 256 / 256) 16 := cnt_add_div (m / 256) 8 16
  have e3 : cnt (m / 256 / 256) 16 = cnt (m / 256 / 256) 8 + cnt (m / 256 / 256 / 256) 8 := cnt_add_div (m / 256 / 256) 8 8
  have m1 : cnt (m % 256) 8 = cnt m 8 := cnt_mod m 8 8 (Nat.le_refl _)
  have m2 : cnt (m / 256 % 256) 8 = cnt (m / 256) 8 := cnt_mod (m / 256) 8 8 (Nat.le_refl _)
  have m3 : cnt (m / 65536 % 256) 8 = cnt (m / 65536) 8 := cnt_mod (m / 65536) 8 8 (Nat.le_refl _)
  rw [Nat.div_div_eq_div_mul m 256 256, Nat.div_div_eq_div_mul] at e3
  rw [Nat.div_div_eq_div_mul m 256 256] at e2
  simp only [Nat.reduceMul] at e2 e3
  omega
theorem list_le (m k : Nat) : (lst m k).length ≤ k := by rw [cnt_lst]; exact cnt_le m k
theorem bit_div (m j : Nat) : (m / 2 ^ j % 2 = 1) ↔ m.testBit j = true := by
  rw [Nat.testBit_eq_decide_div_mod_eq, decide_eq_true_eq]
theorem half (m j : Nat) : m / 2 ^ j / 2 = m / 2 ^ (j + 1) := by rw [Nat.div_div_eq_div_mul, Nat.pow_succ]
end Go.Proofs.YtmbdimonfdncpaaGreatDoor.Bt
/-
  Contracts of alone, below, With, Without, Has, OnesCount32, Count, Place.
-/
namespace Go.Proofs.YtmbdimonfdncpaaGreatDoor.Bt
open Go.RowKit
set_option maxHeartbeats 400000
theorem below_then {w a b : World} (h : Below w.heap.size w a) (k : Below a.heap.size a b) : Below w.heap.size w b := h.trans (k.mono h.size)
theorem ret_int {k : IntKind} {a b : Int} (h : a = b) : Ending.returned (.int k a) = .returned (.int k b) := by rw [h]
theorem ret_bool {a b : Bool} (h : a = b) : Ending.returned (.bool a) = .returned (.bool b) := by rw [h]
theorem bv32 {a : Nat} (ha : a < 4294967296) : (BitVec.ofInt 32 (a : Int)).toNat = a := by
  rw [BitVec.ofInt_natCast, BitVec.toNat_ofNat]; exact Nat.mod_eq_of_lt ha
theorem wrap32 {a : Nat} (ha : a < 4294967296) : IntKind.u32.wrap (a : Int) = (a : Int) := by
  simp [IntKind.wrap, IntKind.signed, IntKind.bits]; omega
theorem and32 {a b : Nat} (ha : a < 4294967296) (hb : b < 4294967296) : bits .and .u32 (a : Int) (b : Int) = ((a &&& b : Nat) : Int) := by
  show IntKind.u32.wrap ((BitVec.ofInt 32 (a : Int) &&& BitVec.ofInt 32 (b : Int)).toNat : Int) = _
  rw [BitVec.toNat_and, bv32 ha, bv32 hb, wrap32 (and_lt ha)]
theorem or32 {a b : Nat} (ha : a < 4294967296) (hb : b < 4294967296) : bits .or .u32 (a : Int) (b : Int) = ((a ||| b : Nat) : Int) := by
  show IntKind.u32.wrap ((BitVec.ofInt 32 (a : Int) ||| BitVec.ofInt 32 (b : Int)).toNat : Int) = _
  rw [BitVec.toNat_or, bv32 ha, bv32 hb, wrap32 (or_lt ha hb)]
theorem bv_wo (x y : BitVec 32) : (x &&& ~~~y).toNat = wo x.toNat y.toNat := by
  apply Nat.eq_of_testBit_eq
  intro t
  rw [bit_wo, BitVec.toNat_and, Nat.testBit_and, BitVec.toNat_not]
  by_cases ht : t < 32
  · rw [show 2 ^ 32 - 1 - y.toNat = 2 ^ 32 - (y.toNat + 1) by omega, Nat.testBit_two_pow_sub_succ y.isLt]
    simp [ht]
  · rw [bits_of_lt (n := x.toNat) x.isLt t (by omega)]
    rfl
theorem wo32 {a b : Nat} (ha : a < 4294967296) (hb : b < 4294967296) : bits .andNot .u32 (a : Int) (b : Int) = ((wo a b : Nat) : Int) := by
  show IntKind.u32.wrap ((BitVec.ofInt 32 (a : Int) &&& ~~~ BitVec.ofInt 32 (b : Int)).toNat : Int) = _
  rw [bv_wo, bv32 ha, bv32 hb, wrap32 (wo_lt ha)]
theorem alone_any (z : Int) (w : World) :
    Calls Tryz.prog 72 #[.int .i64 z] w fun e w' => e = .returned (.int .u32 (one z : Nat)) ∧ w = w' := by
  rcases Int.lt_or_le z 0 with h0 | h0
  · go_enter Tryz.func72, Tryz.ntmps72
    go_wp2
    go_ret
    exact ⟨ret_int (by unfold one; rw [if_neg (by omega)]; rfl), rfl⟩
  · rcases Int.lt_or_le z 32 with h1 | h1
    · obtain ⟨n, rfl⟩ := Int.eq_ofNat_of_zero_le h0
      have hn : n < 32 := by omega
      go_enter Tryz.func72, Tryz.ntmps72
      go_wp2
      go_ret
      refine ⟨ret_int ?_, rfl⟩
      have hp : 2 ^ n < 4294967296 := Nat.pow_lt_pow_right (n := 32) (by decide) hn
      have := wrap32 hp
      unfold one
      rw [if_pos (by omega)]
      simp at this ⊢
      first | exact this | omega
    · go_enter Tryz.func72, Tryz.ntmps72
      go_wp2
      go_ret
      exact ⟨ret_int (by unfold one; rw [if_neg (by omega)]; rfl), rfl⟩
theorem bel_bits (h : Nat) (hh : h ≤ 32) : bits .andNot .u32 4294967295 (IntKind.u32.wrap (4294967295 * 2 ^ h)) = ((2 ^ h - 1 : Nat) : Int) := by
  have e : ∀ h : Fin 33, bits .andNot .u32 4294967295 (IntKind.u32.wrap (4294967295 * 2 ^ h.1)) = ((2 ^ h.1 - 1 : Nat) : Int) := by decide +kernel
  exact e ⟨h, by omega⟩
theorem below_any (z : Int) (w : World) :
    Calls Tryz.prog 84 #[.int .i64 z] w fun e w' => e = .returned (.int .u32 (bel z : Nat)) ∧ w = w' := by
  have key : ∀ h : Nat, h ≤ 32 → hl z = h → Ending.returned (.int .u32 (bits .andNot .u32 4294967295 (IntKind.u32.wrap (4294967295 * 2 ^ h)))) = .returned (.int .u32 (bel z : Nat)) := by
    intro h hh e
    rw [bel_bits h hh, ← e]
    rfl
  have KEY := Lib.hid key; clear key
  rcases Int.lt_or_le 0 z with h0 | h0
  · rcases Int.lt_or_le z 32 with h1 | h1
    · obtain ⟨n, rfl⟩ := Int.eq_ofNat_of_zero_le (Int.le_of_lt h0)
      have hn : n < 32 := by omega
      go_enter Tryz.func84, Tryz.ntmps84
      go_wp2
      go_ret
      exact ⟨KEY.out n (by omega) (by unfold hl; omega), rfl⟩
    · rcases Int.lt_or_le 32 z with h2 | h2
      · go_enter Tryz.func84, Tryz.ntmps84
        go_wp2
        go_ret
        exact ⟨KEY.out 32 (by omega) (by unfold hl; omega), rfl⟩
      · obtain rfl : z = 32 := by omega
        go_enter Tryz.func84, Tryz.ntmps84
        go_wp2
        go_ret
        exact ⟨KEY.out 32 (by omega) (by unfold hl; omega), rfl⟩
  · rcases Int.lt_or_le z 0 with h2 | h2
    · go_enter Tryz.func84, Tryz.ntmps84
      go_wp2
      go_ret
      exact ⟨KEY.out 0 (by omega) (by unfold hl; omega), rfl⟩
    · obtain rfl : z = 0 := by omega
      go_enter Tryz.func84, Tryz.ntmps84
      go_wp2
      go_ret
      exact ⟨KEY.out 0 (by omega) (by unfold hl; omega), rfl⟩
theorem has_any (m : Nat) (z : Int) (w : World) (hm : m < 4294967296) :
    Calls Tryz.prog 61 #[.int .u32 m, .int .i64 z] w fun e w' => e = .returned (.bool (decide (z ∈ lst m 32))) ∧ w = w' := by
  have h := alone_any z w
  have hl := one_lt z
  have ho := and_one m z
  have hb := and32 hm hl
  obtain ⟨a, ha⟩ : ∃ a, a = one z := ⟨_, rfl⟩
  rw [← ha] at h hl ho hb
  obtain ⟨x, hx⟩ : ∃ x, x = m &&& a := ⟨_, rfl⟩
  rw [← hx] at ho hb
  have H := Lib.hid h; clear h ha
  have HO := Lib.hid ho; clear ho hx
  go_enter Tryz.func61, Tryz.ntmps61
  go_wp2_with fail
  refine H.out.mono ?_
  rintro e w' ⟨rfl, rfl⟩
  go_wp2_with fail
  go_ret
  refine ⟨ret_bool ?_, rfl⟩
  have := HO.out
  by_cases e : z ∈ lst m 32
  · have h1 := this.2 e
    simp [e, h1]
  · have h1 : x = 0 := Classical.byContradiction fun h => e (this.1 h)
    simp [e, h1]
end Go.Proofs.YtmbdimonfdncpaaGreatDoor.Bt
/-
  Contracts of OnesCount32, Count, Place.
-/
namespace Go.Proofs.YtmbdimonfdncpaaGreatDoor.Bt
open Go.RowKit
set_option maxHeartbeats 400000
set_option maxRecDepth 100000
theorem fold_pop : ({ data := (([0, 1, 1, 2, 1, 2, 2, 3, 1, 2, 2, 3, 2, 3, 3, 4, 1, 2, 2, 3, 2, 3, 3, 4, 2, 3, 3, 4, 3, 4, 4, 5, 1, 2, 2, 3, 2, 3, 3, 4, 2, 3, 3, 4, 3, 4, 4, 5, 2, 3, 3, 4, 3, 4, 4, 5, 3, 4, 4, 5, 4, 5, 5, 6].append [1, 2, 2, 3, 2, 3, 3, 4, 2, 3, 3, 4, 3, 4, 4, 5, 2, 3, 3, 4, 3, 4, 4, 5, 3, 4, 4, 5, 4, 5, 5, 6, 2, 3, 3, 4, 3, 4, 4, 5, 3, 4, 4, 5, 4, 5, 5, 6, 3, 4, 4, 5, 4, 5, 5, 6, 4, 5, 5, 6, 5, 6, 6, 7]).append ([1, 2, 2, 3, 2, 3, 3, 4, 2, 3, 3, 4, 3, 4, 4, 5, 2, 3, 3, 4, 3, 4, 4, 5, 3, 4, 4, 5, 4, 5, 5, 6, 2, 3, 3, 4, 3, 4, 4, 5, 3, 4, 4, 5, 4, 5, 5, 6, 3, 4, 4, 5, 4, 5, 5, 6, 4, 5, 5, 6, 5, 6, 6, 7].append [2, 3, 3, 4, 3, 4, 4, 5, 3, 4, 4, 5, 4, 5, 5, 6, 3, 4, 4, 5, 4, 5, 5, 6, 4, 5, 5, 6, 5, 6, 6, 7, 3, 4, 4, 5, 4, 5, 5, 6, 4, 5, 5, 6, 5, 6, 6, 7, 4, 5, 5, 6, 5, 6, 6, 7, 5, 6, 6, 7, 6, 7, 7, 8])).toArray } : ByteArray) = Lib.pop8tab := rfl
theorem pop_cnt : ∀ n : Fin 256, Lib.pop8 (n.val : Int) = (cnt n.val 8 : Int) := by decide +kernel
theorem run_pop (q : Nat) (hq : q < 256) (w : World) : (Instr.index 9 (.string Lib.pop8tab) (.int .u32 (q : Int))).run Tryz.prog w = .ok (.int .u8 ((cnt q 8 : Nat) : Int)) w := by
  rw [Lib.run_index_pop8tab _ 9 .u32 (q : Int) Tryz.underlying9 (by omega) (by omega), pop_cnt ⟨q, hq⟩]
theorem byte_and {a : Nat} (ha : a < 4294967296) : bits .and .u32 (a : Int) 255 = ((a % 256 : Nat) : Int) := by
  have h := and32 ha (show 255 < 4294967296 by decide)
  rw [Nat.and_two_pow_sub_one_eq_mod (n := 8)] at h
  exact h
theorem ones_any (m : Nat) (w : World) (hm : m < 4294967296) :
    Calls Tryz.prog 91 #[.int .u32 m] w fun e w' => e = .returned (.int .i64 (cnt m 32 : Nat)) ∧ ∃ n, w' = w.drewN n := by
  have hb := cnt_bytes m
  have e1 : (m : Int) / 16777216 = ((m / 16777216 : Nat) : Int) := by omega
  have e2 : bits .and .u32 ((m : Int) / 65536) 255 = ((m / 65536 % 256 : Nat) : Int) := byte_and (a := m / 65536) (by omega)
  have e3 : bits .and .u32 ((m : Int) / 256) 255 = ((m / 256 % 256 : Nat) : Int) := byte_and (a := m / 256) (by omega)
  have e4 : bits .and .u32 (m : Int) 255 = ((m % 256 : Nat) : Int) := byte_and hm
  have r1 := fun W => run_pop (m / 16777216) (by omega) W
  have r2 := fun W => run_pop (m / 65536 % 256) (by omega) W
  have r3 := fun W => run_pop (m / 256 % 256) (by omega) W
  have r4 := fun W => run_pop (m % 256) (by omega) W
  have l1 := cnt_le (m / 16777216) 8
  have l2 := cnt_le (m / 65536 % 256) 8
  have l3 := cnt_le (m / 256 % 256) 8
  have l4 := cnt_le (m % 256) 8
  obtain ⟨q1, h1⟩ : ∃ q, q = m / 16777216 := ⟨_, rfl⟩
  obtain ⟨q2, h2⟩ : ∃ q, q = m / 65536 % 256 := ⟨_, rfl⟩
  obtain ⟨q3, h3⟩ : ∃ q, q = m / 256 % 256 := ⟨_, rfl⟩
  obtain ⟨q4, h4⟩ : ∃ q, q = m % 256 := ⟨_, rfl⟩
  rw [← h1, ← h2, ← h3, ← h4] at hb
  rw [← h1] at e1 l1
  rw [← h2] at e2 l2
  rw [← h3] at e3 l3
  rw [← h4] at e4 l4
  simp only [← h1] at r1
  simp only [← h2] at r2
  simp only [← h3] at r3
  simp only [← h4] at r4
  clear h1 h2 h3 h4
  obtain ⟨c1, g1⟩ : ∃ c, c = cnt q1 8 := ⟨_, rfl⟩
  obtain ⟨c2, g2⟩ : ∃ c, c = cnt q2 8 := ⟨_, rfl⟩
  obtain ⟨c3, g3⟩ : ∃ c, c = cnt q3 8 := ⟨_, rfl⟩
  obtain ⟨c4, g4⟩ : ∃ c, c = cnt q4 8 := ⟨_, rfl⟩
  simp only [← g1] at r1 l1
  simp only [← g2] at r2 l2
  simp only [← g3] at r3 l3
  simp only [← g4] at r4 l4
  rw [← g1, ← g2, ← g3, ← g4] at hb
  clear g1 g2 g3 g4
  have HB := Lib.hid hb; clear hb
  go_enter Tryz.func91, Tryz.ntmps91
  go_wp2
  simp only [fold_pop]
  go_quiet (fail)
  go_wp2
  go_ret
  refine ⟨ret_int ?_, _, rfl⟩
  rw [HB.out]
  omega
theorem count_any (m : Nat) (w : World) (hm : m < 4294967296) :
    Calls Tryz.prog 73 #[.int .u32 m] w fun e w' => e = .returned (.int .i64 (cnt m 32 : Nat)) ∧ ∃ n, w' = w.drewN n := by
  have h := ones_any m w hm
  obtain ⟨c, hc⟩ : ∃ c, c = cnt m 32 := ⟨_, rfl⟩
  rw [← hc] at h ⊢
  have H := Lib.hid h; clear h hc
  go_enter Tryz.func73, Tryz.ntmps73
  go_wp2_with fail
  refine H.out.mono ?_
  rintro e w' ⟨rfl, n, rfl⟩
  go_wp2_with fail
  go_ret
  exact ⟨rfl, n, rfl⟩
/-- Place: how many of its numbers are less -/
theorem place_any (m : Nat) (z : Int) (w : World) (hm : m < 4294967296) :
    Calls Tryz.prog 62 #[.int .u32 m, .int .i64 z] w fun e w' => e = .returned (.int .i64 (less (lst m 32) z : Nat)) ∧ ∃ n, w' = w.drewN n := by
  have hb := below_any z w
  have hl := bel_lt z
  have ha := and32 hm hl
  have h := count_any (m &&& bel z) w (and_lt hm)
  rw [cnt_bel m z 32 (Nat.le_refl _)] at h
  obtain ⟨c, hc⟩ : ∃ c, c = less (lst m 32) z := ⟨_, rfl⟩
  obtain ⟨b, hbb⟩ : ∃ b, b = bel z := ⟨_, rfl⟩
  rw [← hc] at h ⊢
  rw [← hbb] at h hb hl ha
  obtain ⟨x, hx⟩ : ∃ x, x = m &&& b := ⟨_, rfl⟩
  rw [← hx] at h ha
  have H := Lib.hid h; clear h hc
  have HB := Lib.hid hb; clear hb hbb hx
  go_enter Tryz.func62, Tryz.ntmps62
  go_wp2_with fail
  refine HB.out.mono ?_
  rintro e w' ⟨rfl, rfl⟩
  go_wp2_with fail
  refine H.out.mono ?_
  rintro e w' ⟨rfl, n, rfl⟩
  go_wp2_with fail
  go_ret
  exact ⟨rfl, n, rfl⟩
end Go.Proofs.YtmbdimonfdncpaaGreatDoor.Bt
/-
  Lists of numbers; contracts of Has and Less (the reference's), Number, Of, awake.
-/
namespace Go.Proofs.YtmbdimonfdncpaaGreatDoor.Bt
open Go.RowKit
set_option maxHeartbeats 400000
set_option maxRecDepth 100000
/-- the slice at A reads as the numbers L, in blocks that are there -/
def Ints (w : World) (A : Option Addr) (L : List Int) : Prop :=
  L = [] ∨ ∃ b off, A = some ⟨b, off, none⟩ ∧ b < w.heap.size ∧ ∀ i (h : i < L.length), w.cell? ⟨b, off + i, none⟩ = some (.int .i64 L[i])
theorem Ints.below {w w' : World} {A : Option Addr} {l : List Int} (h : Ints w A l) (hb : Below w.heap.size w w') : Ints w' A l := by
  rcases h with h | ⟨b, off, rfl, hlt, hc⟩
  · exact .inl h
  · exact .inr ⟨b, off, rfl, Nat.lt_of_lt_of_le hlt hb.size, fun i hi => (hb.cell (p := ⟨b, off + i, none⟩) hlt).trans (hc i hi)⟩
theorem Ints.at_ {w : World} {A : Option Addr} {l : List Int} (h : Ints w A l) (k : Nat) (hk : k < l.length) :
    ∃ b off, A = some ⟨b, off, none⟩ ∧ w.cell? ⟨b, off + k, none⟩ = some (.int .i64 l[k]) := by
  rcases h with h | ⟨b, off, rfl, _, hc⟩
  · subst h; simp at hk
  · exact ⟨b, off, rfl, hc k hk⟩
theorem mem_take_succ {L : List Int} {j : Nat} (hj : j < L.length) (z : Int) : z ∈ L.take (j + 1) ↔ z ∈ L.take j ∨ z = L[j] := by
  rw [List.take_succ_eq_append_getElem hj, List.mem_append, List.mem_singleton]
theorem ofL_take_succ {L : List Int} {j : Nat} (hj : j < L.length) : ofL (L.take (j + 1)) = ofL (L.take j) ||| one L[j] := by
  rw [List.take_succ_eq_append_getElem hj, ofL_snoc]
end Go.Proofs.YtmbdimonfdncpaaGreatDoor.Bt
/-
  Rows of numbers that a call owns, and what is appended to them; contract of List (the reference's).
-/
namespace Go.Proofs.YtmbdimonfdncpaaGreatDoor.Bt
open Go.RowKit
set_option maxHeartbeats 400000
set_option maxRecDepth 100000
theorem Tryz.info3 : (Tryz.prog.info? 3).map (fun i => (i.zero, i.size, i.bytes)) = some (some (.int .i64 0), 1, 8) := by kernel_rfl
theorem grown_then {w a b : World} {r : Option Nat} (h : w.grownBy a none) (k : a.grownBy b r) : w.grownBy b r :=
  ⟨k.os.trans h.os, k.tape.trans h.tape, k.output.trans h.output, Nat.le_trans h.size k.size, fun i hi hr => (k.block i (Nat.lt_of_lt_of_le hi h.size) hr).trans (h.block i hi (by simp))⟩
/-- append of one number that was laid into a block of its own just ahead -/
theorem list_app1 {B : Nat} {w : World} {ops : Array Oper} {rest : List Oper} {o : Oper} {a : Act} {Q : Exit → Act → World → Prop} (t e : TypeId) (z : Value) (bytes : Nat) (hu : Tryz.prog.underlying t = some (.slice e)) (hinf : (Tryz.prog.info? e).map (fun i => (i.zero, i.size, i.bytes)) = some (some z, 1, bytes)) (hz : z.cells.size = 1) (hby : bytes ≤ 100)
    (hgd : o.guard = none) (s x : Operand) (ho : o.op = .call { callee := .builtin .append, args := #[s, x], argTypes := #[t, t] }) (v : Value) (n : Nat) (xs : List Value) (h : w.ownsRow B e 1 v n xs) (x1 : Value) (h1 : x1.oneCell' = true) (hs : a.eval s = v) (hx : a.eval x = .slice (some ⟨w.heap.size, 0, none⟩) 1 1) (hn : n ≤ 1000) (hB : B ≤ w.heap.size)
    (hK : ∀ v' w', w'.ownsRow B e 1 v' (n + 1) (xs ++ [x1]) → w.grownBy w' v.ownBlock → wpList Tryz.prog ops Q rest (a.put o.dst v') w') : wpList Tryz.prog ops Q (o :: rest) a (w.alloc (.cells #[x1] e)) := by
  obtain ⟨i0, hi, hz0, hz1, hz2⟩ := info_parts hinf
  have hnew : (w.alloc (.cells #[x1] e)).heap[w.heap.size]? = some (.cells #[x1] e (0, 0)) := heap_alloc_new w _
  obtain ⟨v', w', hr, hown, hg, _⟩ := run_append_own (P := Tryz.prog) (w.alloc (.cells #[x1] e)) B t o.type e i0 z 1 bytes hu hi hz0 hz1 hz2 hz (by decide) v n xs (World.ownsRow.alloc h _) ⟨w.heap.size, 0, none⟩ 1 1 [x1] rfl
    (by
      intro j u hj
      rw [Go.WideShapes.add_plain, Nat.zero_add, cell_of_row _ w.heap.size j _ e (0, 0) hnew, ← hj]
      simp)
    (by
      intro u hu
      rcases List.mem_cons.1 hu with rfl | hu
      · exact h1
      · cases hu)
    (by unfold maxLen; omega) (by have := Nat.mul_le_mul (show n + 1 ≤ 1001 by omega) hby; omega) (by simp; omega)
  have hg2 : w.grownBy w' v.ownBlock := grown_then (World.grownBy_alloc w _ none) hg
  refine wpList_plain hgd fun _ hk => ?_
  unfold Oper.wp execOp
  simp only [ho, resolve, invoke, builtin, Sem.run_bind, Sem.run_pure, Result.andThen_ok, List.map_toArray, List.map_cons, List.map_nil, hs, hx, hr]
  exact hk _ _ (hK v' w' hown hg2)
/-- how a row reads -/
theorem row_reads {w : World} {B e n : Nat} {v : Value} {xs : List Value} (h : w.ownsRow B e 1 v n xs) : ∃ A c, v = .slice A n c ∧ n ≤ c ∧ (0 < n → ∃ g, A = some ⟨g, 0, none⟩ ∧ g < w.heap.size ∧ ∀ j, j < n → w.cell? ⟨g, j, none⟩ = xs[j]?) := by
  obtain ⟨hl, h⟩ := h
  rcases h with ⟨rfl, rfl⟩ | ⟨g, cap, cur, rfl, hb, hg, hc1, _, hsz, htk⟩
  · exact ⟨none, 0, rfl, Nat.le_refl _, fun h => by omega⟩
  · refine ⟨_, _, rfl, hc1, fun _ => ⟨g, rfl, (Array.getElem?_eq_some_iff.1 hg).1, fun j hj => ?_⟩⟩
    rw [cell_of_row w g j cur e (0, 0) hg, ← htk, List.getElem?_take_of_lt (by omega)]
    simp
def icells (l : List Int) : List Value := l.map (fun z => Value.int .i64 z)
theorem icells_snoc (l : List Int) (z : Int) : icells (l ++ [z]) = icells l ++ [.int .i64 z] := by simp [icells]
theorem ints_own {w : World} {B n : Nat} {v : Value} {l : List Int} (h : w.ownsRow B 3 1 v n (icells l)) (hn : n = l.length) : ∃ A c, v = .slice A l.length c ∧ l.length ≤ c ∧ Ints w A l := by
  subst hn
  obtain ⟨A, c, rfl, hc, hr⟩ := row_reads h
  refine ⟨A, c, rfl, hc, ?_⟩
  rcases Nat.eq_zero_or_pos l.length with h0 | h0
  · exact .inl (List.eq_nil_of_length_eq_zero h0)
  · obtain ⟨g, rfl, hg, hcl⟩ := hr h0
    refine .inr ⟨g, 0, rfl, hg, fun i hi => ?_⟩
    rw [Nat.zero_add, hcl i hi]
    simp [icells, hi]
end Go.Proofs.YtmbdimonfdncpaaGreatDoor.Bt
/-
  A set's lowest number and what is left without it; places in a set's list. No program.
-/
namespace Go.Proofs.YtmbdimonfdncpaaGreatDoor.Bt
theorem lst_none (m : Nat) : ∀ n, (∀ t, t < n → m.testBit t = false) → lst m n = []
  | 0, _ => rfl
  | n + 1, h => by
    rw [lst, lst_none m n (fun t ht => h t (by omega)), h n (by omega)]
    rfl
theorem lst_low (r s k : Nat) (h0 : ∀ t, t < k → r.testBit t = false) (h1 : r.testBit k = true) (h2 : ∀ t, s.testBit t = (r.testBit t && decide (t ≠ k))) : ∀ n, k < n → lst r n = (k : Int) :: lst s n
  | 0, h => by omega
  | n + 1, h => by
    by_cases e : k = n
    · subst e
      rw [lst, lst, lst_none r k h0, lst_none s k (fun t ht => by rw [h2, h0 t ht]; rfl), h2 k, h1]
      simp
    · rw [lst, lst, lst_low r s k h0 h1 h2 n (by omega), h2 n]
      have : decide (n ≠ k) = true := by simp; omega
      rw [this, Bool.and_true]
      rfl
theorem ctz_bits (r : Nat) (h0 : r ≠ 0) (h : r < 4294967296) : Lib.ctz 32 r < 32 ∧ r.testBit (Lib.ctz 32 r) = true ∧ ∀ t, t < Lib.ctz 32 r → r.testBit t = false := by
  obtain ⟨q, hq, hk⟩ := Lib.ctzFrom_spec 32 r (by omega) h
  have e : Lib.ctz 32 r = Lib.ctzFrom 32 r := by simp [Lib.ctz, h0]
  rw [e]
  obtain ⟨k, hkk⟩ : ∃ k, k = Lib.ctzFrom 32 r := ⟨_, rfl⟩
  rw [← hkk] at hq hk ⊢
  refine ⟨hk, ?_, fun t ht => ?_⟩
  · rw [hq, Nat.testBit_two_pow_mul]
    simp
  · rw [hq, Nat.testBit_two_pow_mul]
    have : decide (k ≤ t) = false := by simp; omega
    simp [this]
/-- the lowest number comes first; the others are those of the set without it -/
theorem lst_step (r : Nat) (h0 : r ≠ 0) (h : r < 4294967296) : lst r 32 = (Lib.ctz 32 r : Int) :: lst (wo r (one (Lib.ctz 32 r : Int))) 32 := by
  obtain ⟨h1, h2, h3⟩ := ctz_bits r h0 h
  refine lst_low r _ _ h3 h2 (fun t => ?_) 32 h1
  rw [bit_wo, bit_one]
  by_cases e : t = Lib.ctz 32 r
  · subst e
    simp [h1]
  · have : ¬ ((t : Int) = (Lib.ctz 32 r : Int)) := by omega
    simp [this, e]
theorem lst_zero : ∀ n, lst 0 n = []
  | n => lst_none 0 n (fun t _ => Nat.zero_testBit t)
theorem lst_lt (m : Nat) (n : Nat) : ∀ z ∈ lst m n, 0 ≤ z ∧ z < (n : Int) := by
  intro z hz
  obtain ⟨i, h1, _, rfl⟩ := (mem_lst m z n).1 hz
  omega
theorem less_all {L : List Int} {z : Int} (h : ∀ x ∈ L, x < z) : less L z = L.length := by
  unfold less
  rw [List.filter_eq_self.2 (fun x hx => by simpa using h x hx)]
/-- at place k of a set's list stands the number that k of it are less than -/
theorem less_get (m : Nat) : ∀ n k (hk : k < (lst m n).length), less (lst m n) (lst m n)[k] = k
  | 0, k, hk => by simp [lst] at hk
  | n + 1, k, hk => by
    by_cases hb : m.testBit n = true
    · have e : lst m (n + 1) = lst m n ++ [(n : Int)] := by rw [lst, if_pos hb]
      have hl : (lst m (n + 1)).length = (lst m n).length + 1 := by rw [e]; simp
      by_cases hlt : k < (lst m n).length
      · have e2 : (lst m (n + 1))[k] = (lst m n)[k] := by simp only [e]; exact List.getElem_append_left hlt
        rw [e2, e, less_append, less_get m n k hlt]
        have := (lst_lt m n _ (List.getElem_mem hlt)).2
        have : less [(n : Int)] (lst m n)[k] = 0 := by unfold less; simp; omega
        omega
      · have hk2 : k = (lst m n).length := by omega
        have e2 : (lst m (n + 1))[k] = (n : Int) := by simp only [e]; rw [List.getElem_append_right (by omega)]; simp [hk2]
        rw [e2, e, less_append, less_all (fun x hx => (lst_lt m n x hx).2)]
        simp [less, hk2]
    · have e : lst m (n + 1) = lst m n := by rw [lst, if_neg hb, List.append_nil]
      have hk2 : k < (lst m n).length := by rw [← e]; exact hk
      have := less_get m n k hk2
      simp only [e]
      exact this
theorem less_mem (m : Nat) (z : Int) (h : z ∈ lst m 32) : ∃ (k : Nat) (hk : k < (lst m 32).length), (lst m 32)[k] = z ∧ less (lst m 32) z = k := by
  obtain ⟨k, hk, rfl⟩ := List.getElem_of_mem h
  exact ⟨k, hk, rfl, less_get m 32 k hk⟩
/-- a set is its list's number -/
theorem num_lst (m : Nat) (h : m < 4294967296) : num (lst m 32) 32 = m := Nat.eq_of_testBit_eq fun t => by
  rw [bit_num32]
  by_cases ht : t < 32
  · cases hb : m.testBit t with
    | true => exact decide_eq_true ⟨ht, (mem_all m t).2 ⟨ht, hb⟩⟩
    | false => exact decide_eq_false fun e => by have := (mem_all m t).1 e.2; rw [hb] at this; exact absurd this.2 (by decide)
  · rw [bits_of_lt h t (by omega)]
    exact decide_eq_false fun e => ht e.1
end Go.Proofs.YtmbdimonfdncpaaGreatDoor.Bt
