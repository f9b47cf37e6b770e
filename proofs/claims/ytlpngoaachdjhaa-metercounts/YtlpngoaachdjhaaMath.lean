/-
  Arithmetic of layer 9: how many bits a number has (bl), numbers of digits to the base 65536 (val), the bound (bnd). No program in this text.
-/
import Derived.Lib.BitFns
namespace Go.Proofs.Ytlpngoaachdjhaa
/-- how many bits a number has -/
def bl (n : Nat) : Nat := if n = 0 then 0 else n.log2 + 1
theorem bl_le (n k : Nat) : bl n ≤ k ↔ n < 2 ^ k := by
  unfold bl
  by_cases h : n = 0
  · subst h
    simp [Nat.two_pow_pos]
  · rw [if_neg h, ← Nat.log2_lt h]
    exact Nat.succ_le_iff
theorem bl_mono {a b : Nat} (h : a ≤ b) : bl a ≤ bl b := by
  rw [bl_le]
  exact Nat.lt_of_le_of_lt h ((bl_le b _).1 (Nat.le_refl _))
theorem bl_pos {n : Nat} (h : n ≠ 0) : 1 ≤ bl n := by
  unfold bl
  rw [if_neg h]
  omega
theorem bl_zero : bl 0 = 0 := rfl
/-- the high digits alone tell it -/
theorem bl_shift (h l s : Nat) (h0 : h ≠ 0) (hl : l < 2 ^ s) : bl (l + h * 2 ^ s) = s + bl h := by
  have hp : 0 < 2 ^ s := Nat.two_pow_pos s
  apply Nat.le_antisymm
  · rw [bl_le, Nat.pow_add, Nat.mul_comm (2 ^ s)]
    have h1 : h < 2 ^ bl h := (bl_le h _).1 (Nat.le_refl _)
    have h2 : (h + 1) * 2 ^ s ≤ 2 ^ bl h * 2 ^ s := Nat.mul_le_mul_right _ h1
    rw [Nat.add_mul] at h2
    omega
  · apply Nat.le_of_not_lt
    intro hlt
    have hb := bl_pos h0
    have h1 : bl (l + h * 2 ^ s) ≤ s + (bl h - 1) := by omega
    rw [bl_le, Nat.pow_add, Nat.mul_comm (2 ^ s)] at h1
    have h2 : h * 2 ^ s < 2 ^ (bl h - 1) * 2 ^ s := by omega
    have h3 : h < 2 ^ (bl h - 1) := Nat.lt_of_mul_lt_mul_right h2
    rw [← bl_le] at h3
    omega
theorem bl_half (n : Nat) (h : n ≠ 0) : bl n = 1 + bl (n / 2) := by
  by_cases h2 : n / 2 = 0
  · have e : n = 1 := by omega
    subst e
    decide
  · have e := bl_shift (n / 2) (n % 2) 1 h2 (by omega)
    rw [show n % 2 + n / 2 * 2 ^ 1 = n by omega] at e
    exact e
theorem aux_bl : ∀ f n : Nat, n < 2 ^ f → Lib.bitLenAux f n = bl n
  | 0, n, h => by
    have : n = 0 := by simpa using h
    subst this
    rfl
  | f + 1, n, h => by
    rw [Lib.bitLenAux]
    by_cases h0 : n = 0
    · rw [if_pos h0, h0]; rfl
    · rw [if_neg h0, bl_half n h0, aux_bl f (n / 2) (by rw [Nat.pow_succ] at h; omega)]
theorem bitLen_bl (n : Nat) (h : n < 18446744073709551616) : Lib.bitLen n = bl n := aux_bl 64 n h
/-- a number of digits, the lowest first -/
def val : List Nat → Nat
  | [] => 0
  | d :: t => d + 65536 * val t
theorem val_snoc : ∀ (l : List Nat) (d : Nat), val (l ++ [d]) = val l + d * 65536 ^ l.length
  | [], d => by simp [val]
  | a :: l, d => by
    rw [List.cons_append, val, val, val_snoc l d, List.length_cons, Nat.pow_succ, Nat.mul_add, Nat.mul_left_comm, Nat.mul_comm 65536 (65536 ^ _)]
    omega
theorem val_lt : ∀ l : List Nat, (∀ d ∈ l, d < 65536) → val l < 65536 ^ l.length
  | [], _ => by simp [val]
  | a :: l, h => by
    have h1 := h a (by simp)
    have h2 := val_lt l (fun d hd => h d (by simp [hd]))
    rw [val, List.length_cons, Nat.pow_succ]
    omega
theorem take_next {l : List Nat} {j : Nat} (h : j < l.length) : val (l.take (j + 1)) = val (l.take j) + l[j] * 65536 ^ j := by
  rw [List.take_succ_eq_append_getElem h, val_snoc, List.length_take, Nat.min_eq_left (by omega)]
theorem times_in (D : List Nat) (c P v n x : Nat) (h : val D + c * P = v * n) : val D + (c + x * n) * P = (v + x * P) * n := by
  rw [Nat.add_mul, Nat.add_mul, ← h, Nat.mul_right_comm x n P]
  omega
theorem times_out (D : List Nat) (c j : Nat) (h : D.length = j) : val (D ++ [c % 65536]) + c / 65536 * 65536 ^ (j + 1) = val D + c * 65536 ^ j := by
  rw [val_snoc, h, Nat.pow_succ]
  have e : c = c % 65536 + c / 65536 * 65536 := by omega
  have e2 : c * 65536 ^ j = c % 65536 * 65536 ^ j + c / 65536 * (65536 ^ j * 65536) := by
    rw [Nat.mul_comm (65536 ^ j) 65536, ← Nat.mul_assoc, ← Nat.add_mul, ← e]
  omega
theorem pow_digits (i : Nat) : 65536 ^ i = 2 ^ (16 * i) := by
  rw [Nat.pow_mul]
theorem bl_top {l : List Nat} {i : Nat} (h : i < l.length) (hd : ∀ d ∈ l, d < 65536) (h0 : l[i] ≠ 0) : bl (val (l.take (i + 1))) = 16 * i + bl l[i] := by
  rw [take_next h, pow_digits]
  refine bl_shift _ _ _ h0 ?_
  have hv := val_lt (l.take i) (fun d hm => hd d (List.mem_of_mem_take hm))
  rw [List.length_take, Nat.min_eq_left (by omega), pow_digits] at hv
  exact hv
theorem val_none {l : List Nat} {i : Nat} (h : i < l.length) (h0 : l[i] = 0) : val (l.take (i + 1)) = val (l.take i) := by
  rw [take_next h, h0]
  omega
/-- a number of keys, held -/
def held (z : Int) : Nat := (max 0 (min z 1048576)).toNat
/-- the bound -/
def bnd (z : Int) : Nat := 16 + bl ((held z + 1) ^ 6)
theorem held_le (z : Int) : held z ≤ 1048576 := by unfold held; omega
theorem held_mono {a b : Int} (h : a ≤ b) : held a ≤ held b := by unfold held; omega
theorem held_held (z : Int) : held (held z : Int) = held z := by unfold held; omega
theorem bnd_held (z : Int) : bnd (held z : Int) = bnd z := by unfold bnd; rw [held_held]
theorem bnd_mono {a b : Int} (h : a ≤ b) : bnd a ≤ bnd b := by
  unfold bnd
  have h1 : (held a + 1) ^ 6 ≤ (held b + 1) ^ 6 := Nat.pow_le_pow_left (Nat.succ_le_succ (held_mono h)) 6
  have := bl_mono h1
  omega
theorem six_lt {x : Nat} (h : x ≤ 1048577) : x ^ 6 < 2 ^ 126 := by
  have h1 : x ^ 6 ≤ (2 ^ 21) ^ 6 := Nat.pow_le_pow_left (Nat.le_trans h (by decide)) 6
  rw [← Nat.pow_mul] at h1
  have h2 : x ^ 6 ≤ 1048577 ^ 6 := Nat.pow_le_pow_left h 6
  exact Nat.lt_of_le_of_lt h2 (by decide)
theorem six_pos {x : Nat} (h : 1 ≤ x) : x ^ 6 ≠ 0 := by
  have := Nat.pow_le_pow_left h 6
  rw [Nat.one_pow] at this
  omega
theorem bl_six {x : Nat} (h1 : 1 ≤ x) (h : x ≤ 1048577) : 1 ≤ bl (x ^ 6) ∧ bl (x ^ 6) ≤ 126 :=
  ⟨bl_pos (six_pos h1), (bl_le _ _).2 (six_lt h)⟩
theorem bnd_lt (z : Int) : 17 ≤ bnd z ∧ bnd z ≤ 142 := by
  have h := bl_six (x := held z + 1) (by omega) (by have := held_le z; omega)
  unfold bnd
  omega
theorem cube_six (x : Nat) : x * x * x * (x * x * x) = x ^ 6 := by
  rw [show x ^ 6 = x ^ 3 * x ^ 3 from (Nat.pow_add x 3 3), show x ^ 3 = x * x * x by rw [Nat.pow_succ, Nat.pow_succ, Nat.pow_one]]
theorem cube_lt {x : Nat} (h : x ≤ 1048577) : x * x < 18446744073709551616 ∧ x * x * x < 18446744073709551616 := by
  have h1 : x * x ≤ 1048577 * 1048577 := Nat.mul_le_mul h h
  have h2 : x * x * x ≤ 1048577 * 1048577 * 1048577 := Nat.mul_le_mul h1 h
  exact ⟨by omega, by omega⟩
/-- the bits of a product out of its halves -/
theorem bl_parts (p : Nat) (h : p / 18446744073709551616 ≠ 0) : bl p = 64 + bl (p / 18446744073709551616) := by
  have e := bl_shift (p / 18446744073709551616) (p % 18446744073709551616) 64 h (Nat.mod_lt _ (by decide))
  rw [show p % 18446744073709551616 + p / 18446744073709551616 * 2 ^ 64 = p by
    have := Nat.mod_add_div p 18446744073709551616
    rw [Nat.mul_comm] at this
    exact this] at e
  exact e
theorem bl_low (p : Nat) (h : p / 18446744073709551616 = 0) : bl p = bl (p % 18446744073709551616) := by
  have e : p % 18446744073709551616 = p := by omega
  rw [e]
theorem bnd_0 : bnd 0 = 17 := by decide
theorem bnd_1 : bnd 1 = 23 := by decide
theorem bnd_3 : bnd 3 = 29 := by decide
end Go.Proofs.Ytlpngoaachdjhaa
