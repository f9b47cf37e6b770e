/-
  Plain facts on sizes: held, even, the least one of a height; that one turn, or two, are enough. No program is named here.
-/
namespace Go.Proofs.Ythbjnalcfdfgkaa
def hd (z : Int) : Nat := (max 0 (min z 1048576)).toNat
theorem hd_le (z : Int) : hd z ≤ 1048576 := by unfold hd; omega
theorem hd_nat (n : Nat) (h : n ≤ 1048576) : hd (n : Int) = n := by unfold hd; omega
def ev (a b : Nat) : Bool := decide (a + 1 ≤ 3 * (b + 1)) && decide (b + 1 ≤ 3 * (a + 1))
theorem ev_true {a b : Nat} : ev a b = true ↔ a + 1 ≤ 3 * (b + 1) ∧ b + 1 ≤ 3 * (a + 1) := by
  unfold ev; rw [Bool.and_eq_true, decide_eq_true_iff, decide_eq_true_iff]
theorem ev_false {a b : Nat} : ev a b = false ↔ ¬ (a + 1 ≤ 3 * (b + 1) ∧ b + 1 ≤ 3 * (a + 1)) := by
  rw [← ev_true]; simp
theorem ev_turn (a b : Nat) : ev b a = ev a b := by unfold ev; exact Bool.and_comm _ _
def step (s : Nat) : Nat := 1 + s + s / 3
def low : Nat → Nat
  | 0 => 0
  | n + 1 => step (low n)
theorem low_step (n : Nat) : low (n + 1) = 1 + low n + low n / 3 := rfl
theorem low_lt (n : Nat) : low n < low (n + 1) := by rw [low_step]; omega
theorem low_mono {a b : Nat} (h : a ≤ b) : low a ≤ low b := by
  induction h with
  | refl => exact Nat.le_refl _
  | step _ ih => exact Nat.le_trans ih (Nat.le_of_lt (low_lt _))
set_option maxRecDepth 100000 in
theorem low_most : low 64 < 1099511627776 := by decide
set_option maxRecDepth 100000 in
theorem low_above : 1048576 < low 64 := by decide
theorem low_30 : low 30 ≤ 1048576 := by decide
theorem low_bound {h : Nat} (k : h ≤ 64) : low h < 1099511627776 := Nat.lt_of_le_of_lt (low_mono k) low_most
theorem low_few {h : Nat} (k : h ≤ 30) : low h ≤ 1048576 := Nat.le_trans (low_mono k) low_30
theorem low_cube : ∀ h : Fin 65, 2 ^ (h.val - 2) ≤ (low h.val + 1) * (low h.val + 1) * (low h.val + 1) := by decide
theorem cube_le {a b : Nat} (h : a ≤ b) : a * a * a ≤ b * b * b := Nat.mul_le_mul (Nat.mul_le_mul h h) h
theorem cube_of {h k : Nat} (hh : h ≤ 64) (hk : low h ≤ k) : 2 ^ (h - 2) ≤ (k + 1) * (k + 1) * (k + 1) :=
  Nat.le_trans (low_cube ⟨h, by omega⟩) (cube_le (by have h2 : low h ≤ k := hk; show low h + 1 ≤ k + 1; omega))
theorem cube_lt {k : Nat} (hk : k ≤ 1048576) : (k + 1) * (k + 1) * (k + 1) < 18446744073709551616 :=
  Nat.lt_of_le_of_lt (cube_le (show k + 1 ≤ 1048577 by omega)) (by decide)
theorem square_lt {k : Nat} (hk : k ≤ 1048576) : (k + 1) * (k + 1) < 18446744073709551616 :=
  Nat.lt_of_le_of_lt (Nat.mul_le_mul (show k + 1 ≤ 1048577 by omega) (show k + 1 ≤ 1048577 by omega)) (by decide)
/-- one turn, or two, are enough -/
theorem turns (l a b c : Nat) (h0 : ev l (a + b + 1 + c + 1) = false) (h1 : l ≤ a + b + 1 + c + 1) (h2 : ev (a + b + 1) c = true) (h3 : ev a b = true)
    (h4 : ev (l + 1) (a + b + 1 + c + 1) = true ∨ ev l (a + b + 1 + c) = true) (h5 : (ev l (a + b + 1) && ev (l + (a + b + 1) + 1) c) = false) :
    ev l a = true ∧ ev b c = true ∧ ev (l + a + 1) (b + c + 1) = true := by
  rw [Bool.and_eq_false_iff, ev_false, ev_false] at h5
  rw [ev_false] at h0
  simp only [ev_true] at h2 h3 h4 ⊢
  omega
end Go.Proofs.Ythbjnalcfdfgkaa
