/-
  A set's lowest number and what is left without it; places in a set's list. No program.
-/
import Derived.Test.YtngfbkkfnooobaaGreatDoorBitz
import Derived.Lib.TrailingZeros
namespace Go.Proofs.YtngfbkkfnooobaaGreatDoor.Bt
theorem lst_none (m : Nat) : ∀ n, (∀ t, t < n → m.testBit t = false) → lst m n = []
  | 0, _ => rfl
  | n + 1, h => by
    rw [lst, lst_none m n (fun t ht => h t (by omega)), h n (by omega)]
    rfl
theorem lst_low (r s k : Nat) (h0 : ∀ t, t < k → r.testBit t = false) (h1 : r.testBit k = true) (h2 : ∀ t, s.testBit t = (r.testBit t && decide (t ≠ k))) : ∀ n, k < n → lst r n = (k : Int) :: lst s n
  | 0, h => by omega
  | n + 1, h => by
    by_cases e : k = n
    · subst e
      rw [lst, lst, lst_none r k h0, lst_none s k (fun t ht => by rw [h2, h0 t ht]; rfl), h2 k, h1]
      simp
    · rw [lst, lst, lst_low r s k h0 h1 h2 n (by omega), h2 n]
      have : decide (n ≠ k) = true := by simp; omega
      rw [this, Bool.and_true]
      rfl
theorem ctz_bits (r : Nat) (h0 : r ≠ 0) (h : r < 4294967296) : Lib.ctz 32 r < 32 ∧ r.testBit (Lib.ctz 32 r) = true ∧ ∀ t, t < Lib.ctz 32 r → r.testBit t = false := by
  obtain ⟨q, hq, hk⟩ := Lib.ctzFrom_spec 32 r (by omega) h
  have e : Lib.ctz 32 r = Lib.ctzFrom 32 r := by simp [Lib.ctz, h0]
  rw [e]
  obtain ⟨k, hkk⟩ : ∃ k, k = Lib.ctzFrom 32 r := ⟨_, rfl⟩
  rw [← hkk] at hq hk ⊢
  refine ⟨hk, ?_, fun t ht => ?_⟩
  · rw [hq, Nat.testBit_two_pow_mul]
    simp
  · rw [hq, Nat.testBit_two_pow_mul]
    have : decide (k ≤ t) = false := by simp; omega
    simp [this]
/-- the lowest number comes first; the others are those of the set without it -/
theorem lst_step (r : Nat) (h0 : r ≠ 0) (h : r < 4294967296) : lst r 32 = (Lib.ctz 32 r : Int) :: lst (wo r (one (Lib.ctz 32 r : Int))) 32 := by
  obtain ⟨h1, h2, h3⟩ := ctz_bits r h0 h
  refine lst_low r _ _ h3 h2 (fun t => ?_) 32 h1
  rw [bit_wo, bit_one]
  by_cases e : t = Lib.ctz 32 r
  · subst e
    simp [h1]
  · have : ¬ ((t : Int) = (Lib.ctz 32 r : Int)) := by omega
    simp [this, e]
theorem lst_zero : ∀ n, lst 0 n = []
  | n => lst_none 0 n (fun t _ => Nat.zero_testBit t)
theorem lst_lt (m : Nat) (n : Nat) : ∀ z ∈ lst m n, 0 ≤ z ∧ z < (n : Int) := by
  intro z hz
  obtain ⟨i, h1, _, rfl⟩ := (mem_lst m z n).1 hz
  omega
theorem less_all {L : List Int} {z : Int} (h : ∀ x ∈ L, x < z) : less L z = L.length := by
  unfold less
  rw [List.filter_eq_self.2 (fun x hx => by simpa using h x hx)]
/-- at place k of a set's list stands the number that k of it are less than -/
theorem less_get (m : Nat) : ∀ n k (hk : k < (lst m n).length), less (lst m n) (lst m n)[k] = k
  | 0, k, hk => by simp [lst] at hk
  | n + 1, k, hk => by
    by_cases hb : m.testBit n = true
    · have e : lst m (n + 1) = lst m n ++ [(n : Int)] := by rw [lst, if_pos hb]
      have hl : (lst m (n + 1)).length = (lst m n).length + 1 := by rw [e]; simp
      by_cases hlt : k < (lst m n).length
      · have e2 : (lst m (n + 1))[k] = (lst m n)[k] := by simp only [e]; exact List.getElem_append_left hlt
        rw [e2, e, less_append, less_get m n k hlt]
        have := (lst_lt m n _ (List.getElem_mem hlt)).2
        have : less [(n : Int)] (lst m n)[k] = 0 := by unfold less; simp; omega
        omega
      · have hk2 : k = (lst m n).length := by omega
        have e2 : (lst m (n + 1))[k] = (n : Int) := by simp only [e]; rw [List.getElem_append_right (by omega)]; simp [hk2]
        rw [e2, e, less_append, less_all (fun x hx => (lst_lt m n x hx).2)]
        simp [less, hk2]
    · have e : lst m (n + 1) = lst m n := by rw [lst, if_neg hb, List.append_nil]
      have hk2 : k < (lst m n).length := by rw [← e]; exact hk
      have := less_get m n k hk2
      simp only [e]
      exact this
theorem less_mem (m : Nat) (z : Int) (h : z ∈ lst m 32) : ∃ (k : Nat) (hk : k < (lst m 32).length), (lst m 32)[k] = z ∧ less (lst m 32) z = k := by
  obtain ⟨k, hk, rfl⟩ := List.getElem_of_mem h
  exact ⟨k, hk, rfl, less_get m 32 k hk⟩
/-- a set is its list's number -/
theorem num_lst (m : Nat) (h : m < 4294967296) : num (lst m 32) 32 = m := Nat.eq_of_testBit_eq fun t => by
  rw [bit_num32]
  by_cases ht : t < 32
  · cases hb : m.testBit t with
    | true => exact decide_eq_true ⟨ht, (mem_all m t).2 ⟨ht, hb⟩⟩
    | false => exact decide_eq_false fun e => by have := (mem_all m t).1 e.2; rw [hb] at this; exact absurd this.2 (by decide)
  · rw [bits_of_lt h t (by omega)]
    exact decide_eq_false fun e => ht e.1
end Go.Proofs.YtngfbkkfnooobaaGreatDoor.Bt
