/-
  Plain facts on keys: the order of lists of bytes. No program is named here.
-/
import Derived.Lib.Bytealg
namespace Go.Proofs.Ytlpngoaachdjhaa
/-- which key is less: -1, 0 or 1 -/
abbrev cmp (a b : List UInt8) : Int := Lib.compareBytes a b
theorem cmp_cons (x y : UInt8) (a b : List UInt8) : cmp (x :: a) (y :: b) = if x < y then -1 else if y < x then 1 else cmp a b := rfl
theorem cmp_same (x : UInt8) (a b : List UInt8) : cmp (x :: a) (x :: b) = cmp a b := by
  rw [cmp_cons, if_neg (UInt8.lt_irrefl x), if_neg (UInt8.lt_irrefl x)]
theorem cmp_lt {x y : UInt8} (h : x < y) (a b : List UInt8) : cmp (x :: a) (y :: b) = -1 := by rw [cmp_cons, if_pos h]
theorem cmp_gt {x y : UInt8} (h : y < x) (a b : List UInt8) : cmp (x :: a) (y :: b) = 1 := by
  rw [cmp_cons, if_neg (UInt8.lt_asymm h), if_pos h]
theorem tri (x y : UInt8) : x < y ∨ x = y ∨ y < x := by
  simp only [UInt8.lt_iff_toNat_lt, ← UInt8.toNat_inj]; omega
theorem cmp_range : ∀ a b : List UInt8, cmp a b = -1 ∨ cmp a b = 0 ∨ cmp a b = 1
  | [], [] => .inr (.inl rfl)
  | [], _ :: _ => .inl rfl
  | _ :: _, [] => .inr (.inr rfl)
  | x :: a, y :: b => by
    rcases tri x y with h | rfl | h
    · exact .inl (cmp_lt h a b)
    · rw [cmp_same]; exact cmp_range a b
    · exact .inr (.inr (cmp_gt h a b))
theorem cmp_turn : ∀ a b : List UInt8, cmp a b = - cmp b a
  | [], [] => rfl
  | [], _ :: _ => rfl
  | _ :: _, [] => rfl
  | x :: a, y :: b => by
    rcases tri x y with h | rfl | h
    · rw [cmp_lt h, cmp_gt h]
    · rw [cmp_same, cmp_same]; exact cmp_turn a b
    · rw [cmp_gt h, cmp_lt h]; rfl
theorem cmp_is : ∀ (i : Nat) (a b : List UInt8), i ≤ a.length → i ≤ b.length → a.take i = b.take i → cmp a b = cmp (a.drop i) (b.drop i)
  | 0, a, b, _, _, _ => by simp
  | i + 1, [], _, h, _, _ => by simp at h
  | i + 1, _ :: _, [], _, h, _ => by simp at h
  | i + 1, x :: a, y :: b, h1, h2, h => by
    simp only [List.take_succ_cons, List.cons.injEq] at h
    obtain ⟨rfl, h⟩ := h
    rw [cmp_same, List.drop_succ_cons, List.drop_succ_cons]
    exact cmp_is i a b (by simpa using h1) (by simpa using h2) h
theorem take_on {a b : List UInt8} {i : Nat} (h : a.take i = b.take i) (h1 : i < a.length) (h2 : i < b.length) (e : a[i] = b[i]) : a.take (i + 1) = b.take (i + 1) := by
  rw [List.take_succ_eq_append_getElem h1, List.take_succ_eq_append_getElem h2, h, e]
theorem cmp_stop {a b : List UInt8} {i : Nat} (h : a.take i = b.take i) (h1 : i < a.length) (h2 : i < b.length) (e : a[i] ≠ b[i]) : cmp a b = if a[i].toNat < b[i].toNat then -1 else 1 := by
  rw [cmp_is i a b (by omega) (by omega) h, List.drop_eq_getElem_cons h1, List.drop_eq_getElem_cons h2]
  rcases tri a[i] b[i] with g | g | g
  · rw [cmp_lt g, if_pos (UInt8.lt_iff_toNat_lt.1 g)]
  · exact absurd g e
  · rw [cmp_gt g, if_neg]
    have := UInt8.lt_iff_toNat_lt.1 g
    omega
theorem cmp_end {a b : List UInt8} {i : Nat} (h : a.take i = b.take i) (h0 : i = min a.length b.length) : decide (cmp a b < 0) = decide (a.length < b.length) := by
  rw [cmp_is i a b (by omega) (by omega) h]
  rcases Nat.lt_or_ge a.length b.length with g | g
  · have e1 : a.drop i = [] := List.drop_eq_nil_iff.2 (by omega)
    have e2 : b.drop i = b[i]'(by omega) :: b.drop (i + 1) := List.drop_eq_getElem_cons (by omega)
    rw [e1, e2]
    simp [g, cmp, Lib.compareBytes]
  · have e2 : b.drop i = [] := List.drop_eq_nil_iff.2 (by omega)
    rw [e2]
    have : ¬ a.length < b.length := by omega
    cases a.drop i <;> simp [this, cmp, Lib.compareBytes]
end Go.Proofs.Ytlpngoaachdjhaa
