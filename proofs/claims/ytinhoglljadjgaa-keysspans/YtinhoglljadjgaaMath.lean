/-
  Plain facts on keys: the order of lists of bytes, what two have in common, the least key behind all that begin so. No program is named here.
-/
import Derived.Lib.Bytealg
namespace Go.Proofs.Ytinhoglljadjgaa
/-- which key is less: -1, 0 or 1 -/
abbrev cmp (a b : List UInt8) : Int := Lib.compareBytes a b
theorem cmp_cons (x y : UInt8) (a b : List UInt8) : cmp (x :: a) (y :: b) = if x < y then -1 else if y < x then 1 else cmp a b := rfl
theorem cmp_same (x : UInt8) (a b : List UInt8) : cmp (x :: a) (x :: b) = cmp a b := by
  rw [cmp_cons, if_neg (UInt8.lt_irrefl x), if_neg (UInt8.lt_irrefl x)]
theorem cmp_lt {x y : UInt8} (h : x < y) (a b : List UInt8) : cmp (x :: a) (y :: b) = -1 := by rw [cmp_cons, if_pos h]
theorem cmp_gt {x y : UInt8} (h : y < x) (a b : List UInt8) : cmp (x :: a) (y :: b) = 1 := by
  rw [cmp_cons, if_neg (UInt8.lt_asymm h), if_pos h]
theorem tri (x y : UInt8) : x < y ∨ x = y ∨ y < x := by
  simp only [UInt8.lt_iff_toNat_lt, ← UInt8.toNat_inj]; omega
theorem cmp_self : ∀ a : List UInt8, cmp a a = 0
  | [] => rfl
  | x :: a => by rw [cmp_same, cmp_self a]
theorem cmp_range : ∀ a b : List UInt8, cmp a b = -1 ∨ cmp a b = 0 ∨ cmp a b = 1
  | [], [] => .inr (.inl rfl)
  | [], _ :: _ => .inl rfl
  | _ :: _, [] => .inr (.inr rfl)
  | x :: a, y :: b => by
    rcases tri x y with h | rfl | h
    · exact .inl (cmp_lt h a b)
    · rw [cmp_same]; exact cmp_range a b
    · exact .inr (.inr (cmp_gt h a b))
theorem cmp_turn : ∀ a b : List UInt8, cmp a b = - cmp b a
  | [], [] => rfl
  | [], _ :: _ => rfl
  | _ :: _, [] => rfl
  | x :: a, y :: b => by
    rcases tri x y with h | rfl | h
    · rw [cmp_lt h, cmp_gt h]
    · rw [cmp_same, cmp_same]; exact cmp_turn a b
    · rw [cmp_gt h, cmp_lt h]; rfl
theorem cmp_zero : ∀ a b : List UInt8, cmp a b = 0 → a = b
  | [], [], _ => rfl
  | [], _ :: _, h => by cases h
  | _ :: _, [], h => by cases h
  | x :: a, y :: b, h => by
    rcases tri x y with g | rfl | g
    · rw [cmp_lt g] at h; cases h
    · rw [cmp_same] at h; rw [cmp_zero a b h]
    · rw [cmp_gt g] at h; cases h
theorem cmp_trans : ∀ a b c : List UInt8, cmp a b ≤ 0 → cmp b c ≤ 0 → cmp a c ≤ 0
  | [], _, [], _, _ => Int.le_refl _
  | [], _, _ :: _, _, _ => by show (-1 : Int) ≤ 0; omega
  | _ :: _, [], _, h, _ => by exact absurd h (by show ¬ (1 : Int) ≤ 0; omega)
  | _ :: _, _ :: _, [], _, h => by exact absurd h (by show ¬ (1 : Int) ≤ 0; omega)
  | x :: a, y :: b, z :: c, h, k => by
    rcases tri x y with g | rfl | g
    · rcases tri y z with g2 | rfl | g2
      · rw [cmp_lt (UInt8.lt_trans g g2)]; omega
      · rw [cmp_lt g]; omega
      · rw [cmp_gt g2] at k; omega
    · rcases tri x z with g2 | rfl | g2
      · rw [cmp_lt g2]; omega
      · rw [cmp_same] at h k ⊢; exact cmp_trans a b c h k
      · rw [cmp_gt g2] at k; omega
    · rw [cmp_gt g] at h; omega
/-- not less, then less: less -/
theorem cmp_between {a b c : List UInt8} (h : 0 ≤ cmp a b) (k : cmp a c < 0) : cmp b c < 0 := by
  have h1 : cmp b a ≤ 0 := by rw [cmp_turn]; omega
  have h2 := cmp_trans b a c h1 (by omega)
  rcases Int.lt_or_eq_of_le h2 with h3 | h3
  · exact h3
  · have h4 := cmp_zero _ _ h3
    subst h4
    have h5 := cmp_turn a b
    have h6 := cmp_turn b a
    omega
/-- how many bytes two keys have in common -/
def com : List UInt8 → List UInt8 → Nat
  | x :: a, y :: b => if x = y then com a b + 1 else 0
  | [], _ => 0
  | _ :: _, [] => 0
theorem com_le : ∀ a b : List UInt8, com a b ≤ a.length ∧ com a b ≤ b.length
  | [], _ => by simp [com]
  | _ :: _, [] => by simp [com]
  | x :: a, y :: b => by
    have := com_le a b
    simp only [com, List.length_cons]
    split <;> omega
theorem com_take : ∀ a b : List UInt8, a.take (com a b) = b.take (com a b)
  | [], _ => by simp [com]
  | _ :: _, [] => by simp [com]
  | x :: a, y :: b => by
    by_cases h : x = y
    · subst h; simp only [com, if_true, List.take_succ_cons, com_take a b]
    · simp [com, h]
theorem com_next : ∀ (a b : List UInt8) (h1 : com a b < a.length) (h2 : com a b < b.length), a[com a b] ≠ b[com a b]
  | [], _, h1, _ => by simp at h1
  | _ :: _, [], _, h2 => by simp at h2
  | x :: a, y :: b, h1, h2 => by
    by_cases h : x = y
    · subst h
      have e : com (x :: a) (x :: b) = com a b + 1 := by simp [com]
      simp only [e, List.getElem_cons_succ]
      simp only [e, List.length_cons] at h1 h2
      exact com_next a b (by omega) (by omega)
    · have e : com (x :: a) (y :: b) = 0 := by simp [com, h]
      simp only [e, List.getElem_cons_zero]
      exact h
/-- what walking byte by byte finds: all before i alike, and at i unlike or one is at its end -/
theorem com_is : ∀ (i : Nat) (a b : List UInt8), i ≤ a.length → i ≤ b.length → a.take i = b.take i → com a b = i + com (a.drop i) (b.drop i)
  | 0, a, b, _, _, _ => by simp
  | i + 1, [], _, h, _, _ => by simp at h
  | i + 1, _ :: _, [], _, h, _ => by simp at h
  | i + 1, x :: a, y :: b, h1, h2, h => by
    simp only [List.take_succ_cons, List.cons.injEq] at h
    obtain ⟨rfl, h⟩ := h
    have := com_is i a b (by simpa using h1) (by simpa using h2) h
    simp only [com, if_true, List.drop_succ_cons]
    omega
theorem cmp_is : ∀ (i : Nat) (a b : List UInt8), i ≤ a.length → i ≤ b.length → a.take i = b.take i → cmp a b = cmp (a.drop i) (b.drop i)
  | 0, a, b, _, _, _ => by simp
  | i + 1, [], _, h, _, _ => by simp at h
  | i + 1, _ :: _, [], _, h, _ => by simp at h
  | i + 1, x :: a, y :: b, h1, h2, h => by
    simp only [List.take_succ_cons, List.cons.injEq] at h
    obtain ⟨rfl, h⟩ := h
    rw [cmp_same, List.drop_succ_cons, List.drop_succ_cons]
    exact cmp_is i a b (by simpa using h1) (by simpa using h2) h
theorem take_next {a b : List UInt8} {i : Nat} (h : a.take i = b.take i) (h1 : i < a.length) (h2 : i < b.length) (e : a[i] = b[i]) : a.take (i + 1) = b.take (i + 1) := by
  rw [List.take_succ_eq_append_getElem h1, List.take_succ_eq_append_getElem h2, h, e]
theorem com_stop {a b : List UInt8} {i : Nat} (h : a.take i = b.take i) (h1 : i < a.length) (h2 : i < b.length) (e : a[i] ≠ b[i]) : com a b = i := by
  rw [com_is i a b (by omega) (by omega) h, List.drop_eq_getElem_cons h1, List.drop_eq_getElem_cons h2]
  simp [com, e]
theorem com_end {a b : List UInt8} {i : Nat} (h : a.take i = b.take i) (h0 : i = min a.length b.length) : com a b = i := by
  have := com_le a b
  have := com_is i a b (by omega) (by omega) h
  omega
theorem cmp_stop {a b : List UInt8} {i : Nat} (h : a.take i = b.take i) (h1 : i < a.length) (h2 : i < b.length) (e : a[i] ≠ b[i]) : cmp a b = if a[i].toNat < b[i].toNat then -1 else 1 := by
  rw [cmp_is i a b (by omega) (by omega) h, List.drop_eq_getElem_cons h1, List.drop_eq_getElem_cons h2]
  rcases tri a[i] b[i] with g | g | g
  · rw [cmp_lt g, if_pos (UInt8.lt_iff_toNat_lt.1 g)]
  · exact absurd g e
  · rw [cmp_gt g, if_neg]
    have := UInt8.lt_iff_toNat_lt.1 g
    omega
theorem cmp_end {a b : List UInt8} {i : Nat} (h : a.take i = b.take i) (h0 : i = min a.length b.length) : decide (cmp a b < 0) = decide (a.length < b.length) := by
  rw [cmp_is i a b (by omega) (by omega) h]
  rcases Nat.lt_or_ge a.length b.length with g | g
  · have e1 : a.drop i = [] := List.drop_eq_nil_iff.2 (by omega)
    have e2 : b.drop i = b[i]'(by omega) :: b.drop (i + 1) := List.drop_eq_getElem_cons (by omega)
    rw [e1, e2]
    simp [g, cmp, Lib.compareBytes]
  · have e2 : b.drop i = [] := List.drop_eq_nil_iff.2 (by omega)
    rw [e2]
    have : ¬ a.length < b.length := by omega
    cases a.drop i <;> simp [this, cmp, Lib.compareBytes]
/-- the next key -/
theorem cmp_next : ∀ k : List UInt8, cmp k (k ++ [0]) = -1
  | [] => rfl
  | x :: k => by rw [List.cons_append, cmp_same]; exact cmp_next k
theorem no_between : ∀ x k : List UInt8, cmp x k ≤ 0 ∨ 0 ≤ cmp x (k ++ [0])
  | [], [] => .inl (Int.le_refl _)
  | [], _ :: _ => .inl (by show (-1 : Int) ≤ 0; omega)
  | x :: a, [] => by
    right
    rw [List.nil_append, cmp_cons]
    have h : ¬ x < 0 := UInt8.not_lt_zero
    rw [if_neg h]
    split
    · omega
    · cases a
      · exact Int.le_refl _
      · show (0 : Int) ≤ 1; omega
  | x :: a, y :: k => by
    rcases tri x y with h | rfl | h
    · left; rw [cmp_lt h]; omega
    · rw [List.cons_append, cmp_same, cmp_same]; exact no_between a k
    · right; rw [List.cons_append, cmp_gt h]; omega
/-- the least key behind all that begin so -/
def bh : List UInt8 → Option (List UInt8)
  | [] => none
  | c :: r => match bh r with
    | some s => some (c :: s)
    | none => if c = 255 then none else some [c + 1]
theorem bh_last (c : UInt8) : ∀ l : List UInt8, bh (l ++ [c]) = if c = 255 then bh l else some (l ++ [c + 1])
  | [] => by simp [bh]
  | d :: l => by
    rw [List.cons_append, bh, bh_last c l]
    by_cases h : c = 255
    · simp [h, bh]
    · simp [h]
theorem bh_cut {l : List UInt8} {n : Nat} (h : n < l.length) : bh (l.take (n + 1)) = if l[n] = 255 then bh (l.take n) else some (l.take n ++ [l[n] + 1]) := by
  rw [List.take_succ_eq_append_getElem h, bh_last]
theorem lt_succ (c : UInt8) (h : c ≠ 255) : c < c + 1 := by
  have h1 : c.toNat ≠ 255 := fun e => h (UInt8.toNat_inj.1 (by simpa using e))
  have h2 := c.toNat_lt
  rw [UInt8.lt_iff_toNat_lt, UInt8.toNat_add]
  simp
  omega
theorem bh_more : ∀ (p x b : List UInt8), p <+: x → bh p = some b → cmp x b < 0
  | [], _, _, _, h => by cases h
  | c :: r, x, b, hp, h => by
    obtain ⟨t, rfl⟩ := hp
    rw [List.cons_append]
    unfold bh at h
    cases hs : bh r with
    | some s =>
      rw [hs] at h
      injection h with h
      subst h
      rw [cmp_same]
      exact bh_more r (r ++ t) s ⟨t, rfl⟩ hs
    | none =>
      rw [hs] at h
      by_cases hc : c = 255
      · simp [hc] at h
      · simp only [hc, if_false] at h
        injection h with h
        subst h
        rw [cmp_lt (lt_succ c hc)]
        omega
theorem bh_least : ∀ (p x : List UInt8), ¬ p <+: x → 0 ≤ cmp x p → ∃ b, bh p = some b ∧ 0 ≤ cmp x b
  | [], x, h, _ => absurd (List.nil_prefix) h
  | c :: r, [], _, h => absurd h (by show ¬ (0 : Int) ≤ -1; omega)
  | c :: r, d :: x, h, k => by
    rcases tri d c with g | rfl | g
    · rw [cmp_lt g] at k; omega
    · rw [cmp_same] at k
      have h2 : ¬ r <+: x := fun e => h (by rw [List.cons_prefix_cons]; exact ⟨rfl, e⟩)
      obtain ⟨s, hs, hk⟩ := bh_least r x h2 k
      refine ⟨d :: s, by simp [bh, hs], ?_⟩
      rw [cmp_same]; exact hk
    · cases hs : bh r with
      | some s => exact ⟨c :: s, by simp [bh, hs], by rw [cmp_gt g]; omega⟩
      | none =>
        have hc : c ≠ 255 := by
          rintro rfl
          have h1 := UInt8.lt_iff_toNat_lt.1 g
          have h2 := d.toNat_lt
          have h3 : (255 : UInt8).toNat = 255 := rfl
          omega
        refine ⟨[c + 1], by simp [bh, hs, hc], ?_⟩
        rcases tri (c + 1) d with g2 | g2 | g2
        · rw [cmp_gt g2]; omega
        · rw [← g2, cmp_same]
          cases x
          · exact Int.le_refl _
          · show (0 : Int) ≤ 1; omega
        · exfalso
          have h1 := UInt8.lt_iff_toNat_lt.1 g
          have h2 := UInt8.lt_iff_toNat_lt.1 g2
          have h4 := d.toNat_lt
          rw [UInt8.toNat_add] at h2
          have h3 : (1 : UInt8).toNat = 1 := rfl
          omega
theorem prefix_le : ∀ (p x : List UInt8), p <+: x → 0 ≤ cmp x p
  | [], [], _ => Int.le_refl _
  | [], _ :: _, _ => by show (0 : Int) ≤ 1; omega
  | _ :: _, [], h => by simp at h
  | c :: r, d :: x, h => by
    rw [List.cons_prefix_cons] at h
    obtain ⟨rfl, h⟩ := h
    rw [cmp_same]; exact prefix_le r x h
/-- a key is in the stretch of those that begin so -/
def inSpan (f t : List UInt8) (closed : Bool) (k : List UInt8) : Bool := decide (0 ≤ cmp k f) && (!closed || decide (cmp k t < 0))
def noSpan (f t : List UInt8) (closed : Bool) : Bool := closed && decide (cmp t f ≤ 0)
theorem span_of (p k : List UInt8) : inSpan p ((bh p).getD []) (bh p).isSome k = p.isPrefixOf k := by
  by_cases h : p <+: k
  · rw [List.isPrefixOf_iff_prefix.2 h]
    have h1 := prefix_le p k h
    cases hb : bh p with
    | none => simp [inSpan, h1]
    | some b => simp [inSpan, h1, bh_more p k b h hb]
  · have h0 : p.isPrefixOf k = false := by
      rw [Bool.eq_false_iff]
      exact fun e => h (List.isPrefixOf_iff_prefix.1 e)
    rw [h0]
    by_cases h1 : 0 ≤ cmp k p
    · obtain ⟨b, hb, hk⟩ := bh_least p k h h1
      simp [inSpan, h1, hb]
      omega
    · simp [inSpan, h1]
theorem span_full (p : List UInt8) : noSpan p ((bh p).getD []) (bh p).isSome = false := by
  cases hb : bh p with
  | none => simp [noSpan]
  | some b =>
    have h := bh_more p p b (List.prefix_refl p) hb
    have h1 := cmp_turn p b
    simp [noSpan]
    omega
theorem span_none (f t k : List UInt8) (c : Bool) (h : noSpan f t c = true) : inSpan f t c k = false := by
  simp only [noSpan, Bool.and_eq_true, decide_eq_true_eq] at h
  obtain ⟨rfl, h⟩ := h
  by_cases h1 : 0 ≤ cmp k f
  · by_cases h2 : cmp k t < 0
    · have h3 := cmp_between h1 h2
      have h4 := cmp_turn f t
      omega
    · simp [inSpan, h2]
  · simp [inSpan, h1]
theorem span_some (f t : List UInt8) (c : Bool) (h : noSpan f t c = false) : inSpan f t c f = true := by
  cases c
  · simp [inSpan, cmp_self]
  · simp only [noSpan, Bool.true_and, decide_eq_false_iff_not] at h
    have h4 := cmp_turn f t
    simp [inSpan, cmp_self]
    omega
end Go.Proofs.Ytinhoglljadjgaa
