/-
  Plain facts on sorted lists that are parted at a pair: what is put, taken out, looked for on either side. No program is named here.
-/
import Derived.Test.YtngfbkkfnooobaaDoorWood
namespace Go.Proofs.YtngfbkkfnooobaaDoor
/-- a map without a key -/
def out (m : List Pr) (k : List UInt8) : List Pr := m.filter fun x => decide (x.1 ≠ k)
/-- a key's value -/
def val (m : List Pr) (k : List UInt8) : List UInt8 := ((m.find? fun x => decide (x.1 = k)).map (·.2)).getD []
theorem srt_parts {l r : List Pr} {q : Pr} (h : srt (l ++ q :: r)) : srt l ∧ srt r ∧ (∀ a ∈ l, cmp a.1 q.1 < 0) ∧ (∀ b ∈ r, cmp q.1 b.1 < 0) ∧ ∀ a ∈ l, ∀ b ∈ r, cmp a.1 b.1 < 0 := by
  obtain ⟨h1, h2, h3⟩ := List.pairwise_append.1 h
  obtain ⟨h4, h5⟩ := List.pairwise_cons.1 h2
  exact ⟨h1, h5, fun a ha => h3 a ha q (by simp), h4, fun a ha b hb => h3 a ha b (by simp [hb])⟩
theorem srt_of {l r : List Pr} {q : Pr} (h1 : srt l) (h2 : srt r) (h3 : ∀ a ∈ l, cmp a.1 q.1 < 0) (h4 : ∀ b ∈ r, cmp q.1 b.1 < 0) : srt (l ++ q :: r) := by
  refine List.pairwise_append.2 ⟨h1, List.pairwise_cons.2 ⟨h4, h2⟩, fun a ha b hb => ?_⟩
  rcases List.mem_cons.1 hb with rfl | hb
  · exact h3 a ha
  · exact cmp_lt_trans (h3 a ha) (h4 b hb)
theorem cmp_neg {a b : List UInt8} (h : ¬ cmp a b < 0) (k : cmp a b ≠ 0) : cmp b a < 0 := by
  have := cmp_turn b a
  omega
theorem put_left {l r : List Pr} {q p : Pr} (h : srt (l ++ q :: r)) (hc : cmp p.1 q.1 < 0) : put l p ++ q :: r = put (l ++ q :: r) p := by
  obtain ⟨h1, h2, h3, h4, h5⟩ := srt_parts h
  refine srt_ext _ _ (srt_of (srt_put p l h1) h2 (fun a ha => ?_) h4) (srt_put p _ h) fun x => ?_
  · rcases (mem_put p a l).1 ha with rfl | ⟨ha, _⟩
    · exact hc
    · exact h3 a ha
  · simp only [List.mem_append, List.mem_cons, mem_put]
    constructor
    · rintro ((h | ⟨h, k⟩) | rfl | h)
      · exact .inl h
      · exact .inr ⟨.inl h, k⟩
      · exact .inr ⟨.inr (.inl rfl), fun e => cmp_ne hc e.symm⟩
      · exact .inr ⟨.inr (.inr h), fun e => cmp_ne (cmp_lt_trans hc (h4 x h)) e.symm⟩
    · rintro (h | ⟨h | h | h, k⟩)
      · exact .inl (.inl h)
      · exact .inl (.inr ⟨h, k⟩)
      · exact .inr (.inl h)
      · exact .inr (.inr h)
theorem put_right {l r : List Pr} {q p : Pr} (h : srt (l ++ q :: r)) (hc : cmp q.1 p.1 < 0) : l ++ q :: put r p = put (l ++ q :: r) p := by
  obtain ⟨h1, h2, h3, h4, h5⟩ := srt_parts h
  refine srt_ext _ _ (srt_of h1 (srt_put p r h2) h3 (fun a ha => ?_)) (srt_put p _ h) fun x => ?_
  · rcases (mem_put p a r).1 ha with rfl | ⟨ha, _⟩
    · exact hc
    · exact h4 a ha
  · simp only [List.mem_append, List.mem_cons, mem_put]
    constructor
    · rintro (h | rfl | h | ⟨h, k⟩)
      · exact .inr ⟨.inl h, cmp_ne (cmp_lt_trans (h3 x h) hc)⟩
      · exact .inr ⟨.inr (.inl rfl), cmp_ne hc⟩
      · exact .inl h
      · exact .inr ⟨.inr (.inr h), k⟩
    · rintro (h | ⟨h | h | h, k⟩)
      · exact .inr (.inr (.inl h))
      · exact .inl h
      · exact .inr (.inl h)
      · exact .inr (.inr (.inr ⟨h, k⟩))
theorem put_here {l r : List Pr} {q p : Pr} (h : srt (l ++ q :: r)) (hc : p.1 = q.1) : l ++ p :: r = put (l ++ q :: r) p := by
  obtain ⟨h1, h2, h3, h4, h5⟩ := srt_parts h
  refine srt_ext _ _ (srt_of h1 h2 (fun a ha => by rw [hc]; exact h3 a ha) (fun b hb => by rw [hc]; exact h4 b hb)) (srt_put p _ h) fun x => ?_
  simp only [List.mem_append, List.mem_cons, mem_put]
  constructor
  · rintro (h | h | h)
    · exact .inr ⟨.inl h, by rw [hc]; exact cmp_ne (h3 x h)⟩
    · exact .inl h
    · exact .inr ⟨.inr (.inr h), by rw [hc]; exact fun e => cmp_ne (h4 x h) e.symm⟩
  · rintro (h | ⟨h | rfl | h, k⟩)
    · exact .inr (.inl h)
    · exact .inl h
    · exact absurd hc.symm k
    · exact .inr (.inr h)
theorem out_none {m : List Pr} {k : List UInt8} (h : ∀ x ∈ m, x.1 ≠ k) : out m k = m ∧ has m k = false ∧ val m k = [] := by
  refine ⟨List.filter_eq_self.2 fun x hx => decide_eq_true (h x hx), ?_, ?_⟩
  · rw [Bool.eq_false_iff]
    intro e
    obtain ⟨x, hx, e⟩ := List.any_eq_true.1 e
    exact h x hx (of_decide_eq_true e)
  · have : m.find? (fun x => decide (x.1 = k)) = none := List.find?_eq_none.2 fun x hx e => h x hx (of_decide_eq_true e)
    rw [val, this]
    rfl
theorem out_append (a b : List Pr) (k : List UInt8) : out (a ++ b) k = out a k ++ out b k := List.filter_append _ _
theorem has_append (a b : List Pr) (k : List UInt8) : has (a ++ b) k = (has a k || has b k) := List.any_append
theorem val_none {a b : List Pr} {k : List UInt8} (h : ∀ x ∈ a, x.1 ≠ k) : val (a ++ b) k = val b k := by
  have : a.find? (fun x => decide (x.1 = k)) = none := List.find?_eq_none.2 fun x hx e => h x hx (of_decide_eq_true e)
  simp [val, List.find?_append, this]
theorem val_cut {a b : List Pr} {k : List UInt8} (h : ∀ x ∈ b, x.1 ≠ k) : val (a ++ b) k = val a k := by
  have : b.find? (fun x => decide (x.1 = k)) = none := List.find?_eq_none.2 fun x hx e => h x hx (of_decide_eq_true e)
  simp [val, List.find?_append, this]
theorem out_left {l r : List Pr} {q : Pr} {k : List UInt8} (h : srt (l ++ q :: r)) (hc : cmp k q.1 < 0) : out (l ++ q :: r) k = out l k ++ q :: r ∧ has (l ++ q :: r) k = has l k ∧ val (l ++ q :: r) k = val l k := by
  obtain ⟨h1, h2, h3, h4, h5⟩ := srt_parts h
  have hn : ∀ x ∈ q :: r, x.1 ≠ k := by
    intro x hx
    rcases List.mem_cons.1 hx with rfl | hx
    · exact fun e => cmp_ne hc e.symm
    · exact fun e => cmp_ne (cmp_lt_trans hc (h4 x hx)) e.symm
  obtain ⟨n1, n2, n3⟩ := out_none hn
  exact ⟨by rw [out_append, n1], by rw [has_append, n2, Bool.or_false], val_cut hn⟩
theorem out_right {l r : List Pr} {q : Pr} {k : List UInt8} (h : srt (l ++ q :: r)) (hc : cmp q.1 k < 0) : out (l ++ q :: r) k = l ++ q :: out r k ∧ has (l ++ q :: r) k = has r k ∧ val (l ++ q :: r) k = val r k := by
  obtain ⟨h1, h2, h3, h4, h5⟩ := srt_parts h
  have hn : ∀ x ∈ l ++ [q], x.1 ≠ k := by
    intro x hx
    rcases List.mem_append.1 hx with hx | hx
    · exact cmp_ne (cmp_lt_trans (h3 x hx) hc)
    · rw [List.mem_singleton.1 hx]; exact cmp_ne hc
  obtain ⟨n1, n2, n3⟩ := out_none hn
  have e : l ++ q :: r = (l ++ [q]) ++ r := by simp
  rw [e]
  exact ⟨by rw [out_append, n1]; simp, by rw [has_append, n2, Bool.false_or], val_none hn⟩
theorem out_here {l r : List Pr} {q : Pr} {k : List UInt8} (h : srt (l ++ q :: r)) (hc : k = q.1) : out (l ++ q :: r) k = l ++ r ∧ has (l ++ q :: r) k = true ∧ val (l ++ q :: r) k = q.2 := by
  obtain ⟨h1, h2, h3, h4, h5⟩ := srt_parts h
  subst hc
  have a1 := out_none (m := l) (k := q.1) fun x hx => cmp_ne (h3 x hx)
  have a2 := out_none (m := r) (k := q.1) fun x hx e => cmp_ne (h4 x hx) e.symm
  refine ⟨?_, ?_, ?_⟩
  · rw [out_append, a1.1]
    have : out (q :: r) q.1 = out r q.1 := by simp [out]
    rw [this, a2.1]
  · simp [has]
  · rw [val_none fun x hx => cmp_ne (h3 x hx)]
    simp [val]
theorem srt_out {m : List Pr} (k : List UInt8) (h : srt m) : srt (out m k) := h.filter _
theorem out_length (m : List Pr) (k : List UInt8) : (out m k).length ≤ m.length := List.length_filter_le _ _
theorem put_length (m : List Pr) (p : Pr) : (put m p).length ≤ m.length + 1 := by
  have h : ∀ (m : List Pr) (b : Bool), (putGo p b m).length ≤ m.length + 1 ∧ (b = true → (putGo p b m).length ≤ m.length) := by
    intro m
    induction m with
    | nil => intro b; cases b <;> simp [putGo]
    | cons q m ih =>
      intro b
      have i1 := ih true
      have i2 := ih false
      cases b with
      | true =>
        simp only [putGo, Bool.not_true, Bool.false_and, Bool.true_or, List.length_append, List.length_cons]
        by_cases hq : q.1 = p.1
        · simp only [hq, if_true, List.length_nil]; simp; have := i1.2 rfl; omega
        · simp only [hq, if_false, List.length_cons, List.length_nil]; simp; have := i1.2 rfl; omega
      | false =>
        by_cases hc : cmp q.1 p.1 < 0
        · have hq := cmp_ne hc
          simp only [putGo, hc, hq, decide_true, Bool.not_true, Bool.and_false, Bool.or_false, if_false, List.length_append, List.length_cons, List.length_nil, Bool.false_eq_true]
          refine ⟨by have := i2.1; omega, fun e => by cases e⟩
        · simp only [putGo, hc, decide_false, Bool.not_false, Bool.and_true, Bool.or_true, if_true, List.length_append, List.length_cons, List.length_nil]
          refine ⟨?_, fun e => by cases e⟩
          have := i1.2 rfl
          split <;> simp <;> omega
  exact (h m false).1
theorem put_mem {m : List Pr} {p : Pr} {P : Pr → Prop} (h : ∀ x ∈ m, P x) (hp : P p) : ∀ x ∈ put m p, P x := fun x hx => by
  rcases (mem_put p x m).1 hx with rfl | ⟨h1, _⟩
  · exact hp
  · exact h x h1
theorem out_mem {m : List Pr} {k : List UInt8} {P : Pr → Prop} (h : ∀ x ∈ m, P x) : ∀ x ∈ out m k, P x := fun x hx => h x (List.mem_filter.1 hx).1
/-- keys and values are short -/
def Fits (L : List Pr) : Prop := ∀ x ∈ L, x.1.length ≤ 1000 ∧ x.2.length ≤ 1000
end Go.Proofs.YtngfbkkfnooobaaDoor
