/-
  Plain facts on keys and pairs: the order of keys; what a list of pairs comes to (put pair by pair, and by sorted places); places of keys in sorted lists. No program is named here.
-/
import Derived.Lib.Bytealg
namespace Go.Proofs.YtmbdimonfdncpaaGreatDoor
/-- which key is less: -1, 0 or 1 -/
abbrev cmp (a b : List UInt8) : Int := Lib.compareBytes a b
theorem cmp_cons (x y : UInt8) (a b : List UInt8) : cmp (x :: a) (y :: b) = if x < y then -1 else if y < x then 1 else cmp a b := rfl
theorem cmp_same (x : UInt8) (a b : List UInt8) : cmp (x :: a) (x :: b) = cmp a b := by
  rw [cmp_cons, if_neg (UInt8.lt_irrefl x), if_neg (UInt8.lt_irrefl x)]
theorem cmp_lt {x y : UInt8} (h : x < y) (a b : List UInt8) : cmp (x :: a) (y :: b) = -1 := by rw [cmp_cons, if_pos h]
theorem cmp_gt {x y : UInt8} (h : y < x) (a b : List UInt8) : cmp (x :: a) (y :: b) = 1 := by
  rw [cmp_cons, if_neg (UInt8.lt_asymm h), if_pos h]
theorem tri (x y : UInt8) : x < y ∨ x = y ∨ y < x := by
  simp only [UInt8.lt_iff_toNat_lt, ← UInt8.toNat_inj]; omega
theorem cmp_self : ∀ a : List UInt8, cmp a a = 0
  | [] => rfl
  | x :: a => by rw [cmp_same, cmp_self a]
theorem cmp_range : ∀ a b : List UInt8, cmp a b = -1 ∨ cmp a b = 0 ∨ cmp a b = 1
  | [], [] => .inr (.inl rfl)
  | [], _ :: _ => .inl rfl
  | _ :: _, [] => .inr (.inr rfl)
  | x :: a, y :: b => by
    rcases tri x y with h | rfl | h
    · exact .inl (cmp_lt h a b)
    · rw [cmp_same]; exact cmp_range a b
    · exact .inr (.inr (cmp_gt h a b))
theorem cmp_turn : ∀ a b : List UInt8, cmp a b = - cmp b a
  | [], [] => rfl
  | [], _ :: _ => rfl
  | _ :: _, [] => rfl
  | x :: a, y :: b => by
    rcases tri x y with h | rfl | h
    · rw [cmp_lt h, cmp_gt h]
    · rw [cmp_same, cmp_same]; exact cmp_turn a b
    · rw [cmp_gt h, cmp_lt h]; rfl
theorem cmp_zero : ∀ a b : List UInt8, cmp a b = 0 → a = b
  | [], [], _ => rfl
  | [], _ :: _, h => by cases h
  | _ :: _, [], h => by cases h
  | x :: a, y :: b, h => by
    rcases tri x y with g | rfl | g
    · rw [cmp_lt g] at h; cases h
    · rw [cmp_same] at h; rw [cmp_zero a b h]
    · rw [cmp_gt g] at h; cases h
theorem cmp_trans : ∀ a b c : List UInt8, cmp a b ≤ 0 → cmp b c ≤ 0 → cmp a c ≤ 0
  | [], _, [], _, _ => Int.le_refl _
  | [], _, _ :: _, _, _ => by show (-1 : Int) ≤ 0; omega
  | _ :: _, [], _, h, _ => by exact absurd h (by show ¬ (1 : Int) ≤ 0; omega)
  | _ :: _, _ :: _, [], _, h => by exact absurd h (by show ¬ (1 : Int) ≤ 0; omega)
  | x :: a, y :: b, z :: c, h, k => by
    rcases tri x y with g | rfl | g
    · rcases tri y z with g2 | rfl | g2
      · rw [cmp_lt (UInt8.lt_trans g g2)]; omega
      · rw [cmp_lt g]; omega
      · rw [cmp_gt g2] at k; omega
    · rcases tri x z with g2 | rfl | g2
      · rw [cmp_lt g2]; omega
      · rw [cmp_same] at h k ⊢; exact cmp_trans a b c h k
      · rw [cmp_gt g2] at k; omega
    · rw [cmp_gt g] at h; omega
/-- not less, then less: less -/
theorem cmp_between {a b c : List UInt8} (h : 0 ≤ cmp a b) (k : cmp a c < 0) : cmp b c < 0 := by
  have h1 : cmp b a ≤ 0 := by rw [cmp_turn]; omega
  have h2 := cmp_trans b a c h1 (by omega)
  rcases Int.lt_or_eq_of_le h2 with h3 | h3
  · exact h3
  · have h4 := cmp_zero _ _ h3
    subst h4
    have h5 := cmp_turn a b
    have h6 := cmp_turn b a
    omega
theorem cmp_is : ∀ (i : Nat) (a b : List UInt8), i ≤ a.length → i ≤ b.length → a.take i = b.take i → cmp a b = cmp (a.drop i) (b.drop i)
  | 0, a, b, _, _, _ => by simp
  | i + 1, [], _, h, _, _ => by simp at h
  | i + 1, _ :: _, [], _, h, _ => by simp at h
  | i + 1, x :: a, y :: b, h1, h2, h => by
    simp only [List.take_succ_cons, List.cons.injEq] at h
    obtain ⟨rfl, h⟩ := h
    rw [cmp_same, List.drop_succ_cons, List.drop_succ_cons]
    exact cmp_is i a b (by simpa using h1) (by simpa using h2) h
theorem take_next {a b : List UInt8} {i : Nat} (h : a.take i = b.take i) (h1 : i < a.length) (h2 : i < b.length) (e : a[i] = b[i]) : a.take (i + 1) = b.take (i + 1) := by
  rw [List.take_succ_eq_append_getElem h1, List.take_succ_eq_append_getElem h2, h, e]
theorem cmp_stop {a b : List UInt8} {i : Nat} (h : a.take i = b.take i) (h1 : i < a.length) (h2 : i < b.length) (e : a[i] ≠ b[i]) : cmp a b = if a[i].toNat < b[i].toNat then -1 else 1 := by
  rw [cmp_is i a b (by omega) (by omega) h, List.drop_eq_getElem_cons h1, List.drop_eq_getElem_cons h2]
  rcases tri a[i] b[i] with g | g | g
  · rw [cmp_lt g, if_pos (UInt8.lt_iff_toNat_lt.1 g)]
  · exact absurd g e
  · rw [cmp_gt g, if_neg]
    have := UInt8.lt_iff_toNat_lt.1 g
    omega
theorem cmp_end {a b : List UInt8} {i : Nat} (h : a.take i = b.take i) (h0 : i = min a.length b.length) : decide (cmp a b < 0) = decide (a.length < b.length) := by
  rw [cmp_is i a b (by omega) (by omega) h]
  rcases Nat.lt_or_ge a.length b.length with g | g
  · have e1 : a.drop i = [] := List.drop_eq_nil_iff.2 (by omega)
    have e2 : b.drop i = b[i]'(by omega) :: b.drop (i + 1) := List.drop_eq_getElem_cons (by omega)
    rw [e1, e2]
    simp [g, cmp, Lib.compareBytes]
  · have e2 : b.drop i = [] := List.drop_eq_nil_iff.2 (by omega)
    rw [e2]
    have : ¬ a.length < b.length := by omega
    cases a.drop i <;> simp [this, cmp, Lib.compareBytes]

/-- a pair: a key and a value -/
abbrev Pr := List UInt8 × List UInt8
/-- a list of pairs is sorted -/
def srt (m : List Pr) : Prop := m.Pairwise fun a b => cmp a.1 b.1 < 0
theorem cmp_lt_trans {a b c : List UInt8} (h : cmp a b < 0) (k : cmp b c < 0) : cmp a c < 0 := by
  have h1 := cmp_trans a b c (by omega) (by omega)
  rcases Int.lt_or_eq_of_le h1 with h3 | h3
  · exact h3
  · have h4 := cmp_zero _ _ h3
    subst h4
    have := cmp_turn a b
    omega
theorem cmp_ne {a b : List UInt8} (h : cmp a b < 0) : a ≠ b := by
  rintro rfl
  rw [cmp_self] at h
  omega
theorem cmp_or {a b : List UInt8} (h : ¬ cmp a b < 0) (k : a ≠ b) : cmp b a < 0 := by
  have h1 := cmp_turn b a
  rcases cmp_range a b with h2 | h2 | h2
  · omega
  · exact absurd (cmp_zero _ _ h2) k
  · omega
theorem cmp_iff {a b : List UInt8} : cmp a b = 0 ↔ a = b := ⟨cmp_zero a b, fun h => by rw [h, cmp_self]⟩
/-- what is left to be laid of a map with a pair more, once it has been put or not -/
def putGo (p : Pr) : Bool → List Pr → List Pr
  | b, [] => if b then [] else [p]
  | b, q :: m => (if !b && !decide (cmp q.1 p.1 < 0) then [p] else []) ++ ((if q.1 = p.1 then [] else [q]) ++ putGo p (b || !decide (cmp q.1 p.1 < 0)) m)
/-- a map with a pair more, or with another value -/
def put (m : List Pr) (p : Pr) : List Pr := putGo p false m
/-- what a list comes to -/
def come (l : List Pr) : List Pr := l.foldl put []
theorem putGo_true (p : Pr) : ∀ m : List Pr, putGo p true m = m.filter fun q => decide (q.1 ≠ p.1)
  | [] => rfl
  | q :: m => by
    by_cases h : q.1 = p.1
    · simp [putGo, putGo_true p m, h]
    · simp [putGo, putGo_true p m, h]
theorem mem_put (p q : Pr) : ∀ m : List Pr, q ∈ put m p ↔ q = p ∨ (q ∈ m ∧ q.1 ≠ p.1)
  | [] => by simp [put, putGo]
  | r :: m => by
    have ih := mem_put p q m
    unfold put at ih ⊢
    by_cases h : cmp r.1 p.1 < 0
    · have hne := cmp_ne h
      simp only [putGo, h, decide_true, Bool.not_true, Bool.and_false, Bool.or_false, hne, if_false, List.mem_append, ih, List.mem_cons, List.not_mem_nil, or_false, Bool.false_eq_true, false_or]
      constructor
      · rintro (rfl | h1 | h1)
        · exact .inr ⟨.inl rfl, hne⟩
        · exact .inl h1
        · exact .inr ⟨.inr h1.1, h1.2⟩
      · rintro (h1 | ⟨rfl | h1, h2⟩)
        · exact .inr (.inl h1)
        · exact .inl rfl
        · exact .inr (.inr ⟨h1, h2⟩)
    · simp only [putGo, h, decide_false, Bool.not_false, Bool.and_true, if_true, Bool.or_true, putGo_true, List.mem_append, List.mem_filter, List.mem_cons, decide_eq_true_eq, List.not_mem_nil, or_false]
      by_cases h2 : r.1 = p.1
      · simp only [h2, if_true, List.not_mem_nil, false_or]
        constructor
        · rintro (h1 | h1)
          · exact .inl h1
          · exact .inr ⟨.inr h1.1, h1.2⟩
        · rintro (h1 | ⟨rfl | h1, h3⟩)
          · exact .inl h1
          · exact absurd h2 h3
          · exact .inr ⟨h1, h3⟩
      · simp only [h2, if_false, List.mem_singleton]
        constructor
        · rintro (h1 | rfl | h1)
          · exact .inl h1
          · exact .inr ⟨.inl rfl, h2⟩
          · exact .inr ⟨.inr h1.1, h1.2⟩
        · rintro (h1 | ⟨rfl | h1, h3⟩)
          · exact .inl h1
          · exact .inr (.inl rfl)
          · exact .inr (.inr ⟨h1, h3⟩)
theorem srt_put (p : Pr) : ∀ m : List Pr, srt m → srt (put m p)
  | [], _ => by simp [put, putGo, srt]
  | r :: m, hs => by
    have hs' := List.pairwise_cons.1 hs
    have ih := srt_put p m hs'.2
    by_cases h : cmp r.1 p.1 < 0
    · have hne := cmp_ne h
      have e : put (r :: m) p = r :: put m p := by simp [put, putGo, h, hne]
      rw [e]
      refine List.pairwise_cons.2 ⟨fun q hq => ?_, ih⟩
      rcases (mem_put p q m).1 hq with rfl | ⟨h1, _⟩
      · exact h
      · exact hs'.1 q h1
    · have e : put (r :: m) p = p :: (r :: m).filter fun q => decide (q.1 ≠ p.1) := by
        rw [← putGo_true]
        simp [put, putGo, h]
      rw [e]
      refine List.pairwise_cons.2 ⟨fun q hq => ?_, hs.filter _⟩
      obtain ⟨h1, h2⟩ := List.mem_filter.1 hq
      have h2 : q.1 ≠ p.1 := of_decide_eq_true h2
      rcases List.mem_cons.1 h1 with rfl | h3
      · exact cmp_or h h2
      · have h4 := hs'.1 q h3
        by_cases h5 : r.1 = p.1
        · rw [← h5]; exact h4
        · exact cmp_lt_trans (cmp_or h h5) h4
theorem come_snoc (l : List Pr) (p : Pr) : come (l ++ [p]) = put (come l) p := by simp [come, List.foldl_append]
theorem come_step {l : List Pr} {n : Nat} (h : n < l.length) : come (l.take (n + 1)) = put (come (l.take n)) l[n] := by
  rw [List.take_succ_eq_append_getElem h, come_snoc]
theorem srt_fold : ∀ (l m : List Pr), srt m → srt (l.foldl put m)
  | [], _, h => h
  | p :: l, m, h => srt_fold l _ (srt_put p m h)
theorem srt_come (l : List Pr) : srt (come l) := srt_fold l [] List.Pairwise.nil
theorem mem_come_take (l : List Pr) (q : Pr) : ∀ n, n ≤ l.length → (q ∈ come (l.take n) ↔ ∃ i, i < n ∧ l[i]? = some q ∧ ∀ j r, i < j → j < n → l[j]? = some r → r.1 ≠ q.1)
  | 0, _ => by simp [come]
  | n + 1, h => by
    have ih := mem_come_take l q n (by omega)
    have hn : l[n]? = some l[n] := List.getElem?_eq_getElem (by omega)
    rw [come_step (by omega), mem_put, ih]
    constructor
    · rintro (rfl | ⟨⟨i, h1, h2, h3⟩, h4⟩)
      · exact ⟨n, by omega, hn, fun j r h1 h2 => by omega⟩
      · refine ⟨i, by omega, h2, fun j r g1 g2 g3 => ?_⟩
        rcases Nat.lt_or_ge j n with g4 | g4
        · exact h3 j r g1 g4 g3
        · obtain rfl : j = n := by omega
          rw [hn] at g3
          injection g3 with g3
          subst g3
          exact fun e => h4 e.symm
    · rintro ⟨i, h1, h2, h3⟩
      rcases Nat.lt_or_ge i n with g | g
      · refine .inr ⟨⟨i, g, h2, fun j r g1 g2 g3 => h3 j r g1 (by omega) g3⟩, ?_⟩
        exact fun e => h3 n _ g (by omega) hn e.symm
      · obtain rfl : i = n := by omega
        rw [hn] at h2
        injection h2 with h2
        exact .inl h2.symm
theorem mem_come (l : List Pr) (q : Pr) : q ∈ come l ↔ ∃ i, i < l.length ∧ l[i]? = some q ∧ ∀ j r, i < j → j < l.length → l[j]? = some r → r.1 ≠ q.1 := by
  have h := mem_come_take l q l.length (Nat.le_refl _)
  rwa [List.take_length] at h
theorem srt_ext : ∀ a b : List Pr, srt a → srt b → (∀ q, q ∈ a ↔ q ∈ b) → a = b
  | [], [], _, _, _ => rfl
  | [], y :: b, _, _, h => by have := (h y).2 (by simp); simp at this
  | x :: a, [], _, _, h => by have := (h x).1 (by simp); simp at this
  | x :: a, y :: b, ha, hb, h => by
    have ha' := List.pairwise_cons.1 ha
    have hb' := List.pairwise_cons.1 hb
    have hxy : x = y := by
      rcases List.mem_cons.1 ((h x).1 (by simp)) with h1 | h1
      · exact h1
      · rcases List.mem_cons.1 ((h y).2 (by simp)) with h2 | h2
        · exact h2.symm
        · have g1 := hb'.1 x h1
          have g2 := ha'.1 y h2
          have g3 := cmp_turn x.1 y.1
          omega
    subst hxy
    congr 1
    refine srt_ext a b ha'.2 hb'.2 fun q => ?_
    constructor
    · intro hq
      rcases List.mem_cons.1 ((h q).1 (List.mem_cons_of_mem _ hq)) with rfl | h1
      · exact absurd rfl (cmp_ne (ha'.1 _ hq))
      · exact h1
    · intro hq
      rcases List.mem_cons.1 ((h q).2 (List.mem_cons_of_mem _ hq)) with rfl | h1
      · exact absurd rfl (cmp_ne (hb'.1 _ hq))
      · exact h1
theorem srt_at {m : List Pr} (h : srt m) {i j : Nat} (hi : i < m.length) (hj : j < m.length) (hij : i < j) : cmp (m[i]).1 (m[j]).1 < 0 :=
  List.pairwise_iff_getElem.1 h i j hi hj hij
/-- a sorted list comes to itself -/
theorem come_self (m : List Pr) (h : srt m) : come m = m := by
  refine srt_ext _ _ (srt_come m) h fun q => ?_
  rw [mem_come]
  constructor
  · rintro ⟨i, _, h2, _⟩
    exact List.mem_of_getElem? h2
  · intro hq
    obtain ⟨i, hi, rfl⟩ := List.getElem_of_mem hq
    refine ⟨i, hi, List.getElem?_eq_getElem hi, fun j r g1 g2 g3 => ?_⟩
    rw [List.getElem?_eq_getElem g2] at g3
    injection g3 with g3
    subst g3
    exact fun e => cmp_ne (srt_at h hi g2 g1) e.symm
/-- what is put ahead may come to what it comes to first -/
theorem come_parts (a b : List Pr) : come (come a ++ b) = come (a ++ b) := by
  have h := come_self (come a) (srt_come a)
  unfold come at h ⊢
  rw [List.foldl_append, List.foldl_append, h]
/-- places in order: by key, and those of one key as they stand -/
def plt (key : Nat → List UInt8) (i j : Nat) : Prop := cmp (key i) (key j) < 0 ∨ (key i = key j ∧ i < j)
/-- the last place of each key -/
def keep (key : Nat → List UInt8) : List Nat → List Nat
  | [] => []
  | [x] => [x]
  | x :: y :: r => if key x = key y then keep key (y :: r) else x :: keep key (y :: r)
theorem keep_sub (key : Nat → List UInt8) : ∀ ps : List Nat, ∀ x, x ∈ keep key ps → x ∈ ps
  | [], _, h => by simp [keep] at h
  | [y], _, h => by simpa [keep] using h
  | y :: z :: r, x, h => by
    rw [keep] at h
    by_cases hk : key y = key z
    · rw [if_pos hk] at h
      exact List.mem_cons_of_mem _ (keep_sub key (z :: r) x h)
    · rw [if_neg hk] at h
      rcases List.mem_cons.1 h with rfl | h
      · simp
      · exact List.mem_cons_of_mem _ (keep_sub key (z :: r) x h)
theorem keep_apart (key : Nat → List UInt8) {y z : Nat} {r : List Nat} (hs : (y :: z :: r).Pairwise (plt key)) (hk : key y ≠ key z) : ∀ x ∈ z :: r, cmp (key y) (key x) < 0 := by
  have h1 := List.pairwise_cons.1 hs
  have h2 := List.pairwise_cons.1 h1.2
  have h3 : cmp (key y) (key z) < 0 := (h1.1 z (by simp)).resolve_right fun e => hk e.1
  intro x hx
  rcases List.mem_cons.1 hx with rfl | hx
  · exact h3
  · rcases h2.1 x hx with h4 | ⟨h4, _⟩
    · exact cmp_lt_trans h3 h4
    · rw [← h4]; exact h3
theorem keep_srt (key : Nat → List UInt8) : ∀ ps : List Nat, ps.Pairwise (plt key) → (keep key ps).Pairwise fun i j => cmp (key i) (key j) < 0
  | [], _ => List.Pairwise.nil
  | [y], _ => by simp [keep]
  | y :: z :: r, hs => by
    have h1 := List.pairwise_cons.1 hs
    have ih := keep_srt key (z :: r) h1.2
    rw [keep]
    by_cases hk : key y = key z
    · rw [if_pos hk]; exact ih
    · rw [if_neg hk]
      exact List.pairwise_cons.2 ⟨fun x hx => keep_apart key hs hk x (keep_sub key _ x hx), ih⟩
theorem keep_mem (key : Nat → List UInt8) : ∀ ps : List Nat, ps.Pairwise (plt key) → ∀ x, (x ∈ keep key ps ↔ x ∈ ps ∧ ∀ y ∈ ps, key y = key x → y ≤ x)
  | [], _, x => by simp [keep]
  | [z], _, x => by
    simp only [keep, List.mem_singleton]
    constructor
    · rintro rfl
      exact ⟨rfl, fun y hy _ => Nat.le_of_eq hy⟩
    · exact fun h => h.1
  | z :: u :: r, hs, x => by
    have h1 := List.pairwise_cons.1 hs
    have ih := keep_mem key (u :: r) h1.2 x
    rw [keep]
    by_cases hk : key z = key u
    · rw [if_pos hk, ih]
      have hzu : z < u := by
        rcases h1.1 u (by simp) with h | h
        · exact absurd hk (cmp_ne h)
        · exact h.2
      constructor
      · rintro ⟨g1, g2⟩
        refine ⟨List.mem_cons_of_mem _ g1, fun y hy e => ?_⟩
        rcases List.mem_cons.1 hy with rfl | hy
        · have := g2 u (by simp) (by rw [← hk, e])
          omega
        · exact g2 y hy e
      · rintro ⟨g1, g2⟩
        rcases List.mem_cons.1 g1 with rfl | g1
        · have := g2 u (by simp) hk.symm
          omega
        · exact ⟨g1, fun y hy e => g2 y (List.mem_cons_of_mem _ hy) e⟩
    · have hap := keep_apart key hs hk
      rw [if_neg hk, List.mem_cons, ih]
      constructor
      · rintro (rfl | ⟨g1, g2⟩)
        · refine ⟨by simp, fun y hy e => ?_⟩
          rcases List.mem_cons.1 hy with rfl | hy
          · exact Nat.le_refl _
          · exact absurd e.symm (cmp_ne (hap y hy))
        · refine ⟨List.mem_cons_of_mem _ g1, fun y hy e => ?_⟩
          rcases List.mem_cons.1 hy with rfl | hy
          · exact absurd e (cmp_ne (hap x g1))
          · exact g2 y hy e
      · rintro ⟨g1, g2⟩
        rcases List.mem_cons.1 g1 with rfl | g1
        · exact .inl rfl
        · exact .inr ⟨g1, fun y hy e => g2 y (List.mem_cons_of_mem _ hy) e⟩
/-- the pair at a place -/
def pat (l : List Pr) (i : Nat) : Pr := l.getD i ([], [])
theorem pat_at {l : List Pr} {i : Nat} (h : i < l.length) : pat l i = l[i] := by simp [pat, List.getD_eq_getElem?_getD, h]
/-- what a list comes to, by its places in order -/
theorem come_keep (l : List Pr) (ps : List Nat) (hs : ps.Pairwise (plt fun i => (pat l i).1)) (hm : ∀ i, i ∈ ps ↔ i < l.length) :
    (keep (fun i => (pat l i).1) ps).map (pat l) = come l := by
  refine srt_ext _ _ ?_ (srt_come l) fun q => ?_
  · exact List.pairwise_map.2 (keep_srt _ ps hs)
  · rw [mem_come, List.mem_map]
    constructor
    · rintro ⟨i, hi, rfl⟩
      obtain ⟨h1, h2⟩ := (keep_mem _ ps hs i).1 hi
      have h3 := (hm i).1 h1
      refine ⟨i, h3, by rw [List.getElem?_eq_getElem h3, pat_at h3], fun j r g1 g2 g3 e => ?_⟩
      have g4 := h2 j ((hm j).2 g2) (by
        show (pat l j).1 = (pat l i).1
        rw [pat_at g2]
        rw [List.getElem?_eq_getElem g2] at g3
        injection g3 with g3
        rw [g3, e])
      omega
    · rintro ⟨i, h1, h2, h3⟩
      have h4 : pat l i = q := by
        rw [pat_at h1]
        rw [List.getElem?_eq_getElem h1] at h2
        injection h2
      refine ⟨i, (keep_mem _ ps hs i).2 ⟨(hm i).2 h1, fun y hy e => ?_⟩, h4⟩
      have hy := (hm y).1 hy
      rcases Nat.lt_or_ge i y with g | g
      · exact absurd (by rw [← h4]; exact e) (h3 y (pat l y) g hy (by rw [List.getElem?_eq_getElem hy, pat_at hy]))
      · exact g
/-- what is left to be kept from place i on -/
theorem keep_next (key : Nat → List UInt8) {ps : List Nat} {i : Nat} (h : i < ps.length) (hd : i + 1 = ps.length ∨ ∃ h2 : i + 1 < ps.length, key ps[i] ≠ key ps[i + 1]) : keep key (ps.drop i) = ps[i] :: keep key (ps.drop (i + 1)) := by
  rw [List.drop_eq_getElem_cons h]
  rcases hd with hd | ⟨h2, hd⟩
  · have e : ps.drop (i + 1) = [] := List.drop_eq_nil_iff.2 (by omega)
    rw [e]; rfl
  · rw [List.drop_eq_getElem_cons h2, keep, if_neg hd]
theorem keep_skip (key : Nat → List UInt8) {ps : List Nat} {i : Nat} (h : i + 1 < ps.length) (hd : key ps[i] = key ps[i + 1]) : keep key (ps.drop i) = keep key (ps.drop (i + 1)) := by
  rw [List.drop_eq_getElem_cons (show i < ps.length by omega), List.drop_eq_getElem_cons h, keep, if_pos hd]
/-- how many keys are less -/
def rank (m : List Pr) (k : List UInt8) : Nat := m.countP fun q => decide (cmp q.1 k < 0)
/-- is the key there? -/
def has (m : List Pr) (k : List UInt8) : Bool := m.any fun q => decide (q.1 = k)
theorem rank_split (m : List Pr) (k : List UInt8) : ∀ i, i ≤ m.length → (∀ j (h : j < m.length), j < i → cmp (m[j]).1 k < 0) → (∀ j (h : j < m.length), i ≤ j → ¬ cmp (m[j]).1 k < 0) → rank m k = i := by
  induction m with
  | nil => intro i h _ _; simp at h; simp [rank, h]
  | cons q m ih =>
    intro i hi h1 h2
    rcases i with _ | i
    · have hq : ¬ cmp q.1 k < 0 := h2 0 (by simp) (Nat.le_refl _)
      have := ih 0 (by omega) (fun j _ h => by omega) (fun j h _ => h2 (j + 1) (by simp; omega) (by omega))
      unfold rank at this ⊢
      rw [List.countP_cons_of_neg (by simpa using hq), this]
    · have hq : cmp q.1 k < 0 := h1 0 (by simp) (by omega)
      have := ih i (by simpa using hi) (fun j h g => h1 (j + 1) (by simp; omega) (by omega)) (fun j h g => h2 (j + 1) (by simp; omega) (by omega))
      unfold rank at this ⊢
      rw [List.countP_cons_of_pos (by simpa using hq), this]
theorem has_split (m : List Pr) (k : List UInt8) (hs : srt m) (i : Nat) (h1 : ∀ j (h : j < m.length), j < i → cmp (m[j]).1 k < 0) (h2 : ∀ j (h : j < m.length), i ≤ j → ¬ cmp (m[j]).1 k < 0) :
    has m k = true ↔ ∃ h : i < m.length, (m[i]).1 = k := by
  simp only [has, List.any_eq_true, decide_eq_true_eq]
  constructor
  · rintro ⟨q, hq, rfl⟩
    obtain ⟨t, ht, rfl⟩ := List.getElem_of_mem hq
    have g1 : i ≤ t := by
      rcases Nat.lt_or_ge t i with g | g
      · exact absurd rfl (cmp_ne (h1 t ht g))
      · exact g
    refine ⟨by omega, ?_⟩
    rcases Nat.lt_or_eq_of_le g1 with g | g
    · exact absurd (srt_at hs (by omega) ht g) (h2 i (by omega) (Nat.le_refl _))
    · subst g; rfl
  · rintro ⟨h, e⟩
    exact ⟨m[i], List.getElem_mem h, e⟩
theorem come_length (l : List Pr) : (come l).length ≤ l.length := by
  have h : ∀ (l m : List Pr), (l.foldl put m).length ≤ m.length + l.length := by
    intro l
    induction l with
    | nil => intro m; simp
    | cons p l ih =>
      intro m
      have h1 := ih (put m p)
      have h2 : (put m p).length ≤ m.length + 1 := by
        have g : ∀ (m : List Pr) (b : Bool), (putGo p b m).length ≤ m.length + (if b then 0 else 1) := by
          intro m
          induction m with
          | nil => intro b; cases b <;> simp [putGo]
          | cons q m ih2 =>
            intro b
            have := ih2 (b || !decide (cmp q.1 p.1 < 0))
            have h3 : (if q.1 = p.1 then ([] : List Pr) else [q]).length ≤ 1 := by split <;> simp
            simp only [putGo, List.length_append, List.length_cons]
            by_cases h4 : cmp q.1 p.1 < 0 <;> cases b <;> simp [h4] at this ⊢ <;> omega
        simpa [put] using g m false
      simp only [List.foldl_cons, List.length_cons]
      omega
  simpa [come] using h l []
theorem come_sub (l : List Pr) (q : Pr) (h : q ∈ come l) : q ∈ l := by
  obtain ⟨i, h1, h2, _⟩ := (mem_come l q).1 h
  exact List.mem_of_getElem? h2
end Go.Proofs.YtmbdimonfdncpaaGreatDoor
/-
  Plain facts on sizes and trees: held, even, the least size of a height; trees of pairs, their sizes, heights, lists; that one turn, or two, are enough behind a join. No program is named here.
-/
namespace Go.Proofs.YtmbdimonfdncpaaGreatDoor
def hd (z : Int) : Nat := (max 0 (min z 1048576)).toNat
theorem hd_le (z : Int) : hd z ≤ 1048576 := by unfold hd; omega
theorem hd_nat (n : Nat) (h : n ≤ 1048576) : hd (n : Int) = n := by unfold hd; omega
def ev (a b : Nat) : Bool := decide (a + 1 ≤ 3 * (b + 1)) && decide (b + 1 ≤ 3 * (a + 1))
theorem ev_true {a b : Nat} : ev a b = true ↔ a + 1 ≤ 3 * (b + 1) ∧ b + 1 ≤ 3 * (a + 1) := by
  unfold ev; rw [Bool.and_eq_true, decide_eq_true_iff, decide_eq_true_iff]
theorem ev_false {a b : Nat} : ev a b = false ↔ ¬ (a + 1 ≤ 3 * (b + 1) ∧ b + 1 ≤ 3 * (a + 1)) := by
  rw [← ev_true]; simp
theorem ev_turn (a b : Nat) : ev b a = ev a b := by unfold ev; exact Bool.and_comm _ _
def step (s : Nat) : Nat := 1 + s + s / 3
def low : Nat → Nat
  | 0 => 0
  | n + 1 => step (low n)
theorem low_step (n : Nat) : low (n + 1) = 1 + low n + low n / 3 := rfl
theorem low_lt (n : Nat) : low n < low (n + 1) := by rw [low_step]; omega
theorem low_mono {a b : Nat} (h : a ≤ b) : low a ≤ low b := by
  induction h with
  | refl => exact Nat.le_refl _
  | step _ ih => exact Nat.le_trans ih (Nat.le_of_lt (low_lt _))
theorem low_few : 1000 < low 40 := by decide
theorem low_cube : ∀ h : Fin 41, 2 ^ (h.val - 2) ≤ (low h.val + 1) * (low h.val + 1) * (low h.val + 1) := by decide
theorem cube_le {a b : Nat} (h : a ≤ b) : a * a * a ≤ b * b * b := Nat.mul_le_mul (Nat.mul_le_mul h h) h
/-- a tree of pairs -/
inductive Tr where
  | nil : Tr
  | node (l : Tr) (p : Pr) (r : Tr) : Tr
namespace Tr
def size : Tr → Nat
  | nil => 0
  | node l _ r => l.size + r.size + 1
def high : Tr → Nat
  | nil => 0
  | node l _ r => 1 + max l.high r.high
def list : Tr → List Pr
  | nil => []
  | node l p r => l.list ++ p :: r.list
/-- it is even, all the way down -/
def even : Tr → Prop
  | nil => True
  | node l _ r => ev l.size r.size = true ∧ l.even ∧ r.even
theorem length : ∀ t : Tr, t.list.length = t.size
  | nil => rfl
  | node l p r => by simp [list, size, length l, length r]; omega
theorem low_size : ∀ t : Tr, t.even → low t.high ≤ t.size
  | nil, _ => Nat.le_refl _
  | node l p r, h => by
    obtain ⟨h1, h2, h3⟩ := h
    have a := low_size l h2
    have b := low_size r h3
    rw [ev_true] at h1
    simp only [size, high]
    rcases Nat.le_total l.high r.high with k | k
    · rw [Nat.max_eq_right k, Nat.add_comm 1, low_step]
      have : low r.high / 3 ≤ l.size := by omega
      omega
    · rw [Nat.max_eq_left k, Nat.add_comm 1, low_step]
      have : low l.high / 3 ≤ r.size := by omega
      omega
/-- a tree of few pairs is low -/
theorem high_cube {t : Tr} (h : t.even) (hs : t.size ≤ 1000) : t.high < 40 ∧ 2 ^ (t.high - 2) ≤ (t.size + 1) * (t.size + 1) * (t.size + 1) := by
  have h1 := low_size t h
  have h2 : t.high < 40 := by
    rcases Nat.lt_or_ge t.high 40 with g | g
    · exact g
    · have := low_mono g
      have := low_few
      omega
  refine ⟨h2, Nat.le_trans (low_cube ⟨t.high, by omega⟩) (cube_le ?_)⟩
  show low t.high + 1 ≤ t.size + 1
  omega
theorem high_zero : ∀ t : Tr, t.high = 0 → t = nil
  | nil, _ => rfl
  | node l p r, h => by simp [high] at h
end Tr
/-- one turn, or two, are enough behind a join: a is the side that stayed, b what the other one was, c what came in -/
theorem joined (a b c i o : Nat) (h1 : ev a b = true) (h2 : 3 * (c + 1) < a + b + 2) (hs : i + o + 1 = b + c + 1) (h3 : ev a (i + o + 1) = false) (h4 : ev i o = true) :
    ((ev a i && ev (a + i + 1) o) = false → 2 ≤ i) ∧ ∀ x y, x + y + 1 = i → ev x y = true → (ev a i && ev (a + i + 1) o) = false →
      ev a x = true ∧ ev y o = true ∧ ev (a + x + 1) (y + o + 1) = true := by
  rw [ev_false] at h3
  rw [ev_true] at h1 h4
  refine ⟨fun h => ?_, fun x y hx h5 h => ?_⟩
  · rw [Bool.and_eq_false_iff, ev_false, ev_false] at h
    omega
  · rw [Bool.and_eq_false_iff, ev_false, ev_false] at h
    simp only [ev_true] at h5 ⊢
    omega
end Go.Proofs.YtmbdimonfdncpaaGreatDoor
/-
  Plain facts on sorted lists that are parted at a pair: what is put, taken out, looked for on either side. No program is named here.
-/
namespace Go.Proofs.YtmbdimonfdncpaaGreatDoor
/-- a map without a key -/
def out (m : List Pr) (k : List UInt8) : List Pr := m.filter fun x => decide (x.1 ≠ k)
/-- a key's value -/
def val (m : List Pr) (k : List UInt8) : List UInt8 := ((m.find? fun x => decide (x.1 = k)).map (·.2)).getD []
theorem srt_parts {l r : List Pr} {q : Pr} (h : srt (l ++ q :: r)) : srt l ∧ srt r ∧ (∀ a ∈ l, cmp a.1 q.1 < 0) ∧ (∀ b ∈ r, cmp q.1 b.1 < 0) ∧ ∀ a ∈ l, ∀ b ∈ r, cmp a.1 b.1 < 0 := by
  obtain ⟨h1, h2, h3⟩ := List.pairwise_append.1 h
  obtain ⟨h4, h5⟩ := List.pairwise_cons.1 h2
  exact ⟨h1, h5, fun a ha => h3 a ha q (by simp), h4, fun a ha b hb => h3 a ha b (by simp [hb])⟩
theorem srt_of {l r : List Pr} {q : Pr} (h1 : srt l) (h2 : srt r) (h3 : ∀ a ∈ l, cmp a.1 q.1 < 0) (h4 : ∀ b ∈ r, cmp q.1 b.1 < 0) : srt (l ++ q :: r) := by
  refine List.pairwise_append.2 ⟨h1, List.pairwise_cons.2 ⟨h4, h2⟩, fun a ha b hb => ?_⟩
  rcases List.mem_cons.1 hb with rfl | hb
  · exact h3 a ha
  · exact cmp_lt_trans (h3 a ha) (h4 b hb)
theorem cmp_neg {a b : List UInt8} (h : ¬ cmp a b < 0) (k : cmp a b ≠ 0) : cmp b a < 0 := by
  have := cmp_turn b a
  omega
theorem put_left {l r : List Pr} {q p : Pr} (h : srt (l ++ q :: r)) (hc : cmp p.1 q.1 < 0) : put l p ++ q :: r = put (l ++ q :: r) p := by
  obtain ⟨h1, h2, h3, h4, h5⟩ := srt_parts h
  refine srt_ext _ _ (srt_of (srt_put p l h1) h2 (fun a ha => ?_) h4) (srt_put p _ h) fun x => ?_
  · rcases (mem_put p a l).1 ha with rfl | ⟨ha, _⟩
    · exact hc
    · exact h3 a ha
  · simp only [List.mem_append, List.mem_cons, mem_put]
    constructor
    · rintro ((h | ⟨h, k⟩) | rfl | h)
      · exact .inl h
      · exact .inr ⟨.inl h, k⟩
      · exact .inr ⟨.inr (.inl rfl), fun e => cmp_ne hc e.symm⟩
      · exact .inr ⟨.inr (.inr h), fun e => cmp_ne (cmp_lt_trans hc (h4 x h)) e.symm⟩
    · rintro (h | ⟨h | h | h, k⟩)
      · exact .inl (.inl h)
      · exact .inl (.inr ⟨h, k⟩)
      · exact .inr (.inl h)
      · exact .inr (.inr h)
theorem put_right {l r : List Pr} {q p : Pr} (h : srt (l ++ q :: r)) (hc : cmp q.1 p.1 < 0) : l ++ q :: put r p = put (l ++ q :: r) p := by
  obtain ⟨h1, h2, h3, h4, h5⟩ := srt_parts h
  refine srt_ext _ _ (srt_of h1 (srt_put p r h2) h3 (fun a ha => ?_)) (srt_put p _ h) fun x => ?_
  · rcases (mem_put p a r).1 ha with rfl | ⟨ha, _⟩
    · exact hc
    · exact h4 a ha
  · simp only [List.mem_append, List.mem_cons, mem_put]
    constructor
    · rintro (h | rfl | h | ⟨h, k⟩)
      · exact .inr ⟨.inl h, cmp_ne (cmp_lt_trans (h3 x h) hc)⟩
      · exact .inr ⟨.inr (.inl rfl), cmp_ne hc⟩
      · exact .inl h
      · exact .inr ⟨.inr (.inr h), k⟩
    · rintro (h | ⟨h | h | h, k⟩)
      · exact .inr (.inr (.inl h))
      · exact .inl h
      · exact .inr (.inl h)
      · exact .inr (.inr (.inr ⟨h, k⟩))
theorem put_here {l r : List Pr} {q p : Pr} (h : srt (l ++ q :: r)) (hc : p.1 = q.1) : l ++ p :: r = put (l ++ q :: r) p := by
  obtain ⟨h1, h2, h3, h4, h5⟩ := srt_parts h
  refine srt_ext _ _ (srt_of h1 h2 (fun a ha => by rw [hc]; exact h3 a ha) (fun b hb => by rw [hc]; exact h4 b hb)) (srt_put p _ h) fun x => ?_
  simp only [List.mem_append, List.mem_cons, mem_put]
  constructor
  · rintro (h | h | h)
    · exact .inr ⟨.inl h, by rw [hc]; exact cmp_ne (h3 x h)⟩
    · exact .inl h
    · exact .inr ⟨.inr (.inr h), by rw [hc]; exact fun e => cmp_ne (h4 x h) e.symm⟩
  · rintro (h | ⟨h | rfl | h, k⟩)
    · exact .inr (.inl h)
    · exact .inl h
    · exact absurd hc.symm k
    · exact .inr (.inr h)
theorem out_none {m : List Pr} {k : List UInt8} (h : ∀ x ∈ m, x.1 ≠ k) : out m k = m ∧ has m k = false ∧ val m k = [] := by
  refine ⟨List.filter_eq_self.2 fun x hx => decide_eq_true (h x hx), ?_, ?_⟩
  · rw [Bool.eq_false_iff]
    intro e
    obtain ⟨x, hx, e⟩ := List.any_eq_true.1 e
    exact h x hx (of_decide_eq_true e)
  · have : m.find? (fun x => decide (x.1 = k)) = none := List.find?_eq_none.2 fun x hx e => h x hx (of_decide_eq_true e)
    rw [val, this]
    rfl
theorem out_append (a b : List Pr) (k : List UInt8) : out (a ++ b) k = out a k ++ out b k := List.filter_append _ _
theorem has_append (a b : List Pr) (k : List UInt8) : has (a ++ b) k = (has a k || has b k) := List.any_append
theorem val_none {a b : List Pr} {k : List UInt8} (h : ∀ x ∈ a, x.1 ≠ k) : val (a ++ b) k = val b k := by
  have : a.find? (fun x => decide (x.1 = k)) = none := List.find?_eq_none.2 fun x hx e => h x hx (of_decide_eq_true e)
  simp [val, List.find?_append, this]
theorem val_cut {a b : List Pr} {k : List UInt8} (h : ∀ x ∈ b, x.1 ≠ k) : val (a ++ b) k = val a k := by
  have : b.find? (fun x => decide (x.1 = k)) = none := List.find?_eq_none.2 fun x hx e => h x hx (of_decide_eq_true e)
  simp [val, List.find?_append, this]
theorem out_left {l r : List Pr} {q : Pr} {k : List UInt8} (h : srt (l ++ q :: r)) (hc : cmp k q.1 < 0) : out (l ++ q :: r) k = out l k ++ q :: r ∧ has (l ++ q :: r) k = has l k ∧ val (l ++ q :: r) k = val l k := by
  obtain ⟨h1, h2, h3, h4, h5⟩ := srt_parts h
  have hn : ∀ x ∈ q :: r, x.1 ≠ k := by
    intro x hx
    rcases List.mem_cons.1 hx with rfl | hx
    · exact fun e => cmp_ne hc e.symm
    · exact fun e => cmp_ne (cmp_lt_trans hc (h4 x hx)) e.symm
  obtain ⟨n1, n2, n3⟩ := out_none hn
  exact ⟨by rw [out_append, n1], by rw [has_append, n2, Bool.or_false], val_cut hn⟩
theorem out_right {l r : List Pr} {q : Pr} {k : List UInt8} (h : srt (l ++ q :: r)) (hc : cmp q.1 k < 0) : out (l ++ q :: r) k = l ++ q :: out r k ∧ has (l ++ q :: r) k = has r k ∧ val (l ++ q :: r) k = val r k := by
  obtain ⟨h1, h2, h3, h4, h5⟩ := srt_parts h
  have hn : ∀ x ∈ l ++ [q], x.1 ≠ k := by
    intro x hx
    rcases List.mem_append.1 hx with hx | hx
    · exact cmp_ne (cmp_lt_trans (h3 x hx) hc)
    · rw [List.mem_singleton.1 hx]; exact cmp_ne hc
  obtain ⟨n1, n2, n3⟩ := out_none hn
  have e : l ++ q :: r = (l ++ [q]) ++ r := by simp
  rw [e]
  exact ⟨by rw [out_append, n1]; simp, by rw [has_append, n2, Bool.false_or], val_none hn⟩
theorem out_here {l r : List Pr} {q : Pr} {k : List UInt8} (h : srt (l ++ q :: r)) (hc : k = q.1) : out (l ++ q :: r) k = l ++ r ∧ has (l ++ q :: r) k = true ∧ val (l ++ q :: r) k = q.2 := by
  obtain ⟨h1, h2, h3, h4, h5⟩ := srt_parts h
  subst hc
  have a1 := out_none (m := l) (k := q.1) fun x hx => cmp_ne (h3 x hx)
  have a2 := out_none (m := r) (k := q.1) fun x hx e => cmp_ne (h4 x hx) e.symm
  refine ⟨?_, ?_, ?_⟩
  · rw [out_append, a1.1]
    have : out (q :: r) q.1 = out r q.1 := by simp [out]
    rw [this, a2.1]
  · simp [has]
  · rw [val_none fun x hx => cmp_ne (h3 x hx)]
    simp [val]
theorem srt_out {m : List Pr} (k : List UInt8) (h : srt m) : srt (out m k) := h.filter _
theorem out_length (m : List Pr) (k : List UInt8) : (out m k).length ≤ m.length := List.length_filter_le _ _
theorem put_length (m : List Pr) (p : Pr) : (put m p).length ≤ m.length + 1 := by
  have h : ∀ (m : List Pr) (b : Bool), (putGo p b m).length ≤ m.length + 1 ∧ (b = true → (putGo p b m).length ≤ m.length) := by
    intro m
    induction m with
    | nil => intro b; cases b <;> simp [putGo]
    | cons q m ih =>
      intro b
      have i1 := ih true
      have i2 := ih false
      cases b with
      | true =>
        simp only [putGo, Bool.not_true, Bool.false_and, Bool.true_or, List.length_append, List.length_cons]
        by_cases hq : q.1 = p.1
        · simp only [hq, if_true, List.length_nil]; simp; have := i1.2 rfl; omega
        · simp only [hq, if_false, List.length_cons, List.length_nil]; simp; have := i1.2 rfl; omega
      | false =>
        by_cases hc : cmp q.1 p.1 < 0
        · have hq := cmp_ne hc
          simp only [putGo, hc, hq, decide_true, Bool.not_true, Bool.and_false, Bool.or_false, if_false, List.length_append, List.length_cons, List.length_nil, Bool.false_eq_true]
          refine ⟨by have := i2.1; omega, fun e => by cases e⟩
        · simp only [putGo, hc, decide_false, Bool.not_false, Bool.and_true, Bool.or_true, if_true, List.length_append, List.length_cons, List.length_nil]
          refine ⟨?_, fun e => by cases e⟩
          have := i1.2 rfl
          split <;> simp <;> omega
  exact (h m false).1
theorem put_mem {m : List Pr} {p : Pr} {P : Pr → Prop} (h : ∀ x ∈ m, P x) (hp : P p) : ∀ x ∈ put m p, P x := fun x hx => by
  rcases (mem_put p x m).1 hx with rfl | ⟨h1, _⟩
  · exact hp
  · exact h x h1
theorem out_mem {m : List Pr} {k : List UInt8} {P : Pr → Prop} (h : ∀ x ∈ m, P x) : ∀ x ∈ out m k, P x := fun x hx => h x (List.mem_filter.1 hx).1
/-- keys and values are short -/
def Fits (L : List Pr) : Prop := ∀ x ∈ L, x.1.length ≤ 1000 ∧ x.2.length ≤ 1000
end Go.Proofs.YtmbdimonfdncpaaGreatDoor
