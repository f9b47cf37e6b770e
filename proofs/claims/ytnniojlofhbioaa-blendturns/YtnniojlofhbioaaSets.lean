/-
  Plain facts on two sorted lists made one: all of either, what one has and the other one hasn't, what both have, what just one has. No program is named here.
-/
import Derived.Test.YtnniojlofhbioaaCuts
namespace Go.Proofs.Ytnniojlofhbioaa
/-- all of either, with the other one's values -/
def uni (a b : List Pr) : List Pr := b.foldl put a
/-- what one has, and the other one hasn't -/
def mns (a b : List Pr) : List Pr := a.filter fun x => !has b x.1
/-- what both have -/
def bth (a b : List Pr) : List Pr := a.filter fun x => has b x.1
/-- what just one has -/
def odd (a b : List Pr) : List Pr := uni (mns a b) (mns b a)
/-- has the other one all keys? -/
def sub (a b : List Pr) : Bool := a.all fun x => has b x.1
theorem has_iff {L : List Pr} {k : List UInt8} : has L k = true ↔ ∃ x ∈ L, x.1 = k := by simp [has]
theorem has_not {L : List Pr} {k : List UInt8} : has L k = false ↔ ∀ x ∈ L, x.1 ≠ k := by simp [has]
theorem has_cons (q : Pr) (r : List Pr) (k : List UInt8) : has (q :: r) k = (decide (q.1 = k) || has r k) := rfl
theorem cmp_three (a b : List UInt8) : cmp a b < 0 ∨ a = b ∨ cmp b a < 0 := by
  by_cases h : cmp a b < 0
  · exact .inl h
  · by_cases e : a = b
    · exact .inr (.inl e)
    · exact .inr (.inr (cmp_or h e))
theorem key_one {L : List Pr} (h : srt L) {x y : Pr} (hx : x ∈ L) (hy : y ∈ L) (e : x.1 = y.1) : x = y := by
  obtain ⟨l, r, rfl⟩ := List.append_of_mem hx
  obtain ⟨_, _, h3, h4, _⟩ := srt_parts h
  rcases List.mem_append.1 hy with hy | hy
  · exact absurd e.symm (cmp_ne (h3 y hy))
  · rcases List.mem_cons.1 hy with hy | hy
    · exact hy.symm
    · exact absurd e (cmp_ne (h4 y hy))
theorem mem_lts {L : List Pr} {k : List UInt8} {x : Pr} : x ∈ lts L k ↔ x ∈ L ∧ cmp x.1 k < 0 := by simp [lts]
theorem mem_gts {L : List Pr} {k : List UInt8} {x : Pr} : x ∈ gts L k ↔ x ∈ L ∧ cmp k x.1 < 0 := by simp [gts]
theorem mem_mns {a b : List Pr} {x : Pr} : x ∈ mns a b ↔ x ∈ a ∧ has b x.1 = false := by simp [mns]
theorem mem_bth {a b : List Pr} {x : Pr} : x ∈ bth a b ↔ x ∈ a ∧ has b x.1 = true := by simp [bth]
theorem mem_uni : ∀ (b a : List Pr), srt b → ∀ x, x ∈ uni a b ↔ x ∈ b ∨ (x ∈ a ∧ has b x.1 = false)
  | [], a, _, x => by simp [uni, has]
  | q :: r, a, h, x => by
    obtain ⟨h1, h2⟩ := List.pairwise_cons.1 h
    have ih := mem_uni r (put a q) h2 x
    have hq : has r q.1 = false := has_not.2 fun y hy e => cmp_ne (h1 y hy) e.symm
    rw [show uni a (q :: r) = uni (put a q) r from rfl, ih, mem_put, List.mem_cons, has_cons]
    constructor
    · rintro (h | ⟨rfl | ⟨h, k⟩, g⟩)
      · exact .inl (.inr h)
      · exact .inl (.inl rfl)
      · refine .inr ⟨h, ?_⟩
        rw [g, decide_eq_false fun e => k e.symm]
        rfl
    · rintro ((rfl | h) | ⟨h, k⟩)
      · exact .inr ⟨.inl rfl, hq⟩
      · exact .inl h
      · obtain ⟨k1, k2⟩ := Bool.or_eq_false_iff.1 k
        exact .inr ⟨.inr ⟨h, fun e => of_decide_eq_false k1 e.symm⟩, k2⟩
theorem srt_uni {a : List Pr} (b : List Pr) (h : srt a) : srt (uni a b) := srt_fold b a h
theorem srt_mns {a : List Pr} (b : List Pr) (h : srt a) : srt (mns a b) := h.filter _
theorem srt_bth {a : List Pr} (b : List Pr) (h : srt a) : srt (bth a b) := h.filter _
theorem srt_odd {a : List Pr} (b : List Pr) (h : srt a) : srt (odd a b) := srt_uni _ (srt_mns b h)
theorem mem_odd {a b : List Pr} (hb : srt b) (x : Pr) : x ∈ odd a b ↔ (x ∈ a ∧ has b x.1 = false) ∨ (x ∈ b ∧ has a x.1 = false) := by
  rw [odd, mem_uni _ _ (srt_mns a hb), mem_mns, mem_mns]
  constructor
  · rintro (h | ⟨h, _⟩)
    · exact .inr h
    · exact .inl h
  · rintro (h | h)
    · refine .inr ⟨h, has_not.2 fun y hy e => ?_⟩
      have h2 := has_not.1 h.2 y (mem_mns.1 hy).1
      exact h2 e
    · exact .inl h
theorem has_uni (a : List Pr) {b : List Pr} (hb : srt b) (k : List UInt8) : has (uni a b) k = (has a k || has b k) := by
  rw [Bool.eq_iff_iff, Bool.or_eq_true, has_iff, has_iff]
  constructor
  · rintro ⟨x, hx, rfl⟩
    rcases (mem_uni b a hb x).1 hx with h | ⟨h, _⟩
    · exact .inr (has_iff.2 ⟨x, h, rfl⟩)
    · exact .inl ⟨x, h, rfl⟩
  · intro h
    cases hk : has b k with
    | true =>
      obtain ⟨x, hx, e⟩ := has_iff.1 hk
      exact ⟨x, (mem_uni b a hb x).2 (.inl hx), e⟩
    | false =>
      rcases h with ⟨x, hx, rfl⟩ | h
      · exact ⟨x, (mem_uni b a hb x).2 (.inr ⟨hx, hk⟩), rfl⟩
      · rw [hk] at h; cases h
theorem has_bth (a b : List Pr) (k : List UInt8) : has (bth a b) k = (has a k && has b k) := by
  rw [Bool.eq_iff_iff, Bool.and_eq_true, has_iff]
  constructor
  · rintro ⟨x, hx, rfl⟩
    obtain ⟨h1, h2⟩ := mem_bth.1 hx
    exact ⟨has_iff.2 ⟨x, h1, rfl⟩, h2⟩
  · rintro ⟨h1, h2⟩
    obtain ⟨x, hx, rfl⟩ := has_iff.1 h1
    exact ⟨x, mem_bth.2 ⟨hx, h2⟩, rfl⟩
theorem has_mns (a b : List Pr) (k : List UInt8) : has (mns a b) k = (has a k && !has b k) := by
  rw [Bool.eq_iff_iff, Bool.and_eq_true, has_iff]
  constructor
  · rintro ⟨x, hx, rfl⟩
    obtain ⟨h1, h2⟩ := mem_mns.1 hx
    exact ⟨has_iff.2 ⟨x, h1, rfl⟩, by rw [h2]; rfl⟩
  · rintro ⟨h1, h2⟩
    obtain ⟨x, hx, rfl⟩ := has_iff.1 h1
    exact ⟨x, mem_mns.2 ⟨hx, by simpa using h2⟩, rfl⟩
theorem has_odd (a : List Pr) {b : List Pr} (hb : srt b) (k : List UInt8) : has (odd a b) k = ((has a k && !has b k) || (has b k && !has a k)) := by
  rw [odd, has_uni _ (srt_mns a hb), has_mns, has_mns]
theorem has_lts {b : List Pr} {k q : List UInt8} (h : cmp k q < 0) : has (lts b q) k = has b k := by
  rw [Bool.eq_iff_iff, has_iff, has_iff]
  constructor
  · rintro ⟨x, hx, e⟩; exact ⟨x, (mem_lts.1 hx).1, e⟩
  · rintro ⟨x, hx, rfl⟩; exact ⟨x, mem_lts.2 ⟨hx, h⟩, rfl⟩
theorem has_gts {b : List Pr} {k q : List UInt8} (h : cmp q k < 0) : has (gts b q) k = has b k := by
  rw [Bool.eq_iff_iff, has_iff, has_iff]
  constructor
  · rintro ⟨x, hx, e⟩; exact ⟨x, (mem_gts.1 hx).1, e⟩
  · rintro ⟨x, hx, rfl⟩; exact ⟨x, mem_gts.2 ⟨hx, h⟩, rfl⟩
theorem uni_cut {a l r : List Pr} {q : Pr} (ha : srt a) (h : srt (l ++ q :: r)) : uni (lts a q.1) l ++ q :: uni (gts a q.1) r = uni a (l ++ q :: r) := by
  obtain ⟨h1, h2, h3, h4, _⟩ := srt_parts h
  refine srt_ext _ _ (srt_of (srt_uni _ (srt_lts ha _)) (srt_uni _ (srt_gts ha _)) (fun x hx => ?_) (fun x hx => ?_)) (srt_uni _ ha) fun x => ?_
  · rcases (mem_uni _ _ h1 x).1 hx with hx | ⟨hx, _⟩
    · exact h3 x hx
    · exact (mem_lts.1 hx).2
  · rcases (mem_uni _ _ h2 x).1 hx with hx | ⟨hx, _⟩
    · exact h4 x hx
    · exact (mem_gts.1 hx).2
  · rw [mem_uni _ _ h, List.mem_append, List.mem_cons, mem_uni _ _ h1, mem_uni _ _ h2, mem_lts, mem_gts, List.mem_append, List.mem_cons]
    rcases cmp_three x.1 q.1 with hc | hc | hc
    · rw [(out_left h hc).2.1]
      constructor
      · rintro ((h | ⟨⟨h, _⟩, k⟩) | h | h | ⟨⟨_, h⟩, _⟩)
        · exact .inl (.inl h)
        · exact .inr ⟨h, k⟩
        · exact .inl (.inr (.inl h))
        · exact .inl (.inr (.inr h))
        · exact absurd h (cmp_not hc)
      · rintro ((h | h | h) | ⟨h, k⟩)
        · exact .inl (.inl h)
        · exact .inr (.inl h)
        · exact .inr (.inr (.inl h))
        · exact .inl (.inr ⟨⟨h, hc⟩, k⟩)
    · rw [(out_here h hc).2.1]
      constructor
      · rintro ((h | ⟨⟨_, h⟩, _⟩) | h | h | ⟨⟨_, h⟩, _⟩)
        · exact .inl (.inl h)
        · exact absurd hc (cmp_ne h)
        · exact .inl (.inr (.inl h))
        · exact .inl (.inr (.inr h))
        · exact absurd hc.symm (cmp_ne h)
      · rintro ((h | h | h) | ⟨_, k⟩)
        · exact .inl (.inl h)
        · exact .inr (.inl h)
        · exact .inr (.inr (.inl h))
        · cases k
    · rw [(out_right h hc).2.1]
      constructor
      · rintro ((h | ⟨⟨_, h⟩, _⟩) | h | h | ⟨⟨h, _⟩, k⟩)
        · exact .inl (.inl h)
        · exact absurd h (cmp_not hc)
        · exact .inl (.inr (.inl h))
        · exact .inl (.inr (.inr h))
        · exact .inr ⟨h, k⟩
      · rintro ((h | h | h) | ⟨h, k⟩)
        · exact .inl (.inl h)
        · exact .inr (.inl h)
        · exact .inr (.inr (.inl h))
        · exact .inr (.inr (.inr ⟨⟨h, hc⟩, k⟩))
theorem mns_cut {a l r : List Pr} {q : Pr} (ha : srt a) (h : srt (l ++ q :: r)) : mns (lts a q.1) l ++ mns (gts a q.1) r = mns a (l ++ q :: r) := by
  refine srt_ext _ _ (List.pairwise_append.2 ⟨srt_mns _ (srt_lts ha _), srt_mns _ (srt_gts ha _), fun x hx y hy => cmp_lt_trans (mem_lts.1 (mem_mns.1 hx).1).2 (mem_gts.1 (mem_mns.1 hy).1).2⟩) (srt_mns _ ha) fun x => ?_
  rw [List.mem_append, mem_mns, mem_mns, mem_mns, mem_lts, mem_gts]
  rcases cmp_three x.1 q.1 with hc | hc | hc
  · rw [(out_left h hc).2.1]
    constructor
    · rintro (⟨⟨h, _⟩, k⟩ | ⟨⟨_, h⟩, _⟩)
      · exact ⟨h, k⟩
      · exact absurd h (cmp_not hc)
    · rintro ⟨h, k⟩
      exact .inl ⟨⟨h, hc⟩, k⟩
  · rw [(out_here h hc).2.1]
    constructor
    · rintro (⟨⟨_, h⟩, _⟩ | ⟨⟨_, h⟩, _⟩)
      · exact absurd hc (cmp_ne h)
      · exact absurd hc.symm (cmp_ne h)
    · rintro ⟨_, k⟩
      cases k
  · rw [(out_right h hc).2.1]
    constructor
    · rintro (⟨⟨_, h⟩, _⟩ | ⟨⟨h, _⟩, k⟩)
      · exact absurd h (cmp_not hc)
      · exact ⟨h, k⟩
    · rintro ⟨h, k⟩
      exact .inr ⟨⟨h, hc⟩, k⟩
/-- one pair between two lists, or none -/
def mid (c : Bool) (l : List Pr) (q : Pr) (r : List Pr) : List Pr := if c = true then l ++ q :: r else l ++ r
theorem mid_true (l : List Pr) (q : Pr) (r : List Pr) : mid true l q r = l ++ q :: r := rfl
theorem mid_false (l : List Pr) (q : Pr) (r : List Pr) : mid false l q r = l ++ r := rfl
theorem mem_mid {c : Bool} {l r : List Pr} {q x : Pr} : x ∈ mid c l q r ↔ x ∈ l ∨ (c = true ∧ x = q) ∨ x ∈ r := by
  cases c <;> simp [mid]
theorem srt_mid {c : Bool} {l r : List Pr} {q : Pr} (h1 : srt l) (h2 : srt r) (h3 : ∀ a ∈ l, cmp a.1 q.1 < 0) (h4 : ∀ b ∈ r, cmp q.1 b.1 < 0) : srt (mid c l q r) := by
  cases c with
  | true => exact srt_of h1 h2 h3 h4
  | false => exact List.pairwise_append.2 ⟨h1, h2, fun a ha b hb => cmp_lt_trans (h3 a ha) (h4 b hb)⟩
theorem mid_length (c : Bool) (l : List Pr) (q : Pr) (r : List Pr) : (mid c l q r).length ≤ l.length + r.length + 1 := by
  cases c <;> simp [mid] <;> omega
theorem bth_cut {b l r : List Pr} {q : Pr} (h : srt (l ++ q :: r)) : mid (has b q.1) (bth l (lts b q.1)) q (bth r (gts b q.1)) = bth (l ++ q :: r) b := by
  obtain ⟨_, _, h3, h4, _⟩ := srt_parts h
  have e1 : bth l (lts b q.1) = bth l b := List.filter_congr fun x hx => has_lts (h3 x hx)
  have e2 : bth r (gts b q.1) = bth r b := List.filter_congr fun x hx => has_gts (h4 x hx)
  rw [e1, e2]
  unfold bth
  rw [filter_mid]
  cases has b q.1 <;> simp [mid]
theorem odd_cut {b l r : List Pr} {q : Pr} (hb : srt b) (h : srt (l ++ q :: r)) : mid (!has b q.1) (odd l (lts b q.1)) q (odd r (gts b q.1)) = odd (l ++ q :: r) b := by
  obtain ⟨h1, h2, h3, h4, _⟩ := srt_parts h
  refine srt_ext _ _ (srt_mid (srt_odd _ h1) (srt_odd _ h2) (fun x hx => ?_) (fun x hx => ?_)) (srt_odd _ h) fun x => ?_
  · rcases (mem_odd (srt_lts hb _) x).1 hx with ⟨hx, _⟩ | ⟨hx, _⟩
    · exact h3 x hx
    · exact (mem_lts.1 hx).2
  · rcases (mem_odd (srt_gts hb _) x).1 hx with ⟨hx, _⟩ | ⟨hx, _⟩
    · exact h4 x hx
    · exact (mem_gts.1 hx).2
  · rw [mem_mid, mem_odd (srt_lts hb _), mem_odd (srt_gts hb _), mem_odd hb, mem_lts, mem_gts, List.mem_append, List.mem_cons]
    have n1 : ∀ y ∈ l, has (lts b q.1) y.1 = has b y.1 := fun y hy => has_lts (h3 y hy)
    have n2 : ∀ y ∈ r, has (gts b q.1) y.1 = has b y.1 := fun y hy => has_gts (h4 y hy)
    constructor
    · rintro ((⟨m, k⟩ | ⟨⟨m, c⟩, k⟩) | ⟨k, rfl⟩ | ⟨m, k⟩ | ⟨⟨m, c⟩, k⟩)
      · rw [n1 x m] at k; exact .inl ⟨.inl m, k⟩
      · exact .inr ⟨m, by rw [(out_left h c).2.1]; exact k⟩
      · exact .inl ⟨.inr (.inl rfl), by simpa using k⟩
      · rw [n2 x m] at k; exact .inl ⟨.inr (.inr m), k⟩
      · exact .inr ⟨m, by rw [(out_right h c).2.1]; exact k⟩
    · rintro (⟨m | rfl | m, k⟩ | ⟨m, k⟩)
      · exact .inl (.inl ⟨m, by rw [n1 x m]; exact k⟩)
      · exact .inr (.inl ⟨by rw [k]; rfl, rfl⟩)
      · exact .inr (.inr (.inl ⟨m, by rw [n2 x m]; exact k⟩))
      · rcases cmp_three x.1 q.1 with c | c | c
        · rw [(out_left h c).2.1] at k; exact .inl (.inr ⟨⟨m, c⟩, k⟩)
        · rw [(out_here h c).2.1] at k; cases k
        · rw [(out_right h c).2.1] at k; exact .inr (.inr (.inr ⟨⟨m, c⟩, k⟩))
theorem all_congr {P Q : Pr → Bool} {l : List Pr} (h : ∀ x ∈ l, P x = Q x) : l.all P = l.all Q := by
  rw [Bool.eq_iff_iff, List.all_eq_true, List.all_eq_true]
  exact ⟨fun k x hx => by rw [← h x hx]; exact k x hx, fun k x hx => by rw [h x hx]; exact k x hx⟩
theorem sub_cut {b l r : List Pr} {q : Pr} (h : srt (l ++ q :: r)) : ((has b q.1 && sub l (lts b q.1)) && sub r (gts b q.1)) = sub (l ++ q :: r) b := by
  obtain ⟨_, _, h3, h4, _⟩ := srt_parts h
  have e1 : sub l (lts b q.1) = sub l b := all_congr fun x hx => has_lts (h3 x hx)
  have e2 : sub r (gts b q.1) = sub r b := all_congr fun x hx => has_gts (h4 x hx)
  rw [e1, e2]
  unfold sub
  rw [List.all_append, List.all_cons]
  cases has b q.1 <;> simp
theorem sub_iff {a b : List Pr} : sub a b = true ↔ ∀ x ∈ a, has b x.1 = true := List.all_eq_true
theorem cut_length {b : List Pr} {k : List UInt8} (hb : srt b) : b.length = (lts b k).length + (if has b k = true then 1 else 0) + (gts b k).length := by
  have e := congrArg List.length (lts_oth hb k)
  rw [List.length_append] at e
  cases h : has b k with
  | true => rw [oth_has hb h, List.length_cons] at e; simp; omega
  | false => rw [oth_not h] at e; simp; omega
theorem sub_few : ∀ (a b : List Pr), srt a → srt b → sub a b = true → a.length ≤ b.length
  | [], b, _, _, _ => Nat.zero_le _
  | q :: r, b, ha, hb, h => by
    have e := sub_cut (b := b) (l := []) (q := q) (r := r) ha
    rw [List.nil_append, h] at e
    obtain ⟨e1, e2⟩ := Bool.and_eq_true_iff.1 e
    obtain ⟨e3, _⟩ := Bool.and_eq_true_iff.1 e1
    have i := sub_few r (gts b q.1) (List.pairwise_cons.1 ha).2 (srt_gts hb _) e2
    have c := cut_length (k := q.1) hb
    rw [e3, if_pos rfl] at c
    rw [List.length_cons]
    omega
theorem uni_length : ∀ (b a : List Pr), (uni a b).length ≤ a.length + b.length
  | [], a => by simp [uni]
  | q :: r, a => by
    have i := uni_length r (put a q)
    have p := put_length a q
    rw [show uni a (q :: r) = uni (put a q) r from rfl, List.length_cons]
    omega
theorem mns_length (a b : List Pr) : (mns a b).length ≤ a.length := List.length_filter_le _ _
theorem bth_length (a b : List Pr) : (bth a b).length ≤ a.length := List.length_filter_le _ _
theorem odd_length (a b : List Pr) : (odd a b).length ≤ a.length + b.length := by
  have h1 := uni_length (mns b a) (mns a b)
  have h2 := mns_length a b
  have h3 := mns_length b a
  rw [odd]
  omega
theorem lts_length (a : List Pr) (k : List UInt8) : (lts a k).length ≤ a.length := List.length_filter_le _ _
theorem gts_length (a : List Pr) (k : List UInt8) : (gts a k).length ≤ a.length := List.length_filter_le _ _
theorem uni_nil (a : List Pr) : uni a [] = a := rfl
theorem nil_uni {a : List Pr} (h : srt a) : uni [] a = a := come_self a h
theorem nil_mns (b : List Pr) : mns [] b = [] := rfl
theorem mns_nil (a : List Pr) : mns a [] = a := List.filter_eq_self.2 fun _ _ => rfl
theorem nil_bth (b : List Pr) : bth [] b = [] := rfl
theorem bth_nil (a : List Pr) : bth a [] = [] := none_in fun _ _ => rfl
theorem nil_odd {b : List Pr} (h : srt b) : odd [] b = b := by rw [odd, nil_mns, mns_nil, nil_uni h]
theorem odd_nil (a : List Pr) : odd a [] = a := by rw [odd, nil_mns, mns_nil, uni_nil]
theorem uni_self {a : List Pr} (h : srt a) : uni a a = a := by
  refine srt_ext _ _ (srt_uni _ h) h fun x => ?_
  rw [mem_uni _ _ h]
  constructor
  · rintro (h | ⟨h, _⟩)
    · exact h
    · exact h
  · exact .inl
theorem mns_self (a : List Pr) : mns a a = [] := none_in fun x hx => by rw [has_iff.2 ⟨x, hx, rfl⟩]; rfl
theorem uni_parts {a : List Pr} (b : List Pr) (h : srt a) : uni (mns a b) (bth a b) = a := by
  refine srt_ext _ _ (srt_uni _ (srt_mns b h)) h fun x => ?_
  rw [mem_uni _ _ (srt_bth b h), mem_bth, mem_mns, has_bth]
  constructor
  · rintro (⟨h, _⟩ | ⟨⟨h, _⟩, _⟩)
    · exact h
    · exact h
  · intro h
    cases k : has b x.1 with
    | true => exact .inl ⟨h, rfl⟩
    | false => exact .inr ⟨⟨h, rfl⟩, by simp⟩
theorem bth_parts (a b : List Pr) : bth (mns a b) (bth a b) = [] := none_in fun x hx => by
  rw [has_bth, (mem_mns.1 hx).2, Bool.and_false]
theorem parts_length (a b : List Pr) : (mns a b).length + (bth a b).length = a.length := by
  have h := List.length_eq_countP_add_countP (fun x : Pr => has b x.1) (l := a)
  rw [List.countP_eq_length_filter, List.countP_eq_length_filter] at h
  have e : (a.filter fun x => decide ¬ has b x.1 = true) = mns a b := List.filter_congr fun x _ => by simp
  rw [e] at h
  unfold bth
  omega
theorem bth_turn {a b : List Pr} (ha : srt a) (hb : srt b) : (bth a b).length = (bth b a).length := by
  have h : ∀ a b : List Pr, srt a → srt b → (bth a b).length ≤ (bth b a).length := fun a b ha hb => sub_few _ _ (srt_bth _ ha) (srt_bth _ hb) (sub_iff.2 fun x hx => by
    obtain ⟨h1, h2⟩ := mem_bth.1 hx
    rw [has_bth, h2, has_iff.2 ⟨x, h1, rfl⟩]; rfl)
  exact Nat.le_antisymm (h a b ha hb) (h b a hb ha)
theorem uni_sum' : ∀ (b a : List Pr), srt b → srt a → (uni a b).length + (bth b a).length = a.length + b.length
  | [], a, _, _ => by simp [uni, bth]
  | q :: r, a, hb, ha => by
    have e1 := uni_cut (l := []) (q := q) (r := r) ha hb
    have e2 := bth_cut (b := a) (l := []) (q := q) (r := r) hb
    have i := uni_sum' r (gts a q.1) (List.pairwise_cons.1 hb).2 (srt_gts ha _)
    have c := cut_length (k := q.1) ha
    rw [List.nil_append] at e1 e2
    rw [← e1, ← e2, uni_nil, List.length_append, List.length_cons, List.length_cons]
    rw [nil_bth]
    cases h : has a q.1 with
    | true => rw [h, if_pos rfl] at c; rw [mid_true, List.nil_append, List.length_cons]; omega
    | false => rw [h, if_neg (by decide)] at c; rw [mid_false, List.nil_append]; omega
theorem uni_sum {a b : List Pr} (ha : srt a) (hb : srt b) : (uni a b).length + (bth a b).length = a.length + b.length := by rw [bth_turn ha hb]; exact uni_sum' b a hb ha
theorem sub_left (a : List Pr) {b : List Pr} (hb : srt b) : sub a (uni a b) = true := sub_iff.2 fun x hx => by rw [has_uni _ hb, has_iff.2 ⟨x, hx, rfl⟩]; rfl
theorem sub_right (a : List Pr) {b : List Pr} (hb : srt b) : sub b (uni a b) = true := sub_iff.2 fun x hx => by rw [has_uni _ hb, has_iff.2 ⟨x, hx, rfl⟩, Bool.or_true]
theorem sub_both (a b : List Pr) : sub (bth a b) a = true ∧ sub (bth a b) b = true := ⟨sub_iff.2 fun x hx => has_iff.2 ⟨x, (mem_bth.1 hx).1, rfl⟩, sub_iff.2 fun _ hx => (mem_bth.1 hx).2⟩
theorem sub_of {a b : List Pr} (h : ∀ k, has a k = has b k) : sub a b = true := sub_iff.2 fun x hx => by rw [← h]; exact has_iff.2 ⟨x, hx, rfl⟩
theorem sub_uni {a b : List Pr} (ha : srt a) (hb : srt b) : sub (uni a b) (uni b a) = true := sub_of fun k => by rw [has_uni _ hb, has_uni _ ha, Bool.or_comm]
theorem sub_bth (a b : List Pr) : sub (bth a b) (bth b a) = true := sub_of fun k => by rw [has_bth, has_bth, Bool.and_comm]
theorem sub_odd {a b : List Pr} (ha : srt a) (hb : srt b) : sub (odd a b) (odd b a) = true := sub_of fun k => by rw [has_odd _ hb, has_odd _ ha, Bool.or_comm]
theorem sub_mns (a b : List Pr) : sub a b = ((mns a b).length == 0) := by
  rw [Bool.eq_iff_iff, sub_iff, beq_iff_eq, List.length_eq_zero_iff]
  constructor
  · exact fun h => none_in fun x hx => by rw [h x hx]; rfl
  · intro h x hx
    cases k : has b x.1 with
    | true => rfl
    | false =>
      have : x ∈ mns a b := mem_mns.2 ⟨hx, k⟩
      rw [h] at this
      cases this
theorem uni_three {a b c : List Pr} (ha : srt a) (hb : srt b) (hc : srt c) : uni (uni a b) c = uni a (uni b c) := by
  refine srt_ext _ _ (srt_uni _ (srt_uni _ ha)) (srt_uni _ ha) fun x => ?_
  rw [mem_uni _ _ hc, mem_uni _ _ hb, mem_uni _ _ (srt_uni _ hb), mem_uni _ _ hc, has_uni _ hc, Bool.or_eq_false_iff]
  constructor
  · rintro (h | ⟨h | ⟨h, k⟩, g⟩)
    · exact .inl (.inl h)
    · exact .inl (.inr ⟨h, g⟩)
    · exact .inr ⟨h, k, g⟩
  · rintro ((h | ⟨h, g⟩) | ⟨h, k, g⟩)
    · exact .inl h
    · exact .inr ⟨.inl h, g⟩
    · exact .inr ⟨.inr ⟨h, k⟩, g⟩
theorem bth_three (a b c : List Pr) : bth (bth a b) c = bth a (bth b c) := by
  rw [bth, bth, List.filter_filter, bth]
  exact List.filter_congr fun x _ => by rw [has_bth, Bool.and_comm]
end Go.Proofs.Ytnniojlofhbioaa
