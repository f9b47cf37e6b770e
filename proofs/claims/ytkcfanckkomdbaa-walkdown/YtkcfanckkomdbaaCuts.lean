/-
  Plain facts on sorted lists that are cut at keys: what is less, what is more, what lies in a stretch. No program is named here.
-/
import Derived.Test.YtkcfanckkomdbaaLists
namespace Go.Proofs.Ytkcfanckkomdbaa
/-- what of a list is less than a key -/
def lts (L : List Pr) (k : List UInt8) : List Pr := L.filter fun x => decide (cmp x.1 k < 0)
/-- what is more than it -/
def gts (L : List Pr) (k : List UInt8) : List Pr := L.filter fun x => decide (cmp k x.1 < 0)
/-- what isn't less -/
def oth (L : List Pr) (k : List UInt8) : List Pr := L.filter fun x => !decide (cmp x.1 k < 0)
/-- is a key in a stretch? -/
def inS (f t : List UInt8) (cl : Bool) (k : List UInt8) : Bool := !decide (cmp k f < 0) && (!cl || decide (cmp k t < 0))
/-- what of a list is in a stretch, and what isn't -/
def ins (L : List Pr) (f t : List UInt8) (cl : Bool) : List Pr := L.filter fun x => inS f t cl x.1
def outs (L : List Pr) (f t : List UInt8) (cl : Bool) : List Pr := L.filter fun x => !inS f t cl x.1
theorem cmp_not {a b : List UInt8} (h : cmp a b < 0) : ¬ cmp b a < 0 := by have := cmp_turn a b; omega
theorem all_in {P : Pr → Bool} {l : List Pr} (h : ∀ x ∈ l, P x = true) : l.filter P = l := List.filter_eq_self.2 h
theorem none_in {P : Pr → Bool} {l : List Pr} (h : ∀ x ∈ l, P x = false) : l.filter P = [] := List.filter_eq_nil_iff.2 fun x hx => by rw [h x hx]; simp
theorem filter_mid (P : Pr → Bool) (l r : List Pr) (q : Pr) : (l ++ q :: r).filter P = l.filter P ++ (if P q = true then q :: r.filter P else r.filter P) := by rw [List.filter_append, List.filter_cons]
theorem cut_left {l r : List Pr} {q : Pr} {k : List UInt8} (h : srt (l ++ q :: r)) (hc : cmp k q.1 < 0) : lts (l ++ q :: r) k = lts l k ∧ gts (l ++ q :: r) k = gts l k ++ q :: r := by
  obtain ⟨_, _, _, h4, _⟩ := srt_parts h
  constructor
  · unfold lts
    rw [filter_mid, if_neg (by simpa using cmp_not hc), none_in (l := r) (fun x hx => decide_eq_false (cmp_not (cmp_lt_trans hc (h4 x hx)))), List.append_nil]
  · unfold gts
    rw [filter_mid, if_pos (by simpa using hc), all_in (l := r) (fun x hx => decide_eq_true (cmp_lt_trans hc (h4 x hx)))]
theorem cut_right {l r : List Pr} {q : Pr} {k : List UInt8} (h : srt (l ++ q :: r)) (hc : cmp q.1 k < 0) : lts (l ++ q :: r) k = l ++ q :: lts r k ∧ gts (l ++ q :: r) k = gts r k := by
  obtain ⟨_, _, h3, _, _⟩ := srt_parts h
  constructor
  · unfold lts
    rw [filter_mid, if_pos (by simpa using hc), all_in (l := l) (fun x hx => decide_eq_true (cmp_lt_trans (h3 x hx) hc))]
  · unfold gts
    rw [filter_mid, if_neg (by simpa using cmp_not hc), none_in (l := l) (fun x hx => decide_eq_false (cmp_not (cmp_lt_trans (h3 x hx) hc))), List.nil_append]
theorem cut_here {l r : List Pr} {q : Pr} {k : List UInt8} (h : srt (l ++ q :: r)) (hc : k = q.1) : lts (l ++ q :: r) k = l ∧ gts (l ++ q :: r) k = r := by
  obtain ⟨_, _, h3, h4, _⟩ := srt_parts h
  subst hc
  constructor
  · unfold lts
    rw [filter_mid, if_neg (by simp [cmp_self]), all_in (l := l) (fun x hx => decide_eq_true (h3 x hx)), none_in (l := r) (fun x hx => decide_eq_false (cmp_not (h4 x hx))), List.append_nil]
  · unfold gts
    rw [filter_mid, if_neg (by simp [cmp_self]), none_in (l := l) (fun x hx => decide_eq_false (cmp_not (h3 x hx))), all_in (l := r) (fun x hx => decide_eq_true (h4 x hx)), List.nil_append]
theorem has_split_at {L : List Pr} {k : List UInt8} (h : has L k = true) : ∃ l q r, L = l ++ q :: r ∧ q.1 = k := by
  obtain ⟨q, hq, e⟩ := List.any_eq_true.1 h
  obtain ⟨l, r, rfl⟩ := List.append_of_mem hq
  exact ⟨l, q, r, rfl, by simpa using e⟩
/-- what isn't less is the key's own pair, if there is one, and what is more -/
theorem oth_has {L : List Pr} {k : List UInt8} (hs : srt L) (h : has L k = true) : oth L k = (k, val L k) :: gts L k := by
  obtain ⟨l, q, r, rfl, e⟩ := has_split_at h
  obtain ⟨_, _, h3, h4, _⟩ := srt_parts hs
  rw [(cut_here hs e.symm).2, (out_here hs e.symm).2.2]
  subst e
  unfold oth
  rw [filter_mid, if_pos (by simp [cmp_self]), none_in (l := l) (fun x hx => by simp [h3 x hx]), all_in (l := r) (fun x hx => by simpa using cmp_not (h4 x hx)), List.nil_append]
theorem oth_not {L : List Pr} {k : List UInt8} (h : has L k = false) : oth L k = gts L k := by
  unfold oth gts
  refine List.filter_congr fun x hx => ?_
  have hne : x.1 ≠ k := fun e => by
    have : has L k = true := List.any_eq_true.2 ⟨x, hx, by simpa using e⟩
    rw [h] at this
    cases this
  by_cases hc : cmp x.1 k < 0
  · rw [decide_eq_true hc, decide_eq_false (cmp_not hc)]; rfl
  · rw [decide_eq_false hc, decide_eq_true (cmp_or hc hne)]; rfl
theorem srt_lts {L : List Pr} (h : srt L) (k : List UInt8) : srt (lts L k) := h.filter _
theorem srt_gts {L : List Pr} (h : srt L) (k : List UInt8) : srt (gts L k) := h.filter _
theorem srt_oth {L : List Pr} (h : srt L) (k : List UInt8) : srt (oth L k) := h.filter _
theorem srt_ins {L : List Pr} (h : srt L) (f t : List UInt8) (cl : Bool) : srt (ins L f t cl) := h.filter _
theorem srt_outs {L : List Pr} (h : srt L) (f t : List UInt8) (cl : Bool) : srt (outs L f t cl) := h.filter _
theorem mem_part {P : Pr → Bool} {L : List Pr} {x : Pr} (h : x ∈ L.filter P) : x ∈ L := (List.mem_filter.1 h).1
/-- what is less, and what isn't, are all -/
theorem lts_oth {L : List Pr} (h : srt L) (k : List UInt8) : lts L k ++ oth L k = L := by
  induction L with
  | nil => rfl
  | cons q r ih =>
    have h2 : srt r := (List.pairwise_cons.1 h).2
    have h3 := (List.pairwise_cons.1 h).1
    by_cases hc : cmp q.1 k < 0
    · have e1 : lts (q :: r) k = q :: lts r k := by unfold lts; rw [List.filter_cons, if_pos (by simpa using hc)]
      have e2 : oth (q :: r) k = oth r k := by unfold oth; rw [List.filter_cons, if_neg (by simpa using hc)]
      rw [e1, e2, List.cons_append, ih h2]
    · have e1 : lts (q :: r) k = [] := none_in fun x hx => by
        rcases List.mem_cons.1 hx with rfl | hx
        · exact decide_eq_false hc
        · refine decide_eq_false fun hk => hc (cmp_lt_trans (h3 x hx) hk)
      have e2 : oth (q :: r) k = q :: r := all_in fun x hx => by
        rcases List.mem_cons.1 hx with rfl | hx
        · simpa using hc
        · have : ¬ cmp x.1 k < 0 := fun hk => hc (cmp_lt_trans (h3 x hx) hk)
          simpa using this
      rw [e1, e2]
      rfl
theorem ins_open (L : List Pr) (f t : List UInt8) : ins L f t false = oth L f := List.filter_congr fun x _ => by simp [inS]
theorem outs_open (L : List Pr) (f t : List UInt8) : outs L f t false = lts L f := List.filter_congr fun x _ => by simp [inS]
theorem ins_closed (L : List Pr) (f t : List UInt8) : ins L f t true = lts (oth L f) t := by
  unfold ins lts oth
  rw [List.filter_filter]
  exact List.filter_congr fun x _ => by simp [inS, Bool.and_comm]
/-- all else is what lies ahead, and what lies behind -/
theorem outs_closed {L : List Pr} (h : srt L) (f t : List UInt8) : outs L f t true = lts L f ++ oth (oth L f) t := by
  have e : outs L f t true = (lts L f ++ oth L f).filter fun x => !inS f t true x.1 := by rw [lts_oth h]; rfl
  rw [e, List.filter_append]
  congr 1
  · exact all_in fun x hx => by
      have := (List.mem_filter.1 hx).2
      simp only [inS, this]
      rfl
  · unfold oth
    rw [List.filter_filter, List.filter_filter]
    refine List.filter_congr fun x _ => ?_
    unfold inS
    generalize decide (cmp x.1 f < 0) = a
    generalize decide (cmp x.1 t < 0) = b
    cases a <;> cases b <;> rfl
theorem rank_lts (L : List Pr) (k : List UInt8) : rank L k = (lts L k).length := List.countP_eq_length_filter
theorem oth_length {L : List Pr} (h : srt L) (k : List UInt8) : rank L k + (oth L k).length = L.length := by
  have e := congrArg List.length (lts_oth h k)
  rw [List.length_append] at e
  rw [rank_lts]
  exact e
theorem ins_empty {f t : List UInt8} (L : List Pr) (h : ¬ cmp f t < 0) : ins L f t true = [] := none_in fun x _ => by
  unfold inS
  by_cases h1 : cmp x.1 f < 0
  · simp [h1]
  · by_cases h2 : cmp x.1 t < 0
    · exact absurd (cmp_between (by omega) h2) h
    · simp [h1, h2]
/-- how many are in a stretch, by ranks -/
theorem ins_count {L : List Pr} {f t : List UInt8} (h : srt L) (hc : cmp f t < 0) : rank L f + (ins L f t true).length = rank L t := by
  have e : lts L t = lts (lts L f) t ++ lts (oth L f) t := by
    have : lts (lts L f ++ oth L f) t = lts (lts L f) t ++ lts (oth L f) t := List.filter_append _ _
    rw [lts_oth h] at this
    exact this
  have e2 : lts (lts L f) t = lts L f := all_in fun x hx => decide_eq_true (cmp_lt_trans (of_decide_eq_true (List.mem_filter.1 hx).2) hc)
  rw [ins_closed, rank_lts, rank_lts, e, e2, List.length_append]
theorem ins_twice (L : List Pr) (f t g u : List UInt8) (a b : Bool) : ins (ins L f t a) g u b = ins (ins L g u b) f t a := by
  unfold ins
  rw [List.filter_filter, List.filter_filter]
  exact List.filter_congr fun x _ => Bool.and_comm _ _
theorem ins_outs (L : List Pr) (f t : List UInt8) (cl : Bool) : (outs L f t cl).length + (ins L f t cl).length = L.length := by
  have h := List.length_eq_countP_add_countP (fun x : Pr => inS f t cl x.1) (l := L)
  rw [List.countP_eq_length_filter, List.countP_eq_length_filter] at h
  have e : (L.filter fun x => decide ¬ inS f t cl x.1 = true) = outs L f t cl := List.filter_congr fun x _ => by simp
  rw [e] at h
  unfold ins
  omega
end Go.Proofs.Ytkcfanckkomdbaa
