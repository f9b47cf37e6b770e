/-
  What is found in a layout, plainly: each entry under its own hash and under no other; and how many visits a look has at most. No program.
-/
import Derived.Test.YtajanacbifjmgaaDoorFinds
import Derived.Test.YtajanacbifjmgaaDoorBound
namespace Go.Proofs.YtajanacbifjmgaaDoor
set_option maxHeartbeats 1000000
attribute [local irreducible] Bt.lst
theorem apart_one {L : List En} (h : apart L) {a b : En} (ha : a ∈ L) (hb : b ∈ L) (e : a.2.1 = b.2.1) : a = b := by
  obtain ⟨i, hi, rfl⟩ := List.getElem_of_mem ha
  obtain ⟨j, hj, rfl⟩ := List.getElem_of_mem hb
  have hl : (ekeys L).length = L.length := List.length_map _
  have e2 : i = j := nodup_at h (by rw [hl]; exact hi) (by rw [hl]; exact hj) (by simpa [ekeys] using e)
  subst e2
  rfl
theorem val_of {m : List Pr} {p : Pr} (hp : p ∈ m) (hu : ∀ q ∈ m, q.1 = p.1 → q = p) : val m p.1 = p.2 := by
  unfold val
  cases hf : m.find? fun x => decide (x.1 = p.1) with
  | none =>
    have := List.find?_eq_none.1 hf p hp
    simp at this
  | some q =>
    have h1 := List.mem_of_find?_eq_some hf
    have h2 := List.find?_some hf
    rw [hu q h1 (by simpa using h2)]
    rfl
theorem end_top (L : List En) (h : Nat) (hG : Good 0 L) :
    let y := (layL 13 0 L).endAt h 0
    (∀ p ∈ y.prs, ∃ e ∈ L, e.1 = y.hash ∧ e.2 = p) ∧ (∀ e ∈ L, e.1 = h → y.kind ≠ 0 ∧ y.hash = h ∧ e.2 ∈ y.prs) ∧ y.cnt ≤ L.length :=
  end_lay 13 0 L h rfl hG fun _ _ i hi => absurd hi (Nat.not_lt_zero i)
/-- each entry under its own hash -/
theorem found {L : List En} (hG : Good 0 L) {e : En} (he : e ∈ L) : (layL 13 0 L).hasKey e.1 e.2.1 = true ∧ (layL 13 0 L).valKey e.1 e.2.1 = e.2.2 := by
  obtain ⟨h1, h2, _⟩ := end_top L e.1 hG
  obtain ⟨k1, k2, k3⟩ := h2 e he rfl
  obtain ⟨g1, g2⟩ := key_in (layL 13 0 L) e.1 e.2.1
  rw [g1, g2, Nd.hasIn, Nd.valIn, decide_eq_true ⟨k1, k2⟩, if_pos ⟨k1, k2⟩]
  refine ⟨?_, val_of k3 fun q hq hk => ?_⟩
  · rw [Bool.true_and]
    exact List.any_eq_true.2 ⟨e.2, k3, by simp⟩
  · obtain ⟨e', he', _, rfl⟩ := h1 q hq
    rw [apart_one hG.apart he' he hk]
/-- and under no other one -/
theorem found_other {L : List En} (hG : Good 0 L) {e : En} (he : e ∈ L) (h : Nat) : (layL 13 0 L).hasKey h e.2.1 = decide (h = e.1) := by
  by_cases hh : h = e.1
  · subst hh
    rw [(found hG he).1, decide_eq_true rfl]
  · rw [decide_eq_false hh]
    obtain ⟨h1, _, _⟩ := end_top L h hG
    rw [(key_in (layL 13 0 L) h e.2.1).1, Nd.hasIn]
    by_cases hk : ((layL 13 0 L).endAt h 0).kind ≠ 0 ∧ ((layL 13 0 L).endAt h 0).hash = h
    · rw [decide_eq_true hk, Bool.true_and]
      refine Bool.eq_false_iff.2 fun ht => ?_
      obtain ⟨q, hq, hqk⟩ := List.any_eq_true.1 ht
      obtain ⟨e', he', k1, rfl⟩ := h1 q hq
      have := apart_one hG.apart he' he (by simpa using hqk)
      subst this
      exact hh (hk.2.symm.trans k1.symm)
    · rw [decide_eq_false hk, Bool.false_and]
theorem bl_least {x k : Nat} (h : 2 ^ k ≤ x) : k + 1 ≤ Dg.bl x := by
  rcases Nat.lt_or_ge k (Dg.bl x) with g | g
  · exact g
  · have := (Dg.bl_le x k).1 g
    omega
/-- a look is within the bound -/
theorem seen_bound {L : List En} (hG : Good 0 L) {h c v' c' : Nat} (hs : Seen ((layL 13 0 L).endAt h 0) h ((layL 13 0 L).deep h 0) c v' c') : v' ≤ 16 + Dg.bl ((L.length + 1) ^ 6) := by
  have hl := lay_laid 13 0 L rfl hG
  have hd := deep_le (layL 13 0 L) h 0 hl.ok hl.right (by decide)
  obtain ⟨_, _, hc⟩ := end_top L h hG
  obtain ⟨hk3, hok⟩ := end_kind (layL 13 0 L) h 0 hl.ok
  have h1 : 1 ≤ Dg.bl ((L.length + 1) ^ 6) := bl_least (k := 0) (Nat.pos_of_ne_zero fun e => by simp at e)
  generalize (layL 13 0 L).endAt h 0 = Y at hs hc hk3 hok
  obtain ⟨s1, s2, s3, _, _⟩ := hs
  cases Y with
  | bran _ _ _ => exact absurd rfl hk3
  | none => have := (s2 (.inl rfl)).1; omega
  | leaf h' p => have := (s1 rfl).1; omega
  | buck h' K =>
    by_cases hh : h' = h
    · obtain ⟨_, t, te, tl, tv⟩ := s3 rfl hh
      have hts : t.size = K.length := by rw [← Tr.length, tl]; rfl
      have hk2 : 2 ≤ K.length := hok.2.1
      have hk1 : K.length ≤ 100 := hok.2.2.1
      have hKL : K.length ≤ L.length := hc
      obtain ⟨_, hcu⟩ := Tr.high_cube te (by omega)
      have h6 : 2 ^ (2 * (t.high - 2)) ≤ (L.length + 1) ^ 6 := by
        have a1 : (t.size + 1) * (t.size + 1) * (t.size + 1) ≤ (L.length + 1) ^ 3 := by
          rw [show (t.size + 1) * (t.size + 1) * (t.size + 1) = (t.size + 1) ^ 3 by rw [Nat.pow_succ, Nat.pow_succ, Nat.pow_one]]
          exact Nat.pow_le_pow_left (by omega) 3
        have a2 := Nat.le_trans hcu a1
        rw [Nat.mul_comm, Nat.pow_mul]
        have a3 := Nat.pow_le_pow_left a2 2
        have a4 : ((L.length + 1) ^ 3) ^ 2 = (L.length + 1) ^ 6 := (Nat.pow_mul ..).symm
        rw [a4] at a3
        exact a3
      have := bl_least h6
      omega
    · have := (s2 (.inr ⟨hh, rfl⟩)).1; omega
end Go.Proofs.YtajanacbifjmgaaDoor
