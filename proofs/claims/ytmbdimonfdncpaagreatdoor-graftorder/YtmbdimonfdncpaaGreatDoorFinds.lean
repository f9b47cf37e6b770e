/-
  Contracts of find.isBranch and find.down: the way of a hash, from the top on, with a meter and without.
-/
import Derived.Test.YtmbdimonfdncpaaGreatDoorKins
import Derived.Test.YtmbdimonfdncpaaGreatDoorChunk
import Derived.Test.YtmbdimonfdncpaaGreatDoorNods
import Derived.Test.YtmbdimonfdncpaaGreatDoorWeight
import Derived.Deep.DeepCutAuto
import Derived.Test.YtmbdimonfdncpaaGreatDoorLooks
import Derived.Test.YtmbdimonfdncpaaGreatDoorBound
namespace Go.Proofs.YtmbdimonfdncpaaGreatDoor
open Go.RowKit
set_option maxHeartbeats 4000000
set_option maxRecDepth 100000
attribute [local irreducible] Bt.lst
theorem kept_only {F : Nat → Prop} {m : Option Addr} {w w' : World} (hF : ∀ a, m = some a → ¬ F a.block) (h : Only m w w') : Kept F w w' := fun b hb hl => h.block b hl (fun a e k => hF a e (k ▸ hb))
/-- how far a way down has come -/
structure Way18 (F : Nat → Prop) (m : Option Addr) (h : Nat) (x : Nd) (w : World) (vv c : Nat) (y : Nd) (v : Value) (wr : World) (l : Nat) : Prop where
  nde : Nde F wr y v
  ok : y.ok
  right : y.right l = true
  fin : y.endAt h l = x.endAt h 0
  deep : y.deep h l + l = x.deep h 0
  met : Met wr m (vv + l) c
  only : Only m w wr
/-- the child on the way, or none -/
theorem Way18.step {F : Nat → Prop} {m : Option Addr} {h : Nat} {x : Nd} {w : World} {vv c m' k : Nat} {kid : Nat → Nd} {v : Value} {wr : World} {l : Nat} (hy : Way18 F m h x w vv c (.bran m' k kid) v wr l) :
    ∀ W vk, Nde F W (if ((ch h l : Nat) : Int) ∈ (Nd.bran m' k kid).set then (Nd.bran m' k kid).kid (Bt.less (Nd.bran m' k kid).set ((ch h l : Nat) : Int)) else .none) vk → Met W m (vv + l + 1) c → Only m w W → ∃ y, Way18 F m h x w vv c y vk W (l + 1) := by
  intro W vk hn hm ho
  have h1 := hy.ok
  have h2 := hy.right
  have h3 := hy.fin
  have h4 := hy.deep
  rw [Nd.endAt] at h3
  rw [Nd.deep] at h4
  by_cases hc : ((ch h l : Nat) : Int) ∈ (Nd.bran m' k kid).set
  · have hc' : ((ch h l : Nat) : Int) ∈ Bt.lst m' 32 := hc
    rw [if_pos hc] at hn
    rw [if_pos hc'] at h3 h4
    have hlt := (less_at hc').1
    rw [h1.2.2.1] at hlt
    rw [Nd.right, Bool.and_eq_true, Bool.and_eq_true] at h2
    have hk := (allTo_iff _ _).1 h2.2.2 _ hlt
    rw [Bool.and_eq_true] at hk
    exact ⟨_, hn, (h1.2.2.2 _ hlt).2, hk.1, h3, by show (kid (Bt.less (Bt.lst m' 32) ((ch h l : Nat) : Int))).deep h (l + 1) + (l + 1) = _; omega, hm, ho⟩
  · have hc' : ¬ ((ch h l : Nat) : Int) ∈ Bt.lst m' 32 := hc
    rw [if_neg hc] at hn
    rw [if_neg hc'] at h3 h4
    exact ⟨.none, hn, trivial, rfl, h3, by show 0 + (l + 1) = _; omega, hm, ho⟩
end Go.Proofs.YtmbdimonfdncpaaGreatDoor
/-
  Contracts of find.fromLeaf, find.Get, find.Depth: what is told of a key under a hash, and what is counted.
-/
namespace Go.Proofs.YtmbdimonfdncpaaGreatDoor
open Go.RowKit
set_option maxHeartbeats 4000000
set_option maxRecDepth 100000
attribute [local irreducible] Bt.lst
theorem one_here (p : Pr) : has [p] p.1 = true ∧ val [p] p.1 = p.2 := by simp [has, val]
theorem one_other {p : Pr} {k : List UInt8} (h : p.1 ≠ k) : has [p] k = false ∧ val [p] k = [] := by simp [has, val, h]
/-- is a key in the node where a way ended, and its value, if that has the hash -/
def Nd.hasIn (y : Nd) (h : Nat) (k : List UInt8) : Bool := decide (y.kind ≠ 0 ∧ y.hash = h) && has y.prs k
def Nd.valIn (y : Nd) (h : Nat) (k : List UInt8) : List UInt8 := if y.kind ≠ 0 ∧ y.hash = h then val y.prs k else []
theorem key_in (x : Nd) (h : Nat) (k : List UInt8) : x.hasKey h k = (x.endAt h 0).hasIn h k ∧ x.valKey h k = (x.endAt h 0).valIn h k := ⟨rfl, rfl⟩
/-- what a look counts behind so many branches -/
def Seen (y : Nd) (h v c v' c' : Nat) : Prop :=
  (y.kind = 1 → v' = v + 1 ∧ c' = c + (if y.hash = h then 1 else 0)) ∧ (y.kind = 0 ∨ y.hash ≠ h ∧ y.kind = 2 → v' = v ∧ c' = c) ∧ (y.kind = 2 → y.hash = h → v < v' ∧ ∃ t : Tr, t.even ∧ t.list = y.prs ∧ v' ≤ v + t.high) ∧ c' + v ≤ c + v' ∧ c ≤ c'
end Go.Proofs.YtmbdimonfdncpaaGreatDoor
/-
  What is found in a layout, plainly: each entry under its own hash and under no other; and how many visits a look has at most. No program.
-/
namespace Go.Proofs.YtmbdimonfdncpaaGreatDoor
set_option maxHeartbeats 1000000
attribute [local irreducible] Bt.lst
theorem apart_one {L : List En} (h : apart L) {a b : En} (ha : a ∈ L) (hb : b ∈ L) (e : a.2.1 = b.2.1) : a = b := by
  obtain ⟨i, hi, rfl⟩ := List.getElem_of_mem ha
  obtain ⟨j, hj, rfl⟩ := List.getElem_of_mem hb
  have hl : (ekeys L).length = L.length := List.length_map _
  have e2 : i = j := nodup_at h (by rw [hl]; exact hi) (by rw [hl]; exact hj) (by simpa [ekeys] using e)
  subst e2
  rfl
theorem val_of {m : List Pr} {p : Pr} (hp : p ∈ m) (hu : ∀ q ∈ m, q.1 = p.1 → q = p) : val m p.1 = p.2 := by
  unfold val
  cases hf : m.find? fun x => decide (x.1 = p.1) with
  | none =>
    have := List.find?_eq_none.1 hf p hp
    simp at this
  | some q =>
    have h1 := List.mem_of_find?_eq_some hf
    have h2 := List.find?_some hf
    rw [hu q h1 (by simpa using h2)]
    rfl
theorem end_top (L : List En) (h : Nat) (hG : Good 0 L) :
    let y := (layL 13 0 L).endAt h 0
    (∀ p ∈ y.prs, ∃ e ∈ L, e.1 = y.hash ∧ e.2 = p) ∧ (∀ e ∈ L, e.1 = h → y.kind ≠ 0 ∧ y.hash = h ∧ e.2 ∈ y.prs) ∧ y.cnt ≤ L.length :=
  end_lay 13 0 L h rfl hG fun _ _ i hi => absurd hi (Nat.not_lt_zero i)
/-- each entry under its own hash -/
theorem found {L : List En} (hG : Good 0 L) {e : En} (he : e ∈ L) : (layL 13 0 L).hasKey e.1 e.2.1 = true ∧ (layL 13 0 L).valKey e.1 e.2.1 = e.2.2 := by
  obtain ⟨h1, h2, _⟩ := end_top L e.1 hG
  obtain ⟨k1, k2, k3⟩ := h2 e he rfl
  obtain ⟨g1, g2⟩ := key_in (layL 13 0 L) e.1 e.2.1
  rw [g1, g2, Nd.hasIn, Nd.valIn, decide_eq_true ⟨k1, k2⟩, if_pos ⟨k1, k2⟩]
  refine ⟨?_, val_of k3 fun q hq hk => ?_⟩
  · rw [Bool.true_and]
    exact List.any_eq_true.2 ⟨e.2, k3, by simp⟩
  · obtain ⟨e', he', _, rfl⟩ := h1 q hq
    rw [apart_one hG.apart he' he hk]
/-- and under no other one -/
theorem found_other {L : List En} (hG : Good 0 L) {e : En} (he : e ∈ L) (h : Nat) : (layL 13 0 L).hasKey h e.2.1 = decide (h = e.1) := by
  by_cases hh : h = e.1
  · subst hh
    rw [(found hG he).1, decide_eq_true rfl]
  · rw [decide_eq_false hh]
    obtain ⟨h1, _, _⟩ := end_top L h hG
    rw [(key_in (layL 13 0 L) h e.2.1).1, Nd.hasIn]
    by_cases hk : ((layL 13 0 L).endAt h 0).kind ≠ 0 ∧ ((layL 13 0 L).endAt h 0).hash = h
    · rw [decide_eq_true hk, Bool.true_and]
      refine Bool.eq_false_iff.2 fun ht => ?_
      obtain ⟨q, hq, hqk⟩ := List.any_eq_true.1 ht
      obtain ⟨e', he', k1, rfl⟩ := h1 q hq
      have := apart_one hG.apart he' he (by simpa using hqk)
      subst this
      exact hh (hk.2.symm.trans k1.symm)
    · rw [decide_eq_false hk, Bool.false_and]
theorem bl_least {x k : Nat} (h : 2 ^ k ≤ x) : k + 1 ≤ Dg.bl x := by
  rcases Nat.lt_or_ge k (Dg.bl x) with g | g
  · exact g
  · have := (Dg.bl_le x k).1 g
    omega
/-- a look is within the bound -/
theorem seen_bound {L : List En} (hG : Good 0 L) {h c v' c' : Nat} (hs : Seen ((layL 13 0 L).endAt h 0) h ((layL 13 0 L).deep h 0) c v' c') : v' ≤ 16 + Dg.bl ((L.length + 1) ^ 6) := by
  have hl := lay_laid 13 0 L rfl hG
  have hd := deep_le (layL 13 0 L) h 0 hl.ok hl.right (by decide)
  obtain ⟨_, _, hc⟩ := end_top L h hG
  obtain ⟨hk3, hok⟩ := end_kind (layL 13 0 L) h 0 hl.ok
  have h1 : 1 ≤ Dg.bl ((L.length + 1) ^ 6) := bl_least (k := 0) (Nat.pos_of_ne_zero fun e => by simp at e)
  generalize (layL 13 0 L).endAt h 0 = Y at hs hc hk3 hok
  obtain ⟨s1, s2, s3, _, _⟩ := hs
  cases Y with
  | bran _ _ _ => exact absurd rfl hk3
  | none => have := (s2 (.inl rfl)).1; omega
  | leaf h' p => have := (s1 rfl).1; omega
  | buck h' K =>
    by_cases hh : h' = h
    · obtain ⟨_, t, te, tl, tv⟩ := s3 rfl hh
      have hts : t.size = K.length := by rw [← Tr.length, tl]; rfl
      have hk2 : 2 ≤ K.length := hok.2.1
      have hk1 : K.length ≤ 100 := hok.2.2.1
      have hKL : K.length ≤ L.length := hc
      obtain ⟨_, hcu⟩ := Tr.high_cube te (by omega)
      have h6 : 2 ^ (2 * (t.high - 2)) ≤ (L.length + 1) ^ 6 := by
        have a1 : (t.size + 1) * (t.size + 1) * (t.size + 1) ≤ (L.length + 1) ^ 3 := by
          rw [show (t.size + 1) * (t.size + 1) * (t.size + 1) = (t.size + 1) ^ 3 by rw [Nat.pow_succ, Nat.pow_succ, Nat.pow_one]]
          exact Nat.pow_le_pow_left (by omega) 3
        have a2 := Nat.le_trans hcu a1
        rw [Nat.mul_comm, Nat.pow_mul]
        have a3 := Nat.pow_le_pow_left a2 2
        have a4 : ((L.length + 1) ^ 3) ^ 2 = (L.length + 1) ^ 6 := (Nat.pow_mul ..).symm
        rw [a4] at a3
        exact a3
      have := bl_least h6
      omega
    · have := (s2 (.inr ⟨hh, rfl⟩)).1; omega
end Go.Proofs.YtmbdimonfdncpaaGreatDoor
/-
  What becomes of a layout with an entry more, case by case, and what is counted on the way: plainly. No program.
-/
namespace Go.Proofs.YtmbdimonfdncpaaGreatDoor
set_option maxHeartbeats 1000000
attribute [local irreducible] Bt.lst
theorem lay_nil (f lv : Nat) : layL f lv [] = .none := lay_flat rfl f lv
theorem part_nil_of {lv : Nat} {L : List En} {c : Int} (h : ¬ c ∈ Bt.lst (mask lv L) 32) : part lv L c = [] := by
  by_cases e : part lv L c = []
  · exact e
  · obtain ⟨a, ha⟩ := List.exists_mem_of_ne_nil _ e
    exact absurd ((mask_mem lv L c).2 ⟨a, (part_mem.1 ha).1, (part_mem.1 ha).2⟩) h
/-- the child for a chunk, or none -/
theorem lay_kid (f lv : Nat) (L : List En) (c : Int) : (if c ∈ Bt.lst (mask lv L) 32 then layL f (lv + 1) (part lv L (nthc (mask lv L) (Bt.less (Bt.lst (mask lv L) 32) c))) else .none) = layL f (lv + 1) (part lv L c) := by
  by_cases h : c ∈ Bt.lst (mask lv L) 32
  · rw [if_pos h, (less_at h).2]
  · rw [if_neg h, part_nil_of h, lay_nil]
/-- the way of a hash goes on in the part of its chunk -/
theorem lay_way {f lv : Nat} {L : List En} (h : Nat) (ha : alike L = false) :
    (layL (f + 1) lv L).endAt h lv = (layL f (lv + 1) (part lv L ((ch h lv : Nat) : Int))).endAt h (lv + 1) ∧ (layL (f + 1) lv L).deep h lv = (layL f (lv + 1) (part lv L ((ch h lv : Nat) : Int))).deep h (lv + 1) + 1 := by
  have hk := lay_kid f lv L ((ch h lv : Nat) : Int)
  rw [layL, if_neg (by rw [ha]; decide), Nd.endAt, Nd.deep, ← hk]
  by_cases hm : ((ch h lv : Nat) : Int) ∈ Bt.lst (mask lv L) 32
  · rw [if_pos hm, if_pos hm, if_pos hm]
    exact ⟨rfl, rfl⟩
  · rw [if_neg hm, if_neg hm, if_neg hm]
    exact ⟨rfl, rfl⟩
theorem lay_bran {f lv : Nat} {L : List En} (ha : alike L = false) : layL (f + 1) lv L = .bran (mask lv L) (Bt.lst (mask lv L) 32).length (fun i => layL f (lv + 1) (part lv L (nthc (mask lv L) i))) := by
  rw [layL, if_neg (by rw [ha]; decide)]
theorem has_part {lv : Nat} {L : List En} {e : En} (h : Suits L e) : hasE (part lv L ((ch e.1 lv : Nat) : Int)) e.2.1 = hasE L e.2.1 := by
  by_cases g : hasE L e.2.1 = true
  · obtain ⟨a, ha, hk⟩ := hasE_iff.1 g
    rw [g]
    exact hasE_iff.2 ⟨a, part_mem.2 ⟨ha, by rw [h a ha hk]⟩, hk⟩
  · rw [Bool.not_eq_true] at g
    rw [g]
    refine Bool.eq_false_iff.2 fun k => ?_
    obtain ⟨a, ha, hk⟩ := hasE_iff.1 k
    have := hasE_iff.2 ⟨a, (part_mem.1 ha).1, hk⟩
    rw [g] at this
    cases this
/-- under another hash no entry has the key -/
theorem has_other {L : List En} {e : En} (h : Suits L e) {g : Nat} (hs : ∀ a ∈ L, a.1 = g) (hne : ¬ g = e.1) : hasE L e.2.1 = false := Bool.eq_false_iff.2 fun k => by
  obtain ⟨a, ha, hk⟩ := hasE_iff.1 k
  exact hne ((hs a ha).symm.trans (h a ha hk))
/-- what all have at a level -/
theorem chunk_all {lv : Nat} {M : List En} {c : Nat} (hn : M ≠ []) (h : ∀ a ∈ M, ch a.1 lv = c) :
    mask lv M = Bt.ofL [(c : Int)] ∧ Bt.lst (mask lv M) 32 = [(c : Int)] ∧ part lv M (c : Int) = M := by
  have hm : ∀ z, z ∈ Bt.lst (mask lv M) 32 ↔ z = (c : Int) := fun z => by
    rw [mask_mem]
    constructor
    · rintro ⟨a, ha, rfl⟩
      rw [h a ha]
    · rintro rfl
      obtain ⟨a, ha⟩ := List.exists_mem_of_ne_nil _ hn
      exact ⟨a, ha, by rw [h a ha]⟩
  refine ⟨?_, ?_, ?_⟩
  · unfold mask
    refine ofL_mem fun z => ?_
    simp only [chs, List.mem_map, List.mem_singleton]
    constructor
    · rintro ⟨a, ha, rfl⟩
      rw [h a ha]
    · rintro rfl
      obtain ⟨a, ha⟩ := List.exists_mem_of_ne_nil _ hn
      exact ⟨a, ha, by rw [h a ha]⟩
  · exact sorted_ext (lst_sorted _ _) (List.pairwise_singleton _ _) fun z => by rw [hm z, List.mem_singleton]
  · exact List.filter_eq_self.2 fun a ha => by simp [h a ha]
/-- a level at which all have one chunk: a branch of one child -/
theorem lay_only {f lv : Nat} {M : List En} {c : Nat} (ha : alike M = false) (h : ∀ a ∈ M, ch a.1 lv = c) :
    ∃ kid : Nat → Nd, layL (f + 1) lv M = .bran (Bt.ofL [(c : Int)]) 1 kid ∧ kid 0 = layL f (lv + 1) M ∧ (Bt.lst (Bt.ofL [(c : Int)]) 32).length = 1 := by
  have hn : M ≠ [] := fun e => by rw [e] at ha; cases ha
  obtain ⟨h1, h2, h3⟩ := chunk_all hn h
  refine ⟨_, by rw [lay_bran ha, h2, h1]; rfl, ?_, by rw [← h1, h2]; rfl⟩
  have : nthc (Bt.ofL [(c : Int)]) 0 = (c : Int) := by rw [← h1, nthc, h2]; rfl
  show layL f (lv + 1) (part lv M (nthc (Bt.ofL [(c : Int)]) 0)) = _
  rw [this, h3]
/-- a level at which an entry and those of another hash part: a branch of two children -/
theorem lay_parted {f lv : Nat} {L : List En} {e : En} {g : Nat} (hn : L ≠ []) (hs : ∀ a ∈ L, a.1 = g) (hu : Suits L e) (hc : ¬ ch g lv = ch e.1 lv) :
    ∃ kid : Nat → Nd, layL (f + 1) lv (putE L e) = .bran (Bt.ofL [((ch g lv : Nat) : Int), ((ch e.1 lv : Nat) : Int)]) 2 kid ∧
      kid 0 = (if ch e.1 lv < ch g lv then .leaf e.1 e.2 else flatL L) ∧ kid 1 = (if ch e.1 lv < ch g lv then flatL L else .leaf e.1 e.2) ∧ (Bt.lst (Bt.ofL [((ch g lv : Nat) : Int), ((ch e.1 lv : Nat) : Int)]) 32).length = 2 := by
  have hne : ¬ g = e.1 := fun h => hc (by rw [h])
  have hnew := putE_new (has_other hu hs hne)
  have hal : alike L = true := (alike_iff L).2 fun x hx y hy => (hs x hx).trans (hs y hy).symm
  have ha : alike (putE L e) = false := Bool.eq_false_iff.2 fun k => by
    obtain ⟨a, ha⟩ := List.exists_mem_of_ne_nil _ hn
    exact hne ((hs a ha).symm.trans ((alike_putE hu).1 k a ha))
  have hmem : ∀ z, z ∈ Bt.lst (mask lv (putE L e)) 32 ↔ z = ((ch g lv : Nat) : Int) ∨ z = ((ch e.1 lv : Nat) : Int) := fun z => by
    rw [mask_mem, hnew]
    constructor
    · rintro ⟨a, ha, rfl⟩
      rcases List.mem_append.1 ha with ha | ha
      · exact .inl (by rw [hs a ha])
      · exact .inr (by rw [List.mem_singleton.1 ha])
    · rintro (rfl | rfl)
      · obtain ⟨a, ha⟩ := List.exists_mem_of_ne_nil _ hn
        exact ⟨a, List.mem_append_left _ ha, by rw [hs a ha]⟩
      · exact ⟨e, List.mem_append_right _ (List.mem_singleton.2 rfl), rfl⟩
  have hmask : mask lv (putE L e) = Bt.ofL [((ch g lv : Nat) : Int), ((ch e.1 lv : Nat) : Int)] := by
    unfold mask
    refine ofL_mem fun z => ?_
    simp only [chs, List.mem_map, List.mem_cons, List.not_mem_nil, or_false]
    rw [hnew]
    constructor
    · rintro ⟨a, ha, rfl⟩
      rcases List.mem_append.1 ha with ha | ha
      · exact .inl (by rw [hs a ha])
      · exact .inr (by rw [List.mem_singleton.1 ha])
    · rintro (rfl | rfl)
      · obtain ⟨a, ha⟩ := List.exists_mem_of_ne_nil _ hn
        exact ⟨a, List.mem_append_left _ ha, by rw [hs a ha]⟩
      · exact ⟨e, List.mem_append_right _ (List.mem_singleton.2 rfl), rfl⟩
  have p1 : part lv (putE L e) ((ch g lv : Nat) : Int) = L := by
    rw [part_putE hu, if_neg (by omega)]
    exact List.filter_eq_self.2 fun a ha => by simp [hs a ha]
  have p2 : part lv (putE L e) ((ch e.1 lv : Nat) : Int) = [e] := by
    rw [part_putE hu, if_pos rfl]
    have : part lv L ((ch e.1 lv : Nat) : Int) = [] := List.filter_eq_nil_iff.2 fun a ha => by
      rw [hs a ha]
      simp only [decide_eq_true_eq]
      omega
    rw [this]
    rfl
  by_cases hlt : ch e.1 lv < ch g lv
  · have hl : Bt.lst (mask lv (putE L e)) 32 = [((ch e.1 lv : Nat) : Int), ((ch g lv : Nat) : Int)] := sorted_ext (lst_sorted _ _) (by simp; omega) fun z => by
      rw [hmem z]
      simp only [List.mem_cons, List.not_mem_nil, or_false]
      exact Or.comm
    refine ⟨_, by rw [lay_bran ha, hl, hmask]; rfl, ?_, ?_, by rw [← hmask, hl]; rfl⟩
    · have : nthc (Bt.ofL [((ch g lv : Nat) : Int), ((ch e.1 lv : Nat) : Int)]) 0 = ((ch e.1 lv : Nat) : Int) := by rw [← hmask, nthc, hl]; rfl
      show layL f (lv + 1) (part lv (putE L e) (nthc _ 0)) = _
      rw [this, p2, lay_one, if_pos hlt]
    · have : nthc (Bt.ofL [((ch g lv : Nat) : Int), ((ch e.1 lv : Nat) : Int)]) 1 = ((ch g lv : Nat) : Int) := by rw [← hmask, nthc, hl]; rfl
      show layL f (lv + 1) (part lv (putE L e) (nthc _ 1)) = _
      rw [this, p1, lay_flat hal, if_pos hlt]
  · have hl : Bt.lst (mask lv (putE L e)) 32 = [((ch g lv : Nat) : Int), ((ch e.1 lv : Nat) : Int)] := sorted_ext (lst_sorted _ _) (by simp; omega) fun z => by
      rw [hmem z]
      simp only [List.mem_cons, List.not_mem_nil, or_false]
    refine ⟨_, by rw [lay_bran ha, hl, hmask]; rfl, ?_, ?_, by rw [← hmask, hl]; rfl⟩
    · have : nthc (Bt.ofL [((ch g lv : Nat) : Int), ((ch e.1 lv : Nat) : Int)]) 0 = ((ch g lv : Nat) : Int) := by rw [← hmask, nthc, hl]; rfl
      show layL f (lv + 1) (part lv (putE L e) (nthc _ 0)) = _
      rw [this, p1, lay_flat hal, if_neg hlt]
    · have : nthc (Bt.ofL [((ch g lv : Nat) : Int), ((ch e.1 lv : Nat) : Int)]) 1 = ((ch e.1 lv : Nat) : Int) := by rw [← hmask, nthc, hl]; rfl
      show layL f (lv + 1) (part lv (putE L e) (nthc _ 1)) = _
      rw [this, p2, lay_one, if_neg hlt]
/-- hashes that are unlike part at some level -/
theorem part_level {g h : Nat} (hg : g < 18446744073709551616) (hh : h < 18446744073709551616) (hne : ¬ g = h) : ∃ d, d ≤ 12 ∧ (∀ i, i < d → ch g i = ch h i) ∧ ¬ ch g d = ch h d := by
  by_cases hall : ∀ i, i < 13 → ch g i = ch h i
  · have := hash_eq 13 hall
    rw [Nat.mod_eq_of_lt (by omega), Nat.mod_eq_of_lt (by omega)] at this
    exact absurd this hne
  · have hex : ∃ i, i < 13 ∧ ¬ ch g i = ch h i := by
      by_cases k : ∃ i, i < 13 ∧ ¬ ch g i = ch h i
      · exact k
      · exact absurd (fun i hi => by
          by_cases e : ch g i = ch h i
          · exact e
          · exact absurd ⟨i, hi, e⟩ k) hall
    have key : ∀ n, (∃ i, i < n ∧ ¬ ch g i = ch h i) → ∃ d, d < n ∧ (∀ i, i < d → ch g i = ch h i) ∧ ¬ ch g d = ch h d := by
      intro n
      induction n with
      | zero => rintro ⟨i, hi, _⟩; omega
      | succ n ih =>
        rintro ⟨i, hi, he⟩
        by_cases k : ∃ i, i < n ∧ ¬ ch g i = ch h i
        · obtain ⟨d, h1, h2, h3⟩ := ih k
          exact ⟨d, by omega, h2, h3⟩
        · refine ⟨n, by omega, fun j hj => ?_, ?_⟩
          · by_cases e : ch g j = ch h j
            · exact e
            · exact absurd ⟨j, hj, e⟩ k
          · rcases Nat.eq_or_lt_of_le (Nat.lt_succ_iff.1 hi) with rfl | hi
            · exact he
            · exact absurd ⟨i, hi, he⟩ k
    obtain ⟨d, h1, h2, h3⟩ := key 13 hex
    exact ⟨d, by omega, h2, h3⟩
end Go.Proofs.YtmbdimonfdncpaaGreatDoor
