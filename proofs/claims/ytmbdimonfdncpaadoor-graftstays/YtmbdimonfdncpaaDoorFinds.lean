/-
  Contracts of find.isBranch and find.down: the way of a hash, from the top on, with a meter and without.
-/
import Derived.Test.YtmbdimonfdncpaaDoorKins
import Derived.Test.YtmbdimonfdncpaaDoorChunk
import Derived.Test.YtmbdimonfdncpaaDoorNods
import Derived.Test.YtmbdimonfdncpaaDoorWeight
import Derived.Deep.DeepCutAuto
import Derived.Test.YtmbdimonfdncpaaDoorLooks
import Derived.Lib.BitFns
namespace Go.Proofs.YtmbdimonfdncpaaDoor
open Go.RowKit
set_option maxHeartbeats 4000000
set_option maxRecDepth 100000
attribute [local irreducible] Bt.lst
theorem kept_only {F : Nat → Prop} {m : Option Addr} {w w' : World} (hF : ∀ a, m = some a → ¬ F a.block) (h : Only m w w') : Kept F w w' := fun b hb hl => h.block b hl (fun a e k => hF a e (k ▸ hb))
/-- how far a way down has come -/
structure Way18 (F : Nat → Prop) (m : Option Addr) (h : Nat) (x : Nd) (w : World) (vv c : Nat) (y : Nd) (v : Value) (wr : World) (l : Nat) : Prop where
  nde : Nde F wr y v
  ok : y.ok
  right : y.right l = true
  fin : y.endAt h l = x.endAt h 0
  deep : y.deep h l + l = x.deep h 0
  met : Met wr m (vv + l) c
  only : Only m w wr
/-- the child on the way, or none -/
theorem Way18.step {F : Nat → Prop} {m : Option Addr} {h : Nat} {x : Nd} {w : World} {vv c m' k : Nat} {kid : Nat → Nd} {v : Value} {wr : World} {l : Nat} (hy : Way18 F m h x w vv c (.bran m' k kid) v wr l) :
    ∀ W vk, Nde F W (if ((ch h l : Nat) : Int) ∈ (Nd.bran m' k kid).set then (Nd.bran m' k kid).kid (Bt.less (Nd.bran m' k kid).set ((ch h l : Nat) : Int)) else .none) vk → Met W m (vv + l + 1) c → Only m w W → ∃ y, Way18 F m h x w vv c y vk W (l + 1) := by
  intro W vk hn hm ho
  have h1 := hy.ok
  have h2 := hy.right
  have h3 := hy.fin
  have h4 := hy.deep
  rw [Nd.endAt] at h3
  rw [Nd.deep] at h4
  by_cases hc : ((ch h l : Nat) : Int) ∈ (Nd.bran m' k kid).set
  · have hc' : ((ch h l : Nat) : Int) ∈ Bt.lst m' 32 := hc
    rw [if_pos hc] at hn
    rw [if_pos hc'] at h3 h4
    have hlt := (less_at hc').1
    rw [h1.2.2.1] at hlt
    rw [Nd.right, Bool.and_eq_true, Bool.and_eq_true] at h2
    have hk := (allTo_iff _ _).1 h2.2.2 _ hlt
    rw [Bool.and_eq_true] at hk
    exact ⟨_, hn, (h1.2.2.2 _ hlt).2, hk.1, h3, by show (kid (Bt.less (Bt.lst m' 32) ((ch h l : Nat) : Int))).deep h (l + 1) + (l + 1) = _; omega, hm, ho⟩
  · have hc' : ¬ ((ch h l : Nat) : Int) ∈ Bt.lst m' 32 := hc
    rw [if_neg hc] at hn
    rw [if_neg hc'] at h3 h4
    exact ⟨.none, hn, trivial, rfl, h3, by show 0 + (l + 1) = _; omega, hm, ho⟩
end Go.Proofs.YtmbdimonfdncpaaDoor
/-
  Contracts of find.fromLeaf, find.Get, find.Depth: what is told of a key under a hash, and what is counted.
-/
namespace Go.Proofs.YtmbdimonfdncpaaDoor
open Go.RowKit
set_option maxHeartbeats 4000000
set_option maxRecDepth 100000
attribute [local irreducible] Bt.lst
theorem one_here (p : Pr) : has [p] p.1 = true ∧ val [p] p.1 = p.2 := by simp [has, val]
theorem one_other {p : Pr} {k : List UInt8} (h : p.1 ≠ k) : has [p] k = false ∧ val [p] k = [] := by simp [has, val, h]
/-- is a key in the node where a way ended, and its value, if that has the hash -/
def Nd.hasIn (y : Nd) (h : Nat) (k : List UInt8) : Bool := decide (y.kind ≠ 0 ∧ y.hash = h) && has y.prs k
def Nd.valIn (y : Nd) (h : Nat) (k : List UInt8) : List UInt8 := if y.kind ≠ 0 ∧ y.hash = h then val y.prs k else []
theorem key_in (x : Nd) (h : Nat) (k : List UInt8) : x.hasKey h k = (x.endAt h 0).hasIn h k ∧ x.valKey h k = (x.endAt h 0).valIn h k := ⟨rfl, rfl⟩
/-- what a look counts behind so many branches -/
def Seen (y : Nd) (h v c v' c' : Nat) : Prop :=
  (y.kind = 1 → v' = v + 1 ∧ c' = c + (if y.hash = h then 1 else 0)) ∧ (y.kind = 0 ∨ y.hash ≠ h ∧ y.kind = 2 → v' = v ∧ c' = c) ∧ (y.kind = 2 → y.hash = h → v < v' ∧ ∃ t : Tr, t.even ∧ t.list = y.prs ∧ v' ≤ v + t.high) ∧ c' + v ≤ c + v' ∧ c ≤ c'
end Go.Proofs.YtmbdimonfdncpaaDoor
/-
  Arithmetic of layer 9: how many bits a number has (bl), numbers of digits to the base 65536 (val), the bound (bnd). No program in this text.
-/
namespace Go.Proofs.YtmbdimonfdncpaaDoor.Dg
/-- how many bits a number has -/
def bl (n : Nat) : Nat := if n = 0 then 0 else n.log2 + 1
theorem bl_le (n k : Nat) : bl n ≤ k ↔ n < 2 ^ k := by
  unfold bl
  by_cases h : n = 0
  · subst h
    simp [Nat.two_pow_pos]
  · rw [if_neg h, ← Nat.log2_lt h]
    exact Nat.succ_le_iff
theorem bl_mono {a b : Nat} (h : a ≤ b) : bl a ≤ bl b := by
  rw [bl_le]
  exact Nat.lt_of_le_of_lt h ((bl_le b _).1 (Nat.le_refl _))
theorem bl_pos {n : Nat} (h : n ≠ 0) : 1 ≤ bl n := by
  unfold bl
  rw [if_neg h]
  omega
theorem bl_zero : bl 0 = 0 := rfl
/-- the high digits alone tell it -/
theorem bl_shift (h l s : Nat) (h0 : h ≠ 0) (hl : l < 2 ^ s) : bl (l + h * 2 ^ s) = s + bl h := by
  have hp : 0 < 2 ^ s := Nat.two_pow_pos s
  apply Nat.le_antisymm
  · rw [bl_le, Nat.pow_add, Nat.mul_comm (2 ^ s)]
    have h1 : h < 2 ^ bl h := (bl_le h _).1 (Nat.le_refl _)
    have h2 : (h + 1) * 2 ^ s ≤ 2 ^ bl h * 2 ^ s := Nat.mul_le_mul_right _ h1
    rw [Nat.add_mul] at h2
    omega
  · apply Nat.le_of_not_lt
    intro hlt
    have hb := bl_pos h0
    have h1 : bl (l + h * 2 ^ s) ≤ s + (bl h - 1) := by omega
    rw [bl_le, Nat.pow_add, Nat.mul_comm (2 ^ s)] at h1
    have h2 : h * 2 ^ s < 2 ^ (bl h - 1) * 2 ^ s := by omega
    have h3 : h < 2 ^ (bl h - 1) := Nat.lt_of_mul_lt_mul_right h2
    rw [← bl_le] at h3
    omega
theorem bl_half (n : Nat) (h : n ≠ 0) : bl n = 1 + bl (n / 2) := by
  by_cases h2 : n / 2 = 0
  · have e : n = 1 := by omega
    subst e
    decide
  · have e := bl_shift (n / 2) (n % 2) 1 h2 (by omega)
    rw [show n % 2 + n / 2 * 2 ^ 1 = n by omega] at e
    exact e
theorem aux_bl : ∀ f n : Nat, n < 2 ^ f → Lib.bitLenAux f n = bl n
  | 0, n, h => by
    have : n = 0 := by simpa using h
    subst this
    rfl
  | f + 1, n, h => by
    rw [Lib.bitLenAux]
    by_cases h0 : n = 0
    · rw [if_pos h0, h0]; rfl
    · rw [if_neg h0, bl_half n h0, aux_bl f (n / 2) (by rw [Nat.pow_succ] at h; omega)]
theorem bitLen_bl (n : Nat) (h : n < 18446744073709551616) : Lib.bitLen n = bl n := aux_bl 64 n h
/-- a number of digits, the lowest first -/
def val : List Nat → Nat
  | [] => 0
  | d :: t => d + 65536 * val t
theorem val_snoc : ∀ (l : List Nat) (d : Nat), val (l ++ [d]) = val l + d * 65536 ^ l.length
  | [], d => by simp [val]
  | a :: l, d => by
    rw [List.cons_append, val, val, val_snoc l d, List.length_cons, Nat.pow_succ, Nat.mul_add, Nat.mul_left_comm, Nat.mul_comm 65536 (65536 ^ _)]
    omega
theorem val_lt : ∀ l : List Nat, (∀ d ∈ l, d < 65536) → val l < 65536 ^ l.length
  | [], _ => by simp [val]
  | a :: l, h => by
    have h1 := h a (by simp)
    have h2 := val_lt l (fun d hd => h d (by simp [hd]))
    rw [val, List.length_cons, Nat.pow_succ]
    omega
theorem take_next {l : List Nat} {j : Nat} (h : j < l.length) : val (l.take (j + 1)) = val (l.take j) + l[j] * 65536 ^ j := by
  rw [List.take_succ_eq_append_getElem h, val_snoc, List.length_take, Nat.min_eq_left (by omega)]
theorem times_in (D : List Nat) (c P v n x : Nat) (h : val D + c * P = v * n) : val D + (c + x * n) * P = (v + x * P) * n := by
  rw [Nat.add_mul, Nat.add_mul, ← h, Nat.mul_right_comm x n P]
  omega
theorem times_out (D : List Nat) (c j : Nat) (h : D.length = j) : val (D ++ [c % 65536]) + c / 65536 * 65536 ^ (j + 1) = val D + c * 65536 ^ j := by
  rw [val_snoc, h, Nat.pow_succ]
  have e : c = c % 65536 + c / 65536 * 65536 := by omega
  have e2 : c * 65536 ^ j = c % 65536 * 65536 ^ j + c / 65536 * (65536 ^ j * 65536) := by
    rw [Nat.mul_comm (65536 ^ j) 65536, ← Nat.mul_assoc, ← Nat.add_mul, ← e]
  omega
theorem pow_digits (i : Nat) : 65536 ^ i = 2 ^ (16 * i) := by
  rw [Nat.pow_mul]
theorem bl_top {l : List Nat} {i : Nat} (h : i < l.length) (hd : ∀ d ∈ l, d < 65536) (h0 : l[i] ≠ 0) : bl (val (l.take (i + 1))) = 16 * i + bl l[i] := by
  rw [take_next h, pow_digits]
  refine bl_shift _ _ _ h0 ?_
  have hv := val_lt (l.take i) (fun d hm => hd d (List.mem_of_mem_take hm))
  rw [List.length_take, Nat.min_eq_left (by omega), pow_digits] at hv
  exact hv
theorem val_none {l : List Nat} {i : Nat} (h : i < l.length) (h0 : l[i] = 0) : val (l.take (i + 1)) = val (l.take i) := by
  rw [take_next h, h0]
  omega
/-- a number of keys, held -/
def held (z : Int) : Nat := (max 0 (min z 1048576)).toNat
/-- the bound -/
def bnd (z : Int) : Nat := 16 + bl ((held z + 1) ^ 6)
theorem held_le (z : Int) : held z ≤ 1048576 := by unfold held; omega
theorem held_mono {a b : Int} (h : a ≤ b) : held a ≤ held b := by unfold held; omega
theorem held_held (z : Int) : held (held z : Int) = held z := by unfold held; omega
theorem bnd_held (z : Int) : bnd (held z : Int) = bnd z := by unfold bnd; rw [held_held]
theorem bnd_mono {a b : Int} (h : a ≤ b) : bnd a ≤ bnd b := by
  unfold bnd
  have h1 : (held a + 1) ^ 6 ≤ (held b + 1) ^ 6 := Nat.pow_le_pow_left (Nat.succ_le_succ (held_mono h)) 6
  have := bl_mono h1
  omega
theorem six_lt {x : Nat} (h : x ≤ 1048577) : x ^ 6 < 2 ^ 126 := by
  have h1 : x ^ 6 ≤ (2 ^ 21) ^ 6 := Nat.pow_le_pow_left (Nat.le_trans h (by decide)) 6
  rw [← Nat.pow_mul] at h1
  have h2 : x ^ 6 ≤ 1048577 ^ 6 := Nat.pow_le_pow_left h 6
  exact Nat.lt_of_le_of_lt h2 (by decide)
theorem six_pos {x : Nat} (h : 1 ≤ x) : x ^ 6 ≠ 0 := by
  have := Nat.pow_le_pow_left h 6
  rw [Nat.one_pow] at this
  omega
theorem bl_six {x : Nat} (h1 : 1 ≤ x) (h : x ≤ 1048577) : 1 ≤ bl (x ^ 6) ∧ bl (x ^ 6) ≤ 126 :=
  ⟨bl_pos (six_pos h1), (bl_le _ _).2 (six_lt h)⟩
theorem bnd_lt (z : Int) : 17 ≤ bnd z ∧ bnd z ≤ 142 := by
  have h := bl_six (x := held z + 1) (by omega) (by have := held_le z; omega)
  unfold bnd
  omega
theorem cube_six (x : Nat) : x * x * x * (x * x * x) = x ^ 6 := by
  rw [show x ^ 6 = x ^ 3 * x ^ 3 from (Nat.pow_add x 3 3), show x ^ 3 = x * x * x by rw [Nat.pow_succ, Nat.pow_succ, Nat.pow_one]]
theorem cube_lt {x : Nat} (h : x ≤ 1048577) : x * x < 18446744073709551616 ∧ x * x * x < 18446744073709551616 := by
  have h1 : x * x ≤ 1048577 * 1048577 := Nat.mul_le_mul h h
  have h2 : x * x * x ≤ 1048577 * 1048577 * 1048577 := Nat.mul_le_mul h1 h
  exact ⟨by omega, by omega⟩
/-- the bits of a product out of its halves -/
theorem bl_parts (p : Nat) (h : p / 18446744073709551616 ≠ 0) : bl p = 64 + bl (p / 18446744073709551616) := by
  have e := bl_shift (p / 18446744073709551616) (p % 18446744073709551616) 64 h (Nat.mod_lt _ (by decide))
  rw [show p % 18446744073709551616 + p / 18446744073709551616 * 2 ^ 64 = p by
    have := Nat.mod_add_div p 18446744073709551616
    rw [Nat.mul_comm] at this
    exact this] at e
  exact e
theorem bl_low (p : Nat) (h : p / 18446744073709551616 = 0) : bl p = bl (p % 18446744073709551616) := by
  have e : p % 18446744073709551616 = p := by omega
  rw [e]
theorem bnd_0 : bnd 0 = 17 := by decide
theorem bnd_1 : bnd 1 = 23 := by decide
theorem bnd_3 : bnd 3 = 29 := by decide
end Go.Proofs.YtmbdimonfdncpaaDoor.Dg
/-
  What is found in a layout, plainly: each entry under its own hash and under no other; and how many visits a look has at most. No program.
-/
namespace Go.Proofs.YtmbdimonfdncpaaDoor
set_option maxHeartbeats 1000000
attribute [local irreducible] Bt.lst
theorem apart_one {L : List En} (h : apart L) {a b : En} (ha : a ∈ L) (hb : b ∈ L) (e : a.2.1 = b.2.1) : a = b := by
  obtain ⟨i, hi, rfl⟩ := List.getElem_of_mem ha
  obtain ⟨j, hj, rfl⟩ := List.getElem_of_mem hb
  have hl : (ekeys L).length = L.length := List.length_map _
  have e2 : i = j := nodup_at h (by rw [hl]; exact hi) (by rw [hl]; exact hj) (by simpa [ekeys] using e)
  subst e2
  rfl
theorem val_of {m : List Pr} {p : Pr} (hp : p ∈ m) (hu : ∀ q ∈ m, q.1 = p.1 → q = p) : val m p.1 = p.2 := by
  unfold val
  cases hf : m.find? fun x => decide (x.1 = p.1) with
  | none =>
    have := List.find?_eq_none.1 hf p hp
    simp at this
  | some q =>
    have h1 := List.mem_of_find?_eq_some hf
    have h2 := List.find?_some hf
    rw [hu q h1 (by simpa using h2)]
    rfl
theorem end_top (L : List En) (h : Nat) (hG : Good 0 L) :
    let y := (layL 13 0 L).endAt h 0
    (∀ p ∈ y.prs, ∃ e ∈ L, e.1 = y.hash ∧ e.2 = p) ∧ (∀ e ∈ L, e.1 = h → y.kind ≠ 0 ∧ y.hash = h ∧ e.2 ∈ y.prs) ∧ y.cnt ≤ L.length :=
  end_lay 13 0 L h rfl hG fun _ _ i hi => absurd hi (Nat.not_lt_zero i)
/-- each entry under its own hash -/
theorem found {L : List En} (hG : Good 0 L) {e : En} (he : e ∈ L) : (layL 13 0 L).hasKey e.1 e.2.1 = true ∧ (layL 13 0 L).valKey e.1 e.2.1 = e.2.2 := by
  obtain ⟨h1, h2, _⟩ := end_top L e.1 hG
  obtain ⟨k1, k2, k3⟩ := h2 e he rfl
  obtain ⟨g1, g2⟩ := key_in (layL 13 0 L) e.1 e.2.1
  rw [g1, g2, Nd.hasIn, Nd.valIn, decide_eq_true ⟨k1, k2⟩, if_pos ⟨k1, k2⟩]
  refine ⟨?_, val_of k3 fun q hq hk => ?_⟩
  · rw [Bool.true_and]
    exact List.any_eq_true.2 ⟨e.2, k3, by simp⟩
  · obtain ⟨e', he', _, rfl⟩ := h1 q hq
    rw [apart_one hG.apart he' he hk]
/-- and under no other one -/
theorem found_other {L : List En} (hG : Good 0 L) {e : En} (he : e ∈ L) (h : Nat) : (layL 13 0 L).hasKey h e.2.1 = decide (h = e.1) := by
  by_cases hh : h = e.1
  · subst hh
    rw [(found hG he).1, decide_eq_true rfl]
  · rw [decide_eq_false hh]
    obtain ⟨h1, _, _⟩ := end_top L h hG
    rw [(key_in (layL 13 0 L) h e.2.1).1, Nd.hasIn]
    by_cases hk : ((layL 13 0 L).endAt h 0).kind ≠ 0 ∧ ((layL 13 0 L).endAt h 0).hash = h
    · rw [decide_eq_true hk, Bool.true_and]
      refine Bool.eq_false_iff.2 fun ht => ?_
      obtain ⟨q, hq, hqk⟩ := List.any_eq_true.1 ht
      obtain ⟨e', he', k1, rfl⟩ := h1 q hq
      have := apart_one hG.apart he' he (by simpa using hqk)
      subst this
      exact hh (hk.2.symm.trans k1.symm)
    · rw [decide_eq_false hk, Bool.false_and]
theorem bl_least {x k : Nat} (h : 2 ^ k ≤ x) : k + 1 ≤ Dg.bl x := by
  rcases Nat.lt_or_ge k (Dg.bl x) with g | g
  · exact g
  · have := (Dg.bl_le x k).1 g
    omega
/-- a look is within the bound -/
theorem seen_bound {L : List En} (hG : Good 0 L) {h c v' c' : Nat} (hs : Seen ((layL 13 0 L).endAt h 0) h ((layL 13 0 L).deep h 0) c v' c') : v' ≤ 16 + Dg.bl ((L.length + 1) ^ 6) := by
  have hl := lay_laid 13 0 L rfl hG
  have hd := deep_le (layL 13 0 L) h 0 hl.ok hl.right (by decide)
  obtain ⟨_, _, hc⟩ := end_top L h hG
  obtain ⟨hk3, hok⟩ := end_kind (layL 13 0 L) h 0 hl.ok
  have h1 : 1 ≤ Dg.bl ((L.length + 1) ^ 6) := bl_least (k := 0) (Nat.pos_of_ne_zero fun e => by simp at e)
  generalize (layL 13 0 L).endAt h 0 = Y at hs hc hk3 hok
  obtain ⟨s1, s2, s3, _, _⟩ := hs
  cases Y with
  | bran _ _ _ => exact absurd rfl hk3
  | none => have := (s2 (.inl rfl)).1; omega
  | leaf h' p => have := (s1 rfl).1; omega
  | buck h' K =>
    by_cases hh : h' = h
    · obtain ⟨_, t, te, tl, tv⟩ := s3 rfl hh
      have hts : t.size = K.length := by rw [← Tr.length, tl]; rfl
      have hk2 : 2 ≤ K.length := hok.2.1
      have hk1 : K.length ≤ 100 := hok.2.2.1
      have hKL : K.length ≤ L.length := hc
      obtain ⟨_, hcu⟩ := Tr.high_cube te (by omega)
      have h6 : 2 ^ (2 * (t.high - 2)) ≤ (L.length + 1) ^ 6 := by
        have a1 : (t.size + 1) * (t.size + 1) * (t.size + 1) ≤ (L.length + 1) ^ 3 := by
          rw [show (t.size + 1) * (t.size + 1) * (t.size + 1) = (t.size + 1) ^ 3 by rw [Nat.pow_succ, Nat.pow_succ, Nat.pow_one]]
          exact Nat.pow_le_pow_left (by omega) 3
        have a2 := Nat.le_trans hcu a1
        rw [Nat.mul_comm, Nat.pow_mul]
        have a3 := Nat.pow_le_pow_left a2 2
        have a4 : ((L.length + 1) ^ 3) ^ 2 = (L.length + 1) ^ 6 := (Nat.pow_mul ..).symm
        rw [a4] at a3
        exact a3
      have := bl_least h6
      omega
    · have := (s2 (.inr ⟨hh, rfl⟩)).1; omega
end Go.Proofs.YtmbdimonfdncpaaDoor
/-
  What becomes of a layout with an entry more, case by case, and what is counted on the way: plainly. No program.
-/
namespace Go.Proofs.YtmbdimonfdncpaaDoor
set_option maxHeartbeats 1000000
attribute [local irreducible] Bt.lst
theorem lay_nil (f lv : Nat) : layL f lv [] = .none := lay_flat rfl f lv
theorem part_nil_of {lv : Nat} {L : List En} {c : Int} (h : ¬ c ∈ Bt.lst (mask lv L) 32) : part lv L c = [] := by
  by_cases e : part lv L c = []
  · exact e
  · obtain ⟨a, ha⟩ := List.exists_mem_of_ne_nil _ e
    exact absurd ((mask_mem lv L c).2 ⟨a, (part_mem.1 ha).1, (part_mem.1 ha).2⟩) h
/-- the child for a chunk, or none -/
theorem lay_kid (f lv : Nat) (L : List En) (c : Int) : (if c ∈ Bt.lst (mask lv L) 32 then layL f (lv + 1) (part lv L (nthc (mask lv L) (Bt.less (Bt.lst (mask lv L) 32) c))) else .none) = layL f (lv + 1) (part lv L c) := by
  by_cases h : c ∈ Bt.lst (mask lv L) 32
  · rw [if_pos h, (less_at h).2]
  · rw [if_neg h, part_nil_of h, lay_nil]
/-- the way of a hash goes on in the part of its chunk -/
theorem lay_way {f lv : Nat} {L : List En} (h : Nat) (ha : alike L = false) :
    (layL (f + 1) lv L).endAt h lv = (layL f (lv + 1) (part lv L ((ch h lv : Nat) : Int))).endAt h (lv + 1) ∧ (layL (f + 1) lv L).deep h lv = (layL f (lv + 1) (part lv L ((ch h lv : Nat) : Int))).deep h (lv + 1) + 1 := by
  have hk := lay_kid f lv L ((ch h lv : Nat) : Int)
  rw [layL, if_neg (by rw [ha]; decide), Nd.endAt, Nd.deep, ← hk]
  by_cases hm : ((ch h lv : Nat) : Int) ∈ Bt.lst (mask lv L) 32
  · rw [if_pos hm, if_pos hm, if_pos hm]
    exact ⟨rfl, rfl⟩
  · rw [if_neg hm, if_neg hm, if_neg hm]
    exact ⟨rfl, rfl⟩
theorem lay_bran {f lv : Nat} {L : List En} (ha : alike L = false) : layL (f + 1) lv L = .bran (mask lv L) (Bt.lst (mask lv L) 32).length (fun i => layL f (lv + 1) (part lv L (nthc (mask lv L) i))) := by
  rw [layL, if_neg (by rw [ha]; decide)]
theorem has_part {lv : Nat} {L : List En} {e : En} (h : Suits L e) : hasE (part lv L ((ch e.1 lv : Nat) : Int)) e.2.1 = hasE L e.2.1 := by
  by_cases g : hasE L e.2.1 = true
  · obtain ⟨a, ha, hk⟩ := hasE_iff.1 g
    rw [g]
    exact hasE_iff.2 ⟨a, part_mem.2 ⟨ha, by rw [h a ha hk]⟩, hk⟩
  · rw [Bool.not_eq_true] at g
    rw [g]
    refine Bool.eq_false_iff.2 fun k => ?_
    obtain ⟨a, ha, hk⟩ := hasE_iff.1 k
    have := hasE_iff.2 ⟨a, (part_mem.1 ha).1, hk⟩
    rw [g] at this
    cases this
/-- under another hash no entry has the key -/
theorem has_other {L : List En} {e : En} (h : Suits L e) {g : Nat} (hs : ∀ a ∈ L, a.1 = g) (hne : ¬ g = e.1) : hasE L e.2.1 = false := Bool.eq_false_iff.2 fun k => by
  obtain ⟨a, ha, hk⟩ := hasE_iff.1 k
  exact hne ((hs a ha).symm.trans (h a ha hk))
/-- what all have at a level -/
theorem chunk_all {lv : Nat} {M : List En} {c : Nat} (hn : M ≠ []) (h : ∀ a ∈ M, ch a.1 lv = c) :
    mask lv M = Bt.ofL [(c : Int)] ∧ Bt.lst (mask lv M) 32 = [(c : Int)] ∧ part lv M (c : Int) = M := by
  have hm : ∀ z, z ∈ Bt.lst (mask lv M) 32 ↔ z = (c : Int) := fun z => by
    rw [mask_mem]
    constructor
    · rintro ⟨a, ha, rfl⟩
      rw [h a ha]
    · rintro rfl
      obtain ⟨a, ha⟩ := List.exists_mem_of_ne_nil _ hn
      exact ⟨a, ha, by rw [h a ha]⟩
  refine ⟨?_, ?_, ?_⟩
  · unfold mask
    refine ofL_mem fun z => ?_
    simp only [chs, List.mem_map, List.mem_singleton]
    constructor
    · rintro ⟨a, ha, rfl⟩
      rw [h a ha]
    · rintro rfl
      obtain ⟨a, ha⟩ := List.exists_mem_of_ne_nil _ hn
      exact ⟨a, ha, by rw [h a ha]⟩
  · exact sorted_ext (lst_sorted _ _) (List.pairwise_singleton _ _) fun z => by rw [hm z, List.mem_singleton]
  · exact List.filter_eq_self.2 fun a ha => by simp [h a ha]
/-- a level at which all have one chunk: a branch of one child -/
theorem lay_only {f lv : Nat} {M : List En} {c : Nat} (ha : alike M = false) (h : ∀ a ∈ M, ch a.1 lv = c) :
    ∃ kid : Nat → Nd, layL (f + 1) lv M = .bran (Bt.ofL [(c : Int)]) 1 kid ∧ kid 0 = layL f (lv + 1) M ∧ (Bt.lst (Bt.ofL [(c : Int)]) 32).length = 1 := by
  have hn : M ≠ [] := fun e => by rw [e] at ha; cases ha
  obtain ⟨h1, h2, h3⟩ := chunk_all hn h
  refine ⟨_, by rw [lay_bran ha, h2, h1]; rfl, ?_, by rw [← h1, h2]; rfl⟩
  have : nthc (Bt.ofL [(c : Int)]) 0 = (c : Int) := by rw [← h1, nthc, h2]; rfl
  show layL f (lv + 1) (part lv M (nthc (Bt.ofL [(c : Int)]) 0)) = _
  rw [this, h3]
/-- a level at which an entry and those of another hash part: a branch of two children -/
theorem lay_parted {f lv : Nat} {L : List En} {e : En} {g : Nat} (hn : L ≠ []) (hs : ∀ a ∈ L, a.1 = g) (hu : Suits L e) (hc : ¬ ch g lv = ch e.1 lv) :
    ∃ kid : Nat → Nd, layL (f + 1) lv (putE L e) = .bran (Bt.ofL [((ch g lv : Nat) : Int), ((ch e.1 lv : Nat) : Int)]) 2 kid ∧
      kid 0 = (if ch e.1 lv < ch g lv then .leaf e.1 e.2 else flatL L) ∧ kid 1 = (if ch e.1 lv < ch g lv then flatL L else .leaf e.1 e.2) ∧ (Bt.lst (Bt.ofL [((ch g lv : Nat) : Int), ((ch e.1 lv : Nat) : Int)]) 32).length = 2 := by
  have hne : ¬ g = e.1 := fun h => hc (by rw [h])
  have hnew := putE_new (has_other hu hs hne)
  have hal : alike L = true := (alike_iff L).2 fun x hx y hy => (hs x hx).trans (hs y hy).symm
  have ha : alike (putE L e) = false := Bool.eq_false_iff.2 fun k => by
    obtain ⟨a, ha⟩ := List.exists_mem_of_ne_nil _ hn
    exact hne ((hs a ha).symm.trans ((alike_putE hu).1 k a ha))
  have hmem : ∀ z, z ∈ Bt.lst (mask lv (putE L e)) 32 ↔ z = ((ch g lv : Nat) : Int) ∨ z = ((ch e.1 lv : Nat) : Int) := fun z => by
    rw [mask_mem, hnew]
    constructor
    · rintro ⟨a, ha, rfl⟩
      rcases List.mem_append.1 ha with ha | ha
      · exact .inl (by rw [hs a ha])
      · exact .inr (by rw [List.mem_singleton.1 ha])
    · rintro (rfl | rfl)
      · obtain ⟨a, ha⟩ := List.exists_mem_of_ne_nil _ hn
        exact ⟨a, List.mem_append_left _ ha, by rw [hs a ha]⟩
      · exact ⟨e, List.mem_append_right _ (List.mem_singleton.2 rfl), rfl⟩
  have hmask : mask lv (putE L e) = Bt.ofL [((ch g lv : Nat) : Int), ((ch e.1 lv : Nat) : Int)] := by
    unfold mask
    refine ofL_mem fun z => ?_
    simp only [chs, List.mem_map, List.mem_cons, List.not_mem_nil, or_false]
    rw [hnew]
    constructor
    · rintro ⟨a, ha, rfl⟩
      rcases List.mem_append.1 ha with ha | ha
      · exact .inl (by rw [hs a ha])
      · exact .inr (by rw [List.mem_singleton.1 ha])
    · rintro (rfl | rfl)
      · obtain ⟨a, ha⟩ := List.exists_mem_of_ne_nil _ hn
        exact ⟨a, List.mem_append_left _ ha, by rw [hs a ha]⟩
      · exact ⟨e, List.mem_append_right _ (List.mem_singleton.2 rfl), rfl⟩
  have p1 : part lv (putE L e) ((ch g lv : Nat) : Int) = L := by
    rw [part_putE hu, if_neg (by omega)]
    exact List.filter_eq_self.2 fun a ha => by simp [hs a ha]
  have p2 : part lv (putE L e) ((ch e.1 lv : Nat) : Int) = [e] := by
    rw [part_putE hu, if_pos rfl]
    have : part lv L ((ch e.1 lv : Nat) : Int) = [] := List.filter_eq_nil_iff.2 fun a ha => by
      rw [hs a ha]
      simp only [decide_eq_true_eq]
      omega
    rw [this]
    rfl
  by_cases hlt : ch e.1 lv < ch g lv
  · have hl : Bt.lst (mask lv (putE L e)) 32 = [((ch e.1 lv : Nat) : Int), ((ch g lv : Nat) : Int)] := sorted_ext (lst_sorted _ _) (by simp; omega) fun z => by
      rw [hmem z]
      simp only [List.mem_cons, List.not_mem_nil, or_false]
      exact Or.comm
    refine ⟨_, by rw [lay_bran ha, hl, hmask]; rfl, ?_, ?_, by rw [← hmask, hl]; rfl⟩
    · have : nthc (Bt.ofL [((ch g lv : Nat) : Int), ((ch e.1 lv : Nat) : Int)]) 0 = ((ch e.1 lv : Nat) : Int) := by rw [← hmask, nthc, hl]; rfl
      show layL f (lv + 1) (part lv (putE L e) (nthc _ 0)) = _
      rw [this, p2, lay_one, if_pos hlt]
    · have : nthc (Bt.ofL [((ch g lv : Nat) : Int), ((ch e.1 lv : Nat) : Int)]) 1 = ((ch g lv : Nat) : Int) := by rw [← hmask, nthc, hl]; rfl
      show layL f (lv + 1) (part lv (putE L e) (nthc _ 1)) = _
      rw [this, p1, lay_flat hal, if_pos hlt]
  · have hl : Bt.lst (mask lv (putE L e)) 32 = [((ch g lv : Nat) : Int), ((ch e.1 lv : Nat) : Int)] := sorted_ext (lst_sorted _ _) (by simp; omega) fun z => by
      rw [hmem z]
      simp only [List.mem_cons, List.not_mem_nil, or_false]
    refine ⟨_, by rw [lay_bran ha, hl, hmask]; rfl, ?_, ?_, by rw [← hmask, hl]; rfl⟩
    · have : nthc (Bt.ofL [((ch g lv : Nat) : Int), ((ch e.1 lv : Nat) : Int)]) 0 = ((ch g lv : Nat) : Int) := by rw [← hmask, nthc, hl]; rfl
      show layL f (lv + 1) (part lv (putE L e) (nthc _ 0)) = _
      rw [this, p1, lay_flat hal, if_neg hlt]
    · have : nthc (Bt.ofL [((ch g lv : Nat) : Int), ((ch e.1 lv : Nat) : Int)]) 1 = ((ch e.1 lv : Nat) : Int) := by rw [← hmask, nthc, hl]; rfl
      show layL f (lv + 1) (part lv (putE L e) (nthc _ 1)) = _
      rw [this, p2, lay_one, if_neg hlt]
/-- hashes that are unlike part at some level -/
theorem part_level {g h : Nat} (hg : g < 18446744073709551616) (hh : h < 18446744073709551616) (hne : ¬ g = h) : ∃ d, d ≤ 12 ∧ (∀ i, i < d → ch g i = ch h i) ∧ ¬ ch g d = ch h d := by
  by_cases hall : ∀ i, i < 13 → ch g i = ch h i
  · have := hash_eq 13 hall
    rw [Nat.mod_eq_of_lt (by omega), Nat.mod_eq_of_lt (by omega)] at this
    exact absurd this hne
  · have hex : ∃ i, i < 13 ∧ ¬ ch g i = ch h i := by
      by_cases k : ∃ i, i < 13 ∧ ¬ ch g i = ch h i
      · exact k
      · exact absurd (fun i hi => by
          by_cases e : ch g i = ch h i
          · exact e
          · exact absurd ⟨i, hi, e⟩ k) hall
    have key : ∀ n, (∃ i, i < n ∧ ¬ ch g i = ch h i) → ∃ d, d < n ∧ (∀ i, i < d → ch g i = ch h i) ∧ ¬ ch g d = ch h d := by
      intro n
      induction n with
      | zero => rintro ⟨i, hi, _⟩; omega
      | succ n ih =>
        rintro ⟨i, hi, he⟩
        by_cases k : ∃ i, i < n ∧ ¬ ch g i = ch h i
        · obtain ⟨d, h1, h2, h3⟩ := ih k
          exact ⟨d, by omega, h2, h3⟩
        · refine ⟨n, by omega, fun j hj => ?_, ?_⟩
          · by_cases e : ch g j = ch h j
            · exact e
            · exact absurd ⟨j, hj, e⟩ k
          · rcases Nat.eq_or_lt_of_le (Nat.lt_succ_iff.1 hi) with rfl | hi
            · exact he
            · exact absurd ⟨i, hi, he⟩ k
    obtain ⟨d, h1, h2, h3⟩ := key 13 hex
    exact ⟨d, by omega, h2, h3⟩
end Go.Proofs.YtmbdimonfdncpaaDoor
