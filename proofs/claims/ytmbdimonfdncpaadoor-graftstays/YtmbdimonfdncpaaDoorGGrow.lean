/-
  A region that draws its order, whose head only makes memory (loads, calls, allocations in whatever order), and whose tail has one order: an invariant for the head, the tail walked once.
-/
import Derived.Test.YtmbdimonfdncpaaDoorGOpen
import Derived.StillTail
namespace Go.Proofs.YtmbdimonfdncpaaDoor.Gr
open Go.RowKit
section
variable {P : Program} {ops : Array Oper} {n : Nat} {a0 : Act} {w0 : World} {G : Nat → Value → World → Prop} {D : Nat → Value → Nat → Value → Prop}
def dstOf (ops : Array Oper) (i : Nat) : Option Tmp := (ops[i]?).bind (·.dst)
/-- what the head's operations have yielded so far -/
structure Agree (ops : Array Oper) (n : Nat) (a0 : Act) (w0 : World) (G : Nat → Value → World → Prop) (D : Nat → Value → Nat → Value → Prop) (listed : Array Bool) (a : Act) (w : World) : Prop where
  defers : a.defers = a0.defers
  size : a.tmps.size = a0.tmps.size
  bel : Below w0.heap.size w0 w
  old : ∀ t : Nat, (∀ i, i < n → listed.getD i false = true → dstOf ops i ≠ some t) → a.tmps[t]? = a0.tmps[t]?
  new : ∀ i, i < n → listed.getD i false = true → ∃ t v, dstOf ops i = some t ∧ a.tmps[t]? = some v ∧ G i v w
  apart : ∀ (i j : Nat) (t t' : Tmp) (v v' : Value), i < n → j < n → i ≠ j → listed.getD i false = true → listed.getD j false = true → dstOf ops i = some t → dstOf ops j = some t' → a.tmps[t]? = some v → a.tmps[t']? = some v' → D i v j v'
theorem Agree.step (hst : ∀ i v w w', G i v w → Below w.heap.size w w' → G i v w') (hd : ∀ i j, i < n → j < n → i ≠ j → dstOf ops i ≠ dstOf ops j) {listed : Array Bool} {a : Act} {w w' : World} (h : Agree ops n a0 w0 G D listed a w) {i : Nat} (hi : i < n) (hl : i < listed.size)
    {t : Tmp} (ht : dstOf ops i = some t) (hts : t < a0.tmps.size) {v : Value} (hb : Below w.heap.size w w') (hg : G i v w') (hD : ∀ j v', j < n → j ≠ i → G j v' w → D i v j v' ∧ D j v' i v) :
    Agree ops n a0 w0 G D (listed.setIfInBounds i true) (a.put (dstOf ops i) v) w' := by
  rw [ht]
  have hself : (a.tmps.setIfInBounds t v)[t]? = some v := by rw [Array.getElem?_setIfInBounds_self_of_lt (by rw [h.size]; exact hts)]
  have hother : ∀ t', t ≠ t' → (a.tmps.setIfInBounds t v)[t']? = a.tmps[t']? := fun t' hne => Array.getElem?_setIfInBounds_ne hne
  have hne : ∀ j, j < n → j ≠ i → ∀ t', dstOf ops j = some t' → t ≠ t' := fun j hj hji t' ht' e => hd i j hi hj (Ne.symm hji) (by rw [ht, ht', e])
  have hlj : ∀ j, j ≠ i → (listed.setIfInBounds i true).getD j false = true → listed.getD j false = true := fun j hji hj => by rw [getD_set_ne false (Ne.symm hji)] at hj; exact hj
  refine ⟨h.defers, ?_, below_then h.bel hb, ?_, ?_, ?_⟩
  · show (a.tmps.setIfInBounds t v).size = _
    rw [Array.size_setIfInBounds]; exact h.size
  · intro t' ht'
    show (a.tmps.setIfInBounds t v)[t']? = _
    have h1 : t ≠ t' := fun e => ht' i hi (by simp [Array.getD, hl]) (by rw [ht, e])
    rw [hother t' h1]
    exact h.old t' fun j hj hlj => ht' j hj (getD_set_true hlj)
  · intro j hj hjl
    by_cases hji : j = i
    · subst hji
      exact ⟨t, v, ht, hself, hg⟩
    · obtain ⟨t', v', e1, e2, e3⟩ := h.new j hj (hlj j hji hjl)
      exact ⟨t', v', e1, (hother t' (hne j hj hji t' e1)).trans e2, hst _ _ _ _ e3 hb⟩
  · intro x y t1 t2 v1 v2 hx hy hxy hxl hyl ht1 ht2 hv1 hv2
    have hv1' : (a.tmps.setIfInBounds t v)[t1]? = some v1 := hv1
    have hv2' : (a.tmps.setIfInBounds t v)[t2]? = some v2 := hv2
    by_cases hxi : x = i
    · subst hxi
      obtain rfl : t = t1 := Option.some.inj (ht.symm.trans ht1)
      obtain rfl : v = v1 := Option.some.inj (hself.symm.trans hv1')
      obtain ⟨t3, v3, e1, e2, e3⟩ := h.new y hy (hlj y (Ne.symm hxy) hyl)
      obtain rfl : t3 = t2 := Option.some.inj (e1.symm.trans ht2)
      rw [hother t3 (hne y hy (Ne.symm hxy) t3 e1)] at hv2'
      obtain rfl : v3 = v2 := Option.some.inj (e2.symm.trans hv2')
      exact (hD y v3 hy (Ne.symm hxy) e3).1
    · by_cases hyi : y = i
      · subst hyi
        obtain rfl : t = t2 := Option.some.inj (ht.symm.trans ht2)
        obtain rfl : v = v2 := Option.some.inj (hself.symm.trans hv2')
        obtain ⟨t3, v3, e1, e2, e3⟩ := h.new x hx (hlj x hxi hxl)
        obtain rfl : t3 = t1 := Option.some.inj (e1.symm.trans ht1)
        rw [hother t3 (hne x hx hxi t3 e1)] at hv1'
        obtain rfl : v3 = v1 := Option.some.inj (e2.symm.trans hv1')
        exact (hD x v3 hx hxi e3).2
      · rw [hother t1 (hne x hx hxi t1 ht1)] at hv1'
        rw [hother t2 (hne y hy hyi t2 ht2)] at hv2'
        exact h.apart x y t1 t2 v1 v2 hx hy hxy (hlj x hxi hxl) (hlj y hyi hyl) ht1 ht2 hv1' hv2'
/-- how many of the first n are not listed -/
def cnt (listed : Array Bool) : Nat → Nat
  | 0 => 0
  | k + 1 => cnt listed k + if listed.getD k false = true then 0 else 1
theorem cnt_far {listed : Array Bool} {i : Nat} : ∀ k, k ≤ i → cnt (listed.setIfInBounds i true) k = cnt listed k
  | 0, _ => rfl
  | k + 1, h => by rw [cnt, cnt, cnt_far k (by omega), getD_set_ne false (by omega)]
theorem cnt_set {listed : Array Bool} {i : Nat} (hs : i < listed.size) (hl : listed.getD i false = false) : ∀ k, i < k → cnt listed k = cnt (listed.setIfInBounds i true) k + 1
  | k + 1, h => by
    rw [cnt, cnt]
    by_cases e : k = i
    · subst e
      have h2 : (listed.setIfInBounds k true).getD k false = true := by simp [Array.getD, hs]
      rw [cnt_far k (Nat.le_refl _), hl, h2]
      simp
    · rw [getD_set_ne false (Ne.symm e), cnt_set hs hl k (by omega)]
      omega
theorem cnt_zero {listed : Array Bool} : ∀ k, cnt listed k = 0 → ∀ i, i < k → listed.getD i false = true
  | k + 1, h, i, hi => by
    rw [cnt] at h
    by_cases e : i = k
    · subst e
      by_cases hh : listed.getD i false = true
      · exact hh
      · rw [if_neg hh] at h; omega
    · exact cnt_zero k (by omega) i (by omega)
theorem cnt_least {listed : Array Bool} : ∀ k, cnt listed k ≠ 0 → ∃ i, i < k ∧ listed.getD i false = false ∧ ∀ j, j < i → listed.getD j false = true
  | 0, h => absurd rfl h
  | k + 1, h => by
    by_cases h0 : cnt listed k = 0
    · rw [cnt, h0] at h
      refine ⟨k, Nat.lt_succ_self k, ?_, cnt_zero k h0⟩
      cases hh : listed.getD k false with
      | true => rw [hh] at h; simp at h
      | false => rfl
    · obtain ⟨i, hi, h1, h2⟩ := cnt_least k h0
      exact ⟨i, by omega, h1, h2⟩
/-- the head's operations wait for earlier ones alone -/
def backB (ops : Array Oper) (n : Nat) : Bool := (List.range n).all fun i => ((ops[i]?).map fun o => o.after.all fun e => !Region.binds .any e || decide (e.on < i)).getD false
def dstB (ops : Array Oper) (n : Nat) : Bool := (List.range n).all fun i => (List.range n).all fun j => decide (i = j) || !decide (dstOf ops i = dstOf ops j)
def fullL (n m : Nat) : Array Bool := (List.replicate n true ++ List.replicate m false).toArray
theorem fullL_eq {listed : Array Bool} {n m : Nat} (hs : listed.size = n + m) (h1 : ∀ i, i < n → listed.getD i false = true) (h2 : ∀ t, n ≤ t → t < n + m → listed.getD t true = false) : listed = fullL n m := by
  apply Array.ext
  · simp [fullL, hs]
  · intro i hi hi2
    rcases Nat.lt_or_ge i n with h | h
    · have := h1 i h
      rw [Array.getD, dif_pos hi] at this
      simp only [fullL, List.getElem_toArray, List.getElem_append_left (show i < (List.replicate n true).length by simpa using h), List.getElem_replicate]
      exact this
    · have := h2 i h (by omega)
      rw [Array.getD, dif_pos hi] at this
      simp only [fullL, List.getElem_toArray, List.getElem_append_right (show (List.replicate n true).length ≤ i by simpa using h), List.getElem_replicate]
      exact this
def growB (ops : Array Oper) (n : Nat) : Bool :=
  decide (n < ops.size) && Region.sinkB .any ops n && Region.chainB .any ops n && backB ops n && dstB ops n && Region.seqB .any ops (ops.size - n) n (fullL n (ops.size - n))
theorem wp_region_grow {id : Nat} {Q : Exit → Act → World → Prop} {w : World} {l : List Oper} (n : Nat) (hm : P.follows .mixedOrders = true) (hB : growB l.toArray n = true) (G : Nat → Value → World → Prop) (D : Nat → Value → Nat → Value → Prop)
    (hst : ∀ i v w w', G i v w → Below w.heap.size w w' → G i v w')
    (hin : ∀ i, i < n → ∃ t, dstOf l.toArray i = some t ∧ t < a0.tmps.size)
    (hstep : ∀ i, i < n → ∀ listed a w', Agree l.toArray n a0 w.drew G D listed a w' → (∀ j, (∃ o, l.toArray[i]? = some o ∧ ∃ e ∈ o.after, Region.binds .any e = true ∧ e.on = j) → listed.getD j false = true) →
      wpOp P l.toArray Q i (fun a' w'' => ∃ v, a' = a.put (dstOf l.toArray i) v ∧ Below w'.heap.size w' w'' ∧ G i v w'' ∧ ∀ j v', j < n → j ≠ i → G j v' w' → D i v j v' ∧ D j v' i v) a w')
    (htail : ∀ listed a w', (∀ i, i < n → listed.getD i false = true) → Agree l.toArray n a0 w.drew G D listed a w' → wpList P l.toArray Q (l.drop n) a w') :
    (Code.region id l.toArray true).wp P Q a0 w := by
  simp only [growB, Bool.and_eq_true, decide_eq_true_eq] at hB
  obtain ⟨⟨⟨⟨⟨hn, hs⟩, hc⟩, hbk⟩, hdb⟩, hseq⟩ := hB
  have hd : ∀ i j, i < n → j < n → i ≠ j → dstOf l.toArray i ≠ dstOf l.toArray j := by
    intro i j hi hj hij e
    have h1 := List.all_eq_true.1 (List.all_eq_true.1 hdb i (List.mem_range.2 hi)) j (List.mem_range.2 hj)
    simp [hij, e] at h1
  refine wp_region_any hm ?_
  have main : ∀ f listed a w', cnt listed n = f → HeadInv .any l.toArray n listed → Agree l.toArray n a0 w.drew G D listed a w' → wpAny P .any l.toArray Q (f + (l.toArray.size - n)) listed a w' := by
    intro f
    induction f with
    | zero =>
      intro listed a w' hcn inv hag
      have hall := cnt_zero n hcn
      have hfull : listed = fullL n (l.toArray.size - n) := fullL_eq (by rw [inv.size]; omega) hall (fun t h1 h2 => inv.tail t h1 (by omega))
      have hdl : (l.drop n).length = l.toArray.size - n := by simp
      rw [Nat.zero_add, ← hdl]
      exact wpAny_of_seq (l.drop n) n listed a w' (fun j => by simp [List.getElem?_drop]) (by rw [hdl, hfull]; exact hseq) (htail listed a w' hall hag)
    | succ f ih =>
      intro listed a w' hcn inv hag
      obtain ⟨k, hk, hku, hkl⟩ := cnt_least n (by rw [hcn]; exact Nat.succ_ne_zero f)
      have hks : k < listed.size := by rw [inv.size]; omega
      have hkr : k ∈ Region.ready .any l.toArray listed := by
        rw [mem_ready]
        refine ⟨getD_in hks hku, ?_⟩
        have hb := List.all_eq_true.1 hbk k (List.mem_range.2 hk)
        cases ho : l.toArray[k]? with
        | none => rw [ho] at hb; simp at hb
        | some o =>
          rw [ho] at hb
          refine ⟨o, rfl, fun e he hbd => ?_⟩
          simp only [Option.map_some, Option.getD_some] at hb
          have h2 := Array.all_eq_true'.1 hb e he
          rw [hbd] at h2
          simp at h2
          exact hkl e.on h2
      rw [show f + 1 + (l.toArray.size - n) = (f + (l.toArray.size - n)) + 1 by omega]
      refine ⟨fun h0 => (by rw [h0] at hkr; cases hkr), fun i hi => ?_⟩
      have hin2 : i < n := by
        rcases Nat.lt_or_ge i n with h | h
        · exact h
        · exact absurd hi (tail_waits hs hc hn inv _ k rfl hk (getD_in hks hku) i h)
      obtain ⟨hiu, o, ho, hall⟩ := mem_ready.1 hi
      have his : i < listed.size := by rw [inv.size]; omega
      obtain ⟨t, ht, hts⟩ := hin i hin2
      refine wpOp_mono (fun a' w'' hh => ?_) (hstep i hin2 listed a w' hag (by
        rintro j ⟨o', ho', e, he, hb, rfl⟩
        obtain rfl : o = o' := Option.some.inj (ho.symm.trans ho')
        exact hall e he hb))
      obtain ⟨v, rfl, hb, hg, hD⟩ := hh
      refine ih _ _ _ ?_ (inv.set hi hin2) (hag.step hst hd hin2 his ht hts hb hg hD)
      have := cnt_set his (getD_both hiu) n hin2
      omega
  have inv0 : HeadInv .any l.toArray n (Array.replicate l.toArray.size false) :=
    ⟨by simp, fun j oj _ hl => (by rw [getD_replicate_false] at hl; cases hl), fun t _ ht => getD_in (by simpa using ht) (getD_replicate_false _ _)⟩
  have hc0 : ∀ k, k ≤ l.toArray.size → cnt (Array.replicate l.toArray.size false) k = k := by
    intro k
    induction k with
    | zero => intro _; rfl
    | succ k ih => intro h; rw [cnt, ih (by omega), getD_replicate_false]; simp
  have h := main n (Array.replicate l.toArray.size false) a0 w.drew (hc0 n (Nat.le_of_lt hn)) inv0
    ⟨rfl, rfl, Below.refl _ _, fun _ _ => rfl, fun i _ hl => (by rw [getD_replicate_false] at hl; cases hl), fun i j t t' v v' _ _ _ hl => (by rw [getD_replicate_false] at hl; cases hl)⟩
  rw [show n + (l.toArray.size - n) = l.toArray.size by omega] at h
  exact h
/-- an array that is known at some places, and elsewhere as another one -/
theorem set_all : ∀ (ps : List (Nat × Value)) (x y : Array Value), y.size = x.size → (∀ p ∈ ps, y[p.1]? = some p.2) → (∀ t, (∀ p ∈ ps, p.1 ≠ t) → y[t]? = x[t]?) → y = ps.foldl (fun z p => z.setIfInBounds p.1 p.2) x
  | [], x, y, _, _, h => by
    apply Array.ext_getElem?
    intro t
    exact h t fun p hp => by cases hp
  | p :: ps, x, y, hs, h1, h2 => by
    refine set_all ps (x.setIfInBounds p.1 p.2) y (by simpa using hs) (fun q hq => h1 q (by simp [hq])) fun t ht => ?_
    by_cases e : p.1 = t
    · subst e
      have hy := h1 p (by simp)
      have hlt : p.1 < x.size := by rw [← hs]; exact (Array.getElem?_eq_some_iff.1 hy).1
      rw [hy, Array.getElem?_setIfInBounds_self_of_lt hlt]
    · rw [Array.getElem?_setIfInBounds_ne e]
      exact h2 t fun q hq => by
        rcases List.mem_cons.1 hq with rfl | hq
        · exact e
        · exact ht q hq
end
theorem wpOp_of {P : Program} {ops : Array Oper} {Q : Exit → Act → World → Prop} {i : Nat} {K : Act → World → Prop} {a : Act} {w : World} (o : Oper) (ho : ops[i]? = some o) (hg : o.guard = none) (h : o.wp P a w K Q) : wpOp P ops Q i K a w := by
  unfold wpOp
  have hw : Region.wanted o (yielded ops a.tmps) = true := by simp [Region.wanted, hg]
  simp only [ho, hw, if_true]
  exact .inl h
theorem eval_tmp {a : Act} {t : Tmp} {v : Value} (h : a.tmps[t]? = some v) : a.eval (.tmp t) = v := by
  simp [Act.eval, Array.getD_eq_getD_getElem?, h]
def noDstB (ops : Array Oper) (n t : Nat) : Bool := (List.range n).all fun i => !decide (dstOf ops i = some t)
theorem Agree.keeps {ops : Array Oper} {n : Nat} {a0 : Act} {w0 : World} {G : Nat → Value → World → Prop} {D : Nat → Value → Nat → Value → Prop} {listed : Array Bool} {a : Act} {w : World} (h : Agree ops n a0 w0 G D listed a w) (t : Nat) (v : Value) (hno : noDstB ops n t = true) (hv : a0.tmps[t]? = some v) : a.tmps[t]? = some v := by
  refine (h.old t fun i hi _ e => ?_).trans hv
  have := List.all_eq_true.1 hno i (List.mem_range.2 hi)
  simp [e] at this
theorem Agree.slot {ops : Array Oper} {n : Nat} {a0 : Act} {w0 : World} {G : Nat → Value → World → Prop} {D : Nat → Value → Nat → Value → Prop} {listed : Array Bool} {a : Act} {w : World} (h : Agree ops n a0 w0 G D listed a w) (i t : Nat) (hi : i < n) (hl : listed.getD i false = true) (ht : dstOf ops i = some t) : ∃ v, a.tmps[t]? = some v ∧ G i v w := by
  obtain ⟨t', v, e1, e2, e3⟩ := h.new i hi hl
  obtain rfl : t = t' := Option.some.inj (ht.symm.trans e1)
  exact ⟨v, e2, e3⟩
theorem Agree.whole {ops : Array Oper} {n : Nat} {a0 : Act} {w0 : World} {G : Nat → Value → World → Prop} {D : Nat → Value → Nat → Value → Prop} {listed : Array Bool} {a : Act} {w : World} (h : Agree ops n a0 w0 G D listed a w) (ps : List (Nat × Value))
    (hts : ∀ i, i < n → ∃ t, dstOf ops i = some t ∧ t ∈ ps.map (·.1)) (hv : ∀ p ∈ ps, a.tmps[p.1]? = some p.2) : a = ⟨ps.foldl (fun z p => z.setIfInBounds p.1 p.2) a0.tmps, a0.defers⟩ := by
  have e := set_all ps a0.tmps a.tmps h.size hv fun t ht => h.old t fun i hi _ e => by
    obtain ⟨t', e', hm⟩ := hts i hi
    obtain rfl : t' = t := Option.some.inj (e'.symm.trans e)
    obtain ⟨q, hq, he⟩ := List.mem_map.1 hm
    exact ht q hq he
  have d := h.defers
  cases a
  simp only at e d
  rw [e, d]
end Go.Proofs.YtmbdimonfdncpaaDoor.Gr
