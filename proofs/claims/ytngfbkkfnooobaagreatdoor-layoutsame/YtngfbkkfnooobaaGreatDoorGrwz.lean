/-
  The parts of entries by rising chunks: plainly. No program.
-/
import Derived.Test.YtngfbkkfnooobaaGreatDoorEMath
import Derived.Test.YtngfbkkfnooobaaGreatDoorLayA
import Derived.Test.YtngfbkkfnooobaaGreatDoorMixIn
import Derived.Test.YtngfbkkfnooobaaGreatDoorHandz
namespace Go.Proofs.YtngfbkkfnooobaaGreatDoor
set_option maxHeartbeats 1000000
theorem lst_more (m c : Nat) : ∀ d, ∃ T, Bt.lst m (c + d) = Bt.lst m c ++ T
  | 0 => ⟨[], by rw [Nat.add_zero, List.append_nil]⟩
  | d + 1 => by
    obtain ⟨T, hT⟩ := lst_more m c d
    rw [← Nat.add_assoc, Bt.lst, hT, List.append_assoc]
    exact ⟨_, rfl⟩
/-- a number of the set stands behind all that are less -/
theorem nthc_at {m c : Nat} (hc : c < 32) (hb : m.testBit c = true) : nthc m (Bt.lst m c).length = (c : Int) ∧ (Bt.lst m c).length < (Bt.lst m 32).length ∧ (Bt.lst m (c + 1)) = Bt.lst m c ++ [(c : Int)] := by
  have h1 : Bt.lst m (c + 1) = Bt.lst m c ++ [(c : Int)] := by rw [Bt.lst, if_pos hb]
  obtain ⟨T, hT⟩ := lst_more m (c + 1) (32 - (c + 1))
  rw [show c + 1 + (32 - (c + 1)) = 32 by omega, h1] at hT
  refine ⟨?_, by rw [hT]; simp, h1⟩
  rw [nthc, hT, List.getD_eq_getElem?_getD, List.append_assoc, List.getElem?_append_right (Nat.le_refl _), Nat.sub_self]
  rfl
theorem lst_skip {m c : Nat} (hb : m.testBit c = false) : Bt.lst m (c + 1) = Bt.lst m c := by
  rw [Bt.lst, if_neg (by rw [hb]; decide), List.append_nil]
theorem part_bit {lv : Nat} {L : List En} {c : Nat} (hc : c < 32) : (mask lv L).testBit c = true ↔ part lv L (c : Int) ≠ [] := by
  have h1 := mask_mem lv L (c : Int)
  rw [Bt.mem_all] at h1
  constructor
  · intro h
    obtain ⟨e, he, hce⟩ := h1.1 (by simpa [hc] using h)
    exact List.ne_nil_of_mem (part_mem.2 ⟨he, hce⟩)
  · intro h
    obtain ⟨e, he⟩ := List.exists_mem_of_ne_nil _ h
    have h2 := h1.2 ⟨e, (part_mem.1 he).1, (part_mem.1 he).2⟩
    simpa [hc] using h2
end Go.Proofs.YtngfbkkfnooobaaGreatDoor
/-
  The document's branch in the making: its numbers and its children as they are appended.
-/
namespace Go.Proofs.YtngfbkkfnooobaaGreatDoor
open Go.RowKit Go.ChangeShapes
set_option maxHeartbeats 1000000
/-- the cells of several of the document's nodes -/
def flat : List (Nd × RN) → List Value
  | [] => []
  | (x, r) :: l => r.cells x ++ flat l
theorem flat_snoc (l : List (Nd × RN)) (x : Nd) (r : RN) : flat (l ++ [(x, r)]) = flat l ++ r.cells x := by
  induction l with
  | nil => simp [flat]
  | cons a l ih =>
    obtain ⟨y, s⟩ := a
    simp [flat, ih]
theorem flat_at : ∀ (l : List (Nd × RN)) (i : Nat) (h : i < l.length) (c : Nat), c < 5 → (flat l)[i * 5 + c]? = ((l[i]).2.cells (l[i]).1)[c]?
  | (x, r) :: l, 0, _, c, hc => by
    simp only [flat, Nat.zero_mul, Nat.zero_add, List.getElem_cons_zero]
    rw [List.getElem?_append_left (by simpa [RN.cells] using hc)]
  | (x, r) :: l, i + 1, h, c, hc => by
    have ih := flat_at l i (by simpa using h) c hc
    simp only [flat, List.getElem_cons_succ]
    rw [List.getElem?_append_right (by simp [RN.cells]; omega), ← ih]
    congr 1
    simp [RN.cells]; omega
theorem rcells_one (r : RN) (x : Nd) : ∀ u ∈ r.cells x, u.oneCell' = true := by
  intro u hu
  simp only [RN.cells, List.mem_cons, List.not_mem_nil, or_false] at hu
  rcases hu with rfl | rfl | rfl | rfl | rfl <;> rfl
/-- blocks that are none of the branch's own -/
def Gd (gx : Nat) (sv kv : Value) (b : Nat) : Prop := gx < b ∧ sv.ownBlock ≠ some b ∧ kv.ownBlock ≠ some b
theorem gd_move {gx : Nat} {W W' : World} {sv kv sv' kv' : Value} (hb : But (fun b => b = gx ∨ sv.ownBlock = some b ∨ kv.ownBlock = some b) W W') (hs : sv'.ownBlock = sv.ownBlock ∨ ∃ b, sv'.ownBlock = some b ∧ W.heap.size ≤ b) (hk : kv'.ownBlock = kv.ownBlock ∨ ∃ b, kv'.ownBlock = some b ∧ W.heap.size ≤ b)
    {x : Nd} {r : RN} (h : Mde (Gd gx sv kv) W x r) : Mde (Gd gx sv' kv') W' x r := by
  have h1 : Mde (fun b => Gd gx sv kv b ∧ b < W.heap.size) W x r := h.mono fun b hl hF => ⟨hF, hl⟩
  have h2 : Mde (fun b => Gd gx sv kv b ∧ b < W.heap.size) W' x r := h1.kept (hb.kept fun k hk e => by
    obtain ⟨⟨k1, k2, k3⟩, _⟩ := hk
    rcases e with e | e | e
    · omega
    · exact k2 e
    · exact k3 e) hb.size
  refine h2.mono fun b _ hF => ⟨hF.1.1, fun e => ?_, fun e => ?_⟩
  · rcases hs with e2 | ⟨c, e2, e3⟩
    · exact hF.1.2.1 (e2 ▸ e)
    · rw [e2] at e
      injection e with e
      have := hF.2
      omega
  · rcases hk with e2 | ⟨c, e2, e3⟩
    · exact hF.1.2.2 (e2 ▸ e)
    · rw [e2] at e
      injection e with e
      have := hF.2
      omega
structure Grw (gx : Nat) (wb W : World) (sv kv : Value) (zs : List Int) (ks : List Nd) (xs : List Value) : Prop where
  bel : Below gx wb W
  row : W.heap[gx]? = some (.cells #[.int .i64 3, .int .u64 0, .slice none 0 0, sv, kv] 33 (0, 0))
  ownS : W.ownsRow (gx + 1) 3 1 sv zs.length (Bt.icells zs)
  ownK : W.ownsRow (gx + 1) 33 5 kv ks.length xs
  docs : ∃ rs : List RN, rs.length = ks.length ∧ xs = flat (ks.zip rs) ∧ ∀ i (h1 : i < ks.length) (h2 : i < rs.length), Mde (Gd gx sv kv) W ks[i] rs[i]
theorem Grw.gx {gx : Nat} {wb W : World} {sv kv : Value} {zs : List Int} {ks : List Nd} {xs : List Value} (h : Grw gx wb W sv kv zs ks xs) : gx < W.heap.size := (Array.getElem?_eq_some_iff.1 h.row).1
theorem Grw.below {gx : Nat} {wb W W' : World} {sv kv : Value} {zs : List Int} {ks : List Nd} {xs : List Value} (h : Grw gx wb W sv kv zs ks xs) (hb : Below W.heap.size W W') : Grw gx wb W' sv kv zs ks xs := by
  obtain ⟨rs, h1, h2, h3⟩ := h.docs
  exact ⟨h.bel.trans (hb.mono (Nat.le_of_lt h.gx)), (hb.block gx h.gx).trans h.row, own_below h.ownS hb, own_below h.ownK hb, rs, h1, h2, fun i a b => (h3 i a b).below hb⟩
theorem set_cell3 {W : World} {gx : Nat} {a b c d e : Value} (h : W.heap[gx]? = some (.cells #[a, b, c, d, e] 33 (0, 0))) (v : Value) : (W.setCell ⟨gx, 3, none⟩ v).heap[gx]? = some (.cells #[a, b, c, v, e] 33 (0, 0)) := by
  rw [heap_setCell_same W gx 3 _ 33 v h]
  rfl
theorem set_cell4 {W : World} {gx : Nat} {a b c d e : Value} (h : W.heap[gx]? = some (.cells #[a, b, c, d, e] 33 (0, 0))) (v : Value) : (W.setCell ⟨gx, 4, none⟩ v).heap[gx]? = some (.cells #[a, b, c, d, v] 33 (0, 0)) := by
  rw [heap_setCell_same W gx 4 _ 33 v h]
  rfl
/-- a number more -/
theorem Grw.addS {gx : Nat} {wb W W3 : World} {sv kv sv' : Value} {zs : List Int} {ks : List Nd} {xs : List Value} (h : Grw gx wb W sv kv zs ks xs) (z : Int) (ho : W3.ownsRow (gx + 1) 3 1 sv' (zs.length + 1) (Bt.icells zs ++ [.int .i64 z])) (hg : W.grownBy W3 sv.ownBlock)
    (hob : sv'.ownBlock = sv.ownBlock ∨ ∃ b, sv'.ownBlock = some b ∧ W.heap.size ≤ b) :
    (W3.cell? ⟨gx, 3, none⟩ = some sv ∧ W3.frozen? ⟨gx, 3, none⟩ = false) ∧ Grw gx wb (W3.setCell ⟨gx, 3, none⟩ sv') sv' kv (zs ++ [z]) ks xs := by
  have hlo : ∀ b, sv.ownBlock = some b → gx + 1 ≤ b := fun b hb => (own_lt h.ownS hb).1
  have hb0 : W3.heap[gx]? = W.heap[gx]? := hg.block gx h.gx fun e => by have := hlo gx e.symm; omega
  have hr : W3.heap[gx]? = some (.cells #[.int .i64 3, .int .u64 0, .slice none 0 0, sv, kv] 33 (0, 0)) := hb0.trans h.row
  have k1 : But (fun k => sv.ownBlock = some k) W W3 := ⟨hg.os, hg.tape, hg.output, hg.size, fun i hi hx => hg.block i hi fun e => hx e.symm⟩
  have k2 : But (fun b => b = gx ∨ sv.ownBlock = some b ∨ kv.ownBlock = some b) W (W3.setCell ⟨gx, 3, none⟩ sv') := (k1.mono fun k e => .inr (.inl e)).trans ((But.set W3 gx 3 sv').mono fun k e => .inl e)
  have hset : ∀ b, b ≠ gx → (W3.setCell ⟨gx, 3, none⟩ sv').heap[b]? = W3.heap[b]? := fun b hb => Below.heap_setCell W3 ⟨gx, 3, none⟩ sv' b hb
  obtain ⟨rs, h1, h2, h3⟩ := h.docs
  refine ⟨⟨row_cell hr rfl, frozen_of_row _ _ _ _ _ hr⟩, ?_, set_cell3 hr sv', ?_, ?_, rs, h1, h2, fun i a b => gd_move k2 hob (.inl rfl) (h3 i a b)⟩
  · exact h.bel.trans (k2.below (Nat.le_of_lt h.gx) fun k hk => by
      rcases hk with rfl | hk | hk
      · exact Nat.le_refl _
      · have := hlo k hk; omega
      · have := (own_lt h.ownK hk).1; omega)
  · rw [List.length_append, List.length_singleton, Bt.icells_snoc]
    exact own_kept ho fun g hgg => hset g fun e => by have := (own_lt ho hgg).1; omega
  · refine own_kept h.ownK fun g hgg => (hset g fun e => by have := (own_lt h.ownK hgg).1; omega).trans (hg.block g (own_lt h.ownK hgg).2.1 fun e => ?_)
    exact own_ne h.ownK h.ownS (by decide) g hgg e.symm
/-- a child more: W1 is the world behind its making, W3 behind the append -/
theorem Grw.addK {gx : Nat} {wb W W1 W3 : World} {sv kv kv' : Value} {zs : List Int} {ks : List Nd} {xs : List Value} (h : Grw gx wb W sv kv zs ks xs) {x : Nd} {r : RN} (hb : Below W.heap.size W W1) (hm : Mde (fun b => W.heap.size ≤ b) W1 x r)
    (ho : W3.ownsRow (gx + 1) 33 5 kv' (ks.length + 1) (xs ++ r.cells x)) (hg : W1.grownBy W3 kv.ownBlock) (hob : kv'.ownBlock = kv.ownBlock ∨ ∃ b, kv'.ownBlock = some b ∧ W1.heap.size ≤ b) :
    (W3.cell? ⟨gx, 4, none⟩ = some kv ∧ W3.frozen? ⟨gx, 4, none⟩ = false) ∧ Grw gx wb (W3.setCell ⟨gx, 4, none⟩ kv') sv kv' zs (ks ++ [x]) (xs ++ r.cells x) := by
  have h' := h.below hb
  have hlo : ∀ b, kv.ownBlock = some b → gx + 1 ≤ b := fun b hb => (own_lt h.ownK hb).1
  have hb0 : W3.heap[gx]? = W1.heap[gx]? := hg.block gx h'.gx fun e => by have := hlo gx e.symm; omega
  have hr : W3.heap[gx]? = some (.cells #[.int .i64 3, .int .u64 0, .slice none 0 0, sv, kv] 33 (0, 0)) := hb0.trans h'.row
  have k1 : But (fun k => kv.ownBlock = some k) W1 W3 := ⟨hg.os, hg.tape, hg.output, hg.size, fun i hi hx => hg.block i hi fun e => hx e.symm⟩
  have k2 : But (fun b => b = gx ∨ sv.ownBlock = some b ∨ kv.ownBlock = some b) W1 (W3.setCell ⟨gx, 4, none⟩ kv') := (k1.mono fun k e => .inr (.inr e)).trans ((But.set W3 gx 4 kv').mono fun k e => .inl e)
  have hset : ∀ b, b ≠ gx → (W3.setCell ⟨gx, 4, none⟩ kv').heap[b]? = W3.heap[b]? := fun b hb => Below.heap_setCell W3 ⟨gx, 4, none⟩ kv' b hb
  obtain ⟨rs, h1, h2, h3⟩ := h'.docs
  have hmx : Mde (Gd gx sv kv) W1 x r := hm.mono fun b _ hle => ⟨by have := h.gx; omega, fun e => by have := (own_lt h.ownS e).2.1; omega, fun e => by have := (own_lt h.ownK e).2.1; omega⟩
  refine ⟨⟨row_cell hr rfl, frozen_of_row _ _ _ _ _ hr⟩, ?_, set_cell4 hr kv', ?_, ?_, rs ++ [r], by simp [h1], ?_, fun i a b => ?_⟩
  · exact h'.bel.trans (k2.below (Nat.le_of_lt h'.gx) fun k hk => by
      rcases hk with rfl | hk | hk
      · exact Nat.le_refl _
      · have := (own_lt h.ownS hk).1; omega
      · have := hlo k hk; omega)
  · refine own_kept h'.ownS fun g hgg => (hset g fun e => by have := (own_lt h'.ownS hgg).1; omega).trans (hg.block g (own_lt h'.ownS hgg).2.1 fun e => ?_)
    exact own_ne h'.ownS h'.ownK (by decide) g hgg e.symm
  · rw [List.length_append, List.length_singleton]
    exact own_kept ho fun g hgg => hset g fun e => by have := (own_lt ho hgg).1; omega
  · rw [List.zip_append h1.symm, List.zip_cons_cons, List.zip_nil_left, flat_snoc, h2]
  · rcases Nat.lt_or_ge i ks.length with g | g
    · rw [List.getElem_append_left g, List.getElem_append_left (by omega)]
      exact gd_move k2 (.inl rfl) hob (h3 i g (by omega))
    · obtain rfl : i = ks.length := by simp at a; omega
      rw [List.getElem_append_right (Nat.le_refl _), List.getElem_append_right (by omega)]
      simp only [Nat.sub_self, List.getElem_singleton, h1]
      exact gd_move k2 (.inl rfl) hob hmx
/-- the whole of it, behind the last child -/
theorem Grw.done {gx B : Nat} {wb W W' : World} {sv kv : Value} {m : Nat} {ks : List Nd} {xs : List Value} {kid : Nat → Nd} (h : Grw gx wb W sv kv (Bt.lst m 32) ks xs) (hpos : 0 < ks.length) (hks : ∀ i (h : i < ks.length), ks[i] = kid i) (hB : B ≤ gx) (hsz : W.heap.size ≤ W'.heap.size) (hk : ∀ b, gx < b → b < W.heap.size → W'.heap[b]? = W.heap[b]?) :
    ∃ A c A' c', sv = .slice A (Bt.lst m 32).length c ∧ kv = .slice A' ks.length c' ∧ Mde (fun b => B ≤ b) W' (.bran m ks.length kid) ⟨none, 0, A, c, A', c'⟩ := by
  obtain ⟨A, c, rfl, _, hA⟩ := Bt.ints_own h.ownS rfl
  obtain ⟨A', c', rfl, hr⟩ := row_reads5 h.ownK
  obtain ⟨g, rfl, hg1, hg2, hg3⟩ := hr hpos
  have K : Kept (fun b => gx < b) W W' := fun b hb hl => hk b hb hl
  have hnA : Inb (fun b => gx < b) W A := fun a e => by
    have := own_new h.ownS a e
    exact ⟨by omega, this.2⟩
  obtain ⟨rs, h1, h2, h3⟩ := h.docs
  refine ⟨A, c, some ⟨g, 0, none⟩, c', rfl, rfl, ints_kept hA hnA K, (hnA.mono fun b _ hb => by omega).later hsz, g, rfl, by omega, by omega, fun i hi => ?_⟩
  have hi2 : i < rs.length := by omega
  have hz : (ks.zip rs)[i]'(by rw [List.length_zip]; omega) = (ks[i], rs[i]) := List.getElem_zip
  have hc : ∀ c, c < 5 → W'.cell? ⟨g, i * 5 + c, none⟩ = ((rs[i]).cells (kid i))[c]? := fun c hc => by
    rw [cell_kept (K g (by omega) hg2), hg3 _ (by omega), h2, flat_at (ks.zip rs) i (by rw [List.length_zip]; omega) c hc, hz, hks i hi]
  refine ⟨rs[i], ⟨hc 0 (by omega), hc 1 (by omega), hc 2 (by omega), hc 3 (by omega), hc 4 (by omega)⟩, ?_⟩
  have := h3 i hi hi2
  rw [hks i hi] at this
  exact ((this.mono (G := fun b => gx < b) fun b _ hb => hb.1).kept K hsz).mono fun b _ hb => by show B ≤ b; omega
end Go.Proofs.YtngfbkkfnooobaaGreatDoor
