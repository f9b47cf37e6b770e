/-
  Rows of elements of any size that a call owns, and what appends leave; how a list of the document's nodes lies in a row; a branch in the making.
-/
import Derived.Test.YtfhnmmiakknilaaPlans
import Derived.Test.YtfhnmmiakknilaaCome
namespace Go.Proofs.Ytfhnmmiakknilaa
open Go.RowKit
set_option maxHeartbeats 4000000
set_option maxRecDepth 100000
/-- all lies as it lay, but for the blocks of X -/
structure But (X : Nat → Prop) (w w' : World) : Prop where
  os : w'.os = w.os
  tape : w'.tape = w.tape
  output : w'.output = w.output
  size : w.heap.size ≤ w'.heap.size
  block : ∀ k, k < w.heap.size → ¬ X k → w'.heap[k]? = w.heap[k]?
theorem But.refl (X : Nat → Prop) (w : World) : But X w w := ⟨rfl, rfl, rfl, Nat.le_refl _, fun _ _ _ => rfl⟩
theorem But.then {X : Nat → Prop} {a b c : World} (h : But X a b) (k : Below b.heap.size b c) : But X a c :=
  ⟨k.os.trans h.os, k.tape.trans h.tape, k.output.trans h.output, Nat.le_trans h.size k.size, fun i hi hx => (k.block i (Nat.lt_of_lt_of_le hi h.size)).trans (h.block i hi hx)⟩
theorem But.alloc {X : Nat → Prop} {a b : World} (h : But X a b) (o : Obj) : But X a (b.alloc o) := h.then ((Below.refl _ _).alloc (Nat.le_refl _) _)
theorem But.grown {X : Nat → Prop} {a b c : World} {r : Option Nat} (h : But X a b) (g : b.grownBy c r) (hr : ∀ k, r = some k → X k) : But X a c :=
  ⟨g.os.trans h.os, g.tape.trans h.tape, g.output.trans h.output, Nat.le_trans h.size g.size, fun i hi hx => (g.block i (Nat.lt_of_lt_of_le hi h.size) (fun e => hx (hr i e.symm))).trans (h.block i hi hx)⟩
theorem But.below {X : Nat → Prop} {B : Nat} {a b : World} (h : But X a b) (hB : B ≤ a.heap.size) (hX : ∀ k, X k → B ≤ k) : Below B a b :=
  ⟨h.os, h.tape, h.output, h.size, fun k hk => h.block k (Nat.lt_of_lt_of_le hk hB) fun e => by have := hX k e; omega⟩
theorem But.kept {X F : Nat → Prop} {a b : World} (h : But X a b) (hF : ∀ k, F k → ¬ X k) : Kept F a b := fun k hf hk => h.block k hk (hF k hf)
/-- where a row that is owned lies -/
theorem own_lt {w : World} {B e s n b : Nat} {v : Value} {xs : List Value} (h : w.ownsRow B e s v n xs) (hb : v.ownBlock = some b) : B ≤ b ∧ b < w.heap.size ∧ ∃ cur, w.heap[b]? = some (.cells cur e (0, 0)) := by
  rcases h.2 with ⟨rfl, _⟩ | ⟨g, cap, cur, rfl, h1, h2, _⟩
  · cases hb
  · simp only [Value.ownBlock, Option.some.injEq] at hb
    subst hb
    exact ⟨h1, (Array.getElem?_eq_some_iff.1 h2).1, cur, h2⟩
theorem own_kept {w w' : World} {B e s n : Nat} {v : Value} {xs : List Value} (h : w.ownsRow B e s v n xs) (k : ∀ g, v.ownBlock = some g → w'.heap[g]? = w.heap[g]?) : w'.ownsRow B e s v n xs := by
  refine ⟨h.1, ?_⟩
  rcases h.2 with h2 | ⟨g, cap, cur, rfl, h1, h2, r⟩
  · exact .inl h2
  · exact .inr ⟨g, cap, cur, rfl, h1, (k g rfl).trans h2, r⟩
theorem own_below {w w' : World} {B e s n : Nat} {v : Value} {xs : List Value} (h : w.ownsRow B e s v n xs) (hb : Below w.heap.size w w') : w'.ownsRow B e s v n xs := own_kept h fun g hg => hb.block g (own_lt h hg).2.1
/-- rows of unlike elements are two blocks -/
theorem own_ne {w : World} {B e s n B' e' s' n' : Nat} {v v' : Value} {xs xs' : List Value} (h : w.ownsRow B e s v n xs) (h' : w.ownsRow B' e' s' v' n' xs') (he : e ≠ e') : ∀ b, v.ownBlock = some b → v'.ownBlock ≠ some b := by
  intro b hb hb'
  obtain ⟨_, _, c1, h1⟩ := own_lt h hb
  obtain ⟨_, _, c2, h2⟩ := own_lt h' hb'
  rw [h1] at h2
  injection h2 with h2
  injection h2 with _ h2
  exact he h2
/-- append of some elements that lie in memory, where a region draws its order -/
theorem step_appN {B : Nat} {w : World} {ops : Array Oper} {o : Oper} {a : Act} {K : Act → World → Prop} {Q : Exit → Act → World → Prop} {E : Prop} (t e : TypeId) (z : Value) (size bytes : Nat) (hu : Try.prog.underlying t = some (.slice e)) (hinf : (Try.prog.info? e).map (fun i => (i.zero, i.size, i.bytes)) = some (some z, size, bytes)) (hz : z.cells.size = size) (hs0 : 0 < size) (hby : bytes ≤ 200)
    (hgd : o.guard = none) (s x : Operand) (ho : o.op = .call { callee := .builtin .append, args := #[s, x], argTypes := #[t, t] }) (v : Value) (n : Nat) (xs : List Value) (h : w.ownsRow B e size v n xs) (p : Addr) (m c : Nat) (news : List Value) (hl : news.length = m * size) (hnews : ∀ j u, news[j]? = some u → w.cell? (p.add j) = some u) (h1 : ∀ u ∈ news, u.oneCell' = true)
    (hs : a.eval s = v) (hx : a.eval x = .slice (some p) m c) (hn : n + m ≤ 100000) (hB : B ≤ w.heap.size)
    (hK : ∀ v' w', w'.ownsRow B e size v' (n + m) (xs ++ news) → w.grownBy w' v.ownBlock → (v'.ownBlock = v.ownBlock ∨ v'.ownBlock = some w.heap.size) → K (a.put o.dst v') w') : if Region.wanted o (yielded ops a.tmps) = true then Oper.wp Try.prog o a w K Q else E := by
  have hw : Region.wanted o (yielded ops a.tmps) = true := by simp [Region.wanted, hgd]
  rw [if_pos hw]
  obtain ⟨i0, hi, hz0, hz1, hz2⟩ := info_parts hinf
  obtain ⟨v', w', hr, hown, hg, _, hob⟩ := run_append_own_at (P := Try.prog) (w := w) B t o.type e i0 z size bytes hu hi hz0 hz1 hz2 hz hs0 v n xs h p m c news hl hnews h1
    (by unfold maxLen; omega) (by have := Nat.mul_le_mul hn hby; omega) hB
  unfold Oper.wp execOp
  simp only [ho, resolve, invoke, builtin, Sem.run_bind, Sem.run_pure, Result.andThen_ok, List.map_toArray, List.map_cons, List.map_nil, hs, hx, hr]
  exact hK v' w' hown hg hob
/-- the same in a region of one order -/
theorem list_appAt {B : Nat} {w : World} {ops : Array Oper} {rest : List Oper} {o : Oper} {a : Act} {Q : Exit → Act → World → Prop} (t e : TypeId) (z : Value) (size bytes : Nat) (hu : Try.prog.underlying t = some (.slice e)) (hinf : (Try.prog.info? e).map (fun i => (i.zero, i.size, i.bytes)) = some (some z, size, bytes)) (hz : z.cells.size = size) (hs0 : 0 < size) (hby : bytes ≤ 200)
    (hgd : o.guard = none) (s x : Operand) (ho : o.op = .call { callee := .builtin .append, args := #[s, x], argTypes := #[t, t] }) (v : Value) (n : Nat) (xs : List Value) (h : w.ownsRow B e size v n xs) (p : Addr) (m c : Nat) (news : List Value) (hl : news.length = m * size) (hnews : ∀ j u, news[j]? = some u → w.cell? (p.add j) = some u) (h1 : ∀ u ∈ news, u.oneCell' = true)
    (hs : a.eval s = v) (hx : a.eval x = .slice (some p) m c) (hn : n + m ≤ 100000) (hB : B ≤ w.heap.size)
    (hK : ∀ v' w', w'.ownsRow B e size v' (n + m) (xs ++ news) → w.grownBy w' v.ownBlock → (v'.ownBlock = v.ownBlock ∨ v'.ownBlock = some w.heap.size) → wpList Try.prog ops Q rest (a.put o.dst v') w') : wpList Try.prog ops Q (o :: rest) a w := by
  obtain ⟨i0, hi, hz0, hz1, hz2⟩ := info_parts hinf
  obtain ⟨v', w', hr, hown, hg, _, hob⟩ := run_append_own_at (P := Try.prog) (w := w) B t o.type e i0 z size bytes hu hi hz0 hz1 hz2 hz hs0 v n xs h p m c news hl hnews h1
    (by unfold maxLen; omega) (by have := Nat.mul_le_mul hn hby; omega) hB
  refine wpList_plain hgd fun _ hk => ?_
  unfold Oper.wp execOp
  simp only [ho, resolve, invoke, builtin, Sem.run_bind, Sem.run_pure, Result.andThen_ok, List.map_toArray, List.map_cons, List.map_nil, hs, hx, hr]
  exact hk _ _ (hK v' w' hown hg hob)
/-- how a row of elements of five cells reads -/
theorem row_reads5 {w : World} {B e n : Nat} {v : Value} {xs : List Value} (h : w.ownsRow B e 5 v n xs) : ∃ A c, v = .slice A n c ∧ (0 < n → ∃ g, A = some ⟨g, 0, none⟩ ∧ B ≤ g ∧ g < w.heap.size ∧ ∀ j, j < n * 5 → w.cell? ⟨g, j, none⟩ = xs[j]?) := by
  obtain ⟨hl, h⟩ := h
  rcases h with ⟨rfl, rfl⟩ | ⟨g, cap, cur, rfl, hb, hg, hc1, _, hsz, htk⟩
  · exact ⟨none, 0, rfl, fun h => by omega⟩
  · refine ⟨_, _, rfl, fun _ => ⟨g, rfl, hb, (Array.getElem?_eq_some_iff.1 hg).1, fun j hj => ?_⟩⟩
    rw [cell_of_row w g j cur e (0, 0) hg, ← htk, List.getElem?_take_of_lt (by omega)]
    simp
theorem Try.info32 : (Try.prog.info? 32).map (fun i => (i.zero, i.size, i.bytes)) = some (some (.agg #[.int .i64 0, .int .u64 0, .slice none 0 0, .slice none 0 0, .slice none 0 0]), 5, 88) := by kernel_rfl
/-- the cells of several of the document's nodes -/
def flat : List (Nd × RN) → List Value
  | [] => []
  | (x, r) :: l => r.cells x ++ flat l
theorem flat_snoc (l : List (Nd × RN)) (x : Nd) (r : RN) : flat (l ++ [(x, r)]) = flat l ++ r.cells x := by
  induction l with
  | nil => simp [flat]
  | cons a l ih =>
    obtain ⟨y, s⟩ := a
    simp [flat, ih]
theorem flat_at : ∀ (l : List (Nd × RN)) (i : Nat) (h : i < l.length) (c : Nat), c < 5 → (flat l)[i * 5 + c]? = ((l[i]).2.cells (l[i]).1)[c]?
  | (x, r) :: l, 0, _, c, hc => by
    simp only [flat, Nat.zero_mul, Nat.zero_add, List.getElem_cons_zero]
    rw [List.getElem?_append_left (by simpa [RN.cells] using hc)]
  | (x, r) :: l, i + 1, h, c, hc => by
    have ih := flat_at l i (by simpa using h) c hc
    simp only [flat, List.getElem_cons_succ]
    rw [List.getElem?_append_right (by simp [RN.cells]; omega), ← ih]
    congr 1
    simp [RN.cells]; omega
theorem cells_one (r : RN) (x : Nd) : ∀ u ∈ r.cells x, u.oneCell' = true := by
  intro u hu
  simp only [RN.cells, List.mem_cons, List.not_mem_nil, or_false] at hu
  rcases hu with rfl | rfl | rfl | rfl | rfl <;> rfl
/-- blocks that are none of a branch's in the making -/
def Gd (F : Nat → Prop) (gx : Nat) (vk xk : Value) (b : Nat) : Prop := F b ∧ gx < b ∧ vk.ownBlock ≠ some b ∧ xk.ownBlock ≠ some b
def kidOf (ks : List Nd) (i : Nat) : Nd := ks.getD i .none
theorem kidOf_at {ks : List Nd} {i : Nat} (h : i < ks.length) : kidOf ks i = ks[i] := by simp [kidOf, List.getD_eq_getElem?_getD, h]
theorem someTo_list (ks : List Nd) : someTo (kidOf ks) ks.length = true ↔ ∀ x ∈ ks, x ≠ .none := by
  rw [someTo_iff]
  constructor
  · intro h x hx
    obtain ⟨i, hi, rfl⟩ := List.getElem_of_mem hx
    have := h i hi
    rwa [kidOf_at hi] at this
  · intro h i hi
    rw [kidOf_at hi]
    exact h _ (List.getElem_mem hi)
theorem someTo_congr {f g : Nat → Nd} : ∀ {n : Nat}, (∀ i, i < n → f i = g i) → someTo f n = someTo g n
  | 0, _ => rfl
  | n + 1, h => by rw [someTo, someTo, someTo_congr fun i hi => h i (by omega), h n (by omega)]
theorem kidOf_snoc (ks : List Nd) (x : Nd) : (∀ i, i < ks.length → kidOf (ks ++ [x]) i = kidOf ks i) ∧ kidOf (ks ++ [x]) ks.length = x := by
  constructor
  · intro i hi
    rw [kidOf_at hi, kidOf_at (by simp; omega), List.getElem_append_left hi]
  · rw [kidOf_at (by simp)]
    simp
theorem someTo_snoc (ks : List Nd) (x : Nd) : someTo (kidOf (ks ++ [x])) (ks.length + 1) = (someTo (kidOf ks) ks.length && (x.kind != 0)) := by
  rw [someTo, (kidOf_snoc ks x).2, someTo_congr (kidOf_snoc ks x).1]
/-- a branch in the making: gx holds the document's, vk its children, xk the document's children -/
structure Bld (F : Nat → Prop) (gx : Nat) (wb W : World) (l : Nat) (As : Option Addr) (cs : Nat) (vk xk : Value) (q : Nat) (vs xs : List Value) (ks : List Nd) : Prop where
  bel : Below gx wb W
  row : W.heap[gx]? = some (.cells #[.int .i64 3, .int .u64 0, .slice none 0 0, .slice As l cs, xk] 32 (0, 0))
  ownK : W.ownsRow (gx + 1) 26 1 vk ks.length vs
  ownX : W.ownsRow (gx + 1) 32 5 xk q xs
  few : q ≤ ks.length
  kids : ∀ i (h : i < ks.length), ∃ u, vs[i]? = some u ∧ Nde (Gd F gx vk xk) W ks[i] u
  docs : (∀ x ∈ ks, x ≠ .none) → q = ks.length ∧ ∃ rs : List RN, rs.length = ks.length ∧ xs = flat (ks.zip rs) ∧ ∀ i (h1 : i < ks.length) (h2 : i < rs.length), Mde (Gd F gx vk xk) W ks[i] rs[i]
theorem Bld.below {F : Nat → Prop} {gx : Nat} {wb W W' : World} {l : Nat} {As : Option Addr} {cs : Nat} {vk xk : Value} {q : Nat} {vs xs : List Value} {ks : List Nd} (h : Bld F gx wb W l As cs vk xk q vs xs ks) (hb : Below W.heap.size W W') : Bld F gx wb W' l As cs vk xk q vs xs ks := by
  have hg : gx < W.heap.size := (Array.getElem?_eq_some_iff.1 h.row).1
  refine ⟨h.bel.trans (hb.mono (Nat.le_of_lt hg)), (hb.block gx hg).trans h.row, own_below h.ownK hb, own_below h.ownX hb, h.few, fun i hi => ?_, fun hk => ?_⟩
  · obtain ⟨u, h1, h2⟩ := h.kids i hi
    exact ⟨u, h1, h2.below hb⟩
  · obtain ⟨h1, rs, h2, h3, h4⟩ := h.docs hk
    exact ⟨h1, rs, h2, h3, fun i a b => (h4 i a b).below hb⟩
theorem Bld.gx {F : Nat → Prop} {gx : Nat} {wb W : World} {l : Nat} {As : Option Addr} {cs : Nat} {vk xk : Value} {q : Nat} {vs xs : List Value} {ks : List Nd} (h : Bld F gx wb W l As cs vk xk q vs xs ks) : gx < W.heap.size := (Array.getElem?_eq_some_iff.1 h.row).1
/-- a child that is none -/
theorem Bld.addNone {F : Nat → Prop} {gx : Nat} {wb W W' : World} {l : Nat} {As : Option Addr} {cs : Nat} {vk xk vk' : Value} {q : Nat} {vs xs : List Value} {ks : List Nd} (h : Bld F gx wb W l As cs vk xk q vs xs ks)
    (ho : W'.ownsRow (gx + 1) 26 1 vk' (ks.length + 1) (vs ++ [.nilIface])) (hg : But (fun b => vk.ownBlock = some b) W W') (hob : vk'.ownBlock = vk.ownBlock ∨ ∃ b, vk'.ownBlock = some b ∧ W.heap.size ≤ b) :
    Bld F gx wb W' l As cs vk' xk q (vs ++ [.nilIface]) xs (ks ++ [.none]) := by
  have hgx := h.gx
  have hlo : ∀ b, vk.ownBlock = some b → gx + 1 ≤ b := fun b hb => (own_lt h.ownK hb).1
  have hvl := h.ownK.1
  rw [Nat.mul_one] at hvl
  have M : ∀ b, b < W.heap.size → Gd F gx vk xk b → Gd F gx vk' xk b := fun b hb hk => ⟨hk.1, hk.2.1, fun e => by
    rcases hob with e2 | ⟨c, e2, e3⟩
    · exact hk.2.2.1 (e2 ▸ e)
    · rw [e2] at e; injection e with e; omega, hk.2.2.2⟩
  refine ⟨h.bel.trans (hg.below (Nat.le_of_lt hgx) fun k hk => by have := hlo k hk; omega), (hg.block gx hgx fun e => by have := hlo gx e; omega).trans h.row, by simpa using ho,
    own_kept h.ownX fun g hgg => hg.block g (own_lt h.ownX hgg).2.1 fun e => own_ne h.ownK h.ownX (by decide) g e hgg, by have := h.few; simp; omega, fun i hi => ?_, fun hk => absurd rfl (hk .none (by simp))⟩
  rcases Nat.lt_or_ge i ks.length with g | g
  · obtain ⟨u, h1, h2⟩ := h.kids i g
    refine ⟨u, by rw [List.getElem?_append_left (by omega)]; exact h1, ?_⟩
    rw [List.getElem_append_left g]
    have h3 := (h2.mono (G := fun b => Gd F gx vk xk b ∧ b < W.heap.size) (fun b hb hk => ⟨hk, hb⟩)).kept (hg.kept fun k hk e => hk.1.2.2.1 e)
    exact h3.mono fun b _ hk => M b hk.2 hk.1
  · obtain rfl : i = ks.length := by simp at hi; omega
    refine ⟨.nilIface, by rw [List.getElem?_append_right (by omega), hvl]; simp, ?_⟩
    simp [Nde]
/-- a child more -/
theorem Bld.add {F : Nat → Prop} {gx : Nat} {wb W W3 : World} {l : Nat} {As : Option Addr} {cs : Nat} {vk xk vk' xk' : Value} {q : Nat} {vs xs : List Value} {ks : List Nd} {x : Nd} {v : Value} {r : RN} (h : Bld F gx wb W l As cs vk xk q vs xs ks)
    (hv : Nde (Gd F gx vk xk) W x v) (hr : Mde (Gd F gx vk xk) W x r) (B : But (fun b => vk.ownBlock = some b ∨ xk.ownBlock = some b) W W3)
    (oK : W3.ownsRow (gx + 1) 26 1 vk' (ks.length + 1) (vs ++ [v])) (oX : W3.ownsRow (gx + 1) 32 5 xk' (q + 1) (xs ++ r.cells x))
    (bK : vk'.ownBlock = vk.ownBlock ∨ ∃ b, vk'.ownBlock = some b ∧ W.heap.size ≤ b) (bX : xk'.ownBlock = xk.ownBlock ∨ ∃ b, xk'.ownBlock = some b ∧ W.heap.size ≤ b) :
    Bld F gx wb (W3.setCell ⟨gx, 4, none⟩ xk') l As cs vk' xk' (q + 1) (vs ++ [v]) (xs ++ r.cells x) (ks ++ [x]) := by
  have hgx := h.gx
  have hloK : ∀ b, vk.ownBlock = some b → gx + 1 ≤ b := fun b hb => (own_lt h.ownK hb).1
  have hloX : ∀ b, xk.ownBlock = some b → gx + 1 ≤ b := fun b hb => (own_lt h.ownX hb).1
  have hvl := h.ownK.1
  rw [Nat.mul_one] at hvl
  have r3 : W3.heap[gx]? = some (.cells #[.int .i64 3, .int .u64 0, .slice none 0 0, .slice As l cs, xk] 32 (0, 0)) := (B.block gx hgx fun e => by
    rcases e with e | e
    · have := hloK gx e; omega
    · have := hloX gx e; omega).trans h.row
  have r4 : (W3.setCell ⟨gx, 4, none⟩ xk').heap[gx]? = some (.cells #[.int .i64 3, .int .u64 0, .slice none 0 0, .slice As l cs, xk'] 32 (0, 0)) := by
    rw [heap_setCell_same W3 gx 4 _ 32 xk' r3]; rfl
  have other : ∀ k, k ≠ gx → (W3.setCell ⟨gx, 4, none⟩ xk').heap[k]? = W3.heap[k]? := fun k hk => Below.heap_setCell W3 ⟨gx, 4, none⟩ xk' k hk
  have hsz : (W3.setCell ⟨gx, 4, none⟩ xk').heap.size = W3.heap.size := by simp [World.setCell]
  have M : ∀ b, b < W.heap.size → Gd F gx vk xk b → Gd F gx vk' xk' b := fun b hb hk => ⟨hk.1, hk.2.1, fun e => by
    rcases bK with e2 | ⟨c, e2, e3⟩
    · exact hk.2.2.1 (e2 ▸ e)
    · rw [e2] at e; injection e with e; omega, fun e => by
    rcases bX with e2 | ⟨c, e2, e3⟩
    · exact hk.2.2.2 (e2 ▸ e)
    · rw [e2] at e; injection e with e; omega⟩
  have K3 : Kept (fun b => Gd F gx vk xk b ∧ b < W.heap.size) W W3 := B.kept fun k hk e => by
    rcases e with e | e
    · exact hk.1.2.2.1 e
    · exact hk.1.2.2.2 e
  have K4 : Kept (fun b => Gd F gx vk xk b ∧ b < W.heap.size) W3 (W3.setCell ⟨gx, 4, none⟩ xk') := fun b hb _ => other b (by have := hb.1.2.1; omega)
  have goN : ∀ {y : Nd} {u : Value}, Nde (Gd F gx vk xk) W y u → Nde (Gd F gx vk' xk') (W3.setCell ⟨gx, 4, none⟩ xk') y u := fun h2 =>
    (((h2.mono (G := fun b => Gd F gx vk xk b ∧ b < W.heap.size) (fun b hb hk => ⟨hk, hb⟩)).kept K3).kept K4).mono fun b _ hk => M b hk.2 hk.1
  have goM : ∀ {y : Nd} {s : RN}, Mde (Gd F gx vk xk) W y s → Mde (Gd F gx vk' xk') (W3.setCell ⟨gx, 4, none⟩ xk') y s := fun h2 =>
    (((h2.mono (G := fun b => Gd F gx vk xk b ∧ b < W.heap.size) (fun b hb hk => ⟨hk, hb⟩)).kept K3 B.size).kept K4 (Nat.le_of_eq hsz.symm)).mono fun b _ hk => M b hk.2 hk.1
  refine ⟨(h.bel.trans (B.below (Nat.le_of_lt hgx) fun k hk => by
      rcases hk with hk | hk
      · have := hloK k hk; omega
      · have := hloX k hk; omega)).setCell (p := ⟨gx, 4, none⟩) (Nat.le_refl _) _, r4, ?_, ?_, by have := h.few; simp; omega, fun i hi => ?_, fun hk => ?_⟩
  · rw [List.length_append]
    exact own_kept oK fun g hg => other g (by have := (own_lt oK hg).1; omega)
  · exact own_kept oX fun g hg => other g (by have := (own_lt oX hg).1; omega)
  · rcases Nat.lt_or_ge i ks.length with g | g
    · obtain ⟨u, h1, h2⟩ := h.kids i g
      refine ⟨u, by rw [List.getElem?_append_left (by omega)]; exact h1, ?_⟩
      rw [List.getElem_append_left g]
      exact goN h2
    · obtain rfl : i = ks.length := by simp at hi; omega
      refine ⟨v, by rw [List.getElem?_append_right (by omega), hvl]; simp, ?_⟩
      rw [List.getElem_append_right (Nat.le_refl _)]
      simpa using goN hv
  · obtain ⟨h1, rs, h2, h3, h4⟩ := h.docs fun y hy => hk y (by simp [hy])
    refine ⟨by simp [h1], rs ++ [r], by simp [h2], ?_, fun i a b => ?_⟩
    · rw [List.zip_append h2.symm, h3]
      simp [flat_snoc]
    · rcases Nat.lt_or_ge i ks.length with g | g
      · rw [List.getElem_append_left g, List.getElem_append_left (by omega)]
        exact goM (h4 i g (by omega))
      · obtain rfl : i = ks.length := by simp at a; omega
        rw [List.getElem_append_right (Nat.le_refl _), List.getElem_append_right (by omega)]
        simpa [h2] using goM hr
/-- the document's branch, made -/
theorem Bld.mde {F : Nat → Prop} {gx : Nat} {wb W : World} {l : Nat} {As : Option Addr} {cs m : Nat} {vk xk : Value} {q : Nat} {vs xs : List Value} {ks : List Nd} (h : Bld F gx wb W l As cs vk xk q vs xs ks) (hF : ∀ b, gx < b → F b) (hs : Bt.Ints W As (Bt.lst m 32)) (hi : Inb F W As) (h0 : 0 < ks.length) (hall : ∀ x ∈ ks, x ≠ .none) :
    ∃ A c, xk = .slice A ks.length c ∧ Mde F W (.bran m ks.length (kidOf ks)) ⟨none, 0, As, cs, A, c⟩ := by
  obtain ⟨h1, rs, h2, h3, h4⟩ := h.docs hall
  subst h1
  obtain ⟨A, c, rfl, hr⟩ := row_reads5 h.ownX
  obtain ⟨g, rfl, hg1, hg2, hr⟩ := hr h0
  refine ⟨_, c, rfl, hs, hi, g, rfl, hF g (by omega), hg2, fun i hik => ?_⟩
  have hir : i < rs.length := by omega
  have hz : i < (ks.zip rs).length := by simp; omega
  have hat : ∀ c, c < 5 → W.cell? ⟨g, i * 5 + c, none⟩ = ((rs[i]).cells (ks[i]))[c]? := fun c hc => by
    rw [hr (i * 5 + c) (by omega), h3, flat_at _ i hz c hc]
    simp
  rw [kidOf_at hik]
  refine ⟨rs[i], ⟨hat 0 (by decide), hat 1 (by decide), hat 2 (by decide), hat 3 (by decide), hat 4 (by decide)⟩, (h4 i hik hir).mono fun b _ hk => hk.1⟩
/-- its children, for the program's, where all behind gx is as it was -/
theorem Bld.nds {F : Nat → Prop} {gx : Nat} {wb W W' : World} {l : Nat} {As : Option Addr} {cs : Nat} {vk xk : Value} {q : Nat} {vs xs : List Value} {ks : List Nd} (h : Bld F gx wb W l As cs vk xk q vs xs ks) (hk : ∀ k, gx < k → k < W.heap.size → W'.heap[k]? = W.heap[k]?) (hs : W.heap.size ≤ W'.heap.size) :
    ∃ A c, vk = .slice A ks.length c ∧ Nds F W' A ks.length (kidOf ks) := by
  obtain ⟨hl, A, c, rfl, _, hr⟩ := row_reads1 h.ownK
  refine ⟨A, c, rfl, ?_⟩
  rcases Nat.eq_zero_or_pos ks.length with h0 | h0
  · exact .inl h0
  · obtain ⟨g, rfl, hg1, hg2, hr⟩ := hr h0
    refine .inr ⟨g, vs, rfl, Nat.lt_of_lt_of_le hg2 hs, hl, fun i hi => ?_⟩
    obtain ⟨u, k1, k2⟩ := h.kids i (by omega)
    have e : vs[i] = u := by
      rw [List.getElem?_eq_getElem hi] at k1
      exact Option.some.inj k1
    have hcel := hr i (by omega)
    rw [List.getElem?_eq_getElem hi] at hcel
    refine ⟨(cell_kept (hk g (by omega) hg2)).trans hcel, ?_⟩
    rw [kidOf_at (by omega), e]
    have K : Kept (fun b => F b ∧ gx < b) W W' := fun b hb hlt => hk b hb.2 hlt
    exact ((k2.mono (G := fun b => F b ∧ gx < b) fun b _ hk => ⟨hk.1, hk.2.1⟩).kept K).mono fun b _ hk => hk.1
theorem Nds.below {F : Nat → Prop} {w w' : World} {A : Option Addr} {k : Nat} {kid : Nat → Nd} (h : Nds F w A k kid) (hb : Below w.heap.size w w') : Nds F w' A k kid := by
  rcases h with h | ⟨g, vs, h1, h2, h3, h4⟩
  · exact .inl h
  · exact .inr ⟨g, vs, h1, Nat.lt_of_lt_of_le h2 hb.size, h3, fun i hi => ⟨(hb.cell (p := ⟨g, i, none⟩) h2).trans (h4 i hi).1, (h4 i hi).2.below hb⟩⟩
end Go.Proofs.Ytfhnmmiakknilaa
