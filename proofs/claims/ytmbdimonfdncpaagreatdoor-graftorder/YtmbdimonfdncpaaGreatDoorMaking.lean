/-
  Rows of elements of any size that a call owns, and what appends leave; how a list of the document's nodes lies in a row; a branch in the making.
-/
import Derived.Test.YtmbdimonfdncpaaGreatDoorBranch
namespace Go.Proofs.YtmbdimonfdncpaaGreatDoor
open Go.RowKit
set_option maxHeartbeats 4000000
set_option maxRecDepth 100000
/-- all lies as it lay, but for the blocks of X -/
structure But (X : Nat → Prop) (w w' : World) : Prop where
  os : w'.os = w.os
  tape : w'.tape = w.tape
  output : w'.output = w.output
  size : w.heap.size ≤ w'.heap.size
  block : ∀ k, k < w.heap.size → ¬ X k → w'.heap[k]? = w.heap[k]?
theorem But.refl (X : Nat → Prop) (w : World) : But X w w := ⟨rfl, rfl, rfl, Nat.le_refl _, fun _ _ _ => rfl⟩
theorem But.then {X : Nat → Prop} {a b c : World} (h : But X a b) (k : Below b.heap.size b c) : But X a c :=
  ⟨k.os.trans h.os, k.tape.trans h.tape, k.output.trans h.output, Nat.le_trans h.size k.size, fun i hi hx => (k.block i (Nat.lt_of_lt_of_le hi h.size)).trans (h.block i hi hx)⟩
theorem But.alloc {X : Nat → Prop} {a b : World} (h : But X a b) (o : Obj) : But X a (b.alloc o) := h.then ((Below.refl _ _).alloc (Nat.le_refl _) _)
theorem But.grown {X : Nat → Prop} {a b c : World} {r : Option Nat} (h : But X a b) (g : b.grownBy c r) (hr : ∀ k, r = some k → X k) : But X a c :=
  ⟨g.os.trans h.os, g.tape.trans h.tape, g.output.trans h.output, Nat.le_trans h.size g.size, fun i hi hx => (g.block i (Nat.lt_of_lt_of_le hi h.size) (fun e => hx (hr i e.symm))).trans (h.block i hi hx)⟩
theorem But.below {X : Nat → Prop} {B : Nat} {a b : World} (h : But X a b) (hB : B ≤ a.heap.size) (hX : ∀ k, X k → B ≤ k) : Below B a b :=
  ⟨h.os, h.tape, h.output, h.size, fun k hk => h.block k (Nat.lt_of_lt_of_le hk hB) fun e => by have := hX k e; omega⟩
theorem But.kept {X F : Nat → Prop} {a b : World} (h : But X a b) (hF : ∀ k, F k → ¬ X k) : Kept F a b := fun k hf hk => h.block k hk (hF k hf)
/-- where a row that is owned lies -/
theorem own_lt {w : World} {B e s n b : Nat} {v : Value} {xs : List Value} (h : w.ownsRow B e s v n xs) (hb : v.ownBlock = some b) : B ≤ b ∧ b < w.heap.size ∧ ∃ cur, w.heap[b]? = some (.cells cur e (0, 0)) := by
  rcases h.2 with ⟨rfl, _⟩ | ⟨g, cap, cur, rfl, h1, h2, _⟩
  · cases hb
  · simp only [Value.ownBlock, Option.some.injEq] at hb
    subst hb
    exact ⟨h1, (Array.getElem?_eq_some_iff.1 h2).1, cur, h2⟩
theorem own_kept {w w' : World} {B e s n : Nat} {v : Value} {xs : List Value} (h : w.ownsRow B e s v n xs) (k : ∀ g, v.ownBlock = some g → w'.heap[g]? = w.heap[g]?) : w'.ownsRow B e s v n xs := by
  refine ⟨h.1, ?_⟩
  rcases h.2 with h2 | ⟨g, cap, cur, rfl, h1, h2, r⟩
  · exact .inl h2
  · exact .inr ⟨g, cap, cur, rfl, h1, (k g rfl).trans h2, r⟩
theorem own_below {w w' : World} {B e s n : Nat} {v : Value} {xs : List Value} (h : w.ownsRow B e s v n xs) (hb : Below w.heap.size w w') : w'.ownsRow B e s v n xs := own_kept h fun g hg => hb.block g (own_lt h hg).2.1
/-- rows of unlike elements are two blocks -/
theorem own_ne {w : World} {B e s n B' e' s' n' : Nat} {v v' : Value} {xs xs' : List Value} (h : w.ownsRow B e s v n xs) (h' : w.ownsRow B' e' s' v' n' xs') (he : e ≠ e') : ∀ b, v.ownBlock = some b → v'.ownBlock ≠ some b := by
  intro b hb hb'
  obtain ⟨_, _, c1, h1⟩ := own_lt h hb
  obtain ⟨_, _, c2, h2⟩ := own_lt h' hb'
  rw [h1] at h2
  injection h2 with h2
  injection h2 with _ h2
  exact he h2
/-- append of some elements that lie in memory, where a region draws its order -/
theorem step_appN {B : Nat} {w : World} {ops : Array Oper} {o : Oper} {a : Act} {K : Act → World → Prop} {Q : Exit → Act → World → Prop} {E : Prop} (t e : TypeId) (z : Value) (size bytes : Nat) (hu : Tryz.prog.underlying t = some (.slice e)) (hinf : (Tryz.prog.info? e).map (fun i => (i.zero, i.size, i.bytes)) = some (some z, size, bytes)) (hz : z.cells.size = size) (hs0 : 0 < size) (hby : bytes ≤ 200)
    (hgd : o.guard = none) (s x : Operand) (ho : o.op = .call { callee := .builtin .append, args := #[s, x], argTypes := #[t, t] }) (v : Value) (n : Nat) (xs : List Value) (h : w.ownsRow B e size v n xs) (p : Addr) (m c : Nat) (news : List Value) (hl : news.length = m * size) (hnews : ∀ j u, news[j]? = some u → w.cell? (p.add j) = some u) (h1 : ∀ u ∈ news, u.oneCell' = true)
    (hs : a.eval s = v) (hx : a.eval x = .slice (some p) m c) (hn : n + m ≤ 100000) (hB : B ≤ w.heap.size)
    (hK : ∀ v' w', w'.ownsRow B e size v' (n + m) (xs ++ news) → w.grownBy w' v.ownBlock → (v'.ownBlock = v.ownBlock ∨ v'.ownBlock = some w.heap.size) → K (a.put o.dst v') w') : if Region.wanted o (yielded ops a.tmps) = true then Oper.wp Tryz.prog o a w K Q else E := by
  have hw : Region.wanted o (yielded ops a.tmps) = true := by simp [Region.wanted, hgd]
  rw [if_pos hw]
  obtain ⟨i0, hi, hz0, hz1, hz2⟩ := info_parts hinf
  obtain ⟨v', w', hr, hown, hg, _, hob⟩ := run_append_own_at (P := Tryz.prog) (w := w) B t o.type e i0 z size bytes hu hi hz0 hz1 hz2 hz hs0 v n xs h p m c news hl hnews h1
    (by unfold maxLen; omega) (by have := Nat.mul_le_mul hn hby; omega) hB
  unfold Oper.wp execOp
  simp only [ho, resolve, invoke, builtin, Sem.run_bind, Sem.run_pure, Result.andThen_ok, List.map_toArray, List.map_cons, List.map_nil, hs, hx, hr]
  exact hK v' w' hown hg hob
/-- the same in a region of one order -/
theorem list_appAt {B : Nat} {w : World} {ops : Array Oper} {rest : List Oper} {o : Oper} {a : Act} {Q : Exit → Act → World → Prop} (t e : TypeId) (z : Value) (size bytes : Nat) (hu : Tryz.prog.underlying t = some (.slice e)) (hinf : (Tryz.prog.info? e).map (fun i => (i.zero, i.size, i.bytes)) = some (some z, size, bytes)) (hz : z.cells.size = size) (hs0 : 0 < size) (hby : bytes ≤ 200)
    (hgd : o.guard = none) (s x : Operand) (ho : o.op = .call { callee := .builtin .append, args := #[s, x], argTypes := #[t, t] }) (v : Value) (n : Nat) (xs : List Value) (h : w.ownsRow B e size v n xs) (p : Addr) (m c : Nat) (news : List Value) (hl : news.length = m * size) (hnews : ∀ j u, news[j]? = some u → w.cell? (p.add j) = some u) (h1 : ∀ u ∈ news, u.oneCell' = true)
    (hs : a.eval s = v) (hx : a.eval x = .slice (some p) m c) (hn : n + m ≤ 100000) (hB : B ≤ w.heap.size)
    (hK : ∀ v' w', w'.ownsRow B e size v' (n + m) (xs ++ news) → w.grownBy w' v.ownBlock → (v'.ownBlock = v.ownBlock ∨ v'.ownBlock = some w.heap.size) → wpList Tryz.prog ops Q rest (a.put o.dst v') w') : wpList Tryz.prog ops Q (o :: rest) a w := by
  obtain ⟨i0, hi, hz0, hz1, hz2⟩ := info_parts hinf
  obtain ⟨v', w', hr, hown, hg, _, hob⟩ := run_append_own_at (P := Tryz.prog) (w := w) B t o.type e i0 z size bytes hu hi hz0 hz1 hz2 hz hs0 v n xs h p m c news hl hnews h1
    (by unfold maxLen; omega) (by have := Nat.mul_le_mul hn hby; omega) hB
  refine wpList_plain hgd fun _ hk => ?_
  unfold Oper.wp execOp
  simp only [ho, resolve, invoke, builtin, Sem.run_bind, Sem.run_pure, Result.andThen_ok, List.map_toArray, List.map_cons, List.map_nil, hs, hx, hr]
  exact hk _ _ (hK v' w' hown hg hob)
/-- how a row of elements of five cells reads -/
theorem row_reads5 {w : World} {B e n : Nat} {v : Value} {xs : List Value} (h : w.ownsRow B e 5 v n xs) : ∃ A c, v = .slice A n c ∧ (0 < n → ∃ g, A = some ⟨g, 0, none⟩ ∧ B ≤ g ∧ g < w.heap.size ∧ ∀ j, j < n * 5 → w.cell? ⟨g, j, none⟩ = xs[j]?) := by
  obtain ⟨hl, h⟩ := h
  rcases h with ⟨rfl, rfl⟩ | ⟨g, cap, cur, rfl, hb, hg, hc1, _, hsz, htk⟩
  · exact ⟨none, 0, rfl, fun h => by omega⟩
  · refine ⟨_, _, rfl, fun _ => ⟨g, rfl, hb, (Array.getElem?_eq_some_iff.1 hg).1, fun j hj => ?_⟩⟩
    rw [cell_of_row w g j cur e (0, 0) hg, ← htk, List.getElem?_take_of_lt (by omega)]
    simp
theorem Nds.below {F : Nat → Prop} {w w' : World} {A : Option Addr} {k : Nat} {kid : Nat → Nd} (h : Nds F w A k kid) (hb : Below w.heap.size w w') : Nds F w' A k kid := by
  rcases h with h | ⟨g, vs, h1, h2, h3, h4⟩
  · exact .inl h
  · exact .inr ⟨g, vs, h1, Nat.lt_of_lt_of_le h2 hb.size, h3, fun i hi => ⟨(hb.cell (p := ⟨g, i, none⟩) h2).trans (h4 i hi).1, (h4 i hi).2.below hb⟩⟩
end Go.Proofs.YtmbdimonfdncpaaGreatDoor
