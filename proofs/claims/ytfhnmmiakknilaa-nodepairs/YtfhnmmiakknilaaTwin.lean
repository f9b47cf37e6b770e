/-
  Two appends in whatever order: a node to the program's children, and one to the document's: what each operation yields, and what stays.
-/
import Derived.Test.YtfhnmmiakknilaaMix
namespace Go.Proofs.Ytfhnmmiakknilaa
open Go.RowKit
set_option maxHeartbeats 4000000
set_option maxRecDepth 100000
/-- what the operations yield -/
def TG (N gx : Nat) (vk xk nv : Value) (vs xs five : List Value) (j q : Nat) : Nat → Value → World → Prop
  | 0, v, _ => v = vk
  | 1, v, _ => v = nv
  | 2, v, W => ∃ g, v = .slice (some ⟨g, 0, none⟩) 1 1 ∧ N ≤ g ∧ W.heap[g]? = some (.cells #[nv] 26 (0, 0))
  | 3, v, W => W.ownsRow (gx + 1) 26 1 v (j + 1) (vs ++ [nv]) ∧ (v.ownBlock = vk.ownBlock ∨ ∃ b, v.ownBlock = some b ∧ N ≤ b)
  | 4, v, _ => v = .pointer (some ⟨gx, 4, none⟩)
  | 5, v, _ => v = xk
  | 6, v, _ => v = .agg five.toArray
  | 7, v, W => ∃ g, v = .slice (some ⟨g, 0, none⟩) 1 1 ∧ N ≤ g ∧ W.heap[g]? = some (.cells five.toArray 32 (0, 0))
  | 8, v, W => W.ownsRow (gx + 1) 32 5 v (q + 1) (xs ++ five) ∧ (v.ownBlock = xk.ownBlock ∨ ∃ b, v.ownBlock = some b ∧ N ≤ b)
  | _, _, _ => True
/-- what stays -/
structure TI (gx : Nat) (wy : World) (vk xk : Value) (vs xs : List Value) (j q : Nat) (listed : Array Bool) (W : World) : Prop where
  but : But (fun b => vk.ownBlock = some b ∨ xk.ownBlock = some b) wy W
  rowK : listed.getD 3 false = false → W.ownsRow (gx + 1) 26 1 vk j vs
  rowX : listed.getD 8 false = false → W.ownsRow (gx + 1) 32 5 xk q xs
theorem row_below {w w' : World} {g : Nat} {o : Obj} (h : w.heap[g]? = some o) (hb : Below w.heap.size w w') : w'.heap[g]? = some o := by
  rw [hb.block g (Array.getElem?_eq_some_iff.1 h).1]; exact h
theorem TG.below {N gx : Nat} {vk xk nv : Value} {vs xs five : List Value} {j q i : Nat} {v : Value} {W W' : World} (h : TG N gx vk xk nv vs xs five j q i v W) (hb : Below W.heap.size W W') : TG N gx vk xk nv vs xs five j q i v W' := by
  unfold TG at h ⊢
  split at h
  · exact h
  · exact h
  · obtain ⟨g, e, h1, h2⟩ := h; exact ⟨g, e, h1, row_below h2 hb⟩
  · exact ⟨own_below h.1 hb, h.2⟩
  · exact h
  · exact h
  · exact h
  · obtain ⟨g, e, h1, h2⟩ := h; exact ⟨g, e, h1, row_below h2 hb⟩
  · exact ⟨own_below h.1 hb, h.2⟩
  · trivial
/-- .. where an elder row grows -/
theorem TG.grown {N gx : Nat} {vk xk nv : Value} {vs xs five : List Value} {j q i : Nat} {v : Value} {W W' : World} {r : Option Nat} (h : TG N gx vk xk nv vs xs five j q i v W) (hg : W.grownBy W' r) (hr : ∀ b, r = some b → b < N) (h3 : i = 3 → ∀ b, v.ownBlock = some b → r ≠ some b) (h8 : i = 8 → ∀ b, v.ownBlock = some b → r ≠ some b) :
    TG N gx vk xk nv vs xs five j q i v W' := by
  have k : ∀ g, N ≤ g → g < W.heap.size → W'.heap[g]? = W.heap[g]? := fun g h1 h2 => hg.block g h2 fun e => by have := hr g e.symm; omega
  unfold TG at h ⊢
  split at h
  · exact h
  · exact h
  · obtain ⟨g, e, h1, h2⟩ := h; exact ⟨g, e, h1, (k g h1 (Array.getElem?_eq_some_iff.1 h2).1).trans h2⟩
  · exact ⟨own_kept h.1 fun g hgg => hg.block g (own_lt h.1 hgg).2.1 (fun e => h3 rfl g hgg e.symm), h.2⟩
  · exact h
  · exact h
  · exact h
  · obtain ⟨g, e, h1, h2⟩ := h; exact ⟨g, e, h1, (k g h1 (Array.getElem?_eq_some_iff.1 h2).1).trans h2⟩
  · exact ⟨own_kept h.1 fun g hgg => hg.block g (own_lt h.1 hgg).2.1 (fun e => h8 rfl g hgg e.symm), h.2⟩
  · trivial
theorem TI.same {gx : Nat} {wy W : World} {vk xk : Value} {vs xs : List Value} {j q i : Nat} {listed : Array Bool} (h : TI gx wy vk xk vs xs j q listed W) (h3 : i ≠ 3) (h8 : i ≠ 8) : TI gx wy vk xk vs xs j q (listed.setIfInBounds i true) W :=
  ⟨h.but, fun e => h.rowK (by rw [getD_set_ne false h3] at e; exact e), fun e => h.rowX (by rw [getD_set_ne false h8] at e; exact e)⟩
theorem TI.alloc {gx : Nat} {wy W : World} {vk xk : Value} {vs xs : List Value} {j q i : Nat} {listed : Array Bool} (h : TI gx wy vk xk vs xs j q listed W) (h3 : i ≠ 3) (h8 : i ≠ 8) (o : Obj) : TI gx wy vk xk vs xs j q (listed.setIfInBounds i true) (W.alloc o) := by
  have hb : Below W.heap.size W (W.alloc o) := (Below.refl _ _).alloc (Nat.le_refl _) _
  exact ⟨h.but.then hb, fun e => own_below (h.rowK (by rw [getD_set_ne false h3] at e; exact e)) hb, fun e => own_below (h.rowX (by rw [getD_set_ne false h8] at e; exact e)) hb⟩
theorem getD_set_self {listed : Array Bool} {i : Nat} (h : i < listed.size) : (listed.setIfInBounds i true).getD i false = true := by simp [Array.getD, h]
/-- append of elements that lie in a block -/
theorem app_at {B e size bytes n g : Nat} {t ty : TypeId} {z v : Value} {xs news : List Value} {W : World} (hu : Try.prog.underlying t = some (.slice e)) (hinf : (Try.prog.info? e).map (fun i => (i.zero, i.size, i.bytes)) = some (some z, size, bytes)) (hz : z.cells.size = size) (hs0 : 0 < size) (hby : bytes ≤ 200)
    (h : W.ownsRow B e size v n xs) (hl : news.length = size) (hr : W.heap[g]? = some (.cells news.toArray e (0, 0))) (h1 : ∀ u ∈ news, u.oneCell' = true) (hn : n ≤ 1000) (hB : B ≤ W.heap.size) :
    ∃ v' W', (Builtin.append_ #[t, t] ty #[v, .slice (some ⟨g, 0, none⟩) 1 1]).run Try.prog W = .ok v' W' ∧ W'.ownsRow B e size v' (n + 1) (xs ++ news) ∧ W.grownBy W' v.ownBlock ∧ (v'.ownBlock = v.ownBlock ∨ v'.ownBlock = some W.heap.size) := by
  obtain ⟨i0, hi, hz0, hz1, hz2⟩ := info_parts hinf
  obtain ⟨v', W', q1, q2, q3, _, q5⟩ := run_append_own_at (P := Try.prog) (w := W) B t ty e i0 z size bytes hu hi hz0 hz1 hz2 hz hs0 v n xs h ⟨g, 0, none⟩ 1 1 news (by rw [hl, Nat.one_mul]) (fun j u hj => by
    rw [Go.WideShapes.add_plain, Nat.zero_add, cell_of_row W g j _ e (0, 0) hr, ← hj]; simp) h1
    (by unfold maxLen; omega) (by have := Nat.mul_le_mul (show n + 1 ≤ 1001 by omega) hby; omega) hB
  exact ⟨v', W', q1, q2, q3, q5⟩
theorem TI.appK {gx N : Nat} {wy W W' : World} {vk xk nv v' : Value} {vs xs five : List Value} {j q : Nat} {listed : Array Bool} (h : TI gx wy vk xk vs xs j q listed W) (hN : N = wy.heap.size) (hl : 3 < listed.size) (h3 : listed.getD 3 false = false) (ho : wy.ownsRow (gx + 1) 26 1 vk j vs)
    (hg : W.grownBy W' vk.ownBlock) (oK : W'.ownsRow (gx + 1) 26 1 v' (j + 1) (vs ++ [nv])) (hob : v'.ownBlock = vk.ownBlock ∨ v'.ownBlock = some W.heap.size) :
    TI gx wy vk xk vs xs j q (listed.setIfInBounds 3 true) W' ∧ TG N gx vk xk nv vs xs five j q 3 v' W' ∧ ∀ i v, i ≠ 3 → TG N gx vk xk nv vs xs five j q i v W → TG N gx vk xk nv vs xs five j q i v W' := by
  have hK := h.rowK h3
  have hlt : ∀ b, vk.ownBlock = some b → b < N := fun b hb => by rw [hN]; exact (own_lt ho hb).2.1
  refine ⟨⟨h.but.grown hg fun k hk => .inl hk, fun e => (by rw [getD_set_self hl] at e; cases e), fun e => own_kept (h.rowX (by rw [getD_set_ne false (by decide)] at e; exact e)) fun g hgg => ?_⟩, ⟨oK, ?_⟩, fun i v hi hv => hv.grown hg hlt (fun e => absurd e hi) fun e b hb e2 => ?_⟩
  · have hX := h.rowX (by rw [getD_set_ne false (by decide)] at e; exact e)
    exact hg.block g (own_lt hX hgg).2.1 fun e2 => own_ne hK hX (by decide) g e2.symm hgg
  · rcases hob with e | e
    · exact .inl e
    · exact .inr ⟨_, e, by rw [hN]; exact h.but.size⟩
  · subst e
    exact own_ne hK hv.1 (by decide) b e2 hb
theorem TI.appX {gx N : Nat} {wy W W' : World} {vk xk nv v' : Value} {vs xs five : List Value} {j q : Nat} {listed : Array Bool} (h : TI gx wy vk xk vs xs j q listed W) (hN : N = wy.heap.size) (hl : 8 < listed.size) (h8 : listed.getD 8 false = false) (ho : wy.ownsRow (gx + 1) 32 5 xk q xs)
    (hg : W.grownBy W' xk.ownBlock) (oX : W'.ownsRow (gx + 1) 32 5 v' (q + 1) (xs ++ five)) (hob : v'.ownBlock = xk.ownBlock ∨ v'.ownBlock = some W.heap.size) :
    TI gx wy vk xk vs xs j q (listed.setIfInBounds 8 true) W' ∧ TG N gx vk xk nv vs xs five j q 8 v' W' ∧ ∀ i v, i ≠ 8 → TG N gx vk xk nv vs xs five j q i v W → TG N gx vk xk nv vs xs five j q i v W' := by
  have hX := h.rowX h8
  have hlt : ∀ b, xk.ownBlock = some b → b < N := fun b hb => by rw [hN]; exact (own_lt ho hb).2.1
  refine ⟨⟨h.but.grown hg fun k hk => .inr hk, fun e => own_kept (h.rowK (by rw [getD_set_ne false (by decide)] at e; exact e)) fun g hgg => ?_, fun e => (by rw [getD_set_self hl] at e; cases e)⟩, ⟨oX, ?_⟩, fun i v hi hv => hv.grown hg hlt (fun e b hb e2 => ?_) fun e => absurd e hi⟩
  · have hK := h.rowK (by rw [getD_set_ne false (by decide)] at e; exact e)
    exact hg.block g (own_lt hK hgg).2.1 fun e2 => own_ne hX hK (by decide) g e2.symm hgg
  · rcases hob with e | e
    · exact .inl e
    · exact .inr ⟨_, e, by rw [hN]; exact h.but.size⟩
  · subst e
    exact own_ne hX hv.1 (by decide) b e2 hb
theorem wpOp_app {P : Program} {ops : Array Oper} {Q : Exit → Act → World → Prop} {i : Nat} {K : Act → World → Prop} {a : Act} {w w' : World} {t : TypeId} {s x : Operand} {v y v' : Value} (o : Oper) (hi : ops[i]? = some o) (hg : o.guard = none) (ho : o.op = .call { callee := .builtin .append, args := #[s, x], argTypes := #[t, t] })
    (hs : a.eval s = v) (hx : a.eval x = y) (hr : (Builtin.append_ #[t, t] o.type #[v, y]).run P w = .ok v' w') (hk : K (a.put o.dst v') w') : wpOp P ops Q i K a w := by
  refine wpOp_of o hi hg ?_
  unfold Oper.wp execOp
  simp only [ho, resolve, invoke, builtin, Sem.run_bind, Sem.run_pure, Result.andThen_ok, List.map_toArray, List.map_cons, List.map_nil, hs, hx, hr]
  exact hk
end Go.Proofs.Ytfhnmmiakknilaa
