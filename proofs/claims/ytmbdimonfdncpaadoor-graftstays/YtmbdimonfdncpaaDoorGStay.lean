/-
  GraftStays' round: a call's own bytes, made in whatever order, handed in, and written over; tries and their models laid to the earlier ones.
-/
import Derived.Test.YtmbdimonfdncpaaDoorGGrow
import Derived.Test.YtmbdimonfdncpaaDoorGLaws
namespace Go.Proofs.YtmbdimonfdncpaaDoor
open Go.RowKit
set_option maxHeartbeats 400000
set_option maxRecDepth 100000
theorem Tryd.infoNode : (Tryd.prog.info? 27).map (fun i => (i.zero, i.size, i.bytes)) = some (some .nilIface, 1, 16) := by kernel_rfl
theorem Tryd.infoPairs : (Tryd.prog.info? 28).map (fun i => (i.zero, i.size, i.bytes)) = some (some (.slice none 0 0), 1, 24) := by kernel_rfl
theorem byte_more (x : UInt8) : IntKind.u8.wrap (((x.toNat : Nat) : Int) + 1) = (((x + 1 : UInt8).toNat : Nat) : Int) := by
  have h := x.toNat_lt
  rw [UInt8.toNat_add]
  have h3 : (1 : UInt8).toNat = 1 := rfl
  rw [h3]
  simp only [IntKind.wrap_u8]
  omega
/-- a row of n bytes at least -/
def Brow (w : World) (g n : Nat) : Prop := ∃ cs, w.heap[g]? = some (.cells cs 5 (0, 0)) ∧ ∀ i, i < n → ∃ x : UInt8, cs[i]? = some (.int .u8 ((x.toNat : Nat) : Int))
theorem Brow.lt {w : World} {g n : Nat} (h : Brow w g n) : g < w.heap.size := by
  obtain ⟨cs, h, _⟩ := h
  exact (Array.getElem?_eq_some_iff.1 h).1
theorem Brow.keep {w w' : World} {g n : Nat} (h : Brow w g n) (k : w'.heap[g]? = w.heap[g]?) : Brow w' g n := by
  obtain ⟨cs, h, r⟩ := h
  exact ⟨cs, k.trans h, r⟩
theorem Brow.below {w w' : World} {g n : Nat} (h : Brow w g n) (k : Below w.heap.size w w') : Brow w' g n := h.keep (k.block g h.lt)
theorem Brow.cell {w : World} {g n i : Nat} (h : Brow w g n) (hi : i < n) : ∃ x : UInt8, w.cell? ⟨g, i, none⟩ = some (.int .u8 ((x.toNat : Nat) : Int)) ∧ w.frozen? ⟨g, i, none⟩ = false := by
  obtain ⟨cs, h, r⟩ := h
  obtain ⟨x, hx⟩ := r i hi
  exact ⟨x, by rw [cell_of_row w g i _ 5 (0, 0) h, hx], by simp [World.frozen?, h]⟩
theorem Brow.set {w : World} {g n b i : Nat} (h : Brow w g n) (x : UInt8) : Brow (w.setCell ⟨b, i, none⟩ (.int .u8 ((x.toNat : Nat) : Int))) g n := by
  by_cases e : b = g
  · subst e
    obtain ⟨cs, h, r⟩ := h
    refine ⟨cs.setIfInBounds i (.int .u8 ((x.toNat : Nat) : Int)), heap_setCell_same w b i _ 5 _ h, fun j hj => ?_⟩
    obtain ⟨y, hy⟩ := r j hj
    by_cases e : i = j
    · subst e
      exact ⟨x, by rw [Array.getElem?_setIfInBounds_self_of_lt (Array.getElem?_eq_some_iff.1 hy).1]⟩
    · exact ⟨y, by rw [Array.getElem?_setIfInBounds_ne e]; exact hy⟩
  · exact h.keep (heap_setCell_other w ⟨b, i, none⟩ g _ (Ne.symm e))
theorem brow_ne {w : World} {g g' n : Nat} {cs : Array Value} {t : TypeId} (h : Brow w g n) (k : w.heap[g']? = some (.cells cs t (0, 0))) (ht : t ≠ 5) : g' ≠ g := by
  rintro rfl
  obtain ⟨cs', h, _⟩ := h
  rw [k] at h
  injection h with h
  injection h with _ h
  exact ht h
theorem newRow_brow {B g : Nat} {w : World} {l : List UInt8} (h : NewRow B w g l) : Brow w g l.length := by
  refine ⟨_, h.2, fun i hi => ⟨l[i], ?_⟩⟩
  simp [Lib.byteCells, hi]
/-- append of bytes onto an empty row just made -/
theorem run_app_fresh {w : World} (ty : TypeId) {N g : Nat} (hg : w.heap[g]? = some (.cells #[] 5 (0, 0))) (hN : N ≤ g) {A : Option Addr} {m : List UInt8} (hm : Bts w A m) (c : Nat) (hlen : m.length ≤ 1000) :
    ∃ g' c' w', (Builtin.append_ #[29, 29] ty #[.slice (some ⟨g, 0, none⟩) 0 0, .slice A m.length c]).run Tryd.prog w = .ok (.slice (some ⟨g', 0, none⟩) m.length c') w' ∧ Below w.heap.size w w' ∧ N ≤ g' ∧ Bts w' (some ⟨g', 0, none⟩) m ∧ Brow w' g' m.length := by
  obtain ⟨i0, hi, hz0, hz1, hz2⟩ := info_parts Tryd.info5
  have hlt : g < w.heap.size := (Array.getElem?_eq_some_iff.1 hg).1
  rcases Nat.eq_zero_or_pos m.length with h0 | h0
  · obtain rfl : m = [] := List.eq_nil_of_length_eq_zero h0
    refine ⟨g, 0, w, ?_, Below.refl _ _, hN, .inl rfl, _, hg, fun i hi => absurd hi (by simp)⟩
    have hf : ∀ ad : Addr, (Builtin.firstCells i0.size 0 (.slice (some ad) 0 c)).run Tryd.prog w = .ok #[] w := fun ad => run_firstCells_some (P := Tryd.prog) w i0.size 0 ad 0 c [] (by simp) (by simp)
    cases A with
    | none => simp [Builtin.append_, run_underlying Tryd.underlying29, Go.sizeOf, typeInfo, hi, Builtin.lenOf, Builtin.firstCells, storeCells]
    | some ad => simp [Builtin.append_, run_underlying Tryd.underlying29, Go.sizeOf, typeInfo, hi, Builtin.lenOf, hf, storeCells]
  · obtain ⟨a, rfl, hlt2, hnews⟩ := hm.cells h0
    have hbl := Lib.byteCells_length m
    have hr := run_append_grow (P := Tryd.prog) w 29 ty 5 i0 _ Tryd.underlying29 hi hz0 ⟨g, 0, none⟩ 0 0 [] (by simp) (by simp) a m.length c (Lib.byteCells m) (by rw [hz1, Nat.mul_one]; exact hbl) hnews (by omega) (by omega) (by rw [hz2]; exact growslice_fits (by omega) (by omega))
    simp only [Nat.zero_add] at hr
    have hb : ∀ o, Below w.heap.size w (w.drew.alloc o) := fun o => (Below.refl w.heap.size w).drew.alloc (Nat.le_refl _) o
    refine ⟨_, _, _, hr, hb _, by show N ≤ w.heap.size; omega, ?_⟩
    have hcell : ∀ (z : Array Value) (i : Nat) (h : i < m.length), (#[].append (Lib.byteCells m).toArray ++ z)[i]? = some (.int .u8 (m[i].toNat : Int)) := by
      intro z i h
      have e : (#[] : Array Value).append (Lib.byteCells m).toArray = (Lib.byteCells m).toArray := by simp
      rw [e, Array.getElem?_append_left (by simp [hbl, h]), List.getElem?_toArray]
      simp [Lib.byteCells, h]
    have hrow : ∀ o, (w.drew.alloc o).heap[w.heap.size]? = some o := fun o => heap_alloc_new w.drew o
    refine ⟨.inr ⟨_, 0, rfl, by simp, fun i hi => ?_⟩, _, hrow _, fun i hi => ⟨_, hcell _ i hi⟩⟩
    rw [cell_of_row _ w.heap.size _ _ 5 (0, 0) (hrow _), Nat.zero_add]
    exact hcell _ i hi
/-- append of one cell that was laid into a block of its own just ahead -/
theorem list_app1s {B : Nat} {w : World} {ops : Array Oper} {rest : List Oper} {o : Oper} {a : Act} {Q : Exit → Act → World → Prop} (t e : TypeId) (z : Value) (bytes : Nat) (hu : Tryd.prog.underlying t = some (.slice e)) (hinf : (Tryd.prog.info? e).map (fun i => (i.zero, i.size, i.bytes)) = some (some z, 1, bytes)) (hz : z.cells.size = 1) (hby : bytes ≤ 100)
    (hgd : o.guard = none) (s x : Operand) (ho : o.op = .call { callee := .builtin .append, args := #[s, x], argTypes := #[t, t] }) (v : Value) (n : Nat) (xs : List Value) (h : w.ownsRow B e 1 v n xs) (x1 : Value) (h1 : x1.oneCell' = true) (hs : a.eval s = v) (hx : a.eval x = .slice (some ⟨w.heap.size, 0, none⟩) 1 1) (hn : n ≤ 1000) (hB : B ≤ w.heap.size)
    (hK : ∀ v' w', w'.ownsRow B e 1 v' (n + 1) (xs ++ [x1]) → w.grownBy w' v.ownBlock → (v'.ownBlock = v.ownBlock ∨ v'.ownBlock = some (w.heap.size + 1)) → wpList Tryd.prog ops Q rest (a.put o.dst v') w') : wpList Tryd.prog ops Q (o :: rest) a (w.alloc (.cells #[x1] e)) := by
  obtain ⟨i0, hi, hz0, hz1, hz2⟩ := info_parts hinf
  have hnew : (w.alloc (.cells #[x1] e)).heap[w.heap.size]? = some (.cells #[x1] e (0, 0)) := heap_alloc_new w _
  obtain ⟨v', w', hr, hown, hg, _, hat⟩ := run_append_own_at (P := Tryd.prog) (w.alloc (.cells #[x1] e)) B t o.type e i0 z 1 bytes hu hi hz0 hz1 hz2 hz (by decide) v n xs (World.ownsRow.alloc h _) ⟨w.heap.size, 0, none⟩ 1 1 [x1] rfl
    (by
      intro j u hj
      rw [Go.WideShapes.add_plain, Nat.zero_add, cell_of_row _ w.heap.size j _ e (0, 0) hnew, ← hj]
      simp)
    (by
      intro u hu
      rcases List.mem_cons.1 hu with rfl | hu
      · exact h1
      · cases hu)
    (by unfold maxLen; omega) (by have := Nat.mul_le_mul (show n + 1 ≤ 1001 by omega) hby; omega) (by simp; omega)
  have hg2 : w.grownBy w' v.ownBlock := grown_then (World.grownBy_alloc w _ none) hg
  have hat2 : v'.ownBlock = v.ownBlock ∨ v'.ownBlock = some (w.heap.size + 1) := by simpa using hat
  refine wpList_plain hgd fun _ hk => ?_
  unfold Oper.wp execOp
  simp only [ho, resolve, invoke, builtin, Sem.run_bind, Sem.run_pure, Result.andThen_ok, List.map_toArray, List.map_cons, List.map_nil, hs, hx, hr]
  exact hk _ _ (hK v' w' hown hg2 hat2)
/-- the blocks of a call's own bytes -/
def Kb (gk gv : Nat) (b : Nat) : Prop := b = gk ∨ b = gv
/-- while a call's own bytes are written over -/
structure Mid (gk x gv y g9 : Nat) (box : Array Value) (w W : World) : Prop where
  but : But (Kb gk gv) w W
  key : Brow W gk x
  val : Brow W gv y
  row : W.heap[g9]? = some (.cells box 31 (0, 0))
theorem Mid.setK {gk x gv y g9 i : Nat} {box : Array Value} {w W : World} (h : Mid gk x gv y g9 box w W) (u : UInt8) : Mid gk x gv y g9 box w (W.setCell ⟨gk, i, none⟩ (.int .u8 ((u.toNat : Nat) : Int))) :=
  ⟨h.but.trans ((But.set W gk i _).mono fun _ e => .inl e), h.key.set u, h.val.set u, (heap_setCell_other W ⟨gk, i, none⟩ g9 _ (brow_ne h.key h.row (by decide))).trans h.row⟩
theorem Mid.setV {gk x gv y g9 i : Nat} {box : Array Value} {w W : World} (h : Mid gk x gv y g9 box w W) (u : UInt8) : Mid gk x gv y g9 box w (W.setCell ⟨gv, i, none⟩ (.int .u8 ((u.toNat : Nat) : Int))) :=
  ⟨h.but.trans ((But.set W gv i _).mono fun _ e => .inr e), h.key.set u, h.val.set u, (heap_setCell_other W ⟨gv, i, none⟩ g9 _ (brow_ne h.val h.row (by decide))).trans h.row⟩
/-- a slice of a call's own, just made -/
def New (N : Nat) (l : List UInt8) (v : Value) (w : World) : Prop := ∃ g c, v = .slice (some ⟨g, 0, none⟩) l.length c ∧ N ≤ g ∧ Bts w (some ⟨g, 0, none⟩) l ∧ Brow w g l.length
theorem New.below {N : Nat} {l : List UInt8} {v : Value} {w w' : World} (h : New N l v w) (hb : Below w.heap.size w w') : New N l v w' := by
  obtain ⟨g, c, e, h1, h2, h3⟩ := h
  exact ⟨g, c, e, h1, h2.below hb, h3.below hb⟩
theorem row_below {w w' : World} {g : Nat} {o : Obj} (h : w.heap[g]? = some o) (hb : Below w.heap.size w w') : w'.heap[g]? = some o := by
  rw [hb.block g (Array.getElem?_eq_some_iff.1 h).1]; exact h
theorem bts_same {w w' : World} {g off : Nat} {l : List UInt8} (h : Bts w (some ⟨g, off, none⟩) l) (e : w'.heap[g]? = w.heap[g]?) : Bts w' (some ⟨g, off, none⟩) l := by
  rcases h with h | ⟨b, o, h1, h2, h3⟩
  · exact .inl h
  · obtain ⟨rfl, rfl⟩ : g = b ∧ off = o := by
      injection h1 with h1
      injection h1 with h1 h2
      exact ⟨h1, h2⟩
    exact .inr ⟨g, off, rfl, lt_kept e h2, fun i hi => (cell_kept e).trans (h3 i hi)⟩
/-- what the operations yield that make a call's own -/
def GS (N gb : Nat) (ka : Option Addr) (x kc : Nat) (va : Option Addr) (y vc : Nat) (K V : List UInt8) : Nat → Value → World → Prop
  | 0, v, w => ∃ g, v = .slice (some ⟨g, 0, none⟩) 0 0 ∧ N ≤ g ∧ w.heap[g]? = some (.cells #[] 5 (0, 0))
  | 1, v, _ => v = .pointer (some ⟨gb, 0, none⟩)
  | 2, v, _ => v = .slice ka x kc
  | 3, v, w => New N K v w
  | 4, v, w => ∃ g, v = .slice (some ⟨g, 0, none⟩) 0 0 ∧ N ≤ g ∧ w.heap[g]? = some (.cells #[] 5 (0, 0))
  | 5, v, _ => v = .pointer (some ⟨gb, 1, none⟩)
  | 6, v, _ => v = .slice va y vc
  | 7, v, w => New N V v w
  | 8, v, w => ∃ v1 v2, v = .agg #[v1, v2] ∧ New N K v1 w ∧ New N V v2 w
  | 9, v, w => ∃ g, v = .pointer (some ⟨g, 0, none⟩) ∧ N ≤ g ∧ w.heap[g]? = some (.cells #[.slice none 0 0, .slice none 0 0] 31 (0, 0))
  | _, _, _ => True
theorem GS.below {N gb : Nat} {ka : Option Addr} {x kc : Nat} {va : Option Addr} {y vc : Nat} {K V : List UInt8} (i : Nat) (v : Value) (w w' : World) (h : GS N gb ka x kc va y vc K V i v w) (hb : Below w.heap.size w w') : GS N gb ka x kc va y vc K V i v w' := by
  unfold GS at h ⊢
  split at h
  · obtain ⟨g, e, h1, h2⟩ := h; exact ⟨g, e, h1, row_below h2 hb⟩
  · exact h
  · exact h
  · exact h.below hb
  · obtain ⟨g, e, h1, h2⟩ := h; exact ⟨g, e, h1, row_below h2 hb⟩
  · exact h
  · exact h
  · exact h.below hb
  · obtain ⟨v1, v2, e, h1, h2⟩ := h; exact ⟨v1, v2, e, h1.below hb, h2.below hb⟩
  · obtain ⟨g, e, h1, h2⟩ := h; exact ⟨g, e, h1, row_below h2 hb⟩
  · trivial
/-- a call's own, laid into its box -/
theorem own_box {wr w' : World} {g9 gk gv c1 c2 : Nat} {K V : List UInt8} (hb : Below wr.heap.size wr w') (h9 : wr.heap.size ≤ g9) (r9 : w'.heap[g9]? = some (.cells #[.slice none 0 0, .slice none 0 0] 31 (0, 0)))
    (bk : Bts w' (some ⟨gk, 0, none⟩) K) (rk : Brow w' gk K.length) (bv : Bts w' (some ⟨gv, 0, none⟩) V) (rv : Brow w' gv V.length) (W : World) (hW : W = ((w'.setCell ⟨g9, 0, none⟩ (.slice (some ⟨gk, 0, none⟩) K.length c1)).setCell ⟨g9, 1, none⟩ (.slice (some ⟨gv, 0, none⟩) V.length c2))) :
    Below wr.heap.size wr W ∧ W.heap[g9]? = some (.cells #[.slice (some ⟨gk, 0, none⟩) K.length c1, .slice (some ⟨gv, 0, none⟩) V.length c2] 31 (0, 0)) ∧ Bts W (some ⟨gk, 0, none⟩) K ∧ Brow W gk K.length ∧ Bts W (some ⟨gv, 0, none⟩) V ∧ Brow W gv V.length := by
  subst hW
  obtain ⟨s1, s2⟩ := set2 r9 (.slice (some ⟨gk, 0, none⟩) K.length c1) (.slice (some ⟨gv, 0, none⟩) V.length c2)
  have e1 := s2 gk (Ne.symm (brow_ne rk r9 (by decide)))
  have e2 := s2 gv (Ne.symm (brow_ne rv r9 (by decide)))
  exact ⟨(hb.setCell (p := ⟨g9, 0, none⟩) h9 _).setCell (p := ⟨g9, 1, none⟩) h9 _, s1, bts_same bk e1, rk.keep e1, bts_same bv e2, rv.keep e2⟩
def Dn (_ _ : Nat) : Prop := True
/-- append, at an operation of a region in whatever order -/
theorem wpOp_app {P : Program} {ops : Array Oper} {Q : Exit → Act → World → Prop} {i : Nat} {K : Act → World → Prop} {a : Act} {w w' : World} {t : TypeId} {s x : Operand} {v y v' : Value} (o : Oper) (hi : ops[i]? = some o) (hg : o.guard = none) (ho : o.op = .call { callee := .builtin .append, args := #[s, x], argTypes := #[t, t] })
    (hs : a.eval s = v) (hx : a.eval x = y) (hr : (Builtin.append_ #[t, t] o.type #[v, y]).run P w = .ok v' w') (hk : K (a.put o.dst v') w') : wpOp P ops Q i K a w := by
  refine Gr.wpOp_of o hi hg ?_
  unfold Oper.wp execOp
  simp only [ho, resolve, invoke, builtin, Sem.run_bind, Sem.run_pure, Result.andThen_ok, List.map_toArray, List.map_cons, List.map_nil, hs, hx, hr]
  exact hk
/-- no block of the two rows -/
def Out (vN vM : Value) (b : Nat) : Prop := vN.ownBlock ≠ some b ∧ vM.ownBlock ≠ some b
/-- the tries and their models so far, in two rows -/
structure Stk (B : Nat) (X : Nat → Nd) (MP : Nat → List Pr) (j : Nat) (vN vM : Value) (W : World) : Prop where
  rowN : ∃ ns, W.ownsRow B 27 1 vN j ns ∧ ∀ i, i < j → ∃ nv, ns[i]? = some nv ∧ Nde (Out vN vM) W (X (i + 1)) nv
  rowM : ∃ ms, W.ownsRow B 28 1 vM j ms ∧ ∀ i, i < j → ∃ A c, ms[i]? = some (.slice A (MP (i + 1)).length c) ∧ Rcs W A (MP (i + 1))
  zero : j = 0 → vN.ownBlock = none ∧ vM.ownBlock = none
theorem Stk.nil (B : Nat) (X : Nat → Nd) (MP : Nat → List Pr) (W : World) : Stk B X MP 0 (.slice none 0 0) (.slice none 0 0) W :=
  ⟨⟨[], ⟨rfl, .inl ⟨rfl, rfl⟩⟩, fun i h => absurd h (Nat.not_lt_zero i)⟩, ⟨[], ⟨rfl, .inl ⟨rfl, rfl⟩⟩, fun i h => absurd h (Nat.not_lt_zero i)⟩, fun _ => ⟨rfl, rfl⟩⟩
theorem Stk.below {B : Nat} {X : Nat → Nd} {MP : Nat → List Pr} {j : Nat} {vN vM : Value} {W W' : World} (h : Stk B X MP j vN vM W) (hb : Below W.heap.size W W') : Stk B X MP j vN vM W' := by
  obtain ⟨⟨ns, h1, h2⟩, ⟨ms, h3, h4⟩, hz⟩ := h
  refine ⟨⟨ns, own_below h1 hb, fun i hi => ?_⟩, ⟨ms, own_below h3 hb, fun i hi => ?_⟩, hz⟩
  · obtain ⟨nv, e, k⟩ := h2 i hi
    exact ⟨nv, e, k.below hb⟩
  · obtain ⟨A, c, e, k⟩ := h4 i hi
    exact ⟨A, c, e, k.below hb⟩
theorem Stk.lt {B : Nat} {X : Nat → Nd} {MP : Nat → List Pr} {j : Nat} {vN vM : Value} {W : World} (h : Stk B X MP j vN vM W) : (∀ b, vN.ownBlock = some b → B ≤ b ∧ b < W.heap.size) ∧ (∀ b, vM.ownBlock = some b → B ≤ b ∧ b < W.heap.size) := by
  obtain ⟨⟨ns, h1, h2⟩, ⟨ms, h3, h4⟩, _⟩ := h
  exact ⟨fun b hb => ⟨(own_lt h1 hb).1, (own_lt h1 hb).2.1⟩, fun b hb => ⟨(own_lt h3 hb).1, (own_lt h3 hb).2.1⟩⟩
/-- texts stand where rows are written that hold none -/
theorem Rcs.rows {W W' : World} {A : Option Addr} {M : List Pr} {B e n : Nat} {v : Value} {xs : List Value} (h : Rcs W A M) (ho : W.ownsRow B e 1 v n xs) (hx : ∀ x ∈ xs, ∀ s, x ≠ .string s) (hn : n = 0 → v.ownBlock = none) (hg : W.grownBy W' v.ownBlock) : Rcs W' A M := by
  rcases h with h | ⟨b, rfl, hlt, hc⟩
  · exact .inl h
  · by_cases hl : M = []
    · exact .inl hl
    · have h0 := (hc 0 (List.length_pos_iff.2 hl)).1
      have hb : some b ≠ v.ownBlock := fun e => by
        rcases Nat.eq_zero_or_pos n with hz | hz
        · rw [hn hz] at e; cases e
        · obtain ⟨hlen, A', c', rfl, _, hr⟩ := row_reads1 ho
          obtain ⟨g, rfl, _, _, hcc⟩ := hr hz
          simp only [Value.ownBlock, Option.some.injEq] at e
          subst e
          have h1 := hcc 0 hz
          rw [Nat.zero_mul] at h0
          rw [h0, List.getElem?_eq_getElem (by omega)] at h1
          exact hx _ (List.getElem_mem _) _ (Option.some.inj h1).symm
      have e := hg.block b hlt hb
      exact .inr ⟨b, rfl, lt_kept e hlt, fun i hi => ⟨(cell_kept e).trans (hc i hi).1, (cell_kept e).trans (hc i hi).2⟩⟩
/-- a trie and its model are laid to the earlier ones -/
theorem Stk.add {B : Nat} {X : Nat → Nd} {MP : Nat → List Pr} {j : Nat} {vN vM vN' vM' nv : Value} {ns ms : List Value} {A : Option Addr} {c : Nat} {W W1 W2 : World} (h1 : W.ownsRow B 27 1 vN j ns) (h2 : ∀ i, i < j → ∃ nv, ns[i]? = some nv ∧ Nde (Out vN vM) W (X (i + 1)) nv)
    (h3 : W.ownsRow B 28 1 vM j ms) (h4 : ∀ i, i < j → ∃ A c, ms[i]? = some (.slice A (MP (i + 1)).length c) ∧ Rcs W A (MP (i + 1))) (hz : j = 0 → vN.ownBlock = none ∧ vM.ownBlock = none) (hB : B ≤ W.heap.size) (hn : Nde (Out vN vM) W (X (j + 1)) nv) (hr : Rcs W A (MP (j + 1)))
    (g1 : W.grownBy W1 vN.ownBlock) (o1 : W1.ownsRow B 27 1 vN' (j + 1) (ns ++ [nv])) (a1 : vN'.ownBlock = vN.ownBlock ∨ vN'.ownBlock = some (W.heap.size + 1))
    (g2 : W1.grownBy W2 vM.ownBlock) (o2 : W2.ownsRow B 28 1 vM' (j + 1) (ms ++ [.slice A (MP (j + 1)).length c])) (a2 : vM'.ownBlock = vM.ownBlock ∨ vM'.ownBlock = some (W1.heap.size + 1)) :
    Stk B X MP (j + 1) vN' vM' W2 ∧ Nde (Out vN' vM') W2 (X (j + 1)) nv ∧ Rcs W2 A (MP (j + 1)) ∧ Below B W W2 := by
  have l1 : ns.length = j := by rw [h1.1, Nat.mul_one]
  have l3 : ms.length = j := by rw [h3.1, Nat.mul_one]
  have h3' : W1.ownsRow B 28 1 vM j ms := own_kept h3 fun g hg => g1.block g (own_lt h3 hg).2.1 fun e => own_ne h1 h3 (by decide) g e.symm hg
  have o1' : W2.ownsRow B 27 1 vN' (j + 1) (ns ++ [nv]) := own_kept o1 fun g hg => g2.block g (own_lt o1 hg).2.1 fun e => own_ne o1 h3' (by decide) g hg e.symm
  have hO : But (fun b => ¬ Out vN vM b) W W2 := ((But.refl _ _).grown g1 fun k hk ho => ho.1 hk).grown g2 fun k hk ho => ho.2 hk
  have hN : ∀ {x : Nd} {v : Value}, Nde (Out vN vM) W x v → Nde (Out vN' vM') W2 x v := fun {x v} h => by
    have k : Nde (fun b => Out vN vM b ∧ b < W.heap.size) W2 x v := (h.mono (G := fun b => Out vN vM b ∧ b < W.heap.size) fun b hl hb => ⟨hb, hl⟩).kept (hO.kept fun b hb hx => hx hb.1)
    refine k.mono fun b _ hb => ⟨fun e => ?_, fun e => ?_⟩
    · rcases a1 with a1 | a1
      · exact hb.1.1 (a1 ▸ e)
      · rw [a1] at e; injection e with e; have := hb.2; omega
    · have hs := g1.size
      rcases a2 with a2 | a2
      · exact hb.1.2 (a2 ▸ e)
      · rw [a2] at e; injection e with e; have := hb.2; omega
  have hR : ∀ {A : Option Addr} {M : List Pr}, Rcs W A M → Rcs W2 A M := fun {A M} h => by
    refine (h.rows h1 ?_ (fun e => (hz e).1) g1).rows h3' ?_ (fun e => (hz e).2) g2
    · intro x hx s e
      obtain ⟨i, hi, rfl⟩ := List.getElem_of_mem hx
      obtain ⟨nv, e1, k⟩ := h2 i (by omega)
      rw [List.getElem?_eq_getElem hi] at e1
      have e1 := Option.some.inj e1
      rw [e] at e1
      rcases k.nil_iff with ⟨_, e2⟩ | ⟨_, t, b, e2⟩ <;> (rw [e2] at e1; cases e1)
    · intro x hx s e
      obtain ⟨i, hi, rfl⟩ := List.getElem_of_mem hx
      obtain ⟨A', c', e1, _⟩ := h4 i (by omega)
      rw [List.getElem?_eq_getElem hi] at e1
      have e1 := Option.some.inj e1
      rw [e] at e1
      cases e1
  refine ⟨⟨⟨_, o1', fun i hi => ?_⟩, ⟨_, o2, fun i hi => ?_⟩, fun e => by omega⟩, hN hn, hR hr, ?_⟩
  · rcases Nat.lt_or_ge i j with hl | hl
    · obtain ⟨v, e, k⟩ := h2 i hl
      exact ⟨v, by rw [List.getElem?_append_left (by omega)]; exact e, hN k⟩
    · obtain rfl : i = j := by omega
      exact ⟨nv, by rw [List.getElem?_append_right (by omega), l1, Nat.sub_self]; rfl, hN hn⟩
  · rcases Nat.lt_or_ge i j with hl | hl
    · obtain ⟨A', c', e, k⟩ := h4 i hl
      exact ⟨A', c', by rw [List.getElem?_append_left (by omega)]; exact e, hR k⟩
    · obtain rfl : i = j := by omega
      exact ⟨A, c, by rw [List.getElem?_append_right (by omega), l3, Nat.sub_self]; rfl, hR hr⟩
  · have hs := g1.size
    refine ⟨hO.os, hO.tape, hO.output, hO.size, fun k hk => ?_⟩
    refine hO.block k (by omega) fun ho => ho ⟨fun e => ?_, fun e => ?_⟩
    · have := (own_lt h1 e).1; omega
    · have := (own_lt h3 e).1; omega
end Go.Proofs.YtmbdimonfdncpaaDoor
