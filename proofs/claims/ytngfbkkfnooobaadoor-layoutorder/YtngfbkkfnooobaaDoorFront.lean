/-
  Entries moved to the front: append of what stands before and behind a place onto a row of one.
-/
import Derived.Test.YtngfbkkfnooobaaDoorEnts
import Derived.Deep.RegionLaw
namespace Go.Proofs.YtngfbkkfnooobaaDoor
open Go.RowKit Go.WideShapes Go.ChangeShapes
set_option maxHeartbeats 1000000
set_option maxRecDepth 100000
theorem und22 : Tryd.prog.underlying 22 = some (.slice 38) := Tryd.underlying22
/-- moved to the front, one place -/
def toFront (P : List En) (i : Nat) : List En := match P[i]? with
  | some e => e :: (P.take i ++ P.drop (i + 1))
  | none => P
theorem toFront_at {P : List En} {i : Nat} (h : i < P.length) : toFront P i = P[i] :: (P.take i ++ P.drop (i + 1)) := by
  rw [toFront, List.getElem?_eq_getElem h]
theorem toFront_perm {P : List En} {i : Nat} (h : i < P.length) : (toFront P i).Perm P := by
  rw [toFront_at h]
  have e : P = P.take i ++ P[i] :: P.drop (i + 1) := by rw [← List.drop_eq_getElem_cons h, List.take_append_drop]
  exact (List.perm_middle (a := P[i]) (l₁ := P.take i) (l₂ := P.drop (i + 1))).symm.trans (by rw [← e])
/-- entries' cells, listed -/
theorem Ens.cells {w : World} {A : Option Addr} {L : List En} (h : Ens w A L) (h0 : 0 < L.length) : ∃ b off xs, A = some ⟨b, off, none⟩ ∧ b < w.heap.size ∧ Erow w xs L ∧ (∀ j u, xs[j]? = some u → w.cell? ⟨b, off + j, none⟩ = some u) ∧ ∀ u ∈ xs, u.oneCell' = true := by
  rcases h with rfl | ⟨b, off, rfl, hb, hc⟩
  · exact absurd h0 (Nat.lt_irrefl 0)
  · obtain ⟨f, hf⟩ : ∃ f : Nat → Value, f = fun j => (w.cell? ⟨b, off + j, none⟩).getD undef := ⟨_, rfl⟩
    have key : ∀ i, (h : i < L.length) → ∃ ka kc va vc, f (i * 3) = .int .u64 ((L[i]).1 : Int) ∧ f (i * 3 + 1) = .slice ka (L[i]).2.1.length kc ∧ f (i * 3 + 2) = .slice va (L[i]).2.2.length vc ∧ Bts w ka (L[i]).2.1 ∧ Bts w va (L[i]).2.2 ∧
        w.cell? ⟨b, off + i * 3, none⟩ = some (f (i * 3)) ∧ w.cell? ⟨b, off + (i * 3 + 1), none⟩ = some (f (i * 3 + 1)) ∧ w.cell? ⟨b, off + (i * 3 + 2), none⟩ = some (f (i * 3 + 2)) := fun i hi => by
      obtain ⟨ka, kc, va, vc, h1, h2, h3, h4, h5⟩ := hc i hi
      rw [Nat.add_assoc] at h2 h3
      subst hf
      refine ⟨ka, kc, va, vc, ?_, ?_, ?_, h4, h5, ?_, ?_, ?_⟩ <;> simp only [h1, h2, h3, Option.getD_some]
    have hat : ∀ j, j < L.length * 3 → ((List.range (L.length * 3)).map f)[j]? = some (f j) := fun j hj => by
      rw [List.getElem?_map, List.getElem?_range hj]; rfl
    have hthree : ∀ j, j < L.length * 3 → (w.cell? ⟨b, off + j, none⟩ = some (f j) ∧ (f j).oneCell' = true) := fun j hj => by
      obtain ⟨ka, kc, va, vc, e1, e2, e3, _, _, c1, c2, c3⟩ := key (j / 3) (by omega)
      have hm : j % 3 = 0 ∨ j % 3 = 1 ∨ j % 3 = 2 := by omega
      rcases hm with hm | hm | hm
      · rw [show j / 3 * 3 = j by omega] at e1 c1
        exact ⟨c1, by rw [e1]; rfl⟩
      · rw [show j / 3 * 3 + 1 = j by omega] at e2 c2
        exact ⟨c2, by rw [e2]; rfl⟩
      · rw [show j / 3 * 3 + 2 = j by omega] at e3 c3
        exact ⟨c3, by rw [e3]; rfl⟩
    refine ⟨b, off, (List.range (L.length * 3)).map f, rfl, hb, ⟨by simp, fun i hi => ?_⟩, fun j u hu => ?_, fun u hu => ?_⟩
    · obtain ⟨ka, kc, va, vc, e1, e2, e3, e4, e5, _⟩ := key i hi
      rw [hat _ (by omega), hat _ (by omega), hat _ (by omega), e1, e2, e3]
      exact ⟨ka, kc, va, vc, rfl, rfl, rfl, e4, e5⟩
    · have hj : j < L.length * 3 := by
        have := (List.getElem?_eq_some_iff.1 hu).1
        simpa using this
      rw [hat j hj] at hu
      rw [← Option.some.inj hu]
      exact (hthree j hj).1
    · obtain ⟨j, hj, rfl⟩ := List.mem_map.1 hu
      exact (hthree j (List.mem_range.1 hj)).2
theorem Erow.take {w : World} {xs : List Value} {L : List En} (h : Erow w xs L) {i : Nat} (hi : i ≤ L.length) : Erow w (xs.take (i * 3)) (L.take i) := by
  refine ⟨by simp only [List.length_take, h.1]; omega, fun j hj => ?_⟩
  have hj2 : j < i := by simp at hj; omega
  obtain ⟨ka, kc, va, vc, h1, h2, h3, h4, h5⟩ := h.2 j (by omega)
  rw [List.getElem_take, List.getElem?_take_of_lt (by omega), List.getElem?_take_of_lt (by omega), List.getElem?_take_of_lt (by omega)]
  exact ⟨ka, kc, va, vc, h1, h2, h3, h4, h5⟩
theorem Erow.drop {w : World} {xs : List Value} {L : List En} (h : Erow w xs L) (i : Nat) : Erow w (xs.drop (i * 3)) (L.drop i) := by
  refine ⟨by simp [h.1]; omega, fun j hj => ?_⟩
  have hj2 : i + j < L.length := by simp at hj; omega
  obtain ⟨ka, kc, va, vc, h1, h2, h3, h4, h5⟩ := h.2 (i + j) hj2
  rw [List.getElem_drop, List.getElem?_drop, List.getElem?_drop, List.getElem?_drop, show i * 3 + j * 3 = (i + j) * 3 by omega, show i * 3 + (j * 3 + 1) = (i + j) * 3 + 1 by omega, show i * 3 + (j * 3 + 2) = (i + j) * 3 + 2 by omega]
  exact ⟨ka, kc, va, vc, h1, h2, h3, h4, h5⟩
theorem Erow.append {w : World} {xs ys : List Value} {L M : List En} (h : Erow w xs L) (k : Erow w ys M) : Erow w (xs ++ ys) (L ++ M) := by
  have hl := h.1
  refine ⟨by simp [h.1, k.1]; omega, fun j hj => ?_⟩
  rcases Nat.lt_or_ge j L.length with g | g
  · obtain ⟨ka, kc, va, vc, h1, h2, h3, h4, h5⟩ := h.2 j g
    rw [List.getElem_append_left g, List.getElem?_append_left (by omega), List.getElem?_append_left (by omega), List.getElem?_append_left (by omega)]
    exact ⟨ka, kc, va, vc, h1, h2, h3, h4, h5⟩
  · obtain ⟨ka, kc, va, vc, h1, h2, h3, h4, h5⟩ := k.2 (j - L.length) (by simp at hj; omega)
    rw [List.getElem_append_right g, List.getElem?_append_right (by omega), List.getElem?_append_right (by omega), List.getElem?_append_right (by omega), hl, show j * 3 - L.length * 3 = (j - L.length) * 3 by omega, show j * 3 + 1 - L.length * 3 = (j - L.length) * 3 + 1 by omega, show j * 3 + 2 - L.length * 3 = (j - L.length) * 3 + 2 by omega]
    exact ⟨ka, kc, va, vc, h1, h2, h3, h4, h5⟩
theorem Erow.one {w : World} {p : En} {ka va : Option Addr} {kc vc : Nat} (h1 : Bts w ka p.2.1) (h2 : Bts w va p.2.2) : Erow w [.int .u64 (p.1 : Int), .slice ka p.2.1.length kc, .slice va p.2.2.length vc] [p] := (Erow.nil w).snoc h1 h2
/-- append of entries' cells onto a row of the call's own -/
theorem app_run {B : Nat} {W : World} {v : Value} {n : Nat} {xs : List Value} (ty : TypeId) (h : W.ownsRow B 38 3 v n xs) {g off m : Nat} (c : Nat) {news : List Value} (hl : news.length = m * 3) (hc : ∀ j u, news[j]? = some u → W.cell? ⟨g, off + j, none⟩ = some u) (h1 : ∀ u ∈ news, u.oneCell' = true) (hn : n + m ≤ 1000) (hB : B ≤ W.heap.size) :
    ∃ v' w', (Builtin.append_ #[22, 22] ty #[v, .slice (some ⟨g, off, none⟩) m c]).run Tryd.prog W = .ok v' w' ∧ w'.ownsRow B 38 3 v' (n + m) (xs ++ news) ∧ Below B W w' := by
  obtain ⟨i0, hi, hz0, hz1, hz2⟩ := info_parts Tryd.info38
  obtain ⟨v', w', hr, hown, hg, _, hob⟩ := run_append_own_at (P := Tryd.prog) (w := W) B 22 ty 38 i0 (.agg #[.int .u64 0, .slice none 0 0, .slice none 0 0]) 3 56 und22 hi hz0 hz1 hz2 rfl (by decide) v n xs h ⟨g, off, none⟩ m c news hl (fun j u hj => by rw [Go.WideShapes.add_plain]; exact hc j u hj) h1
    (by unfold maxLen; omega) (by omega) hB
  refine ⟨v', w', hr, hown, ⟨hg.os, hg.tape, hg.output, hg.size, fun k hk => hg.block k (by omega) fun e => ?_⟩⟩
  obtain ⟨_, h⟩ := h
  rcases h with ⟨rfl, _⟩ | ⟨q, cap, cur, rfl, hb, _⟩
  · cases e
  · injection e with e
    have e : k = q := e
    omega
/-- nothing is appended -/
theorem app_none (W : World) (ty : TypeId) (b : Option Addr) (n k c : Nat) (hn : n ≤ k) (A : Option Addr) : (Builtin.append_ #[22, 22] ty #[.slice b n k, .slice A 0 c]).run Tryd.prog W = .ok (.slice b n k) W := by
  obtain ⟨i0, hi, hz0, hz1, hz2⟩ := info_parts Tryd.info38
  cases b <;> cases A <;> simp [Builtin.append_, run_underlying und22, sizeOf, typeInfo, hi, Builtin.lenOf, Builtin.firstCells, storeCells, loadCells, loadCellsFrom, hn]
/-- what stands before a place -/
theorem run_front (g off n c l : Nat) (hl : l ≤ c) (wx : World) : (Instr.slice 22 (.slice (some ⟨g, off, none⟩) n c) none (some (.int .i64 (l : Int))) none).run Tryd.prog wx = .ok (.slice (some ⟨g, off, none⟩) l c) wx := by
  have hs : (sizeOf 38).run Tryd.prog wx = .ok 3 wx := by kernel_rfl
  have := run_slice_h (P := Tryd.prog) wx 22 (some ⟨g, off, none⟩) n c (by kernel_rfl) .i64 (l : Int) (by omega) (by omega)
  rw [this, show Tryd.prog.elem 22 = 38 by kernel_rfl, hs]
  simp only [Result.andThen, sliced, Int.toNat_natCast, Nat.zero_mul, Nat.sub_zero]
  by_cases hcl : c = 0
  · rw [if_pos hcl]
  · rw [if_neg hcl]
    simp [Go.WideShapes.add_plain]
/-- what stands behind a place -/
theorem run_rest (g off n c l : Nat) (h : l ≤ n) (hc : n ≤ c) : ∃ o', (∀ wx, (Instr.slice 22 (.slice (some ⟨g, off, none⟩) n c) (some (.int .i64 (l : Int))) none none).run Tryd.prog wx = .ok (.slice (some ⟨g, o', none⟩) (n - l) (c - l)) wx) ∧ (l < n → o' = off + l * 3) := by
  refine ⟨if c = l then off else off + l * 3, fun wx => ?_, fun hl => ?_⟩
  · have hs : (sizeOf 38).run Tryd.prog wx = .ok 3 wx := by kernel_rfl
    have := run_slice_l (P := Tryd.prog) wx 22 (some ⟨g, off, none⟩) n c (by kernel_rfl) .i64 (l : Int) (by omega) (by omega)
    rw [this, show Tryd.prog.elem 22 = 38 by kernel_rfl, hs]
    simp only [Result.andThen, sliced, Int.toNat_natCast]
    by_cases hcl : c = l
    · rw [if_pos hcl, if_pos hcl]
    · rw [if_neg hcl, if_neg hcl]
      simp [Go.WideShapes.add_plain]
  · rw [if_neg (by omega)]
/-- a builtin's append at a step of a region that draws its order, by a fact of what it gives -/
theorem step_of_ex {w : World} {ops : Array Oper} {o : Oper} {a : Act} {K : Act → World → Prop} {Q : Exit → Act → World → Prop} {E : Prop} (t : TypeId) (hgd : o.guard = none) (s x : Operand) (ho : o.op = .call { callee := .builtin .append, args := #[s, x], argTypes := #[t, t] }) (v1 v2 : Value) (hs : a.eval s = v1) (hx : a.eval x = v2)
    {R : Value → World → Prop} (hr : ∀ ty, ∃ v' w', (Builtin.append_ #[t, t] ty #[v1, v2]).run Tryd.prog w = .ok v' w' ∧ R v' w') (hK : ∀ v' w', R v' w' → K (a.put o.dst v') w') :
    if Region.wanted o (yielded ops a.tmps) = true then Oper.wp Tryd.prog o a w K Q else E := by
  have hw : Region.wanted o (yielded ops a.tmps) = true := by simp [Region.wanted, hgd]
  rw [if_pos hw]
  obtain ⟨v', w', h1, h2⟩ := hr o.type
  unfold Oper.wp execOp
  simp only [ho, resolve, invoke, builtin, Sem.run_bind, Sem.run_pure, Result.andThen_ok, List.map_toArray, List.map_cons, List.map_nil, hs, hx, h1]
  exact hK _ _ h2
/-- the row of one, and what stands before the place -/
theorem front_one {W : World} {x0 x1 x2 : Value} {g off m : Nat} (c : Nat) {news : List Value} (hl : news.length = m * 3) (hc : ∀ j u, news[j]? = some u → W.cell? ⟨g, off + j, none⟩ = some u) (hn1 : ∀ u ∈ news, u.oneCell' = true) (hn : m ≤ 900) (hg : g < W.heap.size) (ty : TypeId) :
    ∃ v' w', (Builtin.append_ #[22, 22] ty #[.slice (some ⟨W.heap.size, 0, none⟩) 1 1, .slice (some ⟨g, off, none⟩) m c]).run Tryd.prog (W.alloc (.cells #[x0, x1, x2] 38)) = .ok v' w' ∧ w'.ownsRow W.heap.size 38 3 v' (1 + m) ([x0, x1, x2] ++ news) ∧ Below W.heap.size W w' := by
  have hb : Below W.heap.size W (W.alloc (.cells #[x0, x1, x2] 38)) := (Below.refl _ _).alloc (Nat.le_refl _) _
  have hown : (W.alloc (.cells #[x0, x1, x2] 38)).ownsRow W.heap.size 38 3 (.slice (some ⟨W.heap.size, 0, none⟩) 1 1) 1 [x0, x1, x2] :=
    ⟨rfl, .inr ⟨W.heap.size, 1, #[x0, x1, x2], rfl, Nat.le_refl _, heap_alloc_new W _, Nat.le_refl _, by unfold maxLen; omega, rfl, rfl⟩⟩
  obtain ⟨v', w', e1, e2, e3⟩ := app_run ty hown c hl (fun j u hj => (hb.cell (p := ⟨g, off + j, none⟩) hg).trans (hc j u hj)) hn1 (by omega) (by simp)
  refine ⟨v', w', e1, e2, hb.trans e3⟩
/-- a builtin's append in a plain region, by a fact of what it gives -/
theorem list_of_ex {w : World} {ops : Array Oper} {rest : List Oper} {o : Oper} {a : Act} {Q : Exit → Act → World → Prop} (t : TypeId) (hgd : o.guard = none) (s x : Operand) (ho : o.op = .call { callee := .builtin .append, args := #[s, x], argTypes := #[t, t] }) (v1 v2 : Value) (hs : a.eval s = v1) (hx : a.eval x = v2)
    {R : Value → World → Prop} (hr : ∀ ty, ∃ v' w', (Builtin.append_ #[t, t] ty #[v1, v2]).run Tryd.prog w = .ok v' w' ∧ R v' w') (hK : ∀ v' w', R v' w' → wpList Tryd.prog ops Q rest (a.put o.dst v') w') :
    wpList Tryd.prog ops Q (o :: rest) a w := by
  obtain ⟨v', w', h1, h2⟩ := hr o.type
  refine wpList_plain hgd fun _ hk => ?_
  unfold Oper.wp execOp
  simp only [ho, resolve, invoke, builtin, Sem.run_bind, Sem.run_pure, Result.andThen_ok, List.map_toArray, List.map_cons, List.map_nil, hs, hx, h1]
  exact hk _ _ (hK _ _ h2)
/-- a copy of entries onto an empty row -/
theorem app_copy {W : World} {A : Option Addr} {M : List En} (h : Ens W A M) (c : Nat) (hn : M.length ≤ 900) (ty : TypeId) :
    ∃ v' w', (Builtin.append_ #[22, 22] ty #[.slice (some ⟨W.heap.size, 0, none⟩) 0 0, .slice A M.length c]).run Tryd.prog (W.alloc (.cells #[] 38)) = .ok v' w' ∧ ∃ A' c', v' = .slice A' M.length c' ∧ M.length ≤ c' ∧ Ens w' A' M ∧ Below W.heap.size W w' := by
  have hb : Below W.heap.size W (W.alloc (.cells #[] 38)) := (Below.refl _ _).alloc (Nat.le_refl _) _
  rcases Nat.eq_zero_or_pos M.length with h0 | h0
  · rw [h0]
    exact ⟨_, _, app_none _ ty _ 0 0 c (Nat.le_refl _) A, _, _, rfl, Nat.le_refl _, .inl (List.eq_nil_of_length_eq_zero h0), hb⟩
  · obtain ⟨g, off, xs, rfl, hg, her, hc, h1⟩ := h.cells h0
    have hown : (W.alloc (.cells #[] 38)).ownsRow W.heap.size 38 3 (.slice (some ⟨W.heap.size, 0, none⟩) 0 0) 0 [] :=
      ⟨rfl, .inr ⟨W.heap.size, 0, #[], rfl, Nat.le_refl _, heap_alloc_new W _, Nat.le_refl _, Nat.zero_le _, rfl, rfl⟩⟩
    obtain ⟨v', w', e1, e2, e3⟩ := app_run ty hown c her.1 (fun j u hj => (hb.cell (p := ⟨g, off + j, none⟩) hg).trans (hc j u hj)) h1 (by omega) (by simp)
    rw [Nat.zero_add, List.nil_append] at e2
    obtain ⟨A', c', rfl, q1, q2⟩ := ens_own e2 rfl her (hb.trans e3)
    exact ⟨_, _, e1, A', c', rfl, q1, q2, hb.trans e3⟩
/-- what the two appends leave that move the entry of a place to the front -/
theorem front_run {wr : World} {g off : Nat} {P : List En} (h : Ens wr (some ⟨g, off, none⟩) P) {c i : Nat} (hi : i < P.length) (hP : P.length ≤ 900) (hPc : P.length ≤ c) :
    ∃ (xs : List Value) (ka : Option Addr) (kc : Nat) (va : Option Addr) (vc o' : Nat), g < wr.heap.size ∧
      wr.cell? ⟨g, off + i * 3, none⟩ = some (.int .u64 ((P[i]).1 : Int)) ∧ wr.cell? ⟨g, off + i * 3 + 1, none⟩ = some (.slice ka (P[i]).2.1.length kc) ∧ wr.cell? ⟨g, off + i * 3 + 2, none⟩ = some (.slice va (P[i]).2.2.length vc) ∧
      (∀ wx, (Instr.slice 22 (.slice (some ⟨g, off, none⟩) P.length c) none (some (.int .i64 (i : Int))) none).run Tryd.prog wx = .ok (.slice (some ⟨g, off, none⟩) i c) wx) ∧
      (∀ wx, (Instr.slice 22 (.slice (some ⟨g, off, none⟩) P.length c) (some (.int .i64 ((i : Int) + 1))) none none).run Tryd.prog wx = .ok (.slice (some ⟨g, o', none⟩) (P.length - (i + 1)) (c - (i + 1))) wx) ∧
      (∀ W, Below wr.heap.size wr W → ∀ ty, ∃ v' w', (Builtin.append_ #[22, 22] ty #[.slice (some ⟨W.heap.size, 0, none⟩) 1 1, .slice (some ⟨g, off, none⟩) i c]).run Tryd.prog (W.alloc (.cells #[.int .u64 ((P[i]).1 : Int), .slice ka (P[i]).2.1.length kc, .slice va (P[i]).2.2.length vc] 38)) = .ok v' w' ∧
        ∃ A' c', v' = .slice A' (1 + i) c' ∧ w'.ownsRow W.heap.size 38 3 (.slice A' (1 + i) c') (1 + i) ([.int .u64 ((P[i]).1 : Int), .slice ka (P[i]).2.1.length kc, .slice va (P[i]).2.2.length vc] ++ xs.take (i * 3)) ∧ Below W.heap.size W w') ∧
      (∀ W W1 A1 c1, Below wr.heap.size wr W → W1.ownsRow W.heap.size 38 3 (.slice A1 (1 + i) c1) (1 + i) ([.int .u64 ((P[i]).1 : Int), .slice ka (P[i]).2.1.length kc, .slice va (P[i]).2.2.length vc] ++ xs.take (i * 3)) → Below W.heap.size W W1 →
        ∀ ty, ∃ v' w', (Builtin.append_ #[22, 22] ty #[.slice A1 (1 + i) c1, .slice (some ⟨g, o', none⟩) (P.length - (i + 1)) (c - (i + 1))]).run Tryd.prog W1 = .ok v' w' ∧ ∃ A' c', v' = .slice A' P.length c' ∧ P.length ≤ c' ∧ Ens w' A' (toFront P i) ∧ Below wr.heap.size wr w') := by
  obtain ⟨g', off', xs, e, hg, her, hc, h1⟩ := h.cells (by omega)
  injection e with e
  injection e with e1 e2
  subst e1 e2
  obtain ⟨ka, kc, va, vc, y0, y1, y2, y3, y4⟩ := her.2 i hi
  obtain ⟨o', hr, ho⟩ := run_rest g off P.length c (i + 1) (by omega) hPc
  rw [show ((i + 1 : Nat) : Int) = (i : Int) + 1 by omega] at hr
  refine ⟨xs, ka, kc, va, vc, o', hg, hc _ _ y0, by rw [Nat.add_assoc]; exact hc _ _ y1, by rw [Nat.add_assoc]; exact hc _ _ y2, run_front g off P.length c i (by omega), hr, ?_, ?_⟩
  · intro W hW ty
    have hx : (xs.take (i * 3)).length = i * 3 := by have := her.1; rw [List.length_take]; omega
    obtain ⟨v', w', q1, q2, q3⟩ := front_one (W := W) (x0 := .int .u64 ((P[i]).1 : Int)) (x1 := .slice ka (P[i]).2.1.length kc) (x2 := .slice va (P[i]).2.2.length vc) (g := g) (off := off) c hx
      (fun j u hj => (hW.cell (p := ⟨g, off + j, none⟩) hg).trans (hc j u (by
        have := (List.getElem?_eq_some_iff.1 hj).1
        rw [List.getElem?_take_of_lt (by omega)] at hj
        exact hj)))
      (fun u hu => h1 u (List.mem_of_mem_take hu)) (by omega) (Nat.lt_of_lt_of_le hg hW.size) ty
    obtain ⟨A', c', rfl, _⟩ := row_reads3 q2
    exact ⟨_, _, q1, A', c', rfl, q2, q3⟩
  · intro W W1 A1 c1 hW hown hW1 ty
    have hx : (xs.drop ((i + 1) * 3)).length = (P.length - (i + 1)) * 3 := by have := her.1; rw [List.length_drop]; omega
    obtain ⟨v', w', q1, q2, q3⟩ := app_run ty hown (g := g) (off := o') (m := P.length - (i + 1)) (c - (i + 1)) hx
      (fun j u hj => by
        have hj2 := (List.getElem?_eq_some_iff.1 hj).1
        rw [List.getElem?_drop] at hj
        have := hc _ _ hj
        rw [ho (by omega), Nat.add_assoc]
        exact ((below_then hW hW1).cell (p := ⟨g, off + ((i + 1) * 3 + j), none⟩) hg).trans this)
      (fun u hu => h1 u (List.mem_of_mem_drop hu)) (by omega) hW1.size
    have hfin : Below wr.heap.size wr w' := below_then hW (hW1.trans q3)
    have hrow : Erow wr (([.int .u64 ((P[i]).1 : Int), .slice ka (P[i]).2.1.length kc, .slice va (P[i]).2.2.length vc] ++ xs.take (i * 3)) ++ xs.drop ((i + 1) * 3)) (toFront P i) := by
      rw [toFront_at hi]
      have := ((Erow.one (kc := kc) (vc := vc) y3 y4).append (her.take (i := i) (by omega))).append (her.drop (i + 1))
      rw [List.append_assoc] at this
      exact this
    obtain ⟨A', c', rfl, p1, p2⟩ := ens_own q2 (by rw [(toFront_perm hi).length_eq]; omega) hrow hfin
    rw [(toFront_perm hi).length_eq] at q1 p1
    exact ⟨_, _, q1, A', c', rfl, p1, p2, hfin⟩
end Go.Proofs.YtngfbkkfnooobaaDoor
