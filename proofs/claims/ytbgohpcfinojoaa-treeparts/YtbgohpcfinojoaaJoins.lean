/-
  A list of pairs appended to a row that the call owns.
-/
import Derived.Test.YtbgohpcfinojoaaApp
namespace Go.Proofs.Ytbgohpcfinojoaa
open Go.RowKit
set_option maxHeartbeats 400000
set_option maxRecDepth 100000
/-- the cells of a list of pairs, taken out of memory -/
theorem pcs_news {w : World} {A : Option Addr} {L : List Pr} (h : Pcs w A L) : ∃ news : List Value, Prow w news L ∧ (∀ u ∈ news, u.oneCell' = true) ∧ (news = [] ∨ ∃ a, A = some a ∧ ∀ j u, news[j]? = some u → w.cell? (a.add j) = some u) := by
  rcases h with rfl | ⟨b, off, rfl, hlt, hc⟩
  · exact ⟨[], Prow.nil w, fun u hu => (by cases hu), .inl rfl⟩
  · have hsome : ∀ j, j < L.length * 2 → ∃ A n c, w.cell? ⟨b, off + j, none⟩ = some (.slice A n c) := by
      intro j hj
      obtain ⟨ka, kc, va, vc, h1, h2, _, _⟩ := hc (j / 2) (by omega)
      rcases Nat.mod_two_eq_zero_or_one j with e | e
      · rw [show off + j = off + j / 2 * 2 by omega]; exact ⟨_, _, _, h1⟩
      · rw [show off + j = off + j / 2 * 2 + 1 by omega]; exact ⟨_, _, _, h2⟩
    have hat : ∀ j, j < L.length * 2 → ((List.range (L.length * 2)).map fun j => (w.cell? ⟨b, off + j, none⟩).getD (.bool false))[j]? = w.cell? ⟨b, off + j, none⟩ := by
      intro j hj
      obtain ⟨A, n, c, e⟩ := hsome j hj
      rw [List.getElem?_map, List.getElem?_range hj, e]
      simp [e]
    refine ⟨(List.range (L.length * 2)).map fun j => (w.cell? ⟨b, off + j, none⟩).getD (.bool false), ⟨by simp, fun i hi => ?_⟩, fun u hu => ?_, .inr ⟨_, rfl, fun j u hu => ?_⟩⟩
    · obtain ⟨ka, kc, va, vc, h1, h2, h3, h4⟩ := hc i hi
      rw [hat _ (by omega), hat _ (by omega), ← Nat.add_assoc]
      exact ⟨ka, kc, va, vc, h1, h2, h3, h4⟩
    · obtain ⟨j, hj, rfl⟩ := List.mem_map.1 hu
      obtain ⟨A, n, c, e⟩ := hsome j (List.mem_range.1 hj)
      rw [e]
      rfl
    · have hj : j < L.length * 2 := by
        have := (List.getElem?_eq_some_iff.1 hu).1
        simpa using this
      rw [Go.WideShapes.add_plain, ← hat j hj]
      exact hu
theorem Prow.append {w : World} {xs ys : List Value} {L M : List Pr} (h : Prow w xs L) (k : Prow w ys M) : Prow w (xs ++ ys) (L ++ M) := by
  refine ⟨by rw [List.length_append, List.length_append, h.1, k.1, Nat.add_mul], fun i hi => ?_⟩
  have hl := h.1
  rcases Nat.lt_or_ge i L.length with g | g
  · rw [List.getElem?_append_left (by omega), List.getElem?_append_left (by omega)]
    have e : (L ++ M)[i] = L[i] := List.getElem_append_left g
    rw [e]
    exact h.2 i g
  · rw [List.length_append] at hi
    have e : (L ++ M)[i] = M[i - L.length] := List.getElem_append_right g
    rw [e, List.getElem?_append_right (by omega), List.getElem?_append_right (by omega), hl, show i * 2 - L.length * 2 = (i - L.length) * 2 by omega, show i * 2 + 1 - L.length * 2 = (i - L.length) * 2 + 1 by omega]
    exact k.2 (i - L.length) (by omega)
theorem run_app_pairs {B n : Nat} {w : World} {v : Value} {xs : List Value} (h : w.ownsRow B 39 2 v n xs) (A : Option Addr) (m c : Nat) (news : List Value) (hl : news.length = m * 2) (h1 : ∀ u ∈ news, u.oneCell' = true)
    (hn : news = [] ∨ ∃ a, A = some a ∧ ∀ j u, news[j]? = some u → w.cell? (a.add j) = some u) (ty : TypeId) (hlen : n + m ≤ 1000) (hB : B ≤ w.heap.size) :
    ∃ v' w', (Builtin.append_ #[33, 33] ty #[v, .slice A m c]).run Try.prog w = .ok v' w' ∧ w'.ownsRow B 39 2 v' (n + m) (xs ++ news) ∧ w.grownBy w' v.ownBlock := by
  obtain ⟨i0, hi, hz0, hz1, hz2⟩ := info_parts Try.info39
  cases A with
  | none =>
    have hne : news = [] := by
      rcases hn with h | ⟨a, h, _⟩
      · exact h
      · cases h
    subst hne
    obtain rfl : m = 0 := by simp at hl; omega
    refine ⟨v, w, ?_, by simpa using h, ⟨rfl, rfl, rfl, Nat.le_refl _, fun _ _ _ => rfl⟩⟩
    rcases h.2 with ⟨rfl, rfl⟩ | ⟨g, cap, cur, rfl, _, _, hnc, _⟩
    · simp [Builtin.append_, run_underlying Try.underlying33, Go.sizeOf, typeInfo, hi, Builtin.lenOf, Builtin.firstCells]
    · simp [Builtin.append_, run_underlying Try.underlying33, Go.sizeOf, typeInfo, hi, Builtin.lenOf, Builtin.firstCells, hnc, storeCells]
  | some a =>
    have hcells : ∀ j u, news[j]? = some u → w.cell? (a.add j) = some u := by
      intro j u hu
      rcases hn with rfl | ⟨a', e, hc⟩
      · simp at hu
      · injection e with e
        subst e
        exact hc j u hu
    obtain ⟨v', w', hr, h2, h3, _⟩ := run_append_own (P := Try.prog) w B 33 ty 39 i0 _ 2 48 Try.underlying33 hi hz0 hz1 hz2 rfl (by decide) v n xs h a m c news hl hcells h1 (by unfold maxLen; omega) (by omega) hB
    exact ⟨v', w', hr, h2, h3⟩
/-- append of a list of pairs, at the operation -/
theorem list_app_pairs {B n : Nat} {w : World} {ops : Array Oper} {rest : List Oper} {o : Oper} {a : Act} {Q : Exit → Act → World → Prop} (hgd : o.guard = none) (s x : Operand) (ho : o.op = .call { callee := .builtin .append, args := #[s, x], argTypes := #[33, 33] })
    (v : Value) (xs : List Value) (w0 : World) (M L : List Pr) (A : Option Addr) (c : Nat) (h : w.ownsRow B 39 2 v n xs) (hn : n = M.length) (hrow : Prow w0 xs M) (hb : Below w0.heap.size w0 w) (hp0 : Pcs w0 A L) (hs : a.eval s = v) (hx : a.eval x = .slice A L.length c) (hlen : M.length + L.length ≤ 1000) (hB : B ≤ w.heap.size)
    (hK : ∀ v' w' ys, w'.ownsRow B 39 2 v' (M ++ L).length ys → Prow w0 ys (M ++ L) → w.grownBy w' v.ownBlock → wpList Try.prog ops Q rest (a.put o.dst v') w') : wpList Try.prog ops Q (o :: rest) a w := by
  subst hn
  obtain ⟨news, hr, h1, hn⟩ := pcs_news hp0
  have hn2 : news = [] ∨ ∃ a, A = some a ∧ ∀ j u, news[j]? = some u → w.cell? (a.add j) = some u := by
    rcases hn with h | ⟨a, e, hc⟩
    · exact .inl h
    · exact .inr ⟨a, e, fun j u hu => by
        have h2 := hc j u hu
        rw [hb.cell (p := a.add j) (World.block_lt_of_cell? w0 _ h2)]
        exact h2⟩
  obtain ⟨v', w', hrun, h2, h3⟩ := run_app_pairs h A L.length c news hr.1 h1 hn2 o.type hlen hB
  refine wpList_plain hgd fun _ hk => ?_
  unfold Oper.wp execOp
  simp only [ho, resolve, invoke, builtin, Sem.run_bind, Sem.run_pure, Result.andThen_ok, List.map_toArray, List.map_cons, List.map_nil, hs, hx, hrun]
  exact hk _ _ (hK v' w' _ (by rw [List.length_append]; exact h2) (hrow.append hr) h3)
/-- append of a list of pairs onto a slice without room -/
theorem list_app_first {w : World} {ops : Array Oper} {rest : List Oper} {o : Oper} {a : Act} {Q : Exit → Act → World → Prop} (hgd : o.guard = none) (s x : Operand) (ho : o.op = .call { callee := .builtin .append, args := #[s, x], argTypes := #[33, 33] })
    (b : Nat) (L : List Pr) (A : Option Addr) (c : Nat) (hp : Pcs w A L) (hs : a.eval s = .slice (some ⟨b, 0, none⟩) 0 0) (hx : a.eval x = .slice A L.length c) (hlen : L.length ≤ 1000)
    (hK : ∀ v' w' ys, Prow w ys L → Below w.heap.size w w' → ((L = [] → v' = .slice (some ⟨b, 0, none⟩) 0 0) ∧ (L ≠ [] → w'.ownsRow w.heap.size 39 2 v' L.length ys)) → wpList Try.prog ops Q rest (a.put o.dst v') w') : wpList Try.prog ops Q (o :: rest) a w := by
  obtain ⟨i0, hi, hz0, hz1, hz2⟩ := info_parts Try.info39
  obtain ⟨news, hr, h1, hn⟩ := pcs_news hp
  obtain ⟨v', w', hrun, hb, hv⟩ : ∃ v' w', (Builtin.append_ #[33, 33] o.type #[.slice (some ⟨b, 0, none⟩) 0 0, .slice A L.length c]).run Try.prog w = .ok v' w' ∧ Below w.heap.size w w' ∧ ((L = [] → v' = .slice (some ⟨b, 0, none⟩) 0 0) ∧ (L ≠ [] → w'.ownsRow w.heap.size 39 2 v' L.length news)) := by
    rcases Nat.eq_zero_or_pos L.length with h0 | h0
    · refine ⟨_, w, ?_, Below.refl _ _, .intro (fun _ => rfl) (fun h => absurd (List.eq_nil_of_length_eq_zero h0) h)⟩
      rw [h0]
      cases A with
      | none => simp [Builtin.append_, run_underlying Try.underlying33, Go.sizeOf, typeInfo, hi, Builtin.lenOf, Builtin.firstCells, storeCells]
      | some ad =>
        have hf := run_firstCells_some (P := Try.prog) w i0.size 0 ad 0 c [] (by simp) (by simp)
        simp [Builtin.append_, run_underlying Try.underlying33, Go.sizeOf, typeInfo, hi, Builtin.lenOf, hf, storeCells]
    · have hl : news.length = L.length * 2 := hr.1
      obtain ⟨ad, rfl, hcells⟩ := hn.resolve_left (fun e => by rw [e] at hl; simp at hl; omega)
      have hg := run_append_grow (P := Try.prog) w 33 o.type 39 i0 _ Try.underlying33 hi hz0 ⟨b, 0, none⟩ 0 0 [] (by simp) (by simp) ad L.length c news (by rw [hz1]; exact hl) hcells (by omega) (by omega) (by rw [hz2]; exact growslice_fits (by omega) (by omega))
      simp only [Nat.zero_add] at hg
      refine ⟨_, _, hg, ((Below.refl _ _).drew).alloc (Nat.le_refl _) _, fun h => (by rw [h] at h0; simp at h0), fun _ => ⟨hl, .inr ⟨w.heap.size, _, _, rfl, Nat.le_refl _, heap_alloc_new w.drew _, grownCap_ge w _ _ _, grownCap_le_maxLen w _ _ _ (by unfold maxLen; omega), ?_, ?_⟩⟩⟩
      · have hge := grownCap_ge w L.length 0 39
        simp only [Array.size_append, List.size_toArray, size_zeroCells, List.length_nil, hl]
        have : (Value.agg #[Value.slice none 0 0, Value.slice none 0 0]).cells.size = 2 := rfl
        rw [this]; omega
      · simp only [Array.toList_append, List.nil_append]
        rw [List.take_append_of_le_length (by rw [hl]; exact Nat.le_refl _)]
        exact List.take_of_length_le (by rw [hl]; exact Nat.le_refl _)
  refine wpList_plain hgd fun _ hk => ?_
  unfold Oper.wp execOp
  simp only [ho, resolve, invoke, builtin, Sem.run_bind, Sem.run_pure, Result.andThen_ok, List.map_toArray, List.map_cons, List.map_nil, hs, hx, hrun]
  exact hk _ _ (hK v' w' news hr hb hv)
end Go.Proofs.Ytbgohpcfinojoaa
