/-
  A list of numbers appended to a row that the call owns.
-/
import Derived.Test.YtbagfhidkjkmnaaList
namespace Go.Proofs.Ytbagfhidkjkmnaa
open Go.RowKit
set_option maxHeartbeats 400000
set_option maxRecDepth 100000
theorem icells_length (l : List Int) : (icells l).length = l.length := by simp [icells]
theorem icells_append (l m : List Int) : icells (l ++ m) = icells l ++ icells m := by simp [icells]
theorem icells_one (l : List Int) : ∀ u ∈ icells l, u.oneCell' = true := by
  intro u hu
  obtain ⟨z, _, rfl⟩ := List.mem_map.1 hu
  rfl
theorem run_app_ints {B n : Nat} {w : World} {v : Value} {xs : List Value} (h : w.ownsRow B 3 1 v n xs) (A : Option Addr) (c : Nat) (L : List Int) (hI : Ints w A L) (ty : TypeId) (hlen : n + L.length ≤ 1000) (hB : B ≤ w.heap.size) :
    ∃ v' w', (Builtin.append_ #[22, 22] ty #[v, .slice A L.length c]).run Try.prog w = .ok v' w' ∧ w'.ownsRow B 3 1 v' (n + L.length) (xs ++ icells L) ∧ w.grownBy w' v.ownBlock := by
  obtain ⟨i0, hi, hz0, hz1, hz2⟩ := info_parts Try.info3
  cases A with
  | none =>
    have hne : L = [] := by
      rcases hI with h | ⟨b, off, h, _⟩
      · exact h
      · cases h
    subst hne
    refine ⟨v, w, ?_, by simpa [icells] using h, ⟨rfl, rfl, rfl, Nat.le_refl _, fun _ _ _ => rfl⟩⟩
    rcases h.2 with ⟨rfl, rfl⟩ | ⟨g, cap, cur, rfl, _, _, hnc, _⟩
    · simp [Builtin.append_, run_underlying Try.underlying22, Go.sizeOf, typeInfo, hi, Builtin.lenOf, Builtin.firstCells]
    · simp [Builtin.append_, run_underlying Try.underlying22, Go.sizeOf, typeInfo, hi, Builtin.lenOf, Builtin.firstCells, hnc, storeCells]
  | some a =>
    have hcells : ∀ j u, (icells L)[j]? = some u → w.cell? (a.add j) = some u := by
      intro j u hu
      have hj : j < L.length := by
        have := (List.getElem?_eq_some_iff.1 hu).1
        rwa [icells_length] at this
      obtain ⟨b, off, e, hc⟩ := hI.at_ j hj
      injection e with e
      subst e
      rw [Go.WideShapes.add_plain, hc, ← hu]
      simp [icells, hj]
    obtain ⟨v', w', hr, h2, h3, _⟩ := run_append_own (P := Try.prog) w B 22 ty 3 i0 _ 1 8 Try.underlying22 hi hz0 hz1 hz2 rfl (by decide) v n xs h a L.length c (icells L) (by rw [icells_length, Nat.mul_one]) hcells (icells_one L) (by unfold maxLen; omega) (by omega) hB
    exact ⟨v', w', hr, h2, h3⟩
/-- append of a list of numbers, at the operation -/
theorem list_app_ints {B n : Nat} {w : World} {ops : Array Oper} {rest : List Oper} {o : Oper} {a : Act} {Q : Exit → Act → World → Prop} (hgd : o.guard = none) (s x : Operand) (ho : o.op = .call { callee := .builtin .append, args := #[s, x], argTypes := #[22, 22] })
    (v : Value) (xs : List Value) (L : List Int) (A : Option Addr) (c : Nat) (h : w.ownsRow B 3 1 v n xs) (hI : Ints w A L) (hs : a.eval s = v) (hx : a.eval x = .slice A L.length c) (hlen : n + L.length ≤ 1000) (hB : B ≤ w.heap.size)
    (hK : ∀ v' w', w'.ownsRow B 3 1 v' (n + L.length) (xs ++ icells L) → w.grownBy w' v.ownBlock → wpList Try.prog ops Q rest (a.put o.dst v') w') : wpList Try.prog ops Q (o :: rest) a w := by
  obtain ⟨v', w', hrun, h2, h3⟩ := run_app_ints h A c L hI o.type hlen hB
  refine wpList_plain hgd fun _ hk => ?_
  unfold Oper.wp execOp
  simp only [ho, resolve, invoke, builtin, Sem.run_bind, Sem.run_pure, Result.andThen_ok, List.map_toArray, List.map_cons, List.map_nil, hs, hx, hrun]
  exact hk _ _ (hK v' w' h2 h3)
/-- a row of no numbers, just made -/
theorem own_empty (w : World) : (w.alloc (.cells #[] 3)).ownsRow w.heap.size 3 1 (.slice (some ⟨w.heap.size, 0, none⟩) 0 0) 0 (icells []) :=
  ⟨rfl, .inr ⟨w.heap.size, 0, #[], rfl, Nat.le_refl _, heap_alloc_new w _, Nat.le_refl _, Nat.zero_le _, rfl, rfl⟩⟩
theorem filter_take_succ {L : List Int} {j : Nat} (hj : j < L.length) (z : Int) : (L.take (j + 1)).filter (fun x => x != z) = (L.take j).filter (fun x => x != z) ++ (if L[j] = z then [] else [L[j]]) := by
  rw [List.take_succ_eq_append_getElem hj, List.filter_append]
  by_cases h : L[j] = z <;> simp [h]
end Go.Proofs.Ytbagfhidkjkmnaa
