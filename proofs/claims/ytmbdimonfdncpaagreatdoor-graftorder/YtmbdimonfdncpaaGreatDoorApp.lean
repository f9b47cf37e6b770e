/-
  Rows of pairs that a call owns: what is appended to them, and how they read.
-/
import Derived.Test.YtmbdimonfdncpaaGreatDoorMade
import Derived.Maps.AppendAt
import Derived.OwnWalk
namespace Go.Proofs.YtmbdimonfdncpaaGreatDoor
open Go.RowKit
set_option maxHeartbeats 400000
set_option maxRecDepth 100000
theorem Tryz.info60 : (Tryz.prog.info? 32).map (fun i => (i.zero, i.size, i.bytes)) = some (some (.agg #[.string ⟨#[]⟩, .string ⟨#[]⟩]), 2, 32) := by kernel_rfl
theorem grown_then {w a b : World} {r : Option Nat} (h : w.grownBy a none) (k : a.grownBy b r) : w.grownBy b r :=
  ⟨k.os.trans h.os, k.tape.trans h.tape, k.output.trans h.output, Nat.le_trans h.size k.size, fun i hi hr => (k.block i (Nat.lt_of_lt_of_le hi h.size) hr).trans (h.block i hi (by simp))⟩
/-- append of one pair that was laid into a block of its own just ahead -/
theorem list_app2 {B : Nat} {w : World} {ops : Array Oper} {rest : List Oper} {o : Oper} {a : Act} {Q : Exit → Act → World → Prop} (t e : TypeId) (z : Value) (bytes : Nat) (hu : Tryz.prog.underlying t = some (.slice e)) (hinf : (Tryz.prog.info? e).map (fun i => (i.zero, i.size, i.bytes)) = some (some z, 2, bytes)) (hz : z.cells.size = 2) (hby : bytes ≤ 100)
    (hgd : o.guard = none) (s x : Operand) (ho : o.op = .call { callee := .builtin .append, args := #[s, x], argTypes := #[t, t] }) (v : Value) (n : Nat) (xs : List Value) (h : w.ownsRow B e 2 v n xs) (x1 x2 : Value) (h1 : x1.oneCell' = true) (h2 : x2.oneCell' = true) (hs : a.eval s = v) (hx : a.eval x = .slice (some ⟨w.heap.size, 0, none⟩) 1 1) (hn : n ≤ 1000) (hB : B ≤ w.heap.size)
    (hK : ∀ v' w', w'.ownsRow B e 2 v' (n + 1) (xs ++ [x1, x2]) → w.grownBy w' v.ownBlock → wpList Tryz.prog ops Q rest (a.put o.dst v') w') : wpList Tryz.prog ops Q (o :: rest) a (w.alloc (.cells #[x1, x2] e)) := by
  obtain ⟨i0, hi, hz0, hz1, hz2⟩ := info_parts hinf
  have hnew : (w.alloc (.cells #[x1, x2] e)).heap[w.heap.size]? = some (.cells #[x1, x2] e (0, 0)) := heap_alloc_new w _
  obtain ⟨v', w', hr, hown, hg, _⟩ := run_append_own (P := Tryz.prog) (w.alloc (.cells #[x1, x2] e)) B t o.type e i0 z 2 bytes hu hi hz0 hz1 hz2 hz (by decide) v n xs (World.ownsRow.alloc h _) ⟨w.heap.size, 0, none⟩ 1 1 [x1, x2] rfl
    (by
      intro j u hj
      rw [Go.WideShapes.add_plain, Nat.zero_add, cell_of_row _ w.heap.size j _ e (0, 0) hnew, ← hj]
      simp)
    (by
      intro u hu
      rcases List.mem_cons.1 hu with rfl | hu
      · exact h1
      · rcases List.mem_cons.1 hu with rfl | hu
        · exact h2
        · cases hu)
    (by unfold maxLen; omega) (by have := Nat.mul_le_mul (show n + 1 ≤ 1001 by omega) hby; omega) (by simp; omega)
  have hg2 : w.grownBy w' v.ownBlock := grown_then (World.grownBy_alloc w _ none) hg
  refine wpList_plain hgd fun _ hk => ?_
  unfold Oper.wp execOp
  simp only [ho, resolve, invoke, builtin, Sem.run_bind, Sem.run_pure, Result.andThen_ok, List.map_toArray, List.map_cons, List.map_nil, hs, hx, hr]
  exact hk _ _ (hK v' w' hown hg2)
/-- how a row reads -/
theorem row_reads {w : World} {B e n : Nat} {v : Value} {xs : List Value} (h : w.ownsRow B e 2 v n xs) : ∃ A c, v = .slice A n c ∧ (0 < n → ∃ g, A = some ⟨g, 0, none⟩ ∧ B ≤ g ∧ g < w.heap.size ∧ ∀ j, j < n * 2 → w.cell? ⟨g, j, none⟩ = xs[j]?) := by
  obtain ⟨hl, h⟩ := h
  rcases h with ⟨rfl, rfl⟩ | ⟨g, cap, cur, rfl, hb, hg, hc1, _, hsz, htk⟩
  · exact ⟨none, 0, rfl, fun h => by omega⟩
  · refine ⟨_, _, rfl, fun _ => ⟨g, rfl, hb, (Array.getElem?_eq_some_iff.1 hg).1, fun j hj => ?_⟩⟩
    rw [cell_of_row w g j cur e (0, 0) hg, ← htk, List.getElem?_take_of_lt hj]
    simp
/-- the cells of a list of pairs of strings -/
def scells (L : List Pr) : List Value := L.flatMap fun p => [.string ⟨p.1.toArray⟩, .string ⟨p.2.toArray⟩]
theorem scells_snoc (L : List Pr) (p : Pr) : scells (L ++ [p]) = scells L ++ [.string ⟨p.1.toArray⟩, .string ⟨p.2.toArray⟩] := by simp [scells]
theorem scells_at : ∀ (L : List Pr) (i : Nat) (h : i < L.length), (scells L)[i * 2]? = some (.string ⟨(L[i]).1.toArray⟩) ∧ (scells L)[i * 2 + 1]? = some (.string ⟨(L[i]).2.toArray⟩)
  | p :: L, 0, _ => by simp [scells]
  | p :: L, i + 1, h => by
    have ih := scells_at L i (by simpa using h)
    have e : scells (p :: L) = .string ⟨p.1.toArray⟩ :: .string ⟨p.2.toArray⟩ :: scells L := by simp [scells]
    rw [e, show (i + 1) * 2 = i * 2 + 1 + 1 by omega]
    simpa using ih
/-- a list of pairs of strings at an address -/
def Rcs (w : World) (A : Option Addr) (L : List Pr) : Prop :=
  L = [] ∨ ∃ b, A = some ⟨b, 0, none⟩ ∧ b < w.heap.size ∧ ∀ i (h : i < L.length), w.cell? ⟨b, i * 2, none⟩ = some (.string ⟨(L[i]).1.toArray⟩) ∧ w.cell? ⟨b, i * 2 + 1, none⟩ = some (.string ⟨(L[i]).2.toArray⟩)
theorem Rcs.below {w w' : World} {A : Option Addr} {L : List Pr} (h : Rcs w A L) (hb : Below w.heap.size w w') : Rcs w' A L := by
  rcases h with h | ⟨b, rfl, hlt, hc⟩
  · exact .inl h
  · refine .inr ⟨b, rfl, Nat.lt_of_lt_of_le hlt hb.size, fun i hi => ?_⟩
    exact ⟨(hb.cell (p := ⟨b, i * 2, none⟩) hlt).trans (hc i hi).1, (hb.cell (p := ⟨b, i * 2 + 1, none⟩) hlt).trans (hc i hi).2⟩
theorem Rcs.at {w : World} {A : Option Addr} {L : List Pr} (h : Rcs w A L) {j : Nat} (hj : j < L.length) : ∃ b, A = some ⟨b, 0, none⟩ ∧ b < w.heap.size ∧
    w.cell? ⟨b, j * 2, none⟩ = some (.string ⟨(L[j]).1.toArray⟩) ∧ w.cell? ⟨b, j * 2 + 1, none⟩ = some (.string ⟨(L[j]).2.toArray⟩) := by
  rcases h with rfl | ⟨b, rfl, hlt, hc⟩
  · simp at hj
  · exact ⟨b, rfl, hlt, hc j hj⟩
/-- the slice at A lies in a block made from B on -/
def NewIn (B : Nat) (w : World) (A : Option Addr) : Prop := ∀ a, A = some a → B ≤ a.block ∧ a.block < w.heap.size
theorem NewIn.later {B : Nat} {w w' : World} {A : Option Addr} (h : NewIn B w A) (k : w.heap.size ≤ w'.heap.size) : NewIn B w' A := fun a e => ⟨(h a e).1, Nat.lt_of_lt_of_le (h a e).2 k⟩
theorem NewIn.less {B C : Nat} {w : World} {A : Option Addr} (h : NewIn B w A) (k : C ≤ B) : NewIn C w A := fun a e => ⟨Nat.le_trans k (h a e).1, (h a e).2⟩
theorem own_new {w : World} {B e s n m c : Nat} {A : Option Addr} {xs : List Value} (h : w.ownsRow B e s (.slice A m c) n xs) : NewIn B w A := fun a ea => by
  rcases h.2 with ⟨e1, _⟩ | ⟨g, cap, cur, e1, h1, h2, _⟩
  · injection e1 with e1
    rw [e1] at ea
    cases ea
  · injection e1 with e1
    rw [e1] at ea
    injection ea with ea
    subst ea
    exact ⟨h1, (Array.getElem?_eq_some_iff.1 h2).1⟩
theorem rcs_own {w : World} {B : Nat} {v : Value} {L : List Pr} (h : w.ownsRow B 32 2 v L.length (scells L)) : ∃ A c, v = .slice A L.length c ∧ Rcs w A L := by
  obtain ⟨A, c, rfl, hr⟩ := row_reads h
  refine ⟨A, c, rfl, ?_⟩
  rcases Nat.eq_zero_or_pos L.length with h0 | h0
  · exact .inl (List.eq_nil_of_length_eq_zero h0)
  · obtain ⟨g, rfl, _, hg, hc⟩ := hr h0
    refine .inr ⟨g, rfl, hg, fun i hi => ?_⟩
    rw [hc _ (by omega), hc _ (by omega)]
    exact scells_at L i hi
/-- the cells of a list of pairs, whose bytes lie in w -/
def Prow (w : World) (xs : List Value) (L : List Pr) : Prop := xs.length = L.length * 2 ∧ ∀ i (h : i < L.length), ∃ ka kc va vc,
  xs[i * 2]? = some (.slice ka (L[i]).1.length kc) ∧ xs[i * 2 + 1]? = some (.slice va (L[i]).2.length vc) ∧ Bts w ka (L[i]).1 ∧ Bts w va (L[i]).2
theorem Prow.nil (w : World) : Prow w [] [] := ⟨rfl, fun i h => by simp at h⟩
theorem Prow.below {w w' : World} {xs : List Value} {L : List Pr} (h : Prow w xs L) (hb : Below w.heap.size w w') : Prow w' xs L := by
  refine ⟨h.1, fun i hi => ?_⟩
  obtain ⟨ka, kc, va, vc, h1, h2, h3, h4⟩ := h.2 i hi
  exact ⟨ka, kc, va, vc, h1, h2, h3.below hb, h4.below hb⟩
theorem Prow.snoc {w : World} {xs : List Value} {L : List Pr} (h : Prow w xs L) {p : Pr} {ka va : Option Addr} {kc vc : Nat} (h1 : Bts w ka p.1) (h2 : Bts w va p.2) : Prow w (xs ++ [.slice ka p.1.length kc, .slice va p.2.length vc]) (L ++ [p]) := by
  refine ⟨by simp [h.1]; omega, fun i hi => ?_⟩
  have hl := h.1
  rcases Nat.lt_or_ge i L.length with g | g
  · obtain ⟨ka', kc', va', vc', e1, e2, e3, e4⟩ := h.2 i g
    have e : (L ++ [p])[i] = L[i] := List.getElem_append_left g
    rw [e, List.getElem?_append_left (by omega), List.getElem?_append_left (by omega)]
    exact ⟨ka', kc', va', vc', e1, e2, e3, e4⟩
  · have hi2 : i = L.length := by simp at hi; omega
    subst hi2
    have e : (L ++ [p])[L.length] = p := by simp
    rw [e, List.getElem?_append_right (by omega), List.getElem?_append_right (by omega), hl, Nat.sub_self, show L.length * 2 + 1 - L.length * 2 = 1 by omega]
    exact ⟨ka, kc, va, vc, rfl, rfl, h1, h2⟩
theorem pcs_own {w w0 : World} {B n : Nat} {v : Value} {xs : List Value} {L : List Pr} (h : w.ownsRow B 29 2 v n xs) (hn : n = L.length) (hp : Prow w0 xs L) (hb : Below w0.heap.size w0 w) : ∃ A c, v = .slice A L.length c ∧ Pcs w A L := by
  subst hn
  obtain ⟨A, c, rfl, hr⟩ := row_reads h
  refine ⟨A, c, rfl, ?_⟩
  rcases Nat.eq_zero_or_pos L.length with h0 | h0
  · exact .inl (List.eq_nil_of_length_eq_zero h0)
  · obtain ⟨g, rfl, _, hg, hc⟩ := hr h0
    refine .inr ⟨g, 0, rfl, hg, fun i hi => ?_⟩
    rw [Nat.zero_add, hc _ (by omega), hc _ (by omega)]
    exact (hp.below hb).2 i hi
end Go.Proofs.YtmbdimonfdncpaaGreatDoor
