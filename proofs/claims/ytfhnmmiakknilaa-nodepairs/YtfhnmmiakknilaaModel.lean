/-
  Contracts of the reference's Get and Without, of Visits, and of the statements' own Fine.
-/
import Derived.Test.YtfhnmmiakknilaaRefs
import Derived.Test.YtfhnmmiakknilaaLists
namespace Go.Proofs.Ytfhnmmiakknilaa
open Go.RowKit
set_option maxHeartbeats 4000000
set_option maxRecDepth 100000
theorem val_at {M : List Pr} {k : List UInt8} {j : Nat} (h : j < M.length) (hno : has (M.take j) k = false) (he : (M[j]).1 = k) : val M k = (M[j]).2 := by
  have e : M = M.take j ++ M[j] :: M.drop (j + 1) := by rw [List.getElem_cons_drop, List.take_append_drop]
  have hn : ∀ x ∈ M.take j, x.1 ≠ k := fun x hx e => by
    have : has (M.take j) k = true := List.any_eq_true.2 ⟨x, hx, decide_eq_true e⟩
    rw [hno] at this
    cases this
  conv => lhs; rw [e]
  rw [val_none hn, val, List.find?_cons_of_pos (p := fun x : Pr => decide (x.1 = k)) (by simpa using he)]
  rfl
theorem has_none {M : List Pr} {k : List UInt8} (h : has M k = false) : out M k = M ∧ val M k = [] := by
  have hn : ∀ x ∈ M, x.1 ≠ k := fun x hx e => by
    have : has M k = true := List.any_eq_true.2 ⟨x, hx, decide_eq_true e⟩
    rw [h] at this
    cases this
  exact ⟨(out_none hn).1, (out_none hn).2.2⟩
theorem out_take {M : List Pr} {j : Nat} {k : List UInt8} (h : j < M.length) : out (M.take (j + 1)) k = out (M.take j) k ++ (if (M[j]).1 = k then [] else [M[j]]) := by
  rw [List.take_succ_eq_append_getElem h, out_append]
  congr 1
  by_cases e : (M[j]).1 = k
  · rw [if_pos e]; simp [out, e]
  · rw [if_neg e]; simp [out, e]
/-- a call: its kind, its key and value -/
abbrev Opn := Int × Pr
/-- the slice at A reads as the calls L -/
def Ocs (w : World) (A : Option Addr) (L : List Opn) : Prop :=
  L = [] ∨ ∃ b off, A = some ⟨b, off, none⟩ ∧ b < w.heap.size ∧ ∀ i (h : i < L.length), ∃ ka kc va vc,
    w.cell? ⟨b, off + i * 3, none⟩ = some (.int .i64 (L[i]).1) ∧ w.cell? ⟨b, off + i * 3 + 1, none⟩ = some (.slice ka (L[i]).2.1.length kc) ∧ w.cell? ⟨b, off + i * 3 + 2, none⟩ = some (.slice va (L[i]).2.2.length vc) ∧ Bts w ka (L[i]).2.1 ∧ Bts w va (L[i]).2.2
theorem Ocs.below {w w' : World} {A : Option Addr} {L : List Opn} (h : Ocs w A L) (hb : Below w.heap.size w w') : Ocs w' A L := by
  rcases h with h | ⟨b, off, rfl, hlt, hc⟩
  · exact .inl h
  · refine .inr ⟨b, off, rfl, Nat.lt_of_lt_of_le hlt hb.size, fun i hi => ?_⟩
    obtain ⟨ka, kc, va, vc, h1, h2, h3, h4, h5⟩ := hc i hi
    exact ⟨ka, kc, va, vc, (hb.cell (p := ⟨b, off + i * 3, none⟩) hlt).trans h1, (hb.cell (p := ⟨b, off + i * 3 + 1, none⟩) hlt).trans h2, (hb.cell (p := ⟨b, off + i * 3 + 2, none⟩) hlt).trans h3, h4.below hb, h5.below hb⟩
theorem Ocs.at {w : World} {A : Option Addr} {L : List Opn} (h : Ocs w A L) {j : Nat} (hj : j < L.length) : ∃ b off ka kc va vc, A = some ⟨b, off, none⟩ ∧ b < w.heap.size ∧
    w.cell? ⟨b, off + j * 3, none⟩ = some (.int .i64 (L[j]).1) ∧ w.cell? ⟨b, off + j * 3 + 1, none⟩ = some (.slice ka (L[j]).2.1.length kc) ∧ w.cell? ⟨b, off + j * 3 + 2, none⟩ = some (.slice va (L[j]).2.2.length vc) ∧ Bts w ka (L[j]).2.1 ∧ Bts w va (L[j]).2.2 := by
  rcases h with rfl | ⟨b, off, rfl, hlt, hc⟩
  · simp at hj
  · obtain ⟨ka, kc, va, vc, h⟩ := hc j hj
    exact ⟨b, off, ka, kc, va, vc, rfl, hlt, h⟩
def tinyO (L : List Opn) : Bool := L.all fun p => decide (p.2.1.length ≤ 100) && decide (p.2.2.length ≤ 100)
theorem tinyO_take {L : List Opn} {n : Nat} (h : n < L.length) : tinyO (L.take (n + 1)) = (tinyO (L.take n) && (decide ((L[n]).2.1.length ≤ 100) && decide ((L[n]).2.2.length ≤ 100))) := by
  rw [List.take_succ_eq_append_getElem h]
  simp only [tinyO, List.all_append, List.all_cons, List.all_nil, Bool.and_true]
theorem tinyO_no {L : List Opn} {n : Nat} (h : n < L.length) (hn : (decide ((L[n]).2.1.length ≤ 100) && decide ((L[n]).2.2.length ≤ 100)) = false) : tinyO L = false := by
  rw [Bool.eq_false_iff]
  intro e
  have := List.all_eq_true.1 e _ (List.getElem_mem h)
  rw [hn] at this
  cases this
theorem tinyO_all {L : List Opn} (h : tinyO L = true) : ∀ p ∈ L, p.2.1.length ≤ 100 ∧ p.2.2.length ≤ 100 := fun p hp => by
  have := List.all_eq_true.1 h p hp
  simpa using this
end Go.Proofs.Ytfhnmmiakknilaa
