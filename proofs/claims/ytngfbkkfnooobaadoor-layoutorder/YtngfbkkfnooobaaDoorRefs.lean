/-
  Contracts of the reference: Come, Is, Get, Rank, Same.
-/
import Derived.Test.YtngfbkkfnooobaaDoorRef
import Derived.Laws.StructEq
namespace Go.Proofs.YtngfbkkfnooobaaDoor
open Go.RowKit
set_option maxHeartbeats 400000
set_option maxRecDepth 100000
theorem take_more' {L M : List Pr} {j : Nat} (h : L.take j = M.take j) (h1 : j < L.length) (h2 : j < M.length) (e : L[j] = M[j]) : L.take (j + 1) = M.take (j + 1) := by
  rw [List.take_succ_eq_append_getElem h1, List.take_succ_eq_append_getElem h2, h, e]
theorem no_eq {L M : List Pr} {j : Nat} (h1 : j < L.length) (h2 : j < M.length) (e : L[j] ≠ M[j]) : decide (L = M) = false := decide_eq_false fun h => e (by subst h; rfl)
theorem has_take {M : List Pr} {j : Nat} {k : List UInt8} (h : j < M.length) : has (M.take (j + 1)) k = (has (M.take j) k || decide ((M[j]).1 = k)) := by
  rw [List.take_succ_eq_append_getElem h]
  simp only [has, List.any_append, List.any_cons, List.any_nil, Bool.or_false]
end Go.Proofs.YtngfbkkfnooobaaDoor
