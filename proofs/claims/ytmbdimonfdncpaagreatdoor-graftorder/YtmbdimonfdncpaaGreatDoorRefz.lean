/-
  Contracts of the reference: Of, Put, Come.
-/
import Derived.Test.YtmbdimonfdncpaaGreatDoorApp
import Derived.Laws.StructEq
namespace Go.Proofs.YtmbdimonfdncpaaGreatDoor
open Go.RowKit
set_option maxHeartbeats 400000
set_option maxRecDepth 100000
theorem bs_list (l : List UInt8) : (⟨l.toArray⟩ : ByteArray).data.toList = l := rfl
theorem bs_size (l : List UInt8) : (⟨l.toArray⟩ : ByteArray).size = l.length := by simp [ByteArray.size]
theorem bs_ne {l m : List UInt8} (h : l ≠ m) : ((⟨l.toArray⟩ : ByteArray).toList == (⟨m.toArray⟩ : ByteArray).toList) = false := by
  rw [ByteArray.toList_eq, ByteArray.toList_eq]
  simpa using h
theorem putGo_step (p q : Pr) (b : Bool) (m : List Pr) : putGo p b (q :: m) = (if !b && !decide (cmp q.1 p.1 < 0) then [p] else []) ++ ((if q.1 = p.1 then [] else [q]) ++ putGo p (b || !decide (cmp q.1 p.1 < 0)) m) := rfl
theorem put_end {M N : List Pr} {p : Pr} (hN : N ++ putGo p false (M.drop M.length) = put M p) : N ++ [p] = put M p := by
  rw [← hN, List.drop_length]
  rfl
theorem put_end' {M N : List Pr} {p : Pr} (hN : N ++ putGo p true (M.drop M.length) = put M p) : N = put M p := by
  rw [← hN, List.drop_length]
  simp [putGo]
theorem own_keep {w w' : World} {B e n : Nat} {v : Value} {xs : List Value} (h : w.ownsRow B e 2 v n xs) (hb : Below w.heap.size w w') : w'.ownsRow B e 2 v n xs := by
  refine ⟨h.1, ?_⟩
  rcases h.2 with hn | ⟨g, cap, cur, rfl, h1, h2, rest⟩
  · exact .inl hn
  · exact .inr ⟨g, cap, cur, rfl, h1, (hb.block g (Array.getElem?_eq_some_iff.1 h2).1).trans h2, rest⟩
theorem put_same {M N : List Pr} {p : Pr} {j : Nat} {b : Bool} (hlt : j < M.length) (hN : N ++ putGo p b (M.drop j) = put M p) (hb : b = true ∨ cmp (M[j]).1 p.1 < 0) (hq : (M[j]).1 = p.1) : N ++ putGo p b (M.drop (j + 1)) = put M p := by
  rw [List.drop_eq_getElem_cons hlt, putGo_step] at hN
  have hb1 : b = true := by
    rcases hb with h | h
    · exact h
    · exact absurd hq (cmp_ne h)
  subst hb1
  simpa [hq] using hN
theorem put_other {M N : List Pr} {p : Pr} {j : Nat} {b : Bool} (hlt : j < M.length) (hN : N ++ putGo p b (M.drop j) = put M p) (hb : b = true ∨ cmp (M[j]).1 p.1 < 0) (hq : (M[j]).1 ≠ p.1) : (N ++ [M[j]]) ++ putGo p b (M.drop (j + 1)) = put M p := by
  rw [List.drop_eq_getElem_cons hlt, putGo_step] at hN
  rw [← hN]
  rcases hb with rfl | h
  · simp [hq]
  · simp [hq, h]
theorem put_in {M N : List Pr} {p : Pr} {j : Nat} (hlt : j < M.length) (hN : N ++ putGo p false (M.drop j) = put M p) (hb : ¬ cmp (M[j]).1 p.1 < 0) : ((N ++ [p]) ++ if (M[j]).1 = p.1 then [] else [M[j]]) ++ putGo p true (M.drop (j + 1)) = put M p := by
  rw [List.drop_eq_getElem_cons hlt, putGo_step] at hN
  rw [← hN]
  simp [hb]
end Go.Proofs.YtmbdimonfdncpaaGreatDoor
/-
  Contracts of the reference: Come, Is, Get, Rank, Same.
-/
namespace Go.Proofs.YtmbdimonfdncpaaGreatDoor
open Go.RowKit
set_option maxHeartbeats 400000
set_option maxRecDepth 100000
theorem take_more' {L M : List Pr} {j : Nat} (h : L.take j = M.take j) (h1 : j < L.length) (h2 : j < M.length) (e : L[j] = M[j]) : L.take (j + 1) = M.take (j + 1) := by
  rw [List.take_succ_eq_append_getElem h1, List.take_succ_eq_append_getElem h2, h, e]
theorem no_eq {L M : List Pr} {j : Nat} (h1 : j < L.length) (h2 : j < M.length) (e : L[j] ≠ M[j]) : decide (L = M) = false := decide_eq_false fun h => e (by subst h; rfl)
theorem has_take {M : List Pr} {j : Nat} {k : List UInt8} (h : j < M.length) : has (M.take (j + 1)) k = (has (M.take j) k || decide ((M[j]).1 = k)) := by
  rw [List.take_succ_eq_append_getElem h]
  simp only [has, List.any_append, List.any_cons, List.any_nil, Bool.or_false]
end Go.Proofs.YtmbdimonfdncpaaGreatDoor
/-
  Out of an elder text.
-/
namespace Go.Proofs.YtmbdimonfdncpaaGreatDoor
open Go.RowKit
set_option maxHeartbeats 400000
set_option maxRecDepth 100000
end Go.Proofs.YtmbdimonfdncpaaGreatDoor
