/-
  Lists of numbers; contracts of Has and Less (the reference's), Number, Of, awake.
-/
import Derived.Test.YtngfbkkfnooobaaDoorBCount
namespace Go.Proofs.YtngfbkkfnooobaaDoor.Bt
open Go.RowKit
set_option maxHeartbeats 400000
set_option maxRecDepth 100000
/-- the slice at A reads as the numbers L, in blocks that are there -/
def Ints (w : World) (A : Option Addr) (L : List Int) : Prop :=
  L = [] ∨ ∃ b off, A = some ⟨b, off, none⟩ ∧ b < w.heap.size ∧ ∀ i (h : i < L.length), w.cell? ⟨b, off + i, none⟩ = some (.int .i64 L[i])
theorem Ints.below {w w' : World} {A : Option Addr} {l : List Int} (h : Ints w A l) (hb : Below w.heap.size w w') : Ints w' A l := by
  rcases h with h | ⟨b, off, rfl, hlt, hc⟩
  · exact .inl h
  · exact .inr ⟨b, off, rfl, Nat.lt_of_lt_of_le hlt hb.size, fun i hi => (hb.cell (p := ⟨b, off + i, none⟩) hlt).trans (hc i hi)⟩
theorem Ints.at_ {w : World} {A : Option Addr} {l : List Int} (h : Ints w A l) (k : Nat) (hk : k < l.length) :
    ∃ b off, A = some ⟨b, off, none⟩ ∧ w.cell? ⟨b, off + k, none⟩ = some (.int .i64 l[k]) := by
  rcases h with h | ⟨b, off, rfl, _, hc⟩
  · subst h; simp at hk
  · exact ⟨b, off, rfl, hc k hk⟩
theorem mem_take_succ {L : List Int} {j : Nat} (hj : j < L.length) (z : Int) : z ∈ L.take (j + 1) ↔ z ∈ L.take j ∨ z = L[j] := by
  rw [List.take_succ_eq_append_getElem hj, List.mem_append, List.mem_singleton]
theorem ofL_take_succ {L : List Int} {j : Nat} (hj : j < L.length) : ofL (L.take (j + 1)) = ofL (L.take j) ||| one L[j] := by
  rw [List.take_succ_eq_append_getElem hj, ofL_snoc]
end Go.Proofs.YtngfbkkfnooobaaDoor.Bt
