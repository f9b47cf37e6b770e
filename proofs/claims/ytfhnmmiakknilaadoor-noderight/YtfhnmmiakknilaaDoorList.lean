/-
  The contract of List: a tree's pairs, in memory of their own.
-/
import Derived.Test.YtfhnmmiakknilaaDoorEach
namespace Go.Proofs.YtfhnmmiakknilaaDoor
open Go.RowKit
set_option maxHeartbeats 4000000
set_option maxRecDepth 100000
/-- keys and values are short -/
def Fits (L : List Pr) : Prop := ∀ x ∈ L, x.1.length ≤ 1000 ∧ x.2.length ≤ 1000
theorem kept_of {B : Nat} {w w' : World} (h : Below B w w') : Kept (fun b => b < B) w w' := fun b hb _ => h.block b hb
/-- what List hands back: pairs in memory of their own, from B on -/
def Fresh (B : Nat) (w : World) (A : Option Addr) (c : Nat) (L : List Pr) : Prop := ∃ xs, w.ownsRow B 47 2 (.slice A L.length c) L.length xs ∧ Mrow B w xs L
theorem Fresh.pcs {B : Nat} {w : World} {A : Option Addr} {c : Nat} {L : List Pr} (h : Fresh B w A c L) : Pcs w A L := by
  obtain ⟨xs, ho, hm⟩ := h
  obtain ⟨A', c', e, hr⟩ := row_reads ho
  injection e with e1 _ _
  subst e1
  rcases Nat.eq_zero_or_pos L.length with h0 | h0
  · exact .inl (List.eq_nil_of_length_eq_zero h0)
  · obtain ⟨g, rfl, _, hg, hc⟩ := hr h0
    refine .inr ⟨g, 0, rfl, hg, fun i hi => ?_⟩
    obtain ⟨kb, vb, h1, h2, h3, h4⟩ := hm.2 i hi
    rw [Nat.zero_add, hc _ (by omega), hc _ (by omega)]
    exact ⟨_, _, _, _, h1, h2, bts_row h3.2, bts_row h4.2⟩
end Go.Proofs.YtfhnmmiakknilaaDoor
