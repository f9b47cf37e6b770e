/-
  Contracts of Of; of spotOf.
-/
import Derived.Test.YtmbdimonfdncpaaDoorBuilts
import Derived.Test.YtmbdimonfdncpaaDoorLast
namespace Go.Proofs.YtmbdimonfdncpaaDoor
open Go.RowKit
set_option maxHeartbeats 1000000
set_option maxRecDepth 100000
/-- entries that may be laid out: few, and short -/
def FitE (L : List En) : Prop := L.length ≤ 100 ∧ ∀ e ∈ L, e.1 < 18446744073709551616 ∧ e.2.1.length ≤ 1000 ∧ e.2.2.length ≤ 1000
theorem FitE.good {L : List En} (h : FitE L) : Good 0 (comeE L) := good_come h.2 h.1
/-- a spot's value -/
def Sp.agg (s : Sp) : Value := .agg #[.int .i64 (s.level : Int), .int .i64 (s.kind : Int), .int .u64 (s.hash : Int), .int .u32 (s.map : Int), .int .i64 (s.count : Int)]
def Sp.cells (s : Sp) : List Value := [.int .i64 (s.level : Int), .int .i64 (s.kind : Int), .int .u64 (s.hash : Int), .int .u32 (s.map : Int), .int .i64 (s.count : Int)]
theorem bits_map (x : Nd) : x.bits = x.map := by cases x <;> rfl
/-- the spot of a node at a level, as the program tells it -/
def Nd.spotP (x : Nd) (lv : Nat) : Sp := if x.kind = 0 then ⟨0, 0, 0, 0, 0⟩ else x.spot lv
/-- the world behind five stores into a row of five -/
def set5 (W : World) (g : Nat) (v0 v1 v2 v3 v4 : Value) : World := ((((W.setCell ⟨g, 0, none⟩ v0).setCell ⟨g, 1, none⟩ v1).setCell ⟨g, 2, none⟩ v2).setCell ⟨g, 3, none⟩ v3).setCell ⟨g, 4, none⟩ v4
theorem set5_row {W : World} {g t : Nat} {a b c d e : Value} (h : W.heap[g]? = some (.cells #[a, b, c, d, e] t (0, 0))) (v0 v1 v2 v3 v4 : Value) : (set5 W g v0 v1 v2 v3 v4).heap[g]? = some (.cells #[v0, v1, v2, v3, v4] t (0, 0)) := by
  have h0 := heap_setCell_same W g 0 _ t v0 h
  have h1 := heap_setCell_same _ g 1 _ t v1 h0
  have h2 := heap_setCell_same _ g 2 _ t v2 h1
  have h3 := heap_setCell_same _ g 3 _ t v3 h2
  have h4 := heap_setCell_same _ g 4 _ t v4 h3
  exact h4
theorem set5_below {W : World} {B g : Nat} (hB : B ≤ g) (v0 v1 v2 v3 v4 : Value) : Below B W (set5 W g v0 v1 v2 v3 v4) :=
  ((((Below.refl B W |>.setCell (p := ⟨g, 0, none⟩) hB v0).setCell (p := ⟨g, 1, none⟩) hB v1).setCell (p := ⟨g, 2, none⟩) hB v2).setCell (p := ⟨g, 3, none⟩) hB v3).setCell (p := ⟨g, 4, none⟩) hB v4
theorem row5f {w : World} {b t : Nat} {a0 a1 a2 a3 a4 : Value} (h : w.heap[b]? = some (.cells #[a0, a1, a2, a3, a4] t (0, 0))) :
    (w.cell? ⟨b, 0, none⟩ = some a0 ∧ w.cell? ⟨b, 1, none⟩ = some a1 ∧ w.cell? ⟨b, 2, none⟩ = some a2 ∧ w.cell? ⟨b, 3, none⟩ = some a3 ∧ w.cell? ⟨b, 4, none⟩ = some a4) ∧
      (w.frozen? ⟨b, 0, none⟩ = false ∧ w.frozen? ⟨b, 1, none⟩ = false ∧ w.frozen? ⟨b, 2, none⟩ = false ∧ w.frozen? ⟨b, 3, none⟩ = false ∧ w.frozen? ⟨b, 4, none⟩ = false) :=
  ⟨⟨row_cell h rfl, row_cell h rfl, row_cell h rfl, row_cell h rfl, row_cell h rfl⟩, frozen_of_row _ _ _ _ _ h, frozen_of_row _ _ _ _ _ h, frozen_of_row _ _ _ _ _ h, frozen_of_row _ _ _ _ _ h, frozen_of_row _ _ _ _ _ h⟩
end Go.Proofs.YtmbdimonfdncpaaDoor
