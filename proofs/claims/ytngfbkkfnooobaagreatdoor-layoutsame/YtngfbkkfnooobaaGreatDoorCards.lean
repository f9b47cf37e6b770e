/-
  DERIVED. GIVEN WITH THE SEED: THE CARDS: each row of YtngfbkkfnooobaaGreatDoorRows.lean that lists a variable, with what it lists TIED to the program's text (the seventh form; the later family's looks); each row that meets fmt, with fmt's text TOLD by the authors' own Lean function (tested against real Go, not proved from fmt's source: count such statements apart). THE CARD IS WHAT COUNTS. Prove the row's statement (the work); the ties are given (YtngfbkkfnooobaaGreatDoorTie.lean); close each card by the builder's one call (the guide's Derived/Test/ToyasCard.lean, 'card_holds'). Laid BY PROGRAM, IN A SANDBOX (cutbox-door.mjs). By AI agents, Wed Nov 11 2026. No macro, syntax, notation, axiom, sorry.
-/
import Derived.Test.YtngfbkkfnooobaaGreatDoorRows
import GoSem.ClaimSeven
namespace Go.Proofs.YtngfbkkfnooobaaGreatDoor
namespace Rows

/-- THE TIED CARD OF 'brushwoodlaw17.LayoutOf'. -/
def layoutOfCard : Claim7 := { stood := { row := layoutOfRow, standIns := [], harness := (true, "ae07f5f275a22cca15a8eeedea6ee35a27bce9f3de784edce0c5ae1c8460cfb6"), looks := true }, kinds := [], alts := [], laidByText := true, laidKinds := [.data], laidTests := true, laidLooks := .later }
def LayoutOfCardSaid : Prop := Claim7.holds Tryz.pinned (.plain (OpenSpec.ofChange layoutOfSpec)) layoutOfCard

/-- THE TIED CARD OF 'brushwoodlaw17.LayoutSame'. -/
def layoutSameCard : Claim7 := { stood := { row := layoutSameRow, standIns := [], harness := (true, "ae07f5f275a22cca15a8eeedea6ee35a27bce9f3de784edce0c5ae1c8460cfb6"), looks := true }, kinds := [], alts := [], laidByText := true, laidKinds := [.data], laidTests := true, laidLooks := .later }
def LayoutSameCardSaid : Prop := Claim7.holds Tryz.pinned (.plain (OpenSpec.ofChange layoutSameSpec)) layoutSameCard

/-- THE SECOND FORM's CARD OF 'brushwoodlaw17.LayoutOf'. -/
def layoutOfUptoCard : Claim7 := { stood := { row := layoutOfUptoRow, standIns := [], harness := (true, "ae07f5f275a22cca15a8eeedea6ee35a27bce9f3de784edce0c5ae1c8460cfb6"), looks := true }, kinds := [], alts := [], laidByText := true, laidKinds := [.data], laidTests := true, laidLooks := .later }
def LayoutOfUptoCardSaid : Prop := Claim7.holds Tryz.pinned (.plain (OpenSpec.upto layoutOfSpec)) layoutOfUptoCard

/-- THE SECOND FORM's CARD OF 'brushwoodlaw17.LayoutSame'. -/
def layoutSameUptoCard : Claim7 := { stood := { row := layoutSameUptoRow, standIns := [], harness := (true, "ae07f5f275a22cca15a8eeedea6ee35a27bce9f3de784edce0c5ae1c8460cfb6"), looks := true }, kinds := [], alts := [], laidByText := true, laidKinds := [.data], laidTests := true, laidLooks := .later }
def LayoutSameUptoCardSaid : Prop := Claim7.holds Tryz.pinned (.plain (OpenSpec.upto layoutSameSpec)) layoutSameUptoCard
end Rows
end Go.Proofs.YtngfbkkfnooobaaGreatDoor
