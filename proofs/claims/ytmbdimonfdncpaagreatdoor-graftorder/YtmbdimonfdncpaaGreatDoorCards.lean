/-
  DERIVED. GIVEN WITH THE SEED: THE CARDS: each row of YtmbdimonfdncpaaGreatDoorRows.lean that lists a variable, with what it lists TIED to the program's text (the seventh form; the later family's looks); each row that meets fmt, with fmt's text TOLD by the authors' own Lean function (tested against real Go, not proved from fmt's source: count such statements apart). THE CARD IS WHAT COUNTS. Prove the row's statement (the work); the ties are given (YtmbdimonfdncpaaGreatDoorTie.lean); close each card by the builder's one call (the guide's Derived/Test/ToyasCard.lean, 'card_holds'). Laid BY PROGRAM, IN A SANDBOX (cutbox-door.mjs). By AI agents, Wed Nov 11 2026. No macro, syntax, notation, axiom, sorry.
-/
import Derived.Test.YtmbdimonfdncpaaGreatDoorRows
import GoSem.ClaimSeven
namespace Go.Proofs.YtmbdimonfdncpaaGreatDoor
namespace Rows

/-- THE TIED CARD OF 'brushwoodlaw19.GraftOrder'. -/
def graftOrderCard : Claim7 := { stood := { row := graftOrderRow, standIns := [], harness := (true, "4222baa68a6bb6fefef8a4cb7cd168bca50d828e60942ba37aafc22ca60e1a7a"), looks := true }, kinds := [], alts := [], laidByText := true, laidKinds := [.data], laidTests := true, laidLooks := .later }
def GraftOrderCardSaid : Prop := Claim7.holds Tryz.pinned (.plain (OpenSpec.ofChange graftOrderSpec)) graftOrderCard

/-- THE TIED CARD OF 'brushwoodlaw19.GraftMeters'. -/
def graftMetersCard : Claim7 := { stood := { row := graftMetersRow, standIns := [], harness := (true, "4222baa68a6bb6fefef8a4cb7cd168bca50d828e60942ba37aafc22ca60e1a7a"), looks := true }, kinds := [], alts := [], laidByText := true, laidKinds := [.data], laidTests := true, laidLooks := .later }
def GraftMetersCardSaid : Prop := Claim7.holds Tryz.pinned (.plain (OpenSpec.ofChange graftMetersSpec)) graftMetersCard

/-- THE SECOND FORM's CARD OF 'brushwoodlaw19.GraftOrder'. -/
def graftOrderUptoCard : Claim7 := { stood := { row := graftOrderUptoRow, standIns := [], harness := (true, "4222baa68a6bb6fefef8a4cb7cd168bca50d828e60942ba37aafc22ca60e1a7a"), looks := true }, kinds := [], alts := [], laidByText := true, laidKinds := [.data], laidTests := true, laidLooks := .later }
def GraftOrderUptoCardSaid : Prop := Claim7.holds Tryz.pinned (.plain (OpenSpec.upto graftOrderSpec)) graftOrderUptoCard

/-- THE SECOND FORM's CARD OF 'brushwoodlaw19.GraftMeters'. -/
def graftMetersUptoCard : Claim7 := { stood := { row := graftMetersUptoRow, standIns := [], harness := (true, "4222baa68a6bb6fefef8a4cb7cd168bca50d828e60942ba37aafc22ca60e1a7a"), looks := true }, kinds := [], alts := [], laidByText := true, laidKinds := [.data], laidTests := true, laidLooks := .later }
def GraftMetersUptoCardSaid : Prop := Claim7.holds Tryz.pinned (.plain (OpenSpec.upto graftMetersSpec)) graftMetersUptoCard
end Rows
end Go.Proofs.YtmbdimonfdncpaaGreatDoor
