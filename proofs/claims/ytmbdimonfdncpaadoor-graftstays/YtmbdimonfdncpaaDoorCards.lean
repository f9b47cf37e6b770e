/-
  DERIVED. GIVEN WITH THE SEED: THE CARDS: each row of YtmbdimonfdncpaaDoorRows.lean that lists a variable, with what it lists TIED to the program's text (the seventh form; the later family's looks); each row that meets fmt, with fmt's text TOLD by the authors' own Lean function (tested against real Go, not proved from fmt's source: count such statements apart). THE CARD IS WHAT COUNTS. Prove the row's statement (the work); the ties are given (YtmbdimonfdncpaaDoorTie.lean); close each card by the builder's one call (the guide's Derived/Test/ToyasCard.lean, 'card_holds'). Laid BY PROGRAM, IN A SANDBOX (cutbox-door.mjs). By AI agents, Wed Nov 11 2026. No macro, syntax, notation, axiom, sorry.
-/
import Derived.Test.YtmbdimonfdncpaaDoorRows
import GoSem.ClaimSeven
namespace Go.Proofs.YtmbdimonfdncpaaDoor
namespace Rows

/-- THE TIED CARD OF 'brushwoodlaw19.GraftPuts'. -/
def graftPutsCard : Claim7 := { stood := { row := graftPutsRow, standIns := [], harness := (true, "35dc533787c930bad302c2d2ea47b3e20978ad89d776b5db352aabc593759e5c"), looks := true }, kinds := [], alts := [], laidByText := true, laidKinds := [.data], laidTests := true, laidLooks := .later }
def GraftPutsCardSaid : Prop := Claim7.holds Tryd.pinned (.plain (OpenSpec.ofChange graftPutsSpec)) graftPutsCard

/-- THE TIED CARD OF 'brushwoodlaw19.GraftStays'. -/
def graftStaysCard : Claim7 := { stood := { row := graftStaysRow, standIns := [], harness := (true, "35dc533787c930bad302c2d2ea47b3e20978ad89d776b5db352aabc593759e5c"), looks := true }, kinds := [], alts := [], laidByText := true, laidKinds := [.data], laidTests := true, laidLooks := .later }
def GraftStaysCardSaid : Prop := Claim7.holds Tryd.pinned (.plain (OpenSpec.ofChange graftStaysSpec)) graftStaysCard

/-- THE SECOND FORM's CARD OF 'brushwoodlaw19.GraftPuts'. -/
def graftPutsUptoCard : Claim7 := { stood := { row := graftPutsUptoRow, standIns := [], harness := (true, "35dc533787c930bad302c2d2ea47b3e20978ad89d776b5db352aabc593759e5c"), looks := true }, kinds := [], alts := [], laidByText := true, laidKinds := [.data], laidTests := true, laidLooks := .later }
def GraftPutsUptoCardSaid : Prop := Claim7.holds Tryd.pinned (.plain (OpenSpec.upto graftPutsSpec)) graftPutsUptoCard

/-- THE SECOND FORM's CARD OF 'brushwoodlaw19.GraftStays'. -/
def graftStaysUptoCard : Claim7 := { stood := { row := graftStaysUptoRow, standIns := [], harness := (true, "35dc533787c930bad302c2d2ea47b3e20978ad89d776b5db352aabc593759e5c"), looks := true }, kinds := [], alts := [], laidByText := true, laidKinds := [.data], laidTests := true, laidLooks := .later }
def GraftStaysUptoCardSaid : Prop := Claim7.holds Tryd.pinned (.plain (OpenSpec.upto graftStaysSpec)) graftStaysUptoCard
end Rows
end Go.Proofs.YtmbdimonfdncpaaDoor
