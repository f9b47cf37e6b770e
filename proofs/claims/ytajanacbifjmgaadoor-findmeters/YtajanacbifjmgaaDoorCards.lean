/-
  DERIVED. GIVEN WITH THE SEED: THE CARDS: each row of YtajanacbifjmgaaDoorRows.lean that lists a variable, with what it lists TIED to the program's text (the seventh form; the later family's looks); each row that meets fmt, with fmt's text TOLD by the authors' own Lean function (tested against real Go, not proved from fmt's source: count such statements apart). THE CARD IS WHAT COUNTS. Prove the row's statement (the work); the ties are given (YtajanacbifjmgaaDoorTie.lean); close each card by the builder's one call (the guide's Derived/Test/ToyasCard.lean, 'card_holds'). Laid BY PROGRAM, IN A SANDBOX (cutbox-door.mjs). By AI agents, Wed Nov 11 2026. No macro, syntax, notation, axiom, sorry.
-/
import Derived.Test.YtajanacbifjmgaaDoorRows
import GoSem.ClaimSeven
namespace Go.Proofs.YtajanacbifjmgaaDoor
namespace Rows

/-- THE TIED CARD OF 'brushwoodlaw18.FindGets'. -/
def findGetsCard : Claim7 := { stood := { row := findGetsRow, standIns := [], harness := (true, "ff3f2754b6fa9aed38bb7fb7396d085aee7f3ca0826b58b1b4ac0abbbe6f43fa"), looks := true }, kinds := [], alts := [], laidByText := true, laidKinds := [.data], laidTests := true, laidLooks := .later }
def FindGetsCardSaid : Prop := Claim7.holds Tryd.pinned (.plain (OpenSpec.ofChange findGetsSpec)) findGetsCard

/-- THE TIED CARD OF 'brushwoodlaw18.FindAll'. -/
def findAllCard : Claim7 := { stood := { row := findAllRow, standIns := [], harness := (true, "ff3f2754b6fa9aed38bb7fb7396d085aee7f3ca0826b58b1b4ac0abbbe6f43fa"), looks := true }, kinds := [], alts := [], laidByText := true, laidKinds := [.data], laidTests := true, laidLooks := .later }
def FindAllCardSaid : Prop := Claim7.holds Tryd.pinned (.plain (OpenSpec.ofChange findAllSpec)) findAllCard

/-- THE TIED CARD OF 'brushwoodlaw18.FindMeters'. -/
def findMetersCard : Claim7 := { stood := { row := findMetersRow, standIns := [], harness := (true, "ff3f2754b6fa9aed38bb7fb7396d085aee7f3ca0826b58b1b4ac0abbbe6f43fa"), looks := true }, kinds := [], alts := [], laidByText := true, laidKinds := [.data], laidTests := true, laidLooks := .later }
def FindMetersCardSaid : Prop := Claim7.holds Tryd.pinned (.plain (OpenSpec.ofChange findMetersSpec)) findMetersCard

/-- THE SECOND FORM's CARD OF 'brushwoodlaw18.FindGets'. -/
def findGetsUptoCard : Claim7 := { stood := { row := findGetsUptoRow, standIns := [], harness := (true, "ff3f2754b6fa9aed38bb7fb7396d085aee7f3ca0826b58b1b4ac0abbbe6f43fa"), looks := true }, kinds := [], alts := [], laidByText := true, laidKinds := [.data], laidTests := true, laidLooks := .later }
def FindGetsUptoCardSaid : Prop := Claim7.holds Tryd.pinned (.plain (OpenSpec.upto findGetsSpec)) findGetsUptoCard

/-- THE SECOND FORM's CARD OF 'brushwoodlaw18.FindAll'. -/
def findAllUptoCard : Claim7 := { stood := { row := findAllUptoRow, standIns := [], harness := (true, "ff3f2754b6fa9aed38bb7fb7396d085aee7f3ca0826b58b1b4ac0abbbe6f43fa"), looks := true }, kinds := [], alts := [], laidByText := true, laidKinds := [.data], laidTests := true, laidLooks := .later }
def FindAllUptoCardSaid : Prop := Claim7.holds Tryd.pinned (.plain (OpenSpec.upto findAllSpec)) findAllUptoCard

/-- THE SECOND FORM's CARD OF 'brushwoodlaw18.FindMeters'. -/
def findMetersUptoCard : Claim7 := { stood := { row := findMetersUptoRow, standIns := [], harness := (true, "ff3f2754b6fa9aed38bb7fb7396d085aee7f3ca0826b58b1b4ac0abbbe6f43fa"), looks := true }, kinds := [], alts := [], laidByText := true, laidKinds := [.data], laidTests := true, laidLooks := .later }
def FindMetersUptoCardSaid : Prop := Claim7.holds Tryd.pinned (.plain (OpenSpec.upto findMetersSpec)) findMetersUptoCard
end Rows
end Go.Proofs.YtajanacbifjmgaaDoor
