/-
  DERIVED. GIVEN WITH THE SEED: THE CARDS: each row of YtbagfhidkjkmnaaDoorRows.lean that lists a variable, with what it lists TIED to the program's text (the seventh form; the later family's looks); each row that meets fmt, with fmt's text TOLD by the authors' own Lean function (tested against real Go, not proved from fmt's source: count such statements apart). THE CARD IS WHAT COUNTS. Prove the row's statement (the work); the ties are given (YtbagfhidkjkmnaaDoorTie.lean); close each card by the builder's one call (the guide's Derived/Test/ToyasCard.lean, 'card_holds'). Laid BY PROGRAM, IN A SANDBOX (cutbox-door.mjs). By AI agents, Wed Nov 11 2026. No macro, syntax, notation, axiom, sorry.
-/
import Derived.Test.YtbagfhidkjkmnaaDoorRows
import GoSem.ClaimSeven
namespace Go.Proofs.YtbagfhidkjkmnaaDoor
namespace Rows

/-- THE TIED CARD OF 'brushwoodlaw07.BitsNth'. -/
def bitsNthCard : Claim7 := { stood := { row := bitsNthRow, standIns := [], harness := (true, "1d7f00e9f74c877081602463018f19e926e7bf6fd8fe6d035d1b6ad744b438d7"), looks := false }, kinds := [], alts := [], laidByText := true, laidKinds := [.data], laidTests := true, laidLooks := .later }
def BitsNthCardSaid : Prop := Claim7.holds Tryd.pinned (.plain (OpenSpec.ofChange bitsNthSpec)) bitsNthCard

/-- THE TIED CARD OF 'brushwoodlaw07.BitsAll'. -/
def bitsAllCard : Claim7 := { stood := { row := bitsAllRow, standIns := [], harness := (true, "1d7f00e9f74c877081602463018f19e926e7bf6fd8fe6d035d1b6ad744b438d7"), looks := false }, kinds := [], alts := [], laidByText := true, laidKinds := [.data], laidTests := true, laidLooks := .later }
def BitsAllCardSaid : Prop := Claim7.holds Tryd.pinned (.plain (OpenSpec.ofChange bitsAllSpec)) bitsAllCard

/-- THE SECOND FORM's CARD OF 'brushwoodlaw07.BitsNth'. -/
def bitsNthUptoCard : Claim7 := { stood := { row := bitsNthUptoRow, standIns := [], harness := (true, "1d7f00e9f74c877081602463018f19e926e7bf6fd8fe6d035d1b6ad744b438d7"), looks := false }, kinds := [], alts := [], laidByText := true, laidKinds := [.data], laidTests := true, laidLooks := .later }
def BitsNthUptoCardSaid : Prop := Claim7.holds Tryd.pinned (.plain (OpenSpec.upto bitsNthSpec)) bitsNthUptoCard

/-- THE SECOND FORM's CARD OF 'brushwoodlaw07.BitsAll'. -/
def bitsAllUptoCard : Claim7 := { stood := { row := bitsAllUptoRow, standIns := [], harness := (true, "1d7f00e9f74c877081602463018f19e926e7bf6fd8fe6d035d1b6ad744b438d7"), looks := false }, kinds := [], alts := [], laidByText := true, laidKinds := [.data], laidTests := true, laidLooks := .later }
def BitsAllUptoCardSaid : Prop := Claim7.holds Tryd.pinned (.plain (OpenSpec.upto bitsAllSpec)) bitsAllUptoCard
end Rows
end Go.Proofs.YtbagfhidkjkmnaaDoor
