/-
  DERIVED. GIVEN WITH THE SEED: THE CARDS: each row of YtngfbkkfnooobaaDoorRows.lean that lists a variable, with what it lists TIED to the program's text (the seventh form; the later family's looks); each row that meets fmt, with fmt's text TOLD by the authors' own Lean function (tested against real Go, not proved from fmt's source: count such statements apart). THE CARD IS WHAT COUNTS. Prove the row's statement (the work); the ties are given (YtngfbkkfnooobaaDoorTie.lean); close each card by the builder's one call (the guide's Derived/Test/ToyasCard.lean, 'card_holds'). Laid BY PROGRAM, IN A SANDBOX (cutbox-door.mjs). By AI agents, Wed Nov 11 2026. No macro, syntax, notation, axiom, sorry.
-/
import Derived.Test.YtngfbkkfnooobaaDoorRows
import GoSem.ClaimSeven
namespace Go.Proofs.YtngfbkkfnooobaaDoor
namespace Rows

/-- THE TIED CARD OF 'brushwoodlaw17.LayoutComes'. -/
def layoutComesCard : Claim7 := { stood := { row := layoutComesRow, standIns := [], harness := (true, "41dacddf5f520ead60d17bced455855c118e313fc8aa3ad090142a0f83d9016d"), looks := true }, kinds := [], alts := [], laidByText := true, laidKinds := [.data], laidTests := true, laidLooks := .later }
def LayoutComesCardSaid : Prop := Claim7.holds Tryd.pinned (.plain (OpenSpec.ofChange layoutComesSpec)) layoutComesCard

/-- THE TIED CARD OF 'brushwoodlaw17.LayoutOrder'. -/
def layoutOrderCard : Claim7 := { stood := { row := layoutOrderRow, standIns := [], harness := (true, "41dacddf5f520ead60d17bced455855c118e313fc8aa3ad090142a0f83d9016d"), looks := true }, kinds := [], alts := [], laidByText := true, laidKinds := [.data], laidTests := true, laidLooks := .later }
def LayoutOrderCardSaid : Prop := Claim7.holds Tryd.pinned (.plain (OpenSpec.ofChange layoutOrderSpec)) layoutOrderCard

/-- THE TIED CARD OF 'brushwoodlaw17.LayoutSums'. -/
def layoutSumsCard : Claim7 := { stood := { row := layoutSumsRow, standIns := [], harness := (true, "41dacddf5f520ead60d17bced455855c118e313fc8aa3ad090142a0f83d9016d"), looks := true }, kinds := [], alts := [], laidByText := true, laidKinds := [.data], laidTests := true, laidLooks := .later }
def LayoutSumsCardSaid : Prop := Claim7.holds Tryd.pinned (.plain (OpenSpec.ofChange layoutSumsSpec)) layoutSumsCard

/-- THE SECOND FORM's CARD OF 'brushwoodlaw17.LayoutComes'. -/
def layoutComesUptoCard : Claim7 := { stood := { row := layoutComesUptoRow, standIns := [], harness := (true, "41dacddf5f520ead60d17bced455855c118e313fc8aa3ad090142a0f83d9016d"), looks := true }, kinds := [], alts := [], laidByText := true, laidKinds := [.data], laidTests := true, laidLooks := .later }
def LayoutComesUptoCardSaid : Prop := Claim7.holds Tryd.pinned (.plain (OpenSpec.upto layoutComesSpec)) layoutComesUptoCard

/-- THE SECOND FORM's CARD OF 'brushwoodlaw17.LayoutOrder'. -/
def layoutOrderUptoCard : Claim7 := { stood := { row := layoutOrderUptoRow, standIns := [], harness := (true, "41dacddf5f520ead60d17bced455855c118e313fc8aa3ad090142a0f83d9016d"), looks := true }, kinds := [], alts := [], laidByText := true, laidKinds := [.data], laidTests := true, laidLooks := .later }
def LayoutOrderUptoCardSaid : Prop := Claim7.holds Tryd.pinned (.plain (OpenSpec.upto layoutOrderSpec)) layoutOrderUptoCard

/-- THE SECOND FORM's CARD OF 'brushwoodlaw17.LayoutSums'. -/
def layoutSumsUptoCard : Claim7 := { stood := { row := layoutSumsUptoRow, standIns := [], harness := (true, "41dacddf5f520ead60d17bced455855c118e313fc8aa3ad090142a0f83d9016d"), looks := true }, kinds := [], alts := [], laidByText := true, laidKinds := [.data], laidTests := true, laidLooks := .later }
def LayoutSumsUptoCardSaid : Prop := Claim7.holds Tryd.pinned (.plain (OpenSpec.upto layoutSumsSpec)) layoutSumsUptoCard
end Rows
end Go.Proofs.YtngfbkkfnooobaaDoor
