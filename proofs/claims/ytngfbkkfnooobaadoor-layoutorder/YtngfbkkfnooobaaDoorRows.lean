/-
  NARROWER THAN 'FOR EVERY INPUT', by the rows' own cells (each row's printed sentence says how): LayoutComes: laid · LayoutOrder: laid · LayoutSums: laid.
  DERIVED. THE GIVEN ROWS OF THIS SEAT. 3 by the template 'for every input the law returns true; each argument reads behind the call as it read before'; 0 by the template 'total and deterministic' (their statements: YtngfbkkfnooobaaDoorTotals.lean).
  GIVEN WITH THE SEED: the statements are not yours to turn. If you find one false, say at which input.
  Laid BY PROGRAM, IN A SANDBOX (cutbox-rows.mjs): the forced cells as the released guide's own fill.sh prints them over the translation 2501efad080e4a4c… (all of the seat's roots in one cut). By AI agents, Wed Nov 11 2026. No macro, syntax, notation, axiom, sorry.
-/
import Derived.Test.YtngfbkkfnooobaaDoorChecked
import GoSem.Claim
import GoSem.ClaimJoined
import GoSem.ClaimMapViews
import Derived.JoinedTies
import Derived.KernelRfl
namespace Go.Proofs.YtngfbkkfnooobaaDoor
/- THE CELL 'sum', in the pinned program and in every row, IS THE sha256 OF THE DUMP (.gsa) THAT YtngfbkkfnooobaaDoorProg.lean LOADS. Nothing in Lean hashes anything: it is a label: what it is worth is what the hold of that sum in a sandbox is worth. -/
noncomputable def Tryd.pinned : Pinned := { name := "ytngfbkkfnooobaadoor", sum := "2501efad080e4a4c74127c6cf193ebe7dcb7dbc4ef158fc837d5846c367ef45e", checked := Tryd.checked }
namespace Rows
def none {H : Type} : Left H := { results := [], args := [] }

/- WHAT THE LISTED PACKAGE-LEVEL VARIABLES READ AS WHEN THE CALL BEGINS. Each datum BY PROGRAM (the guide's laid-datum.mjs) off the statement by which the dump's own 'gosem.cut.vars' lays the variable. In a bare row this is a premise. The card (YtngfbkkfnooobaaDoorCards.lean) ties it to the program's text. -/
def laid_math_bits_deBruijn32tab {H : Type} : DataW H := .agg [.lit (.int .u8 0), .lit (.int .u8 1), .lit (.int .u8 28), .lit (.int .u8 2), .lit (.int .u8 29), .lit (.int .u8 14), .lit (.int .u8 24), .lit (.int .u8 3), .lit (.int .u8 30), .lit (.int .u8 22), .lit (.int .u8 20), .lit (.int .u8 15), .lit (.int .u8 25), .lit (.int .u8 17), .lit (.int .u8 4), .lit (.int .u8 8), .lit (.int .u8 31), .lit (.int .u8 27), .lit (.int .u8 13), .lit (.int .u8 23), .lit (.int .u8 21), .lit (.int .u8 19), .lit (.int .u8 16), .lit (.int .u8 7), .lit (.int .u8 26), .lit (.int .u8 12), .lit (.int .u8 18), .lit (.int .u8 6), .lit (.int .u8 11), .lit (.int .u8 5), .lit (.int .u8 10), .lit (.int .u8 9)]

/-- 'brushwoodlaw17.LayoutComes': WHATEVER THE INPUT: true; the input reads as it did. -/
def layoutComesSpec : ChangeSpec := { name := "layoutComes", fn := fun _ => fun
  | [d] => { results := [.lit (.bool true)], args := [d] }
  | _ => none }
def layoutComesRow : OpenClaim := { program := "ytngfbkkfnooobaadoor", sum := "2501efad080e4a4c74127c6cf193ebe7dcb7dbc4ef158fc837d5846c367ef45e", func := "brushwood/brushwoodlaw17.LayoutComes", spec := "layoutComes", inPlace := ["internal/bytealg.Compare"], unfollowed := true, recurses := true, named := ["math/bits.deBruijn32tab"], apart := false, laid := [("math/bits.deBruijn32tab", laid_math_bits_deBruijn32tab)] }
def LayoutComesSaid : Prop := layoutComesRow.holds Tryd.pinned (OpenSpec.ofChange layoutComesSpec)

/-- ITS FALSE NEIGHBOUR: 'it returns false'. Refute it at one input. -/
def layoutComesWrong : ChangeSpec := { name := "layoutComes", fn := fun _ => fun
  | [d] => { results := [.lit (.bool false)], args := [d] }
  | _ => none }
def LayoutComesWrongFalsely : Prop := layoutComesRow.holds Tryd.pinned (OpenSpec.ofChange layoutComesWrong)

/-- 'brushwoodlaw17.LayoutOrder': WHATEVER THE INPUT: true; the input reads as it did. -/
def layoutOrderSpec : ChangeSpec := { name := "layoutOrder", fn := fun _ => fun
  | [d1, d2] => { results := [.lit (.bool true)], args := [d1, d2] }
  | _ => none }
def layoutOrderRow : OpenClaim := { program := "ytngfbkkfnooobaadoor", sum := "2501efad080e4a4c74127c6cf193ebe7dcb7dbc4ef158fc837d5846c367ef45e", func := "brushwood/brushwoodlaw17.LayoutOrder", spec := "layoutOrder", inPlace := ["internal/bytealg.Compare"], unfollowed := true, recurses := true, named := ["math/bits.deBruijn32tab"], apart := false, laid := [("math/bits.deBruijn32tab", laid_math_bits_deBruijn32tab)] }
def LayoutOrderSaid : Prop := layoutOrderRow.holds Tryd.pinned (OpenSpec.ofChange layoutOrderSpec)

/-- ITS FALSE NEIGHBOUR: 'it returns false'. Refute it at one input. -/
def layoutOrderWrong : ChangeSpec := { name := "layoutOrder", fn := fun _ => fun
  | [d1, d2] => { results := [.lit (.bool false)], args := [d1, d2] }
  | _ => none }
def LayoutOrderWrongFalsely : Prop := layoutOrderRow.holds Tryd.pinned (OpenSpec.ofChange layoutOrderWrong)

/-- 'brushwoodlaw17.LayoutSums': WHATEVER THE INPUT: true; the input reads as it did. -/
def layoutSumsSpec : ChangeSpec := { name := "layoutSums", fn := fun _ => fun
  | [d] => { results := [.lit (.bool true)], args := [d] }
  | _ => none }
def layoutSumsRow : OpenClaim := { program := "ytngfbkkfnooobaadoor", sum := "2501efad080e4a4c74127c6cf193ebe7dcb7dbc4ef158fc837d5846c367ef45e", func := "brushwood/brushwoodlaw17.LayoutSums", spec := "layoutSums", inPlace := ["internal/bytealg.Compare"], unfollowed := true, recurses := true, named := ["math/bits.deBruijn32tab"], apart := false, laid := [("math/bits.deBruijn32tab", laid_math_bits_deBruijn32tab)] }
def LayoutSumsSaid : Prop := layoutSumsRow.holds Tryd.pinned (OpenSpec.ofChange layoutSumsSpec)

/-- ITS FALSE NEIGHBOUR: 'it returns false'. Refute it at one input. -/
def layoutSumsWrong : ChangeSpec := { name := "layoutSums", fn := fun _ => fun
  | [d] => { results := [.lit (.bool false)], args := [d] }
  | _ => none }
def LayoutSumsWrongFalsely : Prop := layoutSumsRow.holds Tryd.pinned (OpenSpec.ofChange layoutSumsWrong)

/- THE SECOND FORM. 'bulk': how many values and letters a reading holds, each counted each time it is reached (what is shared counts as often as it is met; a slice's spare places count too). A statement '..UptoSaid' is the law's where the arguments, and the package variables that the reading takes, are together of bulk at most 1048576: NARROWER than '..Said'. Prove '..Said' where nothing that the law and all that it calls make is longer than what came in: it says more and counts as full. Else prove '..UptoSaid'. A law counts once. -/
mutual
def uptoBulk {H : Type} : DataW H → Nat
  | .lit (.string bytes) => bytes.length + 1
  | .lit _ => 1
  | .nil => 1
  | .ptr d => uptoBulk d + 1
  | .slice elems spare => uptoBulkAll elems + uptoBulkAll spare + 1
  | .agg parts => uptoBulkAll parts + 1
  | .iface _ d => uptoBulk d + 1
  | .map entries => uptoBulkEntries entries + 1
  | .held _ => 1
def uptoBulkAll {H : Type} : List (DataW H) → Nat
  | [] => 0
  | d :: r => uptoBulk d + uptoBulkAll r
def uptoBulkEntries {H : Type} : List (Lit × DataW H) → Nat
  | [] => 0
  | x :: r => uptoBulkEntry x + uptoBulkEntries r
def uptoBulkEntry {H : Type} : Lit × DataW H → Nat
  | (.string bytes, d) => bytes.length + uptoBulk d + 1
  | (_, d) => uptoBulk d + 1
 end
def uptoSmall : (H : Type) → List (DataW H) → Bool := fun _ ds => decide (uptoBulkAll ds ≤ 1048576)
def OpenSpec.upto (s : _root_.Go.ChangeSpec) : _root_.Go.OpenSpec := { _root_.Go.OpenSpec.ofChange s with cond := some uptoSmall }

/-- 'brushwoodlaw17.LayoutComes', WHERE WHAT IT READS IS OF BULK AT MOST 1048576: true; the input reads as it did. -/
def layoutComesUptoRow : OpenClaim := { program := "ytngfbkkfnooobaadoor", sum := "2501efad080e4a4c74127c6cf193ebe7dcb7dbc4ef158fc837d5846c367ef45e", func := "brushwood/brushwoodlaw17.LayoutComes", spec := "layoutComes", inPlace := ["internal/bytealg.Compare"], unfollowed := true, recurses := true, named := ["math/bits.deBruijn32tab"], apart := false, laid := [("math/bits.deBruijn32tab", laid_math_bits_deBruijn32tab)], narrowed := true }
def LayoutComesUptoSaid : Prop := layoutComesUptoRow.holds Tryd.pinned (OpenSpec.upto layoutComesSpec)

/-- 'brushwoodlaw17.LayoutOrder', WHERE WHAT IT READS IS OF BULK AT MOST 1048576: true; the input reads as it did. -/
def layoutOrderUptoRow : OpenClaim := { program := "ytngfbkkfnooobaadoor", sum := "2501efad080e4a4c74127c6cf193ebe7dcb7dbc4ef158fc837d5846c367ef45e", func := "brushwood/brushwoodlaw17.LayoutOrder", spec := "layoutOrder", inPlace := ["internal/bytealg.Compare"], unfollowed := true, recurses := true, named := ["math/bits.deBruijn32tab"], apart := false, laid := [("math/bits.deBruijn32tab", laid_math_bits_deBruijn32tab)], narrowed := true }
def LayoutOrderUptoSaid : Prop := layoutOrderUptoRow.holds Tryd.pinned (OpenSpec.upto layoutOrderSpec)

/-- 'brushwoodlaw17.LayoutSums', WHERE WHAT IT READS IS OF BULK AT MOST 1048576: true; the input reads as it did. -/
def layoutSumsUptoRow : OpenClaim := { program := "ytngfbkkfnooobaadoor", sum := "2501efad080e4a4c74127c6cf193ebe7dcb7dbc4ef158fc837d5846c367ef45e", func := "brushwood/brushwoodlaw17.LayoutSums", spec := "layoutSums", inPlace := ["internal/bytealg.Compare"], unfollowed := true, recurses := true, named := ["math/bits.deBruijn32tab"], apart := false, laid := [("math/bits.deBruijn32tab", laid_math_bits_deBruijn32tab)], narrowed := true }
def LayoutSumsUptoSaid : Prop := layoutSumsUptoRow.holds Tryd.pinned (OpenSpec.upto layoutSumsSpec)

end Rows
end Go.Proofs.YtngfbkkfnooobaaDoor
