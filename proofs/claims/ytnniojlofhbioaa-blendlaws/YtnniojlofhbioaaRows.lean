/-
  No cell of these rows narrows 'for every input' (looked for: loops, veiled, ifaces, maps, wideKeys, modest, calm, conditions, laid).
  DERIVED. THE GIVEN ROWS OF THIS SEAT. 4 by the template 'for every input the law returns true; each argument reads behind the call as it read before'; 0 by the template 'total and deterministic' (their statements: YtnniojlofhbioaaTotals.lean).
  GIVEN WITH THE SEED: the statements are not yours to turn. If you find one false, say at which input.
  Laid BY PROGRAM, IN A SANDBOX (cutbox-rows.mjs): the forced cells as the released guide's own fill.sh prints them over the translation 5ac5fc2106853843… (all of the seat's roots in one cut). By AI agents, Wed Nov 11 2026. No macro, syntax, notation, axiom, sorry.
-/
import Derived.Test.YtnniojlofhbioaaChecked
import GoSem.Claim
import GoSem.ClaimJoined
import GoSem.ClaimMapViews
import Derived.JoinedTies
import Derived.KernelRfl
namespace Go.Proofs.Ytnniojlofhbioaa
/- THE CELL 'sum', in the pinned program and in every row, IS THE sha256 OF THE DUMP (.gsa) THAT YtnniojlofhbioaaProg.lean LOADS. Nothing in Lean hashes anything: it is a label: what it is worth is what the hold of that sum in a sandbox is worth. -/
noncomputable def Try.pinned : Pinned := { name := "ytnniojlofhbioaa", sum := "5ac5fc21068538437e992f331ab6bcc9c27bcf7ef609ccdea572d86d4e85579e", checked := Try.checked }
namespace Rows
def none {H : Type} : Left H := { results := [], args := [] }

/-- 'brushwoodlaw14.BlendUnion': WHATEVER THE INPUT: true; the input reads as it did. -/
def blendUnionSpec : ChangeSpec := { name := "blendUnion", fn := fun _ => fun
  | [d1, d2] => { results := [.lit (.bool true)], args := [d1, d2] }
  | _ => none }
def blendUnionRow : OpenClaim := { program := "ytnniojlofhbioaa", sum := "5ac5fc21068538437e992f331ab6bcc9c27bcf7ef609ccdea572d86d4e85579e", func := "brushwood/brushwoodlaw14.BlendUnion", spec := "blendUnion", inPlace := ["internal/bytealg.Compare"], unfollowed := true, recurses := true, apart := false }
def BlendUnionSaid : Prop := blendUnionRow.holds Try.pinned (OpenSpec.ofChange blendUnionSpec)

/-- ITS FALSE NEIGHBOUR: 'it returns false'. Refute it at one input. -/
def blendUnionWrong : ChangeSpec := { name := "blendUnion", fn := fun _ => fun
  | [d1, d2] => { results := [.lit (.bool false)], args := [d1, d2] }
  | _ => none }
def BlendUnionWrongFalsely : Prop := blendUnionRow.holds Try.pinned (OpenSpec.ofChange blendUnionWrong)

/-- 'brushwoodlaw14.BlendParts': WHATEVER THE INPUT: true; the input reads as it did. -/
def blendPartsSpec : ChangeSpec := { name := "blendParts", fn := fun _ => fun
  | [d1, d2] => { results := [.lit (.bool true)], args := [d1, d2] }
  | _ => none }
def blendPartsRow : OpenClaim := { program := "ytnniojlofhbioaa", sum := "5ac5fc21068538437e992f331ab6bcc9c27bcf7ef609ccdea572d86d4e85579e", func := "brushwood/brushwoodlaw14.BlendParts", spec := "blendParts", inPlace := ["internal/bytealg.Compare"], unfollowed := true, recurses := true, apart := false }
def BlendPartsSaid : Prop := blendPartsRow.holds Try.pinned (OpenSpec.ofChange blendPartsSpec)

/-- ITS FALSE NEIGHBOUR: 'it returns false'. Refute it at one input. -/
def blendPartsWrong : ChangeSpec := { name := "blendParts", fn := fun _ => fun
  | [d1, d2] => { results := [.lit (.bool false)], args := [d1, d2] }
  | _ => none }
def BlendPartsWrongFalsely : Prop := blendPartsRow.holds Try.pinned (OpenSpec.ofChange blendPartsWrong)

/-- 'brushwoodlaw14.BlendLaws': WHATEVER THE INPUT: true; the input reads as it did. -/
def blendLawsSpec : ChangeSpec := { name := "blendLaws", fn := fun _ => fun
  | [d1, d2] => { results := [.lit (.bool true)], args := [d1, d2] }
  | _ => none }
def blendLawsRow : OpenClaim := { program := "ytnniojlofhbioaa", sum := "5ac5fc21068538437e992f331ab6bcc9c27bcf7ef609ccdea572d86d4e85579e", func := "brushwood/brushwoodlaw14.BlendLaws", spec := "blendLaws", inPlace := ["internal/bytealg.Compare"], unfollowed := true, recurses := true, apart := false }
def BlendLawsSaid : Prop := blendLawsRow.holds Try.pinned (OpenSpec.ofChange blendLawsSpec)

/-- ITS FALSE NEIGHBOUR: 'it returns false'. Refute it at one input. -/
def blendLawsWrong : ChangeSpec := { name := "blendLaws", fn := fun _ => fun
  | [d1, d2] => { results := [.lit (.bool false)], args := [d1, d2] }
  | _ => none }
def BlendLawsWrongFalsely : Prop := blendLawsRow.holds Try.pinned (OpenSpec.ofChange blendLawsWrong)

/-- 'brushwoodlaw14.BlendTurns': WHATEVER THE INPUT: true; the input reads as it did. -/
def blendTurnsSpec : ChangeSpec := { name := "blendTurns", fn := fun _ => fun
  | [d1, d2, d3] => { results := [.lit (.bool true)], args := [d1, d2, d3] }
  | _ => none }
def blendTurnsRow : OpenClaim := { program := "ytnniojlofhbioaa", sum := "5ac5fc21068538437e992f331ab6bcc9c27bcf7ef609ccdea572d86d4e85579e", func := "brushwood/brushwoodlaw14.BlendTurns", spec := "blendTurns", inPlace := ["internal/bytealg.Compare"], unfollowed := true, recurses := true, apart := false }
def BlendTurnsSaid : Prop := blendTurnsRow.holds Try.pinned (OpenSpec.ofChange blendTurnsSpec)

/-- ITS FALSE NEIGHBOUR: 'it returns false'. Refute it at one input. -/
def blendTurnsWrong : ChangeSpec := { name := "blendTurns", fn := fun _ => fun
  | [d1, d2, d3] => { results := [.lit (.bool false)], args := [d1, d2, d3] }
  | _ => none }
def BlendTurnsWrongFalsely : Prop := blendTurnsRow.holds Try.pinned (OpenSpec.ofChange blendTurnsWrong)

/- THE SECOND FORM. 'bulk': how many values and letters a reading holds, each counted each time it is reached (what is shared counts as often as it is met; a slice's spare places count too). A statement '..UptoSaid' is the law's where the arguments, and the package variables that the reading takes, are together of bulk at most 1048576: NARROWER than '..Said'. Prove '..Said' where nothing that the law and all that it calls make is longer than what came in: it says more and counts as full. Else prove '..UptoSaid'. A law counts once. -/
mutual
def uptoBulk {H : Type} : DataW H → Nat
  | .lit (.string bytes) => bytes.length + 1
  | .lit _ => 1
  | .nil => 1
  | .ptr d => uptoBulk d + 1
  | .slice elems spare => uptoBulkAll elems + uptoBulkAll spare + 1
  | .agg parts => uptoBulkAll parts + 1
  | .iface _ d => uptoBulk d + 1
  | .map entries => uptoBulkEntries entries + 1
  | .held _ => 1
def uptoBulkAll {H : Type} : List (DataW H) → Nat
  | [] => 0
  | d :: r => uptoBulk d + uptoBulkAll r
def uptoBulkEntries {H : Type} : List (Lit × DataW H) → Nat
  | [] => 0
  | x :: r => uptoBulkEntry x + uptoBulkEntries r
def uptoBulkEntry {H : Type} : Lit × DataW H → Nat
  | (.string bytes, d) => bytes.length + uptoBulk d + 1
  | (_, d) => uptoBulk d + 1
 end
def uptoSmall : (H : Type) → List (DataW H) → Bool := fun _ ds => decide (uptoBulkAll ds ≤ 1048576)
def OpenSpec.upto (s : _root_.Go.ChangeSpec) : _root_.Go.OpenSpec := { _root_.Go.OpenSpec.ofChange s with cond := some uptoSmall }

/-- 'brushwoodlaw14.BlendUnion', WHERE WHAT IT READS IS OF BULK AT MOST 1048576: true; the input reads as it did. -/
def blendUnionUptoRow : OpenClaim := { program := "ytnniojlofhbioaa", sum := "5ac5fc21068538437e992f331ab6bcc9c27bcf7ef609ccdea572d86d4e85579e", func := "brushwood/brushwoodlaw14.BlendUnion", spec := "blendUnion", inPlace := ["internal/bytealg.Compare"], unfollowed := true, recurses := true, apart := false, narrowed := true }
def BlendUnionUptoSaid : Prop := blendUnionUptoRow.holds Try.pinned (OpenSpec.upto blendUnionSpec)

/-- 'brushwoodlaw14.BlendParts', WHERE WHAT IT READS IS OF BULK AT MOST 1048576: true; the input reads as it did. -/
def blendPartsUptoRow : OpenClaim := { program := "ytnniojlofhbioaa", sum := "5ac5fc21068538437e992f331ab6bcc9c27bcf7ef609ccdea572d86d4e85579e", func := "brushwood/brushwoodlaw14.BlendParts", spec := "blendParts", inPlace := ["internal/bytealg.Compare"], unfollowed := true, recurses := true, apart := false, narrowed := true }
def BlendPartsUptoSaid : Prop := blendPartsUptoRow.holds Try.pinned (OpenSpec.upto blendPartsSpec)

/-- 'brushwoodlaw14.BlendLaws', WHERE WHAT IT READS IS OF BULK AT MOST 1048576: true; the input reads as it did. -/
def blendLawsUptoRow : OpenClaim := { program := "ytnniojlofhbioaa", sum := "5ac5fc21068538437e992f331ab6bcc9c27bcf7ef609ccdea572d86d4e85579e", func := "brushwood/brushwoodlaw14.BlendLaws", spec := "blendLaws", inPlace := ["internal/bytealg.Compare"], unfollowed := true, recurses := true, apart := false, narrowed := true }
def BlendLawsUptoSaid : Prop := blendLawsUptoRow.holds Try.pinned (OpenSpec.upto blendLawsSpec)

/-- 'brushwoodlaw14.BlendTurns', WHERE WHAT IT READS IS OF BULK AT MOST 1048576: true; the input reads as it did. -/
def blendTurnsUptoRow : OpenClaim := { program := "ytnniojlofhbioaa", sum := "5ac5fc21068538437e992f331ab6bcc9c27bcf7ef609ccdea572d86d4e85579e", func := "brushwood/brushwoodlaw14.BlendTurns", spec := "blendTurns", inPlace := ["internal/bytealg.Compare"], unfollowed := true, recurses := true, apart := false, narrowed := true }
def BlendTurnsUptoSaid : Prop := blendTurnsUptoRow.holds Try.pinned (OpenSpec.upto blendTurnsSpec)

end Rows
end Go.Proofs.Ytnniojlofhbioaa
