/-
  No cell of these rows narrows 'for every input' (looked for: loops, veiled, ifaces, maps, wideKeys, modest, calm, conditions, laid).
  DERIVED. THE GIVEN ROWS OF THIS SEAT. 4 by the template 'for every input the law returns true; each argument reads behind the call as it read before'; 0 by the template 'total and deterministic' (their statements: YtmbifgmdilmkgaaTotals.lean).
  GIVEN WITH THE SEED: the statements are not yours to turn. If you find one false, say at which input.
  Laid BY PROGRAM, IN A SANDBOX (cutbox-rows.mjs): the forced cells as the released guide's own fill.sh prints them over the translation 3c0a5a96c006e172… (all of the seat's roots in one cut). By AI agents, Wed Nov 11 2026. No macro, syntax, notation, axiom, sorry.
-/
import Derived.Test.YtmbifgmdilmkgaaChecked
import GoSem.Claim
import GoSem.ClaimJoined
import GoSem.ClaimMapViews
import Derived.JoinedTies
import Derived.KernelRfl
namespace Go.Proofs.Ytmbifgmdilmkgaa
/- THE CELL 'sum', in the pinned program and in every row, IS THE sha256 OF THE DUMP (.gsa) THAT YtmbifgmdilmkgaaProg.lean LOADS. Nothing in Lean hashes anything: it is a label: what it is worth is what the hold of that sum in a sandbox is worth. -/
noncomputable def Try.pinned : Pinned := { name := "ytmbifgmdilmkgaa", sum := "3c0a5a96c006e172007fa89aae5eb2653ee8c70b9b9e4fc8e69f33d5dbfe4711", checked := Try.checked }
namespace Rows
def none {H : Type} : Left H := { results := [], args := [] }

/-- 'brushwoodlaw06.ChunkWays': WHATEVER THE INPUT: true; the input reads as it did. -/
def chunkWaysSpec : ChangeSpec := { name := "chunkWays", fn := fun _ => fun
  | [d1, d2] => { results := [.lit (.bool true)], args := [d1, d2] }
  | _ => none }
def chunkWaysRow : OpenClaim := { program := "ytmbifgmdilmkgaa", sum := "3c0a5a96c006e172007fa89aae5eb2653ee8c70b9b9e4fc8e69f33d5dbfe4711", func := "brushwood/brushwoodlaw06.ChunkWays", spec := "chunkWays", apart := false }
def ChunkWaysSaid : Prop := chunkWaysRow.holds Try.pinned (OpenSpec.ofChange chunkWaysSpec)

/-- ITS FALSE NEIGHBOUR: 'it returns false'. Refute it at one input. -/
def chunkWaysWrong : ChangeSpec := { name := "chunkWays", fn := fun _ => fun
  | [d1, d2] => { results := [.lit (.bool false)], args := [d1, d2] }
  | _ => none }
def ChunkWaysWrongFalsely : Prop := chunkWaysRow.holds Try.pinned (OpenSpec.ofChange chunkWaysWrong)

/-- 'brushwoodlaw06.ChunkBack': WHATEVER THE INPUT: true; the input reads as it did. -/
def chunkBackSpec : ChangeSpec := { name := "chunkBack", fn := fun _ => fun
  | [d] => { results := [.lit (.bool true)], args := [d] }
  | _ => none }
def chunkBackRow : OpenClaim := { program := "ytmbifgmdilmkgaa", sum := "3c0a5a96c006e172007fa89aae5eb2653ee8c70b9b9e4fc8e69f33d5dbfe4711", func := "brushwood/brushwoodlaw06.ChunkBack", spec := "chunkBack", apart := false }
def ChunkBackSaid : Prop := chunkBackRow.holds Try.pinned (OpenSpec.ofChange chunkBackSpec)

/-- ITS FALSE NEIGHBOUR: 'it returns false'. Refute it at one input. -/
def chunkBackWrong : ChangeSpec := { name := "chunkBack", fn := fun _ => fun
  | [d] => { results := [.lit (.bool false)], args := [d] }
  | _ => none }
def ChunkBackWrongFalsely : Prop := chunkBackRow.holds Try.pinned (OpenSpec.ofChange chunkBackWrong)

/-- 'brushwoodlaw06.ChunkFrom': WHATEVER THE INPUT: true; the input reads as it did. -/
def chunkFromSpec : ChangeSpec := { name := "chunkFrom", fn := fun _ => fun
  | [d] => { results := [.lit (.bool true)], args := [d] }
  | _ => none }
def chunkFromRow : OpenClaim := { program := "ytmbifgmdilmkgaa", sum := "3c0a5a96c006e172007fa89aae5eb2653ee8c70b9b9e4fc8e69f33d5dbfe4711", func := "brushwood/brushwoodlaw06.ChunkFrom", spec := "chunkFrom", apart := false }
def ChunkFromSaid : Prop := chunkFromRow.holds Try.pinned (OpenSpec.ofChange chunkFromSpec)

/-- ITS FALSE NEIGHBOUR: 'it returns false'. Refute it at one input. -/
def chunkFromWrong : ChangeSpec := { name := "chunkFrom", fn := fun _ => fun
  | [d] => { results := [.lit (.bool false)], args := [d] }
  | _ => none }
def ChunkFromWrongFalsely : Prop := chunkFromRow.holds Try.pinned (OpenSpec.ofChange chunkFromWrong)

/-- 'brushwoodlaw06.ChunkCommon': WHATEVER THE INPUT: true; the input reads as it did. -/
def chunkCommonSpec : ChangeSpec := { name := "chunkCommon", fn := fun _ => fun
  | [d1, d2] => { results := [.lit (.bool true)], args := [d1, d2] }
  | _ => none }
def chunkCommonRow : OpenClaim := { program := "ytmbifgmdilmkgaa", sum := "3c0a5a96c006e172007fa89aae5eb2653ee8c70b9b9e4fc8e69f33d5dbfe4711", func := "brushwood/brushwoodlaw06.ChunkCommon", spec := "chunkCommon", apart := false }
def ChunkCommonSaid : Prop := chunkCommonRow.holds Try.pinned (OpenSpec.ofChange chunkCommonSpec)

/-- ITS FALSE NEIGHBOUR: 'it returns false'. Refute it at one input. -/
def chunkCommonWrong : ChangeSpec := { name := "chunkCommon", fn := fun _ => fun
  | [d1, d2] => { results := [.lit (.bool false)], args := [d1, d2] }
  | _ => none }
def ChunkCommonWrongFalsely : Prop := chunkCommonRow.holds Try.pinned (OpenSpec.ofChange chunkCommonWrong)

/- THE SECOND FORM. 'bulk': how many values and letters a reading holds, each counted each time it is reached (what is shared counts as often as it is met; a slice's spare places count too). A statement '..UptoSaid' is the law's where the arguments, and the package variables that the reading takes, are together of bulk at most 1048576: NARROWER than '..Said'. Prove '..Said' where nothing that the law and all that it calls make is longer than what came in: it says more and counts as full. Else prove '..UptoSaid'. A law counts once. -/
mutual
def uptoBulk {H : Type} : DataW H → Nat
  | .lit (.string bytes) => bytes.length + 1
  | .lit _ => 1
  | .nil => 1
  | .ptr d => uptoBulk d + 1
  | .slice elems spare => uptoBulkAll elems + uptoBulkAll spare + 1
  | .agg parts => uptoBulkAll parts + 1
  | .iface _ d => uptoBulk d + 1
  | .map entries => uptoBulkEntries entries + 1
  | .held _ => 1
def uptoBulkAll {H : Type} : List (DataW H) → Nat
  | [] => 0
  | d :: r => uptoBulk d + uptoBulkAll r
def uptoBulkEntries {H : Type} : List (Lit × DataW H) → Nat
  | [] => 0
  | x :: r => uptoBulkEntry x + uptoBulkEntries r
def uptoBulkEntry {H : Type} : Lit × DataW H → Nat
  | (.string bytes, d) => bytes.length + uptoBulk d + 1
  | (_, d) => uptoBulk d + 1
 end
def uptoSmall : (H : Type) → List (DataW H) → Bool := fun _ ds => decide (uptoBulkAll ds ≤ 1048576)
def OpenSpec.upto (s : _root_.Go.ChangeSpec) : _root_.Go.OpenSpec := { _root_.Go.OpenSpec.ofChange s with cond := some uptoSmall }

/-- 'brushwoodlaw06.ChunkWays', WHERE WHAT IT READS IS OF BULK AT MOST 1048576: true; the input reads as it did. -/
def chunkWaysUptoRow : OpenClaim := { program := "ytmbifgmdilmkgaa", sum := "3c0a5a96c006e172007fa89aae5eb2653ee8c70b9b9e4fc8e69f33d5dbfe4711", func := "brushwood/brushwoodlaw06.ChunkWays", spec := "chunkWays", apart := false, narrowed := true }
def ChunkWaysUptoSaid : Prop := chunkWaysUptoRow.holds Try.pinned (OpenSpec.upto chunkWaysSpec)

/-- 'brushwoodlaw06.ChunkBack', WHERE WHAT IT READS IS OF BULK AT MOST 1048576: true; the input reads as it did. -/
def chunkBackUptoRow : OpenClaim := { program := "ytmbifgmdilmkgaa", sum := "3c0a5a96c006e172007fa89aae5eb2653ee8c70b9b9e4fc8e69f33d5dbfe4711", func := "brushwood/brushwoodlaw06.ChunkBack", spec := "chunkBack", apart := false, narrowed := true }
def ChunkBackUptoSaid : Prop := chunkBackUptoRow.holds Try.pinned (OpenSpec.upto chunkBackSpec)

/-- 'brushwoodlaw06.ChunkFrom', WHERE WHAT IT READS IS OF BULK AT MOST 1048576: true; the input reads as it did. -/
def chunkFromUptoRow : OpenClaim := { program := "ytmbifgmdilmkgaa", sum := "3c0a5a96c006e172007fa89aae5eb2653ee8c70b9b9e4fc8e69f33d5dbfe4711", func := "brushwood/brushwoodlaw06.ChunkFrom", spec := "chunkFrom", apart := false, narrowed := true }
def ChunkFromUptoSaid : Prop := chunkFromUptoRow.holds Try.pinned (OpenSpec.upto chunkFromSpec)

/-- 'brushwoodlaw06.ChunkCommon', WHERE WHAT IT READS IS OF BULK AT MOST 1048576: true; the input reads as it did. -/
def chunkCommonUptoRow : OpenClaim := { program := "ytmbifgmdilmkgaa", sum := "3c0a5a96c006e172007fa89aae5eb2653ee8c70b9b9e4fc8e69f33d5dbfe4711", func := "brushwood/brushwoodlaw06.ChunkCommon", spec := "chunkCommon", apart := false, narrowed := true }
def ChunkCommonUptoSaid : Prop := chunkCommonUptoRow.holds Try.pinned (OpenSpec.upto chunkCommonSpec)

end Rows
end Go.Proofs.Ytmbifgmdilmkgaa
