/-
  No cell of these rows narrows 'for every input' (looked for: loops, veiled, ifaces, maps, wideKeys, modest, calm, conditions, laid).
  DERIVED. THE GIVEN ROWS OF THIS SEAT. 5 by the template 'for every input the law returns true; each argument reads behind the call as it read before'; 0 by the template 'total and deterministic' (their statements: YtmkibkeacbhhaaaTotals.lean).
  GIVEN WITH THE SEED: the statements are not yours to turn. If you find one false, say at which input.
  Laid BY PROGRAM, IN A SANDBOX (cutbox-rows.mjs): the forced cells as the released guide's own fill.sh prints them over the translation fbd96b66e4558914… (all of the seat's roots in one cut). By AI agents, Wed Nov 11 2026. No macro, syntax, notation, axiom, sorry.
-/
import Derived.Test.YtmkibkeacbhhaaaChecked
import GoSem.Claim
import GoSem.ClaimJoined
import GoSem.ClaimMapViews
import Derived.JoinedTies
import Derived.KernelRfl
namespace Go.Proofs.Ytmkibkeacbhhaaa
/- THE CELL 'sum', in the pinned program and in every row, IS THE sha256 OF THE DUMP (.gsa) THAT YtmkibkeacbhhaaaProg.lean LOADS. Nothing in Lean hashes anything: it is a label: what it is worth is what the hold of that sum in a sandbox is worth. -/
noncomputable def Try.pinned : Pinned := { name := "ytmkibkeacbhhaaa", sum := "fbd96b66e45589149f36c80811ce87813b8442c3d9c3c5698236c82654b54d4d", checked := Try.checked }
namespace Rows
def none {H : Type} : Left H := { results := [], args := [] }

/-- 'brushwoodlaw05.SipHashes': WHATEVER THE INPUT: true; the input reads as it did. -/
def sipHashesSpec : ChangeSpec := { name := "sipHashes", fn := fun _ => fun
  | [d1, d2] => { results := [.lit (.bool true)], args := [d1, d2] }
  | _ => none }
def sipHashesRow : OpenClaim := { program := "ytmkibkeacbhhaaa", sum := "fbd96b66e45589149f36c80811ce87813b8442c3d9c3c5698236c82654b54d4d", func := "brushwood/brushwoodlaw05.SipHashes", spec := "sipHashes", apart := false }
def SipHashesSaid : Prop := sipHashesRow.holds Try.pinned (OpenSpec.ofChange sipHashesSpec)

/-- ITS FALSE NEIGHBOUR: 'it returns false'. Refute it at one input. -/
def sipHashesWrong : ChangeSpec := { name := "sipHashes", fn := fun _ => fun
  | [d1, d2] => { results := [.lit (.bool false)], args := [d1, d2] }
  | _ => none }
def SipHashesWrongFalsely : Prop := sipHashesRow.holds Try.pinned (OpenSpec.ofChange sipHashesWrong)

/-- 'brushwoodlaw05.SipRounds': WHATEVER THE INPUT: true; the input reads as it did. -/
def sipRoundsSpec : ChangeSpec := { name := "sipRounds", fn := fun _ => fun
  | [d] => { results := [.lit (.bool true)], args := [d] }
  | _ => none }
def sipRoundsRow : OpenClaim := { program := "ytmkibkeacbhhaaa", sum := "fbd96b66e45589149f36c80811ce87813b8442c3d9c3c5698236c82654b54d4d", func := "brushwood/brushwoodlaw05.SipRounds", spec := "sipRounds", apart := false }
def SipRoundsSaid : Prop := sipRoundsRow.holds Try.pinned (OpenSpec.ofChange sipRoundsSpec)

/-- ITS FALSE NEIGHBOUR: 'it returns false'. Refute it at one input. -/
def sipRoundsWrong : ChangeSpec := { name := "sipRounds", fn := fun _ => fun
  | [d] => { results := [.lit (.bool false)], args := [d] }
  | _ => none }
def SipRoundsWrongFalsely : Prop := sipRoundsRow.holds Try.pinned (OpenSpec.ofChange sipRoundsWrong)

/-- 'brushwoodlaw05.SipSteps': WHATEVER THE INPUT: true; the input reads as it did. -/
def sipStepsSpec : ChangeSpec := { name := "sipSteps", fn := fun _ => fun
  | [d1, d2, d3] => { results := [.lit (.bool true)], args := [d1, d2, d3] }
  | _ => none }
def sipStepsRow : OpenClaim := { program := "ytmkibkeacbhhaaa", sum := "fbd96b66e45589149f36c80811ce87813b8442c3d9c3c5698236c82654b54d4d", func := "brushwood/brushwoodlaw05.SipSteps", spec := "sipSteps", apart := false }
def SipStepsSaid : Prop := sipStepsRow.holds Try.pinned (OpenSpec.ofChange sipStepsSpec)

/-- ITS FALSE NEIGHBOUR: 'it returns false'. Refute it at one input. -/
def sipStepsWrong : ChangeSpec := { name := "sipSteps", fn := fun _ => fun
  | [d1, d2, d3] => { results := [.lit (.bool false)], args := [d1, d2, d3] }
  | _ => none }
def SipStepsWrongFalsely : Prop := sipStepsRow.holds Try.pinned (OpenSpec.ofChange sipStepsWrong)

/-- 'brushwoodlaw05.SipGoes': WHATEVER THE INPUT: true; the input reads as it did. -/
def sipGoesSpec : ChangeSpec := { name := "sipGoes", fn := fun _ => fun
  | [d1, d2] => { results := [.lit (.bool true)], args := [d1, d2] }
  | _ => none }
def sipGoesRow : OpenClaim := { program := "ytmkibkeacbhhaaa", sum := "fbd96b66e45589149f36c80811ce87813b8442c3d9c3c5698236c82654b54d4d", func := "brushwood/brushwoodlaw05.SipGoes", spec := "sipGoes", apart := false }
def SipGoesSaid : Prop := sipGoesRow.holds Try.pinned (OpenSpec.ofChange sipGoesSpec)

/-- ITS FALSE NEIGHBOUR: 'it returns false'. Refute it at one input. -/
def sipGoesWrong : ChangeSpec := { name := "sipGoes", fn := fun _ => fun
  | [d1, d2] => { results := [.lit (.bool false)], args := [d1, d2] }
  | _ => none }
def SipGoesWrongFalsely : Prop := sipGoesRow.holds Try.pinned (OpenSpec.ofChange sipGoesWrong)

/-- 'brushwoodlaw05.SipBack': WHATEVER THE INPUT: true; the input reads as it did. -/
def sipBackSpec : ChangeSpec := { name := "sipBack", fn := fun _ => fun
  | [d1, d2] => { results := [.lit (.bool true)], args := [d1, d2] }
  | _ => none }
def sipBackRow : OpenClaim := { program := "ytmkibkeacbhhaaa", sum := "fbd96b66e45589149f36c80811ce87813b8442c3d9c3c5698236c82654b54d4d", func := "brushwood/brushwoodlaw05.SipBack", spec := "sipBack", apart := false }
def SipBackSaid : Prop := sipBackRow.holds Try.pinned (OpenSpec.ofChange sipBackSpec)

/-- ITS FALSE NEIGHBOUR: 'it returns false'. Refute it at one input. -/
def sipBackWrong : ChangeSpec := { name := "sipBack", fn := fun _ => fun
  | [d1, d2] => { results := [.lit (.bool false)], args := [d1, d2] }
  | _ => none }
def SipBackWrongFalsely : Prop := sipBackRow.holds Try.pinned (OpenSpec.ofChange sipBackWrong)

/- THE SECOND FORM. 'bulk': how many values and letters a reading holds, each counted each time it is reached (what is shared counts as often as it is met; a slice's spare places count too). A statement '..UptoSaid' is the law's where the arguments, and the package variables that the reading takes, are together of bulk at most 1048576: NARROWER than '..Said'. Prove '..Said' where nothing that the law and all that it calls make is longer than what came in: it says more and counts as full. Else prove '..UptoSaid'. A law counts once. -/
mutual
def uptoBulk {H : Type} : DataW H → Nat
  | .lit (.string bytes) => bytes.length + 1
  | .lit _ => 1
  | .nil => 1
  | .ptr d => uptoBulk d + 1
  | .slice elems spare => uptoBulkAll elems + uptoBulkAll spare + 1
  | .agg parts => uptoBulkAll parts + 1
  | .iface _ d => uptoBulk d + 1
  | .map entries => uptoBulkEntries entries + 1
  | .held _ => 1
def uptoBulkAll {H : Type} : List (DataW H) → Nat
  | [] => 0
  | d :: r => uptoBulk d + uptoBulkAll r
def uptoBulkEntries {H : Type} : List (Lit × DataW H) → Nat
  | [] => 0
  | x :: r => uptoBulkEntry x + uptoBulkEntries r
def uptoBulkEntry {H : Type} : Lit × DataW H → Nat
  | (.string bytes, d) => bytes.length + uptoBulk d + 1
  | (_, d) => uptoBulk d + 1
 end
def uptoSmall : (H : Type) → List (DataW H) → Bool := fun _ ds => decide (uptoBulkAll ds ≤ 1048576)
def OpenSpec.upto (s : _root_.Go.ChangeSpec) : _root_.Go.OpenSpec := { _root_.Go.OpenSpec.ofChange s with cond := some uptoSmall }

/-- 'brushwoodlaw05.SipHashes', WHERE WHAT IT READS IS OF BULK AT MOST 1048576: true; the input reads as it did. -/
def sipHashesUptoRow : OpenClaim := { program := "ytmkibkeacbhhaaa", sum := "fbd96b66e45589149f36c80811ce87813b8442c3d9c3c5698236c82654b54d4d", func := "brushwood/brushwoodlaw05.SipHashes", spec := "sipHashes", apart := false, narrowed := true }
def SipHashesUptoSaid : Prop := sipHashesUptoRow.holds Try.pinned (OpenSpec.upto sipHashesSpec)

/-- 'brushwoodlaw05.SipRounds', WHERE WHAT IT READS IS OF BULK AT MOST 1048576: true; the input reads as it did. -/
def sipRoundsUptoRow : OpenClaim := { program := "ytmkibkeacbhhaaa", sum := "fbd96b66e45589149f36c80811ce87813b8442c3d9c3c5698236c82654b54d4d", func := "brushwood/brushwoodlaw05.SipRounds", spec := "sipRounds", apart := false, narrowed := true }
def SipRoundsUptoSaid : Prop := sipRoundsUptoRow.holds Try.pinned (OpenSpec.upto sipRoundsSpec)

/-- 'brushwoodlaw05.SipSteps', WHERE WHAT IT READS IS OF BULK AT MOST 1048576: true; the input reads as it did. -/
def sipStepsUptoRow : OpenClaim := { program := "ytmkibkeacbhhaaa", sum := "fbd96b66e45589149f36c80811ce87813b8442c3d9c3c5698236c82654b54d4d", func := "brushwood/brushwoodlaw05.SipSteps", spec := "sipSteps", apart := false, narrowed := true }
def SipStepsUptoSaid : Prop := sipStepsUptoRow.holds Try.pinned (OpenSpec.upto sipStepsSpec)

/-- 'brushwoodlaw05.SipGoes', WHERE WHAT IT READS IS OF BULK AT MOST 1048576: true; the input reads as it did. -/
def sipGoesUptoRow : OpenClaim := { program := "ytmkibkeacbhhaaa", sum := "fbd96b66e45589149f36c80811ce87813b8442c3d9c3c5698236c82654b54d4d", func := "brushwood/brushwoodlaw05.SipGoes", spec := "sipGoes", apart := false, narrowed := true }
def SipGoesUptoSaid : Prop := sipGoesUptoRow.holds Try.pinned (OpenSpec.upto sipGoesSpec)

/-- 'brushwoodlaw05.SipBack', WHERE WHAT IT READS IS OF BULK AT MOST 1048576: true; the input reads as it did. -/
def sipBackUptoRow : OpenClaim := { program := "ytmkibkeacbhhaaa", sum := "fbd96b66e45589149f36c80811ce87813b8442c3d9c3c5698236c82654b54d4d", func := "brushwood/brushwoodlaw05.SipBack", spec := "sipBack", apart := false, narrowed := true }
def SipBackUptoSaid : Prop := sipBackUptoRow.holds Try.pinned (OpenSpec.upto sipBackSpec)

end Rows
end Go.Proofs.Ytmkibkeacbhhaaa
