/-
  No cell of these rows narrows 'for every input' (looked for: loops, veiled, ifaces, maps, wideKeys, modest, calm, conditions, laid).
  DERIVED. THE GIVEN ROWS OF THIS SEAT. 6 by the template 'for every input the law returns true; each argument reads behind the call as it read before'; 0 by the template 'total and deterministic' (their statements: YtjagpamefcgpoaaTotals.lean).
  GIVEN WITH THE SEED: the statements are not yours to turn. If you find one false, say at which input.
  Laid BY PROGRAM, IN A SANDBOX (cutbox-rows.mjs): the forced cells as the released guide's own fill.sh prints them over the translation c4672c8cd72b69c7… (all of the seat's roots in one cut). By AI agents, Wed Nov 11 2026. No macro, syntax, notation, axiom, sorry.
-/
import Derived.Test.YtjagpamefcgpoaaChecked
import GoSem.Claim
import GoSem.ClaimJoined
import GoSem.ClaimMapViews
import Derived.JoinedTies
import Derived.KernelRfl
namespace Go.Proofs.Ytjagpamefcgpoaa
/- THE CELL 'sum', in the pinned program and in every row, IS THE sha256 OF THE DUMP (.gsa) THAT YtjagpamefcgpoaaProg.lean LOADS. Nothing in Lean hashes anything: it is a label: what it is worth is what the hold of that sum in a sandbox is worth. -/
noncomputable def Try.pinned : Pinned := { name := "ytjagpamefcgpoaa", sum := "c4672c8cd72b69c70efb1e7c7be4d315275b8a2e95bfff61b950ac7ce00e355b", checked := Try.checked }
namespace Rows
def none {H : Type} : Left H := { results := [], args := [] }

/-- 'brushwoodlaw02.QuotePrints': WHATEVER THE INPUT: true; the input reads as it did. -/
def quotePrintsSpec : ChangeSpec := { name := "quotePrints", fn := fun _ => fun
  | [d] => { results := [.lit (.bool true)], args := [d] }
  | _ => none }
def quotePrintsRow : OpenClaim := { program := "ytjagpamefcgpoaa", sum := "c4672c8cd72b69c70efb1e7c7be4d315275b8a2e95bfff61b950ac7ce00e355b", func := "brushwood/brushwoodlaw02.QuotePrints", spec := "quotePrints", inPlace := ["internal/bytealg.IndexByteString", "internal/bytealg.IndexString"], named := ["internal/bytealg.MaxLen"], apart := false }
def QuotePrintsSaid : Prop := quotePrintsRow.holds Try.pinned (OpenSpec.ofChange quotePrintsSpec)

/-- ITS FALSE NEIGHBOUR: 'it returns false'. Refute it at one input. -/
def quotePrintsWrong : ChangeSpec := { name := "quotePrints", fn := fun _ => fun
  | [d] => { results := [.lit (.bool false)], args := [d] }
  | _ => none }
def QuotePrintsWrongFalsely : Prop := quotePrintsRow.holds Try.pinned (OpenSpec.ofChange quotePrintsWrong)

/-- 'brushwoodlaw02.QuoteParses': WHATEVER THE INPUT: true; the input reads as it did. -/
def quoteParsesSpec : ChangeSpec := { name := "quoteParses", fn := fun _ => fun
  | [d] => { results := [.lit (.bool true)], args := [d] }
  | _ => none }
def quoteParsesRow : OpenClaim := { program := "ytjagpamefcgpoaa", sum := "c4672c8cd72b69c70efb1e7c7be4d315275b8a2e95bfff61b950ac7ce00e355b", func := "brushwood/brushwoodlaw02.QuoteParses", spec := "quoteParses", inPlace := ["internal/bytealg.IndexByteString", "internal/bytealg.IndexString"], named := ["internal/bytealg.MaxLen"], apart := false }
def QuoteParsesSaid : Prop := quoteParsesRow.holds Try.pinned (OpenSpec.ofChange quoteParsesSpec)

/-- ITS FALSE NEIGHBOUR: 'it returns false'. Refute it at one input. -/
def quoteParsesWrong : ChangeSpec := { name := "quoteParses", fn := fun _ => fun
  | [d] => { results := [.lit (.bool false)], args := [d] }
  | _ => none }
def QuoteParsesWrongFalsely : Prop := quoteParsesRow.holds Try.pinned (OpenSpec.ofChange quoteParsesWrong)

/-- 'brushwoodlaw02.QuoteFinds': WHATEVER THE INPUT: true; the input reads as it did. -/
def quoteFindsSpec : ChangeSpec := { name := "quoteFinds", fn := fun _ => fun
  | [d1, d2] => { results := [.lit (.bool true)], args := [d1, d2] }
  | _ => none }
def quoteFindsRow : OpenClaim := { program := "ytjagpamefcgpoaa", sum := "c4672c8cd72b69c70efb1e7c7be4d315275b8a2e95bfff61b950ac7ce00e355b", func := "brushwood/brushwoodlaw02.QuoteFinds", spec := "quoteFinds", inPlace := ["internal/bytealg.IndexByteString", "internal/bytealg.IndexString"], named := ["internal/bytealg.MaxLen"], apart := false }
def QuoteFindsSaid : Prop := quoteFindsRow.holds Try.pinned (OpenSpec.ofChange quoteFindsSpec)

/-- ITS FALSE NEIGHBOUR: 'it returns false'. Refute it at one input. -/
def quoteFindsWrong : ChangeSpec := { name := "quoteFinds", fn := fun _ => fun
  | [d1, d2] => { results := [.lit (.bool false)], args := [d1, d2] }
  | _ => none }
def QuoteFindsWrongFalsely : Prop := quoteFindsRow.holds Try.pinned (OpenSpec.ofChange quoteFindsWrong)

/-- 'brushwoodlaw02.QuoteCounts': WHATEVER THE INPUT: true; the input reads as it did. -/
def quoteCountsSpec : ChangeSpec := { name := "quoteCounts", fn := fun _ => fun
  | [d] => { results := [.lit (.bool true)], args := [d] }
  | _ => none }
def quoteCountsRow : OpenClaim := { program := "ytjagpamefcgpoaa", sum := "c4672c8cd72b69c70efb1e7c7be4d315275b8a2e95bfff61b950ac7ce00e355b", func := "brushwood/brushwoodlaw02.QuoteCounts", spec := "quoteCounts", apart := false }
def QuoteCountsSaid : Prop := quoteCountsRow.holds Try.pinned (OpenSpec.ofChange quoteCountsSpec)

/-- ITS FALSE NEIGHBOUR: 'it returns false'. Refute it at one input. -/
def quoteCountsWrong : ChangeSpec := { name := "quoteCounts", fn := fun _ => fun
  | [d] => { results := [.lit (.bool false)], args := [d] }
  | _ => none }
def QuoteCountsWrongFalsely : Prop := quoteCountsRow.holds Try.pinned (OpenSpec.ofChange quoteCountsWrong)

/-- 'brushwoodlaw02.QuotePlain': WHATEVER THE INPUT: true; the input reads as it did. -/
def quotePlainSpec : ChangeSpec := { name := "quotePlain", fn := fun _ => fun
  | [d] => { results := [.lit (.bool true)], args := [d] }
  | _ => none }
def quotePlainRow : OpenClaim := { program := "ytjagpamefcgpoaa", sum := "c4672c8cd72b69c70efb1e7c7be4d315275b8a2e95bfff61b950ac7ce00e355b", func := "brushwood/brushwoodlaw02.QuotePlain", spec := "quotePlain", apart := false }
def QuotePlainSaid : Prop := quotePlainRow.holds Try.pinned (OpenSpec.ofChange quotePlainSpec)

/-- ITS FALSE NEIGHBOUR: 'it returns false'. Refute it at one input. -/
def quotePlainWrong : ChangeSpec := { name := "quotePlain", fn := fun _ => fun
  | [d] => { results := [.lit (.bool false)], args := [d] }
  | _ => none }
def QuotePlainWrongFalsely : Prop := quotePlainRow.holds Try.pinned (OpenSpec.ofChange quotePlainWrong)

/-- 'brushwoodlaw02.QuoteApart': WHATEVER THE INPUT: true; the input reads as it did. -/
def quoteApartSpec : ChangeSpec := { name := "quoteApart", fn := fun _ => fun
  | [d1, d2] => { results := [.lit (.bool true)], args := [d1, d2] }
  | _ => none }
def quoteApartRow : OpenClaim := { program := "ytjagpamefcgpoaa", sum := "c4672c8cd72b69c70efb1e7c7be4d315275b8a2e95bfff61b950ac7ce00e355b", func := "brushwood/brushwoodlaw02.QuoteApart", spec := "quoteApart", apart := false }
def QuoteApartSaid : Prop := quoteApartRow.holds Try.pinned (OpenSpec.ofChange quoteApartSpec)

/-- ITS FALSE NEIGHBOUR: 'it returns false'. Refute it at one input. -/
def quoteApartWrong : ChangeSpec := { name := "quoteApart", fn := fun _ => fun
  | [d1, d2] => { results := [.lit (.bool false)], args := [d1, d2] }
  | _ => none }
def QuoteApartWrongFalsely : Prop := quoteApartRow.holds Try.pinned (OpenSpec.ofChange quoteApartWrong)

/- THE SECOND FORM. 'bulk': how many values and letters a reading holds, each counted each time it is reached (what is shared counts as often as it is met; a slice's spare places count too). A statement '..UptoSaid' is the law's where the arguments, and the package variables that the reading takes, are together of bulk at most 1048576: NARROWER than '..Said'. Prove '..Said' where nothing that the law and all that it calls make is longer than what came in: it says more and counts as full. Else prove '..UptoSaid'. A law counts once. -/
mutual
def uptoBulk {H : Type} : DataW H → Nat
  | .lit (.string bytes) => bytes.length + 1
  | .lit _ => 1
  | .nil => 1
  | .ptr d => uptoBulk d + 1
  | .slice elems spare => uptoBulkAll elems + uptoBulkAll spare + 1
  | .agg parts => uptoBulkAll parts + 1
  | .iface _ d => uptoBulk d + 1
  | .map entries => uptoBulkEntries entries + 1
  | .held _ => 1
def uptoBulkAll {H : Type} : List (DataW H) → Nat
  | [] => 0
  | d :: r => uptoBulk d + uptoBulkAll r
def uptoBulkEntries {H : Type} : List (Lit × DataW H) → Nat
  | [] => 0
  | x :: r => uptoBulkEntry x + uptoBulkEntries r
def uptoBulkEntry {H : Type} : Lit × DataW H → Nat
  | (.string bytes, d) => bytes.length + uptoBulk d + 1
  | (_, d) => uptoBulk d + 1
 end
def uptoSmall : (H : Type) → List (DataW H) → Bool := fun _ ds => decide (uptoBulkAll ds ≤ 1048576)
def OpenSpec.upto (s : _root_.Go.ChangeSpec) : _root_.Go.OpenSpec := { _root_.Go.OpenSpec.ofChange s with cond := some uptoSmall }

/-- 'brushwoodlaw02.QuotePrints', WHERE WHAT IT READS IS OF BULK AT MOST 1048576: true; the input reads as it did. -/
def quotePrintsUptoRow : OpenClaim := { program := "ytjagpamefcgpoaa", sum := "c4672c8cd72b69c70efb1e7c7be4d315275b8a2e95bfff61b950ac7ce00e355b", func := "brushwood/brushwoodlaw02.QuotePrints", spec := "quotePrints", inPlace := ["internal/bytealg.IndexByteString", "internal/bytealg.IndexString"], named := ["internal/bytealg.MaxLen"], apart := false, narrowed := true }
def QuotePrintsUptoSaid : Prop := quotePrintsUptoRow.holds Try.pinned (OpenSpec.upto quotePrintsSpec)

/-- 'brushwoodlaw02.QuoteParses', WHERE WHAT IT READS IS OF BULK AT MOST 1048576: true; the input reads as it did. -/
def quoteParsesUptoRow : OpenClaim := { program := "ytjagpamefcgpoaa", sum := "c4672c8cd72b69c70efb1e7c7be4d315275b8a2e95bfff61b950ac7ce00e355b", func := "brushwood/brushwoodlaw02.QuoteParses", spec := "quoteParses", inPlace := ["internal/bytealg.IndexByteString", "internal/bytealg.IndexString"], named := ["internal/bytealg.MaxLen"], apart := false, narrowed := true }
def QuoteParsesUptoSaid : Prop := quoteParsesUptoRow.holds Try.pinned (OpenSpec.upto quoteParsesSpec)

/-- 'brushwoodlaw02.QuoteFinds', WHERE WHAT IT READS IS OF BULK AT MOST 1048576: true; the input reads as it did. -/
def quoteFindsUptoRow : OpenClaim := { program := "ytjagpamefcgpoaa", sum := "c4672c8cd72b69c70efb1e7c7be4d315275b8a2e95bfff61b950ac7ce00e355b", func := "brushwood/brushwoodlaw02.QuoteFinds", spec := "quoteFinds", inPlace := ["internal/bytealg.IndexByteString", "internal/bytealg.IndexString"], named := ["internal/bytealg.MaxLen"], apart := false, narrowed := true }
def QuoteFindsUptoSaid : Prop := quoteFindsUptoRow.holds Try.pinned (OpenSpec.upto quoteFindsSpec)

/-- 'brushwoodlaw02.QuoteCounts', WHERE WHAT IT READS IS OF BULK AT MOST 1048576: true; the input reads as it did. -/
def quoteCountsUptoRow : OpenClaim := { program := "ytjagpamefcgpoaa", sum := "c4672c8cd72b69c70efb1e7c7be4d315275b8a2e95bfff61b950ac7ce00e355b", func := "brushwood/brushwoodlaw02.QuoteCounts", spec := "quoteCounts", apart := false, narrowed := true }
def QuoteCountsUptoSaid : Prop := quoteCountsUptoRow.holds Try.pinned (OpenSpec.upto quoteCountsSpec)

/-- 'brushwoodlaw02.QuotePlain', WHERE WHAT IT READS IS OF BULK AT MOST 1048576: true; the input reads as it did. -/
def quotePlainUptoRow : OpenClaim := { program := "ytjagpamefcgpoaa", sum := "c4672c8cd72b69c70efb1e7c7be4d315275b8a2e95bfff61b950ac7ce00e355b", func := "brushwood/brushwoodlaw02.QuotePlain", spec := "quotePlain", apart := false, narrowed := true }
def QuotePlainUptoSaid : Prop := quotePlainUptoRow.holds Try.pinned (OpenSpec.upto quotePlainSpec)

/-- 'brushwoodlaw02.QuoteApart', WHERE WHAT IT READS IS OF BULK AT MOST 1048576: true; the input reads as it did. -/
def quoteApartUptoRow : OpenClaim := { program := "ytjagpamefcgpoaa", sum := "c4672c8cd72b69c70efb1e7c7be4d315275b8a2e95bfff61b950ac7ce00e355b", func := "brushwood/brushwoodlaw02.QuoteApart", spec := "quoteApart", apart := false, narrowed := true }
def QuoteApartUptoSaid : Prop := quoteApartUptoRow.holds Try.pinned (OpenSpec.upto quoteApartSpec)

end Rows
end Go.Proofs.Ytjagpamefcgpoaa
