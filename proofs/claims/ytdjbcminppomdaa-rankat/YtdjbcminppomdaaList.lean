/-
  The contract of List: a tree's pairs, in memory of their own.
-/
import Derived.Test.YtdjbcminppomdaaDel
import Derived.Test.YtdjbcminppomdaaRefs
import Derived.Deep.RegionLaw
namespace Go.Proofs.Ytdjbcminppomdaa
open Go.RowKit
set_option maxHeartbeats 4000000
set_option maxRecDepth 100000
/-- keys and values are short -/
def Fits (L : List Pr) : Prop := ∀ x ∈ L, x.1.length ≤ 1000 ∧ x.2.length ≤ 1000
theorem kept_of {B : Nat} {w w' : World} (h : Below B w w') : Kept (fun b => b < B) w w' := fun b hb _ => h.block b hb
end Go.Proofs.Ytdjbcminppomdaa
