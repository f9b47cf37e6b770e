/-
  Contracts of pairsOf and allHave.
-/
import Derived.Test.YtmbdimonfdncpaaGreatDoorEnts
import Derived.Test.YtmbdimonfdncpaaGreatDoorMade
namespace Go.Proofs.YtmbdimonfdncpaaGreatDoor
open Go.RowKit
set_option maxHeartbeats 1000000
set_option maxRecDepth 100000
/-- the first j pairs of entries lie in a row, their bytes in w -/
def Prs (w : World) (cur : Array Value) (L : List En) (j : Nat) : Prop := ∀ i (h : i < L.length), i < j → ∃ ka kc va vc,
  cur[i * 2]? = some (.slice ka (L[i]).2.1.length kc) ∧ cur[i * 2 + 1]? = some (.slice va (L[i]).2.2.length vc) ∧ Bts w ka (L[i]).2.1 ∧ Bts w va (L[i]).2.2
end Go.Proofs.YtmbdimonfdncpaaGreatDoor
