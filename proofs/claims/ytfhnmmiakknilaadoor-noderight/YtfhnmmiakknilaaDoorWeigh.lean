/-
  Contracts of held, heldSize, areEven, Even, Single, and of the tree's own even and single.
-/
import Derived.Test.YtfhnmmiakknilaaDoorWood
import Derived.Test.YtfhnmmiakknilaaDoorWalks
namespace Go.Proofs.YtfhnmmiakknilaaDoor
open Go.RowKit
set_option maxHeartbeats 400000
end Go.Proofs.YtfhnmmiakknilaaDoor
