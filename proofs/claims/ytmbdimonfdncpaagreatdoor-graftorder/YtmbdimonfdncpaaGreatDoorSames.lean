/-
  Contract of the law's Same: a node and the document's are one; and of awake.
-/
import Derived.Test.YtmbdimonfdncpaaGreatDoorCount
import Derived.Test.YtmbdimonfdncpaaGreatDoorBits
import Derived.Test.YtmbdimonfdncpaaGreatDoorKins
import Derived.Test.YtmbdimonfdncpaaGreatDoorThree
import Derived.Test.YtmbdimonfdncpaaGreatDoorSound
import Derived.Test.YtmbdimonfdncpaaGreatDoorWeight
namespace Go.Proofs.YtmbdimonfdncpaaGreatDoor
open Go.RowKit
set_option maxHeartbeats 8000000
set_option maxRecDepth 100000
theorem eq58_some (a : Addr) (w : World) : (binOp .eql 95 (.pointer (some a)) (.pointer none)).run Tryz.prog w = .ok (.bool false) w := by kernel_rfl
theorem eq58_none (w : World) : (binOp .eql 95 (.pointer none) (.pointer none)).run Tryz.prog w = .ok (.bool true) w := by kernel_rfl
attribute [local irreducible] Bt.lst
end Go.Proofs.YtmbdimonfdncpaaGreatDoor
