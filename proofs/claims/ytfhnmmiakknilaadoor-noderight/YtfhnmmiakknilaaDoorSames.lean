/-
  Contract of the law's Same: a node and the document's are one; and of awake.
-/
import Derived.Test.YtfhnmmiakknilaaDoorCount
import Derived.Test.YtfhnmmiakknilaaDoorBLow
import Derived.Test.YtfhnmmiakknilaaDoorAwake
namespace Go.Proofs.YtfhnmmiakknilaaDoor
open Go.RowKit
set_option maxHeartbeats 8000000
set_option maxRecDepth 100000
theorem eq58_some (a : Addr) (w : World) : (binOp .eql 54 (.pointer (some a)) (.pointer none)).run Tryd.prog w = .ok (.bool false) w := by kernel_rfl
theorem eq58_none (w : World) : (binOp .eql 54 (.pointer none) (.pointer none)).run Tryd.prog w = .ok (.bool true) w := by kernel_rfl
attribute [local irreducible] Bt.lst
end Go.Proofs.YtfhnmmiakknilaaDoor
