/-
  The contract of awake: the document's example.
-/
import Derived.Test.YtfhnmmiakknilaaDoorFrom
import Derived.Lib.ConvBytes
namespace Go.Proofs.YtfhnmmiakknilaaDoor
open Go.RowKit
set_option maxHeartbeats 4000000
set_option maxRecDepth 100000
theorem conv_const (w : World) (C : Array Value) (n c : Nat) : (convert 45 45 (.slice (some ⟨w.heap.size, 0, none⟩) n c)).run Tryd.prog (w.alloc (.cells C 5)) = .ok (.slice (some ⟨w.heap.size, 0, none⟩) n c) (w.alloc (.cells C 5 (C.size, C.size + 1))) :=
  Lib.run_convert_bytes_const (P := Tryd.prog) w 45 5 C n c Tryd.underlying45 Tryd.underlying5
end Go.Proofs.YtfhnmmiakknilaaDoor
