/-
  Contract of awake: the document's example.
-/
import Derived.Test.YtfhnmmiakknilaaSames
import Derived.Test.YtfhnmmiakknilaaIn
namespace Go.Proofs.Ytfhnmmiakknilaa
open Go.RowKit
set_option maxHeartbeats 4000000
set_option maxRecDepth 100000
theorem awake_any (w : World) : Calls Try.prog 7 #[] w fun e w' => e = .returned (.bool true) ∧ Below w.heap.size w w' := by
  obtain ⟨w1, hw1⟩ : ∃ w1, w1 = w.alloc (.cells (Lib.byteCells [107]).toArray 5 (1, 2)) := ⟨_, rfl⟩
  have hb1 : Below w.heap.size w w1 := by rw [hw1]; exact (Below.refl _ _).alloc (Nat.le_refl _) _
  have r1 : w1.heap[w.heap.size]? = some (.cells (Lib.byteCells [107]).toArray 5 (1, 2)) := by rw [hw1]; exact heap_alloc_new w _
  have hl := leaf_any (F := fun _ => True) (w := w1) (ka := some ⟨w.heap.size, 0, none⟩) (va := none) (q := ([107], [])) 5 1 0 (fun _ _ => trivial) (bts_row r1) (.inl rfl) ⟨by simp, by simp⟩
  have HL := Lib.hid hl; clear hl
  have HB := Lib.hid hb1; clear hb1
  have HW : Hid (w1 = w.alloc (.cells #[.int .u8 107] 5 (1, 2))) := hw1
  have hcv : (convert 52 52 (.slice (some ⟨w.heap.size, 0, none⟩) 1 1)).run Try.prog (w.alloc (.cells #[.int .u8 107] 5)) = .ok (.slice (some ⟨w.heap.size, 0, none⟩) 1 1) (w.alloc (.cells #[.int .u8 107] 5 (1, 2))) := conv_const w #[.int .u8 107] 1 1
  clear hw1 r1
  go_enter Try.func7, Try.ntmps7
  go_wp2_with fail
  rw [← HW.out]
  refine HL.out.mono ?_
  rintro e w2 ⟨v, rfl, hv, hb2⟩
  have hi2 := fun W (hW : Below w2.heap.size w2 W) => is_any 2 (hv.below hW)
  have hi1 := fun W (hW : Below w2.heap.size w2 W) => is_any 1 (hv.below hW)
  obtain ⟨b, _, _, _, _, rfl, _⟩ := hv
  have I2 : Hid (∀ W, Below w2.heap.size w2 W → Calls Try.prog 11 #[.iface 84 (.pointer (some ⟨b, 0, none⟩)), .int .i64 2] W fun e w' => e = .returned (.int .i64 12) ∧ Below W.heap.size W w') := hi2
  have I1 : Hid (∀ W, Below w2.heap.size w2 W → Calls Try.prog 11 #[.iface 84 (.pointer (some ⟨b, 0, none⟩)), .int .i64 1] W fun e w' => e = .returned (.int .i64 0) ∧ Below W.heap.size W w') := hi1
  have e1 := ne_some 84 (.pointer (some ⟨b, 0, none⟩))
  have m1 := kind84 (some ⟨b, 0, none⟩)
  have HK := Lib.hid (fun W => kindOf84 (some ⟨b, 0, none⟩) W)
  have HB2 := Lib.hid (below_then HB.out hb2)
  clear hi1 hi2 hb2 hcv
  go_wp2_with fail
  refine (HK.out w2).mono ?_
  rintro e w' ⟨rfl, rfl⟩
  go_wp2_with fail
  refine (I2.out w2 (Below.refl _ _)).mono ?_
  rintro e w3 ⟨rfl, hb3⟩
  have J := Lib.hid (I1.out w3 hb3)
  have HB3 := Lib.hid hb3; clear hb3
  go_wp2_with fail
  refine J.out.mono ?_
  rintro e w4 ⟨rfl, hb4⟩
  have HB4 := Lib.hid hb4; clear hb4
  go_wp2_with fail
  go_ret
  exact ⟨rfl, below_then HB2.out (below_then HB3.out HB4.out)⟩
end Go.Proofs.Ytfhnmmiakknilaa
