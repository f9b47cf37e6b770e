/-
  Out of elder texts.
-/
import Derived.Test.YtmbdimonfdncpaaGreatDoorChunk
import Derived.Test.YtmbdimonfdncpaaGreatDoorRange
import Derived.Test.YtmbdimonfdncpaaGreatDoorHand
import Derived.Test.YtmbdimonfdncpaaGreatDoorPlain
import Derived.Laws.Tables
import Derived.Laws.CopyOwn
import Derived.Laws.BitsAllLaws
import Derived.Laws.ShiftsVarLaws
import Derived.IntWalk
import Derived.RangeFuncBox
import Derived.RangeFuncCalls
import Derived.RangeFuncLeaves
import Derived.Shelf.RegionOpen
import Derived.OwnWalkIn
import Derived.TacticsInMore
import Derived.LoopNIn
import Derived.LoopIn
import Derived.WalkKit
import Derived.Below
import Derived.Shelf.Abstract
namespace Go.Proofs.YtmbdimonfdncpaaGreatDoor
open Go.RowKit
set_option maxHeartbeats 400000
set_option maxRecDepth 100000
set_option maxHeartbeats 4000000 in
theorem refWay_any (h : Nat) (w : World) (hh : h < 18446744073709551616) :
    Calls Tryz.prog 22 #[.int .u64 h] w fun e w' => e = .returned (.agg (wayV h)) ∧ Below w.heap.size w w' := by
  have h1 := wayV_one h
  have hsz := wayV_size h
  have H1 := Lib.hid h1; clear h1
  have HSZ := Lib.hid hsz; clear hsz
  go_enter Tryz.func22, Tryz.ntmps22
  go_wp2_with fail
  go_loopw [0, 4] (fun a i wr => ∃ j m : Nat, j ≤ 13 ∧ i = .int .i64 j ∧ a = .int .u64 (m : Int) ∧ Hid (m = h / 32 ^ j) ∧ Hid (Below w.heap.size w wr) ∧
    Hid (wr.heap[w.heap.size]? = some (.cells (List.replicate 13 (Value.int .i64 0)).toArray 69 (0, 0))) ∧ Hid (wr.heap[w.heap.size + 1]? = some (.cells (wcells h j).toArray 69 (0, 0)))) (fun _ i _ => 13 - (intOf i).toNat)
  case atStart =>
    refine ⟨0, h, by omega, rfl, rfl, by simp [Hid], ((Below.refl _ _).alloc (Nat.le_refl _) _).alloc (by simp) _, heap_alloc2_old w _ _, ?_⟩
    exact heap_alloc2_new w _ _
  case round =>
    obtain ⟨j, m, hj, rfl, rfl, hm, hb, hr0, hr1⟩ := hrel
    have hm2 : m < 18446744073709551616 := by rw [hm.out]; exact Nat.lt_of_le_of_lt (Nat.div_le_self _ _) hh
    by_cases hlt : j < 13
    · have hcell : wr.cell? ⟨w.heap.size + 1, j, none⟩ = some (.int .i64 0) := by
        rw [cell_of_row _ _ _ _ _ _ hr1.out]
        simpa using wcells_at h j hlt
      have hfz : wr.frozen? ⟨w.heap.size + 1, j, none⟩ = false := frozen_of_row _ _ _ _ _ hr1.out
      go_wp2_with fail
      go_roundw
      case rel =>
        refine ⟨j + 1, m / 32, by omega, by go_num, ?_, ?_, hb.out.setCell (by simp) _, ?_, ?_⟩
        · congr 1
        · show _ = _
          rw [hm.out, Nat.pow_succ, Nat.div_div_eq_div_mul]
        · show _ = _
          rw [heap_setCell_other _ _ _ _ (by simp)]
          exact hr0.out
        · show _ = _
          rw [heap_setCell_same _ _ _ _ _ _ hr1.out, ← wcells_set h j hlt]
          have e : ((m : Int) % 32) = ((ch h j : Nat) : Int) := by rw [ch, ← hm.out]; simp
          simp [e]
      case measure => simp [intOf]; omega
    · obtain rfl : j = 13 := by omega
      have hi23 : (Tryz.prog.info? 69).map (·.size) = some (wayV h).size := by rw [HSZ.out]; kernel_rfl
      go_wp2_with (first
        | (refine wpList_load_row rfl 69 _ rfl (w.heap.size + 1) rfl 69 (wayV h) (0, 0) _ hr1.out Tryz.underlying69 rfl hi23 ?_)
        | (refine wpList_store_row rfl 69 _ _ rfl w.heap.size (wayV h) rfl rfl 69 _ hr0.out hi23 (by rw [HSZ.out]; rfl) H1.out ?_))
      refine bodyPost_ret (results_cell_row rfl _ _ w.heap.size 69 _ (0, 0) _ rfl (setRow_heap _ _ _ _ _ _ hr0.out) Tryz.underlying69 rfl hi23) rfl ?_
      exact ⟨rfl, below_setRow hb.out (Nat.le_refl _) _⟩
end Go.Proofs.YtmbdimonfdncpaaGreatDoor

namespace Go.Proofs.YtmbdimonfdncpaaGreatDoor
open Go.RowKit
set_option maxHeartbeats 1000000
set_option maxRecDepth 100000
end Go.Proofs.YtmbdimonfdncpaaGreatDoor

namespace Go.Proofs.YtmbdimonfdncpaaGreatDoor
open Go.RowKit Go.Shelf
set_option maxHeartbeats 1000000
set_option maxRecDepth 100000
attribute [local go_sem] Oper.semAt_some
attribute [local irreducible] Bt.lst
end Go.Proofs.YtmbdimonfdncpaaGreatDoor

