/-
  Contracts of the reference's Way and Common.
-/
import Derived.Test.YtmbifgmdilmkgaaWay
import Derived.Laws.CopyOwn
namespace Go.Proofs.Ytmbifgmdilmkgaa
open Go.RowKit
set_option maxHeartbeats 400000
set_option maxRecDepth 100000
theorem wayV_one (h : Nat) : (wayV h).all (·.oneCell') = true := by
  rw [Array.all_eq_true_iff_forall_mem]
  intro v hv
  simp only [wayV, wcells, List.mem_toArray, List.mem_append, List.mem_map, List.mem_replicate] at hv
  rcases hv with ⟨n, _, rfl⟩ | ⟨_, rfl⟩ <;> rfl
theorem refWay_any (h : Nat) (w : World) (hh : h < 18446744073709551616) :
    Calls Try.prog 7 #[.int .u64 h] w fun e w' => e = .returned (.agg (wayV h)) ∧ Below w.heap.size w w' := by
  have h1 := wayV_one h
  have hsz := wayV_size h
  have H1 := Lib.hid h1; clear h1
  have HSZ := Lib.hid hsz; clear hsz
  go_enter Try.func7, Try.ntmps7
  go_wp2_with fail
  go_loopw [0, 4] (fun a i wr => ∃ j m : Nat, j ≤ 13 ∧ i = .int .i64 j ∧ a = .int .u64 (m : Int) ∧ Hid (m = h / 32 ^ j) ∧ Hid (Below w.heap.size w wr) ∧
    Hid (wr.heap[w.heap.size]? = some (.cells (List.replicate 13 (Value.int .i64 0)).toArray 23 (0, 0))) ∧ Hid (wr.heap[w.heap.size + 1]? = some (.cells (wcells h j).toArray 23 (0, 0)))) (fun _ i _ => 13 - (intOf i).toNat)
  case atStart =>
    refine ⟨0, h, by omega, rfl, rfl, by simp [Hid], ((Below.refl _ _).alloc (Nat.le_refl _) _).alloc (by simp) _, heap_alloc2_old w _ _, ?_⟩
    exact heap_alloc2_new w _ _
  case round =>
    obtain ⟨j, m, hj, rfl, rfl, hm, hb, hr0, hr1⟩ := hrel
    have hm2 : m < 18446744073709551616 := by rw [hm.out]; exact Nat.lt_of_le_of_lt (Nat.div_le_self _ _) hh
    by_cases hlt : j < 13
    · have hcell : wr.cell? ⟨w.heap.size + 1, j, none⟩ = some (.int .i64 0) := by
        rw [cell_of_row _ _ _ _ _ _ hr1.out]
        simpa using wcells_at h j hlt
      have hfz : wr.frozen? ⟨w.heap.size + 1, j, none⟩ = false := frozen_of_row _ _ _ _ _ hr1.out
      go_wp2_with fail
      go_roundw
      case rel =>
        refine ⟨j + 1, m / 32, by omega, by go_num, ?_, ?_, hb.out.setCell (by simp) _, ?_, ?_⟩
        · congr 1
        · show _ = _
          rw [hm.out, Nat.pow_succ, Nat.div_div_eq_div_mul]
        · show _ = _
          rw [heap_setCell_other _ _ _ _ (by simp)]
          exact hr0.out
        · show _ = _
          rw [heap_setCell_same _ _ _ _ _ _ hr1.out, ← wcells_set h j hlt]
          have e : ((m : Int) % 32) = ((ch h j : Nat) : Int) := by rw [ch, ← hm.out]; simp
          simp [e]
      case measure => simp [intOf]; omega
    · obtain rfl : j = 13 := by omega
      have hi23 : (Try.prog.info? 23).map (·.size) = some (wayV h).size := by rw [HSZ.out]; kernel_rfl
      go_wp2_with (first
        | (refine wpList_load_row rfl 23 _ rfl (w.heap.size + 1) rfl 23 (wayV h) (0, 0) _ hr1.out Try.underlying23 rfl hi23 ?_)
        | (refine wpList_store_row rfl 23 _ _ rfl w.heap.size (wayV h) rfl rfl 23 _ hr0.out hi23 (by rw [HSZ.out]; rfl) H1.out ?_))
      refine bodyPost_ret (results_cell_row rfl _ _ w.heap.size 23 _ (0, 0) _ rfl (setRow_heap _ _ _ _ _ _ hr0.out) Try.underlying23 rfl hi23) rfl ?_
      exact ⟨rfl, below_setRow hb.out (Nat.le_refl _) _⟩
theorem refCommon_any (a b : Nat) (w : World) :
    Calls Try.prog 13 #[.agg (wayV a), .agg (wayV b)] w fun e w' => e = .returned (.int .i64 (com a b : Nat)) ∧ Below w.heap.size w w' := by
  have hga : ∀ X, Below ((w.alloc (.cells (wayV a) 23)).alloc (.cells (wayV b) 23)).heap.size ((w.alloc (.cells (wayV a) 23)).alloc (.cells (wayV b) 23)) X → ∀ j, j < 13 → X.cell? ⟨w.heap.size, j, none⟩ = some (.int .i64 ((ch a j : Nat) : Int)) := by
    intro X hX j hj
    rw [cell_of_row _ _ _ _ _ _ (row_below (heap_alloc2_old w _ _) hX), wayV_get a j hj]
  have hgb : ∀ X, Below ((w.alloc (.cells (wayV a) 23)).alloc (.cells (wayV b) 23)).heap.size ((w.alloc (.cells (wayV a) 23)).alloc (.cells (wayV b) 23)) X → ∀ j, j < 13 → X.cell? ⟨w.heap.size + 1, j, none⟩ = some (.int .i64 ((ch b j : Nat) : Int)) := by
    intro X hX j hj
    rw [cell_of_row _ _ _ _ _ _ (row_below (heap_alloc2_new w _ _) hX), wayV_get b j hj]
  obtain ⟨A, hA⟩ : ∃ A, A = wayV a := ⟨_, rfl⟩
  obtain ⟨B, hB⟩ : ∃ B, B = wayV b := ⟨_, rfl⟩
  rw [← hA, ← hB]
  simp only [← hA, ← hB] at hga hgb
  obtain ⟨W0, hW0⟩ : ∃ W, W = (w.alloc (.cells A 23)).alloc (.cells B 23) := ⟨_, rfl⟩
  simp only [← hW0] at hga hgb
  have hb0 : Below w.heap.size w W0 := by rw [hW0]; exact ((Below.refl _ _).alloc (Nat.le_refl _) _).alloc (by simp) _
  have HGA := Lib.hid hga; clear hga
  have HGB := Lib.hid hgb; clear hgb
  have HB0 := Lib.hid hb0; clear hb0
  have HW0 := Lib.hid hW0; clear hW0
  clear hA hB
  go_enter Try.func13, Try.ntmps13
  go_wp2_with fail
  rw [← HW0.out]
  go_loopw [5] (fun i wr => ∃ j : Nat, j ≤ 13 ∧ i = .int .i64 j ∧ Hid (Below W0.heap.size W0 wr) ∧ Hid (com a b = comFrom a b j (13 - j))) (fun i _ => 13 - (intOf i).toNat)
  case atStart => exact ⟨0, by omega, rfl, Below.refl _ _, rfl⟩
  case round =>
    obtain ⟨j, hj, rfl, hb, hcm⟩ := hrel
    by_cases hlt : j < 13
    · have hstep : comFrom a b j (13 - j) = if ch a j = ch b j then comFrom a b (j + 1) (13 - (j + 1)) else j := by
        rw [show 13 - j = (13 - (j + 1)) + 1 by omega, comFrom]
      have hca := fun k => HGA.out (wr.drewN k) (below_drewN hb.out k) j hlt
      have hcb := fun k => HGB.out (wr.drewN k) (below_drewN hb.out k) j hlt
      obtain ⟨x, hx⟩ : ∃ x, x = ch a j := ⟨_, rfl⟩
      obtain ⟨y, hy⟩ : ∃ y, y = ch b j := ⟨_, rfl⟩
      simp only [← hx] at hca
      simp only [← hy] at hcb
      rw [← hx, ← hy] at hstep
      have hd : decide ((j : Int) < 13) = true := decide_eq_true (by omega)
      by_cases he : x = y
      · rw [if_pos he] at hstep
        have HS := Lib.hid hstep; clear hstep
        subst he
        clear hx hy
        go_wp2_with fail
        go_quiet (fail)
        go_wp2_with fail
        go_roundw
        case rel => exact ⟨j + 1, by omega, by go_num, below_drewN hb.out _, hcm.out.trans HS.out⟩
        case measure => simp [intOf]; omega
      · rw [if_neg he] at hstep
        have hne : ((x : Int) == (y : Int)) = false := by simp only [beq_eq_false_iff_ne]; omega
        have HS := Lib.hid hstep; clear hstep
        clear hx hy he
        go_wp2_with fail
        go_quiet (fail)
        go_wp2_with fail
        go_ret
        exact ⟨ret_int (by rw [hcm.out, HS.out]), below_then HB0.out (below_drewN hb.out _)⟩
    · obtain rfl : j = 13 := by omega
      go_wp2_with fail
      go_quiet (fail)
      go_wp2_with fail
      go_ret
      exact ⟨ret_int (by rw [hcm.out]; rfl), below_then HB0.out (below_drewN hb.out _)⟩
end Go.Proofs.Ytmbifgmdilmkgaa
