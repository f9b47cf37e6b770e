/-
  Contracts of Way, of the reference's Way and Common, of From.
-/
import Derived.Test.YtmbifgmdilmkgaaWalks
import Derived.Laws.Tables
namespace Go.Proofs.Ytmbifgmdilmkgaa
open Go.RowKit
set_option maxHeartbeats 400000
theorem row_below {w w' : World} {g : Nat} {o : Obj} (h : w.heap[g]? = some o) (hb : Below w.heap.size w w') : w'.heap[g]? = some o := by
  rw [hb.block g (Array.getElem?_eq_some_iff.1 h).1]; exact h
/-- the cells of a way behind j rounds -/
def wcells (h j : Nat) : List Value := (way h j).map (fun n => .int .i64 (n : Int)) ++ List.replicate (13 - j) (.int .i64 0)
theorem wcells_at (h j : Nat) (hj : j < 13) : (wcells h j)[j]? = some (.int .i64 0) := by
  unfold wcells
  rw [List.getElem?_append_right (by simp [way_length]), List.getElem?_replicate, if_pos (by simp [way_length]; omega)]
theorem wcells_length (h j : Nat) (hj : j ≤ 13) : (wcells h j).length = 13 := by simp [wcells, way_length]; omega
theorem wcells_set (h j : Nat) (hj : j < 13) : (wcells h j).set j (.int .i64 ((ch h j : Nat) : Int)) = wcells h (j + 1) := by
  unfold wcells
  rw [List.set_append_right _ _ (by simp [way_length]), way_succ, List.map_append, List.append_assoc]
  congr 1
  have e : 13 - j = (13 - (j + 1)) + 1 := by omega
  have e2 : j - (List.map (fun n : Nat => Value.int .i64 (n : Int)) (way h j)).length = 0 := by simp [way_length]
  rw [e2, e, List.replicate_succ]
  rfl
/-- a whole way, as cells -/
def wayV (h : Nat) : Array Value := (wcells h 13).toArray
theorem wayV_size (h : Nat) : (wayV h).size = 13 := by simp [wayV, wcells_length]
theorem wayV_get (h j : Nat) (hj : j < 13) : (wayV h)[j]? = some (.int .i64 ((ch h j : Nat) : Int)) := by
  simp [wayV, wcells, way, hj]
theorem Try.info3 : (Try.prog.info? 3).map (fun i => (i.zero, i.size, i.bytes)) = some (some (.int .i64 0), 1, 8) := by kernel_rfl
theorem made_one (k : Nat) (v : Value) : madeCells #[v] k = (List.replicate k v).toArray := by
  unfold madeCells
  apply Array.ext
  · simp
  · intro i h1 h2
    simp [Nat.mod_one]
theorem way_made (W : World) : (Instr.makeSlice 25 (.int .i64 13) (.int .i64 13)).run Try.prog W = .ok (.slice (some ⟨W.heap.size, 0, none⟩) 13 13) (W.alloc (.cells (List.replicate 13 (Value.int .i64 0)).toArray 3)) := by
  obtain ⟨i0, hi, hz0, hz1, hz2⟩ := info_parts Try.info3
  have h := run_make (P := Try.prog) W 25 3 i0 (.int .i64 0) Try.underlying25 hi hz0 .i64 .i64 13 13 (by omega) (by omega) (by rw [hz2]; omega) (by omega)
  rw [hz1, show (13 : Int).toNat = 13 from rfl, Nat.mul_one, show (Value.int .i64 0).cells = #[Value.int .i64 0] from rfl, made_one] at h
  exact h
theorem way_any (h : Nat) (w : World) (hh : h < 18446744073709551616) :
    Calls Try.prog 8 #[.int .u64 h] w fun e w' => e = .returned (.slice (some ⟨w.heap.size, 0, none⟩) 13 13) ∧ w.alloc (.cells (wayV h) 3) = w' := by
  have hmk := way_made w
  have hat := fun (j : Nat) (W : World) (hj : j ≤ 12) => at_nat h j W hh hj
  have HAT := Lib.hid hat; clear hat
  go_enter Try.func8, Try.ntmps8
  go_wp2_with fail
  go_loopw [8] (fun i wr => ∃ j : Nat, j ≤ 13 ∧ i = .int .i64 j ∧ wr = w.alloc (.cells (wcells h j).toArray 3)) (fun i _ => 13 - (intOf i).toNat)
  case atStart => exact ⟨0, by omega, rfl, by simp [wcells, way]⟩
  case round =>
    obtain ⟨j, hj, rfl, rfl⟩ := hrel
    by_cases hlt : j < 13
    · have hcell := wcells_at h j hlt
      go_wp2_with fail
      refine (HAT.out j _ (by omega)).mono ?_
      rintro e w' ⟨rfl, rfl⟩
      go_wp2_with fail
      go_roundw
      case rel =>
        refine ⟨j + 1, by omega, by go_num, ?_⟩
        rw [← wcells_set h j hlt]
      case measure => simp [intOf]; omega
    · go_wp2_with fail
      go_ret
      obtain rfl : j = 13 := by omega
      exact ⟨rfl, rfl⟩
end Go.Proofs.Ytmbifgmdilmkgaa
