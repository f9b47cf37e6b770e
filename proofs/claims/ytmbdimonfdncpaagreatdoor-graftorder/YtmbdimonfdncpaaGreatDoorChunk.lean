/-
  Contracts of held, Cut, At (chunk) and of the reference's Way.
-/
import Derived.Test.YtmbdimonfdncpaaGreatDoorNods
import Derived.Test.YtmbdimonfdncpaaGreatDoorWalks
import Derived.Laws.Tables
import Derived.Laws.CopyOwn
import Derived.Laws.BitsAllLaws
import Derived.Laws.ShiftsVarLaws
import Derived.IntWalk
namespace Go.Proofs.YtmbdimonfdncpaaGreatDoor
open Go.RowKit
set_option maxHeartbeats 400000
set_option maxRecDepth 100000
theorem wrap_top (k : Nat) (hk : k ≤ 64) : IntKind.u64.wrap (18446744073709551615 * 2 ^ k) = ((2 ^ 64 - 2 ^ k : Nat) : Int) := by
  rw [IntKind.wrap_u64]
  have hp : (2 : Nat) ^ k ≤ 2 ^ 64 := Nat.pow_le_pow_right (by decide) hk
  have hp0 : 0 < (2 : Nat) ^ k := Nat.two_pow_pos k
  have e : ((2 : Int) ^ k) = ((2 ^ k : Nat) : Int) := by simp
  rw [e]
  generalize (2 : Nat) ^ k = q at *
  have h1 : (18446744073709551615 * (q : Int)) = ((2 ^ 64 - q : Nat) : Int) + 18446744073709551616 * ((q : Int) - 1) := by omega
  rw [h1, Int.add_mul_emod_self_left]
  omega
theorem low_mask (y k : Nat) (hk : k ≤ 64) : y &&& (18446744073709551615 - (2 ^ 64 - 2 ^ k)) = y % 2 ^ k := by
  have hp : (2 : Nat) ^ k ≤ 2 ^ 64 := Nat.pow_le_pow_right (by decide) hk
  have hp0 : 0 < (2 : Nat) ^ k := Nat.two_pow_pos k
  have e : 18446744073709551615 - (2 ^ 64 - 2 ^ k) = 2 ^ k - 1 := by generalize (2 : Nat) ^ k = q at *; omega
  rw [e, Nat.and_two_pow_sub_one_eq_mod]
/-- what Cut comes to. -/
def cutN (x f k : Nat) : Nat := x / 2 ^ f % 2 ^ k
theorem cut_bits (x f k : Nat) (hx : x < 18446744073709551616) (hk : k ≤ 64) :
    bits .andNot .u64 ((x : Int) / 2 ^ f) (IntKind.u64.wrap (18446744073709551615 * 2 ^ k)) = ((cutN x f k : Nat) : Int) := by
  have hy : x / 2 ^ f < 18446744073709551616 := Nat.lt_of_le_of_lt (Nat.div_le_self _ _) hx
  have e : ((x : Int) / 2 ^ f) = ((x / 2 ^ f : Nat) : Int) := by simp
  have hp0 : 0 < (2 : Nat) ^ k := Nat.two_pow_pos k
  rw [wrap_top k hk, e, u64_andNot_nat _ _ hy (by omega)]
  rw [low_mask _ k hk]
  rfl
theorem pow32 (i : Nat) : (32 : Nat) ^ i = 2 ^ (5 * i) := by rw [show (32 : Nat) = 2 ^ 5 from rfl, ← Nat.pow_mul]
theorem cut_ch (h i : Nat) : cutN h (5 * i) 5 = ch h i := by rw [cutN, ch, pow32]
theorem wheld_any (n m : Int) (w : World) (h : 0 ≤ m) :
    Calls Tryz.prog 90 #[.int .i64 n, .int .i64 m] w fun e w' => e = .returned (.int .i64 (max 0 (min n m))) ∧ w = w' := by
  go_enter Tryz.func90, Tryz.ntmps90
  go_wp2
  all_goals go_ret
  all_goals exact ⟨ret_int (by omega), rfl⟩
theorem cut_any (x : Nat) (f k : Int) (w : World) (hx : x < 18446744073709551616) :
    Calls Tryz.prog 71 #[.int .u64 x, .int .i64 f, .int .i64 k] w fun e w' => e = .returned (.int .u64 (cutN x (max 0 (min f 64)).toNat (max 0 (min k 64)).toNat : Nat)) ∧ w = w' := by
  go_enter Tryz.func71, Tryz.ntmps71
  go_wp2_with (go_at_call 90; refine (wheld_any _ _ _ (by omega)).mono ?_; rintro e w' ⟨rfl, rfl⟩)
  go_ret
  exact ⟨ret_int (cut_bits x _ _ hx (by omega)), rfl⟩
theorem at_cut (x i : Nat) (w : World) (hx : x < 18446744073709551616) (hi : i ≤ 12) :
    Calls Tryz.prog 71 #[.int .u64 x, .int .i64 (5 * (i : Int)), .int .i64 5] w fun e w' => e = .returned (.int .u64 (ch x i : Nat)) ∧ w = w' := by
  have h := cut_any x (5 * (i : Int)) 5 w hx
  have e1 : (max 0 (min (5 * (i : Int)) 64)).toNat = 5 * i := by omega
  have e2 : (max 0 (min (5 : Int) 64)).toNat = 5 := by decide
  rw [e1, e2, cut_ch] at h
  exact h
theorem at_nat (x i : Nat) (w : World) (hx : x < 18446744073709551616) (hi : i ≤ 12) :
    Calls Tryz.prog 50 #[.int .u64 x, .int .i64 (i : Int)] w fun e w' => e = .returned (.int .i64 (ch x i : Nat)) ∧ w = w' := by
  have hc := at_cut x i w hx hi
  have hlt := ch_lt x i
  obtain ⟨c, hcc⟩ : ∃ c, c = ch x i := ⟨_, rfl⟩
  rw [← hcc] at hc hlt ⊢
  have HC := Lib.hid hc; clear hc hcc
  by_cases h3 : i = 0
  · subst h3
    go_enter Tryz.func50, Tryz.ntmps50
    go_wp2_with fail
    refine HC.out.mono ?_
    rintro e w' ⟨rfl, rfl⟩
    go_wp2_with fail
    go_ret
    exact ⟨ret_int (by omega), rfl⟩
  · by_cases h4 : i = 12
    · subst h4
      go_enter Tryz.func50, Tryz.ntmps50
      go_wp2_with fail
      refine HC.out.mono ?_
      rintro e w' ⟨rfl, rfl⟩
      go_wp2_with fail
      go_ret
      exact ⟨ret_int (by omega), rfl⟩
    · have h5 : 0 < i := by omega
      have h6 : i < 12 := by omega
      go_enter Tryz.func50, Tryz.ntmps50
      go_wp2_with fail
      refine HC.out.mono ?_
      rintro e w' ⟨rfl, rfl⟩
      go_wp2_with fail
      go_ret
      exact ⟨ret_int (by omega), rfl⟩
/-! ### the reference's Way -/
/-- the first chunks -/
def way (h : Nat) : Nat → List Nat
  | 0 => []
  | n + 1 => way h n ++ [ch h n]
theorem way_length (h : Nat) : ∀ n, (way h n).length = n
  | 0 => rfl
  | n + 1 => by rw [way, List.length_append, way_length h n]; rfl
theorem way_get (h : Nat) : ∀ n j, j < n → (way h n)[j]? = some (ch h j)
  | 0, j, hj => absurd hj (Nat.not_lt_zero j)
  | n + 1, j, hj => by
    rw [way]
    rcases Nat.lt_or_ge j n with g | g
    · rw [List.getElem?_append_left (by rw [way_length]; exact g), way_get h n j g]
    · obtain rfl : j = n := by omega
      rw [List.getElem?_append_right (by rw [way_length]; exact Nat.le_refl _), way_length, Nat.sub_self]; rfl
/-- the cells of a way behind j rounds -/
def wcells (h j : Nat) : List Value := (way h j).map (fun n => .int .i64 (n : Int)) ++ List.replicate (13 - j) (.int .i64 0)
theorem wcells_at (h j : Nat) (hj : j < 13) : (wcells h j)[j]? = some (.int .i64 0) := by
  unfold wcells
  rw [List.getElem?_append_right (by simp [way_length]), List.getElem?_replicate, if_pos (by simp [way_length]; omega)]
theorem wcells_length (h j : Nat) (hj : j ≤ 13) : (wcells h j).length = 13 := by simp [wcells, way_length]; omega
theorem wcells_set (h j : Nat) (hj : j < 13) : (wcells h j).set j (.int .i64 ((ch h j : Nat) : Int)) = wcells h (j + 1) := by
  unfold wcells
  rw [List.set_append_right _ _ (by simp [way_length]), way, List.map_append, List.append_assoc]
  congr 1
  have e : 13 - j = (13 - (j + 1)) + 1 := by omega
  have e2 : j - (List.map (fun n : Nat => Value.int .i64 (n : Int)) (way h j)).length = 0 := by simp [way_length]
  rw [e2, e, List.replicate_succ]
  rfl
/-- a whole way, as cells -/
def wayV (h : Nat) : Array Value := (wcells h 13).toArray
theorem wayV_size (h : Nat) : (wayV h).size = 13 := by simp [wayV, wcells_length]
theorem wayV_get (h j : Nat) (hj : j < 13) : (wayV h)[j]? = some (.int .i64 ((ch h j : Nat) : Int)) := by
  simp only [wayV, wcells, Nat.sub_self, List.replicate_zero, List.append_nil, List.getElem?_toArray, List.getElem?_map, way_get h 13 j hj, Option.map_some]
theorem wayV_one (h : Nat) : (wayV h).all (·.oneCell') = true := by
  rw [Array.all_eq_true_iff_forall_mem]
  intro v hv
  simp only [wayV, wcells, List.mem_toArray, List.mem_append, List.mem_map, List.mem_replicate] at hv
  rcases hv with ⟨n, _, rfl⟩ | ⟨_, rfl⟩ <;> rfl
end Go.Proofs.YtmbdimonfdncpaaGreatDoor
