/-
  Two states compared; two boxes of states that later worlds keep.
-/
import Derived.Test.YtmkibkeacbhhaaaAwake
import Derived.ChangeKeysEq
import Derived.Laws.StructEq
namespace Go.Proofs.Ytmkibkeacbhhaaa
open Go.RowKit
set_option maxHeartbeats 400000
theorem run_part26 (w : World) (xs : Array Value) (i : Nat) (v : Value) (h : xs[i]? = some v) : (Go.part 26 xs i).run Try.prog w = .ok v w := by
  simp [Go.part, isAgg, run_underlying Try.underlying26, h]
theorem run_eql_state (w : World) (a b c d a' b' c' d' : Nat) :
    (binOp .eql 31 (.agg #[.int .u64 a, .int .u64 b, .int .u64 c, .int .u64 d]) (.agg #[.int .u64 a', .int .u64 b', .int .u64 c', .int .u64 d'])).run Try.prog w = .ok (.bool (decide (St.mk a b c d = St.mk a' b' c' d'))) w := by
  obtain ⟨i, hi⟩ : ∃ i, Try.prog.info? 26 = some i := by
    have h : (Try.prog.info? 26).isSome = true := by kernel_rfl
    exact Option.isSome_iff_exists.1 h
  have hc : Try.prog.cellsOf 26 = 1 := by kernel_rfl
  rw [run_eql_struct, show (10000 : Nat) = 9999 + 1 from rfl, run_equalIn_array w 9999 _ _ Try.underlying31 hi, hc]
  have e : (List.range 4) = [0, 1, 2, 3] := rfl
  have q : ∀ (x y : Nat), (Op.equalIn 9999 26 (.int .u64 (x : Int)) (.int .u64 (y : Int))).run Try.prog w = .ok (decide (x = y)) w := by
    intro x y
    rw [show (9999 : Nat) = 9998 + 1 from rfl, run_equalIn_int w 9998 26 .u64 .u64 _ _ Try.underlying26]
    congr 1
    rw [Bool.eq_iff_iff]
    simp
    omega
  rw [e]
  simp only [Op.eqItems, Sem.run_bind, Nat.mul_one]
  rw [run_part26 w _ 0 (.int .u64 a) rfl, Result.andThen_ok, run_part26 w _ 0 (.int .u64 a') rfl, Result.andThen_ok, q]
  simp only [Result.andThen_ok]
  by_cases h0 : a = a'
  · simp only [h0, decide_true, Bool.not_true, Bool.false_eq_true, if_false, Sem.run_bind]
    rw [run_part26 w _ 1 (.int .u64 b) rfl, Result.andThen_ok, run_part26 w _ 1 (.int .u64 b') rfl, Result.andThen_ok, q]
    simp only [Result.andThen_ok]
    by_cases h1 : b = b'
    · simp only [h1, decide_true, Bool.not_true, Bool.false_eq_true, if_false, Sem.run_bind]
      rw [run_part26 w _ 2 (.int .u64 c) rfl, Result.andThen_ok, run_part26 w _ 2 (.int .u64 c') rfl, Result.andThen_ok, q]
      simp only [Result.andThen_ok]
      by_cases h2 : c = c'
      · simp only [h2, decide_true, Bool.not_true, Bool.false_eq_true, if_false, Sem.run_bind]
        rw [run_part26 w _ 3 (.int .u64 d) rfl, Result.andThen_ok, run_part26 w _ 3 (.int .u64 d') rfl, Result.andThen_ok, q]
        simp only [Result.andThen_ok]
        by_cases h3 : d = d'
        · simp [h3]
        · simp [h3]
      · simp [h2]
    · simp [h1]
  · simp [h0]
theorem run_neq_state (w : World) (a b c d : Nat) :
    (binOp .neq 31 (.agg #[.int .u64 a, .int .u64 b, .int .u64 c, .int .u64 d]) (.agg #[.int .u64 a, .int .u64 b, .int .u64 c, .int .u64 d])).run Try.prog w = .ok (.bool false) w := by
  have h := run_eql_state w a b c d a b c d
  rw [run_eql_struct] at h
  rw [run_neq_struct]
  generalize (Op.equalIn 10000 31 _ _).run Try.prog w = r at h
  cases r with
  | ok x w' =>
    simp only [Result.andThen_ok] at h ⊢
    injection h with h1 h2
    injection h1 with h3
    subst h3 h2
    rfl
  | halt x w' => simp [Result.andThen] at h
theorem run_guard_state (w : World) (op : BinOp) (x y : Operand) (xs ys : Array Value) : (eqGuard op 31 x y (.agg xs) (.agg ys)).run Try.prog w = .ok () w :=
  run_eqGuard_agg w op 31 x y _ _ (by kernel_rfl)
end Go.Proofs.Ytmkibkeacbhhaaa
