/-
  Contracts of Turn, Low, last, Round.
-/
import Derived.Test.YtmkibkeacbhhaaaRows
import Derived.Test.YtmkibkeacbhhaaaMath
import Derived.WalkKit
import Derived.WalkLawsBesides
import Derived.Outline
import Derived.IntWalk
import Derived.Lib.Hide
import Derived.Laws.IdiomStrings
import Derived.Laws.MakeOwn
import Derived.OwnWalk
import Derived.Deep.QuietTactic
import Derived.Deep.RegionHeld3
import Derived.BigQuiet
import Derived.BigCall
import Derived.WalkSmall
import Derived.Lib.SlBytesConst
namespace Go.Proofs.Ytmkibkeacbhhaaa
open Go.RowKit
set_option maxHeartbeats 400000
theorem below_then {w a b : World} (h : Below w.heap.size w a) (k : Below a.heap.size a b) : Below w.heap.size w b := h.trans (k.mono h.size)
theorem ret_int {k : IntKind} {a b : Int} (h : a = b) : Ending.returned (.int k a) = .returned (.int k b) := by rw [h]
theorem ret_bool {a b : Bool} (h : a = b) : Ending.returned (.bool a) = .returned (.bool b) := by rw [h]
theorem wrap_byte (x : UInt8) : IntKind.u64.wrap (x.toNat : Int) = (x.toNat : Int) := by
  have := x.toNat_lt
  rw [IntKind.wrap_u64]; omega
theorem turn_bits (x q : Nat) (hx : x < 18446744073709551616) :
    bits .or .u64 (IntKind.u64.wrap ((x : Int) * 2 ^ q)) ((x : Int) / 2 ^ (64 - q)) = ((turnN x q : Nat) : Int) := by
  have e1 : ((x : Int) * 2 ^ q) = ((x * 2 ^ q : Nat) : Int) := by simp
  have e2 : ((x : Int) / 2 ^ (64 - q)) = ((x / 2 ^ (64 - q) : Nat) : Int) := by simp
  rw [e1, e2, IntKind.wrap_u64]
  have e3 : ((x * 2 ^ q : Nat) : Int) % 18446744073709551616 = ((x * 2 ^ q % 18446744073709551616 : Nat) : Int) := by simp
  rw [e3, u64_or_nat _ _ (Nat.mod_lt _ (by decide)) (Nat.lt_of_le_of_lt (Nat.div_le_self _ _) hx)]
  rfl
theorem turn_any (x k : Nat) (w : World) (hx : x < 18446744073709551616) (hk : k < 64) :
    Calls Try.prog 22 #[.int .u64 x, .int .i64 k] w fun e w' => e = .returned (.int .u64 ((turnN x k : Nat) : Int)) ∧ ∃ n, w' = w.drewN n := by
  have t1 : (k : Int).tmod 64 = (k : Int) := by rw [Int.tmod_eq_emod_of_nonneg (by omega)]; omega
  have t2 : ((k : Int) + 64).tmod 64 = (k : Int) := by rw [Int.tmod_eq_emod_of_nonneg (by omega)]; omega
  go_enter Try.func22, Try.ntmps22
  go_wp2
  go_quiet (fail)
  go_wp2
  go_ret
  exact ⟨ret_int (turn_bits x k hx), _, rfl⟩
end Go.Proofs.Ytmkibkeacbhhaaa
