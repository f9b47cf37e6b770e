/-
  Contract of the reference's Get of a map as a list, with the value; meters compared; entries that come to themselves.
-/
import Derived.Test.YtmbdimonfdncpaaGreatDoorRefz
import Derived.Test.YtmbdimonfdncpaaGreatDoorNods
import Derived.Laws.StructEq
namespace Go.Proofs.YtmbdimonfdncpaaGreatDoor
open Go.RowKit
set_option maxHeartbeats 400000
set_option maxRecDepth 100000
theorem val_at {M : List Pr} {k : List UInt8} {j : Nat} (hj : j < M.length) (hno : has (M.take j) k = false) (he : (M[j]).1 = k) : val M k = (M[j]).2 := by
  have e : M = M.take j ++ (M[j] :: M.drop (j + 1)) := by rw [List.getElem_cons_drop, List.take_append_drop]
  have h0 : ∀ x ∈ M.take j, x.1 ≠ k := fun x hx hk => by
    have := List.any_eq_false.1 hno x hx
    simp [hk] at this
  have h1 : val M k = val (M[j] :: M.drop (j + 1)) k := by
    conv => lhs; rw [e]
    exact val_none h0
  rw [h1]
  unfold val
  rw [List.find?_cons_of_pos (by simpa using he)]
  rfl
theorem val_no {M : List Pr} {k : List UInt8} (hno : has M k = false) : val M k = [] := by
  have h0 : ∀ x ∈ M, x.1 ≠ k := fun x hx hk => by
    have := List.any_eq_false.1 hno x hx
    simp [hk] at this
  have := val_none (b := []) h0
  rw [List.append_nil] at this
  rw [this]
  rfl
theorem eq_met (a b c d : Int) (w : World) : (binOp .eql 51 (.agg #[.int .i64 a, .int .i64 b]) (.agg #[.int .i64 c, .int .i64 d])).run Tryz.prog w = .ok (.bool (a == c && b == d)) w := by
  have u3 := Tryz.underlying3
  have a3 := Tryz.isAgg3
  have z3 := Tryz.sizeOf3
  have hS : Tryz.prog.underlying 51 = some (.struct (Tryz.prog.fieldsOf 51)) := by kernel_rfl
  have hp : Tryz.prog.stoodInHeld 51 = false := by kernel_rfl
  rw [run_eql_struct, show (10000 : Nat) = 9999 + 1 from rfl, run_equalIn_agg w 9999 51 _ _ hS hp]
  simp only [Program.fieldsOf, Tryz.underlying51]
  go_simp
  by_cases h0 : a = c <;> by_cases h1 : b = d <;> simp [h0, h1]
theorem guard_met (w : World) (x y : Operand) (xs ys : Array Value) : (eqGuard .eql 51 x y (.agg xs) (.agg ys)).run Tryz.prog w = .ok () w :=
  run_eqGuard_agg w .eql 51 x y _ _ (by kernel_rfl)
end Go.Proofs.YtmbdimonfdncpaaGreatDoor
