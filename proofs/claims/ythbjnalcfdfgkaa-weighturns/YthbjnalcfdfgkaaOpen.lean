/-
  How four sizes that come in by value read; Even and Single of sizes that are within their bounds; an array of four ints by value, indexed.
-/
import Derived.Test.YthbjnalcfdfgkaaLeast
import Derived.ProofKit
import Derived.OpenShut
import Derived.ShutString
import Derived.ChangeOld
import Derived.Below
import Derived.Deep.Slices
import Derived.Deep.Fields
import Derived.ChangeSame
import Derived.Lib.SmallJoins
namespace Go.Proofs.Ythbjnalcfdfgkaa
open Go.Joins Go.ChangeShapes Go.WideShapes Go.ChangeAt Go.RowKit Go.Deep
set_option maxHeartbeats 400000
set_option maxRecDepth 100000
theorem four_open {H : Type} {enc : TypeId × Value → H} {W : World} {base : Nat} {v : Value} {d : DataW H} {ps : List MemPlace} (hv : Value.okWide Try.prog W .any base 29 v) (h : DataW.Trod enc Try.prog W 0 (fun _ => true) true 29 v d ps) :
    ∃ x y z u : Int, v = .agg #[.int .i64 x, .int .i64 y, .int .i64 z, .int .i64 u] := by
  obtain ⟨u0, u1, u2, u3, y0, y1, y2, y3, n, rfl, _, _, t0, t1, t2, t3⟩ := open_agg4 Try.underlying29 (by kernel_rfl) (by kernel_rfl) hv h
  obtain ⟨x, e0, _, _⟩ := DataW.trod_int Try.underlying3 t0
  obtain ⟨y, e1, _, _⟩ := DataW.trod_int Try.underlying3 t1
  obtain ⟨z, e2, _, _⟩ := DataW.trod_int Try.underlying3 t2
  obtain ⟨u, e3, _, _⟩ := DataW.trod_int Try.underlying3 t3
  simp only [List.cons.injEq, and_true] at e0 e1 e2 e3
  subst e0
  subst e1
  subst e2
  subst e3
  exact ⟨x, y, z, u, rfl⟩
theorem even_nat (a b : Nat) (ha : a ≤ 1048576) (hb : b ≤ 1048576) (x y : Int) (w : World) (hx : x = (a : Int)) (hy : y = (b : Int)) :
    Calls Try.prog 9 #[.int .i64 x, .int .i64 y] w fun e w' => e = .returned (.bool (ev a b)) ∧ w = w' := by
  have h := even_any x y w
  rw [hx, hy, hd_nat a ha, hd_nat b hb] at h
  rw [hx, hy]
  exact h
theorem single_nat (a b c : Nat) (ha : a ≤ 1048576) (hb : b ≤ 1048576) (hc : c ≤ 1048576) (x y z : Int) (w : World) (hx : x = (a : Int)) (hy : y = (b : Int)) (hz : z = (c : Int)) :
    Calls Try.prog 11 #[.int .i64 x, .int .i64 y, .int .i64 z] w fun e w' => e = .returned (.bool (ev a b && ev (a + b + 1) c)) ∧ w = w' := by
  have h := single_any x y z w
  rw [hx, hy, hz, hd_nat a ha, hd_nat b hb, hd_nat c hc] at h
  rw [hx, hy, hz]
  exact h
/-- which one of four -/
def nth (x y z u : Int) : Nat → Int
  | 0 => x
  | 1 => y
  | 2 => z
  | _ => u
theorem run_index4 (x y z u : Int) (j : Nat) (hj : j < 4) (w : World) :
    (Instr.index 30 (.agg #[.int .i64 x, .int .i64 y, .int .i64 z, .int .i64 u]) (.int .i64 (j : Int))).run Try.prog w = .ok (.int .i64 (nth x y z u j)) w := by
  have u30 := Try.underlying30
  have a3 := Try.isAgg3
  have hz : Try.t3.size = 1 := by kernel_rfl
  obtain rfl | rfl | rfl | rfl : j = 0 ∨ j = 1 ∨ j = 2 ∨ j = 3 := by omega
  all_goals simp [Instr.index, run_underlying u30, Go.sizeOf, asIntOf, part, a3, hz, go_sem, nth]
end Go.Proofs.Ythbjnalcfdfgkaa
