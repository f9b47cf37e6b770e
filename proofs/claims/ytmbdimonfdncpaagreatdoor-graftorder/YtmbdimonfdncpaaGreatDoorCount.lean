/-
  Contract of the law's count.
-/
import Derived.Test.YtmbdimonfdncpaaGreatDoorBranch
namespace Go.Proofs.YtmbdimonfdncpaaGreatDoor
open Go.RowKit
set_option maxHeartbeats 4000000
set_option maxRecDepth 100000
/-- how many children each has -/
def Nd.few : Nd → Prop
  | .bran _ k kid => k ≤ 1000 ∧ ∀ i, i < k → (kid i).few
  | _ => True
theorem Nd.ok_few : ∀ (x : Nd), x.ok → x.few
  | .none, _ => trivial
  | .leaf _ _, _ => trivial
  | .buck _ _, _ => trivial
  | .bran m k kid, h => ⟨by have := Bt.list_le m 32; have := h.2.2.1; omega, fun i hi => Nd.ok_few (kid i) (h.2.2.2 i hi).2⟩
theorem Nd.num_le {x : Nd} (h : x.ok) : x.num ≤ 32 := by
  cases x with
  | bran m k kid => have := Bt.list_le m 32; have := h.2.2.1; simp only [Nd.num]; omega
  | _ => exact Nat.zero_le _
end Go.Proofs.YtmbdimonfdncpaaGreatDoor
