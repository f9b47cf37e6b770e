/-
  What small lists are, and that a sorted list of small pairs is a map.
-/
import Derived.Test.YtfhnmmiakknilaaOpen
import Derived.Test.YtfhnmmiakknilaaRefs

namespace Go.Proofs.Ytfhnmmiakknilaa
open Go.RowKit
theorem tiny_all {L : List Pr} (h : tiny L = true) : ∀ p ∈ L, p.1.length ≤ 100 ∧ p.2.length ≤ 100 := by
  intro p hp
  have := List.all_eq_true.1 h p hp
  simpa using this
theorem tiny_come {L : List Pr} (h : tiny L = true) : ∀ p ∈ come L, p.1.length ≤ 100 ∧ p.2.length ≤ 100 := fun p hp => tiny_all h p (come_sub L p hp)
theorem small_true {L : List Pr} {most : Nat} (h : (decide (L.length ≤ most) && tiny L) = true) : L.length ≤ most ∧ tiny L = true := by simpa using h
end Go.Proofs.Ytfhnmmiakknilaa
