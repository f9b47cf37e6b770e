/-
  What small lists are, and that a sorted list of small pairs is a map.
-/
import Derived.Test.YtljnlahgfdenfaaOpen
import Derived.Test.YtljnlahgfdenfaaSame
import Derived.Test.YtljnlahgfdenfaaRefs
import Derived.Test.YtljnlahgfdenfaaAwake
namespace Go.Proofs.Ytljnlahgfdenfaa
open Go.RowKit
theorem tiny_all {L : List Pr} (h : tiny L = true) : ∀ p ∈ L, p.1.length ≤ 100 ∧ p.2.length ≤ 100 := by
  intro p hp
  have := List.all_eq_true.1 h p hp
  simpa using this
theorem tiny_come {L : List Pr} (h : tiny L = true) : ∀ p ∈ come L, p.1.length ≤ 100 ∧ p.2.length ≤ 100 := fun p hp => tiny_all h p (come_sub L p hp)
theorem small_true {L : List Pr} {most : Nat} (h : (decide (L.length ≤ most) && tiny L) = true) : L.length ≤ most ∧ tiny L = true := by simpa using h
theorem flt_zero {M : List Pr} (hs : srt M) (ht : ∀ p ∈ M, p.1.length ≤ 100 ∧ p.2.length ≤ 100) (i : Nat) (hi : i < M.length) : flt M i = 0 := by
  have h := ht _ (List.getElem_mem hi)
  unfold flt
  rw [pat_at hi, if_neg (by omega)]
  by_cases h0 : i = 0
  · rw [if_pos h0]
  · have hi2 : i - 1 < M.length := by omega
    have hc := srt_at hs hi2 hi (by omega)
    have ht := cmp_turn (M[i]).1 (M[i - 1]).1
    rw [if_neg h0, pat_at hi2, if_neg (by omega), if_neg (by omega)]
/-- the whole of a sorted list of small pairs is a map -/
theorem map_all {w : World} {A : Option Addr} {M : List Pr} (ha : Pcs w A M) (c : Nat) (hlen : M.length ≤ 1000) (hs : srt M) (ht : ∀ p ∈ M, p.1.length ≤ 100 ∧ p.2.length ≤ 100) :
    Calls Try.prog 12 #[.slice A M.length c] w fun e w' => e = .returned (.tuple #[.int .i64 (M.length : Int), .int .i64 0]) ∧ Below w.heap.size w w' :=
  map_any ha c M.length 0 hlen (fun i hi => flt_zero hs ht i hi) (.inl ⟨rfl, rfl⟩)
end Go.Proofs.Ytljnlahgfdenfaa
