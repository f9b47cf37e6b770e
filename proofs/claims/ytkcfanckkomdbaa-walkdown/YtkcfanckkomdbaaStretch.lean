/-
  A stretch of a sorted list is what lies between two places. No program.
-/
import Derived.Test.YtkcfanckkomdbaaCuts
import Derived.Test.YtkcfanckkomdbaaPlaces
namespace Go.Proofs.Ytkcfanckkomdbaa
/-- the place behind a stretch -/
def upper (M : List Pr) (t : List UInt8) (cl : Bool) : Nat := if cl = true then rank M t else M.length
theorem upper_le (M : List Pr) (t : List UInt8) (cl : Bool) : upper M t cl ≤ M.length := by
  unfold upper
  split
  · exact rank_le M t
  · exact Nat.le_refl _
theorem oth_drop {M : List Pr} (h : srt M) (f : List UInt8) : oth M f = M.drop (rank M f) := by
  have e : List.drop (lts M f).length (lts M f ++ oth M f) = oth M f := by simp
  rw [lts_oth h f, ← rank_lts M f] at e
  exact e.symm
theorem lts_take {M : List Pr} (h : srt M) (f : List UInt8) : lts M f = M.take (rank M f) := by
  have e : List.take (lts M f).length (lts M f ++ oth M f) = lts M f := by simp
  rw [lts_oth h f, ← rank_lts M f] at e
  exact e.symm
theorem rank_mono (M : List Pr) {f t : List UInt8} (h : ¬ cmp f t < 0) : rank M t ≤ rank M f := by
  unfold rank
  refine List.countP_mono_left fun x _ hx => ?_
  have hx' : cmp x.1 t < 0 := by simpa using hx
  simp only [decide_eq_true_eq]
  rcases Int.lt_or_le (cmp x.1 f) 0 with e | e
  · exact e
  · exact absurd (cmp_between e hx') h
theorem ins_places {M : List Pr} (h : srt M) (f t : List UInt8) (cl : Bool) : (ins M f t cl).length = upper M t cl - rank M f ∧ ∀ j : Nat, j < upper M t cl - rank M f → nth (ins M f t cl) (j : Int) = nth M ((rank M f + j : Nat) : Int) := by
  have key : ∀ k, ins M f t cl = (M.drop (rank M f)).take k → (ins M f t cl).length = upper M t cl - rank M f → (ins M f t cl).length = upper M t cl - rank M f ∧ ∀ j : Nat, j < upper M t cl - rank M f → nth (ins M f t cl) (j : Int) = nth M ((rank M f + j : Nat) : Int) := by
    intro k hk hl
    refine ⟨hl, fun j hj => ?_⟩
    rw [← hl] at hj
    rw [nth_nat, nth_nat]
    have hjk : j < k := by rw [hk] at hj; simp at hj; omega
    rw [hk, List.getElem?_take_of_lt hjk, List.getElem?_drop]
  cases cl with
  | false =>
    have e : ins M f t false = M.drop (rank M f) := by rw [ins_open, oth_drop h]
    have el : (ins M f t false).length = M.length - rank M f := by rw [e]; simp
    refine key (M.length) ?_ ?_
    · rw [e, List.take_of_length_le (by simp)]
    · rw [el]; simp [upper]
  | true =>
    have e : ins M f t true = (M.drop (rank M f)).take (rank (M.drop (rank M f)) t) := by rw [ins_closed, lts_take (srt_oth h f), oth_drop h]
    refine key _ e ?_
    simp only [upper, if_true]
    by_cases hc : cmp f t < 0
    · have := ins_count (t := t) h hc
      omega
    · rw [ins_empty M hc]
      have := rank_mono M hc
      simp
      omega
end Go.Proofs.Ytkcfanckkomdbaa
