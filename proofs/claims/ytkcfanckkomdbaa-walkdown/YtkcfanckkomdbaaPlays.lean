/-
  What calls come to, one by one; where a tree and its model have come to.
-/
import Derived.Test.YtkcfanckkomdbaaStep
namespace Go.Proofs.Ytkcfanckkomdbaa
open Go.RowKit
/-- what a map comes to by calls -/
def plays (L : List Opn) : List Pr := L.foldl play []
theorem plays_step {L : List Opn} {j : Nat} (h : j < L.length) : plays (L.take (j + 1)) = play (plays (L.take j)) L[j] := by
  unfold plays
  rw [List.take_succ_eq_append_getElem h, List.foldl_append]
  rfl
theorem plays_ok : ∀ (L : List Opn) (M : List Pr), srt M → (∀ x ∈ M, x.1.length ≤ 100 ∧ x.2.length ≤ 100) → (∀ o ∈ L, o.2.1.length ≤ 100 ∧ o.2.2.length ≤ 100) → srt (L.foldl play M) ∧ (∀ x ∈ L.foldl play M, x.1.length ≤ 100 ∧ x.2.length ≤ 100) ∧ (L.foldl play M).length ≤ M.length + L.length
  | [], M, h1, h2, _ => ⟨h1, h2, by simp⟩
  | o :: L, M, h1, h2, h3 => by
    obtain ⟨a, b, c⟩ := plays_ok L (play M o) (srt_play o h1) (fits_play h2 (h3 o (by simp))) (fun o' h => h3 o' (by simp [h]))
    refine ⟨a, b, ?_⟩
    have := play_length M o
    simp only [List.foldl_cons, List.length_cons]
    omega
/-- where the calls have come to -/
structure At (w : World) (M : List Pr) (p A : Option Addr) (wr : World) (t : Tr) : Prop where
  tre : Tre (fun _ => True) wr t p
  ev : t.even
  list : t.list = M
  rcs : Rcs wr A M
  bel : Below w.heap.size w wr
theorem plays_all {L : List Opn} {most : Nat} (hl : L.length ≤ most) (ht : tinyO L = true) (j : Nat) : srt (plays (L.take j)) ∧ (∀ x ∈ plays (L.take j), x.1.length ≤ 100 ∧ x.2.length ≤ 100) ∧ (plays (L.take j)).length ≤ most := by
  obtain ⟨a, b, c⟩ := plays_ok (L.take j) [] List.Pairwise.nil (by simp) (fun o ho => tinyO_all ht o (List.mem_of_mem_take ho))
  refine ⟨a, b, Nat.le_trans c ?_⟩
  simp
  omega
theorem box3 (w : World) (x y z : Value) : Below w.heap.size w (w.alloc (.cells #[x, y, z] 59)) := (Below.refl _ _).alloc (Nat.le_refl _) _
end Go.Proofs.Ytkcfanckkomdbaa
