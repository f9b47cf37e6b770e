/-
  Lists of pairs whose keys are noughts, one longer than the other: how they lie in memory, and where they stop being a map.
-/
import Derived.Test.YtljnlahgfdenfaaSmall
namespace Go.Proofs.Ytljnlahgfdenfaa
open Go.RowKit
set_option maxHeartbeats 400000
set_option maxRecDepth 100000
/-- k pairs: the key of the i-th has i noughts -/
def zl (k : Nat) : List Pr := (List.range k).map fun i => (List.replicate i 0, [])
theorem zl_length (k : Nat) : (zl k).length = k := by simp [zl]
theorem zl_at {k i : Nat} (_ : i < k) (h2 : i < (zl k).length) : (zl k)[i] = (List.replicate i 0, []) := by simp [zl]
theorem zl_succ (k : Nat) : zl (k + 1) = zl k ++ [(List.replicate k 0, [])] := by simp [zl, List.range_succ]
theorem cmp_zeros : ∀ a b : Nat, b < a → cmp (List.replicate a 0) (List.replicate b 0) = 1
  | 0, _, h => by omega
  | a + 1, 0, _ => by rw [List.replicate_succ]; rfl
  | a + 1, b + 1, h => by
    rw [List.replicate_succ, List.replicate_succ, cmp_same]
    exact cmp_zeros a b (by omega)
theorem pat_zl {k i : Nat} {p : Pr} (h : i < k) : pat (zl k ++ [p]) i = (List.replicate i 0, []) := by
  rw [pat_at (by simp [zl_length]; omega), List.getElem_append_left (by rw [zl_length]; exact h), zl_at h]
theorem pat_last (k : Nat) (p : Pr) : pat (zl k ++ [p]) k = p := by
  rw [pat_at (by simp [zl_length]), List.getElem_append_right (by rw [zl_length]; exact Nat.le_refl _)]
  simp
theorem flt_low {k i : Nat} {p : Pr} (h : i < k) (hk : k ≤ 5) : flt (zl k ++ [p]) i = 0 := by
  unfold flt
  rw [pat_zl h, if_neg (by simp; omega)]
  by_cases h0 : i = 0
  · rw [if_pos h0]
  · rw [if_neg h0, pat_zl (by omega), if_neg (by rw [cmp_zeros _ _ (by omega)]; decide), if_neg (by rw [cmp_zeros _ _ (by omega)]; decide)]
theorem flt_high {k kz vz : Nat} (hk : k ≤ 5) (hkz : k ≤ kz) : flt (zl k ++ [(List.replicate kz 0, List.replicate vz 0)]) k = if 65536 < kz ∨ 65536 < vz then 4 else 0 := by
  unfold flt
  rw [pat_last]
  simp only [List.length_replicate]
  by_cases hb : 65536 < kz ∨ 65536 < vz
  · rw [if_pos hb, if_pos hb]
  · rw [if_neg hb, if_neg hb]
    by_cases h0 : k = 0
    · rw [if_pos h0]
    · rw [if_neg h0, pat_zl (by omega), if_neg (by rw [cmp_zeros _ _ (by omega)]; decide), if_neg (by rw [cmp_zeros _ _ (by omega)]; decide)]
/-- the cells of such a list, its bytes in rows of their own -/
def ZRow (w : World) (xs : List Value) (j : Nat) : Prop := xs.length = j * 2 ∧ ∀ i, i < j → ∃ b, xs[i * 2]? = some (.slice (some ⟨b, 0, none⟩) i i) ∧ xs[i * 2 + 1]? = some (.slice none 0 0) ∧ w.heap[b]? = some (.cells (Lib.byteCells (List.replicate i 0)).toArray 5 (0, 0))
theorem ZRow.nil (w : World) : ZRow w [] 0 := ⟨rfl, fun i h => by omega⟩
/-- a row of pairs that grows leaves rows of bytes alone -/
theorem bytes_kept {w w' : World} {B n b : Nat} {v : Value} {xs : List Value} {C : Array Value} {fz : Nat × Nat} (h : w.ownsRow B 37 2 v n xs) (hg : w.grownBy w' v.ownBlock) (hb : w.heap[b]? = some (.cells C 5 fz)) : w'.heap[b]? = some (.cells C 5 fz) := by
  rw [hg.block b (Array.getElem?_eq_some_iff.1 hb).1 ?_, hb]
  intro e
  rcases h.2 with ⟨rfl, _⟩ | ⟨g, cap, cur, rfl, _, hh, _⟩
  · simp [Value.ownBlock] at e
  · simp only [Value.ownBlock, Option.some.injEq] at e
    subst e
    rw [hb] at hh
    injection hh with hh
    injection hh with _ hh
    cases hh
theorem ZRow.kept {w w' : World} {B n j : Nat} {v : Value} {xs ys : List Value} (hz : ZRow w ys j) (h : w.ownsRow B 37 2 v n xs) (hg : w.grownBy w' v.ownBlock) : ZRow w' ys j := by
  refine ⟨hz.1, fun i hi => ?_⟩
  obtain ⟨b, h1, h2, h3⟩ := hz.2 i hi
  exact ⟨b, h1, h2, bytes_kept h hg h3⟩
theorem ZRow.alloc {w : World} {xs : List Value} {j : Nat} (hz : ZRow w xs j) (o : Obj) : ZRow (w.alloc o) xs j := by
  refine ⟨hz.1, fun i hi => ?_⟩
  obtain ⟨b, h1, h2, h3⟩ := hz.2 i hi
  exact ⟨b, h1, h2, keep_at h3 o⟩
theorem ZRow.snoc {w : World} {xs : List Value} {j b : Nat} (hz : ZRow w xs j) (hb : w.heap[b]? = some (.cells (Lib.byteCells (List.replicate j 0)).toArray 5 (0, 0))) : ZRow w (xs ++ [.slice (some ⟨b, 0, none⟩) j j, .slice none 0 0]) (j + 1) := by
  have hl := hz.1
  refine ⟨by simp [hl]; omega, fun i hi => ?_⟩
  rcases Nat.lt_or_ge i j with g | g
  · obtain ⟨b, h1, h2, h3⟩ := hz.2 i g
    refine ⟨b, ?_, ?_, h3⟩
    · rw [List.getElem?_append_left (by omega)]; exact h1
    · rw [List.getElem?_append_left (by omega)]; exact h2
  · obtain rfl : i = j := by omega
    refine ⟨b, ?_, ?_, hb⟩
    · rw [List.getElem?_append_right (by omega), hl, Nat.sub_self]; rfl
    · rw [List.getElem?_append_right (by omega), hl, show i * 2 + 1 - i * 2 = 1 by omega]; rfl
theorem ZRow.prow {w : World} {xs : List Value} {j : Nat} (hz : ZRow w xs j) : Prow w xs (zl j) := by
  refine ⟨by rw [zl_length]; exact hz.1, fun i hi => ?_⟩
  have hi2 : i < j := by rwa [zl_length] at hi
  obtain ⟨b, h1, h2, h3⟩ := hz.2 i hi2
  rw [zl_at hi2]
  exact ⟨some ⟨b, 0, none⟩, i, none, 0, by rw [List.length_replicate]; exact h1, h2, bts_row h3, .inl rfl⟩
theorem three (w : World) (o1 o2 o3 : Obj) : (((w.alloc o1).alloc o2).alloc o3).drew.heap[w.heap.size]? = some o1 ∧ (((w.alloc o1).alloc o2).alloc o3).drew.heap[w.heap.size + 1]? = some o2 ∧ (((w.alloc o1).alloc o2).alloc o3).drew.heap[w.heap.size + 1 + 1]? = some o3 ∧ Below w.heap.size w (((w.alloc o1).alloc o2).alloc o3).drew :=
  ⟨keep_at (keep_at (new_at o1 rfl) o2) o3, keep_at (new_at o2 (by simp)) o3, new_at o3 (by simp), ((((Below.refl _ _).alloc (Nat.le_refl _) _).alloc (by simp) _).alloc (by simp; omega) _).drew⟩
end Go.Proofs.Ytljnlahgfdenfaa
