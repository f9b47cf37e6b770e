/-
  Contract of the reference's Come: entries whose keys stand in none behind.
-/
import Derived.Test.YtmbdimonfdncpaaGreatDoorLast
import Derived.Test.YtmbdimonfdncpaaGreatDoorRefz
namespace Go.Proofs.YtmbdimonfdncpaaGreatDoor
open Go.RowKit
set_option maxHeartbeats 2000000
set_option maxRecDepth 100000
/-- does the key at i stand in none from i + 1 to k? -/
def aloneB (L : List En) (i k : Nat) : Bool := decide (∀ t, t < k → i < t → keyA L t ≠ keyA L i)
theorem aloneB_start (L : List En) (i : Nat) : aloneB L i (i + 1) = true := decide_eq_true fun t h1 h2 => by omega
theorem aloneB_step {L : List En} {i k : Nat} (h : i < k) : aloneB L i (k + 1) = (aloneB L i k && decide (keyA L k ≠ keyA L i)) := by
  rw [Bool.eq_iff_iff, Bool.and_eq_true]
  simp only [aloneB, decide_eq_true_eq]
  refine ⟨fun hh => ⟨fun t h1 h2 => hh t (by omega) h2, hh k (by omega) h⟩, fun ⟨h1, h2⟩ t ht hi => ?_⟩
  rcases Nat.eq_or_lt_of_le (Nat.lt_succ_iff.1 ht) with rfl | ht
  · exact h2
  · exact h1 t ht hi
theorem comeE_alone {L : List En} {i : Nat} (h : i < L.length) : comeE (L.drop i) = if aloneB L i L.length = true then L[i] :: comeE (L.drop (i + 1)) else comeE (L.drop (i + 1)) := by
  have hm := mem_keys_drop L (L[i]).2.1 i
  rw [List.drop_eq_getElem_cons h, comeE]
  by_cases hk : aloneB L i L.length = true
  · rw [if_pos hk, if_neg]
    intro hin
    obtain ⟨t, h1, h2, h3⟩ := hm.1 hin
    exact (of_decide_eq_true hk) t h2 h1 (by rw [h3, keyA_at h])
  · rw [if_neg hk, if_pos]
    refine hm.2 (Classical.byContradiction fun hno => hk (decide_eq_true fun t h1 h2 h3 => hno ⟨t, h2, h1, by rw [h3, keyA_at h]⟩))
end Go.Proofs.YtmbdimonfdncpaaGreatDoor
