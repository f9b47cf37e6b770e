/-
  Contracts of lasting (a map of the last places), pairsOf and allHave.
-/
import Derived.Test.YtmbdimonfdncpaaGreatDoorEnts
import Derived.Test.YtmbdimonfdncpaaGreatDoorMaking
import Derived.Maps.OwnOps
import Derived.Maps.OwnSet
namespace Go.Proofs.YtmbdimonfdncpaaGreatDoor
open Go.RowKit Go.WideMaps
set_option maxHeartbeats 1000000
set_option maxRecDepth 100000
theorem klaw : Go.Maps.Keyed Tryz.prog 9 := Go.Maps.string_keyed Tryz.underlying9
theorem zero3 (w : World) : (zeroValue 3).run Tryz.prog w = .ok (.int .i64 0) w := by kernel_rfl
/-- the key at a place -/
def keyA (L : List En) (i : Nat) : List UInt8 := (L.getD i (0, ([], []))).2.1
theorem keyA_at {L : List En} {i : Nat} (h : i < L.length) : keyA L i = (L[i]).2.1 := by rw [keyA, List.getD_eq_getElem?_getD, List.getElem?_eq_getElem h]; rfl
/-- the map of the last places, after some entries -/
def mapL (L : List En) : Nat → DataW Unit
  | 0 => .map []
  | n + 1 => (mapL L n).put (.string (keyA L n)) (.lit (.int .i64 (n : Int)))
theorem mapL_map (L : List En) : ∀ n, Go.Maps.IsMap (mapL L n)
  | 0 => ⟨[], rfl⟩
  | n + 1 => by
    obtain ⟨es, h⟩ := mapL_map L n
    rw [mapL, h]
    exact ⟨_, rfl⟩
/-- the last place of a key among some entries -/
def lastI (L : List En) (k : List UInt8) : Nat → Nat
  | 0 => 0
  | n + 1 => if keyA L n = k then n else lastI L k n
theorem mapL_at (L : List En) (k : List UInt8) (z : DataW Unit) : ∀ n, (∃ i, i < n ∧ keyA L i = k) → (mapL L n).atKey (.string k) z = .lit (.int .i64 (lastI L k n : Int))
  | 0, ⟨i, h, _⟩ => absurd h (Nat.not_lt_zero i)
  | n + 1, ⟨i, h, hi⟩ => by
    rw [mapL, lastI]
    by_cases hk : keyA L n = k
    · rw [if_pos hk, hk, Go.Maps.atKey_put_same (mapL_map L n) (show WideAt.IsKeyLit (.string k) from trivial)]
    · rw [if_neg hk, Go.Maps.atKey_put_other (fun e => hk (by injection e with e; exact e.symm))]
      refine mapL_at L k z n ⟨i, ?_, hi⟩
      rcases Nat.eq_or_lt_of_le (Nat.lt_succ_iff.1 h) with rfl | h
      · exact absurd hi hk
      · exact h
theorem lastI_iff (L : List En) (k : List UInt8) (j : Nat) (hj : keyA L j = k) : ∀ n, j < n → (lastI L k n = j ↔ ∀ i, j < i → i < n → keyA L i ≠ k)
  | 0, h => absurd h (Nat.not_lt_zero j)
  | n + 1, h => by
    rw [lastI]
    by_cases hk : keyA L n = k
    · rw [if_pos hk]
      refine ⟨fun e i h1 h2 => by omega, fun hall => ?_⟩
      rcases Nat.eq_or_lt_of_le (Nat.lt_succ_iff.1 h) with h | h
      · exact h.symm
      · exact absurd hk (hall n h (by omega))
    · rw [if_neg hk]
      have hjn : j < n := by
        rcases Nat.eq_or_lt_of_le (Nat.lt_succ_iff.1 h) with rfl | h
        · exact absurd hj hk
        · exact h
      rw [lastI_iff L k j hj n hjn]
      refine ⟨fun hall i h1 h2 => ?_, fun hall i h1 h2 => hall i h1 (by omega)⟩
      rcases Nat.eq_or_lt_of_le (Nat.lt_succ_iff.1 h2) with rfl | h2
      · exact hk
      · exact hall i h1 h2
theorem mem_keys_drop (L : List En) (k : List UInt8) (j : Nat) : k ∈ ekeys (L.drop (j + 1)) ↔ ∃ i, j < i ∧ i < L.length ∧ keyA L i = k := by
  unfold ekeys
  rw [List.mem_map]
  constructor
  · rintro ⟨e, he, rfl⟩
    obtain ⟨i, hi, rfl⟩ := List.getElem_of_mem he
    have hi2 : j + 1 + i < L.length := by simpa [Nat.lt_sub_iff_add_lt, Nat.add_comm] using hi
    refine ⟨j + 1 + i, by omega, hi2, ?_⟩
    rw [keyA_at hi2, List.getElem_drop]
  · rintro ⟨i, h1, h2, rfl⟩
    refine ⟨L[i], ?_, (keyA_at h2).symm⟩
    rw [List.mem_iff_getElem]
    refine ⟨i - (j + 1), by rw [List.length_drop]; omega, ?_⟩
    rw [List.getElem_drop]
    congr 1
    omega
theorem comeE_step {L : List En} {j : Nat} (h : j < L.length) : comeE (L.drop j) = if lastI L (L[j]).2.1 L.length = j then L[j] :: comeE (L.drop (j + 1)) else comeE (L.drop (j + 1)) := by
  have hiff := lastI_iff L (L[j]).2.1 j (keyA_at h) L.length h
  have hm := mem_keys_drop L (L[j]).2.1 j
  rw [List.drop_eq_getElem_cons h, comeE]
  by_cases hk : lastI L (L[j]).2.1 L.length = j
  · rw [if_pos hk, if_neg]
    intro hin
    obtain ⟨i, h1, h2, h3⟩ := hm.1 hin
    exact hiff.1 hk i h1 h2 h3
  · rw [if_neg hk, if_pos]
    refine hm.2 (Classical.byContradiction fun hno => hk (hiff.2 fun i h1 h2 h3 => hno ⟨i, h1, h2, h3⟩))
theorem owns_size {w : World} {b n : Nat} {D : DataW Unit} (h : w.ownsMap Tryz.prog 9 (plainElem Tryz.prog 3) b n D) : Maps.size D ≤ n := by
  obtain ⟨es, clock, _, _, h1, rfl⟩ := h
  rw [Go.Maps.size_eq, length_sorted]
  simpa using h1
end Go.Proofs.YtmbdimonfdncpaaGreatDoor
