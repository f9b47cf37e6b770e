/-
  What the statements of layer 19 stand on: a trie of a map's entries by a table, one pair more at a time.
-/
import Derived.Test.YtmbdimonfdncpaaGreatDoorGFine
import Derived.Test.YtmbdimonfdncpaaGreatDoorFRef
import Derived.Test.YtmbdimonfdncpaaGreatDoorSames
namespace Go.Proofs.YtmbdimonfdncpaaGreatDoor
open Go.RowKit
set_option maxHeartbeats 4000000
set_option maxRecDepth 100000
attribute [local irreducible] Bt.lst
theorem tinyP_all {L : List Pr} (h : tinyP L = true) : ∀ p ∈ L, p.1.length ≤ 100 ∧ p.2.length ≤ 100 := fun p hp => by
  have := List.all_eq_true.1 h p hp
  simpa using this
theorem fineP_all {t most : Nat} {L : List Pr} (h : fineP t L most = true) : t ≤ 200 ∧ L.length ≤ most ∧ ∀ p ∈ L, p.1.length ≤ 100 ∧ p.2.length ≤ 100 := by
  rw [fineP, Bool.and_eq_true, Bool.and_eq_true, decide_eq_true_eq, decide_eq_true_eq] at h
  exact ⟨h.1, h.2.1, tinyP_all h.2.2⟩
/-- what some pairs come to: sorted, small, few -/
theorem come_good {L : List Pr} (h : ∀ p ∈ L, p.1.length ≤ 100 ∧ p.2.length ≤ 100) (hl : L.length ≤ 60) (j : Nat) : srt (come (L.take j)) ∧ (∀ p ∈ come (L.take j), p.1.length ≤ 100 ∧ p.2.length ≤ 100) ∧ (come (L.take j)).length ≤ 60 := by
  refine ⟨srt_come _, fun p hp => h p (List.mem_of_mem_take (come_sub _ _ hp)), ?_⟩
  have := come_length (L.take j)
  rw [List.length_take] at this
  omega
theorem fits_of {M : List Pr} (h : ∀ p ∈ M, p.1.length ≤ 100 ∧ p.2.length ≤ 100) : Fits M := fun p hp => by
  have := h p hp
  omega
theorem good_of {T : List Nat} {M : List Pr} (hz : ∀ z ∈ T, z < 18446744073709551616) (hs : srt M) (hf : ∀ p ∈ M, p.1.length ≤ 100 ∧ p.2.length ≤ 100) (hl : M.length ≤ 100) : Good 0 (entE (hashT T) M) :=
  entE_good hs (fits_of hf) hl (hashT_lt hz)
/-- Put at the trie of a map -/
theorem putn_any {F : Nat → Prop} {w : World} {m ka va : Option Addr} {T : List Nat} {M : List Pr} {p : Pr} {nv : Value} {vv c : Nat} (kc vc : Nat) (hF : Fut F w) (hT : Tab w) (hz : ∀ z ∈ T, z < 18446744073709551616) (hs : srt M) (hf : ∀ p ∈ M, p.1.length ≤ 100 ∧ p.2.length ≤ 100) (hl : M.length ≤ 98)
    (hp : p.1.length ≤ 100 ∧ p.2.length ≤ 100) (hN : Nde F w (layL 13 0 (entE (hashT T) M)) nv) (hm : Met w m vv c) (hX : ∀ a, m = some a → ¬ F a.block) (hk : Bts w ka p.1) (hv : Bts w va p.2) (hvv : vv ≤ 800000) (hc : c ≤ vv) :
    Calls Tryz.prog 8 #[nv, .int .u64 (hashT T p.1 : Int), .agg #[.slice ka p.1.length kc, .slice va p.2.length vc], .pointer m] w fun r w' =>
      ∃ v' vv' c', r = .returned (.tuple #[v', .bool (!has M p.1)]) ∧ Nde F w' (layL 13 0 (entE (hashT T) (put M p))) v' ∧ Met w' m vv' c' ∧ Only m w w' ∧ Seen ((layL 13 0 (entE (hashT T) M)).endAt (hashT T p.1) 0) (hashT T p.1) (vv + (layL 13 0 (entE (hashT T) M)).deep (hashT T p.1) 0) c vv' c' := by
  have hG := good_of hz hs hf (by omega : M.length ≤ 100)
  have he : (hashT T p.1, p).1 < 18446744073709551616 ∧ p.1.length ≤ 1000 ∧ p.2.length ≤ 1000 := ⟨hashT_lt hz _, by omega, by omega⟩
  have hel : (entE (hashT T) M).length ≤ 99 := by simp only [entE, List.length_map]; omega
  have h := put19_any (e := (hashT T p.1, p)) kc vc hF hT hN hG hel (entE_suits p) he hm hX hk hv hvv hc
  rw [lay_put hs p (putE_good hG he hel fun _ _ i hi => absurd hi (Nat.not_lt_zero i)), entE_has] at h
  exact h
/-- the document's layout of a map's entries -/
theorem layn_any {T : List Nat} {M : List Pr} (hz : ∀ z ∈ T, z < 18446744073709551616) (hs : srt M) (hf : ∀ p ∈ M, p.1.length ≤ 100 ∧ p.2.length ≤ 100) (hl : M.length ≤ 100) {w : World} {A : Option Addr} (c : Nat) (h : Res w A (entE (hashT T) M)) :
    Calls Tryz.prog 12 #[.slice A M.length c, .int .i64 0] w fun e w' => ∃ r, e = .returned (RN.agg r (layL 13 0 (entE (hashT T) M))) ∧ Mde (fun _ => True) w' (layL 13 0 (entE (hashT T) M)) r ∧ Below w.heap.size w w' := by
  have k := layR_all 13 0 rfl w A (entE (hashT T) M) c h (good_of hz hs hf hl)
  rw [show (entE (hashT T) M).length = M.length by simp [entE]] at k
  exact k.mono fun e w' ⟨r, h1, h2, h3⟩ => ⟨r, h1, h2.mono fun _ _ _ => trivial, h3⟩
end Go.Proofs.YtmbdimonfdncpaaGreatDoor
