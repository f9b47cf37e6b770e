/-
  The second order of putting: a map's pairs from some place on, backwards; what they come to is the map.
-/
import Derived.Test.YtmbdimonfdncpaaGreatDoorGLaws
import Derived.Test.YtmbdimonfdncpaaGreatDoorSelf
import Derived.Lib.ConvBytes
namespace Go.Proofs.YtmbdimonfdncpaaGreatDoor
open Go.RowKit
set_option maxHeartbeats 400000
set_option maxRecDepth 100000
/-- the place of the pair that is put as number k -/
def turnAt (n z k : Nat) : Nat := (n - 1 - k + z) % n
theorem turnAt_lt {n : Nat} (h : 0 < n) (z k : Nat) : turnAt n z k < n := Nat.mod_lt _ h
theorem turnAt_inj {n z a b : Nat} (ha : a < n) (hb : b < n) (h : turnAt n z a = turnAt n z b) : a = b := by
  have h1 := Nat.sub_mod_eq_zero_of_mod_eq h
  have h2 := Nat.sub_mod_eq_zero_of_mod_eq h.symm
  rw [Nat.mod_eq_of_lt (by omega)] at h1 h2
  omega
theorem turnAt_all {n t : Nat} (z : Nat) (h : t < n) : ∃ k, k < n ∧ turnAt n z k = t := by
  refine ⟨(n - 1 + z - t) % n, Nat.mod_lt _ (by omega), ?_⟩
  have h1 := Nat.div_add_mod (n - 1 + z - t) n
  have h2 := Nat.mod_lt (n - 1 + z - t) (show 0 < n by omega)
  unfold turnAt
  generalize hk : (n - 1 + z - t) % n = k at h1 h2 ⊢
  generalize hc : (n - 1 + z - t) / n = c at h1
  have e : n - 1 - k + z = t + n * c := by
    generalize n * c = d at h1 ⊢
    omega
  rw [e, Nat.add_mul_mod_self_left, Nat.mod_eq_of_lt h]
def turn (M : List Pr) (z : Nat) : List Pr := (List.range M.length).map fun k => M.getD (turnAt M.length z k) ([], [])
theorem turn_len (M : List Pr) (z : Nat) : (turn M z).length = M.length := by simp [turn]
theorem turn_get {M : List Pr} {z i : Nat} (h : i < (turn M z).length) (h2 : turnAt M.length z i < M.length) : (turn M z)[i] = M[turnAt M.length z i] := by
  simp [turn, List.getD_eq_getElem?_getD, List.getElem?_eq_getElem h2]
theorem turn_mem (M : List Pr) (z : Nat) (q : Pr) : q ∈ turn M z ↔ q ∈ M := by
  refine ⟨fun h => ?_, fun h => ?_⟩
  · obtain ⟨i, hi, rfl⟩ := List.getElem_of_mem h
    have hi2 := hi
    rw [turn_len] at hi2
    rw [turn_get hi (turnAt_lt (by omega) z i)]
    exact List.getElem_mem _
  · obtain ⟨t, ht, rfl⟩ := List.getElem_of_mem h
    obtain ⟨k, hk, e⟩ := turnAt_all z ht
    have hk2 : k < (turn M z).length := by rw [turn_len]; exact hk
    have e2 := turn_get hk2 (by rw [e]; exact ht)
    simp only [e] at e2
    rw [← e2]
    exact List.getElem_mem _
theorem turn_come {M : List Pr} (z : Nat) (hs : srt M) : come (turn M z) = M := by
  have hnod : ((turn M z).map fun p => p.1).Nodup := by
    rw [List.nodup_iff_pairwise_ne, List.pairwise_iff_getElem]
    intro i j hi hj hij e
    simp only [List.length_map] at hi hj
    simp only [List.getElem_map] at e
    have hi2 := hi
    have hj2 := hj
    rw [turn_len] at hi2 hj2
    have l1 := turnAt_lt (show 0 < M.length by omega) z i
    have l2 := turnAt_lt (show 0 < M.length by omega) z j
    rw [turn_get hi l1, turn_get hj l2] at e
    have hp := List.pairwise_iff_getElem.1 hs
    rcases Nat.lt_trichotomy (turnAt M.length z i) (turnAt M.length z j) with h | h | h
    · exact cmp_ne (hp _ _ l1 l2 h) e
    · have := turnAt_inj hi2 hj2 h; omega
    · exact cmp_ne (hp _ _ l2 l1 h) e.symm
  exact srt_ext _ _ (srt_come _) hs fun q => (come_all hnod q).trans (turn_mem M z q)
theorem turn_small {M : List Pr} (z : Nat) (h : ∀ p ∈ M, p.1.length ≤ 100 ∧ p.2.length ≤ 100) : ∀ p ∈ turn M z, p.1.length ≤ 100 ∧ p.2.length ≤ 100 := fun p hp => h p ((turn_mem M z p).1 hp)
/-- the trie of the first of some pairs -/
def trieOf (T : List Nat) (Q : List Pr) (i : Nat) : Nd := layL 13 0 (entE (hashT T) (come (Q.take i)))
/-- one more of them is put -/
theorem putq_any {w : World} {ka va : Option Addr} {T : List Nat} {Q : List Pr} {nv : Value} (kc vc : Nat) (hT : Tab w) (hz : ∀ z ∈ T, z < 18446744073709551616) (hf : ∀ p ∈ Q, p.1.length ≤ 100 ∧ p.2.length ≤ 100) (hl : Q.length ≤ 60) {i : Nat} (hi : i < Q.length)
    (hN : Nde (fun _ => True) w (trieOf T Q i) nv) (hk : Bts w ka (Q[i]).1) (hv : Bts w va (Q[i]).2) :
    Calls Tryz.prog 8 #[nv, .int .u64 (hashT T (Q[i]).1 : Int), .agg #[.slice ka (Q[i]).1.length kc, .slice va (Q[i]).2.length vc], .pointer none] w fun r w' =>
      ∃ v' bb, r = .returned (.tuple #[v', .bool bb]) ∧ Nde (fun _ => True) w' (trieOf T Q (i + 1)) v' ∧ Below w.heap.size w w' := by
  have hg := come_good hf hl i
  have h := putn_any (m := none) (vv := 0) (c := 0) kc vc (fun _ _ => trivial) hT hz hg.1 hg.2.1 (by omega) (hf _ (List.getElem_mem hi)) hN (.inl rfl) (fun a e => by cases e) hk hv (by decide) (by decide)
  rw [← come_step hi] at h
  exact h.mono fun e w' ⟨v', _, _, h1, h2, _, h4, _⟩ => ⟨v', _, h1, h2, h4.nil⟩
/-- tries of one map are the same -/
theorem selfn_any {T : List Nat} {M : List Pr} (hz : ∀ z ∈ T, z < 18446744073709551616) (hs : srt M) (hf : ∀ p ∈ M, p.1.length ≤ 100 ∧ p.2.length ≤ 100) (hl : M.length ≤ 100) {w : World} {v u : Value} (hT : Tab w) (h : Nde (fun _ => True) w (layL 13 0 (entE (hashT T) M)) v) (h2 : Nde (fun _ => True) w (layL 13 0 (entE (hashT T) M)) u) :
    Calls Tryz.prog 10 #[v, u] w fun e w' => e = .returned (.bool true) ∧ Below w.heap.size w w' := by
  have ho := (lay_laid 13 0 _ rfl (good_of hz hs hf hl)).ok
  have k := self_node _ _ _ w _ v u (.inr rfl) h h2 ho ho hT
  rw [same_refl] at k
  exact k
theorem bytes_below (w : World) (s : ByteArray) : Below w.heap.size w (Lib.bytesWorld w 5 s) := ⟨rfl, rfl, rfl, by rw [Lib.bytesWorld_size]; omega, fun k hk => Lib.bytesWorld_at_old w 5 s k hk⟩
theorem bytes_bts (w : World) (s : ByteArray) : Bts (Lib.bytesWorld w 5 s) (some ⟨w.heap.size, 0, none⟩) s.data.toList := by
  refine .inr ⟨_, 0, rfl, by rw [Lib.bytesWorld_size]; omega, fun i hi => ?_⟩
  have hi' : i < s.size := hi
  rw [Nat.zero_add, Lib.bytesWorld_cell _ _ _ _ hi']
  have hi2 : i < s.data.size := hi
  simp [List.getD_eq_getElem?_getD, Array.getElem?_eq_getElem hi2]
/-- bytes of a text: what is told, and the world behind it -/
theorem conv_fun (K : List UInt8) : ∃ (fa fc : World → Nat) (fw : World → World), (∀ W, (convert 9 27 (.string ⟨K.toArray⟩)).run Tryz.prog W = .ok (.slice (some ⟨fa W, 0, none⟩) K.length (fc W)) (fw W)) ∧ ∀ W, Below W.heap.size W (fw W) ∧ Bts (fw W) (some ⟨fa W, 0, none⟩) K :=
  ⟨_, _, _, fun W => Lib.run_convert_string_bytes (P := Tryz.prog) W 9 27 5 ⟨K.toArray⟩ Tryz.underlying9 Tryz.underlying27 Tryz.underlying5, fun W => ⟨bytes_below W ⟨K.toArray⟩, bytes_bts W ⟨K.toArray⟩⟩⟩
end Go.Proofs.YtmbdimonfdncpaaGreatDoor
