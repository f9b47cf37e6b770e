/-
  Contract of the reference's Come: entries whose keys stand in none behind.
-/
import Derived.Test.YtajanacbifjmgaaDoorLast
import Derived.Test.YtajanacbifjmgaaDoorRefz
namespace Go.Proofs.YtajanacbifjmgaaDoor
open Go.RowKit
set_option maxHeartbeats 2000000
set_option maxRecDepth 100000
/-- does the key at i stand in none from i + 1 to k? -/
def aloneB (L : List En) (i k : Nat) : Bool := decide (∀ t, t < k → i < t → keyA L t ≠ keyA L i)
theorem aloneB_start (L : List En) (i : Nat) : aloneB L i (i + 1) = true := decide_eq_true fun t h1 h2 => by omega
theorem aloneB_step {L : List En} {i k : Nat} (h : i < k) : aloneB L i (k + 1) = (aloneB L i k && decide (keyA L k ≠ keyA L i)) := by
  rw [Bool.eq_iff_iff, Bool.and_eq_true]
  simp only [aloneB, decide_eq_true_eq]
  refine ⟨fun hh => ⟨fun t h1 h2 => hh t (by omega) h2, hh k (by omega) h⟩, fun ⟨h1, h2⟩ t ht hi => ?_⟩
  rcases Nat.eq_or_lt_of_le (Nat.lt_succ_iff.1 ht) with rfl | ht
  · exact h2
  · exact h1 t ht hi
theorem comeE_alone {L : List En} {i : Nat} (h : i < L.length) : comeE (L.drop i) = if aloneB L i L.length = true then L[i] :: comeE (L.drop (i + 1)) else comeE (L.drop (i + 1)) := by
  have hm := mem_keys_drop L (L[i]).2.1 i
  rw [List.drop_eq_getElem_cons h, comeE]
  by_cases hk : aloneB L i L.length = true
  · rw [if_pos hk, if_neg]
    intro hin
    obtain ⟨t, h1, h2, h3⟩ := hm.1 hin
    exact (of_decide_eq_true hk) t h2 h1 (by rw [h3, keyA_at h])
  · rw [if_neg hk, if_pos]
    refine hm.2 (Classical.byContradiction fun hno => hk (decide_eq_true fun t h1 h2 h3 => hno ⟨t, h2, h1, by rw [h3, keyA_at h]⟩))
theorem refComeE_any {w : World} {A : Option Addr} {L : List En} (ha : Res w A L) (c : Nat) (hlen : L.length ≤ 1000) :
    Calls Tryd.prog 11 #[.slice A L.length c] w fun e w' => (∃ A' c', e = .returned (.slice A' (comeE L).length c') ∧ Res w' A' (comeE L) ∧ NewIn w.heap.size w' A') ∧ Below w.heap.size w w' := by
  have HA := Lib.hid ha; clear ha
  obtain ⟨LL, hLL⟩ : ∃ n, n = L.length := ⟨_, rfl⟩
  rw [← hLL] at hlen ⊢
  have HLL := Lib.hid hLL; clear hLL
  go_enter Tryd.func11, Tryd.ntmps11
  go_wp2
  go_loopw [3, 4] (fun v u wr => ∃ (i n : Nat) (M : List En), u = .int .i64 i ∧ i ≤ LL ∧ n ≤ i ∧ Hid (Below w.heap.size w wr) ∧ Hid (wr.ownsRow w.heap.size 63 3 v n (encells M)) ∧ Hid (n = M.length ∧ M ++ comeE (L.drop i) = comeE L)) (fun _ u _ => LL - (intOf u).toNat)
  case atStart => exact ⟨0, 0, [], rfl, by omega, by omega, Below.refl _ _, World.ownsRow_nil _ _ _ _, rfl, rfl⟩
  case round =>
    obtain ⟨i, n, M, rfl, hi, hni, hbel, hrow, hM⟩ := hrel
    by_cases hlt : i < LL
    · have hlt' : i < L.length := by rw [← HLL.out]; exact hlt
      obtain ⟨b, rfl, hbl, h0, h1, h2⟩ := (HA.out.below hbel.out).at hlt'
      have HSTEP := Lib.hid (comeE_alone hlt')
      obtain ⟨q, hq⟩ : ∃ q : Nat, q = (L[i]).1 := ⟨_, rfl⟩
      obtain ⟨s, hs⟩ : ∃ s : ByteArray, s = ⟨(L[i]).2.1.toArray⟩ := ⟨_, rfl⟩
      obtain ⟨y, hy⟩ : ∃ s : ByteArray, s = ⟨(L[i]).2.2.toArray⟩ := ⟨_, rfl⟩
      rw [← hq] at h0
      rw [← hs] at h1
      rw [← hy] at h2
      have HS := Lib.hid hs; clear hs
      have HE : Hid ([Value.int .u64 (q : Int), .string s, .string y] = [Value.int .u64 ((L[i]).1 : Int), .string ⟨(L[i]).2.1.toArray⟩, .string ⟨(L[i]).2.2.toArray⟩]) := by show _ = _; rw [hq, HS.out, hy]
      clear hq hy
      go_wp2
      go_loopw [5, 6] (fun f u wx => ∃ k : Nat, u = .int .i64 k ∧ i + 1 ≤ k ∧ k ≤ LL ∧ (∃ al, f = .bool al ∧ Hid (al = aloneB L i k)) ∧ ∃ nq, wx = wr.drewN nq) (fun _ u _ => LL - (intOf u).toNat)
      case atStart => exact ⟨i + 1, by go_num, by omega, by omega, ⟨true, rfl, (aloneB_start L i).symm⟩, 0, rfl⟩
      case round =>
        obtain ⟨k, rfl, hk1, hk2, ⟨al, rfl, hal⟩, nq, rfl⟩ := hrel
        have hB : Below w.heap.size w (wr.drewN nq) := hbel.out.trans (below_drewN (Below.refl _ _) nq)
        have c0 : (wr.drewN nq).cell? ⟨b, i * 3, none⟩ = some (.int .u64 (q : Int)) := h0
        have c1 : (wr.drewN nq).cell? ⟨b, i * 3 + 1, none⟩ = some (.string s) := h1
        have c2 : (wr.drewN nq).cell? ⟨b, i * 3 + 2, none⟩ = some (.string y) := h2
        have hrow2 : (wr.drewN nq).ownsRow w.heap.size 63 3 u3 n (encells M) := hrow.out
        by_cases hkl : k < LL
        · have hkl' : k < L.length := by rw [← HLL.out]; exact hkl
          obtain ⟨b2, hbb, _, _, d1, _⟩ := (HA.out.below hB).at hkl'
          obtain rfl : b = b2 := by injection hbb with e; injection e
          have hst := aloneB_step (L := L) (show i < k by omega)
          rw [← hal.out, keyA_at hkl', keyA_at hlt'] at hst
          obtain ⟨t, ht⟩ : ∃ t : ByteArray, t = ⟨(L[k]).2.1.toArray⟩ := ⟨_, rfl⟩
          rw [← ht] at d1
          have d2 : wr.cell? ⟨b, k * 3 + 1, none⟩ = some (.string t) := d1
          cases al with
          | false =>
            have HST : Hid (false = aloneB L i (k + 1)) := by rw [hst]; rfl
            clear hst hal ht hbb
            go_wp2_with fail
            go_quiet (fail)
            go_wp2_with fail
            go_roundw
            case rel => exact ⟨k + 1, by go_num, by omega, by omega, ⟨false, rfl, HST.out⟩, _, rfl⟩
            case measure => simp [intOf]; omega
          | true =>
            by_cases he : (L[k]).2.1 = (L[i]).2.1
            · have hts : t = s := by rw [ht, HS.out, he]
              have HST : Hid (false = aloneB L i (k + 1)) := by
                show _ = _
                rw [hst, decide_eq_false (fun h => h he)]; rfl
              subst hts
              clear hst hal ht hbb he
              go_wp2_with fail
              go_quiet (fail)
              go_wp2_with fail
              go_roundw
              case rel => exact ⟨k + 1, by go_num, by omega, by omega, ⟨false, rfl, HST.out⟩, _, rfl⟩
              case measure => simp [intOf]; omega
            · have dn : (t.toList == s.toList) = false := by rw [ht, HS.out]; exact bs_ne he
              have HST : Hid (true = aloneB L i (k + 1)) := by
                show _ = _
                rw [hst, decide_eq_true he]; rfl
              clear hst hal ht hbb he
              go_wp2_with fail
              go_quiet (fail)
              go_wp2_with fail
              go_roundw
              case rel => exact ⟨k + 1, by go_num, by omega, by omega, ⟨true, rfl, HST.out⟩, _, rfl⟩
              case measure => simp [intOf]; omega
        · obtain rfl : k = LL := by omega
          have hst := HSTEP.out
          have hal2 := hal.out
          have eLL : aloneB L i k = aloneB L i L.length := by rw [← HLL.out]
          rw [eLL] at hal2
          rw [← hal2] at hst
          cases al with
          | true =>
            have HI : Hid (M ++ [L[i]] ++ comeE (L.drop (i + 1)) = comeE L) := by
              show _ = _
              have h := hM.out.2
              rw [hst, if_pos rfl] at h
              rw [List.append_assoc]
              exact h
            clear hst hal hal2 eLL HSTEP HA
            go_wp2_with (at_builtin; refine list_appK (B := w.heap.size) (w := wr.drewN nq) 38 63 _ 3 40 Tryd.underlying38 Tryd.info62 rfl (by decide) (by decide) rfl (.tmp 38) (.tmp 43) rfl _ n (encells M) hrow2 [.int .u64 (q : Int), .string s, .string y] rfl (by intro u hu; simp at hu; rcases hu with rfl | rfl | rfl <;> rfl) rfl (by rfl) (by omega) hB.size ?_; intro v1 w1' hb1 hs1 _)
            have hB2 : Below w.heap.size w w1' := hB.grown hs1 hB.size (fun k hk => (hrow2.lt k hk).1)
            go_roundw
            case rel =>
              refine ⟨i + 1, n + 1, M ++ [L[i]], by go_num, by omega, by omega, hB2, ?_, by rw [List.length_append, List.length_singleton, hM.out.1], HI.out⟩
              rw [encells_snoc, ← HE.out]
              exact hb1
            case measure => simp [intOf]; omega
          | false =>
            have HI : Hid (M ++ comeE (L.drop (i + 1)) = comeE L) := by
              show _ = _
              have h := hM.out.2
              rw [hst, if_neg (by decide)] at h
              exact h
            clear hst hal hal2 eLL HSTEP HA
            go_wp2_with fail
            go_roundw
            case rel => exact ⟨i + 1, n, M, by go_num, by omega, by omega, hB, hrow2, hM.out.1, HI.out⟩
            case measure => simp [intOf]; omega
    · obtain rfl : i = LL := by omega
      have hMM : M = comeE L := by
        have h := hM.out.2
        have e : i = L.length := HLL.out
        rw [e, List.drop_length] at h
        rw [← h]
        exact (List.append_nil M).symm
      have ho : wr.ownsRow w.heap.size 63 3 u3 (comeE L).length (encells (comeE L)) := by
        have h := hrow.out
        rw [hM.out.1, hMM] at h
        exact h
      obtain ⟨A2, c2, rfl, _, hR, hN⟩ := res_own ho
      have HP := Lib.hid (And.intro hR hN); clear hR hN ho
      go_wp2_with fail
      go_ret
      exact ⟨⟨A2, c2, rfl, HP.out⟩, hbel.out⟩
end Go.Proofs.YtajanacbifjmgaaDoor
