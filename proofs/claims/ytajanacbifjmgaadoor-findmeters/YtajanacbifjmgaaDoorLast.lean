/-
  Contracts of lasting (a map of the last places), pairsOf and allHave.
-/
import Derived.Test.YtajanacbifjmgaaDoorEnts
import Derived.Test.YtajanacbifjmgaaDoorMaking
import Derived.Maps.OwnOps
import Derived.Maps.OwnSet
namespace Go.Proofs.YtajanacbifjmgaaDoor
open Go.RowKit Go.WideMaps
set_option maxHeartbeats 1000000
set_option maxRecDepth 100000
theorem klaw : Go.Maps.Keyed Tryd.prog 9 := Go.Maps.string_keyed Tryd.underlying9
theorem zero3 (w : World) : (zeroValue 3).run Tryd.prog w = .ok (.int .i64 0) w := by kernel_rfl
/-- the key at a place -/
def keyA (L : List En) (i : Nat) : List UInt8 := (L.getD i (0, ([], []))).2.1
theorem keyA_at {L : List En} {i : Nat} (h : i < L.length) : keyA L i = (L[i]).2.1 := by rw [keyA, List.getD_eq_getElem?_getD, List.getElem?_eq_getElem h]; rfl
/-- the map of the last places, after some entries -/
def mapL (L : List En) : Nat → DataW Unit
  | 0 => .map []
  | n + 1 => (mapL L n).put (.string (keyA L n)) (.lit (.int .i64 (n : Int)))
theorem mapL_map (L : List En) : ∀ n, Go.Maps.IsMap (mapL L n)
  | 0 => ⟨[], rfl⟩
  | n + 1 => by
    obtain ⟨es, h⟩ := mapL_map L n
    rw [mapL, h]
    exact ⟨_, rfl⟩
/-- the last place of a key among some entries -/
def lastI (L : List En) (k : List UInt8) : Nat → Nat
  | 0 => 0
  | n + 1 => if keyA L n = k then n else lastI L k n
theorem mapL_at (L : List En) (k : List UInt8) (z : DataW Unit) : ∀ n, (∃ i, i < n ∧ keyA L i = k) → (mapL L n).atKey (.string k) z = .lit (.int .i64 (lastI L k n : Int))
  | 0, ⟨i, h, _⟩ => absurd h (Nat.not_lt_zero i)
  | n + 1, ⟨i, h, hi⟩ => by
    rw [mapL, lastI]
    by_cases hk : keyA L n = k
    · rw [if_pos hk, hk, Go.Maps.atKey_put_same (mapL_map L n) (show WideAt.IsKeyLit (.string k) from trivial)]
    · rw [if_neg hk, Go.Maps.atKey_put_other (fun e => hk (by injection e with e; exact e.symm))]
      refine mapL_at L k z n ⟨i, ?_, hi⟩
      rcases Nat.eq_or_lt_of_le (Nat.lt_succ_iff.1 h) with rfl | h
      · exact absurd hi hk
      · exact h
theorem lastI_iff (L : List En) (k : List UInt8) (j : Nat) (hj : keyA L j = k) : ∀ n, j < n → (lastI L k n = j ↔ ∀ i, j < i → i < n → keyA L i ≠ k)
  | 0, h => absurd h (Nat.not_lt_zero j)
  | n + 1, h => by
    rw [lastI]
    by_cases hk : keyA L n = k
    · rw [if_pos hk]
      refine ⟨fun e i h1 h2 => by omega, fun hall => ?_⟩
      rcases Nat.eq_or_lt_of_le (Nat.lt_succ_iff.1 h) with h | h
      · exact h.symm
      · exact absurd hk (hall n h (by omega))
    · rw [if_neg hk]
      have hjn : j < n := by
        rcases Nat.eq_or_lt_of_le (Nat.lt_succ_iff.1 h) with rfl | h
        · exact absurd hj hk
        · exact h
      rw [lastI_iff L k j hj n hjn]
      refine ⟨fun hall i h1 h2 => ?_, fun hall i h1 h2 => hall i h1 (by omega)⟩
      rcases Nat.eq_or_lt_of_le (Nat.lt_succ_iff.1 h2) with rfl | h2
      · exact hk
      · exact hall i h1 h2
theorem mem_keys_drop (L : List En) (k : List UInt8) (j : Nat) : k ∈ ekeys (L.drop (j + 1)) ↔ ∃ i, j < i ∧ i < L.length ∧ keyA L i = k := by
  unfold ekeys
  rw [List.mem_map]
  constructor
  · rintro ⟨e, he, rfl⟩
    obtain ⟨i, hi, rfl⟩ := List.getElem_of_mem he
    have hi2 : j + 1 + i < L.length := by simpa [Nat.lt_sub_iff_add_lt, Nat.add_comm] using hi
    refine ⟨j + 1 + i, by omega, hi2, ?_⟩
    rw [keyA_at hi2, List.getElem_drop]
  · rintro ⟨i, h1, h2, rfl⟩
    refine ⟨L[i], ?_, (keyA_at h2).symm⟩
    rw [List.mem_iff_getElem]
    refine ⟨i - (j + 1), by rw [List.length_drop]; omega, ?_⟩
    rw [List.getElem_drop]
    congr 1
    omega
theorem comeE_step {L : List En} {j : Nat} (h : j < L.length) : comeE (L.drop j) = if lastI L (L[j]).2.1 L.length = j then L[j] :: comeE (L.drop (j + 1)) else comeE (L.drop (j + 1)) := by
  have hiff := lastI_iff L (L[j]).2.1 j (keyA_at h) L.length h
  have hm := mem_keys_drop L (L[j]).2.1 j
  rw [List.drop_eq_getElem_cons h, comeE]
  by_cases hk : lastI L (L[j]).2.1 L.length = j
  · rw [if_pos hk, if_neg]
    intro hin
    obtain ⟨i, h1, h2, h3⟩ := hm.1 hin
    exact hiff.1 hk i h1 h2 h3
  · rw [if_neg hk, if_pos]
    refine hm.2 (Classical.byContradiction fun hno => hk (hiff.2 fun i h1 h2 h3 => hno ⟨i, h1, h2, h3⟩))
theorem run_make_ents (w : World) (n : Nat) (hn : n ≤ 100000) : ∃ C : Array Value, C.size = n * 3 ∧ (Instr.makeSlice 22 (.int .i64 0) (.int .i64 (n : Int))).run Tryd.prog w = .ok (.slice (some ⟨w.heap.size, 0, none⟩) 0 n) (w.alloc (.cells C 51)) := by
  obtain ⟨i0, hi, hz0, hz1, hz2⟩ := info_parts Tryd.info50
  have h := run_make (P := Tryd.prog) w 22 51 i0 _ Tryd.underlying22 hi hz0 .i64 .i64 0 (n : Int) (by omega) (by omega) (by rw [hz2]; omega) (by omega)
  rw [hz1] at h
  simp only [Int.toNat_natCast, Int.toNat_zero] at h
  exact ⟨_, by simp [madeCells], h⟩
theorem made_ents (w : World) (C : Array Value) (n : Nat) (hC : C.size = n * 3) (hn : n ≤ 100000) : (w.alloc (.cells C 51)).ownsRow w.heap.size 51 3 (.slice (some ⟨w.heap.size, 0, none⟩) 0 n) 0 [] :=
  ⟨rfl, .inr ⟨w.heap.size, n, C, rfl, Nat.le_refl _, heap_alloc_new w _, Nat.zero_le _, by unfold maxLen; omega, hC, by simp⟩⟩
theorem owns_size {w : World} {b n : Nat} {D : DataW Unit} (h : w.ownsMap Tryd.prog 9 (plainElem Tryd.prog 3) b n D) : Maps.size D ≤ n := by
  obtain ⟨es, clock, _, _, h1, rfl⟩ := h
  rw [Go.Maps.size_eq, length_sorted]
  simpa using h1
theorem lasting_any {w : World} {A : Option Addr} {L : List En} (ha : Ens w A L) (c : Nat) (hlen : L.length ≤ 1000) (hk : ∀ e ∈ L, e.2.1.length ≤ 100000) :
    Calls Tryd.prog 19 #[.slice A L.length c] w fun e w' => ∃ v xs, e = .returned v ∧ w'.ownsRow w.heap.size 51 3 v (comeE L).length xs ∧ Erow w' xs (comeE L) ∧ Below w.heap.size w w' := by
  have hmm := @run_makeMap Tryd.prog
  have HA := Lib.hid ha; clear ha
  have HK := Lib.hid hk; clear hk
  obtain ⟨LL, hLL⟩ : ∃ n, n = L.length := ⟨_, rfl⟩
  rw [← hLL] at hlen ⊢
  have HLL := Lib.hid hLL; clear hLL
  go_enter Tryd.func19, Tryd.ntmps19
  go_wp2
  go_loopw [12] (fun u wr => ∃ j : Nat, u = .int .i64 j ∧ j ≤ LL ∧ Hid (Below w.heap.size w wr) ∧ Hid (wr.ownsMap Tryd.prog 9 (plainElem Tryd.prog 3) w.heap.size j (mapL L j))) (fun u _ => LL - (intOf u).toNat)
  case atStart => exact ⟨0, rfl, by omega, (Below.refl _ _).alloc (Nat.le_refl _) _, World.ownsMap_made _ _ _ _⟩
  case round =>
    obtain ⟨j, rfl, hj, hbel, hown⟩ := hrel
    by_cases hlt : j < LL
    · have hlt' : j < L.length := by rw [← HLL.out]; exact hlt
      obtain ⟨b, off, ka, kc, va, vc, rfl, hbl, h0, h1, h2, h3, h4⟩ := (HA.out.below hbel.out).at hlt'
      have hkl := HK.out _ (List.getElem_mem hlt')
      have hba : Below wr.heap.size wr (wr.alloc (.cells #[.int .u64 ((L[j]).1 : Int), .slice ka (L[j]).2.1.length kc, .slice va (L[j]).2.2.length vc] 51)) := (Below.refl _ _).alloc (Nat.le_refl _) _
      have v1 := conv_any (h3.below hba) kc
      have hkey : keyOf Tryd.prog 9 (.string ⟨(L[j]).2.1.toArray⟩) = some (.string (L[j]).2.1) := keyOf_string_mk Tryd.underlying9 (by rw [bs_size]; unfold maxLen; omega)
      have hst : mapL L (j + 1) = (mapL L j).put (.string (L[j]).2.1) (.lit (.int .i64 (j : Int))) := by rw [mapL, keyA_at hlt']
      obtain ⟨q, hq⟩ : ∃ q : Nat, q = (L[j]).1 := ⟨_, rfl⟩
      obtain ⟨kk, hkk⟩ : ∃ k, k = (L[j]).2.1 := ⟨_, rfl⟩
      obtain ⟨y, hy⟩ : ∃ x : Nat, x = (L[j]).2.2.length := ⟨_, rfl⟩
      rw [← hkk] at v1 hkey hst h1
      rw [← hq] at h0 v1
      rw [← hy] at h2 v1
      obtain ⟨s, hs⟩ : ∃ s : ByteArray, s = ⟨kk.toArray⟩ := ⟨_, rfl⟩
      obtain ⟨x, hx⟩ : ∃ x : Nat, x = kk.length := ⟨_, rfl⟩
      rw [← hs] at v1 hkey
      rw [← hx] at h1 v1
      have HST := Lib.hid hst; clear hst
      have hown2 := hown.out.alloc (.cells #[.int .u64 (q : Int), .slice ka x kc, .slice va y vc] 51)
      clear h3 h4 hba HA HK hs hx hq hkk hy hkl hlt'
      go_wp2_with (first
        | (at_mapUpdate; refine wpList_mapUpdate_own _ rfl _ _ _ 81 rfl 9 3 klaw Tryd.underlying81 _ w.heap.size j _ rfl hown2 (by unfold maxLen; omega) _ _ _ rfl rfl hkey _ [] (plainElem_int Tryd.underlying3 (WalkArith.wf_i64 (by omega))) ?_)
        | go_in)
      intro w1 hown1 hgrow1
      have hb1 : Below w.heap.size w w1 := (hbel.out.alloc hbel.out.size _).grown hgrow1 (by have := hbel.out.size; simp; omega) (fun j hj => by cases hj; exact Nat.le_refl _)
      have R1 := Lib.hid (HST.out.symm ▸ hown1)
      have R2 := Lib.hid hb1
      clear hown1 hgrow1 hown hown2 hb1 HST
      go_wp2
      go_roundw
      case rel => exact ⟨j + 1, by go_num, by omega, R2.out, R1.out⟩
      case measure => simp [intOf]; omega
    · obtain rfl : j = LL := by omega
      have hsz := owns_size hown.out
      obtain ⟨C, hC, hmk⟩ := run_make_ents wr (Maps.size (mapL L j)) (by omega)
      have hrow := made_ents wr C _ hC (by omega)
      have hown2 := hown.out.alloc (.cells C 51)
      obtain ⟨w2, hw2⟩ : ∃ w2, w2 = wr.alloc (.cells C 51) := ⟨_, rfl⟩
      have hb2 : Below w.heap.size w w2 := by rw [hw2]; exact hbel.out.alloc hbel.out.size _
      have hrow2 : w2.ownsRow w.heap.size 51 3 (.slice (some ⟨wr.heap.size, 0, none⟩) 0 (Maps.size (mapL L j))) 0 [] := by
        rw [hw2]
        exact ⟨hrow.1, .inr ⟨wr.heap.size, _, C, rfl, hbel.out.size, heap_alloc_new wr _, Nat.zero_le _, by unfold maxLen; omega, hC, by simp⟩⟩
      rw [← hw2] at hmk hown2
      have hown0 := hown.out
      have HROW := Lib.hid hrow2; clear hrow2 hrow
      have HB2 := Lib.hid hb2; clear hb2
      have HO2 := Lib.hid hown2; clear hown2
      clear hw2 hC hsz hbel hown hj
      go_wp2_with (first | (at_len; refine wpList_len_own _ rfl _ 81 rfl 9 3 Tryd.underlying81 _ w.heap.size j (mapL L j) rfl hown0 ?_) | go_in)
      clear hmk hown0
      go_loopw [6, 29] (fun v u wr => ∃ (i n : Nat) (xs : List Value) (M : List En), u = .int .i64 i ∧ i ≤ j ∧ n ≤ i ∧ Hid (Below w.heap.size w wr) ∧ Hid (wr.ownsMap Tryd.prog 9 (plainElem Tryd.prog 3) w.heap.size j (mapL L j)) ∧ Hid (wr.ownsRow w.heap.size 51 3 v n xs) ∧ Hid (n = M.length ∧ Erow w xs M ∧ M ++ comeE (L.drop i) = comeE L)) (fun _ u _ => j - (intOf u).toNat)
      case atStart => exact ⟨0, 0, [], [], rfl, Nat.zero_le _, Nat.le_refl _, HB2.out, HO2.out, HROW.out, rfl, Erow.nil _, rfl⟩
      case round =>
        obtain ⟨i, n, xs, M, rfl, hi, hni, hbel, hown, hrow, hM⟩ := hrel
        clear HROW HO2 HB2
        by_cases hlt : i < j
        · have hlt' : i < L.length := by rw [← HLL.out]; exact hlt
          obtain ⟨b, off, ka, kc, va, vc, rfl, hbl, g0, g1, g2, h3, h4⟩ := HA.out.at hlt'
          have h0 := (hbel.out.cell (p := ⟨b, off + i * 3, none⟩) hbl).trans g0
          have h1 := (hbel.out.cell (p := ⟨b, off + i * 3 + 1, none⟩) hbl).trans g1
          have h2 := (hbel.out.cell (p := ⟨b, off + i * 3 + 2, none⟩) hbl).trans g2
          clear g0 g1 g2
          have hkl := HK.out _ (List.getElem_mem hlt')
          have hba : Below w.heap.size w (wr.alloc (.cells #[.int .u64 ((L[i]).1 : Int), .slice ka (L[i]).2.1.length kc, .slice va (L[i]).2.2.length vc] 51)) := hbel.out.alloc hbel.out.size _
          have v1 := conv_any (h3.below hba) kc
          have hkey : keyOf Tryd.prog 9 (.string ⟨(L[i]).2.1.toArray⟩) = some (.string (L[i]).2.1) := keyOf_string_mk Tryd.underlying9 (by rw [bs_size]; unfold maxLen; omega)
          have hown2 := hown.out.alloc (.cells #[.int .u64 ((L[i]).1 : Int), .slice ka (L[i]).2.1.length kc, .slice va (L[i]).2.2.length vc] 51)
          obtain ⟨ck, hrun, hat, _⟩ := hown2.lookup_int klaw Tryd.underlying81 Tryd.underlying3 (zero3 _) hkey
          rw [mapL_at L _ _ j ⟨i, hlt, keyA_at hlt'⟩] at hat
          have hck : ck = (lastI L (L[i]).2.1 L.length : Int) := by
            rw [← HLL.out]
            injection hat with hat
            injection hat with _ hat
            exact hat.symm
          subst hck
          have hstep := comeE_step hlt'
          obtain ⟨t, ht⟩ : ∃ t, t = lastI L (L[i]).2.1 L.length := ⟨_, rfl⟩
          rw [← ht] at hrun hstep
          clear hat ht hown2
          have hsnoc : Erow w (xs ++ [.int .u64 ((L[i]).1 : Int), .slice ka (L[i]).2.1.length kc, .slice va (L[i]).2.2.length vc]) (M ++ [L[i]]) := hM.out.2.1.snoc h3 h4
          have HSN := Lib.hid hsnoc; clear hsnoc
          obtain ⟨q, hq⟩ : ∃ q : Nat, q = (L[i]).1 := ⟨_, rfl⟩
          obtain ⟨kk, hkk⟩ : ∃ k, k = (L[i]).2.1 := ⟨_, rfl⟩
          obtain ⟨y, hy⟩ : ∃ x : Nat, x = (L[i]).2.2.length := ⟨_, rfl⟩
          rw [← hkk] at v1 hkey HSN h1 hrun
          rw [← hq] at h0 v1 HSN hrun
          rw [← hy] at h2 v1 HSN hrun
          obtain ⟨s, hs⟩ : ∃ s : ByteArray, s = ⟨kk.toArray⟩ := ⟨_, rfl⟩
          obtain ⟨x, hx⟩ : ∃ x : Nat, x = kk.length := ⟨_, rfl⟩
          rw [← hs] at v1 hkey hrun
          rw [← hx] at h1 v1 HSN hrun
          have HST := Lib.hid hstep; clear hstep
          clear h3 h4 hba HA HK hs hx hq hkk hy hkl hkey
          by_cases htj : t = i
          · subst htj
            have HE : Hid (M ++ [L[t]] ++ comeE (L.drop (t + 1)) = comeE L) := by
              show _ = _
              have := hM.out.2.2
              rw [HST.out, if_pos rfl] at this
              rw [List.append_assoc]
              exact this
            clear HST
            go_wp2_with (first | (at_builtin; refine list_appK (B := w.heap.size) (w := wr.alloc (.cells #[.int .u64 (q : Int), .slice ka x kc, .slice va y vc] 51)) 22 51 _ 3 56 Tryd.underlying22 Tryd.info50 rfl (by decide) (by decide) rfl (.tmp 42) (.tmp 44) rfl _ n xs (World.ownsRow.alloc hrow.out _) [.int .u64 (q : Int), .slice ka x kc, .slice va y vc] rfl (by intro u hu; simp at hu; rcases hu with rfl | rfl | rfl <;> rfl) rfl (by rw [World.size_alloc]; rfl) (by omega) (by have := hbel.out.size; simp; omega) ?_; intro v1 w1' hb1 hs1 _) | go_in)
            have HNE : Hid (∀ k, u6.ownBlock = some k → k ≠ w.heap.size) := fun k hk e => by
              subst e
              obtain ⟨es, clock, hm, _⟩ := hown.out
              obtain ⟨_, _, cur, hcur⟩ := own_lt hrow.out hk
              rw [hm] at hcur
              cases hcur
            have hall : wr.grownBy w1' _ := grown_then (World.grownBy_alloc wr _ none) hs1
            have hB1 : Below w.heap.size w w1' := hbel.out.grown hall (by have := hbel.out.size; omega) (fun k hk => (hrow.out.lt k hk).1)
            go_roundw
            case rel =>
              refine ⟨t + 1, n + 1, _, M ++ [L[t]], by go_num, by omega, by omega, hB1, ?_, hb1, by rw [List.length_append, List.length_singleton, hM.out.1], HSN.out, HE.out⟩
              exact hown.out.kept hall fun e => HNE.out _ e.symm rfl
            case measure => simp [intOf]; omega
          · have hne : ((t : Int) == (i : Int)) = false := by simp; omega
            have HE : Hid (M ++ comeE (L.drop (i + 1)) = comeE L) := by
              show _ = _
              have := hM.out.2.2
              rw [HST.out, if_neg htj] at this
              exact this
            clear HST
            go_wp2
            go_roundw
            case rel => exact ⟨i + 1, n, xs, M, by go_num, by omega, by omega, hbel.out.alloc hbel.out.size _, hown.out.alloc _, hrow.out.alloc _, hM.out.1, hM.out.2.1, HE.out⟩
            case measure => simp [intOf]; omega
        · obtain rfl : i = j := by omega
          have hMM : M = comeE L := by
            have h := hM.out.2.2
            have e : i = L.length := HLL.out
            rw [e, List.drop_length] at h
            rw [← h]
            exact (List.append_nil M).symm
          have HF : Hid (wr.ownsRow w.heap.size 51 3 u6 (comeE L).length xs ∧ Erow wr xs (comeE L)) := by
            subst hMM
            exact ⟨by rw [← hM.out.1]; exact hrow.out, hM.out.2.1.below hbel.out⟩
          go_wp2_with fail
          go_ret
          exact ⟨_, xs, rfl, HF.out.1, HF.out.2, hbel.out⟩
end Go.Proofs.YtajanacbifjmgaaDoor
