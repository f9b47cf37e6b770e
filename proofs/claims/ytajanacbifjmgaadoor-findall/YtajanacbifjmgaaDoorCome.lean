/-
  The contract of Come: the pairs whose keys stand in a list, each with its last value, in new memory.
-/
import Derived.Test.YtajanacbifjmgaaDoorOrder
import Derived.Test.YtajanacbifjmgaaDoorApp
namespace Go.Proofs.YtajanacbifjmgaaDoor
open Go.RowKit
set_option maxHeartbeats 400000
set_option maxRecDepth 100000
theorem inv_next {L M : List Pr} {ps : List Nat} {j p : Nat} (hjp : j < ps.length) (hp : p = ps[j]) (hpL : p < L.length) (h : M ++ (keep (fun i => (pat L i).1) (ps.drop j)).map (pat L) = come L)
    (hd : j + 1 = ps.length ∨ ∃ h2 : j + 1 < ps.length, (pat L ps[j]).1 ≠ (pat L ps[j + 1]).1) : (M ++ [L[p]]) ++ (keep (fun i => (pat L i).1) (ps.drop (j + 1))).map (pat L) = come L := by
  rw [keep_next (fun i => (pat L i).1) hjp hd, List.map_cons, ← hp, pat_at hpL] at h
  rw [List.append_assoc]
  exact h
theorem inv_skip {L M : List Pr} {ps : List Nat} {j : Nat} (h2 : j + 1 < ps.length) (h : M ++ (keep (fun i => (pat L i).1) (ps.drop j)).map (pat L) = come L)
    (hd : (pat L ps[j]).1 = (pat L ps[j + 1]).1) : M ++ (keep (fun i => (pat L i).1) (ps.drop (j + 1))).map (pat L) = come L := by
  rw [keep_skip (fun i => (pat L i).1) h2 hd] at h
  exact h
theorem come_any {w : World} {A : Option Addr} {L : List Pr} (ha : Pcs w A L) (c : Nat) (hlen : L.length ≤ 1000) (ht : ∀ p ∈ L, p.1.length ≤ 100000 ∧ p.2.length ≤ 100000) :
    Calls Tryd.prog 36 #[.slice A L.length c] w fun e w' => ∃ g, e = .returned (.slice (some ⟨g, 0, none⟩) (come L).length (come L).length) ∧ News w.heap.size w' g (come L) ∧ Below w.heap.size w w' := by
  have ho := inOrder_any ha c hlen
  have HO := Lib.hid ho; clear ho
  have HA := Lib.hid ha; clear ha
  have HT := Lib.hid ht; clear ht
  go_enter Tryd.func36, Tryd.ntmps36
  go_wp2_with fail
  refine HO.out.mono ?_
  rintro e w1 ⟨g, rfl, hb1, hgw, ps, hpl, hpp, hpm, hgl, hpc⟩
  have hkeep := come_keep L ps hpp hpm
  have HA1 : Hid (Pcs w1 A L) := HA.out.below hb1
  have HB1 := Lib.hid hb1; clear hb1
  have HPC := Lib.hid hpc; clear hpc
  have HPM := Lib.hid hpm; clear hpm
  have HKP := Lib.hid hkeep; clear hkeep
  have HPL := Lib.hid hpl; clear hpl
  clear hpp HO HA
  go_wp2_with fail
  go_loopw [4, 11] (fun v u wr => ∃ (j : Nat) (xs : List Value) (M : List Pr), u = .int .i64 j ∧ j ≤ L.length ∧ M.length ≤ j ∧ Hid (Below w1.heap.size w1 wr) ∧ Hid (wr.ownsRow w1.heap.size 49 2 v M.length xs) ∧ Hid (Prow w1 xs M) ∧ Hid (M ++ (keep (fun i => (pat L i).1) (ps.drop j)).map (pat L) = come L)) (fun _ u _ => L.length - (intOf u).toNat)
  case atStart => exact ⟨0, [], [], rfl, by omega, by simp, Below.refl _ _, World.ownsRow_nil _ _ _ _, Prow.nil _, by simpa [Hid] using HKP.out⟩
  case round =>
    obtain ⟨j, xs, M, rfl, hj, hM, hbel, hown, hrow, hinv⟩ := hrel
    by_cases hlt : j < L.length
    · have hjp : j < ps.length := by rw [HPL.out]; exact hlt
      obtain ⟨p, hp⟩ : ∃ p, p = ps[j] := ⟨_, rfl⟩
      have hpL : p < L.length := (HPM.out p).1 (by rw [hp]; exact List.getElem_mem hjp)
      have hcp : wr.cell? ⟨g, j, none⟩ = some (.int .i64 (p : Int)) := by
        rw [hbel.out.cell (p := ⟨g, j, none⟩) hgl, HPC.out j hjp, ← hp]
      obtain ⟨b, off, ka, kc, va, vc, rfl, hbl, h1, h2, h3, h4⟩ := HA1.out.at hpL
      have hc1 := (hbel.out.cell (p := ⟨b, off + p * 2, none⟩) hbl).trans h1
      have hc2 := (hbel.out.cell (p := ⟨b, off + p * 2 + 1, none⟩) hbl).trans h2
      obtain ⟨x, hx⟩ : ∃ x : Nat, x = (L[p]).1.length := ⟨_, rfl⟩
      obtain ⟨y, hy⟩ : ∃ x : Nat, x = (L[p]).2.length := ⟨_, rfl⟩
      rw [← hx] at hc1
      rw [← hy] at hc2
      clear h1 h2
      have H3 := Lib.hid h3; clear h3
      have H4 := Lib.hid h4; clear h4
      have HP := Lib.hid hp; clear hp
      have HX := Lib.hid hx; clear hx
      have HY := Lib.hid hy; clear hy
      by_cases hl1 : j + 1 = L.length
      · have d0 : (((j : Int) + 1) == (L.length : Int)) = true := by simp; omega
        have HL := Lib.hid hl1; clear hl1
        go_wp2_with fail
        go_quiet (fail)
        go_wp2_with (at_builtin; refine list_app2 (B := w1.heap.size) (w := wr.drewN nq) 73 49 _ 48 Tryd.underlying73 Tryd.info48 rfl (by decide) rfl (.tmp 39) (.tmp 44) rfl _ M.length xs hown.out (.slice ka x kc) (.slice va y vc) rfl rfl rfl rfl (by omega) hbel.out.size ?_; intro v1 w1' hb1 hs1)
        go_roundw
        case rel =>
          refine ⟨j + 1, xs ++ [.slice ka x kc, .slice va y vc], M ++ [L[p]], by go_num, by omega, by simp; omega, ?_, ?_, ?_, ?_⟩
          · exact (below_drewN hbel.out nq).grown hs1 hbel.out.size (fun k hk => (hown.out.lt k hk).1)
          · rw [List.length_append]; exact hb1
          · rw [HX.out, HY.out]; exact hrow.out.snoc H3.out H4.out
          · exact inv_next hjp HP.out hpL hinv.out (by exact .inl (HL.out.trans HPL.out.symm))
        case measure => simp [intOf]; omega
      · have hl2 : j + 1 < ps.length := by have := HPL.out; omega
        have d0 : (((j : Int) + 1) == (L.length : Int)) = false := by simp; omega
        obtain ⟨r, hr⟩ : ∃ r, r = ps[j + 1] := ⟨_, rfl⟩
        have hrL : r < L.length := (HPM.out r).1 (by rw [hr]; exact List.getElem_mem hl2)
        have hcr : wr.cell? ⟨g, j + 1, none⟩ = some (.int .i64 (r : Int)) := by
          rw [hbel.out.cell (p := ⟨g, j + 1, none⟩) hgl, HPC.out (j + 1) hl2, ← hr]
        obtain ⟨b', off', ka', kc', va', vc', e, _, k1, _, k3, _⟩ := HA1.out.at hrL
        obtain ⟨rfl, rfl⟩ : b = b' ∧ off = off' := by
          injection e with e
          injection e with e1 e2
          exact ⟨e1, e2⟩
        clear e
        have hc3 := (hbel.out.cell (p := ⟨b, off + r * 2, none⟩) hbl).trans k1
        obtain ⟨x', hx'⟩ : ∃ x : Nat, x = (L[r]).1.length := ⟨_, rfl⟩
        obtain ⟨z, hz⟩ : ∃ z : Int, z = cmp (L[p]).1 (L[r]).1 := ⟨_, rfl⟩
        rw [← hx'] at hc3
        have hcc : ∀ q, Calls Tryd.prog 55 #[.slice ka x kc, .slice ka' x' kc'] (wr.drewN q) fun e w' => e = .returned (.int .i64 z) ∧ w' = wr.drewN q := by
          intro q
          have hb := below_drewN hbel.out q
          have := compare_any (H3.out.below hb) (k3.below hb) kc kc'
          rw [← HX.out, ← hx', ← hz] at this
          exact this.mono fun e w' h => ⟨h.1, h.2.symm⟩
        have HCC := Lib.hid hcc; clear hcc
        have hwr : IntKind.i64.wrap ((j : Int) + 1) = (j : Int) + 1 := IntWalk.i64_in _ (by omega)
        have hnn : ((j : Int) + 1).toNat = j + 1 := by omega
        have HR := Lib.hid hr; clear hr
        have HZ := Lib.hid hz; clear hz
        have HX' := Lib.hid hx'; clear hx'
        clear k1 k3
        have e1 : pat L ps[j] = L[p] := by rw [← HP.out, pat_at hpL]
        have e2 : pat L ps[j + 1] = L[r] := by rw [← HR.out, pat_at hrL]
        have E1 := Lib.hid e1; clear e1
        have E2 := Lib.hid e2; clear e2
        by_cases hz0 : z = 0
        · subst hz0
          have HZ0 : Hid ((L[p]).1 = (L[r]).1) := cmp_zero _ _ HZ.out.symm
          go_wp2_with fail
          go_quiet ((go_at_call 55; refine Calls.quiet_of_same (HCC.out _)))
          clear hwr hnn
          go_wp2_with fail
          go_roundw
          case rel => exact ⟨j + 1, xs, M, by go_num, by omega, by omega, below_drewN hbel.out nq, hown.out, hrow.out, inv_skip hl2 hinv.out (by rw [E1.out, E2.out]; exact HZ0.out)⟩
          case measure => simp [intOf]; omega
        · have d1 : (z != 0) = true := by simpa using hz0
          have HZ0 : Hid ((L[p]).1 ≠ (L[r]).1) := fun e => hz0 (by rw [HZ.out]; exact cmp_iff.2 e)
          clear hz0
          go_wp2_with fail
          go_quiet ((go_at_call 55; refine Calls.quiet_of_same (HCC.out _)))
          clear hwr hnn
          go_wp2_with (at_builtin; refine list_app2 (B := w1.heap.size) (w := wr.drewN nq) 73 49 _ 48 Tryd.underlying73 Tryd.info48 rfl (by decide) rfl (.tmp 39) (.tmp 44) rfl _ M.length xs hown.out (.slice ka x kc) (.slice va y vc) rfl rfl rfl rfl (by omega) hbel.out.size ?_; intro v1 w1' hb1 hs1)
          go_roundw
          case rel =>
            refine ⟨j + 1, xs ++ [.slice ka x kc, .slice va y vc], M ++ [L[p]], by go_num, by omega, by simp; omega, ?_, ?_, ?_, ?_⟩
            · exact (below_drewN hbel.out nq).grown hs1 hbel.out.size (fun k hk => (hown.out.lt k hk).1)
            · rw [List.length_append]; exact hb1
            · rw [HX.out, HY.out]; exact hrow.out.snoc H3.out H4.out
            · exact inv_next hjp HP.out hpL hinv.out (by exact .inr ⟨hl2, by rw [E1.out, E2.out]; exact HZ0.out⟩)
          case measure => simp [intOf]; omega
    · obtain rfl : j = L.length := by omega
      have hM2 : M = come L := by
        have h := hinv.out
        rw [List.drop_eq_nil_of_le (by rw [HPL.out]; exact Nat.le_refl _)] at h
        simpa [keep] using h
      subst hM2
      obtain ⟨A2, c2, rfl, hp2⟩ := pcs_own hown.out rfl hrow.out hbel.out
      have hO := own_any hp2 c2 (by omega) (fun q hq => HT.out q (come_sub L q hq))
      have HO := Lib.hid hO; clear hO
      clear hp2
      go_wp2_with fail
      refine HO.out.mono ?_
      rintro e w' ⟨rfl, hn, hb⟩
      have HN := Lib.hid hn; clear hn
      have HB := Lib.hid hb; clear hb
      go_wp2_with fail
      go_ret
      have hwr := Nat.le_trans HB1.out.size hbel.out.size
      refine ⟨wr.heap.size, rfl, ?_, below_then HB1.out (below_then hbel.out HB.out)⟩
      obtain ⟨q1, cur, q2, q3, q4⟩ := HN.out
      refine ⟨hwr, cur, q2, q3, fun i hi => ?_⟩
      obtain ⟨kb, vb, s1, s2, s3, s4⟩ := q4 i hi
      exact ⟨kb, vb, s1, s2, ⟨Nat.le_trans hwr s3.1, s3.2⟩, ⟨Nat.le_trans hwr s4.1, s4.2⟩⟩
end Go.Proofs.YtajanacbifjmgaaDoor
