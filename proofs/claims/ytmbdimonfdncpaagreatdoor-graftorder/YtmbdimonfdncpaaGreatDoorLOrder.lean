/-
  GraftOrder: for every input the law answers true and leaves its arguments as they were; the row lists math/bits.deBruijn32tab, the card ties it to the program's text (the tie is given).
  Conditions: none beside the row's own.
-/
import Derived.Test.YtmbdimonfdncpaaGreatDoorGTurn
import Derived.Test.YtmbdimonfdncpaaGreatDoorGOpen
import Derived.Deep.RegionHeld3
import Derived.Deep.DeepCutAuto
import Derived.Test.YtmbdimonfdncpaaGreatDoorIn
import Derived.Test.YtmbdimonfdncpaaGreatDoorLaid
import Derived.Test.YtmbdimonfdncpaaGreatDoorCards
import Derived.Test.YtmbdimonfdncpaaGreatDoorTie
import Derived.ShutString
import Derived.ChangeOld
import Derived.Below
namespace Go.Proofs.YtmbdimonfdncpaaGreatDoor.graftOrder
open Go.ChangeShapes Go.WideShapes Go.ChangeAt Go.RowKit Go.Shelf
set_option linter.unusedVariables false
theorem laidOut : laidOutB Tryz.prog = true := by kernel_rfl
set_option maxRecDepth 100000
set_option maxHeartbeats 4000000 in
theorem walk {A0 : Option Addr} {c0 : Nat} {T0 : List Nat} {A1 : Option Addr} {c1 : Nat} {L1 : List Pr} {z2 : Nat} (w : World) (hc0 : T0.length ≤ c0) (hm0 : c0 ≤ maxLen) (ha0 : N64 w A0 T0) (hh0 : ∀ z ∈ T0, z < 18446744073709551616) (hc1 : L1.length ≤ c1) (hm1 : c1 ≤ maxLen) (ha1 : Pcs w A1 L1) (hz2 : z2 < 256) (hT : Tab w) :
    Calls Tryz.prog 3 #[.slice A0 T0.length c0, .slice A1 L1.length c1, .int .u8 (z2 : Int)] w fun e w' => e = .returned (.bool true) ∧ Below w.heap.size w w' := by
  have hml : maxLen ≤ 9223372036854775807 := by decide
  have hL63 := Nat.le_trans (Nat.le_trans hc1 hm1) hml
  have hsm := fine19_any (T := A0) ha1 T0.length c0 c1 40 (by decide) hL63
  obtain ⟨TL, hTL⟩ : ∃ n, n = T0.length := ⟨_, rfl⟩
  obtain ⟨LL, hLL⟩ : ∃ n, n = L1.length := ⟨_, rfl⟩
  cases hs : fineP T0.length L1 40 with
  | false =>
    rw [hs] at hsm
    rw [← hTL, ← hLL] at hsm ⊢
    have HSM := Lib.hid hsm; clear hsm
    have HT := Lib.hid hT; clear hT
    clear ha0 ha1 hs hc0 hm0 hh0 hc1 hm1 hTL hLL hL63
    go_enter Tryz.func3, Tryz.ntmps3
    go_wp2_with fail
    refine HSM.out.mono ?_
    rintro e w1 ⟨rfl, hb⟩
    have HAW := Lib.hid (awake19_any (HT.out.below hb))
    have HB := Lib.hid hb; clear hb
    go_wp2_with fail
    refine HAW.out.mono ?_
    rintro e w2 ⟨rfl, hb⟩
    have HB2 := Lib.hid (below_then HB.out hb); clear hb
    go_wp2_with fail
    go_ret
    exact ⟨rfl, HB2.out⟩
  | true =>
    rw [hs] at hsm
    obtain ⟨ht200, hl40, hsz⟩ := fineP_all hs
    obtain ⟨MP, hMP⟩ : ∃ M : Nat → List Pr, M = fun j => come (L1.take j) := ⟨_, rfl⟩
    have hmg : ∀ j, srt (MP j) ∧ (∀ p ∈ MP j, p.1.length ≤ 100 ∧ p.2.length ≤ 100) ∧ (MP j).length ≤ 60 := fun j => by rw [hMP]; exact come_good hsz (by omega) j
    have hms : ∀ j (h : j < L1.length), MP (j + 1) = put (MP j) L1[j] := fun j h => by rw [hMP]; exact come_step h
    have hm0' : MP 0 = [] := by rw [hMP]; rfl
    have hpu : ∀ W B d j (h : j < L1.length), Rcs W B (MP j) → Calls Tryz.prog 7 #[.slice B (MP j).length d, .agg #[.string ⟨(L1[j]).1.toArray⟩, .string ⟨(L1[j]).2.toArray⟩]] W fun e w' => ∃ A' c', e = .returned (.slice A' (MP (j + 1)).length c') ∧ Rcs w' A' (MP (j + 1)) ∧ Below W.heap.size W w' := fun W B d j h hr => by
      have := refPut_any L1[j] hr d (by have := (hmg j).2.2; omega) (by have := hsz _ (List.getElem_mem h); omega) (fun q hq => by have := (hmg j).2.1 q hq; omega)
      rw [← hms j h] at this
      exact this.mono fun e w' ⟨A', c', h1, h2, _, h4⟩ => ⟨A', c', h1, h2, h4⟩
    obtain ⟨M, hM⟩ : ∃ M, M = MP L1.length := ⟨_, rfl⟩
    obtain ⟨hms1, hms2, hms3⟩ := hmg L1.length
    rw [← hM] at hms1 hms2 hms3
    have hMl : M.length ≤ 40 := by
      have h := come_length (L1.take L1.length)
      have e : M.length ≤ (L1.take L1.length).length := by rw [hM, hMP]; exact h
      rw [List.take_length] at e
      omega
    obtain ⟨Q, hQ⟩ : ∃ Q, Q = turn M z2 := ⟨_, rfl⟩
    have hQs : ∀ p ∈ Q, p.1.length ≤ 100 ∧ p.2.length ≤ 100 := by rw [hQ]; exact turn_small z2 hms2
    have hQl : Q.length = M.length := by rw [hQ]; exact turn_len M z2
    have hha : ∀ W (p : Pr), p.1.length ≤ 100 ∧ p.2.length ≤ 100 → Below w.heap.size w W → Calls Tryz.prog 9 #[.slice A0 T0.length c0, .string ⟨p.1.toArray⟩] W fun e w' => e = .returned (.int .u64 (hashT T0 p.1 : Int)) ∧ W = w' := fun W p hp hW => hash19_any c0 _ (ha0.below hW) ht200 (by omega)
    obtain ⟨X, hX⟩ : ∃ X : Nat → Nd, X = fun j => trieOf T0 M j := ⟨_, rfl⟩
    obtain ⟨Y, hY⟩ : ∃ X : Nat → Nd, X = fun j => trieOf T0 Q j := ⟨_, rfl⟩
    have hgx : ∀ W i (h : i < M.length) nv ka va kc vc, Below w.heap.size w W → Nde (fun _ => True) W (X i) nv → Bts W ka (M[i]).1 → Bts W va (M[i]).2 → Calls Tryz.prog 8 #[nv, .int .u64 (hashT T0 (M[i]).1 : Int), .agg #[.slice ka (M[i]).1.length kc, .slice va (M[i]).2.length vc], .pointer none] W fun r w' => ∃ v' bb, r = .returned (.tuple #[v', .bool bb]) ∧ Nde (fun _ => True) w' (X (i + 1)) v' ∧ Below W.heap.size W w' := fun W i h nv ka va kc vc hW hn hk hv => by
      rw [hX] at hn ⊢
      exact putq_any kc vc (hT.below hW) hh0 hms2 (by omega) h hn hk hv
    have hgy : ∀ W i (h : i < Q.length) nv ka va kc vc, Below w.heap.size w W → Nde (fun _ => True) W (Y i) nv → Bts W ka (Q[i]).1 → Bts W va (Q[i]).2 → Calls Tryz.prog 8 #[nv, .int .u64 (hashT T0 (Q[i]).1 : Int), .agg #[.slice ka (Q[i]).1.length kc, .slice va (Q[i]).2.length vc], .pointer none] W fun r w' => ∃ v' bb, r = .returned (.tuple #[v', .bool bb]) ∧ Nde (fun _ => True) w' (Y (i + 1)) v' ∧ Below W.heap.size W w' := fun W i h nv ka va kc vc hW hn hk hv => by
      rw [hY] at hn ⊢
      exact putq_any kc vc (hT.below hW) hh0 hQs (by omega) h hn hk hv
    have hsf : ∀ W v u, Below w.heap.size w W → Nde (fun _ => True) W (X M.length) v → Nde (fun _ => True) W (Y M.length) u → Calls Tryz.prog 10 #[v, u] W fun e w' => e = .returned (.bool true) ∧ Below W.heap.size W w' := fun W v u hW h1 h2 => by
      have e1 : X M.length = layL 13 0 (entE (hashT T0) M) := by rw [hX]; show layL 13 0 (entE (hashT T0) (come (M.take M.length))) = _; rw [List.take_length, come_self M hms1]
      have e2 : Y M.length = layL 13 0 (entE (hashT T0) M) := by rw [hY]; show layL 13 0 (entE (hashT T0) (come (Q.take M.length))) = _; rw [← hQl, List.take_length, hQ, turn_come z2 hms1]
      rw [e1] at h1
      rw [e2] at h2
      exact selfn_any hh0 hms1 hms2 (by omega) (hT.below hW) h1 h2
    have hX0 : X 0 = .none := by rw [hX]; rfl
    have hY0 : Y 0 = .none := by rw [hY]; rfl
    have hQg : ∀ i (h : i < Q.length) (h2 : turnAt M.length z2 i < M.length), Q[i] = M[turnAt M.length z2 i] := fun i h h2 => by subst hQ; exact turn_get h h2
    obtain ⟨NL, hNL⟩ : ∃ N : Nat → Nat, N = fun j => (MP j).length := ⟨_, rfl⟩
    have hNe : ∀ j, (MP j).length = NL j := fun j => by rw [hNL]
    have hN0 : NL 0 = 0 := by rw [← hNe, hm0']; rfl
    obtain ⟨N, hN⟩ : ∃ N, N = M.length := ⟨_, rfl⟩
    have hNN : NL LL = N := by rw [← hNe, hN, hM, hLL]
    have hMM : MP LL = M := by rw [hM, hLL]
    simp only [hNe] at hpu
    rw [← hTL, ← hLL] at hsm ⊢
    simp only [← hTL] at hha
    simp only [← hN] at hsf hMl
    have HSM := Lib.hid hsm; clear hsm
    have HPU := Lib.hid hpu; clear hpu
    have HHA := Lib.hid hha; clear hha
    have HGX := Lib.hid hgx; clear hgx
    have HGY := Lib.hid hgy; clear hgy
    have HSF := Lib.hid hsf; clear hsf
    have HT := Lib.hid hT; clear hT
    have HL := Lib.hid ha1; clear ha1
    have HLL := Lib.hid hLL; clear hLL
    have HX0 := Lib.hid (And.intro (And.intro hX0 hY0) (And.intro hN0 hm0')); clear hX0 hY0 hN0 hm0'
    have HSZ := Lib.hid hsz; clear hsz
    have HMS := Lib.hid hms2; clear hms2
    have HQS := Lib.hid hQs; clear hQs
    have HNN := Lib.hid (And.intro hNN (And.intro hMM (And.intro hN (hQl.trans hN.symm)))); clear hNN hMM hN hQl
    have HQG := Lib.hid hQg; clear hQg
    clear ha0 hs hc0 hm0 hh0 hc1 hm1 hTL hL63 hml hMP hmg hms hX hY hM hms1 hms3 hQ hNL hNe ht200
    go_enter Tryz.func3, Tryz.ntmps3
    go_wp2_with fail
    refine HSM.out.mono ?_
    rintro e w1 ⟨rfl, hb⟩
    have B1 := Lib.hid hb; clear hb HSM
    go_wp2_with fail
    go_loopw [7, 22] (fun mv u wr => ∃ (j : Nat) (B : Option Addr) (d : Nat), u = .int .i64 j ∧ j ≤ LL ∧ mv = .slice B (NL j) d ∧ Hid (Below w.heap.size w wr) ∧ Hid (Rcs wr B (MP j))) (fun _ u _ => LL - (intOf u).toNat)
    case atStart => exact ⟨0, none, 0, rfl, by omega, by rw [HX0.out.2.1], B1.out, by rw [HX0.out.2.2]; exact .inl rfl⟩
    case round =>
      obtain ⟨j, B, d, rfl, hj, rfl, hbel, hrc⟩ := hrel
      by_cases hlt : j < LL
      · have hlt' : j < L1.length := by rw [← HLL.out]; exact hlt
        obtain ⟨b, off, ka, kc, va, vc, rfl, hbl, g1, g2, hk, hv⟩ := pcs_at (HL.out.below hbel.out) hlt'
        obtain ⟨K, hK⟩ : ∃ K, K = (L1[j]).1 := ⟨_, rfl⟩
        obtain ⟨V, hV⟩ : ∃ V, V = (L1[j]).2 := ⟨_, rfl⟩
        have hpu := fun W B d (hr : Rcs W B (MP j)) => HPU.out W B d j hlt' hr
        simp only [← hK, ← hV] at g1 g2 hk hv hpu
        obtain ⟨x, hx⟩ : ∃ x : Nat, x = K.length := ⟨_, rfl⟩
        obtain ⟨y, hy⟩ : ∃ x : Nat, x = V.length := ⟨_, rfl⟩
        obtain ⟨gb, hgb⟩ : ∃ g, g = wr.heap.size := ⟨_, rfl⟩
        obtain ⟨wa, hwa⟩ : ∃ wa, wa = wr.alloc (.cells #[.slice ka x kc, .slice va y vc] 29) := ⟨_, rfl⟩
        have hba : Below wr.heap.size wr wa := by rw [hwa]; exact (Below.refl _ _).alloc (Nat.le_refl _) _
        have ra : wa.heap[gb]? = some (.cells #[.slice ka x kc, .slice va y vc] 29 (0, 0)) := by rw [hwa, hgb]; exact heap_alloc_new wr _
        have v1 := conv_any (hk.below hba) kc
        have v2 := conv_any (hv.below hba) vc
        obtain ⟨d0, d1⟩ : wa.cell? ⟨gb, 0, none⟩ = some (.slice ka x kc) ∧ wa.cell? ⟨gb, 1, none⟩ = some (.slice va y vc) := ⟨row_cell ra rfl, row_cell ra rfl⟩
        obtain ⟨sk, hsk⟩ : ∃ s : ByteArray, s = ⟨K.toArray⟩ := ⟨_, rfl⟩
        obtain ⟨sv, hsv⟩ : ∃ s : ByteArray, s = ⟨V.toArray⟩ := ⟨_, rfl⟩
        rw [← hsk, ← hx] at v1
        rw [← hsv, ← hy] at v2
        simp only [← hsk, ← hsv] at hpu
        rw [← hx] at g1
        rw [← hy] at g2
        have HPU1 := Lib.hid (hpu wa B d (hrc.out.below hba)); clear hpu
        have BA := Lib.hid (below_then hbel.out hba)
        have HWA := Lib.hid hwa; clear hwa
        have HGB := Lib.hid hgb; clear hgb
        clear hK hV hsk hsv hk hv hba ra HPU hrc hx hy
        go_upto_region 7 with fail
        rw [← HWA.out, ← HGB.out]
        go_wp2_with fail
        refine HPU1.out.mono ?_
        rintro e w3 ⟨A3, c3, rfl, hr3, hb3⟩
        have R3 := Lib.hid hr3
        have B3 := Lib.hid (below_then BA.out hb3)
        clear v1 v2 d0 d1 hr3 hb3 HPU1
        go_wp2_with fail
        go_roundw
        case rel => exact ⟨j + 1, A3, c3, by go_num, by omega, rfl, B3.out, R3.out⟩
        case measure => simp [intOf]; omega
      · obtain rfl : j = LL := by omega
        rw [HNN.out.1]
        rw [HNN.out.2.1] at hrc
        clear HPU
        go_wp2_with fail
        go_loopw [10, 11, 38] (fun av bv u wx => ∃ i : Nat, u = .int .i64 i ∧ i ≤ N ∧ Hid (Below wr.heap.size wr wx) ∧ Hid (Nde (fun _ => True) wx (X i) av) ∧ Hid (Nde (fun _ => True) wx (Y i) bv)) (fun _ _ u _ => N - (intOf u).toNat)
        case atStart => exact ⟨0, rfl, by omega, Below.refl _ _, by rw [HX0.out.1.1]; rfl, by rw [HX0.out.1.2]; rfl⟩
        case round =>
          obtain ⟨i, rfl, hi, hb1, hn1, hn2⟩ := hrel
          by_cases hlt : i < N
          · have hiM : i < M.length := by rw [← HNN.out.2.2.1]; exact hlt
            have hiQ : i < Q.length := by rw [HNN.out.2.2.2]; exact hlt
            have htl : turnAt N z2 i < N := turnAt_lt (by omega) z2 i
            have htM : turnAt M.length z2 i < M.length := by rw [← HNN.out.2.2.1]; exact htl
            obtain ⟨bm, rfl, hbm, k1, k2⟩ := (hrc.out.below hb1.out).at hiM
            obtain ⟨bm', ebm, _, k3, k4⟩ := (hrc.out.below hb1.out).at htM
            obtain rfl : bm = bm' := by injection ebm with ebm; injection ebm
            have hqg := HQG.out i hiQ htM
            obtain ⟨p, hp⟩ : ∃ p, p = M[i] := ⟨_, rfl⟩
            obtain ⟨q, hq⟩ : ∃ p, p = Q[i] := ⟨_, rfl⟩
            have hps := HMS.out p (by rw [hp]; exact List.getElem_mem _)
            have hqs := HQS.out q (by rw [hq]; exact List.getElem_mem _)
            have hgx := fun W nv ka va kc vc (hW : Below w.heap.size w W) (hn : Nde (fun _ => True) W (X i) nv) => HGX.out W i hiM nv ka va kc vc hW hn
            have hgy := fun W nv ka va kc vc (hW : Below w.heap.size w W) (hn : Nde (fun _ => True) W (Y i) nv) => HGY.out W i hiQ nv ka va kc vc hW hn
            have hhp := fun W (hW : Below w.heap.size w W) => HHA.out W p hps hW
            have hhq := fun W (hW : Below w.heap.size w W) => HHA.out W q hqs hW
            obtain ⟨fk, lk, gk, ck, dk⟩ := conv_fun p.1
            obtain ⟨fv, lv, gv, cv, dv⟩ := conv_fun p.2
            obtain ⟨fk', lk', gk', ck', dk'⟩ := conv_fun q.1
            obtain ⟨fv', lv', gv', cv', dv'⟩ := conv_fun q.2
            simp only [← hp] at k1 k2 hgx
            simp only [← hqg, ← hq] at k3 k4
            simp only [← hq] at hgy
            have etl : turnAt M.length z2 i = turnAt N z2 i := by rw [HNN.out.2.2.1]
            rw [etl] at k3 k4
            obtain ⟨t, ht⟩ : ∃ t, t = turnAt N z2 i := ⟨_, rfl⟩
            rw [← ht] at k3 k4 htl
            have hrem2 : Int.tmod ((N : Int) - 1 - (i : Int) + (z2 : Int)) (N : Int) = (t : Int) := by
              have e : (N : Int) - 1 - (i : Int) + (z2 : Int) = ((N - 1 - i + z2 : Nat) : Int) := by omega
              rw [e, ht, turnAt, Int.tmod_eq_emod_of_nonneg (by omega)]
              exact (Int.natCast_emod _ _).symm
            have hrem : ((N : Int) - 1 - (i : Int) + (z2 : Int)) % (N : Int) = (t : Int) := by
              have e : (N : Int) - 1 - (i : Int) + (z2 : Int) = ((N - 1 - i + z2 : Nat) : Int) := by omega
              rw [e, ht, turnAt]
              exact (Int.natCast_emod _ _).symm
            have hne : ((N : Int) == 0) = false := by simp; omega
            have hne2 : ¬ (N : Int) = 0 := by omega
            obtain ⟨pk, hpk⟩ : ∃ s : ByteArray, s = ⟨p.1.toArray⟩ := ⟨_, rfl⟩
            obtain ⟨pv, hpv⟩ : ∃ s : ByteArray, s = ⟨p.2.toArray⟩ := ⟨_, rfl⟩
            obtain ⟨qk, hqk⟩ : ∃ s : ByteArray, s = ⟨q.1.toArray⟩ := ⟨_, rfl⟩
            obtain ⟨qv, hqv⟩ : ∃ s : ByteArray, s = ⟨q.2.toArray⟩ := ⟨_, rfl⟩
            obtain ⟨lp, hlp⟩ : ∃ x, x = p.1.length := ⟨_, rfl⟩
            obtain ⟨lp', hlp'⟩ : ∃ x, x = p.2.length := ⟨_, rfl⟩
            obtain ⟨lq, hlq⟩ : ∃ x, x = q.1.length := ⟨_, rfl⟩
            obtain ⟨lq', hlq'⟩ : ∃ x, x = q.2.length := ⟨_, rfl⟩
            obtain ⟨hp1, hhp1⟩ : ∃ x, x = hashT T0 p.1 := ⟨_, rfl⟩
            obtain ⟨hq1, hhq1⟩ : ∃ x, x = hashT T0 q.1 := ⟨_, rfl⟩
            simp only [← hpk, ← hlp] at ck k1
            simp only [← hpv, ← hlp'] at cv k2
            simp only [← hqk, ← hlq] at ck' k3
            simp only [← hqv, ← hlq'] at cv' k4
            simp only [← hpk, ← hhp1] at hhp
            simp only [← hqk, ← hhq1] at hhq
            simp only [← hlp, ← hlp', ← hhp1] at hgx
            simp only [← hlq, ← hlq', ← hhq1] at hgy
            obtain ⟨gp, hgp⟩ : ∃ g, g = wr.heap.size := ⟨_, rfl⟩
            obtain ⟨wa, hwa⟩ : ∃ wa, wa = wr.alloc (.cells #[.string pk, .string pv] 32) := ⟨_, rfl⟩
            obtain ⟨gq, hgq⟩ : ∃ g, g = wa.heap.size := ⟨_, rfl⟩
            obtain ⟨wb, hwb⟩ : ∃ wb, wb = wa.alloc (.cells #[.string qk, .string qv] 32) := ⟨_, rfl⟩
            have hba : Below wr.heap.size wr wa := by rw [hwa]; exact (Below.refl _ _).alloc (Nat.le_refl _) _
            have hbb : Below wa.heap.size wa wb := by rw [hwb]; exact (Below.refl _ _).alloc (Nat.le_refl _) _
            have hab := below_then hba hbb
            have rp : wa.heap[gp]? = some (.cells #[.string pk, .string pv] 32 (0, 0)) := by rw [hwa, hgp]; exact heap_alloc_new wr _
            have rq : wb.heap[gq]? = some (.cells #[.string qk, .string qv] 32 (0, 0)) := by rw [hwb, hgq]; exact heap_alloc_new wa _
            have rp2 := (hbb.block _ (Array.getElem?_eq_some_iff.1 rp).1).trans rp
            have HBX : Hid (∀ W, Below wb.heap.size wb W → W.cell? ⟨gp, 0, none⟩ = some (.string pk) ∧ W.cell? ⟨gp, 1, none⟩ = some (.string pv)) := fun W hW => by
              have r := (hW.block _ (Array.getElem?_eq_some_iff.1 rp2).1).trans rp2
              exact ⟨row_cell r rfl, row_cell r rfl⟩
            have HBY : Hid (∀ W, Below wb.heap.size wb W → W.cell? ⟨gq, 0, none⟩ = some (.string qk) ∧ W.cell? ⟨gq, 1, none⟩ = some (.string qv)) := fun W hW => by
              have r := (hW.block _ (Array.getElem?_eq_some_iff.1 rq).1).trans rq
              exact ⟨row_cell r rfl, row_cell r rfl⟩
            have a3 := (hba.cell (p := ⟨bm, t * 2, none⟩) hbm).trans k3
            have a4 := (hba.cell (p := ⟨bm, t * 2 + 1, none⟩) hbm).trans k4
            have BB := Lib.hid (below_then hb1.out hab)
            have BW := Lib.hid (below_then hbel.out BB.out)
            have NX := Lib.hid (hn1.out.below hab)
            have NY := Lib.hid (hn2.out.below hab)
            have HWA := Lib.hid (And.intro hwa hgp); clear hwa hgp
            have HWB := Lib.hid (And.intro hwb hgq); clear hwb hgq
            have HHP := Lib.hid hhp; clear hhp
            have HHQ := Lib.hid hhq; clear hhq
            have HGX1 := Lib.hid hgx; clear hgx
            have HGY1 := Lib.hid hgy; clear hgy
            have HCP := Lib.hid (And.intro ck (And.intro dk (And.intro cv dv))); clear ck dk cv dv
            have HCQ := Lib.hid (And.intro ck' (And.intro dk' (And.intro cv' dv'))); clear ck' dk' cv' dv'
            clear hba hbb hab rp rq rp2 hq hp hqg ht htM hiM hiQ ebm etl hpk hpv hqk hqv hlp hlp' hlq hlq' hhp1 hhq1 hn1 hn2 hb1 HGX HGY
            clear hps hqs
            go_upto_region 14 with fail
            rw [← HWA.out.1, ← HWA.out.2]
            clear k1 k2 k3 k4
            go_upto_region 15 with fail
            rw [← HWB.out.1, ← HWB.out.2]
            clear a3 a4 hrem hrem2 hne hne2 htl
            go_cut [10] from 59 to 91 (fun s10 wx => Hid (Nde (fun _ => True) wx (X (i + 1)) s10) ∧ Hid (Below wb.heap.size wb wx))
            case first =>
              skip
              have hz0 : Below wb.heap.size wb wb.drew := (Below.refl _ _).drew
              obtain ⟨ck, dk, cv, dv⟩ := HCP.out
              have ZK := below_then hz0 (dk _).1
              have ZV := below_then hz0 (dv _).1
              have ZA := below_then ZK (dv _).1
              have ZB := below_then ZV (dk _).1
              have UPW : Hid (∀ W, Below wb.heap.size wb W → Below w.heap.size w W) := fun W hW => below_then BW.out (hW)
              have PA := Lib.hid (HGX1.out _ u10 (some ⟨fk wb.drew, 0, none⟩) (some ⟨fv (gk wb.drew), 0, none⟩) (lk wb.drew) (lv (gk wb.drew)) (UPW.out _ ZA) (NX.out.below (ZA)) ((dk _).2.below (dv _).1) (dv _).2)
              have PB := Lib.hid (HGX1.out _ u10 (some ⟨fk (gv wb.drew), 0, none⟩) (some ⟨fv wb.drew, 0, none⟩) (lk (gv wb.drew)) (lv wb.drew) (UPW.out _ ZB) (NX.out.below (ZB)) (dk _).2 ((dv _).2.below (dk _).1))
              have KP : Hid (∀ W, Below wb.heap.size wb W → W.cell? ⟨gp, 0, none⟩ = some (.string pk) ∧ W.cell? ⟨gp, 1, none⟩ = some (.string pv)) := fun W hW => HBX.out W (hW)
              have HHW : Hid (∀ W, Below wb.heap.size wb W → Calls Tryz.prog 9 #[.slice A0 TL c0, .string pk] W fun e w' => e = .returned (.int .u64 (hp1 : Int)) ∧ W = w') := fun W hW => HHP.out W (UPW.out W hW)
              clear dk dv
              go_region_held (fun W => W.cell? ⟨gp, 0, none⟩ = some (.string pk) ∧ W.cell? ⟨gp, 1, none⟩ = some (.string pv)) (first | (with_reducible exact KP.out _ hz0) | (with_reducible exact KP.out _ ZK) | (with_reducible exact KP.out _ ZV) | (with_reducible exact KP.out _ ZA) | (with_reducible exact KP.out _ ZB) | (with_reducible exact KP.out _ hzA)) (first
                | (go_at_call 9; (with_reducible refine (HHW.out _ (by first | (with_reducible exact hz0) | (with_reducible exact ZK) | (with_reducible exact ZV) | (with_reducible exact ZA) | (with_reducible exact ZB))).mono ?_); rintro r w' ⟨rfl, rfl⟩)
                | (go_at_call 8; (with_reducible refine PA.out.mono ?_); rintro r wA ⟨v4, bb, rfl, hn4, hb4⟩; have hzA := below_then ZA hb4)
                | (go_at_call 8; (with_reducible refine PB.out.mono ?_); rintro r wA ⟨v4, bb, rfl, hn4, hb4⟩; have hzA := below_then ZB hb4)
                | fail)
              all_goals
                go_wp2_with fail
                go_meet
                exact ⟨hn4, hzA⟩
            case rest =>
              obtain ⟨hnA, hbA⟩ := hcut
              go_wp2_with fail
              have hz0 : Below wc.heap.size wc wc.drew := (Below.refl _ _).drew
              obtain ⟨ck, dk, cv, dv⟩ := HCQ.out
              have ZK := below_then hz0 (dk _).1
              have ZV := below_then hz0 (dv _).1
              have ZA := below_then ZK (dv _).1
              have ZB := below_then ZV (dk _).1
              have UPW : Hid (∀ W, Below wc.heap.size wc W → Below w.heap.size w W) := fun W hW => below_then BW.out (below_then hbA.out hW)
              have PA := Lib.hid (HGY1.out _ u11 (some ⟨fk' wc.drew, 0, none⟩) (some ⟨fv' (gk' wc.drew), 0, none⟩) (lk' wc.drew) (lv' (gk' wc.drew)) (UPW.out _ ZA) (NY.out.below (below_then hbA.out ZA)) ((dk _).2.below (dv _).1) (dv _).2)
              have PB := Lib.hid (HGY1.out _ u11 (some ⟨fk' (gv' wc.drew), 0, none⟩) (some ⟨fv' wc.drew, 0, none⟩) (lk' (gv' wc.drew)) (lv' wc.drew) (UPW.out _ ZB) (NY.out.below (below_then hbA.out ZB)) (dk _).2 ((dv _).2.below (dk _).1))
              have KP : Hid (∀ W, Below wc.heap.size wc W → W.cell? ⟨gq, 0, none⟩ = some (.string qk) ∧ W.cell? ⟨gq, 1, none⟩ = some (.string qv)) := fun W hW => HBY.out W (below_then hbA.out hW)
              have HHW : Hid (∀ W, Below wc.heap.size wc W → Calls Tryz.prog 9 #[.slice A0 TL c0, .string qk] W fun e w' => e = .returned (.int .u64 (hq1 : Int)) ∧ W = w') := fun W hW => HHQ.out W (UPW.out W hW)
              clear dk dv
              go_region_held (fun W => W.cell? ⟨gq, 0, none⟩ = some (.string qk) ∧ W.cell? ⟨gq, 1, none⟩ = some (.string qv)) (first | (with_reducible exact KP.out _ hz0) | (with_reducible exact KP.out _ ZK) | (with_reducible exact KP.out _ ZV) | (with_reducible exact KP.out _ ZA) | (with_reducible exact KP.out _ ZB) | (with_reducible exact KP.out _ hzA)) (first
                | (go_at_call 9; (with_reducible refine (HHW.out _ (by first | (with_reducible exact hz0) | (with_reducible exact ZK) | (with_reducible exact ZV) | (with_reducible exact ZA) | (with_reducible exact ZB))).mono ?_); rintro r w' ⟨rfl, rfl⟩)
                | (go_at_call 8; (with_reducible refine PA.out.mono ?_); rintro r wA ⟨v4, bb, rfl, hn4, hb4⟩; have hzA := below_then ZA hb4)
                | (go_at_call 8; (with_reducible refine PB.out.mono ?_); rintro r wA ⟨v4, bb, rfl, hn4, hb4⟩; have hzA := below_then ZB hb4)
                | fail)
              all_goals
                clear PA PB KP HHW UPW ZK ZV ZA ZB hz0
                go_wp2_with fail
                go_roundw
                case rel => exact ⟨i + 1, by go_num, by omega, below_then BB.out (below_then hbA.out hzA), hnA.out.below hzA, hn4⟩
                case measure => simp [intOf]; omega
          · obtain rfl : i = N := by omega
            have JS := Lib.hid (HSF.out _ _ _ (below_then hbel.out hb1.out) hn1.out hn2.out)
            have BX := Lib.hid (below_then hbel.out hb1.out)
            clear HSF hn1 hn2 HGX HGY HHA
            go_wp2_with fail
            refine JS.out.mono ?_
            rintro e w4 ⟨rfl, hb4⟩
            have B4 := Lib.hid (below_then BX.out hb4)
            have JA := Lib.hid (awake19_any (HT.out.below B4.out)); clear hb4 JS
            go_wp2_with fail
            refine JA.out.mono ?_
            rintro e w5 ⟨rfl, hb5⟩
            have B5 := Lib.hid (below_then B4.out hb5); clear hb5 JA
            go_wp2_with fail
            go_ret
            exact ⟨rfl, B5.out⟩

theorem lifted (os : Os) (started : os.Started) (H : Type) (enc : TypeId × Value → H) :
    ReturnsInHanded {} Tryz.checked os 3 .any (fun w args => (Rows.graftOrderSpec.pre enc Tryz.prog Tryz.f3 [] false w args ∧ laidMetH Tryz.prog laid w) ∧ sizedMet enc Tryz.prog Tryz.f3 (OpenSpec.ofChange Rows.graftOrderSpec) false w args)
      (Rows.graftOrderSpec.post enc Tryz.prog Tryz.f3 false true false false) := by
  refine returnsInHanded_of_change_and (C := Tryz.checked) (X := fun w _ => laidMetH Tryz.prog laid w) (fun _ _ _ hh h => h.of_heap hh) own started (by kernel_rfl) Tryz.func3
    (ChangeSpec.witness_shaped (enc := enc) (C := Tryz.checked) (os := os) (X := fun w _ => laidMetH Tryz.prog laid w) false (World.laidAll Tryz.prog os laid) #[.slice none 0 0, .slice none 0 0, .int .u8 0] 8 (World.laidAll_os _ _ _)
      (World.shaped_of_ZipB (by kernel_rfl) (by kernel_rfl)) (by kernel_rfl) (by kernel_rfl) (by kernel_rfl)
      (by rw [MakeChecks.laidMetH_plain _ _ _ (by kernel_rfl)]; exact laidMet_laidAll _ (by kernel_rfl) (by kernel_rfl))) ?_
  intro W base args ds gs before hval0 hW _ _ hL _
  have hval : ∀ (j : Nat) t v, Tryz.f3.params[j]? = some t → args[j]? = some v → Value.okWide Tryz.prog W .any base t v := hval0
  have hW' := hW
  obtain ⟨p, q, hA0, hV, rfl, _, _⟩ := hW
  have hA : DataW.TrodAll enc Tryz.prog W 0 (fun _ => true) true Tryz.f3.params.toList args.toList ds p := hA0
  rw [Tryz.params3] at hA hval
  obtain ⟨v0, vs0, d0, ds0, p0, q0, hargs, rfl, rfl, h0, r0⟩ := trodAll_cons hA
  obtain ⟨v1, vs1, d1, ds1, p1, q1, rfl, rfl, rfl, h1, r1⟩ := trodAll_cons r0
  obtain ⟨v2, vs2, d2, ds2, p2, q2, rfl, rfl, rfl, h2, r2⟩ := trodAll_cons r1
  obtain ⟨rfl, rfl, rfl⟩ := trodAll_nil r2
  obtain rfl : args = #[v0, v1, v2] := by cases args; simp_all
  obtain ⟨rfl, rfl⟩ := trodVars_none hV
  have lt0 : ∀ x ∈ p0, x.block < W.heap.size := by obtain ⟨m, hm⟩ := h0; exact DataW.trod_lt m _ _ _ hm
  have ok0 := hval 0 22 v0 rfl rfl
  have lt1 : ∀ x ∈ p1, x.block < W.heap.size := by obtain ⟨m, hm⟩ := h1; exact DataW.trod_lt m _ _ _ hm
  have ok1 := hval 1 23 v1 rfl rfl
  have lt2 : ∀ x ∈ p2, x.block < W.heap.size := by obtain ⟨m, hm⟩ := h2; exact DataW.trod_lt m _ _ _ hm
  have ok2 := hval 2 5 v2 rfl rfl
  clear hA0 hval0 hval
  obtain ⟨A0, c0, T0, rfl, hc0, hm0, ha0, hh0⟩ := nums64_in ok0 h0
  obtain ⟨A1, c1, L1, rfl, hc1, hm1, ha1⟩ := pairs_in ok1 h1
  obtain ⟨z2, rfl, hz2⟩ := u8_in ok2 h2
  refine (walk W hc0 hm0 ha0 hh0 hc1 hm1 ha1 hz2 (tab_of_laid hL)).mono fun e W' ⟨he, bel⟩ => ?_
  subst he
  exact ⟨_, rfl, _, _, _, [], _, [], hW', trodAll_mk1 (shut_bool Tryz.underlying4 _), (trodAll_cons_mk (Below.trod laidOut (by kernel_rfl) (of_decide_eq_true (by kernel_rfl)) h0 bel lt0) (trodAll_cons_mk (Below.trod laidOut (by kernel_rfl) (of_decide_eq_true (by kernel_rfl)) h1 bel lt1) (trodAll_cons_mk (Below.trod laidOut (by kernel_rfl) (of_decide_eq_true (by kernel_rfl)) h2 bel lt2) trodAll_mk0))), rfl, bel.frame _, fun h => by cases h⟩

theorem over : Rows.GraftOrderSaid :=
  OpenClaim.holds_of_wide 3 Tryz.f3 rfl rfl rfl rfl rfl rfl rfl ⟨rfl, rfl, rfl, rfl, rfl⟩ rfl rfl rfl rfl rfl (by kernel_rfl) Tryz.func3 (by kernel_rfl)
    (of_decide_eq_true (by kernel_rfl)) (by unfold Func.isWrapper; first | (rw [if_pos (by decide +kernel)]; kernel_rfl) | (rw [if_neg (by decide +kernel)]; exact ⟨rfl, rfl⟩))
    (fun os started H enc _ => lifted os started H enc)

/-- ████ THE STATEMENT: THE TIED CARD ████ -/
theorem proved : Rows.GraftOrderCardSaid :=
  Claim7.holds_tied_plain_at .later [] [.data] true (true, "4222baa68a6bb6fefef8a4cb7cd168bca50d828e60942ba37aafc22ca60e1a7a") true over (fun _ h => by cases h) (by kernel_rfl) (fun _ h => by cases h) graftOrder_row_tie rfl ⟨rfl, rfl⟩ (by kernel_rfl) rfl
    (fun f fn hf hfn => by
      obtain rfl : f = 3 := Option.some.inj ((show Tryz.prog.funcNamed "brushwood/brushwoodlaw19.GraftOrder" = some 3 by kernel_rfl).symm.trans hf) |>.symm
      obtain rfl : fn = Tryz.f3 := (Option.some.inj (Tryz.func3.symm.trans hfn)).symm
      exact ⟨by kernel_rfl, fun j t ht => by
        rw [Tryz.params3] at ht
        have hm : t ∈ [22, 23, 5] := by simpa using Array.mem_of_getElem? ht
        have hall : ([22, 23, 5].all fun u => !Tryz.prog.wantsStandIn u) = true := by kernel_rfl
        exact (show Tryz.prog.wantsStandIn t = false by simpa using List.all_eq_true.1 hall t hm)⟩)
    (by kernel_rfl)
#print axioms proved
end Go.Proofs.YtmbdimonfdncpaaGreatDoor.graftOrder
