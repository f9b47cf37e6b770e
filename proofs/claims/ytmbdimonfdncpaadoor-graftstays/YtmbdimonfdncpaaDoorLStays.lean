/-
  GraftStays: for every input the law answers true and leaves its arguments as they were; the row lists math/bits.deBruijn32tab, the card ties it to the program's text (the tie is given).
  Conditions: none beside the row's own.
-/
import Derived.Test.YtmbdimonfdncpaaDoorGStay
import Derived.Test.YtmbdimonfdncpaaDoorGOpen
import Derived.Deep.RegionHeld3
import Derived.Deep.DeepCutAuto
import Derived.Test.YtmbdimonfdncpaaDoorIn
import Derived.Test.YtmbdimonfdncpaaDoorLaid
import Derived.Test.YtmbdimonfdncpaaDoorCards
import Derived.Test.YtmbdimonfdncpaaDoorTie
import Derived.ShutString
import Derived.ChangeOld
import Derived.Below
namespace Go.Proofs.YtmbdimonfdncpaaDoor.graftStays
open Go.ChangeShapes Go.WideShapes Go.ChangeAt Go.RowKit Go.Shelf
set_option linter.unusedVariables false
theorem laidOut : laidOutB Tryd.prog = true := by kernel_rfl
set_option maxRecDepth 100000
set_option maxHeartbeats 4000000 in
theorem walk {A0 : Option Addr} {c0 : Nat} {T0 : List Nat} {A1 : Option Addr} {c1 : Nat} {L1 : List Pr} (w : World) (hc0 : T0.length ≤ c0) (hm0 : c0 ≤ maxLen) (ha0 : N64 w A0 T0) (hh0 : ∀ z ∈ T0, z < 18446744073709551616) (hc1 : L1.length ≤ c1) (hm1 : c1 ≤ maxLen) (ha1 : Pcs w A1 L1) (hT : Tab w) :
    Calls Tryd.prog 4 #[.slice A0 T0.length c0, .slice A1 L1.length c1] w fun e w' => e = .returned (.bool true) ∧ Below w.heap.size w w' := by
  have hml : maxLen ≤ 9223372036854775807 := by decide
  have hL63 := Nat.le_trans (Nat.le_trans hc1 hm1) hml
  have hsm := fine19_any (T := A0) ha1 T0.length c0 c1 25 (by decide) hL63
  obtain ⟨TL, hTL⟩ : ∃ n, n = T0.length := ⟨_, rfl⟩
  obtain ⟨LL, hLL⟩ : ∃ n, n = L1.length := ⟨_, rfl⟩
  cases hs : fineP T0.length L1 25 with
  | false =>
    rw [hs] at hsm
    rw [← hTL, ← hLL] at hsm ⊢
    have HSM := Lib.hid hsm; clear hsm
    have HT := Lib.hid hT; clear hT
    clear ha0 ha1 hs hc0 hm0 hh0 hc1 hm1 hTL hLL hL63
    go_enter Tryd.func4, Tryd.ntmps4
    go_wp2_with fail
    refine HSM.out.mono ?_
    rintro e w1 ⟨rfl, hb⟩
    have HAW := Lib.hid (awake19_any (HT.out.below hb))
    have HB := Lib.hid hb; clear hb
    go_wp2_with fail
    refine HAW.out.mono ?_
    rintro e w2 ⟨rfl, hb⟩
    have HB2 := Lib.hid (below_then HB.out hb); clear hb
    go_wp2_with fail
    go_ret
    exact ⟨rfl, HB2.out⟩
  | true =>
    rw [hs] at hsm
    obtain ⟨ht200, hl25, hsz⟩ := fineP_all hs
    obtain ⟨MP, hMP⟩ : ∃ M : Nat → List Pr, M = fun j => come (L1.take j) := ⟨_, rfl⟩
    have hmg : ∀ j, srt (MP j) ∧ (∀ p ∈ MP j, p.1.length ≤ 100 ∧ p.2.length ≤ 100) ∧ (MP j).length ≤ 60 := fun j => by rw [hMP]; exact come_good hsz (by omega) j
    have hms : ∀ j (h : j < L1.length), MP (j + 1) = put (MP j) L1[j] := fun j h => by rw [hMP]; exact come_step h
    have hm0' : MP 0 = [] := by rw [hMP]; rfl
    have hpu : ∀ W B d j (h : j < L1.length), Rcs W B (MP j) → Calls Tryd.prog 8 #[.slice B (MP j).length d, .agg #[.string ⟨(L1[j]).1.toArray⟩, .string ⟨(L1[j]).2.toArray⟩]] W fun e w' => ∃ A' c', e = .returned (.slice A' (MP (j + 1)).length c') ∧ Rcs w' A' (MP (j + 1)) ∧ Below W.heap.size W w' := fun W B d j h hr => by
      have := refPut_any L1[j] hr d (by have := (hmg j).2.2; omega) (by have := hsz _ (List.getElem_mem h); omega) (fun q hq => by have := (hmg j).2.1 q hq; omega)
      rw [← hms j h] at this
      exact this.mono fun e w' ⟨A', c', h1, h2, _, h4⟩ => ⟨A', c', h1, h2, h4⟩
    have hha : ∀ W j (h : j < L1.length), Below w.heap.size w W → Calls Tryd.prog 10 #[.slice A0 T0.length c0, .string ⟨(L1[j]).1.toArray⟩] W fun e w' => e = .returned (.int .u64 (hashT T0 (L1[j]).1 : Int)) ∧ W = w' := fun W j h hW => hash19_any c0 _ (ha0.below hW) ht200 (by have := hsz _ (List.getElem_mem h); omega)
    have hgp : ∀ F W j (h : j < L1.length) nv ka va kc vc, Fut F W → Below w.heap.size w W → Nde F W (layL 13 0 (entE (hashT T0) (MP j))) nv → Bts W ka (L1[j]).1 → Bts W va (L1[j]).2 → Calls Tryd.prog 9 #[nv, .int .u64 (hashT T0 (L1[j]).1 : Int), .agg #[.slice ka (L1[j]).1.length kc, .slice va (L1[j]).2.length vc], .pointer none] W fun r w' => ∃ v' bb, r = .returned (.tuple #[v', .bool bb]) ∧ Nde F w' (layL 13 0 (entE (hashT T0) (MP (j + 1)))) v' ∧ Below W.heap.size W w' := fun F W j h nv ka va kc vc hF hW hn hk hv => by
      have := putn_any (m := none) (vv := 0) (c := 0) kc vc hF (hT.below hW) hh0 (hmg j).1 (hmg j).2.1 (by have := (hmg j).2.2; omega) (hsz _ (List.getElem_mem h)) hn (.inl rfl) (fun a e => by cases e) hk hv (by decide) (by decide)
      rw [← hms j h] at this
      exact this.mono fun e w' ⟨v', _, _, h1, h2, _, h4, _⟩ => ⟨v', _, h1, h2, h4.nil⟩
    have hen : ∀ W B d j, Below w.heap.size w W → Rcs W B (MP j) → Calls Tryd.prog 13 #[.slice A0 T0.length c0, .slice B (MP j).length d] W fun e w' => ∃ A' c', e = .returned (.slice A' (MP j).length c') ∧ Res w' A' (entE (hashT T0) (MP j)) ∧ Below W.heap.size W w' := fun W B d j hW hB => (entries19_any c0 d (ha0.below hW) hB ht200 (by have := (hmg j).2.2; omega) (fun p hp => by have := (hmg j).2.1 p hp; omega)).mono fun e w' ⟨⟨A', c', h1, h2, _⟩, h3⟩ => ⟨A', c', h1, h2, h3⟩
    obtain ⟨X, hX⟩ : ∃ X : Nat → Nd, X = fun j => layL 13 0 (entE (hashT T0) (MP j)) := ⟨_, rfl⟩
    have hXe : ∀ j, layL 13 0 (entE (hashT T0) (MP j)) = X j := fun j => by rw [hX]
    have hly : ∀ W A c j, Res W A (entE (hashT T0) (MP j)) → Calls Tryd.prog 12 #[.slice A (MP j).length c, .int .i64 0] W fun e w' => ∃ xs, e = .returned (.agg xs) ∧ Below W.heap.size W w' ∧ ∀ W' v, Below w'.heap.size w' W' → Nde (fun _ => True) W' (X j) v → Calls Tryd.prog 11 #[v, .agg xs] W' fun e w' => e = .returned (.bool true) ∧ Below W'.heap.size W' w' := fun W A c j h => by
      refine (layn_any hh0 (hmg j).1 (hmg j).2.1 (by have := (hmg j).2.2; omega) c h).mono fun e w' ⟨r, h1, h2, h3⟩ => ?_
      obtain ⟨xs, hxs⟩ : ∃ xs, RN.agg r (layL 13 0 (entE (hashT T0) (MP j))) = .agg xs := ⟨_, rfl⟩
      refine ⟨xs, by rw [h1, hxs], h3, fun W' v hW hn => ?_⟩
      rw [← hXe] at hn
      have := liken_any hh0 (hmg j).1 (hmg j).2.1 (by have := (hmg j).2.2; omega) hn (h2.below hW)
      rwa [hxs] at this
    have hX0 : X 0 = .none := by rw [← hXe, hm0']; rfl
    simp only [hXe] at hgp
    obtain ⟨NL, hNL⟩ : ∃ N : Nat → Nat, N = fun j => (MP j).length := ⟨_, rfl⟩
    have hNe : ∀ j, (MP j).length = NL j := fun j => by rw [hNL]
    have hN0 : NL 0 = 0 := by rw [← hNe, hm0']; rfl
    simp only [hNe] at hpu hen hly
    have HNE := Lib.hid hNe
    have hl25' : LL ≤ 25 := by omega
    rw [← hTL, ← hLL] at hsm ⊢
    simp only [← hTL] at hha hen
    have HSM := Lib.hid hsm; clear hsm
    have HPU := Lib.hid hpu; clear hpu
    have HHA := Lib.hid hha; clear hha
    have HGP := Lib.hid hgp; clear hgp
    have HEN := Lib.hid hen; clear hen
    have HLY := Lib.hid hly; clear hly
    have HT := Lib.hid hT; clear hT
    have HL := Lib.hid ha1; clear ha1
    have HLL := Lib.hid hLL; clear hLL
    have HX0 := Lib.hid (And.intro hX0 (And.intro hN0 hm0')); clear hX0 hN0 hm0'
    have HSZ := Lib.hid hsz; clear hsz
    clear ha0 hs hc0 hm0 hh0 hc1 hm1 hTL hL63 hml hMP hmg hms hX hXe hNL hNe ht200
    go_enter Tryd.func4, Tryd.ntmps4
    go_wp2_with fail
    refine HSM.out.mono ?_
    rintro e w1 ⟨rfl, hb⟩
    have B1 := Lib.hid hb; clear hb HSM
    go_wp2_with fail
    go_loopw [5, 6, 7, 8, 23] (fun nv mv vN vM u wr => ∃ (j : Nat) (B : Option Addr) (d : Nat), u = .int .i64 j ∧ j ≤ LL ∧ mv = .slice B (NL j) d ∧ Hid (Below w.heap.size w wr) ∧ Hid (Rcs wr B (MP j)) ∧ Hid (Nde (Out vN vM) wr (X j) nv) ∧ Hid (Stk w.heap.size X MP j vN vM wr)) (fun _ _ _ _ u _ => LL - (intOf u).toNat)
    case atStart => exact ⟨0, none, 0, rfl, by omega, by rw [HX0.out.2.1], B1.out, by rw [HX0.out.2.2]; exact .inl rfl, by rw [HX0.out.1]; rfl, Stk.nil _ _ _ _⟩
    case round =>
      obtain ⟨j, B, d, rfl, hj, rfl, hbel, hrc, hnd, hst⟩ := hrel
      by_cases hlt : j < LL
      · have hlt' : j < L1.length := by rw [← HLL.out]; exact hlt
        obtain ⟨b, off, ka, kc, va, vc, rfl, hbl, g1, g2, hk, hv⟩ := pcs_at (HL.out.below hbel.out) hlt'
        obtain ⟨hq1, hq2⟩ := HSZ.out _ (List.getElem_mem hlt')
        obtain ⟨K, hK⟩ : ∃ K, K = (L1[j]).1 := ⟨_, rfl⟩
        obtain ⟨V, hV⟩ : ∃ V, V = (L1[j]).2 := ⟨_, rfl⟩
        have hpu := fun W B d (hr : Rcs W B (MP j)) => HPU.out W B d j hlt' hr
        have hha := fun W (hW : Below w.heap.size w W) => HHA.out W j hlt' hW
        have hgp := fun F W nv ka va kc vc (hF : Fut F W) (hW : Below w.heap.size w W) (hn : Nde F W (X j) nv) => HGP.out F W j hlt' nv ka va kc vc hF hW hn
        simp only [← hK, ← hV] at g1 g2 hk hv hpu hha hgp hq1 hq2
        obtain ⟨x, hx⟩ : ∃ x : Nat, x = K.length := ⟨_, rfl⟩
        obtain ⟨y, hy⟩ : ∃ x : Nat, x = V.length := ⟨_, rfl⟩
        obtain ⟨gb, hgb⟩ : ∃ g, g = wr.heap.size := ⟨_, rfl⟩
        obtain ⟨wa, hwa⟩ : ∃ wa, wa = wr.alloc (.cells #[.slice ka x kc, .slice va y vc] 31) := ⟨_, rfl⟩
        have hba : Below wr.heap.size wr wa := by rw [hwa]; exact (Below.refl _ _).alloc (Nat.le_refl _) _
        have ra : wa.heap[gb]? = some (.cells #[.slice ka x kc, .slice va y vc] 31 (0, 0)) := by rw [hwa, hgb]; exact heap_alloc_new wr _
        have hcv1 := fun W (hW : Below wa.heap.size wa W) => conv_any ((hk.below hba).below hW) kc
        have hcv2 := fun W (hW : Below wa.heap.size wa W) => conv_any ((hv.below hba).below hW) vc
        have hbx : ∀ W, Below wa.heap.size wa W → W.cell? ⟨gb, 0, none⟩ = some (.slice ka x kc) ∧ W.cell? ⟨gb, 1, none⟩ = some (.slice va y vc) := fun W hW => by
          have r := (hW.block _ (Array.getElem?_eq_some_iff.1 ra).1).trans ra
          exact ⟨row_cell r rfl, row_cell r rfl⟩
        obtain ⟨sk, hsk⟩ : ∃ s : ByteArray, s = ⟨K.toArray⟩ := ⟨_, rfl⟩
        obtain ⟨sv, hsv⟩ : ∃ s : ByteArray, s = ⟨V.toArray⟩ := ⟨_, rfl⟩
        obtain ⟨q, hq⟩ : ∃ q : Nat, q = hashT T0 K := ⟨_, rfl⟩
        simp only [← hsk, ← hx] at hcv1
        simp only [← hsv, ← hy] at hcv2
        simp only [← hsk, ← hsv] at hpu
        simp only [← hsk, ← hq] at hha
        simp only [← hq, ← hx, ← hy] at hgp
        rw [← hx] at g1 hq1
        rw [← hy] at g2 hq2
        have KB := Lib.hid (hk.below hba)
        have VB := Lib.hid (hv.below hba)
        have HKL := Lib.hid hx; clear hx
        have HVL := Lib.hid hy; clear hy
        have HCV1 := Lib.hid hcv1; clear hcv1
        have HCV2 := Lib.hid hcv2; clear hcv2
        have HBX := Lib.hid hbx; clear hbx
        have HPU1 := Lib.hid hpu; clear hpu
        have HHA1 := Lib.hid hha; clear hha
        have HGP1 := Lib.hid hgp; clear hgp
        have BA := Lib.hid (below_then hbel.out hba)
        have RA := Lib.hid (hrc.out.below hba)
        have NA := Lib.hid (hnd.out.below hba)
        have SA := Lib.hid (hst.out.below hba)
        have HWA := Lib.hid hwa; clear hwa
        have HGB := Lib.hid hgb; clear hgb
        have v1 := HCV1.out wa (Below.refl _ _)
        have v2 := HCV2.out wa (Below.refl _ _)
        obtain ⟨d0, d1⟩ := HBX.out wa (Below.refl _ _)
        clear hK hV hsk hsv hq hk hv hba ra HPU HHA HGP hnd hst hrc
        go_upto_region 10 with fail
        rw [← HWA.out, ← HGB.out]
        go_wp2_with fail
        refine (HPU1.out wa B d RA.out).mono ?_
        rintro e w3 ⟨A3, c3, rfl, hr3, hb3⟩
        have R3 := Lib.hid hr3
        have B3 := Lib.hid (below_then BA.out hb3)
        have C3 := Lib.hid hb3
        have N3 := Lib.hid (NA.out.below hb3)
        have S3 := Lib.hid (SA.out.below hb3)
        have KB3 := Lib.hid (KB.out.below hb3)
        have VB3 := Lib.hid (VB.out.below hb3)
        clear v1 v2 d0 d1 hr3 hb3 RA NA SA HPU1 HCV1 HCV2 KB VB
        obtain ⟨KB, VB⟩ : Hid (Bts w3 ka K) ∧ Hid (Bts w3 va V) := ⟨KB3, VB3⟩
        clear KB3 VB3
        go_upto_region 12 with fail
        refine Gr.wp_region_grow 10 (by kernel_rfl) (by kernel_rfl) (GS w3.heap.size gb ka x kc va y vc K V) (fun i _ j _ => Dn i j) GS.below ?_ ?_ ?_
        · intro i hi
          have hc : i = 0 ∨ i = 1 ∨ i = 2 ∨ i = 3 ∨ i = 4 ∨ i = 5 ∨ i = 6 ∨ i = 7 ∨ i = 8 ∨ i = 9 := by omega
          rcases hc with rfl | rfl | rfl | rfl | rfl | rfl | rfl | rfl | rfl | rfl <;> exact ⟨_, rfl, by simp⟩
        · intro i hi listed a w' hag hdep
          have hN : w3.heap.size ≤ w'.heap.size := hag.bel.size
          have hbw : Below w3.heap.size w3 w' := (show Below w3.heap.size w3 w3.drew from (Below.refl _ _).drew).trans hag.bel
          obtain ⟨k0, k1⟩ := HBX.out w' (below_then C3.out hbw)
          have e10 := hag.keeps 10 _ (by kernel_rfl) rfl
          have hc : i = 0 ∨ i = 1 ∨ i = 2 ∨ i = 3 ∨ i = 4 ∨ i = 5 ∨ i = 6 ∨ i = 7 ∨ i = 8 ∨ i = 9 := by omega
          rcases hc with rfl | rfl | rfl | rfl | rfl | rfl | rfl | rfl | rfl | rfl
          · refine Gr.wpOp_of _ rfl rfl ?_
            unfold Oper.wp execOp
            go_simp
            exact ⟨_, rfl, (Below.refl _ _).alloc (Nat.le_refl _) _, ⟨_, rfl, hN, heap_alloc_new w' _⟩, fun _ _ _ _ _ => ⟨trivial, trivial⟩⟩
          · refine Gr.wpOp_of _ rfl rfl ?_
            unfold Oper.wp execOp
            go_simp
            exact ⟨_, rfl, Below.refl _ _, rfl, fun _ _ _ _ _ => ⟨trivial, trivial⟩⟩
          · obtain ⟨v1, hv1, hg1⟩ := hag.slot 1 38 (by decide) (hdep 1 ⟨_, rfl, ⟨1, .data⟩, by simp, rfl, rfl⟩) rfl
            obtain rfl : v1 = _ := hg1
            have hev1 := Gr.eval_tmp hv1
            refine Gr.wpOp_of _ rfl rfl ?_
            unfold Oper.wp execOp
            go_simp
            exact ⟨_, rfl, Below.refl _ _, rfl, fun _ _ _ _ _ => ⟨trivial, trivial⟩⟩
          · obtain ⟨v0, hv0, hg0⟩ := hag.slot 0 37 (by decide) (hdep 0 ⟨_, rfl, ⟨0, .data⟩, by simp, rfl, rfl⟩) rfl
            obtain ⟨v2, hv2, hg2⟩ := hag.slot 2 39 (by decide) (hdep 2 ⟨_, rfl, ⟨2, .data⟩, by simp, rfl, rfl⟩) rfl
            obtain ⟨g0, rfl, hge, hgr⟩ := hg0
            obtain rfl : v2 = _ := hg2
            obtain ⟨g', c', w'', hr, hb', hN', hbts, hbr⟩ := run_app_fresh 29 hgr hge (KB.out.below hbw) kc (by rw [← HKL.out]; omega)
            rw [← HKL.out] at hr
            exact wpOp_app _ rfl rfl rfl (Gr.eval_tmp hv0) (Gr.eval_tmp hv2) hr ⟨_, rfl, hb', ⟨g', c', by rw [← HKL.out], hN', hbts, hbr⟩, fun _ _ _ _ _ => ⟨trivial, trivial⟩⟩
          · refine Gr.wpOp_of _ rfl rfl ?_
            unfold Oper.wp execOp
            go_simp
            exact ⟨_, rfl, (Below.refl _ _).alloc (Nat.le_refl _) _, ⟨_, rfl, hN, heap_alloc_new w' _⟩, fun _ _ _ _ _ => ⟨trivial, trivial⟩⟩
          · refine Gr.wpOp_of _ rfl rfl ?_
            unfold Oper.wp execOp
            go_simp
            exact ⟨_, rfl, Below.refl _ _, rfl, fun _ _ _ _ _ => ⟨trivial, trivial⟩⟩
          · obtain ⟨v5, hv5, hg5⟩ := hag.slot 5 42 (by decide) (hdep 5 ⟨_, rfl, ⟨5, .data⟩, by simp, rfl, rfl⟩) rfl
            obtain rfl : v5 = _ := hg5
            have hev5 := Gr.eval_tmp hv5
            refine Gr.wpOp_of _ rfl rfl ?_
            unfold Oper.wp execOp
            go_simp
            exact ⟨_, rfl, Below.refl _ _, rfl, fun _ _ _ _ _ => ⟨trivial, trivial⟩⟩
          · obtain ⟨v4, hv4, hg4⟩ := hag.slot 4 41 (by decide) (hdep 4 ⟨_, rfl, ⟨4, .data⟩, by simp, rfl, rfl⟩) rfl
            obtain ⟨v6, hv6, hg6⟩ := hag.slot 6 43 (by decide) (hdep 6 ⟨_, rfl, ⟨6, .data⟩, by simp, rfl, rfl⟩) rfl
            obtain ⟨g4, rfl, hge, hgr⟩ := hg4
            obtain rfl : v6 = _ := hg6
            obtain ⟨g', c', w'', hr, hb', hN', hbts, hbr⟩ := run_app_fresh 29 hgr hge (VB.out.below hbw) vc (by rw [← HVL.out]; omega)
            rw [← HVL.out] at hr
            exact wpOp_app _ rfl rfl rfl (Gr.eval_tmp hv4) (Gr.eval_tmp hv6) hr ⟨_, rfl, hb', ⟨g', c', by rw [← HVL.out], hN', hbts, hbr⟩, fun _ _ _ _ _ => ⟨trivial, trivial⟩⟩
          · obtain ⟨v3, hv3, hg3⟩ := hag.slot 3 40 (by decide) (hdep 3 ⟨_, rfl, ⟨3, .data⟩, by simp, rfl, rfl⟩) rfl
            obtain ⟨v7, hv7, hg7⟩ := hag.slot 7 44 (by decide) (hdep 7 ⟨_, rfl, ⟨7, .data⟩, by simp, rfl, rfl⟩) rfl
            have hev3 := Gr.eval_tmp hv3
            have hev7 := Gr.eval_tmp hv7
            obtain ⟨g3, c3, rfl, n3, b3, r3⟩ := hg3
            obtain ⟨g7, c7, rfl, n7, b7, r7⟩ := hg7
            refine Gr.wpOp_of _ rfl rfl ?_
            unfold Oper.wp execOp
            go_simp
            exact ⟨_, rfl, Below.refl _ _, ⟨_, _, rfl, ⟨g3, c3, rfl, n3, b3, r3⟩, ⟨g7, c7, rfl, n7, b7, r7⟩⟩, fun _ _ _ _ _ => ⟨trivial, trivial⟩⟩
          · refine Gr.wpOp_of _ rfl rfl ?_
            unfold Oper.wp execOp
            go_simp
            exact ⟨_, rfl, (Below.refl _ _).alloc (Nat.le_refl _) _, ⟨_, rfl, hN, heap_alloc_new w' _⟩, fun _ _ _ _ _ => ⟨trivial, trivial⟩⟩
        · intro listed a w' hall hag
          obtain ⟨v0, s0, g0⟩ := hag.slot 0 37 (by decide) (hall 0 (by decide)) rfl
          obtain ⟨v1, s1, g1⟩ := hag.slot 1 38 (by decide) (hall 1 (by decide)) rfl
          obtain ⟨v2, s2, g2⟩ := hag.slot 2 39 (by decide) (hall 2 (by decide)) rfl
          obtain ⟨v3, s3, g3⟩ := hag.slot 3 40 (by decide) (hall 3 (by decide)) rfl
          obtain ⟨v4, s4, g4⟩ := hag.slot 4 41 (by decide) (hall 4 (by decide)) rfl
          obtain ⟨v5, s5, g5⟩ := hag.slot 5 42 (by decide) (hall 5 (by decide)) rfl
          obtain ⟨v6, s6, g6⟩ := hag.slot 6 43 (by decide) (hall 6 (by decide)) rfl
          obtain ⟨v7, s7, g7⟩ := hag.slot 7 44 (by decide) (hall 7 (by decide)) rfl
          obtain ⟨v8, s8, g8⟩ := hag.slot 8 45 (by decide) (hall 8 (by decide)) rfl
          obtain ⟨v9, s9, g9⟩ := hag.slot 9 12 (by decide) (hall 9 (by decide)) rfl
          obtain rfl : v1 = _ := g1
          obtain rfl : v2 = _ := g2
          obtain rfl : v5 = _ := g5
          obtain rfl : v6 = _ := g6
          obtain ⟨g0, rfl, _, _⟩ := g0
          obtain ⟨g4, rfl, _, _⟩ := g4
          obtain ⟨q3, e3, rfl, _, _, _⟩ := g3
          obtain ⟨q7, e7, rfl, _, _, _⟩ := g7
          obtain ⟨y1, y2, rfl, ⟨gk, c1, rfl, nk, bk, rk⟩, ⟨gv, c2, rfl, nv, bv, rv⟩⟩ := g8
          obtain ⟨g9, rfl, n9, r9⟩ := g9
          rw [← HKL.out] at s3 s8
          rw [← HVL.out] at s7 s8
          have ha := hag.whole [(37, .slice (some ⟨g0, 0, none⟩) 0 0), (38, .pointer (some ⟨gb, 0, none⟩)), (39, .slice ka x kc), (40, .slice (some ⟨q3, 0, none⟩) x e3), (41, .slice (some ⟨g4, 0, none⟩) 0 0), (42, .pointer (some ⟨gb, 1, none⟩)), (43, .slice va y vc), (44, .slice (some ⟨q7, 0, none⟩) y e7), (45, .agg #[.slice (some ⟨gk, 0, none⟩) x c1, .slice (some ⟨gv, 0, none⟩) y c2]), (12, .pointer (some ⟨g9, 0, none⟩))] (by
            intro i hi
            have hc : i = 0 ∨ i = 1 ∨ i = 2 ∨ i = 3 ∨ i = 4 ∨ i = 5 ∨ i = 6 ∨ i = 7 ∨ i = 8 ∨ i = 9 := by omega
            rcases hc with rfl | rfl | rfl | rfl | rfl | rfl | rfl | rfl | rfl | rfl <;> exact ⟨_, rfl, by simp⟩) (List.forall_mem_cons.2 ⟨s0, List.forall_mem_cons.2 ⟨s1, List.forall_mem_cons.2 ⟨s2, List.forall_mem_cons.2 ⟨s3, List.forall_mem_cons.2 ⟨s4, List.forall_mem_cons.2 ⟨s5, List.forall_mem_cons.2 ⟨s6, List.forall_mem_cons.2 ⟨s7, List.forall_mem_cons.2 ⟨s8, List.forall_mem_cons.2 ⟨s9, fun p hp => absurd hp (by simp)⟩⟩⟩⟩⟩⟩⟩⟩⟩⟩)
          simp only [List.foldl_cons, List.foldl_nil, List.setIfInBounds_toArray, List.set_cons_succ, List.set_cons_zero] at ha
          have hbw : Below w3.heap.size w3 w' := (show Below w3.heap.size w3 w3.drew from (Below.refl _ _).drew).trans hag.bel
          obtain ⟨W1, hW1⟩ : ∃ W, W = ((w'.setCell ⟨g9, 0, none⟩ (.slice (some ⟨gk, 0, none⟩) x c1)).setCell ⟨g9, 1, none⟩ (.slice (some ⟨gv, 0, none⟩) y c2)) := ⟨_, rfl⟩
          obtain ⟨q1, q2, q3', q4, q5', q6⟩ := own_box (c1 := c1) (c2 := c2) hbw n9 r9 bk rk bv rv W1 (by rw [← HKL.out, ← HVL.out]; exact hW1)
          rw [← HKL.out] at q2 q4
          rw [← HVL.out] at q2 q6
          obtain ⟨d0, d1, f0, f1⟩ := row2 r9
          have hlt0 := S3.out.lt
          have N1 : Nde (fun b => Out u7 u8 b ∧ ¬ Kb gk gv b) W1 (X j) u5 := (N3.out.mono (G := fun b => Out u7 u8 b ∧ ¬ Kb gk gv b) fun b hb ho => ⟨ho, fun e => by rcases e with rfl | rfl <;> omega⟩).below q1
          have hfut : ∀ W, Below W1.heap.size W1 W → Fut (fun b => Out u7 u8 b ∧ ¬ Kb gk gv b) W := fun W hW b hb => by
            have h1 := hW.size
            have h2 := q1.size
            have h3 := q4.lt
            have h4 := q6.lt
            exact ⟨⟨fun e => by have := (hlt0.1 b e).2; omega, fun e => by have := (hlt0.2 b e).2; omega⟩, fun e => by rcases e with rfl | rfl <;> omega⟩
          have HGP2 : Hid (∀ W, Below W1.heap.size W1 W → Calls Tryd.prog 9 #[u5, .int .u64 (q : Int), .agg #[.slice (some ⟨gk, 0, none⟩) x c1, .slice (some ⟨gv, 0, none⟩) y c2], .pointer none] W fun r w' => ∃ v' bb, r = .returned (.tuple #[v', .bool bb]) ∧ Nde (fun b => Out u7 u8 b ∧ ¬ Kb gk gv b) w' (X (j + 1)) v' ∧ Below W.heap.size W w') := fun W hW =>
            HGP1.out _ W u5 _ _ c1 c2 (hfut W hW) (below_then B3.out (below_then q1 hW)) (N1.below hW) (q3'.below hW) (q5'.below hW)
          have HHA2 : Hid (∀ W, Below W1.heap.size W1 W → Calls Tryd.prog 10 #[.slice A0 TL c0, .string sk] W fun e w' => e = .returned (.int .u64 (q : Int)) ∧ W = w') := fun W hW => HHA1.out W (below_then B3.out (below_then q1 hW))
          have HB1 := Lib.hid q1; clear q1
          have HQ2 := Lib.hid q2; clear q2
          have HQ4 := Lib.hid q4; clear q4
          have HQ6 := Lib.hid q6; clear q6
          have HNK : Hid (w3.heap.size ≤ gk ∧ w3.heap.size ≤ gv) := ⟨nk, nv⟩
          have HW1 := Lib.hid hW1; clear hW1
          have HBX2 : Hid (∀ W, Below W1.heap.size W1 W → W.cell? ⟨g9, 0, none⟩ = some (.slice (some ⟨gk, 0, none⟩) x c1) ∧ W.cell? ⟨g9, 1, none⟩ = some (.slice (some ⟨gv, 0, none⟩) y c2)) := fun W hW => by
            obtain ⟨a1, a2, _, _⟩ := row2 (row_below HQ2.out hW)
            exact ⟨a1, a2⟩
          clear q3' q5' bk rk bv rv r9 hag hall s0 s1 s2 s3 s4 s5 s6 s7 s8 s9 hbw n9 nk nv N1 hfut hlt0 HGP1 HHA1 HBX C3 N3 KB VB
          rw [ha]
          clear ha a listed
          simp only [List.drop_succ_cons, List.drop_zero]
          go_upto_region 13 with fail
          clear d0 d1 f0 f1
          rw [← HW1.out]
          go_cut [5] from 46 to 91 (fun s5 wx => Hid (Nde (fun b => Out u7 u8 b ∧ ¬ Kb gk gv b) wx (X (j + 1)) s5) ∧ Hid (Below W1.heap.size W1 wx))
          case first =>
            have hz0 : Below W1.heap.size W1 W1.drew := (Below.refl _ _).drew
            go_region_held3 (fun W => W.cell? ⟨g9, 0, none⟩ = some (.slice (some ⟨gk, 0, none⟩) x c1) ∧ W.cell? ⟨g9, 1, none⟩ = some (.slice (some ⟨gv, 0, none⟩) y c2)) (first | (with_reducible exact HBX2.out _ hz0) | (with_reducible exact HBX2.out _ hz1)) (first
              | (go_at_call 10; refine (HHA2.out _ hz0).mono ?_; rintro r w' ⟨rfl, rfl⟩)
              | (go_at_call 9; refine (HGP2.out _ hz0).mono ?_; rintro r w4 ⟨v4, bb, rfl, hn4, hb4⟩; have hz1 := below_then hz0 hb4))
            all_goals
              go_wp2_with fail
              go_meet
              exact ⟨hn4, hz1⟩
          case rest =>
            obtain ⟨hn4, hb4⟩ := hcut
            have MID := Lib.hid (Mid.mk (But.refl (Kb gk gv) wc) (HQ4.out.below hb4.out) (HQ6.out.below hb4.out) (row_below HQ2.out hb4.out))
            have B4 := Lib.hid (below_then HB1.out hb4.out)
            clear HGP2 HHA2 HBX2 HQ2 HQ4 HQ6 HW1 hb4 HB1
            obtain ⟨m1, m2, _, _⟩ := row2 MID.out.row
            go_wp2_with fail
            clear m1 m2
            go_loopw [58] (fun u wr => ∃ i : Nat, u = .int .i64 i ∧ i ≤ x ∧ Hid (Mid gk x gv y g9 #[.slice (some ⟨gk, 0, none⟩) x c1, .slice (some ⟨gv, 0, none⟩) y c2] wc wr)) (fun u _ => x - (intOf u).toNat)
            case atStart => exact ⟨0, rfl, by omega, MID.out⟩
            case round =>
              obtain ⟨i, rfl, hi, hmid⟩ := hrel
              obtain ⟨m1, m2, _, _⟩ := row2 hmid.out.row
              by_cases hlt2 : i < x
              · obtain ⟨u, hu, hfz⟩ := hmid.out.key.cell hlt2
                have hset := hmid.out.setK (i := i) (u + 1)
                obtain ⟨yy, hyy⟩ : ∃ y : Int, y = (((u + 1 : UInt8).toNat : Nat) : Int) := ⟨_, rfl⟩
                obtain ⟨zz, hzz⟩ : ∃ z : Nat, z = u.toNat := ⟨_, rfl⟩
                have hz2 : zz < 256 := by rw [hzz]; exact u.toNat_lt
                have hwrap := byte_more u
                rw [← hyy, ← hzz] at hwrap
                rw [← hzz] at hu
                rw [← hyy] at hset
                have HSET := Lib.hid hset; clear hset hyy hzz hmid
                go_wp2
                go_roundw
                case rel => exact ⟨i + 1, by go_num, by omega, HSET.out⟩
                case measure => simp [intOf]; omega
              · clear MID
                have MID := hmid
                clear hmid
                go_wp2_with fail
                clear m1 m2
                go_loopw [72] (fun u wr => ∃ i : Nat, u = .int .i64 i ∧ i ≤ y ∧ Hid (Mid gk x gv y g9 #[.slice (some ⟨gk, 0, none⟩) x c1, .slice (some ⟨gv, 0, none⟩) y c2] wc wr)) (fun u _ => y - (intOf u).toNat)
                case atStart => exact ⟨0, rfl, by omega, MID.out⟩
                case round =>
                  obtain ⟨i, rfl, hi, hmid⟩ := hrel
                  obtain ⟨m1, m2, _, _⟩ := row2 hmid.out.row
                  by_cases hlt2 : i < y
                  · obtain ⟨u, hu, hfz⟩ := hmid.out.val.cell hlt2
                    have hset := hmid.out.setV (i := i) (u + 1)
                    obtain ⟨yy, hyy⟩ : ∃ y : Int, y = (((u + 1 : UInt8).toNat : Nat) : Int) := ⟨_, rfl⟩
                    obtain ⟨zz, hzz⟩ : ∃ z : Nat, z = u.toNat := ⟨_, rfl⟩
                    have hz2 : zz < 256 := by rw [hzz]; exact u.toNat_lt
                    have hwrap := byte_more u
                    rw [← hyy, ← hzz] at hwrap
                    rw [← hzz] at hu
                    rw [← hyy] at hset
                    have HSET := Lib.hid hset; clear hset hyy hzz hmid
                    go_wp2
                    go_roundw
                    case rel => exact ⟨i + 1, by go_num, by omega, HSET.out⟩
                    case measure => simp [intOf]; omega
                  · clear m1 m2 MID
                    have hbe : Below w3.heap.size w3 wr := B4.out.trans (hmid.out.but.below B4.out.size fun k hk => by
                      rcases hk with rfl | rfl
                      · exact HNK.out.1
                      · exact HNK.out.2)
                    have NF := Lib.hid ((hn4.out.kept (hmid.out.but.kept fun k hk hx => hk.2 hx)).mono (G := Out u7 u8) fun b _ hb => hb.1)
                    have RF := Lib.hid (R3.out.below hbe)
                    have BF := Lib.hid (below_then B3.out hbe)
                    obtain ⟨⟨ns, h1, h2⟩, ⟨ms, h3, h4⟩, hz⟩ := S3.out.below hbe
                    have H1 := Lib.hid h1
                    have HRM : Hid (∀ W1, wr.grownBy W1 u7.ownBlock → W1.ownsRow w.heap.size 28 1 u8 j ms) := fun W1 g1 => own_kept h3 fun g hg => g1.block g (own_lt h3 hg).2.1 fun e => own_ne h1 h3 (by decide) g e.symm hg
                    have H3 := Lib.hid (And.intro h2 (And.intro h3 (And.intro h4 hz))); clear h1 h2 h3 h4 hz
                    have HWW : Hid (w.heap.size ≤ wr.heap.size) := BF.out.size
                    have hj25 : j ≤ 25 := by omega
                    have hone := NF.out.one
                    clear hmid hbe S3 R3 B3 hn4 B4
                    have hform : u5 = .nilIface ∨ ∃ t b, u5 = .iface t (.pointer (some ⟨b, 0, none⟩)) := by
                      rcases NF.out.nil_iff with ⟨_, e2⟩ | ⟨_, t, b, e2⟩
                      · exact .inl e2
                      · exact .inr ⟨t, b, e2⟩
                    rcases hform with rfl | ⟨t5, b5, rfl⟩
                    all_goals
                      go_wp2_with (first
                        | (at_builtin; refine list_app1s (B := w.heap.size) (w := wr) 50 27 _ 16 Tryd.underlying50 Tryd.infoNode rfl (by decide) rfl (.tmp 83) (.tmp 85) rfl _ j _ H1.out _ hone rfl rfl (by omega) HWW.out ?_; intro vN2 w7 ho7 hg7 ha7; have HRM7 := Lib.hid (HRM.out _ hg7); have HO7 := Lib.hid ho7; have HG7 := Lib.hid hg7; have HA7 := Lib.hid ha7; have HWW7 : Hid (w.heap.size ≤ w7.heap.size) := Nat.le_trans HWW.out hg7.size; clear ho7 hg7 ha7)
                        | (at_builtin; refine list_app1s (B := w.heap.size) (w := w7) 51 28 _ 24 Tryd.underlying51 Tryd.infoPairs rfl (by decide) rfl (.tmp 87) (.tmp 89) rfl _ j _ HRM7.out (.slice A3 (NL (j + 1)) c3) rfl rfl rfl (by omega) HWW7.out ?_; intro vM2 w8 ho8 hg8 ha8; have HO8 := Lib.hid ho8; have HG8 := Lib.hid hg8; have HA8 := Lib.hid ha8; clear ho8 hg8 ha8)
                        | fail)
                      have hadd := Stk.add (c := c3) H1.out H3.out.1 H3.out.2.1 H3.out.2.2.1 H3.out.2.2.2 HWW.out NF.out RF.out HG7.out HO7.out HA7.out HG8.out (by rw [HNE.out]; exact HO8.out) HA8.out
                      have HADD := Lib.hid hadd; clear hadd
                      go_roundw
                      case rel => exact ⟨j + 1, A3, c3, by go_num, by omega, rfl, BF.out.trans HADD.out.2.2.2, HADD.out.2.2.1, HADD.out.2.1, HADD.out.1⟩
                      case measure => simp [intOf]; omega
      · obtain rfl : j = LL := by omega
        obtain ⟨⟨ns, h1, h2⟩, ⟨ms, h3, h4⟩, _⟩ := hst.out
        obtain ⟨_, NA, nc, rfl, _, hrN⟩ := row_reads1 h1
        obtain ⟨_, MA, mc, rfl, _, hrM⟩ := row_reads1 h3
        obtain ⟨wE, hwE⟩ : ∃ wE, wE = wr := ⟨_, rfl⟩
        rw [← hwE] at hbel h2 h4 hrN hrM ⊢
        have HRN := Lib.hid (And.intro hrN (And.intro hrM (And.intro h2 h4)))
        clear hrN hrM h1 h2 h3 h4 hst hnd hrc hwE HPU HHA HGP
        go_wp2_with fail
        go_loopw [94] (fun u wr => ∃ i : Nat, u = .int .i64 i ∧ i ≤ j ∧ Hid (Below wE.heap.size wE wr)) (fun u _ => j - (intOf u).toNat)
        case atStart => exact ⟨0, rfl, by omega, Below.refl _ _⟩
        case round =>
          obtain ⟨i, rfl, hi, hbE⟩ := hrel
          by_cases hlt2 : i < j
          · obtain ⟨gN, rfl, _, ltN, cN⟩ := HRN.out.1 (by omega)
            obtain ⟨gM, rfl, _, ltM, cM⟩ := HRN.out.2.1 (by omega)
            obtain ⟨nv, e1, hnv⟩ := HRN.out.2.2.1 i hlt2
            obtain ⟨Ai, ci, e2, hrc⟩ := HRN.out.2.2.2 i hlt2
            have cN1 := (cN i hlt2).trans e1
            have cM1 := (cM i hlt2).trans e2
            rw [HNE.out] at cM1
            have KEEP : Hid (∀ W, Below wE.heap.size wE W → W.cell? ⟨gN, i, none⟩ = some nv ∧ W.cell? ⟨gM, i, none⟩ = some (.slice Ai (NL (i + 1)) ci)) := fun W hW =>
              ⟨(hW.cell (p := ⟨gN, i, none⟩) ltN).trans cN1, (hW.cell (p := ⟨gM, i, none⟩) ltM).trans cM1⟩
            have L1 := Lib.hid (fun W (hW : Below wE.heap.size wE W) => HEN.out W Ai ci (i + 1) (below_then hbel.out hW) (hrc.below hW))
            have L2 := Lib.hid (fun W A c (hA : Res W A (entE (hashT T0) (MP (i + 1)))) => HLY.out W A c (i + 1) hA)
            have HNV : Hid (∀ W, Below wE.heap.size wE W → Nde (fun _ => True) W (X (i + 1)) nv) := fun W hW => (hnv.below hW).mono fun _ _ _ => trivial
            have hz0 := hbE.out.drew
            have hi1 : i < j := hlt2
            clear hnv hrc e1 e2 cN cM cN1 cM1 ltN ltM
            go_wp2_with fail
            go_region_held3 (fun W => W.cell? ⟨gN, i, none⟩ = some nv ∧ W.cell? ⟨gM, i, none⟩ = some (.slice Ai (NL (i + 1)) ci)) (first | exact KEEP.out _ hz0 | exact KEEP.out _ hzA | exact KEEP.out _ hzB | exact KEEP.out _ hzC | fail) (first
              | (go_at_call 13; (with_reducible refine (L1.out _ hz0).mono ?_); rintro e wA ⟨AA, cA, rfl, hPA, hbA⟩; have hzA := below_then hz0 hbA)
              | (go_at_call 12; (with_reducible refine (L2.out _ _ cA hPA).mono ?_); rintro e wB ⟨xs, rfl, hbB, hSM⟩; have hzB := below_then hzA hbB)
              | (go_at_call 11; (with_reducible refine (hSM _ _ (Below.refl _ _) (HNV.out _ hzB)).mono ?_); rintro e wC ⟨rfl, hbC⟩; have hzC := below_then hzB hbC)
              | fail)
            all_goals
              go_wp2_with fail
              go_roundw
              case rel => exact ⟨i + 1, by go_num, by omega, hzC⟩
              case measure => simp [intOf]; omega
          · have JA := Lib.hid (awake19_any (HT.out.below (below_then hbel.out hbE.out)))
            go_wp2_with fail
            refine JA.out.mono ?_
            rintro e w2 ⟨rfl, hb⟩
            have B2 := Lib.hid (below_then (below_then hbel.out hbE.out) hb); clear hb
            go_wp2_with fail
            go_ret
            exact ⟨rfl, B2.out⟩

theorem lifted (os : Os) (started : os.Started) (H : Type) (enc : TypeId × Value → H) :
    ReturnsInHanded {} Tryd.checked os 4 .any (fun w args => (Rows.graftStaysSpec.pre enc Tryd.prog Tryd.f4 [] false w args ∧ laidMetH Tryd.prog laid w) ∧ sizedMet enc Tryd.prog Tryd.f4 (OpenSpec.ofChange Rows.graftStaysSpec) false w args)
      (Rows.graftStaysSpec.post enc Tryd.prog Tryd.f4 false true false false) := by
  refine returnsInHanded_of_change_and (C := Tryd.checked) (X := fun w _ => laidMetH Tryd.prog laid w) (fun _ _ _ hh h => h.of_heap hh) own started (by kernel_rfl) Tryd.func4
    (ChangeSpec.witness_shaped (enc := enc) (C := Tryd.checked) (os := os) (X := fun w _ => laidMetH Tryd.prog laid w) false (World.laidAll Tryd.prog os laid) #[.slice none 0 0, .slice none 0 0] 8 (World.laidAll_os _ _ _)
      (World.shaped_of_ZipB (by kernel_rfl) (by kernel_rfl)) (by kernel_rfl) (by kernel_rfl) (by kernel_rfl)
      (by rw [MakeChecks.laidMetH_plain _ _ _ (by kernel_rfl)]; exact laidMet_laidAll _ (by kernel_rfl) (by kernel_rfl))) ?_
  intro W base args ds gs before hval0 hW _ _ hL _
  have hval : ∀ (j : Nat) t v, Tryd.f4.params[j]? = some t → args[j]? = some v → Value.okWide Tryd.prog W .any base t v := hval0
  have hW' := hW
  obtain ⟨p, q, hA0, hV, rfl, _, _⟩ := hW
  have hA : DataW.TrodAll enc Tryd.prog W 0 (fun _ => true) true Tryd.f4.params.toList args.toList ds p := hA0
  rw [Tryd.params4] at hA hval
  obtain ⟨v0, vs0, d0, ds0, p0, q0, hargs, rfl, rfl, h0, r0⟩ := trodAll_cons hA
  obtain ⟨v1, vs1, d1, ds1, p1, q1, rfl, rfl, rfl, h1, r1⟩ := trodAll_cons r0
  obtain ⟨rfl, rfl, rfl⟩ := trodAll_nil r1
  obtain rfl : args = #[v0, v1] := by cases args; simp_all
  obtain ⟨rfl, rfl⟩ := trodVars_none hV
  have lt0 : ∀ x ∈ p0, x.block < W.heap.size := by obtain ⟨m, hm⟩ := h0; exact DataW.trod_lt m _ _ _ hm
  have ok0 := hval 0 22 v0 rfl rfl
  have lt1 : ∀ x ∈ p1, x.block < W.heap.size := by obtain ⟨m, hm⟩ := h1; exact DataW.trod_lt m _ _ _ hm
  have ok1 := hval 1 23 v1 rfl rfl
  clear hA0 hval0 hval
  obtain ⟨A0, c0, T0, rfl, hc0, hm0, ha0, hh0⟩ := nums64_in ok0 h0
  obtain ⟨A1, c1, L1, rfl, hc1, hm1, ha1⟩ := pairs_in ok1 h1
  refine (walk W hc0 hm0 ha0 hh0 hc1 hm1 ha1 (tab_of_laid hL)).mono fun e W' ⟨he, bel⟩ => ?_
  subst he
  exact ⟨_, rfl, _, _, _, [], _, [], hW', trodAll_mk1 (shut_bool Tryd.underlying4 _), (trodAll_cons_mk (Below.trod laidOut (by kernel_rfl) (of_decide_eq_true (by kernel_rfl)) h0 bel lt0) (trodAll_cons_mk (Below.trod laidOut (by kernel_rfl) (of_decide_eq_true (by kernel_rfl)) h1 bel lt1) trodAll_mk0)), rfl, bel.frame _, fun h => by cases h⟩

theorem over : Rows.GraftStaysSaid :=
  OpenClaim.holds_of_wide 4 Tryd.f4 rfl rfl rfl rfl rfl rfl rfl ⟨rfl, rfl, rfl, rfl, rfl⟩ rfl rfl rfl rfl rfl (by kernel_rfl) Tryd.func4 (by kernel_rfl)
    (of_decide_eq_true (by kernel_rfl)) (by unfold Func.isWrapper; first | (rw [if_pos (by decide +kernel)]; kernel_rfl) | (rw [if_neg (by decide +kernel)]; exact ⟨rfl, rfl⟩))
    (fun os started H enc _ => lifted os started H enc)

/-- ████ THE STATEMENT: THE TIED CARD ████ -/
theorem proved : Rows.GraftStaysCardSaid :=
  Claim7.holds_tied_plain_at .later [] [.data] true (true, "35dc533787c930bad302c2d2ea47b3e20978ad89d776b5db352aabc593759e5c") true over (fun _ h => by cases h) (by kernel_rfl) (fun _ h => by cases h) graftStays_row_tie rfl ⟨rfl, rfl⟩ (by kernel_rfl) rfl
    (fun f fn hf hfn => by
      obtain rfl : f = 4 := Option.some.inj ((show Tryd.prog.funcNamed "brushwood/brushwoodlaw19.GraftStays" = some 4 by kernel_rfl).symm.trans hf) |>.symm
      obtain rfl : fn = Tryd.f4 := (Option.some.inj (Tryd.func4.symm.trans hfn)).symm
      exact ⟨by kernel_rfl, fun j t ht => by
        rw [Tryd.params4] at ht
        have hm : t ∈ [22, 23] := by simpa using Array.mem_of_getElem? ht
        have hall : ([22, 23].all fun u => !Tryd.prog.wantsStandIn u) = true := by kernel_rfl
        exact (show Tryd.prog.wantsStandIn t = false by simpa using List.all_eq_true.1 hall t hm)⟩)
    (by kernel_rfl)
#print axioms proved
end Go.Proofs.YtmbdimonfdncpaaDoor.graftStays
