/-
  DrawsParts: for every input the law answers true and leaves its arguments as they were: the walk is typed by hand, the row's step is the guide's template.
  Conditions: none beside the row's own.
-/
import Derived.Test.YtialpajnjbchgaaSame
import Derived.Test.YtialpajnjbchgaaOpen
import Derived.Test.YtialpajnjbchgaaRows
import Derived.WalkKit
import Derived.ProofKit
import Derived.OpenShut
import Derived.ShutString
import Derived.ChangeOld
import Derived.Below
namespace Go.Proofs.Ytialpajnjbchgaa.drawsParts
open Go.ChangeShapes Go.WideShapes Go.ChangeAt Go.RowKit
set_option linter.unusedVariables false
theorem own : ownKnob Try.prog.godebug = none := by kernel_rfl
theorem laidOut : laidOutB Try.prog = true := by kernel_rfl
theorem flat_take {L : List (List UInt8)} {j : Nat} (h : j < L.length) : (L.take (j + 1)).flatten = (L.take j).flatten ++ L[j] := by
  rw [List.take_succ_eq_append_getElem h, List.flatten_append]
  simp
set_option maxRecDepth 100000 in
set_option maxHeartbeats 4000000 in
theorem walk {A0 : Option Addr} {c0 : Nat} {L0 : List (List UInt8)} (w : World) (hc0 : L0.length ≤ c0) (hm0 : c0 ≤ maxLen) (ha0 : Lists w A0 L0) :
    Calls Try.prog 4 #[.slice A0 L0.length c0] w fun e w' => e = .returned (.bool true) ∧ Below w.heap.size w w' := by
  have HAW := Lib.hid awake_any
  have HL0 := Lib.hid ha0; clear ha0
  have hnew := new_any (w := w) (A := none) (m := []) (Bts.nil _ _) 0 (by simp)
  have HNEW := Lib.hid hnew; clear hnew
  by_cases hbig : 30 < L0.length
  · go_enter Try.func4, Try.ntmps4
    go_wp2_with fail
    refine HNEW.out.mono ?_
    rintro e w1 ⟨rfl, v1, h1, hb1⟩
    have HB1 := Lib.hid hb1; clear hb1 h1
    go_wp2_with fail
    refine (HAW.out _).mono ?_
    rintro e w2 ⟨rfl, hb⟩
    have HB2 := Lib.hid hb; clear hb
    go_wp2_with fail
    go_ret
    exact ⟨rfl, below_then HB1.out HB2.out⟩
  · have hlen : L0.length ≤ 30 := by omega
    clear hbig
    obtain ⟨s, hs⟩ : ∃ s, s = w.heap.size := ⟨_, rfl⟩
    rw [← hs] at HNEW
    have HS := Lib.hid hs; clear hs
    go_enter Try.func4, Try.ntmps4
    go_wp2_with fail
    refine HNEW.out.mono ?_
    rintro e w1 ⟨rfl, v1, h1, hb1⟩
    have HB1 := Lib.hid hb1; clear hb1
    have H1 := Lib.hid h1; clear h1
    go_wp2_with fail
    go_loopw [3, 27] (fun va u wr => ∃ (j : Nat) (vs : Value), u = .int .i64 j ∧ j ≤ L0.length ∧ Hid (Lies s wr va (L0.take j).flatten) ∧ Hid (Src s wr s vs (L0.take j).flatten 0) ∧ Hid (Apart va vs) ∧ Hid (Below s w wr) ∧ Hid ((L0.take j).flatten.length ≤ j * 100)) (fun _ u _ => L0.length - (intOf u).toNat)
    case atStart => exact ⟨0, v1, rfl, by omega, Lies.nil _ _, H1.out, fun k hk => by simp [Value.ownBlock] at hk, HB1.out, by show _ ≤ _; simp⟩
    case round =>
      obtain ⟨j, vs, rfl, hj, hal, hsr, hap, hbl, hle⟩ := hrel
      by_cases hlt : j < L0.length
      · obtain ⟨b, off, a, c, rfl, hall⟩ := HL0.out.at_ j hlt
        rw [← HS.out] at hall
        have hfl := flat_take hlt
        obtain ⟨m, hm⟩ : ∃ m, m = L0[j] := ⟨_, rfl⟩
        rw [← hm] at hall hfl
        have HFL := Lib.hid hfl; clear hfl
        have hcell := (hall wr hbl.out).1
        have HALL := Lib.hid hall; clear hall
        have HBT : Hid (Bts wr a m) := (HALL.out wr hbl.out).2
        clear hm
        by_cases h100 : 100 < m.length
        · go_wp2_with fail
          refine (HAW.out _).mono ?_
          rintro e w2 ⟨rfl, hb⟩
          have HB2 := Lib.hid hb; clear hb
          go_wp2_with fail
          go_ret
          exact ⟨rfl, by rw [← HS.out]; exact hbl.out.trans (HB2.out.mono (Nat.le_trans (Nat.le_of_eq HS.out) hbl.out.size))⟩
        · obtain ⟨F, hF⟩ : ∃ F, F = (L0.take j).flatten := ⟨_, rfl⟩
          rw [← hF] at hal hsr hle HFL
          clear hF
          have HSZ : Hid (s ≤ wr.heap.size) := Nat.le_trans (Nat.le_of_eq HS.out) hbl.out.size
          have HLE : Hid (F.length + m.length ≤ (j + 1) * 100) := by have := hle.out; show _ ≤ _; omega
          go_wp2_with (at_builtin; refine list_app (B := s) (w := wr) rfl (.tmp 35) (.tmp 36) rfl _ F m a c hal.out HBT.out rfl rfl (by have := HLE.out; omega) HSZ.out ?_; intro v' w' hv' hg' ho'; have HV := Lib.hid hv'; clear hv'; have HG := Lib.hid hg'; clear hg'; have HO := Lib.hid ho'; clear ho')
          have HBW : Hid (Below s w w') := hbl.out.grown HG.out HSZ.out (fun k hk => (hal.out.lt hk).1)
          have HSW : Hid (Src s w' s vs F 0) := hsr.out.grown hal.out HG.out hap.out.symm
          have HAP : Hid (Apart v' vs) := (hap.out.symm.step hsr.out.2.2 HO.out).symm
          refine (feed_any HSW.out (HALL.out w' HBW.out).2 c (by have := HLE.out; omega)).mono ?_
          rintro e w4 ⟨rfl, vs', hs4, ho4, hk4⟩
          have HS4 := Lib.hid hs4; clear hs4
          have HO4 := Lib.hid ho4; clear ho4
          have HK4 := Lib.hid hk4; clear hk4
          go_wp2_with fail
          go_roundw
          case rel =>
            refine ⟨j + 1, vs', by go_num, by omega, ?_, ?_, HAP.out.step HV.out HO4.out, ?_, ?_⟩
            · show Lies _ _ _ _
              rw [HFL.out]
              refine HV.out.keep fun k hk => HK4.out.block k (HV.out.lt hk).2.1 ?_
              rintro (rfl | e)
              · exact HSW.out.ne HV.out hk
              · exact HAP.out k hk e
            · show Src _ _ _ _ _ _
              rw [HFL.out]
              exact HS4.out
            · refine HBW.out.trans (HK4.out.below (Nat.le_trans HSZ.out HG.out.size) ?_)
              rintro k hk (rfl | e)
              · exact Nat.lt_irrefl _ hk
              · have := (HSW.out.2.2.lt e).1
                omega
            · show _ ≤ _
              rw [HFL.out, List.length_append]
              exact HLE.out
          case measure => simp [intOf]; omega
      · obtain ⟨F, hF⟩ : ∃ F, F = (L0.take j).flatten := ⟨_, rfl⟩
        rw [← hF] at hal hsr hle
        clear hF
        obtain ⟨A, c, rfl, hc, hbt⟩ := hal.out.bts
        have hlF : F.length ≤ 3000 := by have := hle.out; omega
        have hT := new_any hbt c hc
        rw [List.take_of_length_le (show F.length ≤ 16777216 by omega)] at hT
        obtain ⟨t, ht⟩ : ∃ t, t = wr.heap.size := ⟨_, rfl⟩
        have HST : Hid (s ≠ t) := by
          have := hsr.out.lt
          show _ ≠ _
          omega
        rw [← ht] at hT
        have HTT := Lib.hid ht; clear ht
        have HT := Lib.hid hT; clear hT
        have HSC : Hid (s ≤ wr.heap.size) := Nat.le_trans (Nat.le_of_eq HS.out) hbl.out.size
        obtain ⟨n, hn⟩ : ∃ n, n = F.length := ⟨_, rfl⟩
        obtain ⟨q, hq⟩ : ∃ q, q = n / 16 := ⟨_, rfl⟩
        obtain ⟨r, hr⟩ : ∃ r, r = n % 16 := ⟨_, rfl⟩
        have e1 : (n : Int).tdiv 16 = (q : Int) := by rw [Int.tdiv_eq_ediv_of_nonneg (by omega)]; omega
        have e2 : (n : Int).tmod 16 = (r : Int) := by rw [Int.tmod_eq_emod_of_nonneg (by omega)]; omega
        have e3 : (n : Int) / 16 = (q : Int) := by omega
        have e4 : (n : Int) % 16 = (r : Int) := by omega
        rw [← hn] at hlF HT ⊢
        have hq2 : q ≤ 200 := by omega
        have HN := Lib.hid hn; clear hn
        have HQ := Lib.hid hq; clear hq
        have HR := Lib.hid hr; clear hr
        clear hbt hc
        go_wp2_with fail
        refine HT.out.mono ?_
        rintro e w2 ⟨rfl, vt, ht2, hb2⟩
        have H2T := Lib.hid ht2; clear ht2
        have HB2 := Lib.hid hb2; clear hb2
        have H2S : Hid (Src s w2 s vs F 0) := hsr.out.below (by rw [← HTT.out]; exact HB2.out)
        have HW2 : Hid (Below s w w2) := hbl.out.trans (HB2.out.mono (by rw [HTT.out]; exact HSC.out))
        have H2T' : Hid (Src s w2 t vt F 0) := H2T.out.mono (by rw [HTT.out]; exact HSC.out)
        go_wp2_with fail
        clear HT H2T HB2
        go_loopw [50] (fun u wx => ∃ (i : Nat) (v1 v2 : Value), u = .int .i64 i ∧ i ≤ q + 1 ∧ Hid (Src s wx s v1 (F.drop (16 * min i (F.length / 16))) (min i (F.length / 16))) ∧ Hid (Src s wx t v2 (F.drop (16 * min i (F.length / 16))) (min i (F.length / 16))) ∧ Hid (Below s w wx)) (fun u _ => q + 1 - (intOf u).toNat)
        case atStart => exact ⟨0, vs, vt, rfl, by omega, by show Src _ _ _ _ _ _; simpa using H2S.out, by show Src _ _ _ _ _ _; simpa using H2T'.out, HW2.out⟩
        case round =>
          obtain ⟨i, v1, v2, rfl, hi, hs1, hs2, hwx⟩ := hrel
          by_cases hil : i < q + 1
          · obtain ⟨hst1, hst2⟩ := rs_step F i
            obtain ⟨D, hD⟩ : ∃ D, D = F.drop (16 * min i (F.length / 16)) := ⟨_, rfl⟩
            obtain ⟨k, hk⟩ : ∃ k, k = min i (F.length / 16) := ⟨_, rfl⟩
            rw [← hD, ← hk] at hs1 hs2
            rw [← hD] at hst1
            rw [← hD, ← hk] at hst2
            have HST1 := Lib.hid hst1; clear hst1
            have HST2 := Lib.hid hst2; clear hst2
            have hk1 : k < 1000000000 := by omega
            clear hD hk
            have HLEN := Lib.hid (sd_len D)
            obtain ⟨x, hx⟩ : ∃ x, x = sd D := ⟨_, rfl⟩
            obtain ⟨ee, hee⟩ : ∃ x, x = er D := ⟨_, rfl⟩
            have HC1 := Lib.hid (fun W v B (h : Src B W s v D k) => seed_both h hk1)
            have HC2 := Lib.hid (fun W v B (h : Src B W t v D k) => seed_both h hk1)
            simp only [← hx, ← hee] at HC1 HC2 HLEN
            clear hx hee
            have hneq := fun W => run_neq_seed W x HLEN.out
            have hgd := run_guard_seed
            go_wp2_with fail
            refine (HC1.out _ _ _ hs1.out).mono ?_
            rintro e w3 ⟨rfl, v1', h3, _, k3⟩
            have H3 := Lib.hid h3; clear h3
            have K3 := Lib.hid k3; clear k3
            have HR3 : Hid (Src s w3 t v2 D k) := hs2.out.kept K3.out (fun e => HST.out e.symm) (fun j hj e => by subst e; exact hs1.out.ne hs2.out.2.2 hj)
            obtain ⟨w4, hw4⟩ : ∃ W, W = w3.alloc (.cells (seedV x) 36) := ⟨_, rfl⟩
            have hb4 : Below w3.heap.size w3 w4 := by rw [hw4]; exact (Below.refl _ _).alloc (Nat.le_refl _) _
            have HR4 := Lib.hid (HR3.out.below hb4)
            have H4 := Lib.hid (H3.out.below hb4)
            have HB4 := Lib.hid hb4; clear hb4
            have HW4 := Lib.hid hw4; clear hw4
            go_wp2_with (refine wpList_store_row rfl 36 _ _ rfl w3.heap.size (seedV x) rfl rfl 36 _ (heap_alloc_new w3 _) (by rw [seedV_size, HLEN.out]; kernel_rfl) (by rw [seedV_size, HLEN.out]; rfl) (seedV_one _) ?_; rw [World.setRow_alloc_new, ← HW4.out])
            refine (HC2.out _ _ _ HR4.out).mono ?_
            rintro e w5 ⟨rfl, v2', h5, _, k5⟩
            have H5 := Lib.hid h5; clear h5
            have K5 := Lib.hid k5; clear k5
            have HL5 : Hid (Src s w5 s v1' (rs D) (k + ct D)) := H4.out.kept K5.out HST.out (fun j hj e => by subst e; exact HR4.out.ne H4.out.2.2 hj)
            obtain ⟨w6, hw6⟩ : ∃ W, W = w5.alloc (.cells (seedV x) 36) := ⟨_, rfl⟩
            have hb6 : Below w5.heap.size w5 w6 := by rw [hw6]; exact (Below.refl _ _).alloc (Nat.le_refl _) _
            have hx4 : w4.heap[w3.heap.size]? = some (.cells (seedV x) 36 (0, 0)) := by rw [HW4.out]; exact heap_alloc_new w3 _
            have hx5 : w5.heap[w3.heap.size]? = some (.cells (seedV x) 36 (0, 0)) := (K5.out.block _ (Array.getElem?_eq_some_iff.1 hx4).1 (fun e => by have := HR3.out.lt; omega)).trans hx4
            have HX : Hid (w6.heap[w3.heap.size]? = some (.cells (seedV x) 36 (0, 0))) := (hb6.block _ (Array.getElem?_eq_some_iff.1 hx5).1).trans hx5
            have HY : Hid (w6.heap[w5.heap.size]? = some (.cells (seedV x) 36 (0, 0))) := by show _ = _; rw [hw6]; exact heap_alloc_new w5 _
            have HS6 := Lib.hid (HL5.out.below hb6)
            have HT6 := Lib.hid (H5.out.below hb6)
            have HW6' : Hid (Below s w w6) := by
              have g1 : Below s w w3 := bel_kept hwx.out K3.out (Nat.le_of_eq HS.out) (Nat.le_refl _)
              have g2 : Below s w w4 := g1.trans (HB4.out.mono (Nat.le_trans (Nat.le_of_eq HS.out) g1.size))
              have g3 : Below s w w5 := bel_kept g2 K5.out (Nat.le_of_eq HS.out) HR4.out.1
              exact g3.trans (hb6.mono (Nat.le_trans (Nat.le_of_eq HS.out) g3.size))
            have HW6 := Lib.hid hw6; clear hw6
            clear hb6 hx4 hx5
            go_wp2_with (first
              | (refine wpList_store_row rfl 36 _ _ rfl w5.heap.size (seedV x) rfl rfl 36 _ (heap_alloc_new w5 _) (by rw [seedV_size, HLEN.out]; kernel_rfl) (by rw [seedV_size, HLEN.out]; rfl) (seedV_one _) ?_; rw [World.setRow_alloc_new, ← HW6.out])
              | (refine wpList_load_row rfl 36 _ rfl w3.heap.size rfl 36 (seedV x) (0, 0) _ HX.out Try.underlying36 rfl (by rw [seedV_size, HLEN.out]; kernel_rfl) ?_)
              | (refine wpList_load_row rfl 36 _ rfl w5.heap.size rfl 36 (seedV x) (0, 0) _ HY.out Try.underlying36 rfl (by rw [seedV_size, HLEN.out]; kernel_rfl) ?_))
            go_roundw
            case rel =>
              refine ⟨i + 1, v1', v2', by go_num, by omega, ?_, ?_, HW6'.out⟩
              · show Src _ _ _ _ _ _
                rw [← HST1.out, ← HST2.out]
                exact HS6.out
              · show Src _ _ _ _ _ _
                rw [← HST1.out, ← HST2.out]
                exact HT6.out
            case measure => simp [intOf]; omega
          · have hiq : i = F.length / 16 + 1 := by have := HQ.out; have := HN.out; omega
            have h1 : Src s wr s v1 (F.drop (16 * q)) q := by
              have h := hs1.out
              rw [Nat.min_eq_right (by omega), ← HN.out, ← HQ.out] at h
              exact h
            have h2 : Src s wr t v2 (F.drop (16 * q)) q := by
              have h := hs2.out
              rw [Nat.min_eq_right (by omega), ← HN.out, ← HQ.out] at h
              exact h
            have hlr : (F.drop (16 * q)).length = r := by
              have := HR.out
              have := HQ.out
              rw [List.length_drop, ← HN.out]
              omega
            have L1 := left_any h1
            have L2 := left_any h2
            have T1 := taken_any h1
            rw [hlr] at L1 L2
            have HL1 := Lib.hid L1; clear L1
            have HL2 := Lib.hid L2; clear L2
            have HT1 := Lib.hid T1; clear T1
            clear hiq h1 h2 hlr
            go_wp2_with fail
            refine HL1.out.mono ?_
            rintro e w3 ⟨rfl, rfl⟩
            go_wp2_with fail
            refine HL2.out.mono ?_
            rintro e w3 ⟨rfl, rfl⟩
            go_wp2_with fail
            refine HL1.out.mono ?_
            rintro e w3 ⟨rfl, rfl⟩
            go_wp2_with fail
            refine HT1.out.mono ?_
            rintro e w3 ⟨rfl, rfl⟩
            go_wp2_with fail
            refine (HAW.out _).mono ?_
            rintro e w4 ⟨rfl, hb4⟩
            have HB4 := Lib.hid hb4; clear hb4
            go_wp2_with fail
            go_ret
            exact ⟨rfl, by rw [← HS.out]; exact hwx.out.trans (HB4.out.mono (Nat.le_trans (Nat.le_of_eq HS.out) hwx.out.size))⟩
/-! ### THE ROW's STEP -/
set_option maxRecDepth 100000 in
theorem lifted (os : Os) (started : os.Started) (H : Type) (enc : TypeId × Value → H) :
    ReturnsInHanded {} Try.checked os 4 .any (Rows.drawsPartsSpec.pre6 enc Try.prog Try.f4 Rows.drawsPartsRow.domain false) (Rows.drawsPartsSpec.post enc Try.prog Try.f4 false true false false) := by
  refine returnsInHanded_of_change (C := Try.checked) own started (by kernel_rfl) Try.func4
    (ChangeSpec.witness6 (enc := enc) (C := Try.checked) false ⟨#[], #[.slice none 0 0], []⟩ 8 (by kernel_rfl) (by kernel_rfl) (by kernel_rfl) (by kernel_rfl)) ?_
  intro W base args ds gs before hval0 hW hcnd _
  have hval : ∀ (j : Nat) t v, Try.f4.params[j]? = some t → args[j]? = some v → Value.okWide Try.prog W .any base t v := hval0
  have hW' := hW
  obtain ⟨p, q, hA0, hV, rfl, hfz, hnd⟩ := hW
  have hA : DataW.TrodAll enc Try.prog W 0 (fun _ => true) true Try.f4.params.toList args.toList ds p := hA0
  rw [Try.params4] at hA hval
  obtain ⟨v0, vs0, d0, ds0, p0, q0, hargs, rfl, rfl, h0, r0⟩ := trodAll_cons hA
  obtain ⟨rfl, rfl, rfl⟩ := trodAll_nil r0
  obtain rfl : args = #[v0] := by cases args; simp_all
  obtain ⟨rfl, rfl⟩ := trodVars_none hV
  obtain ⟨a0, len0, cap0, rfl⟩ := okWide_slice Try.underlying41 (hval 0 41 v0 rfl rfl)
  have k0 := h0
  have lt0 : ∀ x ∈ p0, x.block < W.heap.size := by obtain ⟨m, hm⟩ := k0; exact DataW.trod_lt m _ _ _ hm
  obtain ⟨A0, c0, L0, e0, hc0, hm0, ha0⟩ : ∃ (A : Option Addr) (c : Nat) (L : List (List UInt8)), Value.slice a0 len0 cap0 = .slice A L.length c ∧ L.length ≤ c ∧ c ≤ maxLen ∧ Lists W A L := by
    obtain ⟨fuel, hf⟩ := h0
    exact lists_open hf
  clear hA0 hval0
  obtain ⟨rfl, rfl, rfl⟩ : a0 = A0 ∧ len0 = L0.length ∧ cap0 = c0 := by
    injection e0 with x y z
    exact ⟨x, y, z⟩
  refine (walk W hc0 hm0 ha0).mono fun e W' ⟨he, bel⟩ => ?_
  subst he
  exact ⟨_, rfl, _, _, _, [], _, [], hW', trodAll_mk1 (shut_bool Try.underlying4 _), (trodAll_cons_mk (Below.trod laidOut (by kernel_rfl) (of_decide_eq_true (by kernel_rfl)) k0 bel lt0) trodAll_mk0), rfl, bel.frame _, fun h => by cases h⟩

theorem over : Rows.drawsPartsRow.holds Try.pinned (OpenSpec.ofChange Rows.drawsPartsSpec) :=
  OpenClaim.holds_of_wide 4 Try.f4 rfl rfl rfl rfl rfl rfl rfl ⟨rfl, rfl, rfl, rfl, rfl⟩ rfl rfl rfl rfl rfl (by kernel_rfl) Try.func4 (by kernel_rfl)
    (of_decide_eq_true (by kernel_rfl)) (by unfold Func.isWrapper; first | (rw [if_pos (by decide +kernel)]; kernel_rfl) | (rw [if_neg (by decide +kernel)]; exact ⟨rfl, rfl⟩))
    (fun os started H enc _ => lifted os started H enc)

/-- ████ THE STATEMENT ████ -/
theorem proved : Rows.DrawsPartsSaid := over
#print axioms proved
end Go.Proofs.Ytialpajnjbchgaa.drawsParts
