/-
  DrawsPlays: for every input the law answers true and leaves its arguments as they were: the walk is typed by hand, the row's step is the guide's template.
  Conditions: none beside the row's own.
-/
import Derived.Test.YtialpajnjbchgaaBump
import Derived.Test.YtialpajnjbchgaaOpen
import Derived.Test.YtialpajnjbchgaaRows
import Derived.WalkKit
import Derived.ProofKit
import Derived.OpenShut
import Derived.ShutString
import Derived.ChangeOld
import Derived.Below
namespace Go.Proofs.Ytialpajnjbchgaa.drawsPlays
open Go.ChangeShapes Go.WideShapes Go.ChangeAt Go.RowKit
set_option linter.unusedVariables false
theorem own : ownKnob Try.prog.godebug = none := by kernel_rfl
theorem laidOut : laidOutB Try.prog = true := by kernel_rfl
set_option maxRecDepth 100000 in
set_option maxHeartbeats 4000000 in
theorem walk {A0 : Option Addr} {c0 : Nat} {L0 : List UInt8} {A1 : Option Addr} {c1 : Nat} {L1 : List (Bool × List UInt8)} (w : World) (hc0 : L0.length ≤ c0) (hm0 : c0 ≤ maxLen) (ha0 : Bts w A0 L0) (hc1 : L1.length ≤ c1) (hm1 : c1 ≤ maxLen) (ha1 : Ops w A1 L1) :
    Calls Try.prog 3 #[.slice A0 L0.length c0, .slice A1 L1.length c1] w fun e w' => e = .returned (.bool true) ∧ Below w.heap.size w w' := by
  have HAW := Lib.hid awake_any
  have HA0 := Lib.hid ha0; clear ha0
  have HA1 := Lib.hid ha1; clear ha1
  by_cases hbig : 200 < L0.length
  · go_enter Try.func3, Try.ntmps3
    go_wp2_with fail
    refine (HAW.out _).mono ?_
    rintro e w2 ⟨rfl, hb⟩
    have HB2 := Lib.hid hb; clear hb
    go_wp2_with fail
    go_ret
    exact ⟨rfl, HB2.out⟩
  by_cases hbig1 : 40 < L1.length
  · go_enter Try.func3, Try.ntmps3
    go_wp2_with fail
    refine (HAW.out _).mono ?_
    rintro e w2 ⟨rfl, hb⟩
    have HB2 := Lib.hid hb; clear hb
    go_wp2_with fail
    go_ret
    exact ⟨rfl, HB2.out⟩
  have hl0 : L0.length ≤ 200 := by omega
  have hl1 : L1.length ≤ 40 := by omega
  clear hbig hbig1
  obtain ⟨B, hB⟩ : ∃ B, B = w.heap.size := ⟨_, rfl⟩
  have HBB := Lib.hid hB; clear hB
  obtain ⟨n0, hn0⟩ : ∃ n, n = L0.length := ⟨_, rfl⟩
  rw [← hn0] at hl0 hc0 ⊢
  have HN0 := Lib.hid hn0; clear hn0
  have HBT : Hid (Bts (w.alloc (.cells #[] 5)) A0 L0) := HA0.out.below ((Below.refl _ _).alloc (Nat.le_refl _) _)
  go_enter Try.func3, Try.ntmps3
  go_wp2_with (at_builtin; refine list_app_new (w := w) rfl (.tmp 27) (.tmp 28) rfl L0 A0 c0 HBT.out rfl (by rw [← HN0.out]; rfl) (by have := HN0.out; omega) ?_; intro A' c' w1 hv1 hb1; rw [← HN0.out] at hv1 ⊢; have HV1 := Lib.hid hv1; clear hv1; have HB1 := Lib.hid hb1; clear hb1)
  rw [← HBB.out] at HV1 HB1
  obtain ⟨hnn, hcc, hbt1⟩ := HV1.out.reads
  have hN := new_any hbt1 c' hcc
  rw [List.take_of_length_le (show L0.length ≤ 16777216 by have := HN0.out; omega), ← HN0.out] at hN
  clear hnn hcc hbt1
  obtain ⟨s, hs⟩ : ∃ s, s = w1.heap.size := ⟨_, rfl⟩
  rw [← hs] at hN
  have HS := Lib.hid hs; clear hs
  have HN := Lib.hid hN; clear hN
  refine HN.out.mono ?_
  rintro e w2 ⟨rfl, vs, h2, hb2⟩
  have H2 := Lib.hid h2; clear h2
  have HB2 := Lib.hid hb2; clear hb2
  have HW2 : Hid (Below B w w2) := HB1.out.trans (HB2.out.mono (by rw [HS.out]; exact Nat.le_trans (Nat.le_of_eq HBB.out) HB1.out.size))
  have HV2 : Hid (Lies B w2 (.slice A' n0 c') L0) := HV1.out.below (by rw [← HS.out]; exact HB2.out)
  have HG : Hid (∀ g off, A' = some ⟨g, off, none⟩ → B ≤ g ∧ g < s) := by
    rintro g off rfl
    rw [HS.out]
    exact HV1.out.at_lt
  go_wp2_with fail
  go_loopw [36] (fun u wr => ∃ (i : Nat) (m : List UInt8), u = .int .i64 i ∧ i ≤ n0 ∧ Hid (m.length = n0) ∧ Hid (Lies B wr (.slice A' n0 c') m) ∧ Hid (Src s wr s vs L0 0) ∧ Hid (Below B w wr)) (fun u _ => n0 - (intOf u).toNat)
  case atStart => exact ⟨0, L0, rfl, by omega, HN0.out.symm, HV2.out, H2.out, HW2.out⟩
  case round =>
    obtain ⟨i, m, rfl, hi, hml, hlies, hsrc, hwr⟩ := hrel
    by_cases hlt : i < n0
    · obtain ⟨g, off, rfl, hcell, hfz, hset⟩ := hlies.out.byte i (by rw [hml.out]; exact hlt)
      obtain ⟨hg1, hg2⟩ := HG.out g off rfl
      obtain ⟨x, hx⟩ : ∃ x, x = m[i]'(by rw [hml.out]; exact hlt) := ⟨_, rfl⟩
      rw [← hx] at hcell
      clear hx
      have hset1 := hset (x + 1)
      obtain ⟨y, hy⟩ : ∃ y : Int, y = (((x + 1 : UInt8).toNat : Nat) : Int) := ⟨_, rfl⟩
      obtain ⟨z, hz⟩ : ∃ z : Nat, z = x.toNat := ⟨_, rfl⟩
      have hz2 : z < 256 := by rw [hz]; exact x.toNat_lt
      have hwrap := byte_more x
      rw [← hy, ← hz] at hwrap
      rw [← hz] at hcell
      rw [← hy] at hset1
      have HSET := Lib.hid hset1
      have HSRC : Hid (Src s (wr.setCell ⟨g, off + i, none⟩ (.int .u8 y)) s vs L0 0) := hsrc.out.other (by omega) (fun e => by have := (hsrc.out.2.2.lt e).1; omega)
      have HWR : Hid (Below B w (wr.setCell ⟨g, off + i, none⟩ (.int .u8 y))) := hwr.out.setCell (p := ⟨g, off + i, none⟩) hg1 _
      clear hset hset1 hy hz
      go_wp2
      go_roundw
      case rel => exact ⟨i + 1, _, by go_num, by omega, by show _ = _; rw [List.length_set]; exact hml.out, HSET.out, HSRC.out, HWR.out⟩
      case measure => simp [intOf]; omega
    · have hcv : (convert 22 9 (.slice A0 n0 c0)).run Try.prog wr = .ok (.string (txt L0)) wr := by
        have h := conv_any (HA0.out.below (w' := wr) (by rw [← HBB.out]; exact hwr.out)) c0
        rw [← HN0.out] at h
        exact h
      obtain ⟨w3, hw3⟩ : ∃ W, W = wr.alloc (.cells #[.string (txt L0), .int .i64 0] 28) := ⟨_, rfl⟩
      have hb3 : Below wr.heap.size wr w3 := by rw [hw3]; exact (Below.refl _ _).alloc (Nat.le_refl _) _
      obtain ⟨xb, hxb⟩ : ∃ x, x = wr.heap.size := ⟨_, rfl⟩
      have HX3 : Hid (w3.heap[xb]? = some (.cells #[.string (txt L0), .int .i64 ((0 : Nat) : Int)] 28 (0, 0))) := by show _ = _; rw [hw3, hxb]; exact heap_alloc_new wr _
      have HSS : Hid (B ≤ s) := by show _ ≤ _; rw [HS.out]; exact Nat.le_trans (Nat.le_of_eq HBB.out) HB1.out.size
      have H3 : Hid (Src B w3 s vs L0 0) := (hsrc.out.below hb3).mono HSS.out
      have HW3 : Hid (Below B w w3) := hwr.out.trans (hb3.mono (Nat.le_trans (Nat.le_of_eq HBB.out) hwr.out.size))
      have HBX : Hid (B ≤ xb) := by show _ ≤ _; rw [hxb]; exact Nat.le_trans (Nat.le_of_eq HBB.out) hwr.out.size
      have HXB := Lib.hid hxb; clear hxb
      have HW := Lib.hid hw3; clear hw3
      clear hb3
      go_wp2_with fail
      rw [← HW.out, ← HXB.out]
      clear hcv hlt hi hml hlies hsrc hwr HG HN H2 HB2 HW2 HV2 HV1 HB1 HW HXB HS
      go_loopw [51] (fun u wx => ∃ (j k : Nat) (v : Value) (F : List UInt8), u = .int .i64 j ∧ j ≤ L1.length ∧ k ≤ j ∧ Hid (F.length ≤ 200 + j * 200) ∧ Hid (Src B wx s v F k) ∧ Hid (wx.heap[xb]? = some (.cells #[.string (txt F), .int .i64 (k : Int)] 28 (0, 0))) ∧ Hid (Below B w wx)) (fun u _ => L1.length - (intOf u).toNat)
      case atStart => exact ⟨0, 0, vs, L0, rfl, by omega, by omega, by show _ ≤ _; have := HN0.out; omega, H3.out, HX3.out, HW3.out⟩
      case round =>
        obtain ⟨j, k, v, F, rfl, hj, hk, hF, hsrc, hxr, hwx⟩ := hrel
        by_cases hlt : j < L1.length
        · obtain ⟨b, off, a, c, rfl, hall⟩ := HA1.out.at_ j hlt
          rw [← HBB.out] at hall
          obtain ⟨f, hf⟩ : ∃ f, f = (L1[j]).1 := ⟨_, rfl⟩
          obtain ⟨m, hm⟩ : ∃ m, m = (L1[j]).2 := ⟨_, rfl⟩
          obtain ⟨n, hn⟩ : ∃ n, n = m.length := ⟨_, rfl⟩
          simp only [← hf, ← hm, ← hn] at hall
          obtain ⟨hx1, hx2, _⟩ := hall wr hwx.out
          have HALL := Lib.hid hall; clear hall
          have HN := Lib.hid hn; clear hn
          clear hf hm
          by_cases hbig : 200 < n
          · go_wp2_with fail
            refine (HAW.out _).mono ?_
            rintro e w4 ⟨rfl, hb4⟩
            have HB4 := Lib.hid hb4; clear hb4
            go_wp2_with fail
            go_ret
            refine ⟨rfl, ?_⟩
            rw [← HBB.out]
            have hsz := Nat.le_trans (Nat.le_of_eq HBB.out) hwx.out.size
            have g1 := hwx.out.alloc hsz (.cells #[.bool f, .slice a n c] 30)
            exact g1.trans (HB4.out.mono (Nat.le_trans (Nat.le_of_eq HBB.out) g1.size))
          have hsml : n ≤ 200 := by omega
          clear hbig
          have HSZ : Hid (B ≤ wr.heap.size) := Nat.le_trans (Nat.le_of_eq HBB.out) hwx.out.size
          have hk9 : k < 1000000000 := by omega
          cases f with
          | true =>
            obtain ⟨wo, hwo⟩ : ∃ W, W = wr.alloc (.cells #[.bool true, .slice a n c] 30) := ⟨_, rfl⟩
            have hbo : Below wr.heap.size wr wo := by rw [hwo]; exact (Below.refl _ _).alloc (Nat.le_refl _) _
            have hso : wo.heap.size = wr.heap.size + 1 := by rw [hwo]; simp
            have HBO := Lib.hid hbo; clear hbo
            have HSO := Lib.hid hso; clear hso
            have HWO := Lib.hid hwo
            have HWB : Hid (Below B w wo) := hwx.out.trans (HBO.out.mono HSZ.out)
            have HBT : Hid (Bts (wo.alloc (.cells #[] 5)) a m) := (HALL.out _ (HWB.out.alloc (Nat.le_trans HSZ.out HBO.out.size) _)).2.2
            have o1 : wo.cell? ⟨wr.heap.size, 0, none⟩ = some (.bool true) := by rw [hwo]; exact (cell_of_row _ _ 0 _ 30 (0, 0) (heap_alloc_new wr _)).trans rfl
            have o2 : wo.cell? ⟨wr.heap.size, 1, none⟩ = some (.slice a n c) := by rw [hwo]; exact (cell_of_row _ _ 1 _ 30 (0, 0) (heap_alloc_new wr _)).trans rfl
            clear hwo
            go_wp2_with (at_builtin; rw [← HWO.out]; refine list_app_new (w := wo) rfl (.tmp 62) (.tmp 64) rfl m a c HBT.out (by rw [HSO.out]; rfl) (by rw [← HN.out]; rfl) (by have := HN.out; omega) ?_; intro A2 c2 w4 hv4 hb4; rw [← HN.out] at hv4 ⊢; have HV4 := Lib.hid hv4; clear hv4; have HB4 := Lib.hid hb4; clear hb4)
            obtain ⟨ob, hob⟩ : ∃ o, o = wr.heap.size := ⟨_, rfl⟩
            rw [← hob] at o1 o2
            have hor : wo.heap[ob]? = some (.cells #[.bool true, .slice a n c] 30 (0, 0)) := by rw [HWO.out, hob]; exact heap_alloc_new wr _
            have HSRC4 : Hid (Src B w4 s v F k) := (hsrc.out.below HBO.out).below HB4.out
            have HXR4 := Lib.hid (row_below (row_below hxr.out HBO.out) HB4.out)
            have HOR4 := Lib.hid (row_below hor HB4.out)
            have HWB4 : Hid (Below B w w4) := HWB.out.trans (HB4.out.mono (Nat.le_trans HSZ.out HBO.out.size))
            have hlts := hsrc.out.lt
            have hltx := (Array.getElem?_eq_some_iff.1 hxr.out).1
            have hso := HSO.out
            obtain ⟨hnn4, hcc4, hbt4⟩ := HV4.out.reads
            clear hnn4 hcc4
            have hfd := feed_any HSRC4.out hbt4 c2 (by have := hF.out; have := HN.out; omega)
            rw [← HN.out] at hfd
            have HFD := Lib.hid hfd; clear hfd
            have HV4' : Hid (∀ k, (Value.slice A2 n c2).ownBlock = some k → wo.heap.size ≤ k ∧ k < w4.heap.size) := fun k hk => ⟨(HV4.out.lt hk).1, (HV4.out.lt hk).2.1⟩
            have HVL : Hid (∀ k, v.ownBlock = some k → k < wr.heap.size) := fun k hk => (hsrc.out.2.2.lt hk).2.1
            refine HFD.out.mono ?_
            rintro e w5 ⟨rfl, v2, h5, ho5, hk5⟩
            have H5 := Lib.hid h5; clear h5
            have HXR5 : Hid (w5.heap[xb]? = some (.cells #[.string (txt F), .int .i64 (k : Int)] 28 (0, 0))) := by
              refine (hk5.block xb (Array.getElem?_eq_some_iff.1 HXR4.out).1 ?_).trans HXR4.out
              rintro (e | e)
              · exact (HSRC4.out.apart HXR4.out (by decide) (by decide)).1 e
              · exact (HSRC4.out.apart HXR4.out (by decide) (by decide)).2 e
            have HOR5 : Hid (w5.heap[ob]? = some (.cells #[.bool true, .slice a n c] 30 (0, 0))) := by
              refine (hk5.block ob (Array.getElem?_eq_some_iff.1 HOR4.out).1 ?_).trans HOR4.out
              rintro (e | e)
              · omega
              · have := HVL.out _ e
                omega
            have HV5 : Hid (Lies B w5 (.slice A2 n c2) m) := by
              refine (HV4.out.mono (Nat.le_trans HSZ.out HBO.out.size)).keep fun g hg => hk5.block g (HV4'.out g hg).2 ?_
              have := HV4'.out g hg
              rintro (e | e)
              · omega
              · have := HVL.out _ e
                omega
            have HWB5 : Hid (Below B w w5) := by
              refine HWB4.out.trans (hk5.below (Nat.le_trans (Nat.le_of_eq HBB.out) HWB4.out.size) ?_)
              rintro g hg (e | e)
              · have := HSS.out
                omega
              · have := (HSRC4.out.2.2.lt e).1
                omega
            have HG5 : Hid (∀ g off, A2 = some ⟨g, off, none⟩ → B ≤ g ∧ g ≠ s ∧ v2.ownBlock ≠ some g ∧ g ≠ xb ∧ g ≠ ob) := by
              rintro g off rfl
              obtain ⟨g1, g2⟩ := HV4'.out g rfl
              have := HSZ.out
              refine ⟨by omega, by omega, fun e => ?_, by omega, by omega⟩
              rcases ho5 with h | h
              · rw [h] at e
                have := HVL.out _ e
                omega
              · rw [h] at e
                injection e with e
                omega
            rw [← hob]
            have HOB := Lib.hid hob; clear hob
            have HML : Hid (m.length = n) := HN.out.symm
            clear hor hlts hltx hso hbt4 ho5 hk5 o1 o2 HFD HV4 HB4 HV4' HVL HSRC4 HXR4 HOR4 HWB4 HBT hx1 hx2
            go_wp2_with fail
            go_loopw [72] (fun u wx => ∃ (t : Nat) (m2 : List UInt8), u = .int .i64 t ∧ t ≤ n ∧ Hid (m2.length = n) ∧ Hid (Lies B wx (.slice A2 n c2) m2) ∧ Hid (Src B wx s v2 (F ++ m) k) ∧ Hid (wx.heap[xb]? = some (.cells #[.string (txt F), .int .i64 (k : Int)] 28 (0, 0))) ∧ Hid (wx.heap[ob]? = some (.cells #[.bool true, .slice a n c] 30 (0, 0))) ∧ Hid (Below B w wx)) (fun u _ => n - (intOf u).toNat)
            case atStart => exact ⟨0, m, rfl, by omega, HML.out, HV5.out, H5.out, HXR5.out, HOR5.out, HWB5.out⟩
            case round =>
              obtain ⟨t, m2, rfl, ht, hml, hlies, hs2, hxr2, hor2, hwx2⟩ := hrel
              by_cases htl : t < n
              · obtain ⟨g, off2, rfl, hcell, hfz, hset⟩ := hlies.out.byte t (by rw [hml.out]; exact htl)
                obtain ⟨hg1, hg2, hg3, hg4, hg5⟩ := HG5.out g off2 rfl
                obtain ⟨x, hx⟩ : ∃ x, x = m2[t]'(by rw [hml.out]; exact htl) := ⟨_, rfl⟩
                rw [← hx] at hcell
                clear hx
                have hset1 := hset (x + 1)
                obtain ⟨y, hy⟩ : ∃ y : Int, y = (((x + 1 : UInt8).toNat : Nat) : Int) := ⟨_, rfl⟩
                obtain ⟨z, hz⟩ : ∃ z : Nat, z = x.toNat := ⟨_, rfl⟩
                have hz2 : z < 256 := by rw [hz]; exact x.toNat_lt
                have hwrap := byte_more x
                rw [← hy, ← hz] at hwrap
                rw [← hz] at hcell
                rw [← hy] at hset1
                have HSET := Lib.hid hset1
                have HSRC : Hid (Src B (wr.setCell ⟨g, off2 + t, none⟩ (.int .u8 y)) s v2 (F ++ m) k) := hs2.out.other hg2 hg3
                have HXS : Hid ((wr.setCell ⟨g, off2 + t, none⟩ (.int .u8 y)).heap[xb]? = some (.cells #[.string (txt F), .int .i64 (k : Int)] 28 (0, 0))) := row_other hxr2.out (Ne.symm hg4)
                have HOS : Hid ((wr.setCell ⟨g, off2 + t, none⟩ (.int .u8 y)).heap[ob]? = some (.cells #[.bool true, .slice a n c] 30 (0, 0))) := row_other hor2.out (Ne.symm hg5)
                have HWR : Hid (Below B w (wr.setCell ⟨g, off2 + t, none⟩ (.int .u8 y))) := hwx2.out.setCell (p := ⟨g, off2 + t, none⟩) hg1 _
                clear hset hset1 hy hz hg1 hg2 hg3 hg4 hg5
                go_wp2
                go_roundw
                case rel => exact ⟨t + 1, _, by go_num, by omega, by show _ = _; rw [List.length_set]; exact hml.out, HSET.out, HSRC.out, HXS.out, HOS.out, HWR.out⟩
                case measure => simp [intOf]; omega
              · have q1 : wr.cell? ⟨xb, 0, none⟩ = some (.string (txt F)) := by rw [cell_of_row wr xb 0 _ 28 (0, 0) hxr2.out]; rfl
                have q2 : wr.cell? ⟨ob, 1, none⟩ = some (.slice a n c) := by rw [cell_of_row wr ob 1 _ 30 (0, 0) hor2.out]; rfl
                have q3 : wr.frozen? ⟨xb, 0, none⟩ = false := by simp [World.frozen?, hxr2.out]
                have hcv : (convert 22 9 (.slice a n c)).run Try.prog wr = .ok (.string (txt m)) wr := by
                  have h := conv_any (HALL.out wr hwx2.out).2.2 c
                  rw [← HN.out] at h
                  exact h
                obtain ⟨hne1, hne2⟩ := hs2.out.apart hxr2.out (by decide) (by decide)
                have happ := txt_append F m
                have hsP : (txt F).size ≤ 10000 := by rw [txt_size]; have := hF.out; omega
                have hsQ : (txt m).size ≤ 200 := by rw [txt_size, HML.out]; exact hsml
                obtain ⟨X, hX⟩ : ∃ X, X = txt (F ++ m) := ⟨_, rfl⟩
                rw [← hX] at happ
                obtain ⟨N, hN⟩ : ∃ N, N = (F ++ m).length := ⟨_, rfl⟩
                have hsz : X.size = N := by rw [hX, hN]; exact txt_size _
                obtain ⟨W, hW⟩ : ∃ W, W = wr.setCell ⟨xb, 0, none⟩ (.string X) := ⟨_, rfl⟩
                have hWs : Src B W s v2 (F ++ m) k := by rw [hW]; exact hs2.out.other hne1 hne2
                have hWx : W.heap[xb]? = some (.cells #[.string X, .int .i64 (k : Int)] 28 (0, 0)) := by rw [hW, heap_setCell_same wr xb 0 _ 28 _ hxr2.out]; rfl
                have HWx : Hid (W.heap[xb]? = some (.cells #[.string (txt (F ++ m)), .int .i64 (k : Int)] 28 (0, 0))) := by show _ = _; rw [hWx, hX]
                have HWs := Lib.hid hWs
                have HWb : Hid (Below B w W) := by show Below _ _ _; rw [hW]; exact hwx2.out.setCell (p := ⟨xb, 0, none⟩) HBX.out _
                have cx1 : W.cell? ⟨xb, 0, none⟩ = some (.string X) := by rw [cell_of_row W xb 0 _ 28 (0, 0) hWx]; rfl
                have cx2 : W.cell? ⟨xb, 1, none⟩ = some (.int .i64 (k : Int)) := by rw [cell_of_row W xb 1 _ 28 (0, 0) hWx]; rfl
                have HL : Hid (∀ q, Calls Try.prog 11 #[.pointer (some ⟨s, 0, none⟩)] (W.drewN q) fun e w' => e = .returned (.int .i64 (N : Int)) ∧ w' = W.drewN q) := fun q => by
                  rw [hN]
                  exact left_any (hWs.below (below_drewN (Below.refl _ _) q))
                have HT : Hid (∀ q, Calls Try.prog 12 #[.pointer (some ⟨s, 0, none⟩)] (W.drewN q) fun e w' => e = .returned (.int .i64 (k : Int)) ∧ w' = W.drewN q) := fun q => taken_any (hWs.below (below_drewN (Below.refl _ _) q))
                have HNN : Hid (N ≤ 200 + (j + 1) * 200) := by
                  have := hF.out
                  have := HML.out
                  show _ ≤ _
                  rw [hN, List.length_append]
                  omega
                have HNL := Lib.hid hN
                have HWW := Lib.hid hW
                clear hne1 hne2 hX hN hW hWs hWx
                obtain ⟨P, hP⟩ : ∃ P, P = txt F := ⟨_, rfl⟩
                obtain ⟨Q, hQ⟩ : ∃ Q, Q = txt m := ⟨_, rfl⟩
                rw [← hP] at happ hsP q1
                rw [← hQ] at happ hsQ hcv
                clear hP hQ
                go_wp2_with fail
                rw [← HWW.out]
                clear q1 q2 q3 hcv happ hsP hsQ htl
                go_quiet (first | (go_at_call 11; refine Calls.quiet_of_same (HL.out _)) | (go_at_call 12; refine Calls.quiet_of_same (HT.out _)))
                go_wp2_with fail
                go_roundw
                case rel => exact ⟨j + 1, k, v2, F ++ m, by go_num, by omega, by omega, by show _ ≤ _; rw [← HNL.out]; exact HNN.out, HWs.out.below (below_drewN (Below.refl _ _) _), row_below HWx.out (below_drewN (Below.refl _ _) _), HWb.out.trans (below_drewN (Below.refl _ _) _)⟩
                case measure => simp [intOf]; omega
          | false =>
            obtain ⟨wo, hwo⟩ : ∃ W, W = wr.alloc (.cells #[.bool false, .slice a n c] 30) := ⟨_, rfl⟩
            have hbo : Below wr.heap.size wr wo := by rw [hwo]; exact (Below.refl _ _).alloc (Nat.le_refl _) _
            have HBO := Lib.hid hbo; clear hbo
            have HWO := Lib.hid hwo
            have HWB : Hid (Below B w wo) := hwx.out.trans (HBO.out.mono HSZ.out)
            have HSRC : Hid (Src B wo s v F k) := hsrc.out.below HBO.out
            have HXR := Lib.hid (row_below hxr.out HBO.out)
            clear hwo
            by_cases hwet : 16 ≤ F.length
            · have href := refSeed_any F k wo hwet hk9
              obtain ⟨k1, hk1⟩ : ∃ x, x = k + 1 := ⟨_, rfl⟩
              obtain ⟨R, hR⟩ : ∃ x, x = txt (F.drop 16) := ⟨_, rfl⟩
              obtain ⟨T, hT⟩ : ∃ x, x = txt (F.take 16) := ⟨_, rfl⟩
              rw [← hk1, ← hR, ← hT] at href
              have hkj : k1 ≤ j + 1 := by omega
              have HREF := Lib.hid href; clear href
              have HK1 := Lib.hid hk1; clear hk1
              have HRR := Lib.hid hR; clear hR
              have HTT := Lib.hid hT; clear hT
              go_wp2_with (refine wpList_load_row rfl 28 _ rfl xb rfl 28 _ (0, 0) _ (by rw [← HWO.out]; exact HXR.out) Try.underlying28 rfl (by kernel_rfl) ?_)
              rw [← HWO.out]
              refine HREF.out.mono ?_
              rintro e w4 ⟨rfl, hb4⟩
              have HB4 := Lib.hid hb4; clear hb4
              obtain ⟨w5, hw5⟩ : ∃ W, W = w4.alloc (.cells #[.string R, .int .i64 (k1 : Int)] 28) := ⟨_, rfl⟩
              have hb5 : Below w4.heap.size w4 w5 := by rw [hw5]; exact (Below.refl _ _).alloc (Nat.le_refl _) _
              have HB5 := Lib.hid (below_then HB4.out hb5); clear hb5
              have HSRC5 := Lib.hid (HSRC.out.below HB5.out)
              have HXR5 := Lib.hid (row_below HXR.out HB5.out)
              have HWB5 : Hid (Below B w w5) := HWB.out.trans (HB5.out.mono (Nat.le_trans (Nat.le_of_eq HBB.out) HWB.out.size))
              have HYR5 : Hid (w5.heap[w4.heap.size]? = some (.cells #[.string R, .int .i64 (k1 : Int)] 28 (0, 0))) := by show _ = _; rw [hw5]; exact heap_alloc_new w4 _
              have r1 : (w4.alloc (.cells #[.string R, .int .i64 (k1 : Int)] 28)).cell? ⟨xb, 0, none⟩ = some (.string (txt F)) := by rw [← hw5, cell_of_row w5 xb 0 _ 28 (0, 0) HXR5.out]; rfl
              have r2 : (w4.alloc (.cells #[.string R, .int .i64 (k1 : Int)] 28)).cell? ⟨xb, 1, none⟩ = some (.int .i64 (k : Int)) := by rw [← hw5, cell_of_row w5 xb 1 _ 28 (0, 0) HXR5.out]; rfl
              have r3 : (w4.alloc (.cells #[.string R, .int .i64 (k1 : Int)] 28)).frozen? ⟨xb, 0, none⟩ = false := by rw [← hw5]; simp [World.frozen?, HXR5.out]
              have r4 : (w4.alloc (.cells #[.string R, .int .i64 (k1 : Int)] 28)).frozen? ⟨xb, 1, none⟩ = false := by rw [← hw5]; simp [World.frozen?, HXR5.out]
              have HW5 := Lib.hid hw5; clear hw5
              obtain ⟨W6, hW6⟩ : ∃ W, W = (w5.setCell ⟨xb, 0, none⟩ (.string R)).setCell ⟨xb, 1, none⟩ (.int .i64 (k1 : Int)) := ⟨_, rfl⟩
              obtain ⟨hne1, hne2⟩ := HSRC5.out.apart HXR5.out (by decide) (by decide)
              have HSRC6 : Hid (Src B W6 s v F k) := by show Src _ _ _ _ _ _; rw [hW6]; exact (HSRC5.out.other hne1 hne2).other hne1 hne2
              have HXR6 : Hid (W6.heap[xb]? = some (.cells #[.string R, .int .i64 (k1 : Int)] 28 (0, 0))) := by
                show _ = _
                rw [hW6, heap_setCell_same _ xb 1 _ 28 _ (heap_setCell_same w5 xb 0 _ 28 _ HXR5.out)]
                rfl
              have HWB6 : Hid (Below B w W6) := by show Below _ _ _; rw [hW6]; exact (HWB5.out.setCell (p := ⟨xb, 0, none⟩) HBX.out _).setCell (p := ⟨xb, 1, none⟩) HBX.out _
              have HW6 := Lib.hid hW6; clear hW6
              clear hne1 hne2
              go_wp2_with fail
              rw [← HW5.out, ← HW6.out]
              clear r1 r2 r3 r4
              obtain ⟨D, hD⟩ : ∃ D, D = F.take 16 := ⟨_, rfl⟩
              obtain ⟨G, hG⟩ : ∃ G, G = F.drop 16 := ⟨_, rfl⟩
              have hsd := seed_any HSRC6.out hwet hk9
              rw [← hD, ← hG, ← HK1.out] at hsd
              have HLEN : Hid (D.length = 16) := by show _ = _; rw [hD, List.length_take]; omega
              have HTD : Hid (T = txt D) := by show _ = _; rw [HTT.out, hD]
              have HRG : Hid (R = txt G) := by show _ = _; rw [HRR.out, hG]
              obtain ⟨N, hN⟩ : ∃ N, N = G.length := ⟨_, rfl⟩
              have HNN : Hid (N ≤ 200 + (j + 1) * 200) := by
                have := hF.out
                show _ ≤ _
                rw [hN, hG, List.length_drop]
                omega
              have HSD := Lib.hid hsd; clear hsd
              have HNL := Lib.hid hN; clear hN
              clear hD hG
              refine HSD.out.mono ?_
              rintro e w7 ⟨rfl, v7, h7, _, k7⟩
              obtain ⟨W, hW⟩ : ∃ W, W = w7.alloc (.cells (seedV D) 36) := ⟨_, rfl⟩
              have hb8 : Below w7.heap.size w7 W := by rw [hW]; exact (Below.refl _ _).alloc (Nat.le_refl _) _
              have hWs : Src B W s v7 G k1 := h7.below hb8
              have hx7 : w7.heap[xb]? = some (.cells #[.string R, .int .i64 (k1 : Int)] 28 (0, 0)) := (k7.block xb (Array.getElem?_eq_some_iff.1 HXR6.out).1 (HSRC6.out.apart HXR6.out (by decide) (by decide)).1).trans HXR6.out
              have hWx := row_below hx7 hb8
              have hWb : Below B w W := (bel_kept HWB6.out k7 (Nat.le_of_eq HBB.out) HSS.out).trans (hb8.mono (Nat.le_trans (Nat.le_of_eq HBB.out) (bel_kept HWB6.out k7 (Nat.le_of_eq HBB.out) HSS.out).size))
              have hcv : (convert 22 9 (.slice (some ⟨w7.heap.size, 0, none⟩) 16 16)).run Try.prog W = .ok (.string T) W := by
                have hr : W.heap[w7.heap.size]? = some (.cells (seedV D) 36 (0, 0)) := by rw [hW]; exact heap_alloc_new w7 _
                have h := conv_any (seed_bts hr) 16
                rw [HLEN.out] at h
                rw [HTD.out]
                exact h
              have hsz : R.size = N := by rw [HRG.out, HNL.out]; exact txt_size _
              have cx1 : W.cell? ⟨xb, 0, none⟩ = some (.string R) := by rw [cell_of_row W xb 0 _ 28 (0, 0) hWx]; rfl
              have cx2 : W.cell? ⟨xb, 1, none⟩ = some (.int .i64 (k1 : Int)) := by rw [cell_of_row W xb 1 _ 28 (0, 0) hWx]; rfl
              have HL : Hid (∀ q, Calls Try.prog 11 #[.pointer (some ⟨s, 0, none⟩)] (W.drewN q) fun e w' => e = .returned (.int .i64 (N : Int)) ∧ w' = W.drewN q) := fun q => by
                rw [HNL.out]
                exact left_any (hWs.below (below_drewN (Below.refl _ _) q))
              have HT : Hid (∀ q, Calls Try.prog 12 #[.pointer (some ⟨s, 0, none⟩)] (W.drewN q) fun e w' => e = .returned (.int .i64 (k1 : Int)) ∧ w' = W.drewN q) := fun q => taken_any (hWs.below (below_drewN (Below.refl _ _) q))
              have HWs := Lib.hid hWs; clear hWs
              have HWx : Hid (W.heap[xb]? = some (.cells #[.string (txt G), .int .i64 (k1 : Int)] 28 (0, 0))) := by show _ = _; rw [hWx, HRG.out]
              have HWb := Lib.hid hWb; clear hWb
              have HWW := Lib.hid hW; clear hW
              clear hx7 hb8 h7 k7 hWx
              go_wp2_with (refine wpList_store_row rfl 36 _ _ rfl w7.heap.size (seedV D) rfl rfl 36 _ (heap_alloc_new w7 _) (by rw [seedV_size, HLEN.out]; kernel_rfl) (by rw [seedV_size, HLEN.out]; rfl) (seedV_one _) ?_; rw [World.setRow_alloc_new, ← HWW.out])
              go_quiet (first | (go_at_call 11; refine Calls.quiet_of_same (HL.out _)) | (go_at_call 12; refine Calls.quiet_of_same (HT.out _)))
              go_wp2_with fail
              go_roundw
              case rel => exact ⟨j + 1, k1, v7, G, by go_num, by omega, by omega, by show _ ≤ _; rw [← HNL.out]; exact HNN.out, HWs.out.below (below_drewN (Below.refl _ _) _), row_below HWx.out (below_drewN (Below.refl _ _) _), HWb.out.trans (below_drewN (Below.refl _ _) _)⟩
              case measure => simp [intOf]; omega
            · have href := refSeed_dry F k wo (by omega)
              obtain ⟨R, hR⟩ : ∃ x, x = txt F := ⟨_, rfl⟩
              rw [← hR] at href HXR
              have HREF := Lib.hid href; clear href
              have HRR := Lib.hid hR; clear hR
              go_wp2_with (refine wpList_load_row rfl 28 _ rfl xb rfl 28 _ (0, 0) _ (by rw [← HWO.out]; exact HXR.out) Try.underlying28 rfl (by kernel_rfl) ?_)
              rw [← HWO.out]
              refine HREF.out.mono ?_
              rintro e w4 ⟨rfl, hb4⟩
              have HB4 := Lib.hid hb4; clear hb4
              obtain ⟨w5, hw5⟩ : ∃ W, W = w4.alloc (.cells #[.string R, .int .i64 (k : Int)] 28) := ⟨_, rfl⟩
              have hb5 : Below w4.heap.size w4 w5 := by rw [hw5]; exact (Below.refl _ _).alloc (Nat.le_refl _) _
              have HB5 := Lib.hid (below_then HB4.out hb5); clear hb5
              have HSRC5 := Lib.hid (HSRC.out.below HB5.out)
              have HXR5 := Lib.hid (row_below HXR.out HB5.out)
              have HWB5 : Hid (Below B w w5) := HWB.out.trans (HB5.out.mono (Nat.le_trans (Nat.le_of_eq HBB.out) HWB.out.size))
              have r1 : (w4.alloc (.cells #[.string R, .int .i64 (k : Int)] 28)).cell? ⟨xb, 0, none⟩ = some (.string R) := by rw [← hw5, cell_of_row w5 xb 0 _ 28 (0, 0) HXR5.out]; rfl
              have r2 : (w4.alloc (.cells #[.string R, .int .i64 (k : Int)] 28)).cell? ⟨xb, 1, none⟩ = some (.int .i64 (k : Int)) := by rw [← hw5, cell_of_row w5 xb 1 _ 28 (0, 0) HXR5.out]; rfl
              have r3 : (w4.alloc (.cells #[.string R, .int .i64 (k : Int)] 28)).frozen? ⟨xb, 0, none⟩ = false := by rw [← hw5]; simp [World.frozen?, HXR5.out]
              have r4 : (w4.alloc (.cells #[.string R, .int .i64 (k : Int)] 28)).frozen? ⟨xb, 1, none⟩ = false := by rw [← hw5]; simp [World.frozen?, HXR5.out]
              have HW5 := Lib.hid hw5; clear hw5
              obtain ⟨W6, hW6⟩ : ∃ W, W = (w5.setCell ⟨xb, 0, none⟩ (.string R)).setCell ⟨xb, 1, none⟩ (.int .i64 (k : Int)) := ⟨_, rfl⟩
              obtain ⟨hne1, hne2⟩ := HSRC5.out.apart HXR5.out (by decide) (by decide)
              have HSRC6 : Hid (Src B W6 s v F k) := by show Src _ _ _ _ _ _; rw [hW6]; exact (HSRC5.out.other hne1 hne2).other hne1 hne2
              have HXR6 : Hid (W6.heap[xb]? = some (.cells #[.string R, .int .i64 (k : Int)] 28 (0, 0))) := by
                show _ = _
                rw [hW6, heap_setCell_same _ xb 1 _ 28 _ (heap_setCell_same w5 xb 0 _ 28 _ HXR5.out)]
                rfl
              have HWB6 : Hid (Below B w W6) := by show Below _ _ _; rw [hW6]; exact (HWB5.out.setCell (p := ⟨xb, 0, none⟩) HBX.out _).setCell (p := ⟨xb, 1, none⟩) HBX.out _
              have HW6 := Lib.hid hW6; clear hW6
              clear hne1 hne2
              go_wp2_with fail
              rw [← HW5.out, ← HW6.out]
              clear r1 r2 r3 r4
              have hsd := seed_dry HSRC6.out (by omega)
              rw [← zeros_seed] at hsd
              have hneq := fun W => run_neq_seed W zeros rfl
              rw [← zeros_seed] at hneq
              have hgd := run_guard_seed
              obtain ⟨G, hG⟩ : ∃ G, G = F := ⟨_, rfl⟩
              have HRG : Hid (R = txt G) := by show _ = _; rw [HRR.out, hG]
              obtain ⟨N, hN⟩ : ∃ N, N = G.length := ⟨_, rfl⟩
              have HNN : Hid (N ≤ 200 + (j + 1) * 200) := by
                have := hF.out
                show _ ≤ _
                rw [hN, hG]
                omega
              rw [← hG] at HSRC6
              have HSD := Lib.hid hsd; clear hsd
              have HNL := Lib.hid hN; clear hN
              clear hG
              refine HSD.out.mono ?_
              rintro e w7 ⟨rfl, hb7⟩
              obtain ⟨W, hW⟩ : ∃ W, W = w7.alloc (.cells #[.int .u8 0, .int .u8 0, .int .u8 0, .int .u8 0, .int .u8 0, .int .u8 0, .int .u8 0, .int .u8 0, .int .u8 0, .int .u8 0, .int .u8 0, .int .u8 0, .int .u8 0, .int .u8 0, .int .u8 0, .int .u8 0] 36) := ⟨_, rfl⟩
              have hb8 : Below w7.heap.size w7 W := by rw [hW]; exact (Below.refl _ _).alloc (Nat.le_refl _) _
              have hb78 := below_then hb7 hb8
              have hWs : Src B W s v G k := HSRC6.out.below hb78
              have hWx := row_below HXR6.out hb78
              have hWb : Below B w W := HWB6.out.trans (hb78.mono (Nat.le_trans (Nat.le_of_eq HBB.out) HWB6.out.size))
              have hsz : R.size = N := by rw [HRG.out, HNL.out]; exact txt_size _
              have cx1 : W.cell? ⟨xb, 0, none⟩ = some (.string R) := by rw [cell_of_row W xb 0 _ 28 (0, 0) hWx]; rfl
              have cx2 : W.cell? ⟨xb, 1, none⟩ = some (.int .i64 (k : Int)) := by rw [cell_of_row W xb 1 _ 28 (0, 0) hWx]; rfl
              have HL : Hid (∀ q, Calls Try.prog 11 #[.pointer (some ⟨s, 0, none⟩)] (W.drewN q) fun e w' => e = .returned (.int .i64 (N : Int)) ∧ w' = W.drewN q) := fun q => by
                rw [HNL.out]
                exact left_any (hWs.below (below_drewN (Below.refl _ _) q))
              have HT : Hid (∀ q, Calls Try.prog 12 #[.pointer (some ⟨s, 0, none⟩)] (W.drewN q) fun e w' => e = .returned (.int .i64 (k : Int)) ∧ w' = W.drewN q) := fun q => taken_any (hWs.below (below_drewN (Below.refl _ _) q))
              have HWs := Lib.hid hWs; clear hWs
              have HWx : Hid (W.heap[xb]? = some (.cells #[.string (txt G), .int .i64 (k : Int)] 28 (0, 0))) := by show _ = _; rw [hWx, HRG.out]
              have HWb := Lib.hid hWb; clear hWb
              have HWW := Lib.hid hW; clear hW
              clear hb8 hb7 hb78 hWx
              go_wp2_with fail
              rw [← HWW.out]
              go_quiet (first | (go_at_call 11; refine Calls.quiet_of_same (HL.out _)) | (go_at_call 12; refine Calls.quiet_of_same (HT.out _)))
              go_wp2_with fail
              go_roundw
              case rel => exact ⟨j + 1, k, v, G, by go_num, by omega, by omega, by show _ ≤ _; rw [← HNL.out]; exact HNN.out, HWs.out.below (below_drewN (Below.refl _ _) _), row_below HWx.out (below_drewN (Below.refl _ _) _), HWb.out.trans (below_drewN (Below.refl _ _) _)⟩
              case measure => simp [intOf]; omega
        · go_wp2_with fail
          refine (HAW.out _).mono ?_
          rintro e w4 ⟨rfl, hb4⟩
          have HB4 := Lib.hid hb4; clear hb4
          go_wp2_with fail
          go_ret
          exact ⟨rfl, by rw [← HBB.out]; exact hwx.out.trans (HB4.out.mono (Nat.le_trans (Nat.le_of_eq HBB.out) hwx.out.size))⟩
/-! ### THE ROW's STEP -/
set_option maxRecDepth 100000 in
theorem lifted (os : Os) (started : os.Started) (H : Type) (enc : TypeId × Value → H) :
    ReturnsInHanded {} Try.checked os 3 .any (Rows.drawsPlaysSpec.pre6 enc Try.prog Try.f3 Rows.drawsPlaysRow.domain false) (Rows.drawsPlaysSpec.post enc Try.prog Try.f3 false true false false) := by
  refine returnsInHanded_of_change (C := Try.checked) own started (by kernel_rfl) Try.func3
    (ChangeSpec.witness6 (enc := enc) (C := Try.checked) false ⟨#[], #[.slice none 0 0, .slice none 0 0], []⟩ 8 (by kernel_rfl) (by kernel_rfl) (by kernel_rfl) (by kernel_rfl)) ?_
  intro W base args ds gs before hval0 hW hcnd _
  have hval : ∀ (j : Nat) t v, Try.f3.params[j]? = some t → args[j]? = some v → Value.okWide Try.prog W .any base t v := hval0
  have hW' := hW
  obtain ⟨p, q, hA0, hV, rfl, hfz, hnd⟩ := hW
  have hA : DataW.TrodAll enc Try.prog W 0 (fun _ => true) true Try.f3.params.toList args.toList ds p := hA0
  rw [Try.params3] at hA hval
  obtain ⟨v0, vs0, d0, ds0, p0, q0, hargs, rfl, rfl, h0, r0⟩ := trodAll_cons hA
  obtain ⟨v1, vs1, d1, ds1, p1, q1, rfl, rfl, rfl, h1, r1⟩ := trodAll_cons r0
  obtain ⟨rfl, rfl, rfl⟩ := trodAll_nil r1
  obtain rfl : args = #[v0, v1] := by cases args; simp_all
  obtain ⟨rfl, rfl⟩ := trodVars_none hV
  obtain ⟨a0, len0, cap0, rfl⟩ := okWide_slice Try.underlying22 (hval 0 22 v0 rfl rfl)
  have k0 := h0
  have lt0 : ∀ x ∈ p0, x.block < W.heap.size := by obtain ⟨m, hm⟩ := k0; exact DataW.trod_lt m _ _ _ hm
  obtain ⟨A0, c0, L0, e0, hc0, hm0, ha0⟩ : ∃ (A : Option Addr) (c : Nat) (L : List UInt8), Value.slice a0 len0 cap0 = .slice A L.length c ∧ L.length ≤ c ∧ c ≤ maxLen ∧ Bts W A L := by
    obtain ⟨fuel, hf⟩ := h0
    exact bytes_open hf
  obtain ⟨a1, len1, cap1, rfl⟩ := okWide_slice Try.underlying23 (hval 1 23 v1 rfl rfl)
  have k1 := h1
  have lt1 : ∀ x ∈ p1, x.block < W.heap.size := by obtain ⟨m, hm⟩ := k1; exact DataW.trod_lt m _ _ _ hm
  obtain ⟨A1, c1, L1, e1, hc1, hm1, ha1⟩ : ∃ (A : Option Addr) (c : Nat) (L : List (Bool × List UInt8)), Value.slice a1 len1 cap1 = .slice A L.length c ∧ L.length ≤ c ∧ c ≤ maxLen ∧ Ops W A L := by
    obtain ⟨fuel, hf⟩ := h1
    exact ops_open hf
  clear hA0 hval0
  obtain ⟨rfl, rfl, rfl⟩ : a0 = A0 ∧ len0 = L0.length ∧ cap0 = c0 := by
    injection e0 with x y z
    exact ⟨x, y, z⟩
  obtain ⟨rfl, rfl, rfl⟩ : a1 = A1 ∧ len1 = L1.length ∧ cap1 = c1 := by
    injection e1 with x y z
    exact ⟨x, y, z⟩
  refine (walk W hc0 hm0 ha0 hc1 hm1 ha1).mono fun e W' ⟨he, bel⟩ => ?_
  subst he
  exact ⟨_, rfl, _, _, _, [], _, [], hW', trodAll_mk1 (shut_bool Try.underlying4 _), (trodAll_cons_mk (Below.trod laidOut (by kernel_rfl) (of_decide_eq_true (by kernel_rfl)) k0 bel lt0) (trodAll_cons_mk (Below.trod laidOut (by kernel_rfl) (of_decide_eq_true (by kernel_rfl)) k1 bel lt1) trodAll_mk0)), rfl, bel.frame _, fun h => by cases h⟩

theorem over : Rows.drawsPlaysRow.holds Try.pinned (OpenSpec.ofChange Rows.drawsPlaysSpec) :=
  OpenClaim.holds_of_wide 3 Try.f3 rfl rfl rfl rfl rfl rfl rfl ⟨rfl, rfl, rfl, rfl, rfl⟩ rfl rfl rfl rfl rfl (by kernel_rfl) Try.func3 (by kernel_rfl)
    (of_decide_eq_true (by kernel_rfl)) (by unfold Func.isWrapper; first | (rw [if_pos (by decide +kernel)]; kernel_rfl) | (rw [if_neg (by decide +kernel)]; exact ⟨rfl, rfl⟩))
    (fun os started H enc _ => lifted os started H enc)

/-- ████ THE STATEMENT ████ -/
theorem proved : Rows.DrawsPlaysSaid := over
#print axioms proved
end Go.Proofs.Ytialpajnjbchgaa.drawsPlays
