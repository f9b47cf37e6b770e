/-
  PairOwn: for every input the law answers true and leaves its arguments as they were: the walk is typed by hand, the row's step is the guide's template.
  Conditions: none beside the row's own.
-/
import Derived.Test.YtljnlahgfdenfaaMut
import Derived.Test.YtljnlahgfdenfaaOpen
import Derived.Test.YtljnlahgfdenfaaRows
import Derived.WalkKit
import Derived.ProofKit
import Derived.OpenShut
import Derived.ShutString
import Derived.ChangeOld
import Derived.Below
namespace Go.Proofs.Ytljnlahgfdenfaa.pairOwn
open Go.ChangeShapes Go.WideShapes Go.ChangeAt Go.RowKit
set_option linter.unusedVariables false
theorem own : ownKnob Try.prog.godebug = none := by kernel_rfl
theorem laidOut : laidOutB Try.prog = true := by kernel_rfl
theorem news_low {B B' g : Nat} {w : World} {L : List Pr} (h : News B w g L) (hb : B' ≤ B) : News B' w g L := by
  obtain ⟨q1, cur, q2, q3, q4⟩ := h
  refine ⟨Nat.le_trans hb q1, cur, q2, q3, fun i hi => ?_⟩
  obtain ⟨kb, vb, s1, s2, s3, s4⟩ := q4 i hi
  exact ⟨kb, vb, s1, s2, ⟨Nat.le_trans hb s3.1, s3.2⟩, ⟨Nat.le_trans hb s4.1, s4.2⟩⟩
theorem byte_more (x : UInt8) : IntKind.u8.wrap (((x.toNat : Nat) : Int) + 1) = (((x + 1 : UInt8).toNat : Nat) : Int) := by
  have h := x.toNat_lt
  rw [UInt8.toNat_add]
  have h3 : (1 : UInt8).toNat = 1 := rfl
  rw [h3]
  simp only [IntKind.wrap_u8]
  omega
theorem pair_box {w : World} {x1 x2 : Value} {B : Nat} {w' : World} (h : Mut B (w.alloc (.cells #[x1, x2] 37)) w') : w'.cell? ⟨w.heap.size, 0, none⟩ = some x1 ∧ w'.cell? ⟨w.heap.size, 1, none⟩ = some x2 := by
  have h1 := h.cells (heap_alloc_new w (.cells #[x1, x2] 37)) (by decide)
  exact ⟨by rw [cell_of_row w' _ 0 _ 37 (0, 0) h1]; rfl, by rw [cell_of_row w' _ 1 _ 37 (0, 0) h1]; rfl⟩
theorem run_index0 (x y : Value) (w : World) : (Instr.index 48 (.agg #[x, y]) (.int .i64 0)).run Try.prog w = .ok x w := by
  have u48 := Try.underlying48
  have a22 := Try.isAgg22
  have hz : Try.t22.size = 1 := by kernel_rfl
  simp [Instr.index, run_underlying u48, Go.sizeOf, asIntOf, part, a22, hz, go_sem]
theorem run_index1 (x y : Value) (w : World) : (Instr.index 48 (.agg #[x, y]) (.int .i64 1)).run Try.prog w = .ok y w := by
  have u48 := Try.underlying48
  have a22 := Try.isAgg22
  have hz : Try.t22.size = 1 := by kernel_rfl
  simp [Instr.index, run_underlying u48, Go.sizeOf, asIntOf, part, a22, hz, go_sem]
set_option maxRecDepth 100000 in
set_option maxHeartbeats 4000000 in
theorem walk {A0 : Option Addr} {c0 : Nat} {L0 : List Pr} {A1 : Option Addr} {c1 : Nat} {L1 : List Pr} (w : World) (hc0 : L0.length ≤ c0) (hm0 : c0 ≤ maxLen) (ha0 : Pcs w A0 L0) (hc1 : L1.length ≤ c1) (hm1 : c1 ≤ maxLen) (ha1 : Pcs w A1 L1) :
    Calls Try.prog 8 #[.slice A0 L0.length c0, .slice A1 L1.length c1] w fun e w' => e = .returned (.bool true) ∧ Below w.heap.size w w' := by
  have hsm := small_any ha0 c0 30 (by decide) (Nat.le_trans hc0 hm0)
  have hsm1 := fun W (hW : Below w.heap.size w W) => small_any (ha1.below hW) c1 30 (by decide) (Nat.le_trans hc1 hm1)
  have haw := awake_any
  have HAW := Lib.hid haw; clear haw
  cases hs : (decide (L0.length ≤ 30) && tiny L0) with
  | false =>
    rw [hs] at hsm
    have HSM := Lib.hid hsm; clear hsm
    clear ha0 hs hc0 hm0 ha1 hc1 hm1 hsm1
    go_enter Try.func8, Try.ntmps8
    go_wp2_with fail
    refine HSM.out.mono ?_
    rintro e w1 ⟨rfl, hb⟩
    have HB := Lib.hid hb; clear hb
    go_wp2_with fail
    refine (HAW.out _).mono ?_
    rintro e w2 ⟨rfl, hb⟩
    have HB2 := Lib.hid hb; clear hb
    go_wp2_with fail
    go_ret
    exact ⟨rfl, below_then HB.out HB2.out⟩
  | true =>
    rw [hs] at hsm
    obtain ⟨hlen0, htiny0⟩ := small_true hs
    cases hs1 : (decide (L1.length ≤ 30) && tiny L1) with
    | false =>
      simp only [hs1] at hsm1
      have HSM := Lib.hid hsm; clear hsm
      have HSM1 := Lib.hid hsm1; clear hsm1
      clear ha0 hs hc0 hm0 ha1 hc1 hm1 hs1 htiny0
      go_enter Try.func8, Try.ntmps8
      go_wp2_with fail
      refine HSM.out.mono ?_
      rintro e w1 ⟨rfl, hb⟩
      have HB := Lib.hid hb; clear hb
      go_wp2_with fail
      refine (HSM1.out _ HB.out).mono ?_
      rintro e w2 ⟨rfl, hb⟩
      have HB2 := Lib.hid (below_then HB.out hb); clear hb
      go_wp2_with fail
      refine (HAW.out _).mono ?_
      rintro e w3 ⟨rfl, hb⟩
      have HB3 := Lib.hid hb; clear hb
      go_wp2_with fail
      go_ret
      exact ⟨rfl, below_then HB2.out HB3.out⟩
    | true =>
      simp only [hs1] at hsm1
      obtain ⟨hlen1, htiny1⟩ := small_true hs1
      have hall0 := tiny_all htiny0
      have hallc := tiny_come htiny0
      have hcl := come_length L0
      have h1 := fun W (hW : Below w.heap.size w W) => refOf_any (ha0.below hW) c0 (by omega)
      have h2 := fun W (hW : Below w.heap.size w W) => refOf_any (ha1.below hW) c1 (by omega)
      have h3 := fun W (hW : Below w.heap.size w W) => own_any (ha0.below hW) c0 (by omega) (fun p hp => by have := hall0 p hp; omega)
      have h4 := fun W A B c d (hP : Pcs W A L0) (hR : Rcs W B L0) => refIs_any hP hR c d (by omega)
      have h5 := fun W A (hP : Pcs W A L0) c (hW : Below w.heap.size w W) => same_any hP (ha0.below hW) c c0 (by omega)
      have h6 := fun W (hW : Below w.heap.size w W) => same_any (ha0.below hW) (ha1.below hW) c0 c1 (by omega)
      have h7 := fun W A B c d (hP : Rcs W A L0) (hR : Rcs W B L1) => refSame_any hP hR c d (by omega)
      have h8 := fun W (hW : Below w.heap.size w W) => come_any (ha0.below hW) c0 (by omega) (fun p hp => by have := hall0 p hp; omega)
      have HPA := Lib.hid (fun W (hW : Below w.heap.size w W) => ha0.below hW)
      obtain ⟨d, hd⟩ : ∃ d, d = decide (L0 = L1) := ⟨_, rfl⟩
      simp only [← hd, decide_true] at h4 h5 h6 h7
      have dd : (d != d) = false := by cases d <;> rfl
      have dd2 : (d == d) = true := by cases d <;> rfl
      have HSM := Lib.hid hsm; clear hsm
      have HSM1 := Lib.hid hsm1; clear hsm1
      have H1 := Lib.hid h1; clear h1
      have H2 := Lib.hid h2; clear h2
      have H3 := Lib.hid h3; clear h3
      have H4 := Lib.hid h4; clear h4
      have H5 := Lib.hid h5; clear h5
      have H6 := Lib.hid h6; clear h6
      have H7 := Lib.hid h7; clear h7
      have H8 := Lib.hid h8; clear h8
      have HC : Hid (∀ p ∈ come L0, p.1.length ≤ 100 ∧ p.2.length ≤ 100) := hallc
      have HA : Hid (∀ p ∈ L0, p.1.length ≤ 100 ∧ p.2.length ≤ 100) := hall0
      clear hs hc0 hm0 hs1 hc1 hm1 hall0 hallc htiny0 htiny1 hd ha0 ha1
      go_enter Try.func8, Try.ntmps8
      go_wp2_with fail
      refine HSM.out.mono ?_
      rintro e w1 ⟨rfl, hb⟩
      have HB1 := Lib.hid hb; clear hb
      go_wp2_with fail
      refine (HSM1.out _ HB1.out).mono ?_
      rintro e w2 ⟨rfl, hb⟩
      have HB2 := Lib.hid (below_then HB1.out hb); clear hb
      go_wp2_with fail
      refine (H1.out _ HB2.out).mono ?_
      rintro e w3 ⟨A3, c3, rfl, hr3, hb⟩
      have HR3 := Lib.hid hr3; clear hr3
      have HB3 := Lib.hid (below_then HB2.out hb); clear hb
      go_wp2_with fail
      refine (H2.out _ HB3.out).mono ?_
      rintro e w4 ⟨A4, c4, rfl, hr4, hb⟩
      have HR4 := Lib.hid hr4; clear hr4
      have HX4 := Lib.hid (HR3.out.below hb)
      have HB4 := Lib.hid (below_then HB3.out hb); clear hb
      go_wp2_with fail
      refine (H3.out _ HB4.out).mono ?_
      rintro e w5 ⟨rfl, hn, hb⟩
      obtain ⟨g0, hg0⟩ : ∃ g, g = w4.heap.size := ⟨_, rfl⟩
      rw [← hg0] at hn ⊢
      have HN5 := Lib.hid (news_low hn (by rw [hg0]; exact HB4.out.size)); clear hn
      have HX5 := Lib.hid (HX4.out.below hb)
      have HY5 := Lib.hid (HR4.out.below hb)
      have HB5 := Lib.hid (below_then HB4.out hb); clear hb hg0
      go_wp2_with fail
      refine (H4.out _ _ _ _ _ HN5.out.pcs HX5.out).mono ?_
      rintro e w6 ⟨rfl, hb⟩
      have HN6 := Lib.hid (HN5.out.below hb)
      have HX6 := Lib.hid (HX5.out.below hb)
      have HY6 := Lib.hid (HY5.out.below hb)
      have HB6 := Lib.hid (below_then HB5.out hb); clear hb
      go_wp2_with fail
      refine (H5.out _ _ HN6.out.pcs _ HB6.out).mono ?_
      rintro e w7 ⟨rfl, hb⟩
      have HN7 := Lib.hid (HN6.out.below hb)
      have HX7 := Lib.hid (HX6.out.below hb)
      have HY7 := Lib.hid (HY6.out.below hb)
      have HB7 := Lib.hid (below_then HB6.out hb); clear hb
      go_wp2_with fail
      refine (H6.out _ HB7.out).mono ?_
      rintro e w8 ⟨rfl, hb⟩
      have HN8 := Lib.hid (HN7.out.below hb)
      have HX8 := Lib.hid (HX7.out.below hb)
      have HY8 := Lib.hid (HY7.out.below hb)
      have HB8 := Lib.hid (below_then HB7.out hb); clear hb
      go_wp2_with fail
      refine (H7.out _ _ _ _ _ HX8.out HY8.out).mono ?_
      rintro e w9 ⟨rfl, hb⟩
      have HN9 := Lib.hid (HN8.out.below hb)
      have HX9 := Lib.hid (HX8.out.below hb)
      have HB9 := Lib.hid (below_then HB8.out hb); clear hb
      go_wp2_with fail
      refine (H8.out _ HB9.out).mono ?_
      rintro e W0 ⟨g1, rfl, hn, hb⟩
      have HN1 := Lib.hid (news_low hn HB9.out.size); clear hn
      have HN0 := Lib.hid (HN9.out.below hb)
      have HX0 := Lib.hid (HX9.out.below hb)
      have HB0 := Lib.hid (below_then HB9.out hb); clear hb
      clear HN5 HN6 HN7 HN8 HN9 HX4 HX5 HX6 HX7 HX8 HX9 HY5 HY6 HY7 HY8 HB1 HB2 HB3 HB4 HB5 HB6 HB7 HB8 HB9 HR3 HR4 HSM HSM1 H1 H2 H3 H5 H6 H7 H8 dd dd2
      go_wp2_with fail
      go_loopw [54] (fun u wr => ∃ j : Nat, u = .int .i64 j ∧ j ≤ 2 ∧ Hid (Mut w.heap.size W0 wr)) (fun u _ => 2 - (intOf u).toNat)
      case atStart => exact ⟨0, rfl, by omega, Mut.refl _ _⟩
      case round =>
        obtain ⟨j, rfl, hj, hmu1⟩ := hrel
        by_cases hj2 : j < 2
        · rcases (show j = 0 ∨ j = 1 by omega) with rfl | rfl
          · have hix := run_index0
            go_wp2_with fail
            go_loopw [59] (fun u wr => ∃ i : Nat, u = .int .i64 i ∧ i ≤ L0.length ∧ Hid (Mut w.heap.size W0 wr)) (fun u _ => L0.length - (intOf u).toNat)
            case atStart => exact ⟨0, rfl, by omega, hmu1.out⟩
            case round =>
              obtain ⟨i, rfl, hi, hmu2⟩ := hrel
              by_cases hil : i < L0.length
              · obtain ⟨kb, vb, h1, h2, hk1, hv1, hk2, hv2⟩ := News.mut HN0.out hmu2.out i hil
                have hbnd := HA.out _ (List.getElem_mem hil)
                obtain ⟨kl, hkl⟩ : ∃ x : Nat, x = (L0[i]).1.length := ⟨_, rfl⟩
                obtain ⟨vl, hvl⟩ : ∃ x : Nat, x = (L0[i]).2.length := ⟨_, rfl⟩
                rw [← hkl] at h1 hk2 hbnd
                rw [← hvl] at h2 hv2 hbnd
                have hkl100 : kl ≤ 100 := hbnd.1
                have hvl100 : vl ≤ 100 := hbnd.2
                clear hkl hvl hbnd
                obtain ⟨wb, hwb⟩ : ∃ wb, wb = wr.alloc (.cells #[.slice (some ⟨kb, 0, none⟩) kl kl, .slice (some ⟨vb, 0, none⟩) vl vl] 37) := ⟨_, rfl⟩
                have HBW : Hid (Below wr.heap.size wr wb) := by rw [hwb]; exact (Below.refl _ _).alloc (Nat.le_refl _) _
                have HW : Hid (Mut w.heap.size W0 wb) := hmu2.out.trans (Mut.of_below HBW.out (Nat.le_trans HB0.out.size hmu2.out.1.size))
                have HRK : Hid (ByteRow wb.heap[kb]? kl) := (Mut.of_below (B := 0) HBW.out (Nat.zero_le _)).row hk2
                have HRV : Hid (ByteRow wb.heap[vb]? vl) := (Mut.of_below (B := 0) HBW.out (Nat.zero_le _)).row hv2
                have HLK := Lib.hid hk1
                have HLV := Lib.hid hv1
                have HBOX : Hid (∀ W, Mut w.heap.size wb W → W.cell? ⟨wr.heap.size, 0, none⟩ = some (.slice (some ⟨kb, 0, none⟩) kl kl) ∧ W.cell? ⟨wr.heap.size, 1, none⟩ = some (.slice (some ⟨vb, 0, none⟩) vl vl)) := by
                  intro W hW
                  rw [hwb] at hW
                  exact pair_box hW
                obtain ⟨bx, hbx⟩ : ∃ bx, bx = wr.heap.size := ⟨_, rfl⟩
                have HMB : Hid (Mut w.heap.size wb wb) := Mut.refl _ _
                clear hk1 hv1 hk2 hv2 hbx
                go_wp2_with fail
                rw [← hwb]
                have HWB := Lib.hid hwb; clear hwb
                go_loopw [66] (fun u wr => ∃ t : Nat, u = .int .i64 t ∧ t ≤ kl ∧ Hid (Mut w.heap.size wb wr)) (fun u _ => kl - (intOf u).toNat)
                case atStart => exact ⟨0, rfl, by omega, HMB.out⟩
                case round =>
                  obtain ⟨t, rfl, ht, hmuK⟩ := hrel
                  by_cases htl : t < kl
                  · have hrow := hmuK.out.row HRK.out
                    obtain ⟨x, hx1, hx2⟩ := byteRow_cell hrow htl
                    have hst := Mut.set (i := t) HLK.out hrow (x + 1)
                    obtain ⟨y, hy⟩ : ∃ y : Int, y = (((x + 1 : UInt8).toNat : Nat) : Int) := ⟨_, rfl⟩
                    obtain ⟨z, hz⟩ : ∃ z : Nat, z = x.toNat := ⟨_, rfl⟩
                    have hz2 : z < 256 := by rw [hz]; exact x.toNat_lt
                    have hwr := byte_more x
                    rw [← hy, ← hz] at hwr
                    rw [← hz] at hx1
                    rw [← hy] at hst
                    obtain ⟨b1, b2⟩ := HBOX.out _ hmuK.out
                    have HM' := Lib.hid (hmuK.out.trans hst); clear hst
                    clear hrow hy hz
                    go_wp2
                    go_roundw
                    case rel => exact ⟨t + 1, by go_num, by omega, HM'.out⟩
                    case measure => simp [intOf]; omega
                  · obtain ⟨b1, b2⟩ := HBOX.out _ hmuK.out
                    go_wp2_with fail
                    go_loopw [80] (fun u wr => ∃ t : Nat, u = .int .i64 t ∧ t ≤ vl ∧ Hid (Mut w.heap.size wb wr)) (fun u _ => vl - (intOf u).toNat)
                    case atStart => exact ⟨0, rfl, by omega, hmuK.out⟩
                    case round =>
                      obtain ⟨t, rfl, ht, hmuV⟩ := hrel
                      by_cases htl : t < vl
                      · have hrow := hmuV.out.row HRV.out
                        obtain ⟨x, hx1, hx2⟩ := byteRow_cell hrow htl
                        have hst := Mut.set (i := t) HLV.out hrow (x + 1)
                        obtain ⟨y, hy⟩ : ∃ y : Int, y = (((x + 1 : UInt8).toNat : Nat) : Int) := ⟨_, rfl⟩
                        obtain ⟨z, hz⟩ : ∃ z : Nat, z = x.toNat := ⟨_, rfl⟩
                        have hz2 : z < 256 := by rw [hz]; exact x.toNat_lt
                        have hwr := byte_more x
                        rw [← hy, ← hz] at hwr
                        rw [← hz] at hx1
                        rw [← hy] at hst
                        obtain ⟨b1, b2⟩ := HBOX.out _ hmuV.out
                        have HM' := Lib.hid (hmuV.out.trans hst); clear hst
                        clear hrow hy hz
                        go_wp2
                        go_roundw
                        case rel => exact ⟨t + 1, by go_num, by omega, HM'.out⟩
                        case measure => simp [intOf]; omega
                      · obtain ⟨b1, b2⟩ := HBOX.out _ hmuV.out
                        go_wp2_with fail
                        go_roundw
                        case rel => exact ⟨i + 1, by go_num, by omega, HW.out.trans hmuV.out⟩
                        case measure => simp [intOf]; omega
              · obtain rfl : i = L0.length := by omega
                go_wp2_with fail
                go_roundw
                case rel => exact ⟨1, by go_num, by omega, hmu2.out⟩
                case measure => simp [intOf]
          · have hix := run_index1
            go_wp2_with fail
            go_loopw [59] (fun u wr => ∃ i : Nat, u = .int .i64 i ∧ i ≤ (come L0).length ∧ Hid (Mut w.heap.size W0 wr)) (fun u _ => (come L0).length - (intOf u).toNat)
            case atStart => exact ⟨0, rfl, by omega, hmu1.out⟩
            case round =>
              obtain ⟨i, rfl, hi, hmu2⟩ := hrel
              by_cases hil : i < (come L0).length
              · obtain ⟨kb, vb, h1, h2, hk1, hv1, hk2, hv2⟩ := News.mut HN1.out hmu2.out i hil
                have hbnd := HC.out _ (List.getElem_mem hil)
                obtain ⟨kl, hkl⟩ : ∃ x : Nat, x = ((come L0)[i]).1.length := ⟨_, rfl⟩
                obtain ⟨vl, hvl⟩ : ∃ x : Nat, x = ((come L0)[i]).2.length := ⟨_, rfl⟩
                rw [← hkl] at h1 hk2 hbnd
                rw [← hvl] at h2 hv2 hbnd
                have hkl100 : kl ≤ 100 := hbnd.1
                have hvl100 : vl ≤ 100 := hbnd.2
                clear hkl hvl hbnd
                obtain ⟨wb, hwb⟩ : ∃ wb, wb = wr.alloc (.cells #[.slice (some ⟨kb, 0, none⟩) kl kl, .slice (some ⟨vb, 0, none⟩) vl vl] 37) := ⟨_, rfl⟩
                have HBW : Hid (Below wr.heap.size wr wb) := by rw [hwb]; exact (Below.refl _ _).alloc (Nat.le_refl _) _
                have HW : Hid (Mut w.heap.size W0 wb) := hmu2.out.trans (Mut.of_below HBW.out (Nat.le_trans HB0.out.size hmu2.out.1.size))
                have HRK : Hid (ByteRow wb.heap[kb]? kl) := (Mut.of_below (B := 0) HBW.out (Nat.zero_le _)).row hk2
                have HRV : Hid (ByteRow wb.heap[vb]? vl) := (Mut.of_below (B := 0) HBW.out (Nat.zero_le _)).row hv2
                have HLK := Lib.hid hk1
                have HLV := Lib.hid hv1
                have HBOX : Hid (∀ W, Mut w.heap.size wb W → W.cell? ⟨wr.heap.size, 0, none⟩ = some (.slice (some ⟨kb, 0, none⟩) kl kl) ∧ W.cell? ⟨wr.heap.size, 1, none⟩ = some (.slice (some ⟨vb, 0, none⟩) vl vl)) := by
                  intro W hW
                  rw [hwb] at hW
                  exact pair_box hW
                obtain ⟨bx, hbx⟩ : ∃ bx, bx = wr.heap.size := ⟨_, rfl⟩
                have HMB : Hid (Mut w.heap.size wb wb) := Mut.refl _ _
                clear hk1 hv1 hk2 hv2 hbx
                go_wp2_with fail
                rw [← hwb]
                have HWB := Lib.hid hwb; clear hwb
                go_loopw [66] (fun u wr => ∃ t : Nat, u = .int .i64 t ∧ t ≤ kl ∧ Hid (Mut w.heap.size wb wr)) (fun u _ => kl - (intOf u).toNat)
                case atStart => exact ⟨0, rfl, by omega, HMB.out⟩
                case round =>
                  obtain ⟨t, rfl, ht, hmuK⟩ := hrel
                  by_cases htl : t < kl
                  · have hrow := hmuK.out.row HRK.out
                    obtain ⟨x, hx1, hx2⟩ := byteRow_cell hrow htl
                    have hst := Mut.set (i := t) HLK.out hrow (x + 1)
                    obtain ⟨y, hy⟩ : ∃ y : Int, y = (((x + 1 : UInt8).toNat : Nat) : Int) := ⟨_, rfl⟩
                    obtain ⟨z, hz⟩ : ∃ z : Nat, z = x.toNat := ⟨_, rfl⟩
                    have hz2 : z < 256 := by rw [hz]; exact x.toNat_lt
                    have hwr := byte_more x
                    rw [← hy, ← hz] at hwr
                    rw [← hz] at hx1
                    rw [← hy] at hst
                    obtain ⟨b1, b2⟩ := HBOX.out _ hmuK.out
                    have HM' := Lib.hid (hmuK.out.trans hst); clear hst
                    clear hrow hy hz
                    go_wp2
                    go_roundw
                    case rel => exact ⟨t + 1, by go_num, by omega, HM'.out⟩
                    case measure => simp [intOf]; omega
                  · obtain ⟨b1, b2⟩ := HBOX.out _ hmuK.out
                    go_wp2_with fail
                    go_loopw [80] (fun u wr => ∃ t : Nat, u = .int .i64 t ∧ t ≤ vl ∧ Hid (Mut w.heap.size wb wr)) (fun u _ => vl - (intOf u).toNat)
                    case atStart => exact ⟨0, rfl, by omega, hmuK.out⟩
                    case round =>
                      obtain ⟨t, rfl, ht, hmuV⟩ := hrel
                      by_cases htl : t < vl
                      · have hrow := hmuV.out.row HRV.out
                        obtain ⟨x, hx1, hx2⟩ := byteRow_cell hrow htl
                        have hst := Mut.set (i := t) HLV.out hrow (x + 1)
                        obtain ⟨y, hy⟩ : ∃ y : Int, y = (((x + 1 : UInt8).toNat : Nat) : Int) := ⟨_, rfl⟩
                        obtain ⟨z, hz⟩ : ∃ z : Nat, z = x.toNat := ⟨_, rfl⟩
                        have hz2 : z < 256 := by rw [hz]; exact x.toNat_lt
                        have hwr := byte_more x
                        rw [← hy, ← hz] at hwr
                        rw [← hz] at hx1
                        rw [← hy] at hst
                        obtain ⟨b1, b2⟩ := HBOX.out _ hmuV.out
                        have HM' := Lib.hid (hmuV.out.trans hst); clear hst
                        clear hrow hy hz
                        go_wp2
                        go_roundw
                        case rel => exact ⟨t + 1, by go_num, by omega, HM'.out⟩
                        case measure => simp [intOf]; omega
                      · obtain ⟨b1, b2⟩ := HBOX.out _ hmuV.out
                        go_wp2_with fail
                        go_roundw
                        case rel => exact ⟨i + 1, by go_num, by omega, HW.out.trans hmuV.out⟩
                        case measure => simp [intOf]; omega
              · obtain rfl : i = (come L0).length := by omega
                go_wp2_with fail
                go_roundw
                case rel => exact ⟨2, by go_num, by omega, hmu2.out⟩
                case measure => simp [intOf]
        · obtain rfl : j = 2 := by omega
          have hbw := below_then HB0.out (show Below W0.heap.size W0 W0 from Below.refl _ _)
          have HBF : Hid (Below w.heap.size w wr) := HB0.out.trans hmu1.out.1
          have HXF := Lib.hid (hmu1.out.rcs HX0.out)
          have HPF := Lib.hid (HPA.out _ HBF.out)
          clear hbw
          go_wp2_with fail
          refine (H4.out _ _ _ _ _ HPF.out HXF.out).mono ?_
          rintro e wy ⟨rfl, hb⟩
          have HBY := Lib.hid (below_then HBF.out hb); clear hb
          go_wp2_with fail
          refine (HAW.out _).mono ?_
          rintro e wz ⟨rfl, hb⟩
          have HBZ := Lib.hid (below_then HBY.out hb); clear hb
          go_wp2_with fail
          go_ret
          exact ⟨rfl, HBZ.out⟩
/-! ### THE ROW's STEP -/
set_option maxRecDepth 100000 in
theorem lifted (os : Os) (started : os.Started) (H : Type) (enc : TypeId × Value → H) :
    ReturnsInHanded {} Try.checked os 8 .any (Rows.pairOwnSpec.pre6 enc Try.prog Try.f8 Rows.pairOwnRow.domain false) (Rows.pairOwnSpec.post enc Try.prog Try.f8 false true false false) := by
  refine returnsInHanded_of_change (C := Try.checked) own started (by kernel_rfl) Try.func8
    (ChangeSpec.witness6 (enc := enc) (C := Try.checked) false ⟨#[], #[.slice none 0 0, .slice none 0 0], []⟩ 8 (by kernel_rfl) (by kernel_rfl) (by kernel_rfl) (by kernel_rfl)) ?_
  intro W base args ds gs before hval0 hW hcnd _
  have hval : ∀ (j : Nat) t v, Try.f8.params[j]? = some t → args[j]? = some v → Value.okWide Try.prog W .any base t v := hval0
  have hW' := hW
  obtain ⟨p, q, hA0, hV, rfl, hfz, hnd⟩ := hW
  have hA : DataW.TrodAll enc Try.prog W 0 (fun _ => true) true Try.f8.params.toList args.toList ds p := hA0
  rw [Try.params8] at hA hval
  obtain ⟨v0, vs0, d0, ds0, p0, q0, hargs, rfl, rfl, h0, r0⟩ := trodAll_cons hA
  obtain ⟨v1, vs1, d1, ds1, p1, q1, rfl, rfl, rfl, h1, r1⟩ := trodAll_cons r0
  obtain ⟨rfl, rfl, rfl⟩ := trodAll_nil r1
  obtain rfl : args = #[v0, v1] := by cases args; simp_all
  obtain ⟨rfl, rfl⟩ := trodVars_none hV
  obtain ⟨a0, len0, cap0, rfl⟩ := okWide_slice Try.underlying22 (hval 0 22 v0 rfl rfl)
  have k0 := h0
  have lt0 : ∀ x ∈ p0, x.block < W.heap.size := by obtain ⟨m, hm⟩ := k0; exact DataW.trod_lt m _ _ _ hm
  obtain ⟨A0, c0, L0, e0, hc0, hm0, ha0⟩ : ∃ (A : Option Addr) (c : Nat) (L : List Pr), Value.slice a0 len0 cap0 = .slice A L.length c ∧ L.length ≤ c ∧ c ≤ maxLen ∧ Pcs W A L := by
    obtain ⟨fuel, hf⟩ := h0
    exact pairs_open hf
  obtain ⟨a1, len1, cap1, rfl⟩ := okWide_slice Try.underlying22 (hval 1 22 v1 rfl rfl)
  have k1 := h1
  have lt1 : ∀ x ∈ p1, x.block < W.heap.size := by obtain ⟨m, hm⟩ := k1; exact DataW.trod_lt m _ _ _ hm
  obtain ⟨A1, c1, L1, e1, hc1, hm1, ha1⟩ : ∃ (A : Option Addr) (c : Nat) (L : List Pr), Value.slice a1 len1 cap1 = .slice A L.length c ∧ L.length ≤ c ∧ c ≤ maxLen ∧ Pcs W A L := by
    obtain ⟨fuel, hf⟩ := h1
    exact pairs_open hf
  clear hA0 hval0
  obtain ⟨rfl, rfl, rfl⟩ : a0 = A0 ∧ len0 = L0.length ∧ cap0 = c0 := by
    injection e0 with x y z
    exact ⟨x, y, z⟩
  obtain ⟨rfl, rfl, rfl⟩ : a1 = A1 ∧ len1 = L1.length ∧ cap1 = c1 := by
    injection e1 with x y z
    exact ⟨x, y, z⟩
  refine (walk W hc0 hm0 ha0 hc1 hm1 ha1).mono fun e W' ⟨he, bel⟩ => ?_
  subst he
  exact ⟨_, rfl, _, _, _, [], _, [], hW', trodAll_mk1 (shut_bool Try.underlying4 _), (trodAll_cons_mk (Below.trod laidOut (by kernel_rfl) (of_decide_eq_true (by kernel_rfl)) k0 bel lt0) (trodAll_cons_mk (Below.trod laidOut (by kernel_rfl) (of_decide_eq_true (by kernel_rfl)) k1 bel lt1) trodAll_mk0)), rfl, bel.frame _, fun h => by cases h⟩

theorem over : Rows.pairOwnRow.holds Try.pinned (OpenSpec.ofChange Rows.pairOwnSpec) :=
  OpenClaim.holds_of_wide 8 Try.f8 rfl rfl rfl rfl rfl rfl rfl ⟨rfl, rfl, rfl, rfl, rfl⟩ rfl rfl rfl rfl rfl (by kernel_rfl) Try.func8 (by kernel_rfl)
    (of_decide_eq_true (by kernel_rfl)) (by unfold Func.isWrapper; first | (rw [if_pos (by decide +kernel)]; kernel_rfl) | (rw [if_neg (by decide +kernel)]; exact ⟨rfl, rfl⟩))
    (fun os started H enc _ => lifted os started H enc)

/-- ████ THE STATEMENT ████ -/
theorem proved : Rows.PairOwnSaid := over
#print axioms proved
end Go.Proofs.Ytljnlahgfdenfaa.pairOwn
