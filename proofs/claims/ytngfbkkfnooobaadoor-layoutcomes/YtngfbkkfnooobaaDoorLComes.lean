/-
  LayoutComes: for every input the law answers true and leaves its arguments as they were; the row lists math/bits.deBruijn32tab, the card ties it to the program's text (the tie is given).
  Conditions: none beside the row's own.
-/
import Derived.Test.YtngfbkkfnooobaaDoorAwake
import Derived.Test.YtngfbkkfnooobaaDoorRefE
import Derived.Test.YtngfbkkfnooobaaDoorMut
import Derived.Test.YtngfbkkfnooobaaDoorIn
import Derived.Test.YtngfbkkfnooobaaDoorLaid
import Derived.Test.YtngfbkkfnooobaaDoorCards
import Derived.Test.YtngfbkkfnooobaaDoorTie
import Derived.ShutString
import Derived.ChangeOld
import Derived.Below
namespace Go.Proofs.YtngfbkkfnooobaaDoor.layoutComes
open Go.ChangeShapes Go.WideShapes Go.ChangeAt Go.RowKit Go.Shelf
set_option linter.unusedVariables false
theorem laidOut : laidOutB Tryd.prog = true := by kernel_rfl
set_option maxRecDepth 100000
set_option maxHeartbeats 4000000 in
theorem walk {A0 : Option Addr} {c0 : Nat} {L0 : List En} (w : World) (hc0 : L0.length ≤ c0) (hm0 : c0 ≤ maxLen) (ha0 : Ens w A0 L0) (hh0 : ∀ e ∈ L0, e.1 < 18446744073709551616) (hT : Tab w) :
    Calls Tryd.prog 3 #[.slice A0 L0.length c0] w fun e w' => e = .returned (.bool true) ∧ Below w.heap.size w w' := by
  have hml : maxLen ≤ 9223372036854775807 := by decide
  have hsm := small_any ha0 c0 40 (by decide) (Nat.le_trans (Nat.le_trans hc0 hm0) hml)
  cases hs : (decide (L0.length ≤ 40) && tinyE L0) with
  | false =>
    rw [hs] at hsm
    have HSM := Lib.hid hsm; clear hsm
    have HT := Lib.hid hT; clear hT
    clear ha0 hs hc0 hm0 hh0
    go_enter Tryd.func3, Tryd.ntmps3
    go_wp2_with fail
    refine HSM.out.mono ?_
    rintro e w1 ⟨rfl, hb⟩
    have HAW := Lib.hid (awake_any (HT.out.below hb))
    have HB := Lib.hid hb; clear hb
    go_wp2_with fail
    refine HAW.out.mono ?_
    rintro e w2 ⟨rfl, hb⟩
    have HB2 := Lib.hid (below_then HB.out hb); clear hb
    go_wp2_with fail
    go_ret
    exact ⟨rfl, HB2.out⟩
  | true =>
    rw [hs] at hsm
    obtain ⟨hfit, hl40, ht60⟩ := small_fit (by decide) hs hh0
    obtain ⟨M, hM⟩ : ∃ M, M = comeE L0 := ⟨_, rfl⟩
    have hmm : ∀ e ∈ M, e ∈ L0 := fun e he => by rw [hM] at he; exact comeE_mem he
    have hML : M.length ≤ 40 := by rw [hM]; exact Nat.le_trans (comeE_len L0) hl40
    have href := fun W (hW : Below w.heap.size w W) => refOf_any (ha0.below hW) c0 (by omega)
    have hrc := fun W A c (h : Res W A L0) => refComeE_any h c (by omega)
    have hco := fun W (hW : Below w.heap.size w W) => comeE_any (ha0.below hW) c0 (by omega) (fun e he => by have := ht60 e he; omega)
    have hrg := fun W A c (h : Ens W A M) => refOf_any h c (by omega)
    simp only [← hM] at hrc hco
    have hEl : Hid (∀ W, Below w.heap.size w W → Ens W A0 L0) := fun W hW => ha0.below hW
    have hb60 : Hid (∀ e ∈ M, e.2.1.length ≤ 60 ∧ e.2.2.length ≤ 60) := fun e he => ht60 e (hmm e he)
    obtain ⟨LL, hLL⟩ : ∃ n, n = L0.length := ⟨_, rfl⟩
    obtain ⟨ML, hMLn⟩ : ∃ n, n = M.length := ⟨_, rfl⟩
    rw [← hLL] at hsm hl40 ⊢
    rw [← hMLn] at hML
    simp only [← hLL] at href hrc hco
    simp only [← hMLn] at hrc hrg
    have HSM := Lib.hid hsm; clear hsm
    have HRF := Lib.hid href; clear href
    have HRC := Lib.hid hrc; clear hrc
    have HCO := Lib.hid hco; clear hco
    have HRG := Lib.hid hrg; clear hrg
    have HLL := Lib.hid (And.intro hLL hMLn)
    have HT := Lib.hid hT; clear hT
    clear ha0 hs hc0 hm0 hh0 hfit ht60 hM hmm hLL hMLn
    go_enter Tryd.func3, Tryd.ntmps3
    go_wp2_with fail
    refine HSM.out.mono ?_
    rintro e w1 ⟨rfl, hb⟩
    have B1 := Lib.hid hb; clear hb
    go_wp2_with fail
    refine (HRF.out w1 B1.out).mono ?_
    rintro e w2 ⟨⟨A2, c2, rfl, hc2, hr2, hn2⟩, hb⟩
    have R2 := Lib.hid hr2; clear hr2 hn2 hc2
    have B2 := Lib.hid (below_then B1.out hb); clear hb
    go_wp2_with fail
    refine (HRC.out w2 A2 c2 R2.out).mono ?_
    rintro e w3 ⟨⟨A3, c3, rfl, hr3, hn3⟩, hb⟩
    have R3 := Lib.hid (And.intro (R2.out.below hb) hr3); clear hr3 hn3
    have B3 := Lib.hid (below_then B2.out hb); clear hb
    go_wp2_with fail
    refine (HCO.out w3 B3.out).mono ?_
    rintro e w4 ⟨v4, rfl, hn4, hb⟩
    have hn4' : NewsE w.heap.size w4 v4 M := by
      obtain ⟨A, c, q1, q2, q3⟩ := hn4
      refine ⟨A, c, q1, q2, ?_⟩
      rcases q3 with q3 | ⟨g, cur, q3, q4⟩
      · exact .inl q3
      · refine .inr ⟨g, cur, q3, Nat.le_trans B3.out.size q4.new, q4.row, q4.size, q4.hash, fun i hi hj => ?_⟩
        obtain ⟨kb, vb, s1, s2, s3, s4⟩ := q4.done i hi hj
        exact ⟨kb, vb, s1, s2, ⟨Nat.le_trans B3.out.size s3.1, s3.2⟩, ⟨Nat.le_trans B3.out.size s4.1, s4.2⟩⟩
    obtain ⟨A4, c4, rfl, hc4, hE4⟩ := hn4.ens
    rw [← HLL.out.2] at hc4 ⊢
    have R4 := Lib.hid (And.intro (R3.out.1.below hb) (And.intro (R3.out.2.below hb) (And.intro hn4' hE4))); clear hn4 hn4' hE4
    have B4 := Lib.hid (below_then B3.out hb); clear hb
    clear R2 R3 HCO HRC B1 B2 B3 hc4
    go_wp2_with fail
    refine (HRG.out w4 A4 c4 R4.out.2.2.2).mono ?_
    rintro e w5 ⟨⟨A5, c5, rfl, hc5, hr5, hn5⟩, hb⟩
    have R5 := Lib.hid (And.intro (R4.out.1.below hb) (And.intro (R4.out.2.1.below hb) hr5)); clear hr5 hn5 hc5
    have B45 := Lib.hid hb
    have B5 := Lib.hid (below_then B4.out hb); clear hb
    go_wp2_with fail
    go_loopw [32] (fun u wr => ∃ j : Nat, u = .int .i64 j ∧ j ≤ ML ∧ Hid (Below w5.heap.size w5 wr)) (fun u _ => ML - (intOf u).toNat)
    case atStart => exact ⟨0, rfl, by omega, Below.refl _ _⟩
    case round =>
      obtain ⟨j, rfl, hj, hbel⟩ := hrel
      by_cases hlt : j < ML
      · have hlt' : j < M.length := by rw [← HLL.out.2]; exact hlt
        obtain ⟨b5, rfl, hb5l, x0, x1, x2⟩ := (R5.out.2.2.below hbel.out).at hlt'
        obtain ⟨b3, rfl, hb3l, y0, y1, y2⟩ := (R5.out.2.1.below hbel.out).at hlt'
        obtain ⟨q, hq⟩ : ∃ q : Nat, q = (M[j]).1 := ⟨_, rfl⟩
        obtain ⟨s, hs⟩ : ∃ s : ByteArray, s = ⟨(M[j]).2.1.toArray⟩ := ⟨_, rfl⟩
        obtain ⟨t, ht⟩ : ∃ s : ByteArray, s = ⟨(M[j]).2.2.toArray⟩ := ⟨_, rfl⟩
        rw [← hq] at x0 y0
        rw [← hs] at x1 y1
        rw [← ht] at x2 y2
        clear hq hs ht
        have hne := run_neq_entry (q : Int) s t
        have hgd := run_guard_entry
        have z0 := (((Below.refl wr.heap.size wr).alloc (Nat.le_refl _) (.cells #[.int .u64 (q : Int), .string s, .string t] 33)).cell (p := ⟨b3, j * 3, none⟩) hb3l).trans y0
        have z1 := (((Below.refl wr.heap.size wr).alloc (Nat.le_refl _) (.cells #[.int .u64 (q : Int), .string s, .string t] 33)).cell (p := ⟨b3, j * 3 + 1, none⟩) hb3l).trans y1
        have z2 := (((Below.refl wr.heap.size wr).alloc (Nat.le_refl _) (.cells #[.int .u64 (q : Int), .string s, .string t] 33)).cell (p := ⟨b3, j * 3 + 2, none⟩) hb3l).trans y2
        have HR : Hid (∀ W, Below (wr.alloc (.cells #[.int .u64 (q : Int), .string s, .string t] 33)).heap.size (wr.alloc (.cells #[.int .u64 (q : Int), .string s, .string t] 33)) W → Below w5.heap.size w5 W) := fun W hW => below_then hbel.out (below_then ((Below.refl _ _).alloc (Nat.le_refl _) _) hW)
        go_wp2_with fail
        go_quiet (fail)
        go_wp2_with fail
        go_roundw
        case rel => exact ⟨j + 1, by go_num, by omega, HR.out _ (below_drewN (Below.refl _ _) _)⟩
        case measure => simp [intOf]; omega
      · obtain rfl : j = ML := by omega
        obtain ⟨W0, hW0⟩ : ∃ W, wr = W := ⟨_, rfl⟩
        subst hW0
        have b4W : Below w4.heap.size w4 wr := below_then B45.out hbel.out
        have HN0 : Hid (NewsE w.heap.size wr (.slice A4 j c4) M) := by
          obtain ⟨A, c, q1, q2, q3⟩ := R4.out.2.2.1
          rw [← HLL.out.2] at q1
          refine ⟨A, c, by rw [← HLL.out.2]; exact q1, q2, ?_⟩
          rcases q3 with q3 | ⟨g, cur, q3, q4⟩
          · exact .inl q3
          · exact .inr ⟨g, cur, q3, q4.below b4W⟩
        have HR0 : Hid (Res wr A2 L0) := R4.out.1.below b4W
        have HB0 : Hid (Below w.heap.size w wr) := below_then B4.out b4W
        obtain ⟨W0, hW0⟩ : ∃ W, W = wr := ⟨_, rfl⟩
        rw [← hW0] at HN0 HR0 HB0
        have HM0 : Hid (Mut w.heap.size W0 wr) := by rw [hW0]; exact Mut.refl _ _
        clear b4W hW0 R4 R5 B45 B5 B4 hbel HRG
        go_wp2_with fail
        go_loopw [46] (fun u wr => ∃ i : Nat, u = .int .i64 i ∧ i ≤ j ∧ Hid (Mut w.heap.size W0 wr)) (fun u _ => j - (intOf u).toNat)
        case atStart => exact ⟨0, rfl, by omega, HM0.out⟩
        case round =>
          obtain ⟨i, rfl, hi, hmu2⟩ := hrel
          clear HM0
          by_cases hil : i < j
          · have hil' : i < M.length := by rw [← HLL.out.2]; exact hil
            obtain ⟨A, c, q1, _, q3⟩ := HN0.out
            obtain ⟨g, cur, rfl, hto⟩ : ∃ g cur, A4 = some ⟨g, 0, none⟩ ∧ NewTo w.heap.size W0 g cur M M.length := by
              injection q1 with q1 _ _
              rcases q3 with q3 | ⟨g, cur, q3, q4⟩
              · rw [q3] at hil'; exact absurd hil' (Nat.not_lt_zero _)
              · exact ⟨g, cur, q1.trans q3, q4⟩
            clear q1 q3
            obtain ⟨kb, vb, h0, h1, h2, hk1, hv1, hk2, hv2⟩ := hto.mut hmu2.out i hil'
            have hbnd := hb60.out _ (List.getElem_mem hil')
            obtain ⟨q, hq⟩ : ∃ x : Nat, x = (M[i]).1 := ⟨_, rfl⟩
            obtain ⟨kl, hkl⟩ : ∃ x : Nat, x = (M[i]).2.1.length := ⟨_, rfl⟩
            obtain ⟨vl, hvl⟩ : ∃ x : Nat, x = (M[i]).2.2.length := ⟨_, rfl⟩
            rw [← hq] at h0
            rw [← hkl] at h1 hk2 hbnd
            rw [← hvl] at h2 hv2 hbnd
            have hkl100 : kl ≤ 60 := hbnd.1
            have hvl100 : vl ≤ 60 := hbnd.2
            clear hkl hvl hbnd hq hto
            obtain ⟨wb, hwb⟩ : ∃ wb, wb = wr.alloc (.cells #[.int .u64 (q : Int), .slice (some ⟨kb, 0, none⟩) kl kl, .slice (some ⟨vb, 0, none⟩) vl vl] 38) := ⟨_, rfl⟩
            have HBW : Hid (Below wr.heap.size wr wb) := by rw [hwb]; exact (Below.refl _ _).alloc (Nat.le_refl _) _
            have HW : Hid (Mut w.heap.size W0 wb) := hmu2.out.trans (Mut.of_below HBW.out (Nat.le_trans HB0.out.size hmu2.out.1.size))
            have HRK : Hid (ByteRow wb.heap[kb]? kl) := (Mut.of_below (B := 0) HBW.out (Nat.zero_le _)).row hk2
            have HRV : Hid (ByteRow wb.heap[vb]? vl) := (Mut.of_below (B := 0) HBW.out (Nat.zero_le _)).row hv2
            have HLK := Lib.hid hk1
            have HLV := Lib.hid hv1
            have HBOX : Hid (∀ W, Mut w.heap.size wb W → W.cell? ⟨wr.heap.size, 0, none⟩ = some (.int .u64 (q : Int)) ∧ W.cell? ⟨wr.heap.size, 1, none⟩ = some (.slice (some ⟨kb, 0, none⟩) kl kl) ∧ W.cell? ⟨wr.heap.size, 2, none⟩ = some (.slice (some ⟨vb, 0, none⟩) vl vl)) := by
              intro W hW
              rw [hwb] at hW
              exact entry_box hW
            have HMB : Hid (Mut w.heap.size wb wb) := Mut.refl _ _
            clear hk1 hv1 hk2 hv2
            go_wp2_with fail
            rw [← hwb]
            have HWB := Lib.hid hwb; clear hwb
            go_loopw [54] (fun u wr => ∃ t : Nat, u = .int .i64 t ∧ t ≤ kl ∧ Hid (Mut w.heap.size wb wr)) (fun u _ => kl - (intOf u).toNat)
            case atStart => exact ⟨0, rfl, by omega, HMB.out⟩
            case round =>
              obtain ⟨t, rfl, ht, hmuK⟩ := hrel
              by_cases htl : t < kl
              · have hrow := hmuK.out.row HRK.out
                obtain ⟨x, hx1, hx2⟩ := byteRow_cell hrow htl
                have hst := Mut.set (i := t) HLK.out hrow (x + 1)
                obtain ⟨y, hy⟩ : ∃ y : Int, y = (((x + 1 : UInt8).toNat : Nat) : Int) := ⟨_, rfl⟩
                obtain ⟨z, hz⟩ : ∃ z : Nat, z = x.toNat := ⟨_, rfl⟩
                have hz2 : z < 256 := by rw [hz]; exact x.toNat_lt
                have hwr := byte_more x
                rw [← hy, ← hz] at hwr
                rw [← hz] at hx1
                rw [← hy] at hst
                obtain ⟨b0, b1, b2⟩ := HBOX.out _ hmuK.out
                have HM' := Lib.hid (hmuK.out.trans hst); clear hst
                clear hrow hy hz
                go_wp2
                go_roundw
                case rel => exact ⟨t + 1, by go_num, by omega, HM'.out⟩
                case measure => simp [intOf]; omega
              · obtain ⟨b0, b1, b2⟩ := HBOX.out _ hmuK.out
                go_wp2_with fail
                go_loopw [70] (fun u wr => ∃ t : Nat, u = .int .i64 t ∧ t ≤ vl ∧ Hid (Mut w.heap.size wb wr)) (fun u _ => vl - (intOf u).toNat)
                case atStart => exact ⟨0, rfl, by omega, hmuK.out⟩
                case round =>
                  obtain ⟨t, rfl, ht, hmuV⟩ := hrel
                  by_cases htl : t < vl
                  · have hrow := hmuV.out.row HRV.out
                    obtain ⟨x, hx1, hx2⟩ := byteRow_cell hrow htl
                    have hst := Mut.set (i := t) HLV.out hrow (x + 1)
                    obtain ⟨y, hy⟩ : ∃ y : Int, y = (((x + 1 : UInt8).toNat : Nat) : Int) := ⟨_, rfl⟩
                    obtain ⟨z, hz⟩ : ∃ z : Nat, z = x.toNat := ⟨_, rfl⟩
                    have hz2 : z < 256 := by rw [hz]; exact x.toNat_lt
                    have hwr := byte_more x
                    rw [← hy, ← hz] at hwr
                    rw [← hz] at hx1
                    rw [← hy] at hst
                    obtain ⟨b0, b1, b2⟩ := HBOX.out _ hmuV.out
                    have HM' := Lib.hid (hmuV.out.trans hst); clear hst
                    clear hrow hy hz
                    go_wp2
                    go_roundw
                    case rel => exact ⟨t + 1, by go_num, by omega, HM'.out⟩
                    case measure => simp [intOf]; omega
                  · obtain ⟨b0, b1, b2⟩ := HBOX.out _ hmuV.out
                    go_wp2_with fail
                    go_roundw
                    case rel => exact ⟨i + 1, by go_num, by omega, HW.out.trans hmuV.out⟩
                    case measure => simp [intOf]; omega
          · obtain rfl : i = j := by omega
            have hbW : Below w.heap.size w wr := HB0.out.trans (hmu2.out.1)
            have hres : Res wr A2 L0 := hmu2.out.res HR0.out
            have J := Lib.hid (HRF.out wr hbW)
            have HBW := Lib.hid (And.intro hbW hres); clear hbW hres
            clear hmu2 HN0 HR0 HB0
            go_wp2_with fail
            refine J.out.mono ?_
            rintro e w7 ⟨⟨A7, c7, rfl, hc7, hr7, hn7⟩, hb⟩
            have R7 := Lib.hid (And.intro (HBW.out.2.below hb) hr7); clear hr7 hn7 hc7
            have B7 := Lib.hid (below_then HBW.out.1 hb); clear hb
            clear J HBW
            go_wp2_with fail
            go_loopw [86] (fun u wr => ∃ k : Nat, u = .int .i64 k ∧ k ≤ LL ∧ Hid (Below w7.heap.size w7 wr)) (fun u _ => LL - (intOf u).toNat)
            case atStart => exact ⟨0, rfl, by omega, Below.refl _ _⟩
            case round =>
              obtain ⟨k, rfl, hk, hbel⟩ := hrel
              by_cases hlt : k < LL
              · have hlt' : k < L0.length := by rw [← HLL.out.1]; exact hlt
                obtain ⟨b7, rfl, hb7l, x0, x1, x2⟩ := (R7.out.2.below hbel.out).at hlt'
                obtain ⟨b2, rfl, hb2l, y0, y1, y2⟩ := (R7.out.1.below hbel.out).at hlt'
                obtain ⟨q, hq⟩ : ∃ q : Nat, q = (L0[k]).1 := ⟨_, rfl⟩
                obtain ⟨s, hs⟩ : ∃ s : ByteArray, s = ⟨(L0[k]).2.1.toArray⟩ := ⟨_, rfl⟩
                obtain ⟨t, ht⟩ : ∃ s : ByteArray, s = ⟨(L0[k]).2.2.toArray⟩ := ⟨_, rfl⟩
                rw [← hq] at x0 y0
                rw [← hs] at x1 y1
                rw [← ht] at x2 y2
                clear hq hs ht
                have hne := run_neq_entry (q : Int) s t
                have hgd := run_guard_entry
                have z0 := (((Below.refl wr.heap.size wr).alloc (Nat.le_refl _) (.cells #[.int .u64 (q : Int), .string s, .string t] 33)).cell (p := ⟨b2, k * 3, none⟩) hb2l).trans y0
                have z1 := (((Below.refl wr.heap.size wr).alloc (Nat.le_refl _) (.cells #[.int .u64 (q : Int), .string s, .string t] 33)).cell (p := ⟨b2, k * 3 + 1, none⟩) hb2l).trans y1
                have z2 := (((Below.refl wr.heap.size wr).alloc (Nat.le_refl _) (.cells #[.int .u64 (q : Int), .string s, .string t] 33)).cell (p := ⟨b2, k * 3 + 2, none⟩) hb2l).trans y2
                have HR : Hid (∀ W, Below (wr.alloc (.cells #[.int .u64 (q : Int), .string s, .string t] 33)).heap.size (wr.alloc (.cells #[.int .u64 (q : Int), .string s, .string t] 33)) W → Below w7.heap.size w7 W) := fun W hW => below_then hbel.out (below_then ((Below.refl _ _).alloc (Nat.le_refl _) _) hW)
                go_wp2_with fail
                go_quiet (fail)
                go_wp2_with fail
                go_roundw
                case rel => exact ⟨k + 1, by go_num, by omega, HR.out _ (below_drewN (Below.refl _ _) _)⟩
                case measure => simp [intOf]; omega
              · have hbz := below_then B7.out hbel.out
                have HAW := Lib.hid (awake_any (HT.out.below hbz))
                have HBZ := Lib.hid hbz; clear hbz
                go_wp2_with fail
                refine HAW.out.mono ?_
                rintro e w8 ⟨rfl, hb⟩
                have HB8 := Lib.hid (below_then HBZ.out hb); clear hb
                go_wp2_with fail
                go_ret
                exact ⟨rfl, HB8.out⟩

theorem lifted (os : Os) (started : os.Started) (H : Type) (enc : TypeId × Value → H) :
    ReturnsInHanded {} Tryd.checked os 3 .any (fun w args => (Rows.layoutComesSpec.pre enc Tryd.prog Tryd.f3 [] false w args ∧ laidMetH Tryd.prog laid w) ∧ sizedMet enc Tryd.prog Tryd.f3 (OpenSpec.ofChange Rows.layoutComesSpec) false w args)
      (Rows.layoutComesSpec.post enc Tryd.prog Tryd.f3 false true false false) := by
  refine returnsInHanded_of_change_and (C := Tryd.checked) (X := fun w _ => laidMetH Tryd.prog laid w) (fun _ _ _ hh h => h.of_heap hh) own started (by kernel_rfl) Tryd.func3
    (ChangeSpec.witness_shaped (enc := enc) (C := Tryd.checked) (os := os) (X := fun w _ => laidMetH Tryd.prog laid w) false (World.laidAll Tryd.prog os laid) #[.slice none 0 0] 8 (World.laidAll_os _ _ _)
      (World.shaped_of_ZipB (by kernel_rfl) (by kernel_rfl)) (by kernel_rfl) (by kernel_rfl) (by kernel_rfl)
      (by rw [MakeChecks.laidMetH_plain _ _ _ (by kernel_rfl)]; exact laidMet_laidAll _ (by kernel_rfl) (by kernel_rfl))) ?_
  intro W base args ds gs before hval0 hW _ _ hL _
  have hval : ∀ (j : Nat) t v, Tryd.f3.params[j]? = some t → args[j]? = some v → Value.okWide Tryd.prog W .any base t v := hval0
  have hW' := hW
  obtain ⟨p, q, hA0, hV, rfl, _, _⟩ := hW
  have hA : DataW.TrodAll enc Tryd.prog W 0 (fun _ => true) true Tryd.f3.params.toList args.toList ds p := hA0
  rw [Tryd.params3] at hA hval
  obtain ⟨v0, vs0, d0, ds0, p0, q0, hargs, rfl, rfl, h0, r0⟩ := trodAll_cons hA
  obtain ⟨rfl, rfl, rfl⟩ := trodAll_nil r0
  obtain rfl : args = #[v0] := by cases args; simp_all
  obtain ⟨rfl, rfl⟩ := trodVars_none hV
  have lt0 : ∀ x ∈ p0, x.block < W.heap.size := by obtain ⟨m, hm⟩ := h0; exact DataW.trod_lt m _ _ _ hm
  have ok0 := hval 0 22 v0 rfl rfl
  clear hA0 hval0 hval
  obtain ⟨A0, c0, L0, rfl, hc0, hm0, ha0, hh0⟩ := entries_in ok0 h0
  refine (walk W hc0 hm0 ha0 hh0 (tab_of_laid hL)).mono fun e W' ⟨he, bel⟩ => ?_
  subst he
  exact ⟨_, rfl, _, _, _, [], _, [], hW', trodAll_mk1 (shut_bool Tryd.underlying4 _), (trodAll_cons_mk (Below.trod laidOut (by kernel_rfl) (of_decide_eq_true (by kernel_rfl)) h0 bel lt0) trodAll_mk0), rfl, bel.frame _, fun h => by cases h⟩

theorem over : Rows.LayoutComesSaid :=
  OpenClaim.holds_of_wide 3 Tryd.f3 rfl rfl rfl rfl rfl rfl rfl ⟨rfl, rfl, rfl, rfl, rfl⟩ rfl rfl rfl rfl rfl (by kernel_rfl) Tryd.func3 (by kernel_rfl)
    (of_decide_eq_true (by kernel_rfl)) (by unfold Func.isWrapper; first | (rw [if_pos (by decide +kernel)]; kernel_rfl) | (rw [if_neg (by decide +kernel)]; exact ⟨rfl, rfl⟩))
    (fun os started H enc _ => lifted os started H enc)

/-- ████ THE STATEMENT: THE TIED CARD ████ -/
theorem proved : Rows.LayoutComesCardSaid :=
  Claim7.holds_tied_plain_at .later [] [.data] true (true, "41dacddf5f520ead60d17bced455855c118e313fc8aa3ad090142a0f83d9016d") true over (fun _ h => by cases h) (by kernel_rfl) (fun _ h => by cases h) layoutComes_row_tie rfl ⟨rfl, rfl⟩ (by kernel_rfl) rfl
    (fun f fn hf hfn => by
      obtain rfl : f = 3 := Option.some.inj ((show Tryd.prog.funcNamed "brushwood/brushwoodlaw17.LayoutComes" = some 3 by kernel_rfl).symm.trans hf) |>.symm
      obtain rfl : fn = Tryd.f3 := (Option.some.inj (Tryd.func3.symm.trans hfn)).symm
      exact ⟨by kernel_rfl, fun j t ht => by
        rw [Tryd.params3] at ht
        have hm : t ∈ [22] := by simpa using Array.mem_of_getElem? ht
        have hall : ([22].all fun u => !Tryd.prog.wantsStandIn u) = true := by kernel_rfl
        exact (show Tryd.prog.wantsStandIn t = false by simpa using List.all_eq_true.1 hall t hm)⟩)
    (by kernel_rfl)
#print axioms proved
end Go.Proofs.YtngfbkkfnooobaaDoor.layoutComes
