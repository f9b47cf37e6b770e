/-
  GraftPuts: for every input the law answers true and leaves its arguments as they were; the row lists math/bits.deBruijn32tab, the card ties it to the program's text (the tie is given).
  Conditions: none beside the row's own.
-/
import Derived.Test.YtmbdimonfdncpaaDoorGLaws
import Derived.Test.YtmbdimonfdncpaaDoorGOpen
import Derived.Deep.RegionHeld3
import Derived.Deep.DeepCutAuto
import Derived.Test.YtmbdimonfdncpaaDoorIn
import Derived.Test.YtmbdimonfdncpaaDoorLaid
import Derived.Test.YtmbdimonfdncpaaDoorCards
import Derived.Test.YtmbdimonfdncpaaDoorTie
import Derived.ShutString
import Derived.ChangeOld
import Derived.Below
namespace Go.Proofs.YtmbdimonfdncpaaDoor.graftPuts
open Go.ChangeShapes Go.WideShapes Go.ChangeAt Go.RowKit Go.Shelf
set_option linter.unusedVariables false
theorem laidOut : laidOutB Tryd.prog = true := by kernel_rfl
set_option maxRecDepth 100000
set_option maxHeartbeats 4000000 in
theorem walk {A0 : Option Addr} {c0 : Nat} {T0 : List Nat} {A1 : Option Addr} {c1 : Nat} {L1 : List Pr} (w : World) (hc0 : T0.length ≤ c0) (hm0 : c0 ≤ maxLen) (ha0 : N64 w A0 T0) (hh0 : ∀ z ∈ T0, z < 18446744073709551616) (hc1 : L1.length ≤ c1) (hm1 : c1 ≤ maxLen) (ha1 : Pcs w A1 L1) (hT : Tab w) :
    Calls Tryd.prog 3 #[.slice A0 T0.length c0, .slice A1 L1.length c1] w fun e w' => e = .returned (.bool true) ∧ Below w.heap.size w w' := by
  have hml : maxLen ≤ 9223372036854775807 := by decide
  have hL63 := Nat.le_trans (Nat.le_trans hc1 hm1) hml
  have hsm := fine19_any (T := A0) ha1 T0.length c0 c1 40 (by decide) hL63
  obtain ⟨TL, hTL⟩ : ∃ n, n = T0.length := ⟨_, rfl⟩
  obtain ⟨LL, hLL⟩ : ∃ n, n = L1.length := ⟨_, rfl⟩
  cases hs : fineP T0.length L1 40 with
  | false =>
    rw [hs] at hsm
    rw [← hTL, ← hLL] at hsm ⊢
    have HSM := Lib.hid hsm; clear hsm
    have HT := Lib.hid hT; clear hT
    clear ha0 ha1 hs hc0 hm0 hh0 hc1 hm1 hTL hLL hL63
    go_enter Tryd.func3, Tryd.ntmps3
    go_wp2_with fail
    refine HSM.out.mono ?_
    rintro e w1 ⟨rfl, hb⟩
    have HAW := Lib.hid (awake19_any (HT.out.below hb))
    have HB := Lib.hid hb; clear hb
    go_wp2_with fail
    refine HAW.out.mono ?_
    rintro e w2 ⟨rfl, hb⟩
    have HB2 := Lib.hid (below_then HB.out hb); clear hb
    go_wp2_with fail
    go_ret
    exact ⟨rfl, HB2.out⟩
  | true =>
    rw [hs] at hsm
    obtain ⟨ht200, hl40, hsz⟩ := fineP_all hs
    obtain ⟨MP, hMP⟩ : ∃ M : Nat → List Pr, M = fun j => come (L1.take j) := ⟨_, rfl⟩
    have hmg : ∀ j, srt (MP j) ∧ (∀ p ∈ MP j, p.1.length ≤ 100 ∧ p.2.length ≤ 100) ∧ (MP j).length ≤ 60 := fun j => by rw [hMP]; exact come_good hsz (by omega) j
    have hms : ∀ j (h : j < L1.length), MP (j + 1) = put (MP j) L1[j] := fun j h => by rw [hMP]; exact come_step h
    have hm0' : MP 0 = [] := by rw [hMP]; rfl
    have hge : ∀ W B d j (k : List UInt8), Rcs W B (MP j) → Calls Tryd.prog 7 #[.slice B (MP j).length d, .string ⟨k.toArray⟩] W fun e w' => e = .returned (.tuple #[.string ⟨(val (MP j) k).toArray⟩, .bool (has (MP j) k)]) ∧ Below W.heap.size W w' := fun W B d j k h => refGet_val h d k (by have := (hmg j).2.2; omega)
    have hpu : ∀ W B d j (h : j < L1.length), Rcs W B (MP j) → Calls Tryd.prog 8 #[.slice B (MP j).length d, .agg #[.string ⟨(L1[j]).1.toArray⟩, .string ⟨(L1[j]).2.toArray⟩]] W fun e w' => ∃ A' c', e = .returned (.slice A' (MP (j + 1)).length c') ∧ Rcs w' A' (MP (j + 1)) ∧ Below W.heap.size W w' := fun W B d j h hr => by
      have := refPut_any L1[j] hr d (by have := (hmg j).2.2; omega) (by have := hsz _ (List.getElem_mem h); omega) (fun q hq => by have := (hmg j).2.1 q hq; omega)
      rw [← hms j h] at this
      exact this.mono fun e w' ⟨A', c', h1, h2, _, h4⟩ => ⟨A', c', h1, h2, h4⟩
    have hha : ∀ W j (h : j < L1.length), Below w.heap.size w W → Calls Tryd.prog 10 #[.slice A0 T0.length c0, .string ⟨(L1[j]).1.toArray⟩] W fun e w' => e = .returned (.int .u64 (hashT T0 (L1[j]).1 : Int)) ∧ W = w' := fun W j h hW => hash19_any c0 _ (ha0.below hW) ht200 (by have := hsz _ (List.getElem_mem h); omega)
    have hgp : ∀ W j (h : j < L1.length) nv ka va kc vc, Below w.heap.size w W → Nde (fun _ => True) W (layL 13 0 (entE (hashT T0) (MP j))) nv → Bts W ka (L1[j]).1 → Bts W va (L1[j]).2 → Calls Tryd.prog 9 #[nv, .int .u64 (hashT T0 (L1[j]).1 : Int), .agg #[.slice ka (L1[j]).1.length kc, .slice va (L1[j]).2.length vc], .pointer none] W fun r w' => ∃ v', r = .returned (.tuple #[v', .bool (!has (MP j) (L1[j]).1)]) ∧ Nde (fun _ => True) w' (layL 13 0 (entE (hashT T0) (MP (j + 1)))) v' ∧ Below W.heap.size W w' := fun W j h nv ka va kc vc hW hn hk hv => by
      have := putn_any (m := none) (vv := 0) (c := 0) kc vc (fun _ _ => trivial) (hT.below hW) hh0 (hmg j).1 (hmg j).2.1 (by have := (hmg j).2.2; omega) (hsz _ (List.getElem_mem h)) hn (.inl rfl) (fun a e => by cases e) hk hv (by decide) (by decide)
      rw [← hms j h] at this
      exact this.mono fun e w' ⟨v', _, _, h1, h2, _, h4, _⟩ => ⟨v', h1, h2, h4.nil⟩
    have hen : ∀ W B d j, Below w.heap.size w W → Rcs W B (MP j) → Calls Tryd.prog 13 #[.slice A0 T0.length c0, .slice B (MP j).length d] W fun e w' => (∃ A' c', e = .returned (.slice A' (MP j).length c') ∧ Res w' A' (entE (hashT T0) (MP j))) ∧ Below W.heap.size W w' := fun W B d j hW hB => (entries19_any c0 d (ha0.below hW) hB ht200 (by have := (hmg j).2.2; omega) (fun p hp => by have := (hmg j).2.1 p hp; omega)).mono fun e w' ⟨⟨A', c', h1, h2, _⟩, h3⟩ => ⟨⟨A', c', h1, h2⟩, h3⟩
    obtain ⟨X, hX⟩ : ∃ X : Nat → Nd, X = fun j => layL 13 0 (entE (hashT T0) (MP j)) := ⟨_, rfl⟩
    have hXe : ∀ j, layL 13 0 (entE (hashT T0) (MP j)) = X j := fun j => by rw [hX]
    have hly : ∀ W A c j, Res W A (entE (hashT T0) (MP j)) → Calls Tryd.prog 12 #[.slice A (MP j).length c, .int .i64 0] W fun e w' => ∃ r, e = .returned (RN.agg r (X j)) ∧ Mde (fun _ => True) w' (X j) r ∧ Below W.heap.size W w' := fun W A c j h => by
      rw [← hXe]
      exact layn_any hh0 (hmg j).1 (hmg j).2.1 (by have := (hmg j).2.2; omega) c h
    have hli : ∀ W v r j, Nde (fun _ => True) W (X j) v → Mde (fun _ => True) W (X j) r → Calls Tryd.prog 11 #[v, RN.agg r (X j)] W fun e w' => e = .returned (.bool true) ∧ Below W.heap.size W w' := fun W v r j h h2 => by
      rw [← hXe] at h h2 ⊢
      exact liken_any hh0 (hmg j).1 (hmg j).2.1 (by have := (hmg j).2.2; omega) h h2
    have hX0 : X 0 = .none := by rw [← hXe, hm0']; rfl
    simp only [hXe] at hgp
    obtain ⟨NL, hNL⟩ : ∃ N : Nat → Nat, N = fun j => (MP j).length := ⟨_, rfl⟩
    have hNe : ∀ j, (MP j).length = NL j := fun j => by rw [hNL]
    have hN0 : NL 0 = 0 := by rw [← hNe, hm0']; rfl
    simp only [hNe] at hge hpu hen hly
    rw [← hTL, ← hLL] at hsm ⊢
    simp only [← hTL] at hha hen
    have HSM := Lib.hid hsm; clear hsm
    have HGE := Lib.hid hge; clear hge
    have HPU := Lib.hid hpu; clear hpu
    have HHA := Lib.hid hha; clear hha
    have HGP := Lib.hid hgp; clear hgp
    have HEN := Lib.hid hen; clear hen
    have HLY := Lib.hid hly; clear hly
    have HLI := Lib.hid hli; clear hli
    have HT := Lib.hid hT; clear hT
    have HL := Lib.hid ha1; clear ha1
    have HLL := Lib.hid hLL; clear hLL
    have HX0 := Lib.hid (And.intro hX0 (And.intro hN0 hm0')); clear hX0 hN0 hm0'
    have HSZ := Lib.hid hsz; clear hsz
    clear ha0 hs hc0 hm0 hh0 hc1 hm1 hTL hL63 hml hMP hmg hms hX hXe hNL hNe ht200
    go_enter Tryd.func3, Tryd.ntmps3
    go_wp2_with fail
    refine HSM.out.mono ?_
    rintro e w1 ⟨rfl, hb⟩
    have B1 := Lib.hid hb; clear hb HSM
    go_wp2_with fail
    go_loopw [5, 6, 20] (fun nv mv u wr => ∃ (j : Nat) (B : Option Addr) (d : Nat), u = .int .i64 j ∧ j ≤ LL ∧ mv = .slice B (NL j) d ∧ Hid (Below w.heap.size w wr) ∧ Hid (Rcs wr B (MP j)) ∧ Hid (Nde (fun _ => True) wr (X j) nv)) (fun _ _ u _ => LL - (intOf u).toNat)
    case atStart => exact ⟨0, none, 0, rfl, by omega, by rw [HX0.out.2.1], B1.out, by rw [HX0.out.2.2]; exact .inl rfl, by rw [HX0.out.1]; rfl⟩
    case round =>
      obtain ⟨j, B, d, rfl, hj, rfl, hbel, hrc, hnd⟩ := hrel
      by_cases hlt : j < LL
      · have hlt' : j < L1.length := by rw [← HLL.out]; exact hlt
        obtain ⟨b, off, ka, kc, va, vc, rfl, hbl, g1, g2, hk, hv⟩ := pcs_at (HL.out.below hbel.out) hlt'
        obtain ⟨wa, hwa⟩ : ∃ wa, wa = wr.alloc (.cells #[.slice ka (L1[j]).1.length kc, .slice va (L1[j]).2.length vc] 31) := ⟨_, rfl⟩
        have hba : Below wr.heap.size wr wa := by rw [hwa]; exact (Below.refl _ _).alloc (Nat.le_refl _) _
        have ra : wa.heap[wr.heap.size]? = some (.cells #[.slice ka (L1[j]).1.length kc, .slice va (L1[j]).2.length vc] 31 (0, 0)) := by rw [hwa]; exact heap_alloc_new wr _
        have hcv1 := fun W (hW : Below wa.heap.size wa W) => conv_any ((hk.below hba).below hW) kc
        have hcv2 := fun W (hW : Below wa.heap.size wa W) => conv_any ((hv.below hba).below hW) vc
        have hbx : ∀ W, Below wa.heap.size wa W → W.cell? ⟨wr.heap.size, 0, none⟩ = some (.slice ka (L1[j]).1.length kc) ∧ W.cell? ⟨wr.heap.size, 1, none⟩ = some (.slice va (L1[j]).2.length vc) := fun W hW => by
          have r := (hW.block _ (Array.getElem?_eq_some_iff.1 ra).1).trans ra
          exact ⟨row_cell r rfl, row_cell r rfl⟩
        have hge := fun W B d (hr : Rcs W B (MP j)) => HGE.out W B d j (L1[j]).1 hr
        have hpu := fun W B d (hr : Rcs W B (MP j)) => HPU.out W B d j hlt' hr
        have hha := fun W (hW : Below w.heap.size w W) => HHA.out W j hlt' hW
        have hgp := fun W nv (hW : Below w.heap.size w W) (hW2 : Below wa.heap.size wa W) (hn : Nde (fun _ => True) W (X j) nv) => HGP.out W j hlt' nv ka va kc vc hW hn ((hk.below hba).below hW2) ((hv.below hba).below hW2)
        obtain ⟨s, hs⟩ : ∃ s : ByteArray, s = ⟨(L1[j]).1.toArray⟩ := ⟨_, rfl⟩
        obtain ⟨t, ht⟩ : ∃ s : ByteArray, s = ⟨(L1[j]).2.toArray⟩ := ⟨_, rfl⟩
        obtain ⟨vs, hvs⟩ : ∃ s : ByteArray, s = ⟨(val (MP j) (L1[j]).1).toArray⟩ := ⟨_, rfl⟩
        obtain ⟨x, hx⟩ : ∃ x : Nat, x = (L1[j]).1.length := ⟨_, rfl⟩
        obtain ⟨y, hy⟩ : ∃ x : Nat, x = (L1[j]).2.length := ⟨_, rfl⟩
        obtain ⟨q, hq⟩ : ∃ x : Nat, x = hashT T0 (L1[j]).1 := ⟨_, rfl⟩
        obtain ⟨hb, hhb⟩ : ∃ b : Bool, b = has (MP j) (L1[j]).1 := ⟨_, rfl⟩
        rw [← hx] at g1
        rw [← hy] at g2
        rw [← hx, ← hy] at hwa
        simp only [← hs, ← hx] at hcv1
        simp only [← ht, ← hy] at hcv2
        simp only [← hx, ← hy] at hbx
        simp only [← hs, ← hhb, ← hvs] at hge
        simp only [← hs, ← ht] at hpu
        simp only [← hs, ← hq] at hha
        simp only [← hq, ← hx, ← hy, ← hhb] at hgp
        have HCV1 := Lib.hid hcv1; clear hcv1
        have HCV2 := Lib.hid hcv2; clear hcv2
        have HBX := Lib.hid hbx; clear hbx
        have HGE1 := Lib.hid hge; clear hge
        have HPU1 := Lib.hid hpu; clear hpu
        have HHA1 := Lib.hid hha; clear hha
        have HGP1 := Lib.hid hgp; clear hgp
        have BA := Lib.hid (below_then hbel.out hba)
        have RA := Lib.hid (hrc.out.below hba)
        have NA := Lib.hid (hnd.out.below hba)
        have HWA := Lib.hid hwa; clear hwa
        have v1 := HCV1.out wa (Below.refl _ _)
        obtain ⟨d0, d1⟩ := HBX.out wa (Below.refl _ _)
        clear hs ht hvs hx hy hq hhb hk hv hba ra HGE HPU HHA HGP
        go_upto_region 8 with fail
        rw [← HWA.out]
        go_wp2_with fail
        refine (HGE1.out wa B d RA.out).mono ?_
        rintro e w2 ⟨rfl, hb2⟩
        have R2 := Lib.hid (RA.out.below hb2)
        have B2 := Lib.hid (below_then BA.out hb2)
        have C2 := Lib.hid hb2
        have N2 := Lib.hid (NA.out.below hb2)
        clear v1 d0 d1
        have v2 := HCV2.out w2 hb2
        obtain ⟨d0, d1⟩ := HBX.out w2 hb2
        clear hb2
        go_wp2_with fail
        refine (HPU1.out w2 B d R2.out).mono ?_
        rintro e w3 ⟨A3, c3, rfl, hr3, hb3⟩
        have R3 := Lib.hid hr3
        have B3 := Lib.hid (below_then B2.out hb3)
        have C3 := Lib.hid (below_then C2.out hb3)
        have N3 := Lib.hid (N2.out.below hb3)
        clear v2 d0 d1 hr3 hb3
        go_upto_region 12 with fail
        go_cut [5, 12] from 40 to 61 (fun s5 s12 wx => s12 = .bool (!hb) ∧ Hid (Nde (fun _ => True) wx (X (j + 1)) s5) ∧ Hid (Below w3.heap.size w3 wx))
        case first =>
          have hz0 : Below w3.heap.size w3 w3.drew := (Below.refl _ _).drew
          go_region_held3 (fun W => W.cell? ⟨wr.heap.size, 0, none⟩ = some (.slice ka x kc) ∧ W.cell? ⟨wr.heap.size, 1, none⟩ = some (.slice va y vc)) (first | (with_reducible exact HBX.out _ (below_then C3.out hz0)) | (with_reducible exact HBX.out _ (below_then C3.out hz1))) (first
            | (go_at_call 10; refine (HHA1.out _ (below_then B3.out hz0)).mono ?_; rintro r w' ⟨rfl, rfl⟩)
            | (go_at_call 9; refine (HGP1.out _ _ (below_then B3.out hz0) (below_then C3.out hz0) (N3.out.below hz0)).mono ?_; rintro r w4 ⟨v4, rfl, hn4, hb4⟩; have hz1 := below_then hz0 hb4))
          all_goals
            go_wp2_with fail
            go_meet
            exact ⟨rfl, hn4, hz1⟩
        case rest =>
          obtain ⟨rfl, hn4, hb4⟩ := hcut
          have hbb : ((!hb) == hb) = false := by cases hb <;> rfl
          have R4 := Lib.hid (R3.out.below hb4.out)
          have B4 := Lib.hid (below_then B3.out hb4.out)
          have J := Lib.hid (HEN.out wc A3 c3 (j + 1) B4.out R4.out)
          have N4 := Lib.hid hn4.out
          clear hn4 hb4
          go_wp2_with fail
          refine J.out.mono ?_
          rintro e w4 ⟨⟨A', c', rfl, hr⟩, hb⟩
          have R5 := Lib.hid (R4.out.below hb)
          have N5 := Lib.hid (N4.out.below hb)
          have B5 := Lib.hid (below_then B4.out hb); clear hb J
          have J := Lib.hid (HLY.out w4 A' c' (j + 1) hr); clear hr
          go_wp2_with fail
          refine J.out.mono ?_
          rintro e w5 ⟨r, rfl, hm, hb⟩
          have R6 := Lib.hid (R5.out.below hb)
          have N6 := Lib.hid (N5.out.below hb)
          have B6 := Lib.hid (below_then B5.out hb); clear hb J
          have J := Lib.hid (HLI.out w5 _ r (j + 1) N6.out hm); clear hm
          obtain ⟨ar, har⟩ : ∃ v, v = RN.agg r (X (j + 1)) := ⟨_, rfl⟩
          have har' : ∃ xs, ar = .agg xs := ⟨_, har⟩
          rw [← har] at J ⊢
          clear har
          obtain ⟨xs, rfl⟩ := har'
          go_wp2_with fail
          refine J.out.mono ?_
          rintro e w6 ⟨rfl, hb⟩
          have R7 := Lib.hid (R6.out.below hb)
          have N7 := Lib.hid (N6.out.below hb)
          have B7 := Lib.hid (below_then B6.out hb); clear hb J
          go_wp2_with fail
          go_roundw
          case rel => exact ⟨j + 1, A3, c3, by go_num, by omega, rfl, B7, R7, N7⟩
          case measure => simp [intOf]; omega
      · obtain rfl : j = LL := by omega
        have JA := Lib.hid (awake19_any (HT.out.below hbel.out))
        go_wp2_with fail
        refine JA.out.mono ?_
        rintro e w2 ⟨rfl, hb⟩
        have B2 := Lib.hid (below_then hbel.out hb); clear hb
        go_wp2_with fail
        go_ret
        exact ⟨rfl, B2.out⟩

theorem lifted (os : Os) (started : os.Started) (H : Type) (enc : TypeId × Value → H) :
    ReturnsInHanded {} Tryd.checked os 3 .any (fun w args => (Rows.graftPutsSpec.pre enc Tryd.prog Tryd.f3 [] false w args ∧ laidMetH Tryd.prog laid w) ∧ sizedMet enc Tryd.prog Tryd.f3 (OpenSpec.ofChange Rows.graftPutsSpec) false w args)
      (Rows.graftPutsSpec.post enc Tryd.prog Tryd.f3 false true false false) := by
  refine returnsInHanded_of_change_and (C := Tryd.checked) (X := fun w _ => laidMetH Tryd.prog laid w) (fun _ _ _ hh h => h.of_heap hh) own started (by kernel_rfl) Tryd.func3
    (ChangeSpec.witness_shaped (enc := enc) (C := Tryd.checked) (os := os) (X := fun w _ => laidMetH Tryd.prog laid w) false (World.laidAll Tryd.prog os laid) #[.slice none 0 0, .slice none 0 0] 8 (World.laidAll_os _ _ _)
      (World.shaped_of_ZipB (by kernel_rfl) (by kernel_rfl)) (by kernel_rfl) (by kernel_rfl) (by kernel_rfl)
      (by rw [MakeChecks.laidMetH_plain _ _ _ (by kernel_rfl)]; exact laidMet_laidAll _ (by kernel_rfl) (by kernel_rfl))) ?_
  intro W base args ds gs before hval0 hW _ _ hL _
  have hval : ∀ (j : Nat) t v, Tryd.f3.params[j]? = some t → args[j]? = some v → Value.okWide Tryd.prog W .any base t v := hval0
  have hW' := hW
  obtain ⟨p, q, hA0, hV, rfl, _, _⟩ := hW
  have hA : DataW.TrodAll enc Tryd.prog W 0 (fun _ => true) true Tryd.f3.params.toList args.toList ds p := hA0
  rw [Tryd.params3] at hA hval
  obtain ⟨v0, vs0, d0, ds0, p0, q0, hargs, rfl, rfl, h0, r0⟩ := trodAll_cons hA
  obtain ⟨v1, vs1, d1, ds1, p1, q1, rfl, rfl, rfl, h1, r1⟩ := trodAll_cons r0
  obtain ⟨rfl, rfl, rfl⟩ := trodAll_nil r1
  obtain rfl : args = #[v0, v1] := by cases args; simp_all
  obtain ⟨rfl, rfl⟩ := trodVars_none hV
  have lt0 : ∀ x ∈ p0, x.block < W.heap.size := by obtain ⟨m, hm⟩ := h0; exact DataW.trod_lt m _ _ _ hm
  have ok0 := hval 0 22 v0 rfl rfl
  have lt1 : ∀ x ∈ p1, x.block < W.heap.size := by obtain ⟨m, hm⟩ := h1; exact DataW.trod_lt m _ _ _ hm
  have ok1 := hval 1 23 v1 rfl rfl
  clear hA0 hval0 hval
  obtain ⟨A0, c0, T0, rfl, hc0, hm0, ha0, hh0⟩ := nums64_in ok0 h0
  obtain ⟨A1, c1, L1, rfl, hc1, hm1, ha1⟩ := pairs_in ok1 h1
  refine (walk W hc0 hm0 ha0 hh0 hc1 hm1 ha1 (tab_of_laid hL)).mono fun e W' ⟨he, bel⟩ => ?_
  subst he
  exact ⟨_, rfl, _, _, _, [], _, [], hW', trodAll_mk1 (shut_bool Tryd.underlying4 _), (trodAll_cons_mk (Below.trod laidOut (by kernel_rfl) (of_decide_eq_true (by kernel_rfl)) h0 bel lt0) (trodAll_cons_mk (Below.trod laidOut (by kernel_rfl) (of_decide_eq_true (by kernel_rfl)) h1 bel lt1) trodAll_mk0)), rfl, bel.frame _, fun h => by cases h⟩

theorem over : Rows.GraftPutsSaid :=
  OpenClaim.holds_of_wide 3 Tryd.f3 rfl rfl rfl rfl rfl rfl rfl ⟨rfl, rfl, rfl, rfl, rfl⟩ rfl rfl rfl rfl rfl (by kernel_rfl) Tryd.func3 (by kernel_rfl)
    (of_decide_eq_true (by kernel_rfl)) (by unfold Func.isWrapper; first | (rw [if_pos (by decide +kernel)]; kernel_rfl) | (rw [if_neg (by decide +kernel)]; exact ⟨rfl, rfl⟩))
    (fun os started H enc _ => lifted os started H enc)

/-- ████ THE STATEMENT: THE TIED CARD ████ -/
theorem proved : Rows.GraftPutsCardSaid :=
  Claim7.holds_tied_plain_at .later [] [.data] true (true, "35dc533787c930bad302c2d2ea47b3e20978ad89d776b5db352aabc593759e5c") true over (fun _ h => by cases h) (by kernel_rfl) (fun _ h => by cases h) graftPuts_row_tie rfl ⟨rfl, rfl⟩ (by kernel_rfl) rfl
    (fun f fn hf hfn => by
      obtain rfl : f = 3 := Option.some.inj ((show Tryd.prog.funcNamed "brushwood/brushwoodlaw19.GraftPuts" = some 3 by kernel_rfl).symm.trans hf) |>.symm
      obtain rfl : fn = Tryd.f3 := (Option.some.inj (Tryd.func3.symm.trans hfn)).symm
      exact ⟨by kernel_rfl, fun j t ht => by
        rw [Tryd.params3] at ht
        have hm : t ∈ [22, 23] := by simpa using Array.mem_of_getElem? ht
        have hall : ([22, 23].all fun u => !Tryd.prog.wantsStandIn u) = true := by kernel_rfl
        exact (show Tryd.prog.wantsStandIn t = false by simpa using List.all_eq_true.1 hall t hm)⟩)
    (by kernel_rfl)
#print axioms proved
end Go.Proofs.YtmbdimonfdncpaaDoor.graftPuts
