/-
  LayoutOf: for every input the law answers true and leaves its arguments as they were; the row lists math/bits.deBruijn32tab, the card ties it to the program's text (the tie is given).
  Conditions: none beside the row's own.
-/
import Derived.Test.YtngfbkkfnooobaaGreatDoorLayR
import Derived.Test.YtngfbkkfnooobaaGreatDoorSames
import Derived.Test.YtngfbkkfnooobaaGreatDoorNRight
import Derived.Test.YtngfbkkfnooobaaGreatDoorAwake
import Derived.Deep.RegionHeld3
import Derived.Test.YtngfbkkfnooobaaGreatDoorIn
import Derived.Test.YtngfbkkfnooobaaGreatDoorLaid
import Derived.Test.YtngfbkkfnooobaaGreatDoorCards
import Derived.Test.YtngfbkkfnooobaaGreatDoorTie
import Derived.ShutString
import Derived.ChangeOld
import Derived.Below
namespace Go.Proofs.YtngfbkkfnooobaaGreatDoor.layoutOf
open Go.ChangeShapes Go.WideShapes Go.ChangeAt Go.RowKit Go.Shelf
set_option linter.unusedVariables false
theorem laidOut : laidOutB Tryz.prog = true := by kernel_rfl
set_option maxRecDepth 100000
set_option maxHeartbeats 4000000 in
theorem walk {A0 : Option Addr} {c0 : Nat} {L0 : List En} (w : World) (hc0 : L0.length ≤ c0) (hm0 : c0 ≤ maxLen) (ha0 : Ens w A0 L0) (hh0 : ∀ e ∈ L0, e.1 < 18446744073709551616) (hT : Tab w) :
    Calls Tryz.prog 3 #[.slice A0 L0.length c0] w fun e w' => e = .returned (.bool true) ∧ Below w.heap.size w w' := by
  have hml : maxLen ≤ 9223372036854775807 := by decide
  have hsm := small_any ha0 c0 40 (by decide) (Nat.le_trans (Nat.le_trans hc0 hm0) hml)
  cases hs : (decide (L0.length ≤ 40) && tinyE L0) with
  | false =>
    rw [hs] at hsm
    have HSM := Lib.hid hsm; clear hsm
    have HT := Lib.hid hT; clear hT
    clear ha0 hs hc0 hm0 hh0
    go_enter Tryz.func3, Tryz.ntmps3
    go_wp2_with fail
    refine HSM.out.mono ?_
    rintro e w1 ⟨rfl, hb⟩
    have HAW := Lib.hid (awake_any (HT.out.below hb))
    have HB := Lib.hid hb; clear hb
    go_wp2_with fail
    refine HAW.out.mono ?_
    rintro e w2 ⟨rfl, hb⟩
    have HB2 := Lib.hid (below_then HB.out hb); clear hb
    go_wp2_with fail
    go_ret
    exact ⟨rfl, HB2.out⟩
  | true =>
    rw [hs] at hsm
    obtain ⟨hfit, hl40, ht60⟩ := small_fit (by decide) hs hh0
    obtain ⟨M, hM⟩ : ∃ M, M = comeE L0 := ⟨_, rfl⟩
    have hgood : Good 0 M := by rw [hM]; exact hfit.good
    have hM40 : M.length ≤ 40 := by rw [hM]; exact Nat.le_trans (comeE_len L0) hl40
    obtain ⟨X, hX⟩ : ∃ X, X = layL 13 0 M := ⟨_, rfl⟩
    have hlaid : Laid M 0 X := by rw [hX]; exact lay_laid 13 0 M rfl hgood
    have hfew : (X.shape 0).length ≤ 8000 := by
      have h1 := shape_few X 0 hlaid.ok hlaid.right (by decide)
      rw [hlaid.cnt] at h1
      omega
    have hmaps := shape_maps X 0 hlaid.ok
    have hok := hlaid.ok
    have hri := hlaid.right
    have hcn : X.cnt ≤ 1000000000000 := by rw [hlaid.cnt]; omega
    have hof : ∀ W, Below w.heap.size w W → Calls Tryz.prog 7 #[.slice A0 L0.length c0] W fun e w' => ∃ v, e = .returned v ∧ Nde (fun b => W.heap.size ≤ b) w' X v ∧ Below W.heap.size W w' := fun W hW => by
      have h := of_any (F := fun b => W.heap.size ≤ b) c0 (fun b hb => hb) (hT.below hW) (ha0.below hW) hfit
      rw [← hM, ← hX] at h
      exact h
    have hrf := fun (W : World) (hW : Below w.heap.size w W) => refOf_any (ha0.below hW) c0 (by omega)
    have hco : ∀ W A c, Res W A L0 → Calls Tryz.prog 9 #[.slice A L0.length c] W fun e w' => (∃ A' c', e = .returned (.slice A' M.length c') ∧ Res w' A' M ∧ NewIn W.heap.size w' A') ∧ Below W.heap.size W w' := fun W A c hR => by
      have h := refComeE_any hR c (by omega)
      rw [← hM] at h
      exact h
    have hly : ∀ W A c, Res W A M → Calls Tryz.prog 8 #[.slice A M.length c, .int .i64 0] W fun e w' => ∃ r, e = .returned (RN.agg r X) ∧ Mde (fun b => W.heap.size ≤ b) w' X r ∧ Below W.heap.size W w' := fun W A c hR => by
      have h := layR_all 13 0 rfl W A M c hR hgood
      rw [← hX] at h
      exact h
    have hrr : (decide ((0 : Int) ≤ 0 ∧ (0 : Int) ≤ 13) && (X.kind != 0 && X.right ((0 : Int)).toNat)) = (X.kind != 0) := by
      rw [show ((0 : Int)).toNat = 0 from rfl, hri]
      simp
    have hrg : ∀ W v, Nde (fun b => b < W.heap.size) W X v → Tab W → Calls Tryz.prog 14 #[v, .int .i64 0] W fun e w' => e = .returned (.bool (X.kind != 0)) ∧ Below W.heap.size W w' := fun W v hn ht => by
      have h := right_any 0 hn hok (fun q hq => hq) ht
      rw [hrr] at h
      exact h
    have hlk : ∀ W v r, Nde (fun _ => True) W X v → Mde (fun _ => True) W X r → Calls Tryz.prog 11 #[v, RN.agg r X] W fun e w' => e = .returned (.bool true) ∧ Below W.heap.size W w' := fun W v r h1 h2 => like_any X _ W v r h1 h2 hok
    have hsh : ∀ W r, Mde (fun _ => True) W X r → Calls Tryz.prog 13 #[RN.agg r X, .int .i64 0] W fun e w' => ∃ v, e = .returned v ∧ w'.ownsRow W.heap.size 83 5 v (X.shape 0).length (spcells (X.shape 0)) ∧ Below W.heap.size W w' := fun W r h => refShape_any X _ W r 0 h hok hri (by decide) hcn hfew
    have hsd : ∀ W v A c, Nde (fun _ => True) W X v → Tab W → Sps W A (X.shape 0) → Calls Tryz.prog 12 #[v, .slice A (X.shape 0).length c] W fun e w' => e = .returned (.bool true) ∧ Below W.heap.size W w' := fun W v A c h ht hA => shaped_any h hok hri ht hfew hmaps hA
    obtain ⟨L, hLL⟩ : ∃ n, n = L0.length := ⟨_, rfl⟩
    obtain ⟨ML, hMLn⟩ : ∃ n, n = M.length := ⟨_, rfl⟩
    rw [← hLL] at hsm ⊢
    simp only [← hLL] at hof hrf hco
    simp only [← hMLn] at hco hly
    have HSM := Lib.hid hsm; clear hsm
    have HOF := Lib.hid hof; clear hof
    have HRF := Lib.hid hrf; clear hrf
    have HCO := Lib.hid hco; clear hco
    have HLY := Lib.hid hly; clear hly
    have HRG := Lib.hid hrg; clear hrg
    have HLK := Lib.hid hlk; clear hlk
    have HSH := Lib.hid hsh; clear hsh
    have HSD := Lib.hid hsd; clear hsd
    have HT := Lib.hid hT; clear hT
    clear ha0 hs hc0 hm0 hh0 hfit hl40 ht60 hM hX hgood hM40 hlaid hfew hmaps hok hri hcn hrr hLL hMLn
    go_enter Tryz.func3, Tryz.ntmps3
    go_wp2_with fail
    refine HSM.out.mono ?_
    rintro e w1 ⟨rfl, hb⟩
    have B1 := Lib.hid hb
    have J := Lib.hid (HOF.out w1 hb); clear hb
    go_wp2_with fail
    refine J.out.mono ?_
    rintro e w2 ⟨v, rfl, hn, hb⟩
    have N2 := Lib.hid (hn.mono (G := fun b => b < w2.heap.size) fun b hl _ => hl)
    have B2 := Lib.hid (below_then B1.out hb); clear hn hb J
    have J := Lib.hid (HRF.out w2 B2.out)
    go_wp2_with fail
    refine J.out.mono ?_
    rintro e w3 ⟨⟨A3, c3, rfl, _, hr3, _⟩, hb⟩
    have N3 := Lib.hid (N2.out.below hb)
    have B23 := Lib.hid hb
    have B3 := Lib.hid (below_then B2.out hb); clear hb J
    have J := Lib.hid (HCO.out w3 A3 c3 hr3); clear hr3
    go_wp2_with fail
    refine J.out.mono ?_
    rintro e w4 ⟨⟨A4, c4, rfl, hr4, _⟩, hb⟩
    have N4 := Lib.hid (N3.out.below hb)
    have B24 := Lib.hid (below_then B23.out hb)
    have B4 := Lib.hid (below_then B3.out hb); clear hb J
    have J := Lib.hid (HLY.out w4 A4 c4 hr4); clear hr4
    go_wp2_with fail
    refine J.out.mono ?_
    rintro e w5 ⟨⟨pa, pc, sa, sc, ka, kc⟩, rfl, hm5, hb⟩
    have N5 := Lib.hid (N4.out.below hb)
    have B25 := Lib.hid (below_then B24.out hb)
    have B5 := Lib.hid (below_then B4.out hb); clear hb J
    obtain ⟨k0, hk0⟩ : ∃ k, k = X.kind := ⟨_, rfl⟩
    obtain ⟨k1, hk1⟩ : ∃ k, k = X.hash := ⟨_, rfl⟩
    obtain ⟨k2, hk2⟩ : ∃ k, k = X.prs.length := ⟨_, rfl⟩
    obtain ⟨k3, hk3⟩ : ∃ k, k = X.set.length := ⟨_, rfl⟩
    obtain ⟨k4, hk4⟩ : ∃ k, k = X.num := ⟨_, rfl⟩
    have hag : RN.agg (⟨pa, pc, sa, sc, ka, kc⟩ : RN) X = .agg #[.int .i64 (k0 : Int), .int .u64 (k1 : Int), .slice pa k2 pc, .slice sa k3 sc, .slice ka k4 kc] := by rw [hk0, hk1, hk2, hk3, hk4]; rfl
    rw [hag]
    obtain ⟨gx, hgx⟩ : ∃ g, g = w5.heap.size := ⟨_, rfl⟩
    obtain ⟨w6, hw6⟩ : ∃ x, x = w5.alloc (.cells #[.int .i64 (k0 : Int), .int .u64 (k1 : Int), .slice pa k2 pc, .slice sa k3 sc, .slice ka k4 kc] 33) := ⟨_, rfl⟩
    have hb6 : Below w5.heap.size w5 w6 := by rw [hw6]; exact (Below.refl _ _).alloc (Nat.le_refl _) _
    have r6 : w6.heap[gx]? = some (.cells #[.int .i64 (k0 : Int), .int .u64 (k1 : Int), .slice pa k2 pc, .slice sa k3 sc, .slice ka k4 kc] 33 (0, 0)) := by rw [hw6, hgx]; exact heap_alloc_new w5 _
    have hg6 : gx < w6.heap.size := (Array.getElem?_eq_some_iff.1 r6).1
    have HCEL : Hid (∀ W, Below w6.heap.size w6 W → W.cell? ⟨gx, 0, none⟩ = some (.int .i64 (k0 : Int)) ∧ W.cell? ⟨gx, 1, none⟩ = some (.int .u64 (k1 : Int)) ∧ W.cell? ⟨gx, 2, none⟩ = some (.slice pa k2 pc) ∧ W.cell? ⟨gx, 3, none⟩ = some (.slice sa k3 sc) ∧ W.cell? ⟨gx, 4, none⟩ = some (.slice ka k4 kc)) := fun W hW => (row5 ((hW.block gx hg6).trans r6)).1
    have N6 := Lib.hid (N5.out.below hb6)
    have M6 := Lib.hid ((hm5.below hb6).mono (G := fun _ => True) fun _ _ _ => trivial)
    have B26 := Lib.hid (below_then B25.out hb6)
    have B6 := Lib.hid (below_then B5.out hb6)
    have H5 := Lib.hid (HLK.out w6 v ⟨pa, pc, sa, sc, ka, kc⟩ (N6.out.mono fun _ _ _ => trivial) M6.out)
    rw [hag] at H5
    have HAG := Lib.hid hag
    have HK0 := Lib.hid hk0
    have HGX := Lib.hid hgx; clear hgx
    have HW6 := Lib.hid hw6; clear hw6
    clear hm5 hb6 r6 hg6 hk0 hk1 hk2 hk3 hk4 hag HSM HOF HRF HCO HLY HLK
    go_wp2_with fail
    simp only [← HGX.out] at HW6 ⊢
    rw [← HW6.out]
    obtain ⟨q0, q1, q2, q3, q4⟩ := HCEL.out w6 (Below.refl _ _)
    go_wp2_with fail
    refine H5.out.mono ?_
    rintro e w7 ⟨rfl, hb⟩
    have N7 := Lib.hid (N6.out.below hb)
    have M7 := Lib.hid (M6.out.below hb)
    have B67 := Lib.hid hb
    have B7 := Lib.hid (below_then B6.out hb); clear hb
    have J := Lib.hid (HSH.out w7 ⟨pa, pc, sa, sc, ka, kc⟩ M7.out)
    rw [HAG.out] at J
    clear q0 q1 q2 q3 q4
    obtain ⟨q0, q1, q2, q3, q4⟩ := HCEL.out w7 B67.out
    go_wp2_with fail
    refine J.out.mono ?_
    rintro e w8 ⟨v8, rfl, ho8, hb⟩
    obtain ⟨A8, c8, rfl, hs8, _, _⟩ := sps_ref ho8
    have N8 := Lib.hid (N7.out.below hb)
    have B68 := Lib.hid (below_then B67.out hb)
    have B8 := Lib.hid (below_then B7.out hb); clear hb
    have J := Lib.hid (HSD.out w8 v A8 c8 (N8.out.mono fun _ _ _ => trivial) (HT.out.below B8.out) hs8)
    obtain ⟨ns, hns⟩ : ∃ n, n = (X.shape 0).length := ⟨_, rfl⟩
    rw [← hns] at J ⊢
    clear hns ho8 hs8 q0 q1 q2 q3 q4
    go_wp2_with fail
    refine J.out.mono ?_
    rintro e w9 ⟨rfl, hb⟩
    have N9 := Lib.hid (N8.out.below hb)
    have B29 : Hid (w2.heap.size ≤ w9.heap.size) := Nat.le_trans B26.out.size (Nat.le_trans B68.out.size hb.size)
    have B69 := Lib.hid (below_then B68.out hb)
    have B9 := Lib.hid (below_then B8.out hb); clear hb
    have HR : Hid (∀ W, Below w9.heap.size w9 W → Calls Tryz.prog 14 #[v, .int .i64 0] W fun e w' => e = .returned (.bool (X.kind != 0)) ∧ Below W.heap.size W w') := fun W hW => HRG.out W v ((N9.out.below hW).mono fun b hl hb => hl) (HT.out.below (below_then B9.out hW))
    have HAW : Hid (∀ W, Below w9.heap.size w9 W → Calls Tryz.prog 6 #[] W fun e w' => e = .returned (.bool true) ∧ Below W.heap.size W w') := fun W hW => awake_any (HT.out.below (below_then B9.out hW))
    have HC9 : Hid (∀ W, Below w9.heap.size w9 W → W.cell? ⟨gx, 0, none⟩ = some (.int .i64 (k0 : Int))) := fun W hW => (HCEL.out W (below_then B69.out hW)).1
    have hkb : ((k0 : Int) != 0) = (X.kind != 0) := by
      rw [HK0.out]
      by_cases e : X.kind = 0
      · rw [e]; rfl
      · rw [bne_iff_ne.2 e, bne_iff_ne.2 (by omega)]
    obtain ⟨bb, hbb⟩ : ∃ b, b = (X.kind != 0) := ⟨_, rfl⟩
    rw [← hbb] at hkb
    simp only [← hbb] at HR
    clear hbb J
    have hz0 : Below w9.heap.size w9 w9.drew := (Below.refl _ _).drew
    cases bb with
    | true =>
      go_wp2_with fail
      go_region_held3 (fun W => W.cell? ⟨gx, 0, none⟩ = some (.int .i64 (k0 : Int))) (first | (with_reducible exact HC9.out _ hz0) | (with_reducible exact HC9.out _ hzA) | (with_reducible exact HC9.out _ hzB)) (first
        | (go_at_call 14; refine (HR.out _ hz0).mono ?_; rintro e wA ⟨rfl, hA⟩; have hzA := below_then hz0 hA)
        | (go_at_call 6; refine (HAW.out _ hzA).mono ?_; rintro e wB ⟨rfl, hB⟩; have hzB := below_then hzA hB))
      all_goals
        go_wp2_with fail
        go_ret
        exact ⟨rfl, below_then B9.out hzB⟩
    | false =>
      go_wp2_with fail
      go_region_held3 (fun W => W.cell? ⟨gx, 0, none⟩ = some (.int .i64 (k0 : Int))) (first | (with_reducible exact HC9.out _ hz0) | (with_reducible exact HC9.out _ hzA) | (with_reducible exact HC9.out _ hzB)) (first
        | (go_at_call 14; refine (HR.out _ hz0).mono ?_; rintro e wA ⟨rfl, hA⟩; have hzA := below_then hz0 hA)
        | (go_at_call 6; refine (HAW.out _ hzA).mono ?_; rintro e wB ⟨rfl, hB⟩; have hzB := below_then hzA hB))
      all_goals
        go_wp2_with fail
        go_ret
        exact ⟨rfl, below_then B9.out hzB⟩

theorem lifted (os : Os) (started : os.Started) (H : Type) (enc : TypeId × Value → H) :
    ReturnsInHanded {} Tryz.checked os 3 .any (fun w args => (Rows.layoutOfSpec.pre enc Tryz.prog Tryz.f3 [] false w args ∧ laidMetH Tryz.prog laid w) ∧ sizedMet enc Tryz.prog Tryz.f3 (OpenSpec.ofChange Rows.layoutOfSpec) false w args)
      (Rows.layoutOfSpec.post enc Tryz.prog Tryz.f3 false true false false) := by
  refine returnsInHanded_of_change_and (C := Tryz.checked) (X := fun w _ => laidMetH Tryz.prog laid w) (fun _ _ _ hh h => h.of_heap hh) own started (by kernel_rfl) Tryz.func3
    (ChangeSpec.witness_shaped (enc := enc) (C := Tryz.checked) (os := os) (X := fun w _ => laidMetH Tryz.prog laid w) false (World.laidAll Tryz.prog os laid) #[.slice none 0 0] 8 (World.laidAll_os _ _ _)
      (World.shaped_of_ZipB (by kernel_rfl) (by kernel_rfl)) (by kernel_rfl) (by kernel_rfl) (by kernel_rfl)
      (by rw [MakeChecks.laidMetH_plain _ _ _ (by kernel_rfl)]; exact laidMet_laidAll _ (by kernel_rfl) (by kernel_rfl))) ?_
  intro W base args ds gs before hval0 hW _ _ hL _
  have hval : ∀ (j : Nat) t v, Tryz.f3.params[j]? = some t → args[j]? = some v → Value.okWide Tryz.prog W .any base t v := hval0
  have hW' := hW
  obtain ⟨p, q, hA0, hV, rfl, _, _⟩ := hW
  have hA : DataW.TrodAll enc Tryz.prog W 0 (fun _ => true) true Tryz.f3.params.toList args.toList ds p := hA0
  rw [Tryz.params3] at hA hval
  obtain ⟨v0, vs0, d0, ds0, p0, q0, hargs, rfl, rfl, h0, r0⟩ := trodAll_cons hA
  obtain ⟨rfl, rfl, rfl⟩ := trodAll_nil r0
  obtain rfl : args = #[v0] := by cases args; simp_all
  obtain ⟨rfl, rfl⟩ := trodVars_none hV
  have lt0 : ∀ x ∈ p0, x.block < W.heap.size := by obtain ⟨m, hm⟩ := h0; exact DataW.trod_lt m _ _ _ hm
  have ok0 := hval 0 22 v0 rfl rfl
  clear hA0 hval0 hval
  obtain ⟨A0, c0, L0, rfl, hc0, hm0, ha0, hh0⟩ := entries_in ok0 h0
  refine (walk W hc0 hm0 ha0 hh0 (tab_of_laid hL)).mono fun e W' ⟨he, bel⟩ => ?_
  subst he
  exact ⟨_, rfl, _, _, _, [], _, [], hW', trodAll_mk1 (shut_bool Tryz.underlying4 _), (trodAll_cons_mk (Below.trod laidOut (by kernel_rfl) (of_decide_eq_true (by kernel_rfl)) h0 bel lt0) trodAll_mk0), rfl, bel.frame _, fun h => by cases h⟩

theorem over : Rows.LayoutOfSaid :=
  OpenClaim.holds_of_wide 3 Tryz.f3 rfl rfl rfl rfl rfl rfl rfl ⟨rfl, rfl, rfl, rfl, rfl⟩ rfl rfl rfl rfl rfl (by kernel_rfl) Tryz.func3 (by kernel_rfl)
    (of_decide_eq_true (by kernel_rfl)) (by unfold Func.isWrapper; first | (rw [if_pos (by decide +kernel)]; kernel_rfl) | (rw [if_neg (by decide +kernel)]; exact ⟨rfl, rfl⟩))
    (fun os started H enc _ => lifted os started H enc)

/-- ████ THE STATEMENT: THE TIED CARD ████ -/
theorem proved : Rows.LayoutOfCardSaid :=
  Claim7.holds_tied_plain_at .later [] [.data] true (true, "ae07f5f275a22cca15a8eeedea6ee35a27bce9f3de784edce0c5ae1c8460cfb6") true over (fun _ h => by cases h) (by kernel_rfl) (fun _ h => by cases h) layoutOf_row_tie rfl ⟨rfl, rfl⟩ (by kernel_rfl) rfl
    (fun f fn hf hfn => by
      obtain rfl : f = 3 := Option.some.inj ((show Tryz.prog.funcNamed "brushwood/brushwoodlaw17.LayoutOf" = some 3 by kernel_rfl).symm.trans hf) |>.symm
      obtain rfl : fn = Tryz.f3 := (Option.some.inj (Tryz.func3.symm.trans hfn)).symm
      exact ⟨by kernel_rfl, fun j t ht => by
        rw [Tryz.params3] at ht
        have hm : t ∈ [22] := by simpa using Array.mem_of_getElem? ht
        have hall : ([22].all fun u => !Tryz.prog.wantsStandIn u) = true := by kernel_rfl
        exact (show Tryz.prog.wantsStandIn t = false by simpa using List.all_eq_true.1 hall t hm)⟩)
    (by kernel_rfl)
#print axioms proved
end Go.Proofs.YtngfbkkfnooobaaGreatDoor.layoutOf
