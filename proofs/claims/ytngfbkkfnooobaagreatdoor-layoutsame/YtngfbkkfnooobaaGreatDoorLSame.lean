/-
  LayoutSame: for every input the law answers true and leaves its arguments as they were; the row lists math/bits.deBruijn32tab, the card ties it to the program's text (the tie is given).
  Conditions: none beside the row's own.
-/
import Derived.Test.YtngfbkkfnooobaaGreatDoorLayR
import Derived.Test.YtngfbkkfnooobaaGreatDoorLikez
import Derived.Test.YtngfbkkfnooobaaGreatDoorAlike
import Derived.Test.YtngfbkkfnooobaaGreatDoorAwake
import Derived.Deep.RegionHeld3
import Derived.Test.YtngfbkkfnooobaaGreatDoorIn
import Derived.Test.YtngfbkkfnooobaaGreatDoorLaid
import Derived.Test.YtngfbkkfnooobaaGreatDoorCards
import Derived.Test.YtngfbkkfnooobaaGreatDoorTie
import Derived.ShutString
import Derived.ChangeOld
import Derived.Below
namespace Go.Proofs.YtngfbkkfnooobaaGreatDoor.layoutSame
open Go.ChangeShapes Go.WideShapes Go.ChangeAt Go.RowKit Go.Shelf
set_option linter.unusedVariables false
theorem laidOut : laidOutB Tryz.prog = true := by kernel_rfl
set_option maxRecDepth 100000
set_option maxHeartbeats 4000000 in
theorem walk {A0 : Option Addr} {c0 : Nat} {L0 : List En} {A1 : Option Addr} {c1 : Nat} {L1 : List En} (w : World) (hc0 : L0.length ≤ c0) (hm0 : c0 ≤ maxLen) (ha0 : Ens w A0 L0) (hh0 : ∀ e ∈ L0, e.1 < 18446744073709551616) (hc1 : L1.length ≤ c1) (hm1 : c1 ≤ maxLen) (ha1 : Ens w A1 L1) (hh1 : ∀ e ∈ L1, e.1 < 18446744073709551616) (hT : Tab w) :
    Calls Tryz.prog 4 #[.slice A0 L0.length c0, .slice A1 L1.length c1] w fun e w' => e = .returned (.bool true) ∧ Below w.heap.size w w' := by
  have hml : maxLen ≤ 9223372036854775807 := by decide
  have hsm := small_any ha0 c0 20 (by decide) (Nat.le_trans (Nat.le_trans hc0 hm0) hml)
  have hsm1 := fun (W : World) (hW : Below w.heap.size w W) => small_any (ha1.below hW) c1 20 (by decide) (Nat.le_trans (Nat.le_trans hc1 hm1) hml)
  cases hs : (decide (L0.length ≤ 20) && tinyE L0) with
  | false =>
    rw [hs] at hsm
    have HSM := Lib.hid hsm; clear hsm
    have HT := Lib.hid hT; clear hT
    clear ha0 ha1 hs hc0 hm0 hh0 hc1 hm1 hh1 hsm1
    go_enter Tryz.func4, Tryz.ntmps4
    go_wp2_with fail
    refine HSM.out.mono ?_
    rintro e w1 ⟨rfl, hb⟩
    have HAW := Lib.hid (awake_any (HT.out.below hb))
    have HB := Lib.hid hb; clear hb
    go_wp2_with fail
    refine HAW.out.mono ?_
    rintro e w2 ⟨rfl, hb⟩
    have HB2 := Lib.hid (below_then HB.out hb); clear hb
    go_wp2_with fail
    go_ret
    exact ⟨rfl, HB2.out⟩
  | true =>
    rw [hs] at hsm
    cases hs1 : (decide (L1.length ≤ 20) && tinyE L1) with
    | false =>
      simp only [hs1] at hsm1
      have HSM := Lib.hid hsm; clear hsm
      have HSM1 := Lib.hid hsm1; clear hsm1
      have HT := Lib.hid hT; clear hT
      clear ha0 ha1 hs hs1 hc0 hm0 hh0 hc1 hm1 hh1
      go_enter Tryz.func4, Tryz.ntmps4
      go_wp2_with fail
      refine HSM.out.mono ?_
      rintro e w1 ⟨rfl, hb⟩
      have J := Lib.hid (HSM1.out w1 hb)
      have B1 := Lib.hid hb; clear hb
      go_wp2_with fail
      refine J.out.mono ?_
      rintro e w2 ⟨rfl, hb⟩
      have B2 := Lib.hid (below_then B1.out hb); clear hb
      have HAW := Lib.hid (awake_any (HT.out.below B2.out))
      go_wp2_with fail
      refine HAW.out.mono ?_
      rintro e w3 ⟨rfl, hb⟩
      have B3 := Lib.hid (below_then B2.out hb); clear hb
      go_wp2_with fail
      go_ret
      exact ⟨rfl, B3.out⟩
    | true =>
      simp only [hs1] at hsm1
      obtain ⟨hfit, hl20, _⟩ := small_fit (by decide) hs hh0
      obtain ⟨hfit1, hl21, _⟩ := small_fit (by decide) hs1 hh1
      obtain ⟨M, hM⟩ : ∃ M, M = comeE L0 := ⟨_, rfl⟩
      obtain ⟨M', hM'⟩ : ∃ M, M = comeE L1 := ⟨_, rfl⟩
      have hgood : Good 0 M := by rw [hM]; exact hfit.good
      have hgood' : Good 0 M' := by rw [hM']; exact hfit1.good
      obtain ⟨X, hX⟩ : ∃ X, X = layL 13 0 M := ⟨_, rfl⟩
      obtain ⟨Y, hY⟩ : ∃ X, X = layL 13 0 M' := ⟨_, rfl⟩
      have hok : X.ok := by rw [hX]; exact (lay_laid 13 0 M rfl hgood).ok
      have hok' : Y.ok := by rw [hY]; exact (lay_laid 13 0 M' rfl hgood').ok
      obtain ⟨bb, hbb⟩ : ∃ b, b = X.same Y := ⟨_, rfl⟩
      have hbl : Y.like X = bb := by rw [hbb, same_like X Y hok hok', like_turned X Y hok hok']
      have hof : ∀ W, Below w.heap.size w W → Calls Tryz.prog 7 #[.slice A0 L0.length c0] W fun e w' => ∃ v, e = .returned v ∧ Nde (fun b => W.heap.size ≤ b) w' X v ∧ Below W.heap.size W w' := fun W hW => by
        have h := of_any (F := fun b => W.heap.size ≤ b) c0 (fun b hb => hb) (hT.below hW) (ha0.below hW) hfit
        rw [← hM, ← hX] at h
        exact h
      have hof1 : ∀ W, Below w.heap.size w W → Calls Tryz.prog 7 #[.slice A1 L1.length c1] W fun e w' => ∃ v, e = .returned v ∧ Nde (fun b => W.heap.size ≤ b) w' Y v ∧ Below W.heap.size W w' := fun W hW => by
        have h := of_any (F := fun b => W.heap.size ≤ b) c1 (fun b hb => hb) (hT.below hW) (ha1.below hW) hfit1
        rw [← hM', ← hY] at h
        exact h
      have hrf := fun (W : World) (hW : Below w.heap.size w W) => refOf_any (ha0.below hW) c0 (by omega)
      have hco : ∀ W A c, Res W A L0 → Calls Tryz.prog 9 #[.slice A L0.length c] W fun e w' => (∃ A' c', e = .returned (.slice A' M.length c') ∧ Res w' A' M ∧ NewIn W.heap.size w' A') ∧ Below W.heap.size W w' := fun W A c hR => by
        have h := refComeE_any hR c (by omega)
        rw [← hM] at h
        exact h
      have hly : ∀ W A c, Res W A M → Calls Tryz.prog 8 #[.slice A M.length c, .int .i64 0] W fun e w' => ∃ r, e = .returned (RN.agg r X) ∧ Mde (fun b => W.heap.size ≤ b) w' X r ∧ Below W.heap.size W w' := fun W A c hR => by
        have h := layR_all 13 0 rfl W A M c hR hgood
        rw [← hX] at h
        exact h
      have hs01 : ∀ (N : Nat) W v u, Below w.heap.size w W → Nde (fun b => b < N) W X v → Nde (fun b => N ≤ b) W Y u → Calls Tryz.prog 15 #[v, u] W fun e w' => e = .returned (.bool bb) ∧ Below W.heap.size W w' := fun N W v u hW h1 h2 => by
        rw [hbb]
        exact same_node X _ _ W Y v u (fun b h h' => Nat.not_le_of_lt h h') h1 h2 hok hok' (hT.below hW)
      have hs00 : ∀ (N : Nat) W v u, Below w.heap.size w W → Nde (fun b => b < N) W X v → Nde (fun b => N ≤ b) W X u → Calls Tryz.prog 15 #[v, u] W fun e w' => e = .returned (.bool true) ∧ Below W.heap.size W w' := fun N W v u hW h1 h2 => by
        have h := same_node X _ _ W X v u (fun b h h' => Nat.not_le_of_lt h h') h1 h2 hok hok (hT.below hW)
        rw [same_refl] at h
        exact h
      have hlk : ∀ W v r, Nde (fun _ => True) W Y v → Mde (fun _ => True) W X r → Calls Tryz.prog 11 #[v, RN.agg r X] W fun e w' => e = .returned (.bool bb) ∧ Below W.heap.size W w' := fun W v r h1 h2 => by
        have h := likes_any Y X _ _ W v r h1 h2 hok' hok
        unfold Likes at h
        rw [hbl] at h
        exact h
      obtain ⟨L, hLL⟩ : ∃ n, n = L0.length := ⟨_, rfl⟩
      obtain ⟨L', hLL'⟩ : ∃ n, n = L1.length := ⟨_, rfl⟩
      obtain ⟨ML, hMLn⟩ : ∃ n, n = M.length := ⟨_, rfl⟩
      rw [← hLL] at hsm ⊢
      rw [← hLL']
      simp only [← hLL'] at hsm1 hof1
      simp only [← hLL] at hof hrf hco
      simp only [← hMLn] at hco hly
      have HSM := Lib.hid hsm; clear hsm
      have HSM1 := Lib.hid hsm1; clear hsm1
      have HOF := Lib.hid hof; clear hof
      have HOF1 := Lib.hid hof1; clear hof1
      have HRF := Lib.hid hrf; clear hrf
      have HCO := Lib.hid hco; clear hco
      have HLY := Lib.hid hly; clear hly
      have HLK := Lib.hid hlk; clear hlk
      have HS01 := Lib.hid hs01; clear hs01
      have HS00 := Lib.hid hs00; clear hs00
      have HT := Lib.hid hT; clear hT
      clear ha0 ha1 hs hs1 hc0 hm0 hh0 hc1 hm1 hh1 hfit hfit1 hl20 hl21 hM hM' hX hY hgood hgood' hok hok' hbb hbl hLL hLL' hMLn
      go_enter Tryz.func4, Tryz.ntmps4
      go_wp2_with fail
      refine HSM.out.mono ?_
      rintro e w1 ⟨rfl, hb⟩
      have B1 := Lib.hid hb
      have J := Lib.hid (HSM1.out w1 hb); clear hb
      go_wp2_with fail
      refine J.out.mono ?_
      rintro e w2 ⟨rfl, hb⟩
      have B2 := Lib.hid (below_then B1.out hb); clear hb J
      have J := Lib.hid (HRF.out w2 B2.out)
      go_wp2_with fail
      refine J.out.mono ?_
      rintro e w3 ⟨⟨A3, c3, rfl, _, hr3, _⟩, hb⟩
      have B3 := Lib.hid (below_then B2.out hb); clear hb J
      have J := Lib.hid (HCO.out w3 A3 c3 hr3); clear hr3
      go_wp2_with fail
      refine J.out.mono ?_
      rintro e w4 ⟨⟨A4, c4, rfl, hr4, _⟩, hb⟩
      have B4 := Lib.hid (below_then B3.out hb); clear hb J
      have J := Lib.hid (HLY.out w4 A4 c4 hr4); clear hr4
      go_wp2_with fail
      refine J.out.mono ?_
      rintro e w5 ⟨⟨pa, pc, sa, sc, ka, kc⟩, rfl, hm5, hb⟩
      have B5 := Lib.hid (below_then B4.out hb); clear hb J
      obtain ⟨k0, hk0⟩ : ∃ k, k = X.kind := ⟨_, rfl⟩
      obtain ⟨k1, hk1⟩ : ∃ k, k = X.hash := ⟨_, rfl⟩
      obtain ⟨k2, hk2⟩ : ∃ k, k = X.prs.length := ⟨_, rfl⟩
      obtain ⟨k3, hk3⟩ : ∃ k, k = X.set.length := ⟨_, rfl⟩
      obtain ⟨k4, hk4⟩ : ∃ k, k = X.num := ⟨_, rfl⟩
      have hag : RN.agg (⟨pa, pc, sa, sc, ka, kc⟩ : RN) X = .agg #[.int .i64 (k0 : Int), .int .u64 (k1 : Int), .slice pa k2 pc, .slice sa k3 sc, .slice ka k4 kc] := by rw [hk0, hk1, hk2, hk3, hk4]; rfl
      rw [hag]
      obtain ⟨gx, hgx⟩ : ∃ g, g = w5.heap.size := ⟨_, rfl⟩
      obtain ⟨w6, hw6⟩ : ∃ x, x = w5.alloc (.cells #[.int .i64 (k0 : Int), .int .u64 (k1 : Int), .slice pa k2 pc, .slice sa k3 sc, .slice ka k4 kc] 33) := ⟨_, rfl⟩
      have hb6 : Below w5.heap.size w5 w6 := by rw [hw6]; exact (Below.refl _ _).alloc (Nat.le_refl _) _
      have r6 : w6.heap[gx]? = some (.cells #[.int .i64 (k0 : Int), .int .u64 (k1 : Int), .slice pa k2 pc, .slice sa k3 sc, .slice ka k4 kc] 33 (0, 0)) := by rw [hw6, hgx]; exact heap_alloc_new w5 _
      have hg6 : gx < w6.heap.size := (Array.getElem?_eq_some_iff.1 r6).1
      have HCEL : Hid (∀ W, Below w6.heap.size w6 W → W.cell? ⟨gx, 0, none⟩ = some (.int .i64 (k0 : Int)) ∧ W.cell? ⟨gx, 1, none⟩ = some (.int .u64 (k1 : Int)) ∧ W.cell? ⟨gx, 2, none⟩ = some (.slice pa k2 pc) ∧ W.cell? ⟨gx, 3, none⟩ = some (.slice sa k3 sc) ∧ W.cell? ⟨gx, 4, none⟩ = some (.slice ka k4 kc)) := fun W hW => (row5 ((hW.block gx hg6).trans r6)).1
      have M6 := Lib.hid ((hm5.below hb6).mono (G := fun _ => True) fun _ _ _ => trivial)
      have B6 := Lib.hid (below_then B5.out hb6)
      have HO0 : Hid (∀ W, Below w6.heap.size w6 W → Calls Tryz.prog 7 #[.slice A0 L c0] W fun e w' => ∃ v, e = .returned v ∧ Nde (fun b => W.heap.size ≤ b) w' X v ∧ Below W.heap.size W w') := fun W hW => HOF.out W (below_then B6.out hW)
      have HO1 : Hid (∀ W, Below w6.heap.size w6 W → Calls Tryz.prog 7 #[.slice A1 L' c1] W fun e w' => ∃ v, e = .returned v ∧ Nde (fun b => W.heap.size ≤ b) w' Y v ∧ Below W.heap.size W w') := fun W hW => HOF1.out W (below_then B6.out hW)
      have HSA : Hid (∀ (N : Nat) W v u, Below w6.heap.size w6 W → Nde (fun b => b < N) W X v → Nde (fun b => N ≤ b) W Y u → Calls Tryz.prog 15 #[v, u] W fun e w' => e = .returned (.bool bb) ∧ Below W.heap.size W w') := fun N W v u hW => HS01.out N W v u (below_then B6.out hW)
      have HSB : Hid (∀ (N : Nat) W v u, Below w6.heap.size w6 W → Nde (fun b => b < N) W X v → Nde (fun b => N ≤ b) W X u → Calls Tryz.prog 15 #[v, u] W fun e w' => e = .returned (.bool true) ∧ Below W.heap.size W w') := fun N W v u hW => HS00.out N W v u (below_then B6.out hW)
      have HLI : Hid (∀ (F : Nat → Prop) W v, Below w6.heap.size w6 W → Nde F W Y v → Calls Tryz.prog 11 #[v, .agg #[.int .i64 (k0 : Int), .int .u64 (k1 : Int), .slice pa k2 pc, .slice sa k3 sc, .slice ka k4 kc]] W fun e w' => e = .returned (.bool bb) ∧ Below W.heap.size W w') := fun F W v hW hn => by
        have h := HLK.out W v ⟨pa, pc, sa, sc, ka, kc⟩ (hn.mono fun _ _ _ => trivial) (M6.out.below hW)
        rw [hag] at h
        exact h
      have HAW : Hid (∀ W, Below w6.heap.size w6 W → Calls Tryz.prog 6 #[] W fun e w' => e = .returned (.bool true) ∧ Below W.heap.size W w') := fun W hW => awake_any (HT.out.below (below_then B6.out hW))
      have HGX := Lib.hid hgx; clear hgx
      have HW6 := Lib.hid hw6; clear hw6
      clear hm5 hb6 r6 hg6 hk0 hk1 hk2 hk3 hk4 hag HSM HSM1 HOF HOF1 HRF HCO HLY HLK HS01 HS00 M6
      go_wp2_with fail
      simp only [← HGX.out] at HW6 ⊢
      rw [← HW6.out]
      have hz0 : Below w6.heap.size w6 w6.drew := (Below.refl _ _).drew
      go_region_held3 (fun W => W.cell? ⟨gx, 0, none⟩ = some (.int .i64 (k0 : Int)) ∧ W.cell? ⟨gx, 1, none⟩ = some (.int .u64 (k1 : Int)) ∧ W.cell? ⟨gx, 2, none⟩ = some (.slice pa k2 pc) ∧ W.cell? ⟨gx, 3, none⟩ = some (.slice sa k3 sc) ∧ W.cell? ⟨gx, 4, none⟩ = some (.slice ka k4 kc)) (first | (with_reducible exact HCEL.out _ hz0) | (with_reducible exact HCEL.out _ hzA) | (with_reducible exact HCEL.out _ hzB) | (with_reducible exact HCEL.out _ hzC) | (with_reducible exact HCEL.out _ hzD) | (with_reducible exact HCEL.out _ hzE) | (with_reducible exact HCEL.out _ hzF) | (with_reducible exact HCEL.out _ hzG) | (with_reducible exact HCEL.out _ hzH) | (with_reducible exact HCEL.out _ hzI)) (first
        | (go_at_call 7; (with_reducible refine (HO0.out _ hz0).mono ?_); rintro e wA ⟨vA, rfl, hnA, hA⟩; have hzA := below_then hz0 hA; have nA := Lib.hid (hnA.mono (G := fun b => b < wA.heap.size) (fun b hl _ => hl)); clear hnA)
        | (go_at_call 7; (with_reducible refine (HO1.out _ hzA).mono ?_); rintro e wB ⟨vB, rfl, hnB, hB⟩; have hzB := below_then hzA hB; have nA2 := Lib.hid (nA.out.below hB); have nB := Lib.hid hnB; clear hnB)
        | (go_at_call 15; (with_reducible refine (HSA.out _ _ _ _ hzB nA2.out nB.out).mono ?_); rintro e wC ⟨rfl, hC⟩; have hzC := below_then hzB hC)
        | (go_at_call 7; (with_reducible refine (HO1.out _ hzC).mono ?_); rintro e wD ⟨vD, rfl, hnD, hD⟩; have hzD := below_then hzC hD; have nD := Lib.hid hnD; clear hnD)
        | (go_at_call 11; (with_reducible refine (HLI.out _ _ _ hzD nD.out).mono ?_); rintro e wE ⟨rfl, hE⟩; have hzE := below_then hzD hE)
        | (go_at_call 7; (with_reducible refine (HO0.out _ hzE).mono ?_); rintro e wF ⟨vF, rfl, hnF, hF⟩; have hzF := below_then hzE hF; have nF := Lib.hid (hnF.mono (G := fun b => b < wF.heap.size) (fun b hl _ => hl)); clear hnF)
        | (go_at_call 7; (with_reducible refine (HO0.out _ hzF).mono ?_); rintro e wG ⟨vG, rfl, hnG, hG⟩; have hzG := below_then hzF hG; have nF2 := Lib.hid (nF.out.below hG); have nG := Lib.hid hnG; clear hnG)
        | (go_at_call 15; (with_reducible refine (HSB.out _ _ _ _ hzG nF2.out nG.out).mono ?_); rintro e wH ⟨rfl, hH⟩; have hzH := below_then hzG hH)
        | (go_at_call 6; (with_reducible refine (HAW.out _ hzH).mono ?_); rintro e wI ⟨rfl, hI⟩; have hzI := below_then hzH hI))
      all_goals
        go_wp2_with fail
        go_ret
        exact ⟨rfl, below_then B6.out hzI⟩

theorem lifted (os : Os) (started : os.Started) (H : Type) (enc : TypeId × Value → H) :
    ReturnsInHanded {} Tryz.checked os 4 .any (fun w args => (Rows.layoutSameSpec.pre enc Tryz.prog Tryz.f4 [] false w args ∧ laidMetH Tryz.prog laid w) ∧ sizedMet enc Tryz.prog Tryz.f4 (OpenSpec.ofChange Rows.layoutSameSpec) false w args)
      (Rows.layoutSameSpec.post enc Tryz.prog Tryz.f4 false true false false) := by
  refine returnsInHanded_of_change_and (C := Tryz.checked) (X := fun w _ => laidMetH Tryz.prog laid w) (fun _ _ _ hh h => h.of_heap hh) own started (by kernel_rfl) Tryz.func4
    (ChangeSpec.witness_shaped (enc := enc) (C := Tryz.checked) (os := os) (X := fun w _ => laidMetH Tryz.prog laid w) false (World.laidAll Tryz.prog os laid) #[.slice none 0 0, .slice none 0 0] 8 (World.laidAll_os _ _ _)
      (World.shaped_of_ZipB (by kernel_rfl) (by kernel_rfl)) (by kernel_rfl) (by kernel_rfl) (by kernel_rfl)
      (by rw [MakeChecks.laidMetH_plain _ _ _ (by kernel_rfl)]; exact laidMet_laidAll _ (by kernel_rfl) (by kernel_rfl))) ?_
  intro W base args ds gs before hval0 hW _ _ hL _
  have hval : ∀ (j : Nat) t v, Tryz.f4.params[j]? = some t → args[j]? = some v → Value.okWide Tryz.prog W .any base t v := hval0
  have hW' := hW
  obtain ⟨p, q, hA0, hV, rfl, _, _⟩ := hW
  have hA : DataW.TrodAll enc Tryz.prog W 0 (fun _ => true) true Tryz.f4.params.toList args.toList ds p := hA0
  rw [Tryz.params4] at hA hval
  obtain ⟨v0, vs0, d0, ds0, p0, q0, hargs, rfl, rfl, h0, r0⟩ := trodAll_cons hA
  obtain ⟨v1, vs1, d1, ds1, p1, q1, rfl, rfl, rfl, h1, r1⟩ := trodAll_cons r0
  obtain ⟨rfl, rfl, rfl⟩ := trodAll_nil r1
  obtain rfl : args = #[v0, v1] := by cases args; simp_all
  obtain ⟨rfl, rfl⟩ := trodVars_none hV
  have lt0 : ∀ x ∈ p0, x.block < W.heap.size := by obtain ⟨m, hm⟩ := h0; exact DataW.trod_lt m _ _ _ hm
  have ok0 := hval 0 22 v0 rfl rfl
  have lt1 : ∀ x ∈ p1, x.block < W.heap.size := by obtain ⟨m, hm⟩ := h1; exact DataW.trod_lt m _ _ _ hm
  have ok1 := hval 1 22 v1 rfl rfl
  clear hA0 hval0 hval
  obtain ⟨A0, c0, L0, rfl, hc0, hm0, ha0, hh0⟩ := entries_in ok0 h0
  obtain ⟨A1, c1, L1, rfl, hc1, hm1, ha1, hh1⟩ := entries_in ok1 h1
  refine (walk W hc0 hm0 ha0 hh0 hc1 hm1 ha1 hh1 (tab_of_laid hL)).mono fun e W' ⟨he, bel⟩ => ?_
  subst he
  exact ⟨_, rfl, _, _, _, [], _, [], hW', trodAll_mk1 (shut_bool Tryz.underlying4 _), (trodAll_cons_mk (Below.trod laidOut (by kernel_rfl) (of_decide_eq_true (by kernel_rfl)) h0 bel lt0) (trodAll_cons_mk (Below.trod laidOut (by kernel_rfl) (of_decide_eq_true (by kernel_rfl)) h1 bel lt1) trodAll_mk0)), rfl, bel.frame _, fun h => by cases h⟩

theorem over : Rows.LayoutSameSaid :=
  OpenClaim.holds_of_wide 4 Tryz.f4 rfl rfl rfl rfl rfl rfl rfl ⟨rfl, rfl, rfl, rfl, rfl⟩ rfl rfl rfl rfl rfl (by kernel_rfl) Tryz.func4 (by kernel_rfl)
    (of_decide_eq_true (by kernel_rfl)) (by unfold Func.isWrapper; first | (rw [if_pos (by decide +kernel)]; kernel_rfl) | (rw [if_neg (by decide +kernel)]; exact ⟨rfl, rfl⟩))
    (fun os started H enc _ => lifted os started H enc)

/-- ████ THE STATEMENT: THE TIED CARD ████ -/
theorem proved : Rows.LayoutSameCardSaid :=
  Claim7.holds_tied_plain_at .later [] [.data] true (true, "ae07f5f275a22cca15a8eeedea6ee35a27bce9f3de784edce0c5ae1c8460cfb6") true over (fun _ h => by cases h) (by kernel_rfl) (fun _ h => by cases h) layoutSame_row_tie rfl ⟨rfl, rfl⟩ (by kernel_rfl) rfl
    (fun f fn hf hfn => by
      obtain rfl : f = 4 := Option.some.inj ((show Tryz.prog.funcNamed "brushwood/brushwoodlaw17.LayoutSame" = some 4 by kernel_rfl).symm.trans hf) |>.symm
      obtain rfl : fn = Tryz.f4 := (Option.some.inj (Tryz.func4.symm.trans hfn)).symm
      exact ⟨by kernel_rfl, fun j t ht => by
        rw [Tryz.params4] at ht
        have hm : t ∈ [22, 22] := by simpa using Array.mem_of_getElem? ht
        have hall : ([22, 22].all fun u => !Tryz.prog.wantsStandIn u) = true := by kernel_rfl
        exact (show Tryz.prog.wantsStandIn t = false by simpa using List.all_eq_true.1 hall t hm)⟩)
    (by kernel_rfl)
#print axioms proved
end Go.Proofs.YtngfbkkfnooobaaGreatDoor.layoutSame
