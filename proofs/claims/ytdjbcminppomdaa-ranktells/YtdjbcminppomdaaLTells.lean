/-
  RankTells: for every input the law answers true and leaves its arguments as they were: the walk is typed by hand, the row's step is the guide's template.
  Conditions: none beside the row's own.
-/
import Derived.Test.YtdjbcminppomdaaLaws
import Derived.Deep.RegionHeld3
import Derived.Test.YtdjbcminppomdaaIn
import Derived.Test.YtdjbcminppomdaaRows
import Derived.WalkKit
import Derived.ProofKit
import Derived.OpenShut
import Derived.ShutString
import Derived.ChangeOld
import Derived.Below
namespace Go.Proofs.Ytdjbcminppomdaa.rankTells
open Go.ChangeShapes Go.WideShapes Go.ChangeAt Go.RowKit
set_option linter.unusedVariables false
theorem own : ownKnob Try.prog.godebug = none := by kernel_rfl
theorem laidOut : laidOutB Try.prog = true := by kernel_rfl
set_option maxRecDepth 100000 in
set_option maxHeartbeats 4000000 in
theorem walk {A0 : Option Addr} {c0 : Nat} {L0 : List Opn} {A1 : Option Addr} {c1 : Nat} {L1 : List UInt8} (w : World) (hc0 : L0.length ≤ c0) (hm0 : c0 ≤ maxLen) (ha0 : Ocs w A0 L0) (hc1 : L1.length ≤ c1) (hm1 : c1 ≤ maxLen) (ha1 : Bts w A1 L1) :
    Calls Try.prog 3 #[.slice A0 L0.length c0, .slice A1 L1.length c1] w fun e w' => e = .returned (.bool true) ∧ Below w.heap.size w w' := by
  have hsm := fine_any ha0 c0 80 (by decide) (Nat.le_trans hc0 hm0)
  have HAW := Lib.hid awake_any
  have hl1 : L1.length ≤ 9223372036854775807 := Nat.le_trans hc1 hm1
  cases hs : (decide (L0.length ≤ 80) && tinyO L0) with
  | false =>
    rw [hs] at hsm
    have HSM := Lib.hid hsm; clear hsm
    clear ha0 hs hc0 hm0 ha1 hc1 hm1
    go_enter Try.func3, Try.ntmps3
    go_wp2_with fail
    refine HSM.out.mono ?_
    rintro e w1 ⟨rfl, hb⟩
    have HB := Lib.hid hb; clear hb
    go_wp2_with fail
    refine (HAW.out _).mono ?_
    rintro e w2 ⟨rfl, hb⟩
    have HB2 := Lib.hid hb; clear hb
    go_wp2_with fail
    go_ret
    exact ⟨rfl, below_then HB.out HB2.out⟩
  | true =>
    rw [hs] at hsm
    obtain ⟨hlen, htiny⟩ : L0.length ≤ 80 ∧ tinyO L0 = true := by simpa using hs
    have HSM := Lib.hid hsm; clear hsm
    have HMD := Lib.hid (fun W (h : Below w.heap.size w W) => made_tell c0 (ha0.below h) hlen htiny)
    have HK := Lib.hid ha1; clear ha1
    clear hs hc0 hm0 htiny ha0 hlen hc1 hm1
    by_cases hk : L1.length ≤ 100
    · have t1 : decide ((100 : Int) < (L1.length : Int)) = false := decide_eq_false (by omega)
      have t2 : decide (100 < L1.length) = false := decide_eq_false (by omega)
      obtain ⟨x, hx⟩ : ∃ x, x = L1.length := ⟨_, rfl⟩
      rw [← hx] at t1 t2 hl1 ⊢
      have HKL := Lib.hid hk; clear hk
      have HX := Lib.hid hx; clear hx
      go_enter Try.func3, Try.ntmps3
      go_wp2_with fail
      refine HSM.out.mono ?_
      rintro e w0 ⟨rfl, hb⟩
      have KM := Lib.hid (HMD.out w0 hb)
      have HB := Lib.hid hb; clear hb
      clear HMD HSM
      go_wp2_with fail
      refine KM.out.mono ?_
      rintro e w1 ⟨p, A, c, n, rfl, hn, hn80, ht, hb1⟩
      obtain ⟨M, hM⟩ : ∃ M, M = plays L0 := ⟨_, rfl⟩
      rw [← hM] at hn ht
      have hb1' := below_then HB.out hb1
      have hkw : ∀ W, Below w1.heap.size w1 W → Bts W A1 L1 := fun W h => HK.out.below (below_then hb1' h)
      have up := upTo_le M L1
      rw [← hn] at up
      obtain ⟨k, hk⟩ : ∃ k, k = rank M L1 := ⟨_, rfl⟩
      obtain ⟨zf, hzf⟩ : ∃ z : Int, z = (upTo M L1 : Int) - 1 := ⟨_, rfl⟩
      obtain ⟨ks, hks⟩ : ∃ s : ByteArray, s = ⟨L1.toArray⟩ := ⟨_, rfl⟩
      have hzb : -9223372036854775808 ≤ zf ∧ zf < 9223372036854775808 := by omega
      have T1 := fun W (h : Below w1.heap.size w1 W) => ht.fl W A1 c1 L1 x h (hkw W h) HX.out
      have T2 := fun W (h : Below w1.heap.size w1 W) => ht.ce W A1 c1 L1 x h (hkw W h) HX.out
      have T3 := fun W (h : Below w1.heap.size w1 W) => ht.rk W A1 c1 L1 x h (hkw W h) HX.out
      have T4 := fun W (h : Below w1.heap.size w1 W) => ht.rr W L1 h HKL.out
      have T5 := fun W (h : Below w1.heap.size w1 W) => ht.rf W L1 h HKL.out
      have T6 := fun W (h : Below w1.heap.size w1 W) => ht.rc W L1 h HKL.out
      have T7 := fun W ka kc va vc x1 x2 is (h : Below w1.heap.size w1 W) hp => ht.ra W (nth M zf) zf ka kc va vc x1 x2 is h rfl hp hzb.1 hzb.2
      have T8 := fun W (z : Int) ka kc va vc x1 x2 is (h : Below w1.heap.size w1 W) (e : nth M z = nth M (k : Int)) hp (h1 : -1 ≤ z) (h2 : z ≤ 1000) => ht.ra W (nth M (k : Int)) z ka kc va vc x1 x2 is h e.symm hp (by omega) (by omega)
      have T9 := fun W (h : Below w1.heap.size w1 W) => conv_any (hkw W h) c1
      rw [← HX.out] at T9
      simp only [← hk, ← hzf, ← hks] at T1 T2 T3 T4 T5 T6 T9
      have J1 := Lib.hid T1; clear T1
      have J2 := Lib.hid T2; clear T2
      have J3 := Lib.hid T3; clear T3
      have J4 := Lib.hid T4; clear T4
      have J5 := Lib.hid T5; clear T5
      have J6 := Lib.hid T6; clear T6
      have J7 := Lib.hid T7; clear T7
      have J8 := Lib.hid T8; clear T8
      have J9 := Lib.hid T9; clear T9
      have HB1 := Lib.hid hb1'; clear hb1' hb1
      clear KM HB hM ht hn hkw up hk hzf hks hzb HK HKL HX hn80
      have I1 := Lib.hid (J1.out w1 (Below.refl _ _))
      go_wp2_with fail
      refine I1.out.mono ?_
      rintro e w2 ⟨⟨ka, kc, va, vc, x1, x2, is, rfl, hp⟩, hb2⟩
      obtain ⟨w3, hw3, b3, _, k3⟩ := box_pair w2 ka va x1 kc x2 vc
      have b13 := below_then hb2 b3
      have P1 := Lib.hid (hp.below b3)
      have I2 := Lib.hid (J2.out w3 b13)
      have C3 := Lib.hid k3; clear k3
      have HW3 := Lib.hid hw3; clear hw3
      have B13 := Lib.hid b13; clear b13
      clear hp hb2 b3 I1 J1 J2
      go_wp2_with (rw [← HW3.out])
      refine I2.out.mono ?_
      rintro e w4 ⟨⟨ka2, kc2, va2, vc2, y1, y2, is2, rfl, hp⟩, hb4⟩
      obtain ⟨w5, hw5, b5, _, k5⟩ := box_pair w4 ka2 va2 y1 kc2 y2 vc2
      have b35 := below_then hb4 b5
      have KEEP := Lib.hid (fun W (h : Below w5.heap.size w5 W) => And.intro (C3.out W (below_then b35 h)) (And.intro (k5 W h) (J9.out W (below_then (below_then B13.out b35) h))))
      have PT1 := Lib.hid (fun W (h : Below w5.heap.size w5 W) => (P1.out.below b35).below h)
      have PT2 := Lib.hid (fun W (h : Below w5.heap.size w5 W) => (hp.below b5).below h)
      have GO := Lib.hid (fun W (h : Below w5.heap.size w5 W) => below_then (below_then B13.out b35) h)
      have HW5 := Lib.hid hw5; clear hw5
      have hz0 : Below w5.heap.size w5 w5.drew := (Below.refl _ _).drew
      clear hp hb4 b5 b35 k5 I2 J9 C3 HW3 P1 B13
      go_wp2_with (rw [← HW5.out])
      go_region_held3 (fun W => (W.cell? ⟨w2.heap.size, 0, none⟩ = some (.slice ka x1 kc) ∧ W.cell? ⟨w2.heap.size, 1, none⟩ = some (.slice va x2 vc)) ∧ (W.cell? ⟨w4.heap.size, 0, none⟩ = some (.slice ka2 y1 kc2) ∧ W.cell? ⟨w4.heap.size, 1, none⟩ = some (.slice va2 y2 vc2)) ∧ (convert 23 9 (.slice A1 x c1)).run Try.prog W = .ok (.string ks) W) (first | exact KEEP.out _ hz0 | exact KEEP.out _ hzA | exact KEEP.out _ hzB | exact KEEP.out _ hzC | exact KEEP.out _ hzD | exact KEEP.out _ hzE | exact KEEP.out _ hzF | exact KEEP.out _ hzG | fail) (first
        | (go_at_call 12; (with_reducible refine (J3.out _ (GO.out _ hz0)).mono ?_); rintro e wA ⟨rfl, hbA⟩; have hzA := below_then hz0 hbA)
        | (go_at_call 13; (with_reducible refine (J4.out _ (GO.out _ hzA)).mono ?_); rintro e wB ⟨rfl, hbB⟩; have hzB := below_then hzA hbB)
        | (go_at_call 15; (with_reducible refine (J5.out _ (GO.out _ hzB)).mono ?_); rintro e wC ⟨rfl, hbC⟩; have hzC := below_then hzB hbC)
        | (go_at_call 14; (with_reducible refine (J7.out _ ka kc va vc x1 x2 is (GO.out _ hzC) (PT1.out _ hzC)).mono ?_); rintro e wD ⟨rfl, hbD⟩; have hzD := below_then hzC hbD)
        | (go_at_call 16; (with_reducible refine (J6.out _ (GO.out _ hzD)).mono ?_); rintro e wE ⟨z, rfl, hzz, hz1, hz2, hbE⟩; have hzE := below_then hzD hbE)
        | (go_at_call 14; (with_reducible refine (J8.out _ z ka2 kc2 va2 vc2 y1 y2 is2 (GO.out _ hzE) hzz (PT2.out _ hzE) hz1 hz2).mono ?_); rintro e wF ⟨rfl, hbF⟩; have hzF := below_then hzE hbF)
        | (go_at_call 8; (with_reducible refine (HAW.out _).mono ?_); rintro e wG ⟨rfl, hbG⟩; have hzG := below_then hzF hbG)
        | fail)
      all_goals
        go_wp2_with fail
        go_ret
        exact ⟨rfl, below_then HB1.out (GO.out _ hzG)⟩
    · have t1 : decide ((100 : Int) < (L1.length : Int)) = true := decide_eq_true (by omega)
      have t2 : decide (100 < L1.length) = true := decide_eq_true (by omega)
      clear hk HMD HK
      go_enter Try.func3, Try.ntmps3
      go_wp2_with fail
      refine HSM.out.mono ?_
      rintro e w1 ⟨rfl, hb⟩
      have HB := Lib.hid hb; clear hb
      go_wp2_with fail
      refine (HAW.out _).mono ?_
      rintro e w2 ⟨rfl, hb⟩
      have HB2 := Lib.hid hb; clear hb
      go_wp2_with fail
      go_ret
      exact ⟨rfl, below_then HB.out HB2.out⟩
/-! ### THE ROW's STEP -/
set_option maxRecDepth 100000 in
theorem lifted (os : Os) (started : os.Started) (H : Type) (enc : TypeId × Value → H) :
    ReturnsInHanded {} Try.checked os 3 .any (Rows.rankTellsSpec.pre6 enc Try.prog Try.f3 Rows.rankTellsRow.domain false) (Rows.rankTellsSpec.post enc Try.prog Try.f3 false true false false) := by
  refine returnsInHanded_of_change (C := Try.checked) own started (by kernel_rfl) Try.func3
    (ChangeSpec.witness6 (enc := enc) (C := Try.checked) false ⟨#[], #[.slice none 0 0, .slice none 0 0], []⟩ 8 (by kernel_rfl) (by kernel_rfl) (by kernel_rfl) (by kernel_rfl)) ?_
  intro W base args ds gs before hval0 hW hcnd _
  have hval : ∀ (j : Nat) t v, Try.f3.params[j]? = some t → args[j]? = some v → Value.okWide Try.prog W .any base t v := hval0
  have hW' := hW
  obtain ⟨p, q, hA0, hV, rfl, hfz, hnd⟩ := hW
  have hA : DataW.TrodAll enc Try.prog W 0 (fun _ => true) true Try.f3.params.toList args.toList ds p := hA0
  rw [Try.params3] at hA hval
  obtain ⟨v0, vs0, d0, ds0, p0, q0, hargs, rfl, rfl, h0, r0⟩ := trodAll_cons hA
  obtain ⟨v1, vs1, d1, ds1, p1, q1, rfl, rfl, rfl, h1, r1⟩ := trodAll_cons r0
  obtain ⟨rfl, rfl, rfl⟩ := trodAll_nil r1
  obtain rfl : args = #[v0, v1] := by cases args; simp_all
  obtain ⟨rfl, rfl⟩ := trodVars_none hV
  have lt0 : ∀ x ∈ p0, x.block < W.heap.size := by obtain ⟨m, hm⟩ := h0; exact DataW.trod_lt m _ _ _ hm
  have ok0 := hval 0 22 v0 rfl rfl
  have lt1 : ∀ x ∈ p1, x.block < W.heap.size := by obtain ⟨m, hm⟩ := h1; exact DataW.trod_lt m _ _ _ hm
  have ok1 := hval 1 23 v1 rfl rfl
  clear hA0 hval0 hval
  obtain ⟨A0, c0, L0, rfl, hc0, hm0, ha0⟩ := ops_in ok0 h0
  obtain ⟨A1, c1, L1, rfl, hc1, hm1, ha1⟩ := bytes_in ok1 h1
  refine (walk W hc0 hm0 ha0 hc1 hm1 ha1).mono fun e W' ⟨he, bel⟩ => ?_
  subst he
  exact ⟨_, rfl, _, _, _, [], _, [], hW', trodAll_mk1 (shut_bool Try.underlying4 _), (trodAll_cons_mk (Below.trod laidOut (by kernel_rfl) (of_decide_eq_true (by kernel_rfl)) h0 bel lt0) (trodAll_cons_mk (Below.trod laidOut (by kernel_rfl) (of_decide_eq_true (by kernel_rfl)) h1 bel lt1) trodAll_mk0)), rfl, bel.frame _, fun h => by cases h⟩

theorem over : Rows.rankTellsRow.holds Try.pinned (OpenSpec.ofChange Rows.rankTellsSpec) :=
  OpenClaim.holds_of_wide 3 Try.f3 rfl rfl rfl rfl rfl rfl rfl ⟨rfl, rfl, rfl, rfl, rfl⟩ rfl rfl rfl rfl rfl (by kernel_rfl) Try.func3 (by kernel_rfl)
    (of_decide_eq_true (by kernel_rfl)) (by unfold Func.isWrapper; first | (rw [if_pos (by decide +kernel)]; kernel_rfl) | (rw [if_neg (by decide +kernel)]; exact ⟨rfl, rfl⟩))
    (fun os started H enc _ => lifted os started H enc)

/-- ████ THE STATEMENT ████ -/
theorem proved : Rows.RankTellsSaid := over
#print axioms proved
end Go.Proofs.Ytdjbcminppomdaa.rankTells
