/-
  RankAt: for every input the law answers true and leaves its arguments as they were: the walk is typed by hand, the row's step is the guide's template.
  Conditions: none beside the row's own.
-/
import Derived.Test.YtdjbcminppomdaaLaws
import Derived.Test.YtdjbcminppomdaaIn
import Derived.Test.YtdjbcminppomdaaRows
import Derived.WalkKit
import Derived.ProofKit
import Derived.OpenShut
import Derived.ShutString
import Derived.ChangeOld
import Derived.Below
namespace Go.Proofs.Ytdjbcminppomdaa.rankAt
open Go.ChangeShapes Go.WideShapes Go.ChangeAt Go.RowKit
set_option linter.unusedVariables false
theorem own : ownKnob Try.prog.godebug = none := by kernel_rfl
theorem laidOut : laidOutB Try.prog = true := by kernel_rfl
set_option maxRecDepth 100000 in
set_option maxHeartbeats 4000000 in
theorem walk {A0 : Option Addr} {c0 : Nat} {L0 : List Opn} {z1 : Int} (w : World) (hc0 : L0.length ≤ c0) (hm0 : c0 ≤ maxLen) (ha0 : Ocs w A0 L0) (hl1 : -9223372036854775808 ≤ z1) (hu1 : z1 ≤ 9223372036854775807) :
    Calls Try.prog 4 #[.slice A0 L0.length c0, .int .i64 z1] w fun e w' => e = .returned (.bool true) ∧ Below w.heap.size w w' := by
  have hsm := fine_any ha0 c0 80 (by decide) (Nat.le_trans hc0 hm0)
  have HAW := Lib.hid awake_any
  cases hs : (decide (L0.length ≤ 80) && tinyO L0) with
  | false =>
    rw [hs] at hsm
    have HSM := Lib.hid hsm; clear hsm
    clear ha0 hs hc0 hm0
    go_enter Try.func4, Try.ntmps4
    go_wp2_with fail
    refine HSM.out.mono ?_
    rintro e w1 ⟨rfl, hb⟩
    have HB := Lib.hid hb; clear hb
    go_wp2_with fail
    refine (HAW.out _).mono ?_
    rintro e w2 ⟨rfl, hb⟩
    have HB2 := Lib.hid hb; clear hb
    go_wp2_with fail
    go_ret
    exact ⟨rfl, below_then HB.out HB2.out⟩
  | true =>
    rw [hs] at hsm
    obtain ⟨hlen, htiny⟩ : L0.length ≤ 80 ∧ tinyO L0 = true := by simpa using hs
    have HSM := Lib.hid hsm; clear hsm
    have HMD := Lib.hid (fun W (h : Below w.heap.size w W) => made_tell c0 (ha0.below h) hlen htiny)
    have HZ := Lib.hid (And.intro hl1 (show z1 < 9223372036854775808 by omega))
    clear hs hc0 hm0 htiny ha0 hlen hl1 hu1
    go_enter Try.func4, Try.ntmps4
    go_wp2_with fail
    refine HSM.out.mono ?_
    rintro e w0 ⟨rfl, hb⟩
    have KM := Lib.hid (HMD.out w0 hb)
    have HB := Lib.hid hb; clear hb
    clear HMD HSM
    go_wp2_with fail
    refine KM.out.mono ?_
    rintro e w1 ⟨p, A, c, n, rfl, hn, hn80, ht, hb1⟩
    have HT := Lib.hid ht; clear ht
    have HN := Lib.hid hn; clear hn
    have HB1 := Lib.hid (below_then HB.out hb1); clear hb1
    have K1 := Lib.hid (HT.out.ta w1 z1 (Below.refl _ _) HZ.out.1 HZ.out.2)
    clear KM HB
    go_wp2_with fail
    refine K1.out.mono ?_
    rintro e w2 ⟨⟨ka, kc, va, vc, x1, x2, is, rfl, hp⟩, hb2⟩
    obtain ⟨w3, hw3, b3, z3, k3⟩ := box_pair w2 ka va x1 kc x2 vc
    have b13 := below_then hb2 b3
    have K2 := Lib.hid (HT.out.mi w3 b13)
    have P1 := Lib.hid (hp.below b3)
    have HW3 := Lib.hid hw3; clear hw3
    have B13 := Lib.hid b13; clear b13
    have C3 := Lib.hid k3; clear k3
    clear hp hb2 b3 z3 K1
    go_wp2_with fail
    rw [← HW3.out]
    refine K2.out.mono ?_
    rintro e w4 ⟨⟨ka2, kc2, va2, vc2, y1, y2, is2, rfl, hp⟩, hb4⟩
    obtain ⟨w5, hw5, b5, z5, k5⟩ := box_pair w4 ka2 va2 y1 kc2 y2 vc2
    have b35 := below_then hb4 b5
    have b15 := below_then B13.out b35
    have K3 := Lib.hid (HT.out.mx w5 b15)
    have P1' := Lib.hid (P1.out.below b35)
    have P2 := Lib.hid (hp.below b5)
    have C3' := Lib.hid (fun W (h : Below w5.heap.size w5 W) => C3.out W (below_then b35 h))
    have HW5 := Lib.hid hw5; clear hw5
    have B15 := Lib.hid b15; clear b15
    have C5 := Lib.hid k5; clear k5
    clear hp hb4 b5 z5 K2 P1 C3 B13 HW3 b35
    go_wp2_with fail
    rw [← HW5.out]
    refine K3.out.mono ?_
    rintro e w6 ⟨⟨ka3, kc3, va3, vc3, v1, v2, is3, rfl, hp⟩, hb6⟩
    obtain ⟨w7, hw7, b7, z7, k7⟩ := box_pair w6 ka3 va3 v1 kc3 v2 vc3
    have b57 := below_then hb6 b7
    have b17 := below_then B15.out b57
    have hW : ∀ W, Below w7.heap.size w7 W → Pt (nth (plays L0) z1) W ka va x1 x2 is ∧ Pt (nth (plays L0) 0) W ka2 va2 y1 y2 is2 ∧ Pt (nth (plays L0) ((n : Int) - 1)) W ka3 va3 v1 v2 is3 ∧ Below w1.heap.size w1 W := fun W h => ⟨(P1'.out.below b57).below h, (P2.out.below b57).below h, (hp.below b7).below h, below_then b17 h⟩
    have C3 := Lib.hid (fun W (h : Below w7.heap.size w7 W) => C3'.out W (below_then b57 h))
    have C5' := Lib.hid (fun W (h : Below w7.heap.size w7 W) => C5.out W (below_then b57 h))
    have C7 := Lib.hid k7; clear k7
    have HW7 := Lib.hid hw7; clear hw7
    have HALL := Lib.hid hW; clear hW
    obtain ⟨d0, d1⟩ := C3.out w7 (Below.refl _ _)
    have K4 := Lib.hid (HT.out.ra w7 _ z1 ka kc va vc x1 x2 is b17 rfl (HALL.out w7 (Below.refl _ _)).1 HZ.out.1 HZ.out.2)
    have B17 := Lib.hid b17; clear b17
    clear hp hb6 b7 z7 K3 P1' P2 C3' C5 B15 HW5 b57
    obtain ⟨f0, f1⟩ := C5'.out w7 (Below.refl _ _)
    obtain ⟨g0, g1⟩ := C7.out w7 (Below.refl _ _)
    go_wp2_with (rw [← HW7.out])
    refine K4.out.mono ?_
    rintro e w8 ⟨rfl, hb8⟩
    have q8 := HALL.out w8 hb8
    have K5 := Lib.hid (HT.out.ra w8 _ 0 ka2 kc2 va2 vc2 y1 y2 is2 q8.2.2.2 rfl q8.2.1 (by omega) (by omega))
    clear d0 d1 f0 f1 g0 g1 q8 K4
    obtain ⟨f0, f1⟩ := C5'.out w8 hb8
    have HB8 := Lib.hid hb8; clear hb8
    go_wp2_with fail
    refine K5.out.mono ?_
    rintro e w9 ⟨rfl, hb9⟩
    have hb9' := below_then HB8.out hb9
    have q9 := HALL.out w9 hb9'
    have K6 := Lib.hid (HT.out.ra w9 _ ((n : Int) - 1) ka3 kc3 va3 vc3 v1 v2 is3 q9.2.2.2 rfl q9.2.2.1 (by omega) (by omega))
    clear f0 f1 q9 K5
    obtain ⟨g0, g1⟩ := C7.out w9 hb9'
    have HB9 := Lib.hid hb9'; clear hb9' hb9
    go_wp2_with fail
    refine K6.out.mono ?_
    rintro e w10 ⟨rfl, hb10⟩
    have HB10 := Lib.hid (below_then HB9.out hb10); clear hb10
    clear g0 g1 K6
    go_wp2_with fail
    refine (HAW.out _).mono ?_
    rintro e w11 ⟨rfl, hb11⟩
    have HB11 := Lib.hid hb11; clear hb11
    go_wp2_with fail
    go_ret
    exact ⟨rfl, below_then HB1.out (below_then B17.out (below_then HB10.out HB11.out))⟩
/-! ### THE ROW's STEP -/
set_option maxRecDepth 100000 in
theorem lifted (os : Os) (started : os.Started) (H : Type) (enc : TypeId × Value → H) :
    ReturnsInHanded {} Try.checked os 4 .any (Rows.rankAtSpec.pre6 enc Try.prog Try.f4 Rows.rankAtRow.domain false) (Rows.rankAtSpec.post enc Try.prog Try.f4 false true false false) := by
  refine returnsInHanded_of_change (C := Try.checked) own started (by kernel_rfl) Try.func4
    (ChangeSpec.witness6 (enc := enc) (C := Try.checked) false ⟨#[], #[.slice none 0 0, .int .i64 0], []⟩ 8 (by kernel_rfl) (by kernel_rfl) (by kernel_rfl) (by kernel_rfl)) ?_
  intro W base args ds gs before hval0 hW hcnd _
  have hval : ∀ (j : Nat) t v, Try.f4.params[j]? = some t → args[j]? = some v → Value.okWide Try.prog W .any base t v := hval0
  have hW' := hW
  obtain ⟨p, q, hA0, hV, rfl, hfz, hnd⟩ := hW
  have hA : DataW.TrodAll enc Try.prog W 0 (fun _ => true) true Try.f4.params.toList args.toList ds p := hA0
  rw [Try.params4] at hA hval
  obtain ⟨v0, vs0, d0, ds0, p0, q0, hargs, rfl, rfl, h0, r0⟩ := trodAll_cons hA
  obtain ⟨v1, vs1, d1, ds1, p1, q1, rfl, rfl, rfl, h1, r1⟩ := trodAll_cons r0
  obtain ⟨rfl, rfl, rfl⟩ := trodAll_nil r1
  obtain rfl : args = #[v0, v1] := by cases args; simp_all
  obtain ⟨rfl, rfl⟩ := trodVars_none hV
  have lt0 : ∀ x ∈ p0, x.block < W.heap.size := by obtain ⟨m, hm⟩ := h0; exact DataW.trod_lt m _ _ _ hm
  have ok0 := hval 0 22 v0 rfl rfl
  have lt1 : ∀ x ∈ p1, x.block < W.heap.size := by obtain ⟨m, hm⟩ := h1; exact DataW.trod_lt m _ _ _ hm
  have ok1 := hval 1 3 v1 rfl rfl
  clear hA0 hval0 hval
  obtain ⟨A0, c0, L0, rfl, hc0, hm0, ha0⟩ := ops_in ok0 h0
  obtain ⟨z1, rfl, hl1, hu1⟩ := int_in ok1 h1
  refine (walk W hc0 hm0 ha0 hl1 hu1).mono fun e W' ⟨he, bel⟩ => ?_
  subst he
  exact ⟨_, rfl, _, _, _, [], _, [], hW', trodAll_mk1 (shut_bool Try.underlying4 _), (trodAll_cons_mk (Below.trod laidOut (by kernel_rfl) (of_decide_eq_true (by kernel_rfl)) h0 bel lt0) (trodAll_cons_mk (Below.trod laidOut (by kernel_rfl) (of_decide_eq_true (by kernel_rfl)) h1 bel lt1) trodAll_mk0)), rfl, bel.frame _, fun h => by cases h⟩

theorem over : Rows.rankAtRow.holds Try.pinned (OpenSpec.ofChange Rows.rankAtSpec) :=
  OpenClaim.holds_of_wide 4 Try.f4 rfl rfl rfl rfl rfl rfl rfl ⟨rfl, rfl, rfl, rfl, rfl⟩ rfl rfl rfl rfl rfl (by kernel_rfl) Try.func4 (by kernel_rfl)
    (of_decide_eq_true (by kernel_rfl)) (by unfold Func.isWrapper; first | (rw [if_pos (by decide +kernel)]; kernel_rfl) | (rw [if_neg (by decide +kernel)]; exact ⟨rfl, rfl⟩))
    (fun os started H enc _ => lifted os started H enc)

/-- ████ THE STATEMENT ████ -/
theorem proved : Rows.RankAtSaid := over
#print axioms proved
end Go.Proofs.Ytdjbcminppomdaa.rankAt
