/-
  MeterWithin: for every input the law answers true and leaves its arguments as they were: the walk is typed by hand, the row's step is the guide's template.
  Conditions: none beside the row's own.
-/
import Derived.Test.YtlpngoaachdjhaaOpen
import Derived.Deep.RegionHeld3
import Derived.Deep.DeepCutAuto
import Derived.Test.YtlpngoaachdjhaaOpen
import Derived.Test.YtlpngoaachdjhaaRows
import Derived.WalkKit
import Derived.ProofKit
import Derived.OpenShut
import Derived.ShutString
import Derived.ChangeOld
import Derived.Below
namespace Go.Proofs.Ytlpngoaachdjhaa.meterWithin
open Go.ChangeShapes Go.WideShapes Go.ChangeAt Go.RowKit
set_option linter.unusedVariables false
theorem own : ownKnob Try.prog.godebug = none := by kernel_rfl
theorem laidOut : laidOutB Try.prog = true := by kernel_rfl
set_option maxRecDepth 100000 in
set_option maxHeartbeats 4000000 in
theorem walk {x0 y0 : Int} {z1 : Int} (w : World) (hxl0 : -9223372036854775808 ≤ x0) (hxu0 : x0 ≤ 9223372036854775807) (hyl0 : -9223372036854775808 ≤ y0) (hyu0 : y0 ≤ 9223372036854775807) (hl1 : -9223372036854775808 ≤ z1) (hu1 : z1 ≤ 9223372036854775807) :
    Calls Try.prog 5 #[.agg #[.int .i64 x0, .int .i64 y0], .int .i64 z1] w fun e w' => e = .returned (.bool true) ∧ Below w.heap.size w w' := by
  obtain ⟨b, hb⟩ : ∃ b, b = bnd z1 := ⟨_, rfl⟩
  obtain ⟨k, hk⟩ : ∃ k, k = held z1 := ⟨_, rfl⟩
  have h8 := fun W => held_any z1 W
  have h7 := fun W => refBnd_any z1 W
  have h13 := fun W g (h : Mtr W g x0 y0) => within_any h z1 b hb
  simp only [← hk] at h8 h7
  simp only [← hb] at h7
  have H8 := Lib.hid h8; clear h8
  have H7 := Lib.hid h7; clear h7
  have HAW := Lib.hid awake_any
  clear hb hk hl1 hu1 hxl0 hxu0 hyl0 hyu0
  obtain ⟨W0, hW0⟩ : ∃ W, W = w.alloc (.cells #[.int .i64 x0, .int .i64 y0] 27) := ⟨_, rfl⟩
  have hb0 : Below w.heap.size w W0 := by rw [hW0]; exact (Below.refl _ _).alloc (Nat.le_refl _) _
  have hm0 : Mtr W0 w.heap.size x0 y0 := by rw [hW0]; exact heap_alloc_new w _
  have keep : ∀ X, Below W0.heap.size W0 X → (X.cell? ⟨w.heap.size, 0, none⟩ = some (.int .i64 x0) ∧ X.cell? ⟨w.heap.size, 1, none⟩ = some (.int .i64 y0)) := fun X hX => ⟨(hm0.below hX).cells.1, (hm0.below hX).cells.2.1⟩
  have HW0 := Lib.hid hW0; clear hW0
  have HB0 := Lib.hid hb0; clear hb0
  have HM0 := Lib.hid hm0; clear hm0
  have KEEP := Lib.hid keep; clear keep
  have hz0 : Below W0.heap.size W0 W0.drew := (Below.refl _ _).drew
  rcases Int.lt_or_le (b : Int) x0 with h1 | h1
  · have d1 : decide (x0 ≤ (b : Int)) = false := by rw [decide_eq_false_iff_not]; omega
    clear h1
    unfold inB at h13
    simp only [d1, Bool.false_and] at h13
    have H13 := Lib.hid h13; clear h13
    obtain ⟨k0, k1⟩ := KEEP.out _ hz0
    go_enter Try.func5, Try.ntmps5
    go_wp2_with fail
    rw [← HW0.out]
    go_cut [5] (fun s5 wx => s5 = .bool false ∧ Hid (Below W0.heap.size W0 wx))
    case first =>
      first | (go_region_with (first
        | (go_at_call 8; refine (H8.out _).mono ?_; rintro e w' ⟨rfl, rfl⟩)
        | (go_at_call 7; refine (H7.out _).mono ?_; rintro e wB ⟨rfl, hB⟩; have hzB := hz0.trans (hB.mono hz0.size); have HZ := Lib.hid hzB; clear hB hzB; obtain ⟨k2, k3⟩ := KEEP.out _ HZ.out))) | fail
      all_goals
        go_wp2_with fail
        go_meet
        exact ⟨rfl, HZ.out⟩
    case rest =>
      obtain ⟨rfl, hzB⟩ := hcut
      clear k0 k1
      go_wp2_with fail
      refine (H13.out _ _ (HM0.out.below hzB.out)).mono ?_
      rintro e w2 ⟨rfl, n, rfl⟩
      go_wp2_with fail
      refine (HAW.out _).mono ?_
      rintro e w3 ⟨rfl, rfl⟩
      go_wp2_with fail
      go_ret
      exact ⟨rfl, below_then HB0.out (below_drewN hzB.out n)⟩
  · have d1 : decide (x0 ≤ (b : Int)) = true := by rw [decide_eq_true_iff]; omega
    rcases Int.lt_or_le x0 y0 with h2 | h2
    · have d2 : decide (y0 ≤ x0) = false := by rw [decide_eq_false_iff_not]; omega
      clear h1 h2
      unfold inB at h13
      simp only [d1, d2, Bool.true_and] at h13
      have H13 := Lib.hid h13; clear h13
      go_enter Try.func5, Try.ntmps5
      go_wp2_with fail
      rw [← HW0.out]
      first | (go_region_held3 (fun X => X.cell? ⟨w.heap.size, 0, none⟩ = some (.int .i64 x0) ∧ X.cell? ⟨w.heap.size, 1, none⟩ = some (.int .i64 y0)) (first | exact KEEP.out _ hz0 | exact KEEP.out _ hzB) (first
        | (go_at_call 8; refine (H8.out _).mono ?_; rintro e w' ⟨rfl, rfl⟩)
        | (go_at_call 7; refine (H7.out _).mono ?_; rintro e wB ⟨rfl, hB⟩; have hzB := hz0.trans (hB.mono hz0.size)))) | fail
      all_goals
        go_wp2_with fail
        refine (H13.out _ _ (HM0.out.below hzB)).mono ?_
        rintro e w2 ⟨rfl, n, rfl⟩
        go_wp2_with fail
        refine (HAW.out _).mono ?_
        rintro e w3 ⟨rfl, rfl⟩
        go_wp2_with fail
        go_ret
        exact ⟨rfl, below_then HB0.out (below_drewN hzB n)⟩
    · have d2 : decide (y0 ≤ x0) = true := by rw [decide_eq_true_iff]; omega
      clear h1 h2
      unfold inB at h13
      simp only [d1, d2, Bool.true_and] at h13
      have H13 := Lib.hid h13; clear h13
      go_enter Try.func5, Try.ntmps5
      go_wp2_with fail
      rw [← HW0.out]
      first | (go_region_held3 (fun X => X.cell? ⟨w.heap.size, 0, none⟩ = some (.int .i64 x0) ∧ X.cell? ⟨w.heap.size, 1, none⟩ = some (.int .i64 y0)) (first | exact KEEP.out _ hz0 | exact KEEP.out _ hzB) (first
        | (go_at_call 8; refine (H8.out _).mono ?_; rintro e w' ⟨rfl, rfl⟩)
        | (go_at_call 7; refine (H7.out _).mono ?_; rintro e wB ⟨rfl, hB⟩; have hzB := hz0.trans (hB.mono hz0.size)))) | fail
      all_goals
        go_wp2_with fail
        refine (H13.out _ _ (HM0.out.below hzB)).mono ?_
        rintro e w2 ⟨rfl, n, rfl⟩
        go_wp2_with fail
        refine (HAW.out _).mono ?_
        rintro e w3 ⟨rfl, rfl⟩
        go_wp2_with fail
        go_ret
        exact ⟨rfl, below_then HB0.out (below_drewN hzB n)⟩
/-! ### THE ROW's STEP -/
set_option maxRecDepth 100000 in
theorem lifted (os : Os) (started : os.Started) (H : Type) (enc : TypeId × Value → H) :
    ReturnsInHanded {} Try.checked os 5 .any (Rows.meterWithinSpec.pre6 enc Try.prog Try.f5 Rows.meterWithinRow.domain false) (Rows.meterWithinSpec.post enc Try.prog Try.f5 false true false false) := by
  refine returnsInHanded_of_change (C := Try.checked) own started (by kernel_rfl) Try.func5
    (ChangeSpec.witness6 (enc := enc) (C := Try.checked) false ⟨#[], #[.agg #[.int .i64 0, .int .i64 0], .int .i64 0], []⟩ 8 (by kernel_rfl) (by kernel_rfl) (by kernel_rfl) (by kernel_rfl)) ?_
  intro W base args ds gs before hval0 hW hcnd _
  have hval : ∀ (j : Nat) t v, Try.f5.params[j]? = some t → args[j]? = some v → Value.okWide Try.prog W .any base t v := hval0
  have hW' := hW
  obtain ⟨p, q, hA0, hV, rfl, hfz, hnd⟩ := hW
  have hA : DataW.TrodAll enc Try.prog W 0 (fun _ => true) true Try.f5.params.toList args.toList ds p := hA0
  rw [Try.params5] at hA hval
  obtain ⟨v0, vs0, d0, ds0, p0, q0, hargs, rfl, rfl, h0, r0⟩ := trodAll_cons hA
  obtain ⟨v1, vs1, d1, ds1, p1, q1, rfl, rfl, rfl, h1, r1⟩ := trodAll_cons r0
  obtain ⟨rfl, rfl, rfl⟩ := trodAll_nil r1
  obtain rfl : args = #[v0, v1] := by cases args; simp_all
  obtain ⟨rfl, rfl⟩ := trodVars_none hV
  have lt0 : ∀ x ∈ p0, x.block < W.heap.size := by obtain ⟨m, hm⟩ := h0; exact DataW.trod_lt m _ _ _ hm
  have ok0 := hval 0 27 v0 rfl rfl
  have lt1 : ∀ x ∈ p1, x.block < W.heap.size := by obtain ⟨m, hm⟩ := h1; exact DataW.trod_lt m _ _ _ hm
  have ok1 := hval 1 3 v1 rfl rfl
  clear hA0 hval0 hval
  obtain ⟨x0, y0, rfl, hxl0, hxu0, hyl0, hyu0⟩ := meter_open ok0 h0
  obtain ⟨z1, rfl, hl1, hu1⟩ := int_open ok1 h1
  refine (walk W hxl0 hxu0 hyl0 hyu0 hl1 hu1).mono fun e W' ⟨he, bel⟩ => ?_
  subst he
  exact ⟨_, rfl, _, _, _, [], _, [], hW', trodAll_mk1 (shut_bool Try.underlying4 _), (trodAll_cons_mk (Below.trod laidOut (by kernel_rfl) (of_decide_eq_true (by kernel_rfl)) h0 bel lt0) (trodAll_cons_mk (Below.trod laidOut (by kernel_rfl) (of_decide_eq_true (by kernel_rfl)) h1 bel lt1) trodAll_mk0)), rfl, bel.frame _, fun h => by cases h⟩

theorem over : Rows.meterWithinRow.holds Try.pinned (OpenSpec.ofChange Rows.meterWithinSpec) :=
  OpenClaim.holds_of_wide 5 Try.f5 rfl rfl rfl rfl rfl rfl rfl ⟨rfl, rfl, rfl, rfl, rfl⟩ rfl rfl rfl rfl rfl (by kernel_rfl) Try.func5 (by kernel_rfl)
    (of_decide_eq_true (by kernel_rfl)) (by unfold Func.isWrapper; first | (rw [if_pos (by decide +kernel)]; kernel_rfl) | (rw [if_neg (by decide +kernel)]; exact ⟨rfl, rfl⟩))
    (fun os started H enc _ => lifted os started H enc)

/-- ████ THE STATEMENT ████ -/
theorem proved : Rows.MeterWithinSaid := over
#print axioms proved
end Go.Proofs.Ytlpngoaachdjhaa.meterWithin
