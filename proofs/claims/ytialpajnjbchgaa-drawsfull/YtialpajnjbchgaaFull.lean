/-
  DrawsFull: for every input the law answers true and leaves its arguments as they were: the walk is typed by hand, the row's step is the guide's template.
  Conditions: none beside the row's own.
-/
import Derived.Test.YtialpajnjbchgaaZeros
import Derived.Test.YtialpajnjbchgaaRows
import Derived.WalkKit
import Derived.ProofKit
import Derived.OpenShut
import Derived.ShutString
namespace Go.Proofs.Ytialpajnjbchgaa.drawsFull
open Go.ChangeShapes Go.WideShapes Go.ChangeAt Go.RowKit
open Go.ChangeMaps (open_string shut_string)
set_option linter.unusedVariables false      -- a walk need not use every 'w<i>' (that an integer argument fits its kind)

theorem own : ownKnob Try.prog.godebug = none := by kernel_rfl

/-! ### STEP 1: THE WALK: the Go text returns true. 'Grown w w'': the world has at most new blocks (Derived/RowKit3.lean). Part the cases AHEAD of 'go_enter' where a test parts the walk; take each callee by a contract of your own. -/
set_option maxHeartbeats 4000000 in
theorem walk (a0 : Int) (a1 : Int) (w0 : (Lit.int .u8 a0).wf = true) (w1 : (Lit.int .u8 a1).wf = true) (w : World) :
    Calls Try.prog 5 #[.int .u8 a0, .int .u8 a1] w fun e w' => e = .returned (.bool true) ∧ Below w.heap.size w w' := by
  have hb0 := bounds_u8 w0
  have hb1 := bounds_u8 w1
  obtain ⟨n, rfl⟩ := Int.eq_ofNat_of_zero_le hb0.1
  obtain ⟨b, rfl⟩ := Int.eq_ofNat_of_zero_le hb1.1
  obtain ⟨r, hr⟩ : ∃ r, r = n % 8 := ⟨_, rfl⟩
  obtain ⟨y, hy⟩ : ∃ y, y = b % 8 := ⟨_, rfl⟩
  have e0 : ((n : Nat) : Int).tmod 8 = (r : Int) := by rw [Int.tmod_eq_emod_of_nonneg (by omega)]; omega
  have e1 : ((b : Nat) : Int).tmod 8 = (y : Int) := by rw [Int.tmod_eq_emod_of_nonneg (by omega)]; omega
  have hn : n < 256 := by omega
  have hbb : b < 256 := by omega
  have hr8 : r < 8 := by omega
  have hy8 : y < 8 := by omega
  obtain ⟨k, hk⟩ : ∃ k, k = 16777212 + r := ⟨_, rfl⟩
  have e2 : (16777212 : Int) + (r : Int) = (k : Int) := by omega
  have hm := run_make_key w k (by omega)
  have hmy := fun W => run_make_key W y (by omega)
  have hN := new_zeros w k
  have HN := Lib.hid hN; clear hN
  have HAW := Lib.hid awake_any
  clear hb0 hb1 w0 w1 hr hy
  have hk2 : k < 16777220 := by omega
  clear hk
  by_cases hkk : k ≤ 16777216
  · by_cases hs : k + y ≤ 16777216
    · go_enter Try.func5, Try.ntmps5
      go_wp2_with fail
      refine HN.out.mono ?_
      rintro e w2 ⟨rfl, v, L, hL, hS, hB⟩
      have HL := Lib.hid (left_len hS.out k (by rw [hL.out]; omega))
      have hf := feed_zeros hS.out y (by rw [hL.out]; omega)
      have HF := Lib.hid hf; clear hf
      go_wp2_with fail
      refine HL.out.mono ?_
      rintro e w3 ⟨rfl, rfl⟩
      go_wp2_with fail
      refine HL.out.mono ?_
      rintro e w3 ⟨rfl, rfl⟩
      go_wp2_with fail
      refine HL.out.mono ?_
      rintro e w3 ⟨rfl, rfl⟩
      go_wp2_with fail
      refine HF.out.mono ?_
      rintro e w4 ⟨rfl, v2, L2, hL2, hS2, hB2⟩
      have HL2 := Lib.hid (left_len hS2.out (k + y) (by rw [hL2.out, hL.out]; omega))
      go_wp2_with fail
      refine HL2.out.mono ?_
      rintro e w5 ⟨rfl, rfl⟩
      go_wp2_with fail
      refine (HAW.out _).mono ?_
      rintro e w6 ⟨rfl, hb6⟩
      go_wp2_with fail
      go_ret
      exact ⟨rfl, (hB.out.trans hB2.out).trans (hb6.mono (Nat.le_trans hB.out.size hB2.out.size))⟩
    · go_enter Try.func5, Try.ntmps5
      go_wp2_with fail
      refine HN.out.mono ?_
      rintro e w2 ⟨rfl, v, L, hL, hS, hB⟩
      have HL := Lib.hid (left_len hS.out k (by rw [hL.out]; omega))
      have hf := feed_much hS.out y (by rw [hL.out]; omega) (by rw [hL.out]; omega)
      have HF := Lib.hid hf; clear hf
      go_wp2_with fail
      refine HL.out.mono ?_
      rintro e w3 ⟨rfl, rfl⟩
      go_wp2_with fail
      refine HL.out.mono ?_
      rintro e w3 ⟨rfl, rfl⟩
      go_wp2_with fail
      refine HL.out.mono ?_
      rintro e w3 ⟨rfl, rfl⟩
      go_wp2_with fail
      refine HF.out.mono ?_
      rintro e w4 ⟨rfl, hS2, hB2⟩
      have HL2 := Lib.hid (left_len hS2.out k (by rw [hL.out]; omega))
      go_wp2_with fail
      refine HL2.out.mono ?_
      rintro e w5 ⟨rfl, rfl⟩
      go_wp2_with fail
      refine (HAW.out _).mono ?_
      rintro e w6 ⟨rfl, hb6⟩
      go_wp2_with fail
      go_ret
      exact ⟨rfl, (hB.out.trans hB2.out).trans (hb6.mono (Nat.le_trans hB.out.size hB2.out.size))⟩
  · by_cases hs : 16777216 + y < 16777217
    · go_enter Try.func5, Try.ntmps5
      go_wp2_with fail
      refine HN.out.mono ?_
      rintro e w2 ⟨rfl, v, L, hL, hS, hB⟩
      have HL := Lib.hid (left_len hS.out 16777216 (by rw [hL.out]; omega))
      have hf := feed_zeros hS.out y (by rw [hL.out]; omega)
      have HF := Lib.hid hf; clear hf
      go_wp2_with fail
      refine HL.out.mono ?_
      rintro e w3 ⟨rfl, rfl⟩
      go_wp2_with fail
      refine HL.out.mono ?_
      rintro e w3 ⟨rfl, rfl⟩
      go_wp2_with fail
      refine HL.out.mono ?_
      rintro e w3 ⟨rfl, rfl⟩
      go_wp2_with fail
      refine HF.out.mono ?_
      rintro e w4 ⟨rfl, v2, L2, hL2, hS2, hB2⟩
      have HL2 := Lib.hid (left_len hS2.out (16777216 + y) (by rw [hL2.out, hL.out]; omega))
      go_wp2_with fail
      refine HL2.out.mono ?_
      rintro e w5 ⟨rfl, rfl⟩
      go_wp2_with fail
      refine (HAW.out _).mono ?_
      rintro e w6 ⟨rfl, hb6⟩
      go_wp2_with fail
      go_ret
      exact ⟨rfl, (hB.out.trans hB2.out).trans (hb6.mono (Nat.le_trans hB.out.size hB2.out.size))⟩
    · go_enter Try.func5, Try.ntmps5
      go_wp2_with fail
      refine HN.out.mono ?_
      rintro e w2 ⟨rfl, v, L, hL, hS, hB⟩
      have HL := Lib.hid (left_len hS.out 16777216 (by rw [hL.out]; omega))
      have hf := feed_much hS.out y (by rw [hL.out]; omega) (by rw [hL.out]; omega)
      have HF := Lib.hid hf; clear hf
      go_wp2_with fail
      refine HL.out.mono ?_
      rintro e w3 ⟨rfl, rfl⟩
      go_wp2_with fail
      refine HL.out.mono ?_
      rintro e w3 ⟨rfl, rfl⟩
      go_wp2_with fail
      refine HL.out.mono ?_
      rintro e w3 ⟨rfl, rfl⟩
      go_wp2_with fail
      refine HF.out.mono ?_
      rintro e w4 ⟨rfl, hS2, hB2⟩
      have HL2 := Lib.hid (left_len hS2.out 16777216 (by rw [hL.out]; omega))
      go_wp2_with fail
      refine HL2.out.mono ?_
      rintro e w5 ⟨rfl, rfl⟩
      go_wp2_with fail
      refine (HAW.out _).mono ?_
      rintro e w6 ⟨rfl, hb6⟩
      go_wp2_with fail
      go_ret
      exact ⟨rfl, (hB.out.trans hB2.out).trans (hb6.mono (Nat.le_trans hB.out.size hB2.out.size))⟩

/-! ### THE ROW's STEP: WRITTEN OUT: LEAVE IT -/
set_option maxRecDepth 100000 in
theorem lifted (os : Os) (started : os.Started) (H : Type) (enc : TypeId × Value → H) :
    ReturnsInHanded {} Try.checked os 5 .any (Rows.drawsFullSpec.pre6 enc Try.prog Try.f5 Rows.drawsFullRow.domain false) (Rows.drawsFullSpec.post enc Try.prog Try.f5 false true false false) := by
  refine returnsInHanded_of_change (C := Try.checked) own started (by kernel_rfl) Try.func5
    (ChangeSpec.witness6 (enc := enc) (C := Try.checked) false ⟨#[], #[.int .u8 0, .int .u8 0], []⟩ 8 (by kernel_rfl) (by kernel_rfl) (by kernel_rfl) (by kernel_rfl)) ?_
  intro W base args ds gs before hval0 hW hcnd _
  have hval : ∀ (j : Nat) t v, Try.f5.params[j]? = some t → args[j]? = some v → Value.okWide Try.prog W .any base t v := hval0
  have hW' := hW
  obtain ⟨p, q, hA0, hV, rfl, hfz, hnd⟩ := hW
  have hA : DataW.TrodAll enc Try.prog W 0 (fun _ => true) true Try.f5.params.toList args.toList ds p := hA0
  rw [Try.params5] at hA hval
  obtain ⟨v0, vs0, d0, ds0, p0, q0, hargs, rfl, rfl, h0, r0⟩ := trodAll_cons hA
  obtain ⟨v1, vs1, d1, ds1, p1, q1, rfl, rfl, rfl, h1, r1⟩ := trodAll_cons r0
  obtain ⟨rfl, rfl, rfl⟩ := trodAll_nil r1
  obtain rfl : args = #[v0, v1] := by cases args; simp_all
  obtain ⟨rfl, rfl⟩ := trodVars_none hV
  obtain ⟨a0, rfl, rfl, rfl, w0⟩ := open_int Try.underlying5 (hval 0 5 v0 rfl rfl) h0
  obtain ⟨a1, rfl, rfl, rfl, w1⟩ := open_int Try.underlying5 (hval 1 5 v1 rfl rfl) h1
  clear hA0 hval0
  refine (walk a0 a1 w0 w1 W).mono fun e W' ⟨he, hg⟩ => ?_
  subst he
  exact ⟨_, rfl, _, _, _, [], _, [], hW', trodAll_mk1 (shut_bool Try.underlying4 _), (trodAll_cons_mk (shut_int Try.underlying5 w0) (trodAll_cons_mk (shut_int Try.underlying5 w1) trodAll_mk0)), rfl, hg.frame _, fun h => by cases h⟩

theorem over : Rows.drawsFullRow.holds Try.pinned (OpenSpec.ofChange Rows.drawsFullSpec) :=
  OpenClaim.holds_of_wide 5 Try.f5 rfl rfl rfl rfl rfl rfl rfl ⟨rfl, rfl, rfl, rfl, rfl⟩ rfl rfl rfl rfl rfl (by kernel_rfl) Try.func5 (by kernel_rfl)
    (of_decide_eq_true (by kernel_rfl)) (by unfold Func.isWrapper; first | (rw [if_pos (by decide +kernel)]; kernel_rfl) | (rw [if_neg (by decide +kernel)]; exact ⟨rfl, rfl⟩))
    (fun os started H enc _ => lifted os started H enc)

/-- ████ THE STATEMENT ████ -/
theorem proved : Rows.DrawsFullSaid :=
  over
#print axioms proved
end Go.Proofs.Ytialpajnjbchgaa.drawsFull
