/-
  WeighHeight: for every input the law answers true and leaves its arguments as they were: the walk is typed by hand, the row's step is the guide's template.
  Conditions: none beside the row's own.
-/
import Derived.Test.YthbjnalcfdfgkaaLeast
import Derived.Test.YthbjnalcfdfgkaaRows
import Derived.WalkKit
import Derived.ProofKit
import Derived.OpenShut
import Derived.ShutString
namespace Go.Proofs.Ythbjnalcfdfgkaa.weighHeight
open Go.ChangeShapes Go.WideShapes Go.ChangeAt Go.RowKit
open Go.ChangeMaps (open_string shut_string)
set_option linter.unusedVariables false      -- a walk need not use every 'w<i>' (that an integer argument fits its kind)

theorem own : ownKnob Try.prog.godebug = none := by kernel_rfl

/-! ### STEP 1: THE WALK: the Go text returns true. 'Grown w w'': the world has at most new blocks (Derived/RowKit3.lean). Part the cases AHEAD of 'go_enter' where a test parts the walk; take each callee by a contract of your own. -/
set_option maxHeartbeats 4000000 in
theorem walk (a0 : Int) (w0 : (Lit.int .i64 a0).wf = true) (w : World) :
    Calls Try.prog 6 #[.int .i64 a0] w fun e w' => e = .returned (.bool true) ∧ Below w.heap.size w w' := by
  clear w0
  have h1 := refHeld_any a0 w
  have h2 := height_any a0 w
  have b1 := hd_le a0
  obtain ⟨k, hk⟩ : ∃ k, k = hd a0 := ⟨_, rfl⟩
  simp only [← hk] at h1 h2 b1
  have hl := fun z => least_any z w
  clear hk
  have H1 := Lib.hid h1; clear h1
  have H2 := Lib.hid h2; clear h2
  have HL := Lib.hid hl; clear hl
  go_enter Try.func6, Try.ntmps6
  go_wp2_with fail
  refine H1.out.mono ?_
  rintro e w' ⟨rfl, rfl⟩
  go_wp2_with fail
  refine H2.out.mono ?_
  rintro e w' ⟨h, h64, hlo, hhi, rfl, rfl⟩
  have h3 := HL.out h
  have h4 := HL.out ((h : Int) + 1)
  rw [show (max 0 (min (h : Int) 64)).toNat = h by omega] at h3
  rw [show (max 0 (min ((h : Int) + 1) 64)).toNat = h + 1 by omega] at h4
  have hc := cube_of (Nat.le_of_lt h64) hlo
  have hc1 := cube_lt b1
  have hc2 := square_lt b1
  obtain ⟨m, hm⟩ : ∃ m, m = low h := ⟨_, rfl⟩
  obtain ⟨m1, hm1⟩ : ∃ m1, m1 = low (h + 1) := ⟨_, rfl⟩
  rw [← hm] at h3 hlo
  rw [← hm1] at h4 hhi
  clear hm hm1
  have H3 := Lib.hid h3; clear h3
  have H4 := Lib.hid h4; clear h4
  clear HL H1 H2
  have HC := Lib.hid hc; clear hc
  have HC1 := Lib.hid hc1; clear hc1
  have HC2 := Lib.hid hc2; clear hc2
  by_cases hs : h < 2
  · go_wp2_with fail
    refine H3.out.mono ?_
    rintro e w' ⟨rfl, rfl⟩
    go_wp2_with fail
    refine H4.out.mono ?_
    rintro e w' ⟨rfl, rfl⟩
    go_wp2_with fail
    refine (awake_any _).mono ?_
    rintro e w' ⟨rfl, rfl⟩
    go_wp2_with fail
    go_ret
    exact ⟨rfl, Below.refl _ _⟩
  · obtain ⟨p, hp⟩ : ∃ p, p = 2 ^ (h - 2) := ⟨_, rfl⟩
    obtain ⟨s2, hs2⟩ : ∃ s2, s2 = (k + 1) * (k + 1) := ⟨_, rfl⟩
    obtain ⟨s3, hs3⟩ : ∃ s3, s3 = s2 * (k + 1) := ⟨_, rfl⟩
    have c0 := HC.out
    have c1 := HC1.out
    have c2 := HC2.out
    rw [← hp, ← hs2, ← hs3] at c0
    rw [← hs2, ← hs3] at c1
    rw [← hs2] at c2
    have e1 : IntKind.u64.wrap ((2 : Int) ^ (h - 2)) = (p : Int) := by
      have e0 : ((2 : Int) ^ (h - 2)) = (p : Int) := by rw [hp, Int.natCast_pow]; rfl
      rw [e0, IntKind.wrap_u64]; omega
    have e2 : IntKind.u64.wrap (((k : Int) + 1) * ((k : Int) + 1)) = (s2 : Int) := by
      have e0 : ((k : Int) + 1) * ((k : Int) + 1) = (s2 : Int) := by rw [hs2, Int.natCast_mul, Int.natCast_add]; rfl
      rw [e0, IntKind.wrap_u64]; omega
    have e3 : IntKind.u64.wrap ((s2 : Int) * ((k : Int) + 1)) = (s3 : Int) := by
      have e0 : (s2 : Int) * ((k : Int) + 1) = (s3 : Int) := by rw [hs3, Int.natCast_mul, Int.natCast_add]; rfl
      rw [e0, IntKind.wrap_u64]; omega
    clear hp hs2 hs3 HC HC1 HC2 c1 c2
    go_wp2_with fail
    refine H3.out.mono ?_
    rintro e w' ⟨rfl, rfl⟩
    go_wp2_with fail
    refine H4.out.mono ?_
    rintro e w' ⟨rfl, rfl⟩
    go_wp2_with fail
    refine (awake_any _).mono ?_
    rintro e w' ⟨rfl, rfl⟩
    go_wp2_with fail
    go_ret
    exact ⟨rfl, Below.refl _ _⟩

/-! ### THE ROW's STEP: WRITTEN OUT: LEAVE IT -/
set_option maxRecDepth 100000 in
theorem lifted (os : Os) (started : os.Started) (H : Type) (enc : TypeId × Value → H) :
    ReturnsInHanded {} Try.checked os 6 .any (Rows.weighHeightSpec.pre6 enc Try.prog Try.f6 Rows.weighHeightRow.domain false) (Rows.weighHeightSpec.post enc Try.prog Try.f6 false true false false) := by
  refine returnsInHanded_of_change (C := Try.checked) own started (by kernel_rfl) Try.func6
    (ChangeSpec.witness6 (enc := enc) (C := Try.checked) false ⟨#[], #[.int .i64 0], []⟩ 8 (by kernel_rfl) (by kernel_rfl) (by kernel_rfl) (by kernel_rfl)) ?_
  intro W base args ds gs before hval0 hW hcnd _
  have hval : ∀ (j : Nat) t v, Try.f6.params[j]? = some t → args[j]? = some v → Value.okWide Try.prog W .any base t v := hval0
  have hW' := hW
  obtain ⟨p, q, hA0, hV, rfl, hfz, hnd⟩ := hW
  have hA : DataW.TrodAll enc Try.prog W 0 (fun _ => true) true Try.f6.params.toList args.toList ds p := hA0
  rw [Try.params6] at hA hval
  obtain ⟨v0, vs0, d0, ds0, p0, q0, hargs, rfl, rfl, h0, r0⟩ := trodAll_cons hA
  obtain ⟨rfl, rfl, rfl⟩ := trodAll_nil r0
  obtain rfl : args = #[v0] := by cases args; simp_all
  obtain ⟨rfl, rfl⟩ := trodVars_none hV
  obtain ⟨a0, rfl, rfl, rfl, w0⟩ := open_int Try.underlying3 (hval 0 3 v0 rfl rfl) h0
  clear hA0 hval0
  refine (walk a0 w0 W).mono fun e W' ⟨he, hg⟩ => ?_
  subst he
  exact ⟨_, rfl, _, _, _, [], _, [], hW', trodAll_mk1 (shut_bool Try.underlying4 _), (trodAll_cons_mk (shut_int Try.underlying3 w0) trodAll_mk0), rfl, hg.frame _, fun h => by cases h⟩

theorem over : Rows.weighHeightRow.holds Try.pinned (OpenSpec.ofChange Rows.weighHeightSpec) :=
  OpenClaim.holds_of_wide 6 Try.f6 rfl rfl rfl rfl rfl rfl rfl ⟨rfl, rfl, rfl, rfl, rfl⟩ rfl rfl rfl rfl rfl (by kernel_rfl) Try.func6 (by kernel_rfl)
    (of_decide_eq_true (by kernel_rfl)) (by unfold Func.isWrapper; first | (rw [if_pos (by decide +kernel)]; kernel_rfl) | (rw [if_neg (by decide +kernel)]; exact ⟨rfl, rfl⟩))
    (fun os started H enc _ => lifted os started H enc)

/-- ████ THE STATEMENT ████ -/
theorem proved : Rows.WeighHeightSaid :=
  over
#print axioms proved
end Go.Proofs.Ythbjnalcfdfgkaa.weighHeight
