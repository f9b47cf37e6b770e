/-
  WeighLeast: for every input the law answers true and leaves its arguments as they were: the walk is typed by hand, the row's step is the guide's template.
  Conditions: none beside the row's own.
-/
import Derived.Test.YthbjnalcfdfgkaaLeast
import Derived.Test.YthbjnalcfdfgkaaRows
import Derived.WalkKit
import Derived.ProofKit
import Derived.OpenShut
import Derived.ShutString
namespace Go.Proofs.Ythbjnalcfdfgkaa.weighLeast
open Go.ChangeShapes Go.WideShapes Go.ChangeAt Go.RowKit
open Go.ChangeMaps (open_string shut_string)
set_option linter.unusedVariables false      -- a walk need not use every 'w<i>' (that an integer argument fits its kind)

theorem own : ownKnob Try.prog.godebug = none := by kernel_rfl

/-! ### STEP 1: THE WALK: the Go text returns true. 'Grown w w'': the world has at most new blocks (Derived/RowKit3.lean). Part the cases AHEAD of 'go_enter' where a test parts the walk; take each callee by a contract of your own. -/
set_option maxHeartbeats 4000000 in
theorem walk (a0 : Int) (w0 : (Lit.int .i64 a0).wf = true) (w : World) :
    Calls Try.prog 5 #[.int .i64 a0] w fun e w' => e = .returned (.bool true) ∧ Below w.heap.size w w' := by
  clear w0
  have hl := fun z => least_any z w
  rcases Int.lt_or_le a0 0 with h1 | h1
  · have h2 := hl a0
    rw [show (max 0 (min a0 64)).toNat = 0 by omega, show low 0 = 0 from rfl] at h2
    have H2 := Lib.hid h2; clear h2 hl
    go_enter Try.func5, Try.ntmps5
    go_wp2_with fail
    refine H2.out.mono ?_
    rintro e w' ⟨rfl, rfl⟩
    go_wp2_with fail
    refine (awake_any _).mono ?_
    rintro e w' ⟨rfl, rfl⟩
    go_wp2_with fail
    go_ret
    exact ⟨rfl, Below.refl _ _⟩
  · rcases Int.lt_or_le 64 a0 with h2 | h2
    · have h3 := hl a0
      have h4 := hl 64
      rw [show (max 0 (min a0 64)).toNat = 64 by omega] at h3
      rw [show (max 0 (min (64 : Int) 64)).toNat = 64 by decide] at h4
      obtain ⟨m, hm⟩ : ∃ m, m = low 64 := ⟨_, rfl⟩
      rw [← hm] at h3 h4
      have H3 := Lib.hid h3; clear h3
      have H4 := Lib.hid h4; clear h4 hl hm
      go_enter Try.func5, Try.ntmps5
      go_wp2_with fail
      refine H3.out.mono ?_
      rintro e w' ⟨rfl, rfl⟩
      go_wp2_with fail
      refine H4.out.mono ?_
      rintro e w' ⟨rfl, rfl⟩
      go_wp2_with fail
      refine (awake_any _).mono ?_
      rintro e w' ⟨rfl, rfl⟩
      go_wp2_with fail
      go_ret
      exact ⟨rfl, Below.refl _ _⟩
    · obtain ⟨n, rfl⟩ := Int.eq_ofNat_of_zero_le h1
      have h3 := hl n
      rw [show (max 0 (min (n : Int) 64)).toNat = n by omega] at h3
      by_cases h5 : n ≤ 30
      · have h4 := refLeast_any n h5 w
        obtain ⟨m, hm⟩ : ∃ m, m = low n := ⟨_, rfl⟩
        rw [← hm] at h3 h4
        have H3 := Lib.hid h3; clear h3
        have H4 := Lib.hid h4; clear h4 hl hm h1 h2
        go_enter Try.func5, Try.ntmps5
        go_wp2_with fail
        refine H3.out.mono ?_
        rintro e w' ⟨rfl, rfl⟩
        go_wp2_with fail
        refine H4.out.mono ?_
        rintro e w' ⟨rfl, rfl⟩
        go_wp2_with fail
        refine (awake_any _).mono ?_
        rintro e w' ⟨rfl, rfl⟩
        go_wp2_with fail
        go_ret
        exact ⟨rfl, Below.refl _ _⟩
      · obtain ⟨j, rfl⟩ : ∃ j, n = j + 1 := ⟨n - 1, by omega⟩
        have h4 := hl j
        rw [show (max 0 (min (j : Int) 64)).toNat = j by omega] at h4
        have hb := low_bound (show j ≤ 64 by omega)
        have hs := low_step j
        obtain ⟨m, hm⟩ : ∃ m, m = low j := ⟨_, rfl⟩
        obtain ⟨m1, hm1⟩ : ∃ m1, m1 = low (j + 1) := ⟨_, rfl⟩
        rw [← hm, ← hm1] at hs
        rw [← hm] at h4 hb
        rw [← hm1] at h3
        obtain ⟨i, hi⟩ : ∃ i : Int, i = ((j + 1 : Nat) : Int) := ⟨_, rfl⟩
        have hij : (j : Int) = i - 1 := by omega
        have h6 : ¬ i ≤ 30 := by omega
        have h7 : i ≤ 64 := by omega
        rw [hij] at h4
        simp only [← hi] at h3 ⊢
        have hlt : m < m1 := by omega
        have he : (1 + (m : Int)) + ((m : Int) + 1 + 2) / 3 - 1 = (m1 : Int) := by omega
        have H3 := Lib.hid h3; clear h3
        have H4 := Lib.hid h4; clear h4
        clear hs hl hm hm1 hi hij h1 h2 h5
        go_enter Try.func5, Try.ntmps5
        go_wp2_with fail
        refine H4.out.mono ?_
        rintro e w' ⟨rfl, rfl⟩
        go_wp2_with fail
        refine H3.out.mono ?_
        rintro e w' ⟨rfl, rfl⟩
        go_wp2_with fail
        refine H3.out.mono ?_
        rintro e w' ⟨rfl, rfl⟩
        go_wp2_with fail
        refine (awake_any _).mono ?_
        rintro e w' ⟨rfl, rfl⟩
        go_wp2_with fail
        go_ret
        exact ⟨rfl, Below.refl _ _⟩

/-! ### THE ROW's STEP: WRITTEN OUT: LEAVE IT -/
set_option maxRecDepth 100000 in
theorem lifted (os : Os) (started : os.Started) (H : Type) (enc : TypeId × Value → H) :
    ReturnsInHanded {} Try.checked os 5 .any (Rows.weighLeastSpec.pre6 enc Try.prog Try.f5 Rows.weighLeastRow.domain false) (Rows.weighLeastSpec.post enc Try.prog Try.f5 false true false false) := by
  refine returnsInHanded_of_change (C := Try.checked) own started (by kernel_rfl) Try.func5
    (ChangeSpec.witness6 (enc := enc) (C := Try.checked) false ⟨#[], #[.int .i64 0], []⟩ 8 (by kernel_rfl) (by kernel_rfl) (by kernel_rfl) (by kernel_rfl)) ?_
  intro W base args ds gs before hval0 hW hcnd _
  have hval : ∀ (j : Nat) t v, Try.f5.params[j]? = some t → args[j]? = some v → Value.okWide Try.prog W .any base t v := hval0
  have hW' := hW
  obtain ⟨p, q, hA0, hV, rfl, hfz, hnd⟩ := hW
  have hA : DataW.TrodAll enc Try.prog W 0 (fun _ => true) true Try.f5.params.toList args.toList ds p := hA0
  rw [Try.params5] at hA hval
  obtain ⟨v0, vs0, d0, ds0, p0, q0, hargs, rfl, rfl, h0, r0⟩ := trodAll_cons hA
  obtain ⟨rfl, rfl, rfl⟩ := trodAll_nil r0
  obtain rfl : args = #[v0] := by cases args; simp_all
  obtain ⟨rfl, rfl⟩ := trodVars_none hV
  obtain ⟨a0, rfl, rfl, rfl, w0⟩ := open_int Try.underlying3 (hval 0 3 v0 rfl rfl) h0
  clear hA0 hval0
  refine (walk a0 w0 W).mono fun e W' ⟨he, hg⟩ => ?_
  subst he
  exact ⟨_, rfl, _, _, _, [], _, [], hW', trodAll_mk1 (shut_bool Try.underlying4 _), (trodAll_cons_mk (shut_int Try.underlying3 w0) trodAll_mk0), rfl, hg.frame _, fun h => by cases h⟩

theorem over : Rows.weighLeastRow.holds Try.pinned (OpenSpec.ofChange Rows.weighLeastSpec) :=
  OpenClaim.holds_of_wide 5 Try.f5 rfl rfl rfl rfl rfl rfl rfl ⟨rfl, rfl, rfl, rfl, rfl⟩ rfl rfl rfl rfl rfl (by kernel_rfl) Try.func5 (by kernel_rfl)
    (of_decide_eq_true (by kernel_rfl)) (by unfold Func.isWrapper; first | (rw [if_pos (by decide +kernel)]; kernel_rfl) | (rw [if_neg (by decide +kernel)]; exact ⟨rfl, rfl⟩))
    (fun os started H enc _ => lifted os started H enc)

/-- ████ THE STATEMENT ████ -/
theorem proved : Rows.WeighLeastSaid :=
  over
#print axioms proved
end Go.Proofs.Ythbjnalcfdfgkaa.weighLeast
