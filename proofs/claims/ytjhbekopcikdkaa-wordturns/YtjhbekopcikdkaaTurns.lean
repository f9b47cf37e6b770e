/-
  WordTurns: for every input the law answers true and leaves its arguments as they were: the walk is typed by hand, the row's step is the guide's template.
  Conditions: none beside the row's own.
-/
import Derived.Test.YtjhbekopcikdkaaWalks
import Derived.Test.YtjhbekopcikdkaaRows
import Derived.WalkKit
import Derived.ProofKit
import Derived.OpenShut
import Derived.ShutString
namespace Go.Proofs.Ytjhbekopcikdkaa.wordTurns
open Go.ChangeShapes Go.WideShapes Go.ChangeAt Go.RowKit
open Go.ChangeMaps (open_string shut_string)
set_option linter.unusedVariables false      -- a walk need not use every 'w<i>' (that an integer argument fits its kind)

theorem own : ownKnob Try.prog.godebug = none := by kernel_rfl

/-! ### STEP 1: THE WALK: the Go text returns true. 'Grown w w'': the world has at most new blocks (Derived/RowKit3.lean). Part the cases AHEAD of 'go_enter' where a test parts the walk; take each callee by a contract of your own. -/
theorem walk (a0 : Int) (a1 : Int) (w0 : (Lit.int .u64 a0).wf = true) (w1 : (Lit.int .i64 a1).wf = true) (w : World) :
    Calls Try.prog 5 #[.int .u64 a0, .int .i64 a1] w fun e w' => e = .returned (.bool true) ∧ Below w.heap.size w w' := by
  have hb := bounds_u64 w0
  have hb1 := bounds_i64 w1
  obtain ⟨x, rfl⟩ := Int.eq_ofNat_of_zero_le hb.1
  have hx : x < 18446744073709551616 := by omega
  obtain ⟨q, hq⟩ : ∃ q : Nat, q = (a1 % 64).toNat := ⟨_, rfl⟩
  have hq64 : q < 64 := by omega
  have h1 := turn_any x a1 w hx hb1.1 hb1.2
  rw [← hq] at h1
  obtain ⟨y, hyd⟩ : ∃ y, y = turnN x q := ⟨_, rfl⟩
  have hy := turnN_lt x q hx
  rw [← hyd] at h1 hy
  have HY := Lib.hid hyd; clear hyd
  have H1 := Lib.hid h1; clear h1
  have ht : a1.tmod 64 = (q : Int) ∨ (a1.tmod 64 = (q : Int) - 64 ∧ 0 < q) := by
    rcases Int.le_total 0 a1 with h | h
    · left; rw [Int.tmod_eq_emod_of_nonneg h]; omega
    · have h4 : a1.tmod 64 = -((-a1) % 64) := by
        have : a1.tmod 64 = -((-a1).tmod 64) := by rw [Int.neg_tmod]; simp
        rw [this, Int.tmod_eq_emod_of_nonneg (by omega)]
      rw [h4]; omega
  clear hq hb1 w1
  rcases ht with ht | ⟨ht, hq0⟩
  all_goals
    have hd1 : decide ((q : Int) - 64 < 0) = true := by simp; omega
    have hd2 : decide ((q : Int) < 64) = true := by simp; omega
    have hd3 : decide ((q : Int) < 0) = false := by simp
    go_enter Try.func5, Try.ntmps5
    go_wp2_with fail
    refine H1.out.mono ?_
    rintro e w1 ⟨rfl, hbel⟩
    go_wp2_with fail
    clear ht
    go_loop [17] (fun i => ∃ j : Nat, j ≤ 64 ∧ i = .int .i64 j) (fun i => 64 - (intOf i).toNat)
    case atStart => exact ⟨0, by omega, rfl⟩
    case round =>
      obtain ⟨j, hj, rfl⟩ := hrel
      by_cases hlt : j < 64
      · have hbit := turn_bit x q j hx hq64 hlt
        rw [← HY.out] at hbit
        obtain ⟨p, hp⟩ : ∃ p : Nat, p = (j + q) % 64 := ⟨_, rfl⟩
        have hpi : (((j : Int) + (q : Int)).tmod 64) = (p : Int) := by rw [Int.tmod_eq_emod_of_nonneg (by omega)]; omega
        have b1 := bit_any y p w1 hy
        have b2 := bit_any x j w1 hx
        rw [← hp] at hbit
        rw [← hbit] at b2
        obtain ⟨ya, hya⟩ : ∃ ya, ya = y / 2 ^ p % 2 := ⟨_, rfl⟩
        rw [← hya] at b1 b2
        have B1 := Lib.hid b1; clear b1
        have B2 := Lib.hid b2; clear b2
        clear hya hbit hp
        go_wp2_with fail
        refine B1.out.mono ?_
        rintro e w' ⟨rfl, rfl⟩
        go_wp2_with fail
        refine B2.out.mono ?_
        rintro e w' ⟨rfl, rfl⟩
        go_wp2_with fail
        go_round
        case rel => exact ⟨j + 1, by omega, by go_num⟩
        case measure => simp [intOf]; omega
      · go_wp2_with fail
        refine (awake_any _).mono ?_
        rintro e w' ⟨rfl, hbel2⟩
        go_wp2_with fail
        go_ret
        exact ⟨rfl, hbel.trans (hbel2.mono hbel.size)⟩

/-! ### THE ROW's STEP: WRITTEN OUT: LEAVE IT -/
set_option maxRecDepth 100000 in
theorem lifted (os : Os) (started : os.Started) (H : Type) (enc : TypeId × Value → H) :
    ReturnsInHanded {} Try.checked os 5 .any (Rows.wordTurnsSpec.pre6 enc Try.prog Try.f5 Rows.wordTurnsRow.domain false) (Rows.wordTurnsSpec.post enc Try.prog Try.f5 false true false false) := by
  refine returnsInHanded_of_change (C := Try.checked) own started (by kernel_rfl) Try.func5
    (ChangeSpec.witness6 (enc := enc) (C := Try.checked) false ⟨#[], #[.int .u64 0, .int .i64 0], []⟩ 8 (by kernel_rfl) (by kernel_rfl) (by kernel_rfl) (by kernel_rfl)) ?_
  intro W base args ds gs before hval0 hW hcnd _
  have hval : ∀ (j : Nat) t v, Try.f5.params[j]? = some t → args[j]? = some v → Value.okWide Try.prog W .any base t v := hval0
  have hW' := hW
  obtain ⟨p, q, hA0, hV, rfl, hfz, hnd⟩ := hW
  have hA : DataW.TrodAll enc Try.prog W 0 (fun _ => true) true Try.f5.params.toList args.toList ds p := hA0
  rw [Try.params5] at hA hval
  obtain ⟨v0, vs0, d0, ds0, p0, q0, hargs, rfl, rfl, h0, r0⟩ := trodAll_cons hA
  obtain ⟨v1, vs1, d1, ds1, p1, q1, rfl, rfl, rfl, h1, r1⟩ := trodAll_cons r0
  obtain ⟨rfl, rfl, rfl⟩ := trodAll_nil r1
  obtain rfl : args = #[v0, v1] := by cases args; simp_all
  obtain ⟨rfl, rfl⟩ := trodVars_none hV
  obtain ⟨a0, rfl, rfl, rfl, w0⟩ := open_int Try.underlying22 (hval 0 22 v0 rfl rfl) h0
  obtain ⟨a1, rfl, rfl, rfl, w1⟩ := open_int Try.underlying3 (hval 1 3 v1 rfl rfl) h1
  clear hA0 hval0
  refine (walk a0 a1 w0 w1 W).mono fun e W' ⟨he, hg⟩ => ?_
  subst he
  exact ⟨_, rfl, _, _, _, [], _, [], hW', trodAll_mk1 (shut_bool Try.underlying4 _), (trodAll_cons_mk (shut_int Try.underlying22 w0) (trodAll_cons_mk (shut_int Try.underlying3 w1) trodAll_mk0)), rfl, hg.frame _, fun h => by cases h⟩

theorem over : Rows.wordTurnsRow.holds Try.pinned (OpenSpec.ofChange Rows.wordTurnsSpec) :=
  OpenClaim.holds_of_wide 5 Try.f5 rfl rfl rfl rfl rfl rfl rfl ⟨rfl, rfl, rfl, rfl, rfl⟩ rfl rfl rfl rfl rfl (by kernel_rfl) Try.func5 (by kernel_rfl)
    (of_decide_eq_true (by kernel_rfl)) (by unfold Func.isWrapper; first | (rw [if_pos (by decide +kernel)]; kernel_rfl) | (rw [if_neg (by decide +kernel)]; exact ⟨rfl, rfl⟩))
    (fun os started H enc _ => lifted os started H enc)

/-- ████ THE STATEMENT ████ -/
theorem proved : Rows.WordTurnsSaid :=
  over
#print axioms proved
end Go.Proofs.Ytjhbekopcikdkaa.wordTurns
