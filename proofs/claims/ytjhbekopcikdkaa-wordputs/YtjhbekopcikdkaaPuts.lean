/-
  WordPuts: for every input the law answers true and leaves its arguments as they were: the walk is typed by hand, the row's step is the guide's template.
  Conditions: none beside the row's own.
-/
import Derived.Test.YtjhbekopcikdkaaWalks
import Derived.Deep.RegionWith
import Derived.Test.YtjhbekopcikdkaaRows
import Derived.WalkKit
import Derived.ProofKit
import Derived.OpenShut
import Derived.ShutString
namespace Go.Proofs.Ytjhbekopcikdkaa.wordPuts
open Go.ChangeShapes Go.WideShapes Go.ChangeAt Go.RowKit
open Go.ChangeMaps (open_string shut_string)
set_option linter.unusedVariables false      -- a walk need not use every 'w<i>' (that an integer argument fits its kind)

theorem own : ownKnob Try.prog.godebug = none := by kernel_rfl

/-! ### STEP 1: THE WALK: the Go text returns true. 'Grown w w'': the world has at most new blocks (Derived/RowKit3.lean). Part the cases AHEAD of 'go_enter' where a test parts the walk; take each callee by a contract of your own. -/
set_option maxHeartbeats 4000000 in
theorem walk (a0 : Int) (a1 : Int) (w0 : (Lit.int .u64 a0).wf = true) (w1 : (Lit.int .i64 a1).wf = true) (w : World) :
    Calls Try.prog 3 #[.int .u64 a0, .int .i64 a1] w fun e w' => e = .returned (.bool true) ∧ Below w.heap.size w w' := by
  have hb := bounds_u64 w0
  obtain ⟨x, rfl⟩ := Int.eq_ofNat_of_zero_le hb.1
  have hx : x < 18446744073709551616 := by omega
  obtain ⟨q, hq⟩ : ∃ q : Nat, max 0 (min a1 8) = (q : Int) := ⟨_, (Int.toNat_of_nonneg (by omega)).symm⟩
  have hq8 : q ≤ 8 := by omega
  have h1 := refHeld_any a1 0 8 w (by decide)
  rw [hq] at h1
  have h2 := put_any x a1 q w hq
  have HQ := Lib.hid hq; clear hq
  have H1 := Lib.hid h1; clear h1
  have H2 := Lib.hid h2; clear h2
  obtain ⟨Z, hZ, hZ0, hZm⟩ := puts_mod x q
  have HZ := Lib.hid hZm; clear hZm
  have hg : ∀ W, Bts W (some ⟨w.heap.size, 0, none⟩) (be x q) → Calls Try.prog 11 #[.slice (some ⟨w.heap.size, 0, none⟩) q q] W fun e w' => e = .returned (.int .u64 ((num (be x q) : Nat) : Int)) ∧ W = w' := by
    intro W hB
    have h := get_any (be x q) _ q W (by rw [be_length]; exact Nat.le_refl _) (by unfold maxLen; omega) hB
    rw [be_length, List.take_of_length_le (by rw [be_length]; exact hq8)] at h
    exact h
  have HG := Lib.hid hg; clear hg
  have hcv : ∀ W, Bts W (some ⟨w.heap.size, 0, none⟩) (be x q) → (convert 24 9 (.slice (some ⟨w.heap.size, 0, none⟩) q q)).run Try.prog W = .ok (.string ⟨(be x q).toArray⟩) W := by
    intro W hB
    have h := conv_bts W (be x q) w.heap.size 0 q (by
      intro i hi
      obtain ⟨b, off, e, hc⟩ := hB.at_ i hi
      obtain ⟨rfl, rfl⟩ : w.heap.size = b ∧ 0 = off := by simpa using e
      exact hc)
    rw [be_length] at h
    exact h
  have hB0 : Bts (w.alloc (.cells (pcells x q q).toArray 5)).drew (some ⟨w.heap.size, 0, none⟩) (be x q) := pcells_bts w x q
  have hbel0 : Below w.heap.size w (w.alloc (.cells (pcells x q q).toArray 5)).drew := ((Below.refl _ _).alloc (Nat.le_refl _) _).drew
  go_enter Try.func3, Try.ntmps3
  go_wp2_with fail
  refine H1.out.mono ?_
  rintro e w' ⟨rfl, rfl⟩
  go_wp2_with fail
  refine H2.out.mono ?_
  rintro e w' ⟨rfl, rfl⟩
  by_cases hlt : q < 8
  · have hg2 : ∀ W, Bts W (some ⟨w.heap.size, 0, none⟩) (be x q) → Calls Try.prog 11 #[.slice (some ⟨w.heap.size, 0, none⟩) q q] W fun e w' => e = .returned (.int .u64 ((x : Int) % (Z : Int))) ∧ W = w' := by
      intro W hB
      have h := HG.out W hB
      rw [HZ.out, if_pos hlt, Int.natCast_emod] at h
      exact h
    have HG2 := Lib.hid hg2; clear hg2
    go_wp2_with fail
    go_region_with (first | (go_at_call 10; refine (text_any x q _ hx hq8).mono ?_; rintro e wT ⟨rfl, hT⟩; have hBT := hB0.below hT) | (go_at_call 11; refine (HG2.out _ (by assumption)).mono ?_; rintro e wG ⟨rfl, rfl⟩) | (go_at_call 12; refine (awake_any _).mono ?_; rintro e wA ⟨rfl, hA⟩))
    all_goals
      go_wp2_with fail
      go_ret
      exact ⟨rfl, below_then (below_then hbel0 hT) hA⟩
  · have hg2 : ∀ W, Bts W (some ⟨w.heap.size, 0, none⟩) (be x q) → Calls Try.prog 11 #[.slice (some ⟨w.heap.size, 0, none⟩) q q] W fun e w' => e = .returned (.int .u64 (x : Int)) ∧ W = w' := by
      intro W hB
      have h := HG.out W hB
      have e8 : q = 8 := by omega
      have e : x % 256 ^ q = x := by rw [e8]; exact Nat.mod_eq_of_lt hx
      rw [HZ.out, if_neg hlt, e] at h
      exact h
    have HG2 := Lib.hid hg2; clear hg2
    go_wp2_with fail
    go_region_with (first | (go_at_call 10; refine (text_any x q _ hx hq8).mono ?_; rintro e wT ⟨rfl, hT⟩; have hBT := hB0.below hT) | (go_at_call 11; refine (HG2.out _ (by assumption)).mono ?_; rintro e wG ⟨rfl, rfl⟩) | (go_at_call 12; refine (awake_any _).mono ?_; rintro e wA ⟨rfl, hA⟩))
    all_goals
      go_wp2_with fail
      go_ret
      exact ⟨rfl, below_then (below_then hbel0 hT) hA⟩

/-! ### THE ROW's STEP: WRITTEN OUT: LEAVE IT -/
set_option maxRecDepth 100000 in
theorem lifted (os : Os) (started : os.Started) (H : Type) (enc : TypeId × Value → H) :
    ReturnsInHanded {} Try.checked os 3 .any (Rows.wordPutsSpec.pre6 enc Try.prog Try.f3 Rows.wordPutsRow.domain false) (Rows.wordPutsSpec.post enc Try.prog Try.f3 false true false false) := by
  refine returnsInHanded_of_change (C := Try.checked) own started (by kernel_rfl) Try.func3
    (ChangeSpec.witness6 (enc := enc) (C := Try.checked) false ⟨#[], #[.int .u64 0, .int .i64 0], []⟩ 8 (by kernel_rfl) (by kernel_rfl) (by kernel_rfl) (by kernel_rfl)) ?_
  intro W base args ds gs before hval0 hW hcnd _
  have hval : ∀ (j : Nat) t v, Try.f3.params[j]? = some t → args[j]? = some v → Value.okWide Try.prog W .any base t v := hval0
  have hW' := hW
  obtain ⟨p, q, hA0, hV, rfl, hfz, hnd⟩ := hW
  have hA : DataW.TrodAll enc Try.prog W 0 (fun _ => true) true Try.f3.params.toList args.toList ds p := hA0
  rw [Try.params3] at hA hval
  obtain ⟨v0, vs0, d0, ds0, p0, q0, hargs, rfl, rfl, h0, r0⟩ := trodAll_cons hA
  obtain ⟨v1, vs1, d1, ds1, p1, q1, rfl, rfl, rfl, h1, r1⟩ := trodAll_cons r0
  obtain ⟨rfl, rfl, rfl⟩ := trodAll_nil r1
  obtain rfl : args = #[v0, v1] := by cases args; simp_all
  obtain ⟨rfl, rfl⟩ := trodVars_none hV
  obtain ⟨a0, rfl, rfl, rfl, w0⟩ := open_int Try.underlying22 (hval 0 22 v0 rfl rfl) h0
  obtain ⟨a1, rfl, rfl, rfl, w1⟩ := open_int Try.underlying3 (hval 1 3 v1 rfl rfl) h1
  clear hA0 hval0
  refine (walk a0 a1 w0 w1 W).mono fun e W' ⟨he, hg⟩ => ?_
  subst he
  exact ⟨_, rfl, _, _, _, [], _, [], hW', trodAll_mk1 (shut_bool Try.underlying4 _), (trodAll_cons_mk (shut_int Try.underlying22 w0) (trodAll_cons_mk (shut_int Try.underlying3 w1) trodAll_mk0)), rfl, hg.frame _, fun h => by cases h⟩

theorem over : Rows.wordPutsRow.holds Try.pinned (OpenSpec.ofChange Rows.wordPutsSpec) :=
  OpenClaim.holds_of_wide 3 Try.f3 rfl rfl rfl rfl rfl rfl rfl ⟨rfl, rfl, rfl, rfl, rfl⟩ rfl rfl rfl rfl rfl (by kernel_rfl) Try.func3 (by kernel_rfl)
    (of_decide_eq_true (by kernel_rfl)) (by unfold Func.isWrapper; first | (rw [if_pos (by decide +kernel)]; kernel_rfl) | (rw [if_neg (by decide +kernel)]; exact ⟨rfl, rfl⟩))
    (fun os started H enc _ => lifted os started H enc)

/-- ████ THE STATEMENT ████ -/
theorem proved : Rows.WordPutsSaid :=
  over
#print axioms proved
end Go.Proofs.Ytjhbekopcikdkaa.wordPuts
