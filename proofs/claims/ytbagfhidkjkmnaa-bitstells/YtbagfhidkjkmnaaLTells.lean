/-
  BitsTells: for every input the law answers true and leaves its arguments as they were: the walk is typed by hand, the row's step is the guide's template.
  Conditions: none beside the row's own.
-/
import Derived.Test.YtbagfhidkjkmnaaList
import Derived.Test.YtbagfhidkjkmnaaRows
import Derived.WalkKit
import Derived.ProofKit
import Derived.OpenShut
import Derived.ShutString
namespace Go.Proofs.Ytbagfhidkjkmnaa.bitsTells
open Go.ChangeShapes Go.WideShapes Go.ChangeAt Go.RowKit
open Go.ChangeMaps (open_string shut_string)
set_option linter.unusedVariables false      -- a walk need not use every 'w<i>' (that an integer argument fits its kind)

theorem own : ownKnob Try.prog.godebug = none := by kernel_rfl

/-! ### STEP 1: THE WALK: the Go text returns true. 'Grown w w'': the world has at most new blocks (Derived/RowKit3.lean). Part the cases AHEAD of 'go_enter' where a test parts the walk; take each callee by a contract of your own. -/
set_option maxHeartbeats 4000000 in
theorem walk (a0 : Int) (a1 : Int) (w0 : (Lit.int .u32 a0).wf = true) (w1 : (Lit.int .i64 a1).wf = true) (w : World) :
    Calls Try.prog 4 #[.int .u32 a0, .int .i64 a1] w fun e w' => e = .returned (.bool true) ∧ Below w.heap.size w w' := by
  obtain ⟨h0, h1⟩ : 0 ≤ a0 ∧ a0 < 4294967296 := by have := w0; simp [Lit.wf, IntKind.min, IntKind.max, IntKind.signed, IntKind.bits] at this; omega
  obtain ⟨m, rfl⟩ := Int.eq_ofNat_of_zero_le h0
  have hm : m < 4294967296 := by omega
  clear w0 h0 h1 w1
  obtain ⟨L, hL⟩ : ∃ L, L = lst m 32 := ⟨_, rfl⟩
  have hl := list_any m w hm L hL
  have hh := fun W => has_any m a1 W hm
  have hp := fun W => place_any m a1 W hm
  have hc := fun W => count_any m W hm
  have hlen : L.length = cnt m 32 := by rw [hL]; exact cnt_lst m 32
  have hle : L.length ≤ 32 := by rw [hL]; exact list_le m 32
  rw [← hlen] at hc
  rw [← hL] at hh hp
  obtain ⟨b, hb⟩ : ∃ b, b = decide (a1 ∈ L) := ⟨_, rfl⟩
  rw [← hb] at hh
  obtain ⟨k, hk⟩ : ∃ k, k = less L a1 := ⟨_, rfl⟩
  rw [← hk] at hp
  have hrh : ∀ A c W, Ints W A L → Calls Try.prog 11 #[.slice A L.length c, .int .i64 a1] W fun e w' => e = .returned (.bool b) ∧ W = w' := fun A c W hI => by rw [hb]; exact refHas_any L A c a1 W hI (by omega)
  have hrl : ∀ A c W, Ints W A L → Calls Try.prog 14 #[.slice A L.length c, .int .i64 a1] W fun e w' => e = .returned (.int .i64 (k : Int)) ∧ W = w' := fun A c W hI => by rw [hk]; exact refLess_any L A c a1 W hI (by omega)
  have HAW := Lib.hid awake_any
  have HL := Lib.hid hl; clear hl
  have HH := Lib.hid hh; clear hh
  have HP := Lib.hid hp; clear hp
  have HC := Lib.hid hc; clear hc
  have HRH := Lib.hid hrh; clear hrh
  have HRL := Lib.hid hrl; clear hrl
  clear hL hlen hb hk
  go_enter Try.func4, Try.ntmps4
  go_wp2_with fail
  refine HL.out.mono ?_
  rintro e w1 ⟨⟨A, c, rfl, hcc, hI⟩, hb1⟩
  have HI := Lib.hid hI; clear hI
  have HB1 := Lib.hid hb1; clear hb1
  have HCC := Lib.hid hcc; clear hcc
  go_wp2_with fail
  refine (HH.out _).mono ?_
  rintro e w2 ⟨rfl, rfl⟩
  go_wp2_with fail
  refine (HRH.out _ _ _ HI.out).mono ?_
  rintro e w2 ⟨rfl, rfl⟩
  cases b <;>
  · go_wp2_with fail
    refine (HC.out _).mono ?_
    rintro e w2 ⟨rfl, n, rfl⟩
    go_wp2_with fail
    refine (HP.out _).mono ?_
    rintro e w2 ⟨rfl, n2, rfl⟩
    go_wp2_with fail
    refine (HRL.out _ _ _ (HI.out.below (below_drewN (Below.refl _ _) _))).mono ?_
    rintro e w2 ⟨rfl, rfl⟩
    go_wp2_with fail
    refine (HAW.out _).mono ?_
    rintro e w2 ⟨rfl, hb2⟩
    have HB2 := Lib.hid hb2; clear hb2
    go_wp2_with fail
    go_ret
    exact ⟨rfl, below_then (below_drewN HB1.out _) HB2.out⟩

/-! ### THE ROW's STEP: WRITTEN OUT: LEAVE IT -/
set_option maxRecDepth 100000 in
theorem lifted (os : Os) (started : os.Started) (H : Type) (enc : TypeId × Value → H) :
    ReturnsInHanded {} Try.checked os 4 .any (Rows.bitsTellsSpec.pre6 enc Try.prog Try.f4 Rows.bitsTellsRow.domain false) (Rows.bitsTellsSpec.post enc Try.prog Try.f4 false true false false) := by
  refine returnsInHanded_of_change (C := Try.checked) own started (by kernel_rfl) Try.func4
    (ChangeSpec.witness6 (enc := enc) (C := Try.checked) false ⟨#[], #[.int .u32 0, .int .i64 0], []⟩ 8 (by kernel_rfl) (by kernel_rfl) (by kernel_rfl) (by kernel_rfl)) ?_
  intro W base args ds gs before hval0 hW hcnd _
  have hval : ∀ (j : Nat) t v, Try.f4.params[j]? = some t → args[j]? = some v → Value.okWide Try.prog W .any base t v := hval0
  have hW' := hW
  obtain ⟨p, q, hA0, hV, rfl, hfz, hnd⟩ := hW
  have hA : DataW.TrodAll enc Try.prog W 0 (fun _ => true) true Try.f4.params.toList args.toList ds p := hA0
  rw [Try.params4] at hA hval
  obtain ⟨v0, vs0, d0, ds0, p0, q0, hargs, rfl, rfl, h0, r0⟩ := trodAll_cons hA
  obtain ⟨v1, vs1, d1, ds1, p1, q1, rfl, rfl, rfl, h1, r1⟩ := trodAll_cons r0
  obtain ⟨rfl, rfl, rfl⟩ := trodAll_nil r1
  obtain rfl : args = #[v0, v1] := by cases args; simp_all
  obtain ⟨rfl, rfl⟩ := trodVars_none hV
  obtain ⟨a0, rfl, rfl, rfl, w0⟩ := open_int Try.underlying25 (hval 0 25 v0 rfl rfl) h0
  obtain ⟨a1, rfl, rfl, rfl, w1⟩ := open_int Try.underlying3 (hval 1 3 v1 rfl rfl) h1
  clear hA0 hval0
  refine (walk a0 a1 w0 w1 W).mono fun e W' ⟨he, hg⟩ => ?_
  subst he
  exact ⟨_, rfl, _, _, _, [], _, [], hW', trodAll_mk1 (shut_bool Try.underlying4 _), (trodAll_cons_mk (shut_int Try.underlying25 w0) (trodAll_cons_mk (shut_int Try.underlying3 w1) trodAll_mk0)), rfl, hg.frame _, fun h => by cases h⟩

theorem over : Rows.bitsTellsRow.holds Try.pinned (OpenSpec.ofChange Rows.bitsTellsSpec) :=
  OpenClaim.holds_of_wide 4 Try.f4 rfl rfl rfl rfl rfl rfl rfl ⟨rfl, rfl, rfl, rfl, rfl⟩ rfl rfl rfl rfl rfl (by kernel_rfl) Try.func4 (by kernel_rfl)
    (of_decide_eq_true (by kernel_rfl)) (by unfold Func.isWrapper; first | (rw [if_pos (by decide +kernel)]; kernel_rfl) | (rw [if_neg (by decide +kernel)]; exact ⟨rfl, rfl⟩))
    (fun os started H enc _ => lifted os started H enc)

/-- ████ THE STATEMENT ████ -/
theorem proved : Rows.BitsTellsSaid :=
  over
#print axioms proved
end Go.Proofs.Ytbagfhidkjkmnaa.bitsTells
