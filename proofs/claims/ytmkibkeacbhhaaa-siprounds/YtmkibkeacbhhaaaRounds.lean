/-
  SipRounds: for every input the law answers true and leaves its arguments as they were: the walk is typed by hand, the row's step is the guide's template.
  Conditions: none beside the row's own.
-/
import Derived.Test.YtmkibkeacbhhaaaEq
import Derived.Test.YtmkibkeacbhhaaaRefRounds
import Derived.Test.YtmkibkeacbhhaaaOpen
import Derived.Test.YtmkibkeacbhhaaaRows
import Derived.WalkKit
import Derived.ProofKit
import Derived.OpenShut
import Derived.ShutString
import Derived.ChangeOld
import Derived.Below
namespace Go.Proofs.Ytmkibkeacbhhaaa.sipRounds
open Go.ChangeShapes Go.WideShapes Go.ChangeAt Go.RowKit
set_option linter.unusedVariables false
theorem own : ownKnob Try.prog.godebug = none := by kernel_rfl
theorem laidOut : laidOutB Try.prog = true := by kernel_rfl
set_option maxRecDepth 100000 in
set_option maxHeartbeats 4000000 in
theorem walk {p0 q0 r0 s0 : Nat} (w : World) (hx0 : St.ok ⟨p0, q0, r0, s0⟩) :
    Calls Try.prog 4 #[.agg #[.int .u64 p0, .int .u64 q0, .int .u64 r0, .int .u64 s0]] w fun e w' => e = .returned (.bool true) ∧ Below w.heap.size w w' := by
  obtain ⟨z, hz⟩ : ∃ z, z = St.round ⟨p0, q0, r0, s0⟩ := ⟨_, rfl⟩
  have hr0 := fun W => round_any p0 q0 r0 s0 W hx0 z hz
  have hr1 := fun W => refRounds_any p0 q0 r0 s0 1 W hx0 (by decide) z (by rw [hz, St.rounds_succ, St.rounds_zero])
  clear hz hx0
  obtain ⟨a, b, c, d⟩ := z
  simp only at hr0 hr1
  have hq1 := fun W => run_eql_state W a b c d a b c d
  simp only [decide_true] at hq1
  have hg := fun W op x y xs ys => run_guard_state W op x y xs ys
  have HR0 := Lib.hid hr0; clear hr0
  have HR1 := Lib.hid hr1; clear hr1
  obtain ⟨W0, hW0⟩ : ∃ W, W = w.alloc (.cells #[.int .u64 p0, .int .u64 q0, .int .u64 r0, .int .u64 s0] 31) := ⟨_, rfl⟩
  have hb0 : Below w.heap.size w W0 := by rw [hW0]; exact (Below.refl _ _).alloc (Nat.le_refl _) _
  have keep : ∀ X, Below W0.heap.size W0 X → (X.cell? ⟨w.heap.size, 0, none⟩ = some (.int .u64 p0) ∧ X.cell? ⟨w.heap.size, 1, none⟩ = some (.int .u64 q0) ∧ X.cell? ⟨w.heap.size, 2, none⟩ = some (.int .u64 r0) ∧ X.cell? ⟨w.heap.size, 3, none⟩ = some (.int .u64 s0)) := by
    intro X hX
    have h0 : W0.heap[w.heap.size]? = some (.cells #[.int .u64 p0, .int .u64 q0, .int .u64 r0, .int .u64 s0] 31 (0, 0)) := by rw [hW0]; exact heap_alloc_new w _
    obtain ⟨k0, k1, k2, k3, _⟩ := cells4 (row_below h0 hX)
    exact ⟨k0, k1, k2, k3⟩
  have HW0 := Lib.hid hW0; clear hW0
  have HB0 := Lib.hid hb0; clear hb0
  have KEEP := Lib.hid keep; clear keep
  have hz0 : Below W0.heap.size W0 W0.drew := (Below.refl _ _).drew
  go_enter Try.func4, Try.ntmps4
  go_wp2_with fail
  rw [← HW0.out]
  go_region_held3 (fun X => X.cell? ⟨w.heap.size, 0, none⟩ = some (.int .u64 p0) ∧ X.cell? ⟨w.heap.size, 1, none⟩ = some (.int .u64 q0) ∧ X.cell? ⟨w.heap.size, 2, none⟩ = some (.int .u64 r0) ∧ X.cell? ⟨w.heap.size, 3, none⟩ = some (.int .u64 s0)) (first | exact KEEP.out _ hz0 | exact KEEP.out _ hzA | exact KEEP.out _ hzB | exact KEEP.out _ hzC) (first
    | (go_at_call 11; refine (HR0.out _).mono ?_; rintro e wA ⟨rfl, hA⟩; have hzA := hz0.trans (hA.mono hz0.size))
    | (go_at_call 12; refine (HR1.out _).mono ?_; rintro e wB ⟨rfl, hB⟩; have hzB := hzA.trans (hB.mono hzA.size))
    | (go_at_call 8; (with_reducible refine (awake_any _).mono ?_); rintro e wC ⟨rfl, hC⟩; have hzC := hzB.trans (hC.mono hzB.size)))
  all_goals
    go_wp2_with fail
    go_ret
    exact ⟨rfl, below_then HB0.out hzC⟩
/-! ### THE ROW's STEP -/
set_option maxRecDepth 100000 in
theorem lifted (os : Os) (started : os.Started) (H : Type) (enc : TypeId × Value → H) :
    ReturnsInHanded {} Try.checked os 4 .any (Rows.sipRoundsSpec.pre6 enc Try.prog Try.f4 Rows.sipRoundsRow.domain false) (Rows.sipRoundsSpec.post enc Try.prog Try.f4 false true false false) := by
  refine returnsInHanded_of_change (C := Try.checked) own started (by kernel_rfl) Try.func4
    (ChangeSpec.witness6 (enc := enc) (C := Try.checked) false ⟨#[], #[.agg #[.int .u64 0, .int .u64 0, .int .u64 0, .int .u64 0]], []⟩ 8 (by kernel_rfl) (by kernel_rfl) (by kernel_rfl) (by kernel_rfl)) ?_
  intro W base args ds gs before hval0 hW hcnd _
  have hval : ∀ (j : Nat) t v, Try.f4.params[j]? = some t → args[j]? = some v → Value.okWide Try.prog W .any base t v := hval0
  have hW' := hW
  obtain ⟨p, q, hA0, hV, rfl, hfz, hnd⟩ := hW
  have hA : DataW.TrodAll enc Try.prog W 0 (fun _ => true) true Try.f4.params.toList args.toList ds p := hA0
  rw [Try.params4] at hA hval
  obtain ⟨v0, vs0, d0, ds0, p0, q0, hargs, rfl, rfl, h0, r0⟩ := trodAll_cons hA
  obtain ⟨rfl, rfl, rfl⟩ := trodAll_nil r0
  obtain rfl : args = #[v0] := by cases args; simp_all
  obtain ⟨rfl, rfl⟩ := trodVars_none hV
  have lt0 : ∀ x ∈ p0, x.block < W.heap.size := by obtain ⟨m, hm⟩ := h0; exact DataW.trod_lt m _ _ _ hm
  have ok0 := hval 0 31 v0 rfl rfl
  clear hA0 hval0 hval
  obtain ⟨x0a, x0b, x0c, x0d, rfl, hx0⟩ := state_open ok0 h0
  refine (walk W hx0).mono fun e W' ⟨he, bel⟩ => ?_
  subst he
  exact ⟨_, rfl, _, _, _, [], _, [], hW', trodAll_mk1 (shut_bool Try.underlying4 _), (trodAll_cons_mk (Below.trod laidOut (by kernel_rfl) (of_decide_eq_true (by kernel_rfl)) h0 bel lt0) trodAll_mk0), rfl, bel.frame _, fun h => by cases h⟩

theorem over : Rows.sipRoundsRow.holds Try.pinned (OpenSpec.ofChange Rows.sipRoundsSpec) :=
  OpenClaim.holds_of_wide 4 Try.f4 rfl rfl rfl rfl rfl rfl rfl ⟨rfl, rfl, rfl, rfl, rfl⟩ rfl rfl rfl rfl rfl (by kernel_rfl) Try.func4 (by kernel_rfl)
    (of_decide_eq_true (by kernel_rfl)) (by unfold Func.isWrapper; first | (rw [if_pos (by decide +kernel)]; kernel_rfl) | (rw [if_neg (by decide +kernel)]; exact ⟨rfl, rfl⟩))
    (fun os started H enc _ => lifted os started H enc)

/-- ████ THE STATEMENT ████ -/
theorem proved : Rows.SipRoundsSaid := over
#print axioms proved
end Go.Proofs.Ytmkibkeacbhhaaa.sipRounds
