/-
  SipBack: for every input the law answers true and leaves its arguments as they were: the walk is typed by hand, the row's step is the guide's template.
  Conditions: none beside the row's own.
-/
import Derived.Test.YtmkibkeacbhhaaaEq
import Derived.Deep.RegionHeld3
import Derived.Test.YtmkibkeacbhhaaaOpen
import Derived.Test.YtmkibkeacbhhaaaRows
import Derived.WalkKit
import Derived.ProofKit
import Derived.OpenShut
import Derived.ShutString
import Derived.ChangeOld
import Derived.Below
namespace Go.Proofs.Ytmkibkeacbhhaaa.sipBack
open Go.ChangeShapes Go.WideShapes Go.ChangeAt Go.RowKit
set_option linter.unusedVariables false
theorem own : ownKnob Try.prog.godebug = none := by kernel_rfl
theorem laidOut : laidOutB Try.prog = true := by kernel_rfl
set_option maxRecDepth 100000 in
set_option maxHeartbeats 4000000 in
theorem walk {p0 q0 r0 s0 : Nat} {p1 q1 r1 s1 : Nat} (w : World) (hx0 : St.ok ⟨p0, q0, r0, s0⟩) (hx1 : St.ok ⟨p1, q1, r1, s1⟩) :
    Calls Try.prog 7 #[.agg #[.int .u64 p0, .int .u64 q0, .int .u64 r0, .int .u64 s0], .agg #[.int .u64 p1, .int .u64 q1, .int .u64 r1, .int .u64 s1]] w fun e w' => e = .returned (.bool true) ∧ Below w.heap.size w w' := by
  obtain ⟨z0, hz0⟩ : ∃ z, z = St.round ⟨p0, q0, r0, s0⟩ := ⟨_, rfl⟩
  obtain ⟨z1, hz1⟩ : ∃ z, z = St.round ⟨p1, q1, r1, s1⟩ := ⟨_, rfl⟩
  have hr0 := fun W => round_any p0 q0 r0 s0 W hx0 z0 hz0
  have hr1 := fun W => round_any p1 q1 r1 s1 W hx1 z1 hz1
  obtain ⟨e, he⟩ : ∃ e, e = decide (St.mk p0 q0 r0 s0 = St.mk p1 q1 r1 s1) := ⟨_, rfl⟩
  have he2 : decide (z0 = z1) = e := by
    rw [he, Bool.eq_iff_iff, decide_eq_true_eq, decide_eq_true_eq]
    constructor
    · intro h; exact St.round_inj hx0 hx1 (by rw [← hz0, ← hz1, h])
    · intro h; rw [hz0, hz1, h]
  clear hz0 hz1
  obtain ⟨a0, b0, c0, d0⟩ := z0
  obtain ⟨a1, b1, c1, d1⟩ := z1
  simp only at hr0 hr1
  have hq1 := fun W => run_eql_state W a0 b0 c0 d0 a1 b1 c1 d1
  have hq2 := fun W => run_eql_state W p0 q0 r0 s0 p1 q1 r1 s1
  rw [he2] at hq1
  rw [← he] at hq2
  clear he he2 hx0 hx1
  have hg := fun W op x y xs ys => run_guard_state W op x y xs ys
  have HR0 := Lib.hid hr0; clear hr0
  have HR1 := Lib.hid hr1; clear hr1
  obtain ⟨W0, hW0⟩ : ∃ W, W = (w.alloc (.cells #[.int .u64 p0, .int .u64 q0, .int .u64 r0, .int .u64 s0] 31)).alloc (.cells #[.int .u64 p1, .int .u64 q1, .int .u64 r1, .int .u64 s1] 31) := ⟨_, rfl⟩
  have hb0 : Below w.heap.size w W0 := by rw [hW0]; exact ((Below.refl _ _).alloc (Nat.le_refl _) _).alloc (by simp) _
  have keep : ∀ X, Below W0.heap.size W0 X → (X.cell? ⟨w.heap.size, 0, none⟩ = some (.int .u64 p0) ∧ X.cell? ⟨w.heap.size, 1, none⟩ = some (.int .u64 q0) ∧ X.cell? ⟨w.heap.size, 2, none⟩ = some (.int .u64 r0) ∧ X.cell? ⟨w.heap.size, 3, none⟩ = some (.int .u64 s0)) ∧
      (X.cell? ⟨w.heap.size + 1, 0, none⟩ = some (.int .u64 p1) ∧ X.cell? ⟨w.heap.size + 1, 1, none⟩ = some (.int .u64 q1) ∧ X.cell? ⟨w.heap.size + 1, 2, none⟩ = some (.int .u64 r1) ∧ X.cell? ⟨w.heap.size + 1, 3, none⟩ = some (.int .u64 s1)) := by
    intro X hX
    have h0 : W0.heap[w.heap.size]? = some (.cells #[.int .u64 p0, .int .u64 q0, .int .u64 r0, .int .u64 s0] 31 (0, 0)) := by rw [hW0]; exact heap_alloc2_old w _ _
    have h1 : W0.heap[w.heap.size + 1]? = some (.cells #[.int .u64 p1, .int .u64 q1, .int .u64 r1, .int .u64 s1] 31 (0, 0)) := by rw [hW0]; exact heap_alloc2_new w _ _
    obtain ⟨k0, k1, k2, k3, _⟩ := cells4 (row_below h0 hX)
    obtain ⟨m0, m1, m2, m3, _⟩ := cells4 (row_below h1 hX)
    exact ⟨⟨k0, k1, k2, k3⟩, m0, m1, m2, m3⟩
  have HW0 := Lib.hid hW0; clear hW0
  have HB0 := Lib.hid hb0; clear hb0
  have KEEP := Lib.hid keep; clear keep
  have hz0 : Below W0.heap.size W0 W0.drew := (Below.refl _ _).drew
  go_enter Try.func7, Try.ntmps7
  go_wp2_with fail
  rw [← HW0.out]
  go_region_held3 (fun X => (X.cell? ⟨w.heap.size, 0, none⟩ = some (.int .u64 p0) ∧ X.cell? ⟨w.heap.size, 1, none⟩ = some (.int .u64 q0) ∧ X.cell? ⟨w.heap.size, 2, none⟩ = some (.int .u64 r0) ∧ X.cell? ⟨w.heap.size, 3, none⟩ = some (.int .u64 s0)) ∧ (X.cell? ⟨w.heap.size + 1, 0, none⟩ = some (.int .u64 p1) ∧ X.cell? ⟨w.heap.size + 1, 1, none⟩ = some (.int .u64 q1) ∧ X.cell? ⟨w.heap.size + 1, 2, none⟩ = some (.int .u64 r1) ∧ X.cell? ⟨w.heap.size + 1, 3, none⟩ = some (.int .u64 s1))) (first | exact KEEP.out _ hz0 | exact KEEP.out _ hzA | exact KEEP.out _ hzB | exact KEEP.out _ hzC) (first
    | (go_at_call 11; (with_reducible refine (HR0.out _).mono ?_); rintro e wA ⟨rfl, hA⟩; have hzA := hz0.trans (hA.mono hz0.size))
    | (go_at_call 11; (with_reducible refine (HR1.out _).mono ?_); rintro e wB ⟨rfl, hB⟩; have hzB := hzA.trans (hB.mono hzA.size))
    | (go_at_call 8; (with_reducible refine (awake_any _).mono ?_); rintro e wC ⟨rfl, hC⟩; have hzC := hzB.trans (hC.mono hzB.size)))
  all_goals
    go_wp2_with fail
    go_ret
    exact ⟨rfl, below_then HB0.out hzC⟩
/-! ### THE ROW's STEP -/
set_option maxRecDepth 100000 in
theorem lifted (os : Os) (started : os.Started) (H : Type) (enc : TypeId × Value → H) :
    ReturnsInHanded {} Try.checked os 7 .any (Rows.sipBackSpec.pre6 enc Try.prog Try.f7 Rows.sipBackRow.domain false) (Rows.sipBackSpec.post enc Try.prog Try.f7 false true false false) := by
  refine returnsInHanded_of_change (C := Try.checked) own started (by kernel_rfl) Try.func7
    (ChangeSpec.witness6 (enc := enc) (C := Try.checked) false ⟨#[], #[.agg #[.int .u64 0, .int .u64 0, .int .u64 0, .int .u64 0], .agg #[.int .u64 0, .int .u64 0, .int .u64 0, .int .u64 0]], []⟩ 8 (by kernel_rfl) (by kernel_rfl) (by kernel_rfl) (by kernel_rfl)) ?_
  intro W base args ds gs before hval0 hW hcnd _
  have hval : ∀ (j : Nat) t v, Try.f7.params[j]? = some t → args[j]? = some v → Value.okWide Try.prog W .any base t v := hval0
  have hW' := hW
  obtain ⟨p, q, hA0, hV, rfl, hfz, hnd⟩ := hW
  have hA : DataW.TrodAll enc Try.prog W 0 (fun _ => true) true Try.f7.params.toList args.toList ds p := hA0
  rw [Try.params7] at hA hval
  obtain ⟨v0, vs0, d0, ds0, p0, q0, hargs, rfl, rfl, h0, r0⟩ := trodAll_cons hA
  obtain ⟨v1, vs1, d1, ds1, p1, q1, rfl, rfl, rfl, h1, r1⟩ := trodAll_cons r0
  obtain ⟨rfl, rfl, rfl⟩ := trodAll_nil r1
  obtain rfl : args = #[v0, v1] := by cases args; simp_all
  obtain ⟨rfl, rfl⟩ := trodVars_none hV
  have lt0 : ∀ x ∈ p0, x.block < W.heap.size := by obtain ⟨m, hm⟩ := h0; exact DataW.trod_lt m _ _ _ hm
  have ok0 := hval 0 31 v0 rfl rfl
  have lt1 : ∀ x ∈ p1, x.block < W.heap.size := by obtain ⟨m, hm⟩ := h1; exact DataW.trod_lt m _ _ _ hm
  have ok1 := hval 1 31 v1 rfl rfl
  clear hA0 hval0 hval
  obtain ⟨x0a, x0b, x0c, x0d, rfl, hx0⟩ := state_open ok0 h0
  obtain ⟨x1a, x1b, x1c, x1d, rfl, hx1⟩ := state_open ok1 h1
  refine (walk W hx0 hx1).mono fun e W' ⟨he, bel⟩ => ?_
  subst he
  exact ⟨_, rfl, _, _, _, [], _, [], hW', trodAll_mk1 (shut_bool Try.underlying4 _), (trodAll_cons_mk (Below.trod laidOut (by kernel_rfl) (of_decide_eq_true (by kernel_rfl)) h0 bel lt0) (trodAll_cons_mk (Below.trod laidOut (by kernel_rfl) (of_decide_eq_true (by kernel_rfl)) h1 bel lt1) trodAll_mk0)), rfl, bel.frame _, fun h => by cases h⟩

theorem over : Rows.sipBackRow.holds Try.pinned (OpenSpec.ofChange Rows.sipBackSpec) :=
  OpenClaim.holds_of_wide 7 Try.f7 rfl rfl rfl rfl rfl rfl rfl ⟨rfl, rfl, rfl, rfl, rfl⟩ rfl rfl rfl rfl rfl (by kernel_rfl) Try.func7 (by kernel_rfl)
    (of_decide_eq_true (by kernel_rfl)) (by unfold Func.isWrapper; first | (rw [if_pos (by decide +kernel)]; kernel_rfl) | (rw [if_neg (by decide +kernel)]; exact ⟨rfl, rfl⟩))
    (fun os started H enc _ => lifted os started H enc)

/-- ████ THE STATEMENT ████ -/
theorem proved : Rows.SipBackSaid := over
#print axioms proved
end Go.Proofs.Ytmkibkeacbhhaaa.sipBack
