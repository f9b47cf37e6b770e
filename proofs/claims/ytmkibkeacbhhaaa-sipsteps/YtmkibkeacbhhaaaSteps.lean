/-
  SipSteps: for every input the law answers true and leaves its arguments as they were: the walk is typed by hand, the row's step is the guide's template.
  Conditions: none beside the row's own.
-/
import Derived.Test.YtmkibkeacbhhaaaEq
import Derived.Test.YtmkibkeacbhhaaaRefTake
import Derived.Deep.RegionHeld3
import Derived.Test.YtmkibkeacbhhaaaOpen
import Derived.Test.YtmkibkeacbhhaaaRows
import Derived.WalkKit
import Derived.ProofKit
import Derived.OpenShut
import Derived.ShutString
import Derived.ChangeOld
import Derived.Below
namespace Go.Proofs.Ytmkibkeacbhhaaa.sipSteps
open Go.ChangeShapes Go.WideShapes Go.ChangeAt Go.RowKit
set_option linter.unusedVariables false
theorem own : ownKnob Try.prog.godebug = none := by kernel_rfl
theorem laidOut : laidOutB Try.prog = true := by kernel_rfl
theorem seed_list (l : List UInt8) : seedV l = (l.map (fun b => Value.int .u8 (b.toNat : Int))).toArray := rfl
def G4 (arr : Array Value) (v : Value) : Nat → Value → World → Prop
  | 0, u, _ => u = .agg arr
  | 1, u, _ => u = v
  | 2, u, _ => u = .agg arr
  | 3, u, _ => u = v
  | _, _, _ => True
theorem G4.below {arr : Array Value} {v : Value} : ∀ (i : Nat) (u : Value) (w w' : World), G4 arr v i u w → Below w.heap.size w w' → G4 arr v i u w'
  | 0, _, _, _, h, _ => h
  | 1, _, _, _, h, _ => h
  | 2, _, _, _, h, _ => h
  | 3, _, _, _, h, _ => h
  | _ + 4, _, _, _, _, _ => trivial
set_option maxRecDepth 100000 in
set_option maxHeartbeats 4000000 in
theorem walk {sd0 : List UInt8} {p1 q1 r1 s1 : Nat} {m2 : Nat} (w : World) (hs0 : sd0.length = 16) (hx1 : St.ok ⟨p1, q1, r1, s1⟩) (hm2 : m2 < 18446744073709551616) :
    Calls Try.prog 5 #[.agg (seedV sd0), .agg #[.int .u64 p1, .int .u64 q1, .int .u64 r1, .int .u64 s1], .int .u64 m2] w fun e w' => e = .returned (.bool true) ∧ Below w.heap.size w w' := by
  obtain ⟨z0, hz0⟩ : ∃ z, z = St.start sd0 := ⟨_, rfl⟩
  have hb1 := fun W => begin_any sd0 W hs0 z0 hz0
  have hb2 := fun W => refBegin_any sd0 W hs0 z0 hz0
  obtain ⟨z1, hz1⟩ : ∃ z, z = St.take ⟨p1, q1, r1, s1⟩ m2 := ⟨_, rfl⟩
  have ht1 := fun W => take_any p1 q1 r1 s1 m2 W hx1 hm2 z1 hz1
  have ht2 := fun W => refTake_any p1 q1 r1 s1 m2 W hx1 hm2 z1 hz1
  obtain ⟨ye, hye⟩ : ∃ z, z = St.fin ⟨p1, q1, r1, s1⟩ := ⟨_, rfl⟩
  have he1 := fun W => end_any p1 q1 r1 s1 W hx1 ye hye
  have he2 := fun W => refEnd_any p1 q1 r1 s1 W hx1 ye hye
  have hsz := seedV_size sd0
  rw [hs0] at hsz
  obtain ⟨arr, harr⟩ : ∃ a, a = seedV sd0 := ⟨_, rfl⟩
  rw [← harr] at hsz
  rw [← harr]
  simp only [← harr] at hb1 hb2
  clear hz0 hz1 hye hx1 hm2 hs0 harr
  obtain ⟨a0, b0, c0, d0⟩ := z0
  obtain ⟨a1, b1, c1, d1⟩ := z1
  simp only at hb1 hb2 ht1 ht2
  have hq0 := fun W => run_neq_state W a0 b0 c0 d0
  have hq1 := fun W => run_eql_state W a1 b1 c1 d1 a1 b1 c1 d1
  simp only [decide_true] at hq1
  have hg := fun W op x y xs ys => run_guard_state W op x y xs ys
  have HB1 := Lib.hid hb1; clear hb1
  have HB2 := Lib.hid hb2; clear hb2
  have HT1 := Lib.hid ht1; clear ht1
  have HT2 := Lib.hid ht2; clear ht2
  have HE1 := Lib.hid he1; clear he1
  have HE2 := Lib.hid he2; clear he2
  obtain ⟨W0, hW0⟩ : ∃ W, W = (w.alloc (.cells arr 23)).alloc (.cells #[.int .u64 p1, .int .u64 q1, .int .u64 r1, .int .u64 s1] 31) := ⟨_, rfl⟩
  have hb0 : Below w.heap.size w W0 := by rw [hW0]; exact ((Below.refl _ _).alloc (Nat.le_refl _) _).alloc (by simp) _
  have hrow : W0.drew.heap[w.heap.size]? = some (.cells arr 23 (0, 0)) := by rw [hW0]; exact heap_alloc2_old w _ _
  have HROW := Lib.hid hrow; clear hrow
  have keep : ∀ X, Below W0.heap.size W0 X → (X.cell? ⟨w.heap.size + 1, 0, none⟩ = some (.int .u64 p1) ∧ X.cell? ⟨w.heap.size + 1, 1, none⟩ = some (.int .u64 q1) ∧ X.cell? ⟨w.heap.size + 1, 2, none⟩ = some (.int .u64 r1) ∧ X.cell? ⟨w.heap.size + 1, 3, none⟩ = some (.int .u64 s1)) := by
    intro X hX
    have h0 : W0.heap[w.heap.size + 1]? = some (.cells #[.int .u64 p1, .int .u64 q1, .int .u64 r1, .int .u64 s1] 31 (0, 0)) := by rw [hW0]; exact heap_alloc2_new w _ _
    obtain ⟨k0, k1, k2, k3, _⟩ := cells4 (row_below h0 hX)
    exact ⟨k0, k1, k2, k3⟩
  have HW0 := Lib.hid hW0; clear hW0
  have HB0 := Lib.hid hb0; clear hb0
  have KEEP := Lib.hid keep; clear keep
  go_enter Try.func5, Try.ntmps5
  go_wp2_with fail
  rw [← HW0.out]
  refine wp_region_grow 4 (by kernel_rfl) (by kernel_rfl) (G4 arr (.agg #[.int .u64 (a0 : Int), .int .u64 (b0 : Int), .int .u64 (c0 : Int), .int .u64 (d0 : Int)])) (fun _ _ _ _ => True) G4.below ?_ ?_ ?_
  · intro i hi
    have hc : i = 0 ∨ i = 1 ∨ i = 2 ∨ i = 3 := by omega
    rcases hc with rfl | rfl | rfl | rfl <;> exact ⟨_, rfl, by simp⟩
  · intro i hi listed a w' hag hdep
    have hrow := row_below HROW.out hag.bel
    have e3 := hag.keeps 3 _ (by kernel_rfl) rfl
    have hc : i = 0 ∨ i = 1 ∨ i = 2 ∨ i = 3 := by omega
    rcases hc with rfl | rfl | rfl | rfl
    · exact wpOp_of _ rfl rfl (wp_load_row 23 _ rfl w.heap.size (eval_tmp e3) 23 arr (0, 0) _ hrow Try.underlying23 rfl (by rw [hsz]; kernel_rfl) ⟨_, rfl, Below.refl _ _, rfl, fun _ _ _ _ _ => ⟨trivial, trivial⟩⟩)
    · obtain ⟨v, hv, hg'⟩ := hag.slot 0 7 (by decide) (hdep 0 ⟨_, rfl, ⟨0, .data⟩, by simp, rfl, rfl⟩) rfl
      obtain rfl : v = _ := hg'
      refine wpOp_of _ rfl rfl ?_
      unfold Oper.wp execOp
      go_simp
      refine (HB1.out w').mono ?_
      rintro e w'' ⟨rfl, hb⟩
      exact ⟨_, rfl, hb, rfl⟩
    · exact wpOp_of _ rfl rfl (wp_load_row 23 _ rfl w.heap.size (eval_tmp e3) 23 arr (0, 0) _ hrow Try.underlying23 rfl (by rw [hsz]; kernel_rfl) ⟨_, rfl, Below.refl _ _, rfl, fun _ _ _ _ _ => ⟨trivial, trivial⟩⟩)
    · obtain ⟨v, hv, hg'⟩ := hag.slot 2 9 (by decide) (hdep 2 ⟨_, rfl, ⟨2, .data⟩, by simp, rfl, rfl⟩) rfl
      obtain rfl : v = _ := hg'
      refine wpOp_of _ rfl rfl ?_
      unfold Oper.wp execOp
      go_simp
      refine (HB2.out w').mono ?_
      rintro e w'' ⟨rfl, hb⟩
      exact ⟨_, rfl, hb, rfl⟩
  intro listed a wB hall hag
  obtain ⟨v0, s0', g0⟩ := hag.slot 0 7 (by decide) (hall 0 (by decide)) rfl
  obtain rfl : v0 = _ := g0
  obtain ⟨v1, s1', g1⟩ := hag.slot 1 8 (by decide) (hall 1 (by decide)) rfl
  obtain rfl : v1 = _ := g1
  obtain ⟨v2, s2', g2⟩ := hag.slot 2 9 (by decide) (hall 2 (by decide)) rfl
  obtain rfl : v2 = _ := g2
  obtain ⟨v3, s3', g3⟩ := hag.slot 3 10 (by decide) (hall 3 (by decide)) rfl
  obtain rfl : v3 = _ := g3
  have ha := hag.whole [(7, .agg arr), (8, .agg #[.int .u64 (a0 : Int), .int .u64 (b0 : Int), .int .u64 (c0 : Int), .int .u64 (d0 : Int)]), (9, .agg arr), (10, .agg #[.int .u64 (a0 : Int), .int .u64 (b0 : Int), .int .u64 (c0 : Int), .int .u64 (d0 : Int)])] (by
    intro i hi
    have hc : i = 0 ∨ i = 1 ∨ i = 2 ∨ i = 3 := by omega
    rcases hc with rfl | rfl | rfl | rfl <;> exact ⟨_, rfl, by simp⟩) (List.forall_mem_cons.2 ⟨s0', List.forall_mem_cons.2 ⟨s1', List.forall_mem_cons.2 ⟨s2', List.forall_mem_cons.2 ⟨s3', fun p hp => absurd hp (by simp)⟩⟩⟩⟩)
  simp only [List.foldl_cons, List.foldl_nil, List.setIfInBounds_toArray, List.set_cons_succ, List.set_cons_zero] at ha
  have hzB : Below W0.heap.size W0 wB := (Below.refl _ _).drew.trans hag.bel
  clear hag hall s0' s1' s2' s3'
  rw [ha]
  clear ha a listed
  simp only [List.drop_succ_cons, List.drop_zero]
  go_wp2_with fail
  have hy0 : Below W0.heap.size W0 wB.drew := hzB.drew
  go_region_held3 (fun X => X.cell? ⟨w.heap.size + 1, 0, none⟩ = some (.int .u64 p1) ∧ X.cell? ⟨w.heap.size + 1, 1, none⟩ = some (.int .u64 q1) ∧ X.cell? ⟨w.heap.size + 1, 2, none⟩ = some (.int .u64 r1) ∧ X.cell? ⟨w.heap.size + 1, 3, none⟩ = some (.int .u64 s1)) (first | exact KEEP.out _ hy0 | exact KEEP.out _ hyA | exact KEEP.out _ hyB | exact KEEP.out _ hyC | exact KEEP.out _ hyD | exact KEEP.out _ hyE) (first
    | (go_at_call 15; refine (HT1.out _).mono ?_; rintro e xA ⟨rfl, hA⟩; have hyA := hy0.trans (hA.mono hy0.size))
    | (go_at_call 16; refine (HT2.out _).mono ?_; rintro e xB ⟨rfl, hB⟩; have hyB := hyA.trans (hB.mono hyA.size))
    | (go_at_call 17; refine (HE1.out _).mono ?_; rintro e xC ⟨rfl, hC⟩; have hyC := hyB.trans (hC.mono hyB.size))
    | (go_at_call 18; refine (HE2.out _).mono ?_; rintro e xD ⟨rfl, hD⟩; have hyD := hyC.trans (hD.mono hyC.size))
    | (go_at_call 8; refine (awake_any _).mono ?_; rintro e xE ⟨rfl, hE⟩; have hyE := hyD.trans (hE.mono hyD.size)))
  all_goals
    go_wp2_with fail
    go_ret
    exact ⟨rfl, below_then HB0.out hyE⟩
/-! ### THE ROW's STEP -/
set_option maxRecDepth 100000 in
theorem lifted (os : Os) (started : os.Started) (H : Type) (enc : TypeId × Value → H) :
    ReturnsInHanded {} Try.checked os 5 .any (Rows.sipStepsSpec.pre6 enc Try.prog Try.f5 Rows.sipStepsRow.domain false) (Rows.sipStepsSpec.post enc Try.prog Try.f5 false true false false) := by
  refine returnsInHanded_of_change (C := Try.checked) own started (by kernel_rfl) Try.func5
    (ChangeSpec.witness6 (enc := enc) (C := Try.checked) false ⟨#[], #[.agg #[.int .u8 0, .int .u8 0, .int .u8 0, .int .u8 0, .int .u8 0, .int .u8 0, .int .u8 0, .int .u8 0, .int .u8 0, .int .u8 0, .int .u8 0, .int .u8 0, .int .u8 0, .int .u8 0, .int .u8 0, .int .u8 0], .agg #[.int .u64 0, .int .u64 0, .int .u64 0, .int .u64 0], .int .u64 0], []⟩ 8 (by kernel_rfl) (by kernel_rfl) (by kernel_rfl) (by kernel_rfl)) ?_
  intro W base args ds gs before hval0 hW hcnd _
  have hval : ∀ (j : Nat) t v, Try.f5.params[j]? = some t → args[j]? = some v → Value.okWide Try.prog W .any base t v := hval0
  have hW' := hW
  obtain ⟨p, q, hA0, hV, rfl, hfz, hnd⟩ := hW
  have hA : DataW.TrodAll enc Try.prog W 0 (fun _ => true) true Try.f5.params.toList args.toList ds p := hA0
  rw [Try.params5] at hA hval
  obtain ⟨v0, vs0, d0, ds0, p0, q0, hargs, rfl, rfl, h0, r0⟩ := trodAll_cons hA
  obtain ⟨v1, vs1, d1, ds1, p1, q1, rfl, rfl, rfl, h1, r1⟩ := trodAll_cons r0
  obtain ⟨v2, vs2, d2, ds2, p2, q2, rfl, rfl, rfl, h2, r2⟩ := trodAll_cons r1
  obtain ⟨rfl, rfl, rfl⟩ := trodAll_nil r2
  obtain rfl : args = #[v0, v1, v2] := by cases args; simp_all
  obtain ⟨rfl, rfl⟩ := trodVars_none hV
  have lt0 : ∀ x ∈ p0, x.block < W.heap.size := by obtain ⟨m, hm⟩ := h0; exact DataW.trod_lt m _ _ _ hm
  have ok0 := hval 0 23 v0 rfl rfl
  have lt1 : ∀ x ∈ p1, x.block < W.heap.size := by obtain ⟨m, hm⟩ := h1; exact DataW.trod_lt m _ _ _ hm
  have ok1 := hval 1 31 v1 rfl rfl
  have lt2 : ∀ x ∈ p2, x.block < W.heap.size := by obtain ⟨m, hm⟩ := h2; exact DataW.trod_lt m _ _ _ hm
  have ok2 := hval 2 26 v2 rfl rfl
  clear hA0 hval0 hval
  obtain ⟨sd0, rfl, hs0⟩ := seed_open ok0 h0
  obtain ⟨x1a, x1b, x1c, x1d, rfl, hx1⟩ := state_open ok1 h1
  obtain ⟨m2, rfl, hm2⟩ := num_open ok2 h2
  refine (walk W hs0 hx1 hm2).mono fun e W' ⟨he, bel⟩ => ?_
  subst he
  exact ⟨_, rfl, _, _, _, [], _, [], hW', trodAll_mk1 (shut_bool Try.underlying4 _), (trodAll_cons_mk (Below.trod laidOut (by kernel_rfl) (of_decide_eq_true (by kernel_rfl)) h0 bel lt0) (trodAll_cons_mk (Below.trod laidOut (by kernel_rfl) (of_decide_eq_true (by kernel_rfl)) h1 bel lt1) (trodAll_cons_mk (Below.trod laidOut (by kernel_rfl) (of_decide_eq_true (by kernel_rfl)) h2 bel lt2) trodAll_mk0))), rfl, bel.frame _, fun h => by cases h⟩

theorem over : Rows.sipStepsRow.holds Try.pinned (OpenSpec.ofChange Rows.sipStepsSpec) :=
  OpenClaim.holds_of_wide 5 Try.f5 rfl rfl rfl rfl rfl rfl rfl ⟨rfl, rfl, rfl, rfl, rfl⟩ rfl rfl rfl rfl rfl (by kernel_rfl) Try.func5 (by kernel_rfl)
    (of_decide_eq_true (by kernel_rfl)) (by unfold Func.isWrapper; first | (rw [if_pos (by decide +kernel)]; kernel_rfl) | (rw [if_neg (by decide +kernel)]; exact ⟨rfl, rfl⟩))
    (fun os started H enc _ => lifted os started H enc)

/-- ████ THE STATEMENT ████ -/
theorem proved : Rows.SipStepsSaid := over
#print axioms proved
end Go.Proofs.Ytmkibkeacbhhaaa.sipSteps
