/-
  SipHashes: for every input the law answers true and leaves its arguments as they were: the walk is typed by hand, the row's step is the guide's template.
  Conditions: none beside the row's own.
-/
import Derived.Test.YtmkibkeacbhhaaaAwake
import Derived.Test.YtmkibkeacbhhaaaRefHash
import Derived.Test.YtmkibkeacbhhaaaOpen
import Derived.Test.YtmkibkeacbhhaaaRows
import Derived.WalkKit
import Derived.ProofKit
import Derived.OpenShut
import Derived.ShutString
import Derived.ChangeOld
import Derived.Below
namespace Go.Proofs.Ytmkibkeacbhhaaa.sipHashes
open Go.ChangeShapes Go.WideShapes Go.ChangeAt Go.RowKit
set_option linter.unusedVariables false
theorem own : ownKnob Try.prog.godebug = none := by kernel_rfl
theorem laidOut : laidOutB Try.prog = true := by kernel_rfl
def G7 (arr : Array Value) (k : Value) (s : Value) (y : Value) : Nat → Value → World → Prop
  | 0, u, _ => u = .agg arr
  | 1, u, _ => u = k
  | 2, u, _ => u = y
  | 3, u, _ => u = .agg arr
  | 4, u, _ => u = k
  | 5, u, _ => u = s
  | 6, u, _ => u = y
  | _, _, _ => True
theorem G7.below {arr : Array Value} {k s y : Value} : ∀ (i : Nat) (u : Value) (w w' : World), G7 arr k s y i u w → Below w.heap.size w w' → G7 arr k s y i u w'
  | 0, _, _, _, h, _ => h
  | 1, _, _, _, h, _ => h
  | 2, _, _, _, h, _ => h
  | 3, _, _, _, h, _ => h
  | 4, _, _, _, h, _ => h
  | 5, _, _, _, h, _ => h
  | 6, _, _, _, h, _ => h
  | _ + 7, _, _, _, _, _ => trivial
set_option maxRecDepth 100000 in
set_option maxHeartbeats 4000000 in
theorem walk {sd0 : List UInt8} {A1 : Option Addr} {c1 : Nat} {l1 : List UInt8} (w : World) (hs0 : sd0.length = 16) (hc1 : l1.length ≤ c1) (hm1 : c1 ≤ maxLen) (ha1 : Bts w A1 l1) :
    Calls Try.prog 3 #[.agg (seedV sd0), .slice A1 l1.length c1] w fun e w' => e = .returned (.bool true) ∧ Below w.heap.size w w' := by
  have hsz := seedV_size sd0
  rw [hs0] at hsz
  by_cases h400 : 400 < l1.length
  · clear hs0 ha1 hc1 hm1
    generalize seedV sd0 = arr at *
    go_enter Try.func3, Try.ntmps3
    go_wp2_with fail
    refine (awake_any _).mono ?_
    rintro e w' ⟨rfl, hbel⟩
    have HBE := Lib.hid hbel; clear hbel
    go_wp2_with fail
    go_ret
    exact ⟨rfl, below_then ((Below.refl _ _).alloc (Nat.le_refl _) _) HBE.out⟩
  · have hh1 := fun (W : World) (hb : Bts W A1 l1) => hash_any sd0 l1 A1 c1 W hb hc1 (by omega) hs0
    have hh2 := fun (W : World) => refHash_any sd0 ⟨l1.toArray⟩ W (by simp [ByteArray.size]; omega) hs0
    simp only [] at hh2
    obtain ⟨y, hy⟩ : ∃ y, y = hashN sd0 l1 := ⟨_, rfl⟩
    have hcv := fun (W : World) (hb : Bts W A1 l1) => conv_any hb c1
    obtain ⟨s, hs⟩ : ∃ s : ByteArray, s = ⟨l1.toArray⟩ := ⟨_, rfl⟩
    obtain ⟨arr, harr⟩ : ∃ a, a = seedV sd0 := ⟨_, rfl⟩
    rw [← harr] at hsz
    rw [← harr]
    simp only [← harr, ← hy, ← hs] at hh1 hh2 hcv
    obtain ⟨n, hn⟩ : ∃ n, n = l1.length := ⟨_, rfl⟩
    rw [← hn] at hh1 hcv h400
    rw [← hn]
    have HH1 := Lib.hid hh1; clear hh1
    have HH2 := Lib.hid hh2; clear hh2
    have HCV := Lib.hid hcv; clear hcv
    have HBT := Lib.hid ha1; clear ha1
    clear hy hs harr hs0 hc1 hm1 hn
    obtain ⟨W0, hW0⟩ : ∃ W, W = w.alloc (.cells arr 23) := ⟨_, rfl⟩
    have hb0 : Below w.heap.size w W0 := by rw [hW0]; exact (Below.refl _ _).alloc (Nat.le_refl _) _
    have hrow : W0.drew.heap[w.heap.size]? = some (.cells arr 23 (0, 0)) := by rw [hW0]; exact heap_alloc_new w _
    have HROW := Lib.hid hrow; clear hrow
    have HW0 := Lib.hid hW0; clear hW0
    have HB0 := Lib.hid hb0; clear hb0
    go_enter Try.func3, Try.ntmps3
    go_wp2_with fail
    rw [← HW0.out]
    refine wp_region_grow 7 (by kernel_rfl) (by kernel_rfl) (G7 arr (.slice A1 n c1) (.string s) (.int .u64 (y : Int))) (fun _ _ _ _ => True) G7.below ?_ ?_ ?_
    · intro i hi
      have hc : i = 0 ∨ i = 1 ∨ i = 2 ∨ i = 3 ∨ i = 4 ∨ i = 5 ∨ i = 6 := by omega
      rcases hc with rfl | rfl | rfl | rfl | rfl | rfl | rfl <;> exact ⟨_, rfl, by simp⟩
    · intro i hi listed a w' hag hdep
      have hrow := row_below HROW.out hag.bel
      have hbts := HBT.out.below (below_then HB0.out.drew hag.bel)
      have e1 := hag.keeps 1 _ (by kernel_rfl) rfl
      have e2 := hag.keeps 2 _ (by kernel_rfl) rfl
      have hc : i = 0 ∨ i = 1 ∨ i = 2 ∨ i = 3 ∨ i = 4 ∨ i = 5 ∨ i = 6 := by omega
      rcases hc with rfl | rfl | rfl | rfl | rfl | rfl | rfl
      · exact wpOp_of _ rfl rfl (wp_load_row 23 _ rfl w.heap.size (eval_tmp e2) 23 arr (0, 0) _ hrow Try.underlying23 rfl (by rw [hsz]; kernel_rfl) ⟨_, rfl, Below.refl _ _, rfl, fun _ _ _ _ _ => ⟨trivial, trivial⟩⟩)
      · refine wpOp_of _ rfl rfl ?_
        unfold Oper.wp execOp
        go_simp
        exact ⟨_, rfl, Below.refl _ _, rfl⟩
      · obtain ⟨v, hv, hg'⟩ := hag.slot 0 9 (by decide) (hdep 0 ⟨_, rfl, ⟨0, .data⟩, by simp, rfl, rfl⟩) rfl
        obtain rfl : v = _ := hg'
        obtain ⟨v, hv2, hg'⟩ := hag.slot 1 10 (by decide) (hdep 1 ⟨_, rfl, ⟨1, .data⟩, by simp, rfl, rfl⟩) rfl
        obtain rfl : v = _ := hg'
        refine wpOp_of _ rfl rfl ?_
        unfold Oper.wp execOp
        go_simp
        refine (HH1.out w' hbts).mono ?_
        rintro e w'' ⟨rfl, hb⟩
        exact ⟨_, rfl, hb, rfl⟩
      · exact wpOp_of _ rfl rfl (wp_load_row 23 _ rfl w.heap.size (eval_tmp e2) 23 arr (0, 0) _ hrow Try.underlying23 rfl (by rw [hsz]; kernel_rfl) ⟨_, rfl, Below.refl _ _, rfl, fun _ _ _ _ _ => ⟨trivial, trivial⟩⟩)
      · refine wpOp_of _ rfl rfl ?_
        unfold Oper.wp execOp
        go_simp
        exact ⟨_, rfl, Below.refl _ _, rfl⟩
      · obtain ⟨v, hv, hg'⟩ := hag.slot 4 13 (by decide) (hdep 4 ⟨_, rfl, ⟨4, .data⟩, by simp, rfl, rfl⟩) rfl
        obtain rfl : v = _ := hg'
        have hcv := HCV.out w' hbts
        refine wpOp_of _ rfl rfl ?_
        unfold Oper.wp execOp
        go_simp
        exact ⟨_, rfl, Below.refl _ _, rfl⟩
      · obtain ⟨v, hv, hg'⟩ := hag.slot 3 12 (by decide) (hdep 3 ⟨_, rfl, ⟨3, .data⟩, by simp, rfl, rfl⟩) rfl
        obtain rfl : v = _ := hg'
        obtain ⟨v, hv2, hg'⟩ := hag.slot 5 14 (by decide) (hdep 5 ⟨_, rfl, ⟨5, .data⟩, by simp, rfl, rfl⟩) rfl
        obtain rfl : v = _ := hg'
        refine wpOp_of _ rfl rfl ?_
        unfold Oper.wp execOp
        go_simp
        refine (HH2.out w').mono ?_
        rintro e w'' ⟨rfl, hb⟩
        exact ⟨_, rfl, hb, rfl⟩
    intro listed a wB hall hag
    obtain ⟨v0, s0', g0⟩ := hag.slot 0 9 (by decide) (hall 0 (by decide)) rfl
    obtain rfl : v0 = _ := g0
    obtain ⟨v1, s1', g1⟩ := hag.slot 1 10 (by decide) (hall 1 (by decide)) rfl
    obtain rfl : v1 = _ := g1
    obtain ⟨v2, s2', g2⟩ := hag.slot 2 11 (by decide) (hall 2 (by decide)) rfl
    obtain rfl : v2 = _ := g2
    obtain ⟨v3, s3', g3⟩ := hag.slot 3 12 (by decide) (hall 3 (by decide)) rfl
    obtain rfl : v3 = _ := g3
    obtain ⟨v4, s4', g4⟩ := hag.slot 4 13 (by decide) (hall 4 (by decide)) rfl
    obtain rfl : v4 = _ := g4
    obtain ⟨v5, s5', g5⟩ := hag.slot 5 14 (by decide) (hall 5 (by decide)) rfl
    obtain rfl : v5 = _ := g5
    obtain ⟨v6, s6', g6⟩ := hag.slot 6 15 (by decide) (hall 6 (by decide)) rfl
    obtain rfl : v6 = _ := g6
    have ha := hag.whole [(9, .agg arr), (10, .slice A1 n c1), (11, .int .u64 (y : Int)), (12, .agg arr), (13, .slice A1 n c1), (14, .string s), (15, .int .u64 (y : Int))] (by
      intro i hi
      have hc : i = 0 ∨ i = 1 ∨ i = 2 ∨ i = 3 ∨ i = 4 ∨ i = 5 ∨ i = 6 := by omega
      rcases hc with rfl | rfl | rfl | rfl | rfl | rfl | rfl <;> exact ⟨_, rfl, by simp⟩) (List.forall_mem_cons.2 ⟨s0', List.forall_mem_cons.2 ⟨s1', List.forall_mem_cons.2 ⟨s2', List.forall_mem_cons.2 ⟨s3', List.forall_mem_cons.2 ⟨s4', List.forall_mem_cons.2 ⟨s5', List.forall_mem_cons.2 ⟨s6', fun p hp => absurd hp (by simp)⟩⟩⟩⟩⟩⟩⟩)
    simp only [List.foldl_cons, List.foldl_nil, List.setIfInBounds_toArray, List.set_cons_succ, List.set_cons_zero] at ha
    have hzB : Below w.heap.size w wB := below_then HB0.out.drew hag.bel
    have HZB := Lib.hid hzB; clear hzB
    clear hag hall s0' s1' s2' s3' s4' s5' s6'
    rw [ha]
    clear ha a listed
    simp only [List.drop_succ_cons, List.drop_zero]
    go_wp2_with fail
    refine (awake_any _).mono ?_
    rintro e w' ⟨rfl, hbel⟩
    have HBE := Lib.hid hbel; clear hbel
    go_wp2_with fail
    go_ret
    exact ⟨rfl, below_then HZB.out HBE.out⟩
/-! ### THE ROW's STEP -/
set_option maxRecDepth 100000 in
theorem lifted (os : Os) (started : os.Started) (H : Type) (enc : TypeId × Value → H) :
    ReturnsInHanded {} Try.checked os 3 .any (Rows.sipHashesSpec.pre6 enc Try.prog Try.f3 Rows.sipHashesRow.domain false) (Rows.sipHashesSpec.post enc Try.prog Try.f3 false true false false) := by
  refine returnsInHanded_of_change (C := Try.checked) own started (by kernel_rfl) Try.func3
    (ChangeSpec.witness6 (enc := enc) (C := Try.checked) false ⟨#[], #[.agg #[.int .u8 0, .int .u8 0, .int .u8 0, .int .u8 0, .int .u8 0, .int .u8 0, .int .u8 0, .int .u8 0, .int .u8 0, .int .u8 0, .int .u8 0, .int .u8 0, .int .u8 0, .int .u8 0, .int .u8 0, .int .u8 0], .slice none 0 0], []⟩ 8 (by kernel_rfl) (by kernel_rfl) (by kernel_rfl) (by kernel_rfl)) ?_
  intro W base args ds gs before hval0 hW hcnd _
  have hval : ∀ (j : Nat) t v, Try.f3.params[j]? = some t → args[j]? = some v → Value.okWide Try.prog W .any base t v := hval0
  have hW' := hW
  obtain ⟨p, q, hA0, hV, rfl, hfz, hnd⟩ := hW
  have hA : DataW.TrodAll enc Try.prog W 0 (fun _ => true) true Try.f3.params.toList args.toList ds p := hA0
  rw [Try.params3] at hA hval
  obtain ⟨v0, vs0, d0, ds0, p0, q0, hargs, rfl, rfl, h0, r0⟩ := trodAll_cons hA
  obtain ⟨v1, vs1, d1, ds1, p1, q1, rfl, rfl, rfl, h1, r1⟩ := trodAll_cons r0
  obtain ⟨rfl, rfl, rfl⟩ := trodAll_nil r1
  obtain rfl : args = #[v0, v1] := by cases args; simp_all
  obtain ⟨rfl, rfl⟩ := trodVars_none hV
  have lt0 : ∀ x ∈ p0, x.block < W.heap.size := by obtain ⟨m, hm⟩ := h0; exact DataW.trod_lt m _ _ _ hm
  have ok0 := hval 0 23 v0 rfl rfl
  have lt1 : ∀ x ∈ p1, x.block < W.heap.size := by obtain ⟨m, hm⟩ := h1; exact DataW.trod_lt m _ _ _ hm
  have ok1 := hval 1 24 v1 rfl rfl
  clear hA0 hval0 hval
  obtain ⟨sd0, rfl, hs0⟩ := seed_open ok0 h0
  obtain ⟨A1, c1, l1, rfl, hc1, hm1, ha1⟩ := bytes_open ok1 h1
  refine (walk W hs0 hc1 hm1 ha1).mono fun e W' ⟨he, bel⟩ => ?_
  subst he
  exact ⟨_, rfl, _, _, _, [], _, [], hW', trodAll_mk1 (shut_bool Try.underlying4 _), (trodAll_cons_mk (Below.trod laidOut (by kernel_rfl) (of_decide_eq_true (by kernel_rfl)) h0 bel lt0) (trodAll_cons_mk (Below.trod laidOut (by kernel_rfl) (of_decide_eq_true (by kernel_rfl)) h1 bel lt1) trodAll_mk0)), rfl, bel.frame _, fun h => by cases h⟩

theorem over : Rows.sipHashesRow.holds Try.pinned (OpenSpec.ofChange Rows.sipHashesSpec) :=
  OpenClaim.holds_of_wide 3 Try.f3 rfl rfl rfl rfl rfl rfl rfl ⟨rfl, rfl, rfl, rfl, rfl⟩ rfl rfl rfl rfl rfl (by kernel_rfl) Try.func3 (by kernel_rfl)
    (of_decide_eq_true (by kernel_rfl)) (by unfold Func.isWrapper; first | (rw [if_pos (by decide +kernel)]; kernel_rfl) | (rw [if_neg (by decide +kernel)]; exact ⟨rfl, rfl⟩))
    (fun os started H enc _ => lifted os started H enc)

/-- ████ THE STATEMENT ████ -/
theorem proved : Rows.SipHashesSaid := over
#print axioms proved
end Go.Proofs.Ytmkibkeacbhhaaa.sipHashes
