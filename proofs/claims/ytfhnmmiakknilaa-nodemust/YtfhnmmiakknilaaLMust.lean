/-
  NodeMust: for every input the law answers true and leaves its arguments as they were: the walk is typed by hand, the row's step is the guide's template.
  Conditions: none beside the row's own.
-/
import Derived.Test.YtfhnmmiakknilaaWake
import Derived.Deep.RegionHeld3
import Derived.Test.YtfhnmmiakknilaaIn
import Derived.Test.YtfhnmmiakknilaaRows
import Derived.WalkKit
import Derived.ProofKit
import Derived.OpenShut
import Derived.ShutString
import Derived.ChangeOld
import Derived.Below
namespace Go.Proofs.Ytfhnmmiakknilaa.nodeMust
open Go.ChangeShapes Go.WideShapes Go.ChangeAt Go.RowKit
set_option linter.unusedVariables false
theorem own : ownKnob Try.prog.godebug = none := by kernel_rfl
theorem laidOut : laidOutB Try.prog = true := by kernel_rfl
attribute [local go_sem] Oper.semAt_some
set_option maxRecDepth 100000 in
set_option maxHeartbeats 4000000 in
theorem walk {A0 : Option Addr} {c0 : Nat} {L0 : List Pln} {z1 : Int} (w : World) (hc0 : L0.length ≤ c0) (hm0 : c0 ≤ maxLen) (ha0 : Pls w A0 L0) (hl1 : -9223372036854775808 ≤ z1) (hu1 : z1 ≤ 9223372036854775807) :
    Calls Try.prog 4 #[.slice A0 L0.length c0, .int .i64 z1] w fun e w' => e = .returned (.bool true) ∧ Below w.heap.size w w' := by
  have hml : maxLen ≤ 9223372036854775807 := by decide
  have hf := fine_any ha0 c0 (Nat.le_trans (Nat.le_trans hc0 hm0) hml)
  obtain ⟨n, hn⟩ : ∃ n, n = L0.length := ⟨_, rfl⟩
  rw [← hn] at hf hc0 ⊢
  have HN := Lib.hid hn; clear hn
  cases hs : fineB L0 with
  | false =>
    rw [hs] at hf
    have HF := Lib.hid hf; clear hf
    clear ha0 hc0 hm0 hs
    go_enter Try.func4, Try.ntmps4
    go_wp2_with fail
    refine HF.out.mono ?_
    rintro e w1 ⟨rfl, hb1⟩
    have HA := Lib.hid (awake_any w1)
    have HB := Lib.hid hb1; clear hb1
    go_wp2_with fail
    refine HA.out.mono ?_
    rintro e w2 ⟨rfl, hb2⟩
    have HB2 := Lib.hid (below_then HB.out hb2); clear hb2
    go_wp2_with fail
    go_ret
    exact ⟨rfl, HB2.out⟩
  | true =>
    rw [hs] at hf
    have hl12 : n ≤ 12 := by
      simp only [fineB, Bool.and_eq_true, decide_eq_true_eq] at hs
      have := HN.out; omega
    have HF := Lib.hid hf; clear hf
    clear hc0 hm0
    go_enter Try.func4, Try.ntmps4
    go_wp2_with fail
    refine HF.out.mono ?_
    rintro e w1 ⟨rfl, hb1⟩
    have HB := Lib.hid hb1; clear hb1
    have HFI := Lib.hid hs; clear hs
    have HA0 := Lib.hid ha0; clear ha0
    go_wp2_with fail
    go_loopw [15] (fun i wr => ∃ j : Nat, i = .int .i64 (j : Int) ∧ j ≤ n ∧ Hid (Below w.heap.size w wr)) (fun i _ => n - (intOf i).toNat)
    case atStart => exact ⟨0, rfl, by omega, HB.out⟩
    case round =>
      obtain ⟨j, rfl, hj, hbel⟩ := hrel
      by_cases hlt : j < n
      · have hb := build_any (F := fun _ => True) (at' := j) c0 HFI.out (by have := HN.out; omega) (fun _ _ => trivial) (HA0.out.below hbel.out)
        rw [← HN.out] at hb
        have J := Lib.hid hb; clear hb
        go_wp2_with fail
        refine J.out.mono ?_
        rintro e w2 ⟨v, ⟨pa, pc, sa, sc, ka, kc⟩, x, rfl, hN, hM, hok, hcn, hb2⟩
        have hb02 := below_then hbel.out hb2
        obtain ⟨gx, hgx⟩ : ∃ g, g = w2.heap.size := ⟨_, rfl⟩
        obtain ⟨kd, hkd⟩ : ∃ k, k = x.kind := ⟨_, rfl⟩
        obtain ⟨hs, hhs⟩ : ∃ k, k = x.hash := ⟨_, rfl⟩
        obtain ⟨np, hnp⟩ : ∃ k, k = x.prs.length := ⟨_, rfl⟩
        obtain ⟨ns, hns⟩ : ∃ k, k = x.set.length := ⟨_, rfl⟩
        obtain ⟨nk, hnk⟩ : ∃ k, k = x.num := ⟨_, rfl⟩
        obtain ⟨w4, hw4⟩ : ∃ w4, w4 = w2.alloc (.cells #[.int .i64 (kd : Int), .int .u64 (hs : Int), .slice pa np pc, .slice sa ns sc, .slice ka nk kc] 32) := ⟨_, rfl⟩
        have b24 : Below w2.heap.size w2 w4 := by rw [hw4]; exact (Below.refl _ _).alloc (Nat.le_refl _) _
        have r4 : w4.heap[gx]? = some (.cells #[.int .i64 (kd : Int), .int .u64 (hs : Int), .slice pa np pc, .slice sa ns sc, .slice ka nk kc] 32 (0, 0)) := by rw [hw4, hgx]; exact heap_alloc_new w2 _
        have hs4 : w4.heap.size = gx + 1 := by rw [hw4, hgx]; simp
        have KS : Hid (∀ W, Below w4.heap.size w4 W → Calls Try.prog 9 #[v, .agg #[.int .i64 (kd : Int), .int .u64 (hs : Int), .slice pa np pc, .slice sa ns sc, .slice ka nk kc]] W fun e w' => e = .returned (.bool true) ∧ Below W.heap.size W w') := fun W hW => by
          have h := same_any' x (fun _ => True) W v ⟨pa, pc, sa, sc, ka, kc⟩ ((hN.below b24).below hW) ((hM.below b24).below hW) hok
          simp only [RN.agg, ← hkd, ← hhs, ← hnp, ← hns, ← hnk] at h
          exact h
        have KR : Hid (∀ W, Below w4.heap.size w4 W → W.cell? ⟨gx, 0, none⟩ = some (.int .i64 (kd : Int)) ∧ W.cell? ⟨gx, 1, none⟩ = some (.int .u64 (hs : Int)) ∧ W.cell? ⟨gx, 2, none⟩ = some (.slice pa np pc) ∧ W.cell? ⟨gx, 3, none⟩ = some (.slice sa ns sc) ∧ W.cell? ⟨gx, 4, none⟩ = some (.slice ka nk kc)) := fun W hW => (row5 ((hW.block gx (by omega)).trans r4)).1
        have HB4 := Lib.hid (below_then hb02 b24)
        have KI : Hid (∀ W, Below w4.heap.size w4 W → Calls Try.prog 11 #[v, .int .i64 z1] W fun e w' => e = .returned (.int .i64 (if kd ≠ 0 ∧ z1 = (kd : Int) then 0 else 12)) ∧ Below W.heap.size W w') := fun W hW => by
          have h := is_any z1 ((hN.below b24).below hW)
          rw [← hkd] at h
          exact h
        have KM : Hid (kd ≠ 0 → z1 = (kd : Int) → ∀ W, Below w4.heap.size w4 W → Calls Try.prog 12 #[v, .int .i64 z1] W fun e w' => e = .returned v ∧ W = w') := fun h1 h2 W hW =>
          must_ok z1 ((hN.below b24).below hW) (fun e => h1 (by rw [hkd, e]; rfl)) (by rw [h2, hkd])
        have HW4 := Lib.hid hw4; clear hw4
        have HGX := Lib.hid hgx; clear hgx
        simp only [RN.agg, ← hkd, ← hhs, ← hnp, ← hns, ← hnk]
        clear hN hM hok hcn hb2 hb02 b24 r4 hs4 hkd hhs hnp hns hnk
        obtain ⟨d0, d1, d2, d3, d4⟩ := KR.out _ (Below.refl _ _)
        by_cases hk : kd ≠ 0 ∧ z1 = (kd : Int)
        · obtain ⟨hk0, rfl⟩ := hk
          have KI2 : Hid (∀ W, Below w4.heap.size w4 W → Calls Try.prog 11 #[v, .int .i64 (kd : Int)] W fun e w' => e = .returned (.int .i64 0) ∧ Below W.heap.size W w') := fun W hW => by
            have h := KI.out W hW
            rw [if_pos ⟨hk0, rfl⟩] at h
            exact h
          have KM2 := Lib.hid (KM.out hk0 rfl)
          have t1 : ((kd : Int) == (kd : Int)) = true := by simp
          have t2 : ((kd : Int) != 0) = true := by
            have : ¬ (kd : Int) = 0 := by omega
            simpa using this
          clear KI KM
          go_wp2_with fail
          simp only [← HGX.out] at HW4 ⊢
          rw [← HW4.out]
          refine (KI2.out w4 (Below.refl _ _)).mono ?_
          rintro e w5 ⟨rfl, hb5⟩
          obtain ⟨p0, p1, p2, p3, p4⟩ := KR.out w5 hb5
          have hz0 : Below w4.heap.size w4 w5.drew := hb5.drew
          have HZ5 := Lib.hid hb5; clear hb5
          clear d0 d1 d2 d3 d4
          go_wp2_with fail
          go_region_held3 (fun W => W.cell? ⟨gx, 0, none⟩ = some (.int .i64 (kd : Int)) ∧ W.cell? ⟨gx, 1, none⟩ = some (.int .u64 (hs : Int)) ∧ W.cell? ⟨gx, 2, none⟩ = some (.slice pa np pc) ∧ W.cell? ⟨gx, 3, none⟩ = some (.slice sa ns sc) ∧ W.cell? ⟨gx, 4, none⟩ = some (.slice ka nk kc)) (first | (with_reducible exact KR.out _ hz0) | (with_reducible exact KR.out _ hzA)) (first
            | (go_at_call 12; refine (KM2.out _ hz0).mono ?_; rintro e wM ⟨rfl, rfl⟩)
            | (go_at_call 9; refine (KS.out _ hz0).mono ?_; rintro e wA ⟨rfl, hA⟩; have hzA := hz0.trans (hA.mono hz0.size)))
          all_goals
            have HZ := Lib.hid (below_then HB4.out hzA)
            clear hzA hA
            go_wp2_with fail
            go_roundw
            case rel => exact ⟨j + 1, by go_num, by omega, HZ.out⟩
            case measure => simp [intOf]; omega
        · have KI2 : Hid (∀ W, Below w4.heap.size w4 W → Calls Try.prog 11 #[v, .int .i64 z1] W fun e w' => e = .returned (.int .i64 12) ∧ Below W.heap.size W w') := fun W hW => by
            have h := KI.out W hW
            rw [if_neg hk] at h
            exact h
          clear KI KM
          have ht : Hid ((((kd : Int) == z1) = false) ∨ (((kd : Int) == z1) = true ∧ (z1 != 0) = false)) := by
            by_cases e : (kd : Int) = z1
            · refine .inr ⟨by simpa using e, ?_⟩
              have : z1 = 0 := by
                by_cases h0 : kd = 0
                · omega
                · exact absurd ⟨h0, e.symm⟩ hk
              simp [this]
            · exact .inl (by simpa using e)
          clear hk
          rcases ht.out with t1 | ⟨t1, t2⟩
          all_goals
            go_wp2_with fail
            simp only [← HGX.out] at HW4 ⊢
            rw [← HW4.out]
            refine (KI2.out w4 (Below.refl _ _)).mono ?_
            rintro e w5 ⟨rfl, hb5⟩
            obtain ⟨p0, p1, p2, p3, p4⟩ := KR.out w5 hb5
            have HZ5 := Lib.hid (below_then HB4.out hb5); clear hb5
            clear d0 d1 d2 d3 d4
            go_wp2_with fail
            first | (go_region_with fail) | fail
            all_goals
              have HZ6 : Hid (Below w.heap.size w w5.drew) := HZ5.out.drew
              go_wp2_with fail
              go_roundw
              case rel => exact ⟨j + 1, by go_num, by omega, HZ6.out⟩
              case measure => simp [intOf]; omega
      · obtain rfl : n = j := by omega
        have HI : Hid (∀ W, Calls Try.prog 11 #[.nilIface, .int .i64 z1] W fun e w' => e = .returned (.int .i64 12) ∧ Below W.heap.size W w') := fun W => is_any (F := fun _ => True) (x := .none) z1 rfl
        have HA := Lib.hid (fun W => awake_any W)
        go_wp2_with fail
        refine (HI.out wr).mono ?_
        rintro e w2 ⟨rfl, hb2⟩
        have HB2 := Lib.hid (below_then hbel.out hb2); clear hb2
        go_wp2_with fail
        refine (HA.out w2).mono ?_
        rintro e w3 ⟨rfl, hb3⟩
        have HB3 := Lib.hid (below_then HB2.out hb3); clear hb3
        go_wp2_with fail
        go_ret
        exact ⟨rfl, HB3.out⟩
/-! ### THE ROW's STEP -/
set_option maxRecDepth 100000 in
theorem lifted (os : Os) (started : os.Started) (H : Type) (enc : TypeId × Value → H) :
    ReturnsInHanded {} Try.checked os 4 .any (Rows.nodeMustSpec.pre6 enc Try.prog Try.f4 Rows.nodeMustRow.domain false) (Rows.nodeMustSpec.post enc Try.prog Try.f4 false true false false) := by
  refine returnsInHanded_of_change (C := Try.checked) own started (by kernel_rfl) Try.func4
    (ChangeSpec.witness6 (enc := enc) (C := Try.checked) false ⟨#[], #[.slice none 0 0, .int .i64 0], []⟩ 8 (by kernel_rfl) (by kernel_rfl) (by kernel_rfl) (by kernel_rfl)) ?_
  intro W base args ds gs before hval0 hW hcnd _
  have hval : ∀ (j : Nat) t v, Try.f4.params[j]? = some t → args[j]? = some v → Value.okWide Try.prog W .any base t v := hval0
  have hW' := hW
  obtain ⟨p, q, hA0, hV, rfl, hfz, hnd⟩ := hW
  have hA : DataW.TrodAll enc Try.prog W 0 (fun _ => true) true Try.f4.params.toList args.toList ds p := hA0
  rw [Try.params4] at hA hval
  obtain ⟨v0, vs0, d0, ds0, p0, q0, hargs, rfl, rfl, h0, r0⟩ := trodAll_cons hA
  obtain ⟨v1, vs1, d1, ds1, p1, q1, rfl, rfl, rfl, h1, r1⟩ := trodAll_cons r0
  obtain ⟨rfl, rfl, rfl⟩ := trodAll_nil r1
  obtain rfl : args = #[v0, v1] := by cases args; simp_all
  obtain ⟨rfl, rfl⟩ := trodVars_none hV
  have lt0 : ∀ x ∈ p0, x.block < W.heap.size := by obtain ⟨m, hm⟩ := h0; exact DataW.trod_lt m _ _ _ hm
  have ok0 := hval 0 22 v0 rfl rfl
  have lt1 : ∀ x ∈ p1, x.block < W.heap.size := by obtain ⟨m, hm⟩ := h1; exact DataW.trod_lt m _ _ _ hm
  have ok1 := hval 1 3 v1 rfl rfl
  clear hA0 hval0 hval
  obtain ⟨A0, c0, L0, rfl, hc0, hm0, ha0⟩ := plans_in ok0 h0
  obtain ⟨z1, rfl, hl1, hu1⟩ := int_in ok1 h1
  refine (walk W hc0 hm0 ha0 hl1 hu1).mono fun e W' ⟨he, bel⟩ => ?_
  subst he
  exact ⟨_, rfl, _, _, _, [], _, [], hW', trodAll_mk1 (shut_bool Try.underlying4 _), (trodAll_cons_mk (Below.trod laidOut (by kernel_rfl) (of_decide_eq_true (by kernel_rfl)) h0 bel lt0) (trodAll_cons_mk (Below.trod laidOut (by kernel_rfl) (of_decide_eq_true (by kernel_rfl)) h1 bel lt1) trodAll_mk0)), rfl, bel.frame _, fun h => by cases h⟩

theorem over : Rows.nodeMustRow.holds Try.pinned (OpenSpec.ofChange Rows.nodeMustSpec) :=
  OpenClaim.holds_of_wide 4 Try.f4 rfl rfl rfl rfl rfl rfl rfl ⟨rfl, rfl, rfl, rfl, rfl⟩ rfl rfl rfl rfl rfl (by kernel_rfl) Try.func4 (by kernel_rfl)
    (of_decide_eq_true (by kernel_rfl)) (by unfold Func.isWrapper; first | (rw [if_pos (by decide +kernel)]; kernel_rfl) | (rw [if_neg (by decide +kernel)]; exact ⟨rfl, rfl⟩))
    (fun os started H enc _ => lifted os started H enc)

/-- ████ THE STATEMENT ████ -/
theorem proved : Rows.NodeMustSaid := over
#print axioms proved
end Go.Proofs.Ytfhnmmiakknilaa.nodeMust
