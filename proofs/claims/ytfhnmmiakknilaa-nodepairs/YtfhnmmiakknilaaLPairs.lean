/-
  NodePairs: for every input the law answers true and leaves its arguments as they were: the walk is typed by hand, the row's step is the guide's template.
  Conditions: none beside the row's own.
-/
import Derived.Test.YtfhnmmiakknilaaWake
import Derived.Test.YtfhnmmiakknilaaSorted
import Derived.Test.YtfhnmmiakknilaaGath
import Derived.Deep.RegionHeld3
import Derived.Test.YtfhnmmiakknilaaIn
import Derived.Test.YtfhnmmiakknilaaRows
import Derived.WalkKit
import Derived.ProofKit
import Derived.OpenShut
import Derived.ShutString
import Derived.ChangeOld
import Derived.Below
namespace Go.Proofs.Ytfhnmmiakknilaa.nodePairs
open Go.ChangeShapes Go.WideShapes Go.ChangeAt Go.RowKit
set_option linter.unusedVariables false
theorem own : ownKnob Try.prog.godebug = none := by kernel_rfl
theorem laidOut : laidOutB Try.prog = true := by kernel_rfl
attribute [local go_sem] Oper.semAt_some
set_option maxRecDepth 100000 in
set_option maxHeartbeats 4000000 in
theorem walk {A0 : Option Addr} {c0 : Nat} {L0 : List Pln} (w : World) (hc0 : L0.length ≤ c0) (hm0 : c0 ≤ maxLen) (ha0 : Pls w A0 L0) :
    Calls Try.prog 5 #[.slice A0 L0.length c0] w fun e w' => e = .returned (.bool true) ∧ Below w.heap.size w w' := by
  have hml : maxLen ≤ 9223372036854775807 := by decide
  have hf := fine_any ha0 c0 (Nat.le_trans (Nat.le_trans hc0 hm0) hml)
  obtain ⟨n, hn⟩ : ∃ n, n = L0.length := ⟨_, rfl⟩
  rw [← hn] at hf hc0 ⊢
  have HN := Lib.hid hn; clear hn
  cases hs : fineB L0 with
  | false =>
    rw [hs] at hf
    have HF := Lib.hid hf; clear hf
    clear ha0 hc0 hm0 hs
    go_enter Try.func5, Try.ntmps5
    go_wp2_with fail
    refine HF.out.mono ?_
    rintro e w1 ⟨rfl, hb1⟩
    have HA := Lib.hid (awake_any w1)
    have HB := Lib.hid hb1; clear hb1
    go_wp2_with fail
    refine HA.out.mono ?_
    rintro e w2 ⟨rfl, hb2⟩
    have HB2 := Lib.hid (below_then HB.out hb2); clear hb2
    go_wp2_with fail
    go_ret
    exact ⟨rfl, HB2.out⟩
  | true =>
    rw [hs] at hf
    have hl12 : n ≤ 12 := by
      simp only [fineB, Bool.and_eq_true, decide_eq_true_eq] at hs
      have := HN.out; omega
    have HF := Lib.hid hf; clear hf
    clear hc0 hm0
    go_enter Try.func5, Try.ntmps5
    go_wp2_with fail
    refine HF.out.mono ?_
    rintro e w1 ⟨rfl, hb1⟩
    have HB := Lib.hid hb1; clear hb1
    have HFI := Lib.hid hs; clear hs
    have HA0 := Lib.hid ha0; clear ha0
    go_wp2_with fail
    go_loopw [13] (fun i wr => ∃ j : Nat, i = .int .i64 (j : Int) ∧ j ≤ n ∧ Hid (Below w.heap.size w wr)) (fun i _ => n - (intOf i).toNat)
    case atStart => exact ⟨0, rfl, by omega, HB.out⟩
    case round =>
      obtain ⟨j, rfl, hj, hbel⟩ := hrel
      by_cases hlt : j < n
      · have hb := build_any (F := fun _ => True) (at' := j) c0 HFI.out (by have := HN.out; omega) (fun _ _ => trivial) (HA0.out.below hbel.out)
        rw [← HN.out] at hb
        have J := Lib.hid hb; clear hb
        go_wp2_with fail
        refine J.out.mono ?_
        rintro e w2 ⟨v, ⟨pa, pc, sa, sc, ka, kc⟩, x, rfl, hN, hM, hok, hcn, hb2⟩
        have hb02 := below_then hbel.out hb2
        obtain ⟨gx, hgx⟩ : ∃ g, g = w2.heap.size := ⟨_, rfl⟩
        obtain ⟨kd, hkd⟩ : ∃ k, k = x.kind := ⟨_, rfl⟩
        obtain ⟨hs, hhs⟩ : ∃ k, k = x.hash := ⟨_, rfl⟩
        obtain ⟨np, hnp⟩ : ∃ k, k = x.prs.length := ⟨_, rfl⟩
        obtain ⟨ns, hns⟩ : ∃ k, k = x.set.length := ⟨_, rfl⟩
        obtain ⟨nk, hnk⟩ : ∃ k, k = x.num := ⟨_, rfl⟩
        obtain ⟨ct, hct⟩ : ∃ k, k = x.cnt := ⟨_, rfl⟩
        obtain ⟨la, hla⟩ : ∃ k, k = x.all.length := ⟨_, rfl⟩
        obtain ⟨w4, hw4⟩ : ∃ w4, w4 = w2.alloc (.cells #[.int .i64 (kd : Int), .int .u64 (hs : Int), .slice pa np pc, .slice sa ns sc, .slice ka nk kc] 32) := ⟨_, rfl⟩
        have b24 : Below w2.heap.size w2 w4 := by rw [hw4]; exact (Below.refl _ _).alloc (Nat.le_refl _) _
        have r4 : w4.heap[gx]? = some (.cells #[.int .i64 (kd : Int), .int .u64 (hs : Int), .slice pa np pc, .slice sa ns sc, .slice ka nk kc] 32 (0, 0)) := by rw [hw4, hgx]; exact heap_alloc_new w2 _
        have hs4 : w4.heap.size = gx + 1 := by rw [hw4, hgx]; simp
        have KA : Hid (Calls Try.prog 13 #[.agg #[.int .i64 (kd : Int), .int .u64 (hs : Int), .slice pa np pc, .slice sa ns sc, .slice ka nk kc]] w4 fun e w' => (∃ A c, e = .returned (.slice A la c) ∧ Rcs w' A x.all) ∧ Below w4.heap.size w4 w') := by
          have h := all_ref x (fun _ => True) w4 ⟨pa, pc, sa, sc, ka, kc⟩ (hM.below b24) hok (Nat.le_trans hcn (by decide))
          simp only [RN.agg, ← hkd, ← hhs, ← hnp, ← hns, ← hnk, ← hla] at h
          exact h
        have KC : Hid (∀ W, Below w4.heap.size w4 W → Calls Try.prog 10 #[.agg #[.int .i64 (kd : Int), .int .u64 (hs : Int), .slice pa np pc, .slice sa ns sc, .slice ka nk kc]] W fun e w' => e = .returned (.int .i64 (ct : Int)) ∧ Below W.heap.size W w') := fun W hW => by
          have h := count_law x (fun _ => True) W ⟨pa, pc, sa, sc, ka, kc⟩ ((hM.below b24).below hW) hok (Nat.le_trans hcn (by decide))
          simp only [RN.agg, ← hkd, ← hhs, ← hnp, ← hns, ← hnk, ← hct] at h
          exact h
        have KR : Hid (∀ W, Below w4.heap.size w4 W → W.cell? ⟨gx, 0, none⟩ = some (.int .i64 (kd : Int)) ∧ W.cell? ⟨gx, 1, none⟩ = some (.int .u64 (hs : Int)) ∧ W.cell? ⟨gx, 2, none⟩ = some (.slice pa np pc) ∧ W.cell? ⟨gx, 3, none⟩ = some (.slice sa ns sc) ∧ W.cell? ⟨gx, 4, none⟩ = some (.slice ka nk kc)) := fun W hW => (row5 ((hW.block gx (by omega)).trans r4)).1
        have KP : Hid (la = ct → ∀ W, Below w4.heap.size w4 W → Calls Try.prog 15 #[v] W fun e w' => (∃ A c, e = .returned (.slice A la c) ∧ Pcs w' A x.all) ∧ Below W.heap.size W w') := fun hlc W hW => by
          have hb := below_then b24 hW
          by_cases hx : x = .none
          · subst hx
            have hv : v = .nilIface := hN
            subst hv
            obtain rfl : la = 0 := hla
            refine (pairs_nil W).mono ?_
            rintro e w' ⟨rfl, rfl⟩
            exact ⟨⟨none, 0, rfl, .inl rfl⟩, Below.refl _ _⟩
          · have h := pairs_any ((hN.mono (G := fun q => q < w2.heap.size) (fun q hq _ => hq)).below hb) hok hx (fun q hq => Nat.lt_of_lt_of_le hq hb.size) (Nat.le_trans hcn (by decide)) (by rw [← hla, ← hct, hlc])
            rw [← hla] at h
            exact h
        have KI : Hid (∀ (A B : Option Addr) (c d : Nat) W, Pcs W A x.all → Rcs W B x.all → Calls Try.prog 14 #[.slice A la c, .slice B la d] W fun e w' => e = .returned (.bool true) ∧ Below W.heap.size W w') := fun A B c d W h1 h2 => by
          have h := refIsB h1 h2 c d (by
            have h3 := (all_cases x hok).2.1
            rw [flat_cnt] at h3
            have : (100000000000 : Nat) ≤ 1000000000000 := by decide
            omega)
          rw [← hla, decide_eq_true rfl] at h
          exact h
        obtain ⟨d0, d1, d2, d3, d4⟩ := KR.out w4 (Below.refl _ _)
        have HB4 := Lib.hid (below_then hb02 b24)
        have HW4 := Lib.hid hw4; clear hw4
        have HGX := Lib.hid hgx; clear hgx
        simp only [RN.agg, ← hkd, ← hhs, ← hnp, ← hns, ← hnk]
        clear hN hM hok hcn hb2 hb02 b24 r4 hs4 hkd hhs hnp hns hnk hct hla
        go_wp2_with fail
        simp only [← HGX.out] at HW4 ⊢
        rw [← HW4.out]
        refine KA.out.mono ?_
        rintro e w5 ⟨⟨A, c, rfl, hra⟩, hb5⟩
        have K5 := Lib.hid (KC.out w5 hb5)
        obtain ⟨p0, p1, p2, p3, p4⟩ := KR.out w5 hb5
        have HB5 := Lib.hid hb5; clear hb5
        have HRA := Lib.hid hra; clear hra
        clear d0 d1 d2 d3 d4
        go_wp2_with fail
        refine K5.out.mono ?_
        rintro e w6 ⟨rfl, hb6⟩
        have HB6 := Lib.hid (below_then HB5.out hb6)
        have HR6 := Lib.hid (HRA.out.below hb6)
        clear hb6 p0 p1 p2 p3 p4
        by_cases hlc : la = ct
        · have t1 : ((la : Int) != (ct : Int)) = false := by rw [hlc]; simp
          have K15 := Lib.hid (KP.out hlc w6 HB6.out)
          have K14 := KI
          clear hlc
          go_wp2_with fail
          refine K15.out.mono ?_
          rintro e w7 ⟨⟨A2, c2, rfl, hp7⟩, hb7⟩
          have K7 := Lib.hid (K14.out A2 A c2 c w7 hp7 (HR6.out.below hb7))
          have HB7 := Lib.hid (below_then HB6.out hb7)
          clear hp7 hb7
          go_wp2_with fail
          refine K7.out.mono ?_
          rintro e w8 ⟨rfl, hb8⟩
          have HB8 := Lib.hid (below_then HB4.out (below_then HB7.out hb8)); clear hb8
          go_wp2_with fail
          go_roundw
          case rel => exact ⟨j + 1, by go_num, by omega, HB8.out⟩
          case measure => simp [intOf]; omega
        · have t1 : ((la : Int) != (ct : Int)) = true := by
            have : ¬ (la : Int) = (ct : Int) := by omega
            simpa using this
          have HB8 := Lib.hid (below_then HB4.out HB6.out)
          clear hlc
          go_wp2_with fail
          go_roundw
          case rel => exact ⟨j + 1, by go_num, by omega, HB8.out⟩
          case measure => simp [intOf]; omega
      · obtain rfl : n = j := by omega
        have HP := Lib.hid (fun W => pairs_nil W)
        have HA := Lib.hid (awake_any wr)
        go_wp2_with fail
        refine (HP.out _).mono ?_
        rintro e w2 ⟨rfl, rfl⟩
        go_wp2_with fail
        refine HA.out.mono ?_
        rintro e w3 ⟨rfl, hb3⟩
        have HB3 := Lib.hid (below_then hbel.out hb3); clear hb3
        go_wp2_with fail
        go_ret
        exact ⟨rfl, HB3.out⟩
/-! ### THE ROW's STEP -/
set_option maxRecDepth 100000 in
theorem lifted (os : Os) (started : os.Started) (H : Type) (enc : TypeId × Value → H) :
    ReturnsInHanded {} Try.checked os 5 .any (Rows.nodePairsSpec.pre6 enc Try.prog Try.f5 Rows.nodePairsRow.domain false) (Rows.nodePairsSpec.post enc Try.prog Try.f5 false true false false) := by
  refine returnsInHanded_of_change (C := Try.checked) own started (by kernel_rfl) Try.func5
    (ChangeSpec.witness6 (enc := enc) (C := Try.checked) false ⟨#[], #[.slice none 0 0], []⟩ 8 (by kernel_rfl) (by kernel_rfl) (by kernel_rfl) (by kernel_rfl)) ?_
  intro W base args ds gs before hval0 hW hcnd _
  have hval : ∀ (j : Nat) t v, Try.f5.params[j]? = some t → args[j]? = some v → Value.okWide Try.prog W .any base t v := hval0
  have hW' := hW
  obtain ⟨p, q, hA0, hV, rfl, hfz, hnd⟩ := hW
  have hA : DataW.TrodAll enc Try.prog W 0 (fun _ => true) true Try.f5.params.toList args.toList ds p := hA0
  rw [Try.params5] at hA hval
  obtain ⟨v0, vs0, d0, ds0, p0, q0, hargs, rfl, rfl, h0, r0⟩ := trodAll_cons hA
  obtain ⟨rfl, rfl, rfl⟩ := trodAll_nil r0
  obtain rfl : args = #[v0] := by cases args; simp_all
  obtain ⟨rfl, rfl⟩ := trodVars_none hV
  have lt0 : ∀ x ∈ p0, x.block < W.heap.size := by obtain ⟨m, hm⟩ := h0; exact DataW.trod_lt m _ _ _ hm
  have ok0 := hval 0 22 v0 rfl rfl
  clear hA0 hval0 hval
  obtain ⟨A0, c0, L0, rfl, hc0, hm0, ha0⟩ := plans_in ok0 h0
  refine (walk W hc0 hm0 ha0).mono fun e W' ⟨he, bel⟩ => ?_
  subst he
  exact ⟨_, rfl, _, _, _, [], _, [], hW', trodAll_mk1 (shut_bool Try.underlying4 _), (trodAll_cons_mk (Below.trod laidOut (by kernel_rfl) (of_decide_eq_true (by kernel_rfl)) h0 bel lt0) trodAll_mk0), rfl, bel.frame _, fun h => by cases h⟩

theorem over : Rows.nodePairsRow.holds Try.pinned (OpenSpec.ofChange Rows.nodePairsSpec) :=
  OpenClaim.holds_of_wide 5 Try.f5 rfl rfl rfl rfl rfl rfl rfl ⟨rfl, rfl, rfl, rfl, rfl⟩ rfl rfl rfl rfl rfl (by kernel_rfl) Try.func5 (by kernel_rfl)
    (of_decide_eq_true (by kernel_rfl)) (by unfold Func.isWrapper; first | (rw [if_pos (by decide +kernel)]; kernel_rfl) | (rw [if_neg (by decide +kernel)]; exact ⟨rfl, rfl⟩))
    (fun os started H enc _ => lifted os started H enc)

/-- ████ THE STATEMENT ████ -/
theorem proved : Rows.NodePairsSaid := over
#print axioms proved
end Go.Proofs.Ytfhnmmiakknilaa.nodePairs
