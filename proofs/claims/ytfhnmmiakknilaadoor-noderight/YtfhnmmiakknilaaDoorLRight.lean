/-
  NodeRight: for every input the law answers true and leaves its arguments as they were; the row lists math/bits.deBruijn32tab, the card ties it to the program's text (the tie is given). The walk is typed by hand, the row's step and the card's are the guide's template.
  Conditions: none beside the row's own.
-/
import Derived.Test.YtfhnmmiakknilaaDoorWake
import Derived.Test.YtfhnmmiakknilaaDoorRRight
import Derived.Test.YtfhnmmiakknilaaDoorNRight
import Derived.Deep.RegionHeld3
import Derived.Test.YtfhnmmiakknilaaDoorIn
import Derived.Test.YtfhnmmiakknilaaDoorLaid
import Derived.Test.YtfhnmmiakknilaaDoorCards
import Derived.Test.YtfhnmmiakknilaaDoorTie
import Derived.ShutString
import Derived.ChangeOld
import Derived.Below
namespace Go.Proofs.YtfhnmmiakknilaaDoor.nodeRight
open Go.ChangeShapes Go.WideShapes Go.ChangeAt Go.RowKit Go.Shelf
set_option linter.unusedVariables false
theorem laidOut : laidOutB Tryd.prog = true := by kernel_rfl
attribute [local go_sem] Oper.semAt_some
attribute [local irreducible] Bt.lst
set_option maxRecDepth 100000
set_option maxHeartbeats 4000000 in
theorem walk {A0 : Option Addr} {c0 : Nat} {L0 : List Pln} {z1 : Int} (w : World) (hc0 : L0.length ≤ c0) (hm0 : c0 ≤ maxLen) (ha0 : Pls w A0 L0) (hl1 : -9223372036854775808 ≤ z1) (hu1 : z1 ≤ 9223372036854775807) (hT : Tab w) :
    Calls Tryd.prog 3 #[.slice A0 L0.length c0, .int .i64 z1] w fun e w' => e = .returned (.bool true) ∧ Below w.heap.size w w' := by
  have hml : maxLen ≤ 9223372036854775807 := by decide
  have hf := fine_any ha0 c0 (Nat.le_trans (Nat.le_trans hc0 hm0) hml)
  obtain ⟨n, hn⟩ : ∃ n, n = L0.length := ⟨_, rfl⟩
  rw [← hn] at hf hc0 ⊢
  have HN := Lib.hid hn; clear hn
  have HT := Lib.hid hT; clear hT
  cases hs : fineB L0 with
  | false =>
    rw [hs] at hf
    have HF := Lib.hid hf; clear hf
    clear ha0 hc0 hm0 hs
    go_enter Tryd.func3, Tryd.ntmps3
    go_wp2_with fail
    refine HF.out.mono ?_
    rintro e w1 ⟨rfl, hb1⟩
    have HA := Lib.hid (awake_any w1)
    have HB := Lib.hid hb1; clear hb1
    go_wp2_with fail
    refine HA.out.mono ?_
    rintro e w2 ⟨rfl, hb2⟩
    have HB2 := Lib.hid (below_then HB.out hb2); clear hb2
    go_wp2_with fail
    go_ret
    exact ⟨rfl, HB2.out⟩
  | true =>
    rw [hs] at hf
    have hl12 : n ≤ 12 := by
      simp only [fineB, Bool.and_eq_true, decide_eq_true_eq] at hs
      have := HN.out; omega
    have HF := Lib.hid hf; clear hf
    clear hc0 hm0
    go_enter Tryd.func3, Tryd.ntmps3
    go_wp2_with fail
    refine HF.out.mono ?_
    rintro e w1 ⟨rfl, hb1⟩
    have HB := Lib.hid hb1; clear hb1
    have HFI := Lib.hid hs; clear hs
    have HA0 := Lib.hid ha0; clear ha0
    go_wp2_with fail
    go_loopw [15] (fun i wr => ∃ j : Nat, i = .int .i64 (j : Int) ∧ j ≤ n ∧ Hid (Below w.heap.size w wr)) (fun i _ => n - (intOf i).toNat)
    case atStart => exact ⟨0, rfl, by omega, HB.out⟩
    case round =>
      obtain ⟨j, rfl, hj, hbel⟩ := hrel
      by_cases hlt : j < n
      · have hb := build_any (F := fun _ => True) (at' := j) c0 HFI.out (by have := HN.out; omega) (fun _ _ => trivial) (HA0.out.below hbel.out)
        rw [← HN.out] at hb
        have J := Lib.hid hb; clear hb
        go_wp2_with fail
        refine J.out.mono ?_
        rintro e w2 ⟨v, ⟨pa, pc, sa, sc, ka, kc⟩, x, rfl, hN, hM, hok, hcn, hb2⟩
        have hb02 := below_then hbel.out hb2
        obtain ⟨gx, hgx⟩ : ∃ g, g = w2.heap.size := ⟨_, rfl⟩
        obtain ⟨kd, hkd⟩ : ∃ k, k = x.kind := ⟨_, rfl⟩
        obtain ⟨hs, hhs⟩ : ∃ k, k = x.hash := ⟨_, rfl⟩
        obtain ⟨np, hnp⟩ : ∃ k, k = x.prs.length := ⟨_, rfl⟩
        obtain ⟨ns, hns⟩ : ∃ k, k = x.set.length := ⟨_, rfl⟩
        obtain ⟨nk, hnk⟩ : ∃ k, k = x.num := ⟨_, rfl⟩
        obtain ⟨w4, hw4⟩ : ∃ w4, w4 = w2.alloc (.cells #[.int .i64 (kd : Int), .int .u64 (hs : Int), .slice pa np pc, .slice sa ns sc, .slice ka nk kc] 32) := ⟨_, rfl⟩
        have b24 : Below w2.heap.size w2 w4 := by rw [hw4]; exact (Below.refl _ _).alloc (Nat.le_refl _) _
        have r4 : w4.heap[gx]? = some (.cells #[.int .i64 (kd : Int), .int .u64 (hs : Int), .slice pa np pc, .slice sa ns sc, .slice ka nk kc] 32 (0, 0)) := by rw [hw4, hgx]; exact heap_alloc_new w2 _
        have hs4 : w4.heap.size = gx + 1 := by rw [hw4, hgx]; simp
        have hx0 : kd ≠ 0 → x ≠ .none := fun h e => h (by rw [hkd, e]; rfl)
        have KS : Hid (kd ≠ 0 → ∀ lv : Nat, lv ≤ 13 → Calls Tryd.prog 7 #[.agg #[.int .i64 (kd : Int), .int .u64 (hs : Int), .slice pa np pc, .slice sa ns sc, .slice ka nk kc], .int .i64 (lv : Int)] w4 fun e w' => e = .returned (.bool (x.right lv)) ∧ Below w4.heap.size w4 w') := fun hk lv hlv => by
          have h := refRight_any x (fun _ => True) w4 ⟨pa, pc, sa, sc, ka, kc⟩ lv (hM.below b24) hok (hx0 hk) (Nat.le_trans hcn (by decide)) hlv
          simp only [RN.agg, ← hkd, ← hhs, ← hnp, ← hns, ← hnk] at h
          exact h
        have KN : Hid (∀ W, Below w4.heap.size w4 W → Calls Tryd.prog 8 #[v, .int .i64 z1] W fun e w' => e = .returned (.bool (decide (0 ≤ z1 ∧ z1 ≤ 13) && (kd != 0 && x.right z1.toNat))) ∧ Below W.heap.size W w') := fun W hW => by
          have hb := below_then b24 hW
          have h := right_any z1 ((hN.mono (G := fun q => q < w2.heap.size) (fun q hq _ => hq)).below hb) hok (fun q hq => Nat.lt_of_lt_of_le hq hb.size) (HT.out.below (below_then hb02 hb))
          rw [← hkd] at h
          exact h
        have KR := (row5 r4).1
        obtain ⟨d0, d1, d2, d3, d4⟩ := KR
        have HB4 := Lib.hid (below_then hb02 b24)
        have HW4 := Lib.hid hw4; clear hw4
        have HGX := Lib.hid hgx; clear hgx
        simp only [RN.agg, ← hkd, ← hhs, ← hnp, ← hns, ← hnk]
        clear hN hM hok hcn hb2 hb02 b24 r4 hs4 hkd hhs hnp hns hnk hx0
        by_cases hin : (0 ≤ z1 ∧ z1 ≤ 13) ∧ kd ≠ 0
        · obtain ⟨⟨g1, g2⟩, g3⟩ := hin
          obtain ⟨lv, rfl⟩ := Int.eq_ofNat_of_zero_le g1
          have hlv : lv ≤ 13 := by omega
          obtain ⟨r, hr⟩ : ∃ r, r = x.right lv := ⟨_, rfl⟩
          have K7 := KS.out g3 lv hlv
          have hk0 : (kd != 0) = true := by simpa using g3
          have K8 : ∀ W, Below w4.heap.size w4 W → Calls Tryd.prog 8 #[v, .int .i64 (lv : Int)] W fun e w' => e = .returned (.bool r) ∧ Below W.heap.size W w' := fun W hW => by
            have h := KN.out W hW
            rw [decide_eq_true ⟨g1, g2⟩, hk0, Bool.true_and, Bool.true_and, show ((lv : Int)).toNat = lv from rfl, ← hr] at h
            exact h
          rw [← hr] at K7
          have G7 := Lib.hid K7; clear K7
          have G8 := Lib.hid K8; clear K8
          have e0 : ((kd : Int) != 0) = true := by
            have : ¬ (kd : Int) = 0 := by omega
            simpa using this
          have hu : (r != r) = false := by simp
          clear KS KN hr g3 hk0
          go_wp2_with fail
          simp only [← HGX.out] at HW4 ⊢
          rw [← HW4.out]
          refine G7.out.mono ?_
          rintro e w5 ⟨rfl, hb5⟩
          have J8 := Lib.hid (G8.out w5 hb5)
          have HB5 := Lib.hid (below_then HB4.out hb5); clear hb5
          go_wp2_with fail
          refine J8.out.mono ?_
          rintro e w6 ⟨rfl, hb6⟩
          have HB6 := Lib.hid (below_then HB5.out hb6); clear hb6
          clear d0 d1 d2 d3 d4
          go_wp2_with fail
          go_roundw
          case rel => exact ⟨j + 1, by go_num, by omega, HB6.out⟩
          case measure => simp [intOf]; omega
        · have K8 : ∀ W, Below w4.heap.size w4 W → Calls Tryd.prog 8 #[v, .int .i64 z1] W fun e w' => e = .returned (.bool false) ∧ Below W.heap.size W w' := fun W hW => by
            have h := KN.out W hW
            have e : (decide (0 ≤ z1 ∧ z1 ≤ 13) && (kd != 0 && x.right z1.toNat)) = false := by
              by_cases g : 0 ≤ z1 ∧ z1 ≤ 13
              · have : kd = 0 := by
                  by_cases h0 : kd = 0
                  · exact h0
                  · exact absurd ⟨g, h0⟩ hin
                subst this
                simp
              · rw [decide_eq_false g, Bool.false_and]
            rw [e] at h
            exact h
          have J8 := Lib.hid (K8 w4 (Below.refl _ _)); clear K8
          have hcase : (¬ 0 ≤ z1) ∨ (0 ≤ z1 ∧ ¬ z1 ≤ 13) ∨ (0 ≤ z1 ∧ z1 ≤ 13 ∧ ((kd : Int) != 0) = false) := by
            by_cases g1 : 0 ≤ z1
            · by_cases g2 : z1 ≤ 13
              · refine .inr (.inr ⟨g1, g2, ?_⟩)
                have : kd = 0 := by
                  by_cases h0 : kd = 0
                  · exact h0
                  · exact absurd ⟨⟨g1, g2⟩, h0⟩ hin
                rw [this]; rfl
              · exact .inr (.inl ⟨g1, g2⟩)
            · exact .inl g1
          clear KS KN hin
          rcases hcase with g1 | ⟨g1, g2⟩ | ⟨g1, g2, g3⟩
          all_goals
            go_wp2_with fail
            simp only [← HGX.out] at HW4 ⊢
            rw [← HW4.out]
            refine J8.out.mono ?_
            rintro e w6 ⟨rfl, hb6⟩
            have HB6 := Lib.hid (below_then HB4.out hb6); clear hb6
            clear d0 d1 d2 d3 d4
            go_wp2_with fail
            go_roundw
            case rel => exact ⟨j + 1, by go_num, by omega, HB6.out⟩
            case measure => simp [intOf]; omega
      · obtain rfl : n = j := by omega
        have HI : Hid (Calls Tryd.prog 8 #[.nilIface, .int .i64 z1] wr fun e w' => e = .returned (.bool false) ∧ Below wr.heap.size wr w') := by
          have h := right_any (F := fun _ => False) (w := wr) (x := .none) (v := .nilIface) z1 rfl trivial (fun _ h => h.elim) (HT.out.below hbel.out)
          have e : (decide (0 ≤ z1 ∧ z1 ≤ 13) && (Nd.none.kind != 0 && Nd.none.right z1.toNat)) = false := by simp [Nd.kind]
          rw [e] at h
          exact h
        have HA := Lib.hid (fun W => awake_any W)
        go_wp2_with fail
        refine HI.out.mono ?_
        rintro e w2 ⟨rfl, hb2⟩
        have HB2 := Lib.hid (below_then hbel.out hb2); clear hb2
        go_wp2_with fail
        refine (HA.out w2).mono ?_
        rintro e w3 ⟨rfl, hb3⟩
        have HB3 := Lib.hid (below_then HB2.out hb3); clear hb3
        go_wp2_with fail
        go_ret
        exact ⟨rfl, HB3.out⟩

theorem lifted (os : Os) (started : os.Started) (H : Type) (enc : TypeId × Value → H) :
    ReturnsInHanded {} Tryd.checked os 3 .any (fun w args => (Rows.nodeRightSpec.pre enc Tryd.prog Tryd.f3 [] false w args ∧ laidMetH Tryd.prog laid w) ∧ sizedMet enc Tryd.prog Tryd.f3 (OpenSpec.ofChange Rows.nodeRightSpec) false w args)
      (Rows.nodeRightSpec.post enc Tryd.prog Tryd.f3 false true false false) := by
  refine returnsInHanded_of_change_and (C := Tryd.checked) (X := fun w _ => laidMetH Tryd.prog laid w) (fun _ _ _ hh h => h.of_heap hh) own started (by kernel_rfl) Tryd.func3
    (ChangeSpec.witness_shaped (enc := enc) (C := Tryd.checked) (os := os) (X := fun w _ => laidMetH Tryd.prog laid w) false (World.laidAll Tryd.prog os laid) #[.slice none 0 0, .int .i64 0] 8 (World.laidAll_os _ _ _)
      (World.shaped_of_ZipB (by kernel_rfl) (by kernel_rfl)) (by kernel_rfl) (by kernel_rfl) (by kernel_rfl)
      (by rw [MakeChecks.laidMetH_plain _ _ _ (by kernel_rfl)]; exact laidMet_laidAll _ (by kernel_rfl) (by kernel_rfl))) ?_
  intro W base args ds gs before hval0 hW _ _ hL _
  have hval : ∀ (j : Nat) t v, Tryd.f3.params[j]? = some t → args[j]? = some v → Value.okWide Tryd.prog W .any base t v := hval0
  have hW' := hW
  obtain ⟨p, q, hA0, hV, rfl, _, _⟩ := hW
  have hA : DataW.TrodAll enc Tryd.prog W 0 (fun _ => true) true Tryd.f3.params.toList args.toList ds p := hA0
  rw [Tryd.params3] at hA hval
  obtain ⟨v0, vs0, d0, ds0, p0, q0, hargs, rfl, rfl, h0, r0⟩ := trodAll_cons hA
  obtain ⟨v1, vs1, d1, ds1, p1, q1, rfl, rfl, rfl, h1, r1⟩ := trodAll_cons r0
  obtain ⟨rfl, rfl, rfl⟩ := trodAll_nil r1
  obtain rfl : args = #[v0, v1] := by cases args; simp_all
  obtain ⟨rfl, rfl⟩ := trodVars_none hV
  have lt0 : ∀ x ∈ p0, x.block < W.heap.size := by obtain ⟨m, hm⟩ := h0; exact DataW.trod_lt m _ _ _ hm
  have ok0 := hval 0 22 v0 rfl rfl
  have lt1 : ∀ x ∈ p1, x.block < W.heap.size := by obtain ⟨m, hm⟩ := h1; exact DataW.trod_lt m _ _ _ hm
  have ok1 := hval 1 3 v1 rfl rfl
  clear hA0 hval0 hval
  obtain ⟨A0, c0, L0, rfl, hc0, hm0, ha0⟩ := plans_in ok0 h0
  obtain ⟨z1, rfl, hl1, hu1⟩ := int_in ok1 h1
  refine (walk W hc0 hm0 ha0 hl1 hu1 (tab_of_laid hL)).mono fun e W' ⟨he, bel⟩ => ?_
  subst he
  exact ⟨_, rfl, _, _, _, [], _, [], hW', trodAll_mk1 (shut_bool Tryd.underlying4 _), (trodAll_cons_mk (Below.trod laidOut (by kernel_rfl) (of_decide_eq_true (by kernel_rfl)) h0 bel lt0) (trodAll_cons_mk (Below.trod laidOut (by kernel_rfl) (of_decide_eq_true (by kernel_rfl)) h1 bel lt1) trodAll_mk0)), rfl, bel.frame _, fun h => by cases h⟩

theorem over : Rows.NodeRightSaid :=
  OpenClaim.holds_of_wide 3 Tryd.f3 rfl rfl rfl rfl rfl rfl rfl ⟨rfl, rfl, rfl, rfl, rfl⟩ rfl rfl rfl rfl rfl (by kernel_rfl) Tryd.func3 (by kernel_rfl)
    (of_decide_eq_true (by kernel_rfl)) (by unfold Func.isWrapper; first | (rw [if_pos (by decide +kernel)]; kernel_rfl) | (rw [if_neg (by decide +kernel)]; exact ⟨rfl, rfl⟩))
    (fun os started H enc _ => lifted os started H enc)

/-- ████ THE STATEMENT: THE TIED CARD ████ -/
theorem proved : Rows.NodeRightCardSaid :=
  Claim7.holds_tied_plain_at .later [] [.data] true (true, "7316e2f063c0ce1a29a04bd775221e63cf1277015e8a63df496e9ae664d178e1") true over (fun _ h => by cases h) (by kernel_rfl) (fun _ h => by cases h) nodeRight_row_tie rfl ⟨rfl, rfl⟩ (by kernel_rfl) rfl
    (fun f fn hf hfn => by
      obtain rfl : f = 3 := Option.some.inj ((show Tryd.prog.funcNamed "brushwood/brushwoodlaw16.NodeRight" = some 3 by kernel_rfl).symm.trans hf) |>.symm
      obtain rfl : fn = Tryd.f3 := (Option.some.inj (Tryd.func3.symm.trans hfn)).symm
      exact ⟨by kernel_rfl, fun j t ht => by
        rw [Tryd.params3] at ht
        have hm : t ∈ [22, 3] := by simpa using Array.mem_of_getElem? ht
        have hall : ([22, 3].all fun u => !Tryd.prog.wantsStandIn u) = true := by kernel_rfl
        exact (show Tryd.prog.wantsStandIn t = false by simpa using List.all_eq_true.1 hall t hm)⟩)
    (by kernel_rfl)
#print axioms proved
end Go.Proofs.YtfhnmmiakknilaaDoor.nodeRight
