/-
  BlendParts: for every input the law answers true and leaves its arguments as they were: the walk is typed by hand, the row's step is the guide's template.
  Conditions: none beside the row's own.
-/
import Derived.Test.YtnniojlofhbioaaLaws
import Derived.Test.YtnniojlofhbioaaIn
import Derived.Test.YtnniojlofhbioaaRows
import Derived.WalkKit
import Derived.ProofKit
import Derived.OpenShut
import Derived.ShutString
import Derived.ChangeOld
import Derived.Below
namespace Go.Proofs.Ytnniojlofhbioaa.blendParts
open Go.ChangeShapes Go.WideShapes Go.ChangeAt Go.RowKit
set_option linter.unusedVariables false
theorem own : ownKnob Try.prog.godebug = none := by kernel_rfl
theorem laidOut : laidOutB Try.prog = true := by kernel_rfl
set_option maxRecDepth 100000 in
set_option maxHeartbeats 4000000 in
theorem walk {A0 : Option Addr} {c0 : Nat} {L0 : List Opn} {A1 : Option Addr} {c1 : Nat} {L1 : List Opn} (w : World) (hc0 : L0.length ≤ c0) (hm0 : c0 ≤ maxLen) (ha0 : Ocs w A0 L0) (hc1 : L1.length ≤ c1) (hm1 : c1 ≤ maxLen) (ha1 : Ocs w A1 L1) :
    Calls Try.prog 4 #[.slice A0 L0.length c0, .slice A1 L1.length c1] w fun e w' => e = .returned (.bool true) ∧ Below w.heap.size w w' := by
  have HAW := Lib.hid awake_any
  have F0 := Lib.hid (fun W (h : Below w.heap.size w W) => fine_any (ha0.below h) c0 60 (by decide) (Nat.le_trans hc0 hm0))
  have M0 := Lib.hid (fun W (h : Below w.heap.size w W) (g : (decide (L0.length ≤ 60) && tinyO L0) = true) => made_two (most := 60) c0 (ha0.below h) (Fine60 g).1 (by decide) (Fine60 g).2)
  have F1 := Lib.hid (fun W (h : Below w.heap.size w W) => fine_any (ha1.below h) c1 60 (by decide) (Nat.le_trans hc1 hm1))
  have M1 := Lib.hid (fun W (h : Below w.heap.size w W) (g : (decide (L1.length ≤ 60) && tinyO L1) = true) => made_two (most := 60) c1 (ha1.below h) (Fine60 g).1 (by decide) (Fine60 g).2)
  have BB : Hid (Below w.heap.size w w) := Below.refl _ _
  clear ha0 hc0 hm0 ha1 hc1 hm1
  cases h0 : (decide (L0.length ≤ 60) && tinyO L0) with
  | false =>
    have G0 := F0.out
    simp only [h0] at G0
    have G0' := Lib.hid G0; clear G0
    clear h0 F0 M0 F1 M1
    go_enter Try.func4, Try.ntmps4
    have CO := Lib.hid (G0'.out w BB.out)
    go_wp2_with fail
    refine CO.out.mono ?_
    rintro e w1 ⟨rfl, bel⟩
    replace BB := Lib.hid (below_then BB.out bel)
    clear bel CO
    have CO := Lib.hid (HAW.out w1)
    go_wp2_with fail
    refine CO.out.mono ?_
    rintro e w2 ⟨rfl, bel⟩
    replace BB := Lib.hid (below_then BB.out bel)
    clear bel CO
    go_wp2_with fail
    go_ret
    exact ⟨rfl, BB.out⟩
  | true =>
    cases h1 : (decide (L1.length ≤ 60) && tinyO L1) with
    | false =>
      have G0 := F0.out
      simp only [h0] at G0
      have G0' := Lib.hid G0; clear G0
      have G1 := F1.out
      simp only [h1] at G1
      have G1' := Lib.hid G1; clear G1
      clear h0 h1 F0 M0 F1 M1
      go_enter Try.func4, Try.ntmps4
      have CO := Lib.hid (G0'.out w BB.out)
      go_wp2_with fail
      refine CO.out.mono ?_
      rintro e w1 ⟨rfl, bel⟩
      replace BB := Lib.hid (below_then BB.out bel)
      clear bel CO
      have CO := Lib.hid (G1'.out w1 BB.out)
      go_wp2_with fail
      refine CO.out.mono ?_
      rintro e w2 ⟨rfl, bel⟩
      replace BB := Lib.hid (below_then BB.out bel)
      clear bel CO
      have CO := Lib.hid (HAW.out w2)
      go_wp2_with fail
      refine CO.out.mono ?_
      rintro e w3 ⟨rfl, bel⟩
      replace BB := Lib.hid (below_then BB.out bel)
      clear bel CO
      go_wp2_with fail
      go_ret
      exact ⟨rfl, BB.out⟩
    | true =>
      have G0 := F0.out
      simp only [h0] at G0
      have G0' := Lib.hid G0; clear G0
      have N0 := Lib.hid (fun W (h : Below w.heap.size w W) => M0.out W h h0)
      have G1 := F1.out
      simp only [h1] at G1
      have G1' := Lib.hid G1; clear G1
      have N1 := Lib.hid (fun W (h : Below w.heap.size w W) => M1.out W h h1)
      clear h0 F0 M0 h1 F1 M1
      go_enter Try.func4, Try.ntmps4
      have CO := Lib.hid (G0'.out w BB.out)
      go_wp2_with fail
      refine CO.out.mono ?_
      rintro e w1 ⟨rfl, bel⟩
      replace BB := Lib.hid (below_then BB.out bel)
      clear bel CO G0'
      have CO := Lib.hid (G1'.out w1 BB.out)
      go_wp2_with fail
      refine CO.out.mono ?_
      rintro e w2 ⟨rfl, bel⟩
      replace BB := Lib.hid (below_then BB.out bel)
      clear bel CO G1'
      have CO := Lib.hid (N0.out w2 BB.out)
      go_wp2_with fail
      refine CO.out.mono ?_
      rintro e w3 ⟨pa, ra, ca, na, A, rfl, ta, la, bel⟩
      replace BB := Lib.hid (below_then BB.out bel)
      have TA := Lib.hid (ta)
      clear ta
      clear bel CO
      have LEA := Lib.hid la; clear la N0
      have CO := Lib.hid (N1.out w3 BB.out)
      go_wp2_with fail
      refine CO.out.mono ?_
      rintro e w4 ⟨pb, rb, cb, nb, B, rfl, tb, lb, bel⟩
      replace TA := Lib.hid (TA.out.below bel)
      replace BB := Lib.hid (below_then BB.out bel)
      have TB := Lib.hid (tb)
      clear tb
      clear bel CO
      have LEB := Lib.hid lb; clear lb N1
      have GM := Lib.hid (TA.out.good.mns B)
      have GH := Lib.hid (TA.out.good.bth B)
      have GO := Lib.hid (TA.out.good.odd TB.out.good (by have := LEA.out; have := LEB.out; omega))
      have GN := Lib.hid (TB.out.good.mns A)
      have CO := Lib.hid (TA.out.good.refMinus TB.out.good ca cb TA.out.rcs TB.out.rcs TA.out.len TB.out.len)
      go_wp2_with fail
      refine CO.out.mono ?_
      rintro e w5 ⟨rm, cm, nm, rfl, em, hr, bel⟩
      replace TA := Lib.hid (TA.out.below bel)
      replace TB := Lib.hid (TB.out.below bel)
      replace BB := Lib.hid (below_then BB.out bel)
      have RM := Lib.hid (hr)
      clear hr
      clear bel CO
      have EM := Lib.hid em; clear em
      have CO := Lib.hid (TA.out.good.refBoth TB.out.good ca cb TA.out.rcs TB.out.rcs TA.out.len TB.out.len)
      go_wp2_with fail
      refine CO.out.mono ?_
      rintro e w6 ⟨rh, ch, nh, rfl, eh, hr, bel⟩
      replace TA := Lib.hid (TA.out.below bel)
      replace TB := Lib.hid (TB.out.below bel)
      replace RM := Lib.hid (RM.out.below bel)
      replace BB := Lib.hid (below_then BB.out bel)
      have RH := Lib.hid (hr)
      clear hr
      clear bel CO
      have EH := Lib.hid eh; clear eh
      have CO := Lib.hid (TA.out.good.minus TB.out.good TA.out.tree TB.out.tree)
      go_wp2_with fail
      refine CO.out.mono ?_
      rintro e w7 ⟨pM, rfl, hM, bel⟩
      replace TA := Lib.hid (TA.out.below bel)
      replace TB := Lib.hid (TB.out.below bel)
      replace RM := Lib.hid (RM.out.below bel)
      replace RH := Lib.hid (RH.out.below bel)
      replace BB := Lib.hid (below_then BB.out bel)
      have IM := Lib.hid (hM)
      clear hM
      clear bel CO
      have CO := Lib.hid (GM.out.is cm IM.out RM.out EM.out)
      go_wp2_with fail
      refine CO.out.mono ?_
      rintro e w8 ⟨rfl, bel⟩
      replace TA := Lib.hid (TA.out.below bel)
      replace TB := Lib.hid (TB.out.below bel)
      replace RM := Lib.hid (RM.out.below bel)
      replace RH := Lib.hid (RH.out.below bel)
      replace IM := Lib.hid (IM.out.below bel)
      replace BB := Lib.hid (below_then BB.out bel)
      clear bel CO
      clear IM
      have CO := Lib.hid (TA.out.good.both TB.out.good TA.out.tree TB.out.tree)
      go_wp2_with fail
      refine CO.out.mono ?_
      rintro e w9 ⟨pH, rfl, hH, bel⟩
      replace TA := Lib.hid (TA.out.below bel)
      replace TB := Lib.hid (TB.out.below bel)
      replace RM := Lib.hid (RM.out.below bel)
      replace RH := Lib.hid (RH.out.below bel)
      replace BB := Lib.hid (below_then BB.out bel)
      have IH := Lib.hid (hH)
      clear hH
      clear bel CO
      have CO := Lib.hid (GH.out.is ch IH.out RH.out EH.out)
      go_wp2_with fail
      refine CO.out.mono ?_
      rintro e w10 ⟨rfl, bel⟩
      replace TA := Lib.hid (TA.out.below bel)
      replace TB := Lib.hid (TB.out.below bel)
      replace RM := Lib.hid (RM.out.below bel)
      replace RH := Lib.hid (RH.out.below bel)
      replace IH := Lib.hid (IH.out.below bel)
      replace BB := Lib.hid (below_then BB.out bel)
      clear bel CO
      clear IH RH
      clear EH GH
      have CO := Lib.hid (TB.out.good.refMinus TA.out.good cb ca TB.out.rcs TA.out.rcs TB.out.len TA.out.len)
      go_wp2_with fail
      refine CO.out.mono ?_
      rintro e w11 ⟨rn, cn, nn, rfl, en, hr, bel⟩
      replace TA := Lib.hid (TA.out.below bel)
      replace TB := Lib.hid (TB.out.below bel)
      replace RM := Lib.hid (RM.out.below bel)
      replace BB := Lib.hid (below_then BB.out bel)
      have RN := Lib.hid (hr)
      clear hr
      clear bel CO
      have EN := Lib.hid en; clear en
      have CO := Lib.hid (GM.out.refUnion GN.out cm cn RM.out RN.out EM.out EN.out)
      go_wp2_with fail
      refine CO.out.mono ?_
      rintro e w12 ⟨ro, co, no, rfl, eo, hr, bel⟩
      replace TA := Lib.hid (TA.out.below bel)
      replace TB := Lib.hid (TB.out.below bel)
      replace RM := Lib.hid (RM.out.below bel)
      replace RN := Lib.hid (RN.out.below bel)
      replace BB := Lib.hid (below_then BB.out bel)
      have RO := Lib.hid (hr)
      clear hr
      clear bel CO
      have EO := Lib.hid eo; clear eo
      clear RN RM
      clear EN GN
      have CO := Lib.hid (TA.out.good.odds TB.out.good TA.out.tree TB.out.tree)
      go_wp2_with fail
      refine CO.out.mono ?_
      rintro e w13 ⟨pO, rfl, hO, bel⟩
      replace TA := Lib.hid (TA.out.below bel)
      replace TB := Lib.hid (TB.out.below bel)
      replace RO := Lib.hid (RO.out.below bel)
      replace BB := Lib.hid (below_then BB.out bel)
      have IO := Lib.hid (hO)
      clear hO
      clear bel CO
      have CO := Lib.hid (GO.out.is co IO.out RO.out EO.out)
      go_wp2_with fail
      refine CO.out.mono ?_
      rintro e w14 ⟨rfl, bel⟩
      replace TA := Lib.hid (TA.out.below bel)
      replace TB := Lib.hid (TB.out.below bel)
      replace RO := Lib.hid (RO.out.below bel)
      replace IO := Lib.hid (IO.out.below bel)
      replace BB := Lib.hid (below_then BB.out bel)
      clear bel CO
      clear IO RO
      clear EO GO GM
      obtain ⟨s, hs⟩ : ∃ s, s = sub A B := ⟨_, rfl⟩
      have ts : ((nm : Int) == 0) = s := by
        rw [hs, sub_mns, ← EM.out]
        rw [Bool.eq_iff_iff, beq_iff_eq, beq_iff_eq]
        omega
      have db : (s == s) = true := by cases s <;> rfl
      have hsu := TA.out.good.subset TB.out.good TA.out.tree TB.out.tree
      rw [← hs] at hsu
      have HSU := Lib.hid hsu; clear hsu hs EM
      have CO := Lib.hid (HSU.out)
      go_wp2_with fail
      refine CO.out.mono ?_
      rintro e w15 ⟨rfl, bel⟩
      replace TA := Lib.hid (TA.out.below bel)
      replace TB := Lib.hid (TB.out.below bel)
      replace BB := Lib.hid (below_then BB.out bel)
      clear bel CO
      clear HSU
      have CO := Lib.hid (TA.out.is ca)
      go_wp2_with fail
      refine CO.out.mono ?_
      rintro e w16 ⟨rfl, bel⟩
      replace TA := Lib.hid (TA.out.below bel)
      replace TB := Lib.hid (TB.out.below bel)
      replace BB := Lib.hid (below_then BB.out bel)
      clear bel CO
      have CO := Lib.hid (TB.out.is cb)
      go_wp2_with fail
      refine CO.out.mono ?_
      rintro e w17 ⟨rfl, bel⟩
      replace TA := Lib.hid (TA.out.below bel)
      replace TB := Lib.hid (TB.out.below bel)
      replace BB := Lib.hid (below_then BB.out bel)
      clear bel CO
      clear TA TB
      clear LEA LEB ts db
      have CO := Lib.hid (HAW.out w17)
      go_wp2_with fail
      refine CO.out.mono ?_
      rintro e w18 ⟨rfl, bel⟩
      replace BB := Lib.hid (below_then BB.out bel)
      clear bel CO
      go_wp2_with fail
      go_ret
      exact ⟨rfl, BB.out⟩
/-! ### THE ROW's STEP -/
set_option maxRecDepth 100000 in
theorem lifted (os : Os) (started : os.Started) (H : Type) (enc : TypeId × Value → H) :
    ReturnsInHanded {} Try.checked os 4 .any (Rows.blendPartsSpec.pre6 enc Try.prog Try.f4 Rows.blendPartsRow.domain false) (Rows.blendPartsSpec.post enc Try.prog Try.f4 false true false false) := by
  refine returnsInHanded_of_change (C := Try.checked) own started (by kernel_rfl) Try.func4
    (ChangeSpec.witness6 (enc := enc) (C := Try.checked) false ⟨#[], #[.slice none 0 0, .slice none 0 0], []⟩ 8 (by kernel_rfl) (by kernel_rfl) (by kernel_rfl) (by kernel_rfl)) ?_
  intro W base args ds gs before hval0 hW hcnd _
  have hval : ∀ (j : Nat) t v, Try.f4.params[j]? = some t → args[j]? = some v → Value.okWide Try.prog W .any base t v := hval0
  have hW' := hW
  obtain ⟨p, q, hA0, hV, rfl, hfz, hnd⟩ := hW
  have hA : DataW.TrodAll enc Try.prog W 0 (fun _ => true) true Try.f4.params.toList args.toList ds p := hA0
  rw [Try.params4] at hA hval
  obtain ⟨v0, vs0, d0, ds0, p0, q0, hargs, rfl, rfl, h0, r0⟩ := trodAll_cons hA
  obtain ⟨v1, vs1, d1, ds1, p1, q1, rfl, rfl, rfl, h1, r1⟩ := trodAll_cons r0
  obtain ⟨rfl, rfl, rfl⟩ := trodAll_nil r1
  obtain rfl : args = #[v0, v1] := by cases args; simp_all
  obtain ⟨rfl, rfl⟩ := trodVars_none hV
  have lt0 : ∀ x ∈ p0, x.block < W.heap.size := by obtain ⟨m, hm⟩ := h0; exact DataW.trod_lt m _ _ _ hm
  have ok0 := hval 0 22 v0 rfl rfl
  have lt1 : ∀ x ∈ p1, x.block < W.heap.size := by obtain ⟨m, hm⟩ := h1; exact DataW.trod_lt m _ _ _ hm
  have ok1 := hval 1 22 v1 rfl rfl
  clear hA0 hval0 hval
  obtain ⟨A0, c0, L0, rfl, hc0, hm0, ha0⟩ := ops_in ok0 h0
  obtain ⟨A1, c1, L1, rfl, hc1, hm1, ha1⟩ := ops_in ok1 h1
  refine (walk W hc0 hm0 ha0 hc1 hm1 ha1).mono fun e W' ⟨he, bel⟩ => ?_
  subst he
  exact ⟨_, rfl, _, _, _, [], _, [], hW', trodAll_mk1 (shut_bool Try.underlying4 _), (trodAll_cons_mk (Below.trod laidOut (by kernel_rfl) (of_decide_eq_true (by kernel_rfl)) h0 bel lt0) (trodAll_cons_mk (Below.trod laidOut (by kernel_rfl) (of_decide_eq_true (by kernel_rfl)) h1 bel lt1) trodAll_mk0)), rfl, bel.frame _, fun h => by cases h⟩

theorem over : Rows.blendPartsRow.holds Try.pinned (OpenSpec.ofChange Rows.blendPartsSpec) :=
  OpenClaim.holds_of_wide 4 Try.f4 rfl rfl rfl rfl rfl rfl rfl ⟨rfl, rfl, rfl, rfl, rfl⟩ rfl rfl rfl rfl rfl (by kernel_rfl) Try.func4 (by kernel_rfl)
    (of_decide_eq_true (by kernel_rfl)) (by unfold Func.isWrapper; first | (rw [if_pos (by decide +kernel)]; kernel_rfl) | (rw [if_neg (by decide +kernel)]; exact ⟨rfl, rfl⟩))
    (fun os started H enc _ => lifted os started H enc)

/-- ████ THE STATEMENT ████ -/
theorem proved : Rows.BlendPartsSaid := over
#print axioms proved
end Go.Proofs.Ytnniojlofhbioaa.blendParts
