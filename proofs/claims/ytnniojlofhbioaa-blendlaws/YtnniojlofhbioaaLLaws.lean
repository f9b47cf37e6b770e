/-
  BlendLaws: for every input the law answers true and leaves its arguments as they were: the walk is typed by hand, the row's step is the guide's template.
  Conditions: none beside the row's own.
-/
import Derived.Test.YtnniojlofhbioaaLaws
import Derived.Test.YtnniojlofhbioaaIn
import Derived.Test.YtnniojlofhbioaaRows
import Derived.WalkKit
import Derived.ProofKit
import Derived.OpenShut
import Derived.ShutString
import Derived.ChangeOld
import Derived.Below
namespace Go.Proofs.Ytnniojlofhbioaa.blendLaws
open Go.ChangeShapes Go.WideShapes Go.ChangeAt Go.RowKit
set_option linter.unusedVariables false
theorem own : ownKnob Try.prog.godebug = none := by kernel_rfl
theorem laidOut : laidOutB Try.prog = true := by kernel_rfl
set_option maxRecDepth 100000 in
set_option maxHeartbeats 4000000 in
theorem walk {A0 : Option Addr} {c0 : Nat} {L0 : List Opn} {A1 : Option Addr} {c1 : Nat} {L1 : List Opn} (w : World) (hc0 : L0.length ≤ c0) (hm0 : c0 ≤ maxLen) (ha0 : Ocs w A0 L0) (hc1 : L1.length ≤ c1) (hm1 : c1 ≤ maxLen) (ha1 : Ocs w A1 L1) :
    Calls Try.prog 5 #[.slice A0 L0.length c0, .slice A1 L1.length c1] w fun e w' => e = .returned (.bool true) ∧ Below w.heap.size w w' := by
  have HAW := Lib.hid awake_any
  have F0 := Lib.hid (fun W (h : Below w.heap.size w W) => fine_any (ha0.below h) c0 60 (by decide) (Nat.le_trans hc0 hm0))
  have M0 := Lib.hid (fun W (h : Below w.heap.size w W) (g : (decide (L0.length ≤ 60) && tinyO L0) = true) => made_two (most := 60) c0 (ha0.below h) (Fine60 g).1 (by decide) (Fine60 g).2)
  have F1 := Lib.hid (fun W (h : Below w.heap.size w W) => fine_any (ha1.below h) c1 60 (by decide) (Nat.le_trans hc1 hm1))
  have M1 := Lib.hid (fun W (h : Below w.heap.size w W) (g : (decide (L1.length ≤ 60) && tinyO L1) = true) => made_two (most := 60) c1 (ha1.below h) (Fine60 g).1 (by decide) (Fine60 g).2)
  have BB : Hid (Below w.heap.size w w) := Below.refl _ _
  clear ha0 hc0 hm0 ha1 hc1 hm1
  cases h0 : (decide (L0.length ≤ 60) && tinyO L0) with
  | false =>
    have G0 := F0.out
    simp only [h0] at G0
    have G0' := Lib.hid G0; clear G0
    clear h0 F0 M0 F1 M1
    go_enter Try.func5, Try.ntmps5
    have CO := Lib.hid (G0'.out w BB.out)
    go_wp2_with fail
    refine CO.out.mono ?_
    rintro e w1 ⟨rfl, bel⟩
    replace BB := Lib.hid (below_then BB.out bel)
    clear bel CO
    have CO := Lib.hid (HAW.out w1)
    go_wp2_with fail
    refine CO.out.mono ?_
    rintro e w2 ⟨rfl, bel⟩
    replace BB := Lib.hid (below_then BB.out bel)
    clear bel CO
    go_wp2_with fail
    go_ret
    exact ⟨rfl, BB.out⟩
  | true =>
    cases h1 : (decide (L1.length ≤ 60) && tinyO L1) with
    | false =>
      have G0 := F0.out
      simp only [h0] at G0
      have G0' := Lib.hid G0; clear G0
      have G1 := F1.out
      simp only [h1] at G1
      have G1' := Lib.hid G1; clear G1
      clear h0 h1 F0 M0 F1 M1
      go_enter Try.func5, Try.ntmps5
      have CO := Lib.hid (G0'.out w BB.out)
      go_wp2_with fail
      refine CO.out.mono ?_
      rintro e w1 ⟨rfl, bel⟩
      replace BB := Lib.hid (below_then BB.out bel)
      clear bel CO
      have CO := Lib.hid (G1'.out w1 BB.out)
      go_wp2_with fail
      refine CO.out.mono ?_
      rintro e w2 ⟨rfl, bel⟩
      replace BB := Lib.hid (below_then BB.out bel)
      clear bel CO
      have CO := Lib.hid (HAW.out w2)
      go_wp2_with fail
      refine CO.out.mono ?_
      rintro e w3 ⟨rfl, bel⟩
      replace BB := Lib.hid (below_then BB.out bel)
      clear bel CO
      go_wp2_with fail
      go_ret
      exact ⟨rfl, BB.out⟩
    | true =>
      have G0 := F0.out
      simp only [h0] at G0
      have G0' := Lib.hid G0; clear G0
      have N0 := Lib.hid (fun W (h : Below w.heap.size w W) => M0.out W h h0)
      have G1 := F1.out
      simp only [h1] at G1
      have G1' := Lib.hid G1; clear G1
      have N1 := Lib.hid (fun W (h : Below w.heap.size w W) => M1.out W h h1)
      clear h0 F0 M0 h1 F1 M1
      go_enter Try.func5, Try.ntmps5
      have CO := Lib.hid (G0'.out w BB.out)
      go_wp2_with fail
      refine CO.out.mono ?_
      rintro e w1 ⟨rfl, bel⟩
      replace BB := Lib.hid (below_then BB.out bel)
      clear bel CO G0'
      have CO := Lib.hid (G1'.out w1 BB.out)
      go_wp2_with fail
      refine CO.out.mono ?_
      rintro e w2 ⟨rfl, bel⟩
      replace BB := Lib.hid (below_then BB.out bel)
      clear bel CO G1'
      have CO := Lib.hid (N0.out w2 BB.out)
      go_wp2_with fail
      refine CO.out.mono ?_
      rintro e w3 ⟨pa, ra, ca, na, A, rfl, ta, la, bel⟩
      replace BB := Lib.hid (below_then BB.out bel)
      have TA := Lib.hid (ta)
      clear ta
      clear bel CO
      have LEA := Lib.hid la; clear la N0
      have CO := Lib.hid (N1.out w3 BB.out)
      go_wp2_with fail
      refine CO.out.mono ?_
      rintro e w4 ⟨pb, rb, cb, nb, B, rfl, tb, lb, bel⟩
      replace TA := Lib.hid (TA.out.below bel)
      replace BB := Lib.hid (below_then BB.out bel)
      have TB := Lib.hid (tb)
      clear tb
      clear bel CO
      have LEB := Lib.hid lb; clear lb N1
      have GA := Lib.hid TA.out.good
      have GB := Lib.hid TB.out.good
      have IA := Lib.hid TA.out.tree
      have IB := Lib.hid TB.out.tree
      have GU := Lib.hid (GA.out.uni GB.out (by have := LEA.out; have := LEB.out; omega))
      have GM := Lib.hid (GA.out.mns B)
      have GH := Lib.hid (GA.out.bth B)
      obtain ⟨sa, esa⟩ : ∃ n, n = A.length := ⟨_, rfl⟩
      obtain ⟨sb, esb⟩ : ∃ n, n = B.length := ⟨_, rfl⟩
      obtain ⟨sm, esm⟩ : ∃ n, n = (mns A B).length := ⟨_, rfl⟩
      obtain ⟨sh, esh⟩ : ∃ n, n = (bth A B).length := ⟨_, rfl⟩
      obtain ⟨su, esu⟩ : ∃ n, n = (uni A B).length := ⟨_, rfl⟩
      have q1 : sm + sh = sa := by rw [esm, esh, esa]; exact parts_length A B
      have q2 : su + sh = sa + sb := by rw [esu, esh, esa, esb]; exact uni_sum GA.out.sorted GB.out.sorted
      have q3 : sa ≤ 60 ∧ sb ≤ 60 := by rw [esa, esb]; exact ⟨LEA.out, LEB.out⟩
      have QQ := Lib.hid (And.intro q1 (And.intro q2 q3)); clear q1 q2 q3
      have Esa := Lib.hid esa; clear esa
      have Esb := Lib.hid esb; clear esb
      have Esm := Lib.hid esm; clear esm
      have Esh := Lib.hid esh; clear esh
      have Esu := Lib.hid esu; clear esu
      clear TA TB LEA LEB
      have CO := Lib.hid (GA.out.list IA.out)
      go_wp2_with fail
      refine CO.out.mono ?_
      rintro e w5 ⟨rl, cl, nl, rfl, el, hp, bel⟩
      replace IA := Lib.hid (IA.out.below bel)
      replace IB := Lib.hid (IB.out.below bel)
      replace BB := Lib.hid (below_then BB.out bel)
      have PL := Lib.hid (hp)
      clear hp
      clear bel CO
      obtain rfl : nl = sa := by rw [el, Esa.out]
      clear el
      have CO := Lib.hid (GA.out.union_nil IA.out)
      go_wp2_with fail
      refine CO.out.mono ?_
      rintro e w6 ⟨px, rfl, hx, bel⟩
      replace IA := Lib.hid (IA.out.below bel)
      replace IB := Lib.hid (IB.out.below bel)
      replace PL := Lib.hid (PL.out.below bel)
      replace BB := Lib.hid (below_then BB.out bel)
      have IX := Lib.hid (hx)
      clear hx
      clear bel CO
      have CO := Lib.hid (GA.out.list IX.out)
      go_wp2_with fail
      refine CO.out.mono ?_
      rintro e w7 ⟨rx, cx, nx, rfl, ex, hp, bel⟩
      replace IA := Lib.hid (IA.out.below bel)
      replace IB := Lib.hid (IB.out.below bel)
      replace PL := Lib.hid (PL.out.below bel)
      replace IX := Lib.hid (IX.out.below bel)
      replace BB := Lib.hid (below_then BB.out bel)
      have PX := Lib.hid (hp)
      clear hp
      clear bel CO
      have EX := Lib.hid ex; clear ex
      have CO := Lib.hid (GA.out.same cx cl PX.out PL.out EX.out Esa.out)
      go_wp2_with fail
      refine CO.out.mono ?_
      rintro e w8 ⟨rfl, bel⟩
      replace IA := Lib.hid (IA.out.below bel)
      replace IB := Lib.hid (IB.out.below bel)
      replace PL := Lib.hid (PL.out.below bel)
      replace IX := Lib.hid (IX.out.below bel)
      replace PX := Lib.hid (PX.out.below bel)
      replace BB := Lib.hid (below_then BB.out bel)
      clear bel CO
      clear IX PX
      clear EX
      have CO := Lib.hid (GA.out.nil_union IA.out)
      go_wp2_with fail
      refine CO.out.mono ?_
      rintro e w9 ⟨px, rfl, hx, bel⟩
      replace IA := Lib.hid (IA.out.below bel)
      replace IB := Lib.hid (IB.out.below bel)
      replace PL := Lib.hid (PL.out.below bel)
      replace BB := Lib.hid (below_then BB.out bel)
      have IX := Lib.hid (hx)
      clear hx
      clear bel CO
      have CO := Lib.hid (GA.out.list IX.out)
      go_wp2_with fail
      refine CO.out.mono ?_
      rintro e w10 ⟨rx, cx, nx, rfl, ex, hp, bel⟩
      replace IA := Lib.hid (IA.out.below bel)
      replace IB := Lib.hid (IB.out.below bel)
      replace PL := Lib.hid (PL.out.below bel)
      replace IX := Lib.hid (IX.out.below bel)
      replace BB := Lib.hid (below_then BB.out bel)
      have PX := Lib.hid (hp)
      clear hp
      clear bel CO
      have EX := Lib.hid ex; clear ex
      have CO := Lib.hid (GA.out.same cx cl PX.out PL.out EX.out Esa.out)
      go_wp2_with fail
      refine CO.out.mono ?_
      rintro e w11 ⟨rfl, bel⟩
      replace IA := Lib.hid (IA.out.below bel)
      replace IB := Lib.hid (IB.out.below bel)
      replace PL := Lib.hid (PL.out.below bel)
      replace IX := Lib.hid (IX.out.below bel)
      replace PX := Lib.hid (PX.out.below bel)
      replace BB := Lib.hid (below_then BB.out bel)
      clear bel CO
      clear IX PX
      clear EX
      have CO := Lib.hid (GA.out.union_self IA.out)
      go_wp2_with fail
      refine CO.out.mono ?_
      rintro e w12 ⟨px, rfl, hx, bel⟩
      replace IA := Lib.hid (IA.out.below bel)
      replace IB := Lib.hid (IB.out.below bel)
      replace PL := Lib.hid (PL.out.below bel)
      replace BB := Lib.hid (below_then BB.out bel)
      have IX := Lib.hid (hx)
      clear hx
      clear bel CO
      have CO := Lib.hid (GA.out.list IX.out)
      go_wp2_with fail
      refine CO.out.mono ?_
      rintro e w13 ⟨rx, cx, nx, rfl, ex, hp, bel⟩
      replace IA := Lib.hid (IA.out.below bel)
      replace IB := Lib.hid (IB.out.below bel)
      replace PL := Lib.hid (PL.out.below bel)
      replace IX := Lib.hid (IX.out.below bel)
      replace BB := Lib.hid (below_then BB.out bel)
      have PX := Lib.hid (hp)
      clear hp
      clear bel CO
      have EX := Lib.hid ex; clear ex
      have CO := Lib.hid (GA.out.same cx cl PX.out PL.out EX.out Esa.out)
      go_wp2_with fail
      refine CO.out.mono ?_
      rintro e w14 ⟨rfl, bel⟩
      replace IA := Lib.hid (IA.out.below bel)
      replace IB := Lib.hid (IB.out.below bel)
      replace PL := Lib.hid (PL.out.below bel)
      replace IX := Lib.hid (IX.out.below bel)
      replace PX := Lib.hid (PX.out.below bel)
      replace BB := Lib.hid (below_then BB.out bel)
      clear bel CO
      clear IX PX
      clear EX
      have CO := Lib.hid (GA.out.minus GB.out IA.out IB.out)
      go_wp2_with fail
      refine CO.out.mono ?_
      rintro e w15 ⟨pM, rfl, hM, bel⟩
      replace IA := Lib.hid (IA.out.below bel)
      replace IB := Lib.hid (IB.out.below bel)
      replace PL := Lib.hid (PL.out.below bel)
      replace BB := Lib.hid (below_then BB.out bel)
      have IM := Lib.hid (hM)
      clear hM
      clear bel CO
      have CO := Lib.hid (GA.out.both GB.out IA.out IB.out)
      go_wp2_with fail
      refine CO.out.mono ?_
      rintro e w16 ⟨pH, rfl, hH, bel⟩
      replace IA := Lib.hid (IA.out.below bel)
      replace IB := Lib.hid (IB.out.below bel)
      replace PL := Lib.hid (PL.out.below bel)
      replace IM := Lib.hid (IM.out.below bel)
      replace BB := Lib.hid (below_then BB.out bel)
      have IH := Lib.hid (hH)
      clear hH
      clear bel CO
      have CO := Lib.hid (GA.out.union_parts B IM.out IH.out)
      go_wp2_with fail
      refine CO.out.mono ?_
      rintro e w17 ⟨px, rfl, hx, bel⟩
      replace IA := Lib.hid (IA.out.below bel)
      replace IB := Lib.hid (IB.out.below bel)
      replace PL := Lib.hid (PL.out.below bel)
      replace IM := Lib.hid (IM.out.below bel)
      replace IH := Lib.hid (IH.out.below bel)
      replace BB := Lib.hid (below_then BB.out bel)
      have IX := Lib.hid (hx)
      clear hx
      clear bel CO
      have CO := Lib.hid (GA.out.list IX.out)
      go_wp2_with fail
      refine CO.out.mono ?_
      rintro e w18 ⟨rx, cx, nx, rfl, ex, hp, bel⟩
      replace IA := Lib.hid (IA.out.below bel)
      replace IB := Lib.hid (IB.out.below bel)
      replace PL := Lib.hid (PL.out.below bel)
      replace IM := Lib.hid (IM.out.below bel)
      replace IH := Lib.hid (IH.out.below bel)
      replace IX := Lib.hid (IX.out.below bel)
      replace BB := Lib.hid (below_then BB.out bel)
      have PX := Lib.hid (hp)
      clear hp
      clear bel CO
      have EX := Lib.hid ex; clear ex
      have CO := Lib.hid (GA.out.same cx cl PX.out PL.out EX.out Esa.out)
      go_wp2_with fail
      refine CO.out.mono ?_
      rintro e w19 ⟨rfl, bel⟩
      replace IA := Lib.hid (IA.out.below bel)
      replace IB := Lib.hid (IB.out.below bel)
      replace PL := Lib.hid (PL.out.below bel)
      replace IM := Lib.hid (IM.out.below bel)
      replace IH := Lib.hid (IH.out.below bel)
      replace IX := Lib.hid (IX.out.below bel)
      replace PX := Lib.hid (PX.out.below bel)
      replace BB := Lib.hid (below_then BB.out bel)
      clear bel CO
      clear IX PX
      clear EX
      clear PL
      have CO := Lib.hid (GA.out.both_parts B IM.out IH.out)
      go_wp2_with fail
      refine CO.out.mono ?_
      rintro e w20 ⟨px, rfl, hx, bel⟩
      replace IA := Lib.hid (IA.out.below bel)
      replace IB := Lib.hid (IB.out.below bel)
      replace IM := Lib.hid (IM.out.below bel)
      replace IH := Lib.hid (IH.out.below bel)
      replace BB := Lib.hid (below_then BB.out bel)
      have IX := Lib.hid (hx)
      clear hx
      clear bel CO
      have CO := Lib.hid (size_nil IX.out)
      go_wp2_with fail
      refine CO.out.mono ?_
      rintro e w' ⟨rfl, rfl⟩
      clear CO
      clear IX
      have CO := Lib.hid (GM.out.size IM.out Esm.out)
      go_wp2_with fail
      refine CO.out.mono ?_
      rintro e w' ⟨rfl, rfl⟩
      clear CO
      have CO := Lib.hid (GH.out.size IH.out Esh.out)
      go_wp2_with fail
      obtain ⟨q1, q2, q3, q4⟩ := QQ.out
      refine CO.out.mono ?_
      rintro e w' ⟨rfl, rfl⟩
      clear CO
      clear IM
      clear GM Esm
      have CO := Lib.hid (GA.out.union GB.out IA.out IB.out)
      go_wp2_with fail
      refine CO.out.mono ?_
      rintro e w21 ⟨pU, rfl, hU, bel⟩
      replace IA := Lib.hid (IA.out.below bel)
      replace IB := Lib.hid (IB.out.below bel)
      replace IH := Lib.hid (IH.out.below bel)
      replace BB := Lib.hid (below_then BB.out bel)
      have IU := Lib.hid (hU)
      clear hU
      clear bel CO
      clear q1 q2 q3 q4
      have CO := Lib.hid (GA.out.within GU.out IA.out IU.out (sub_left A GB.out.sorted))
      go_wp2_with fail
      refine CO.out.mono ?_
      rintro e w22 ⟨rfl, bel⟩
      replace IA := Lib.hid (IA.out.below bel)
      replace IB := Lib.hid (IB.out.below bel)
      replace IH := Lib.hid (IH.out.below bel)
      replace IU := Lib.hid (IU.out.below bel)
      replace BB := Lib.hid (below_then BB.out bel)
      clear bel CO
      have CO := Lib.hid (GB.out.within GU.out IB.out IU.out (sub_right A GB.out.sorted))
      go_wp2_with fail
      refine CO.out.mono ?_
      rintro e w23 ⟨rfl, bel⟩
      replace IA := Lib.hid (IA.out.below bel)
      replace IB := Lib.hid (IB.out.below bel)
      replace IH := Lib.hid (IH.out.below bel)
      replace IU := Lib.hid (IU.out.below bel)
      replace BB := Lib.hid (below_then BB.out bel)
      clear bel CO
      have CO := Lib.hid (GH.out.within GA.out IH.out IA.out (sub_both A B).1)
      go_wp2_with fail
      refine CO.out.mono ?_
      rintro e w24 ⟨rfl, bel⟩
      replace IA := Lib.hid (IA.out.below bel)
      replace IB := Lib.hid (IB.out.below bel)
      replace IH := Lib.hid (IH.out.below bel)
      replace IU := Lib.hid (IU.out.below bel)
      replace BB := Lib.hid (below_then BB.out bel)
      clear bel CO
      have CO := Lib.hid (GH.out.within GB.out IH.out IB.out (sub_both A B).2)
      go_wp2_with fail
      refine CO.out.mono ?_
      rintro e w25 ⟨rfl, bel⟩
      replace IA := Lib.hid (IA.out.below bel)
      replace IB := Lib.hid (IB.out.below bel)
      replace IH := Lib.hid (IH.out.below bel)
      replace IU := Lib.hid (IU.out.below bel)
      replace BB := Lib.hid (below_then BB.out bel)
      clear bel CO
      obtain ⟨q1, q2, q3, q4⟩ := QQ.out
      have CO := Lib.hid (GU.out.size IU.out Esu.out)
      go_wp2_with fail
      refine CO.out.mono ?_
      rintro e w' ⟨rfl, rfl⟩
      clear CO
      have CO := Lib.hid (GA.out.size IA.out Esa.out)
      go_wp2_with fail
      refine CO.out.mono ?_
      rintro e w' ⟨rfl, rfl⟩
      clear CO
      have CO := Lib.hid (GB.out.size IB.out Esb.out)
      go_wp2_with fail
      refine CO.out.mono ?_
      rintro e w' ⟨rfl, rfl⟩
      clear CO
      have CO := Lib.hid (GH.out.size IH.out Esh.out)
      go_wp2_with fail
      refine CO.out.mono ?_
      rintro e w' ⟨rfl, rfl⟩
      clear CO
      clear IU IH IB
      clear GU GH GB Esu Esb Esh
      have CO := Lib.hid (GA.out.minus_self IA.out)
      go_wp2_with fail
      refine CO.out.mono ?_
      rintro e w26 ⟨px, rfl, hx, bel⟩
      replace IA := Lib.hid (IA.out.below bel)
      replace BB := Lib.hid (below_then BB.out bel)
      have IX := Lib.hid (hx)
      clear hx
      clear bel CO
      clear q1 q2 q3 q4
      have CO := Lib.hid (size_nil IX.out)
      go_wp2_with fail
      refine CO.out.mono ?_
      rintro e w' ⟨rfl, rfl⟩
      clear CO
      clear IX IA
      clear GA Esa QQ
      have CO := Lib.hid (HAW.out w26)
      go_wp2_with fail
      refine CO.out.mono ?_
      rintro e w27 ⟨rfl, bel⟩
      replace BB := Lib.hid (below_then BB.out bel)
      clear bel CO
      go_wp2_with fail
      go_ret
      exact ⟨rfl, BB.out⟩
/-! ### THE ROW's STEP -/
set_option maxRecDepth 100000 in
theorem lifted (os : Os) (started : os.Started) (H : Type) (enc : TypeId × Value → H) :
    ReturnsInHanded {} Try.checked os 5 .any (Rows.blendLawsSpec.pre6 enc Try.prog Try.f5 Rows.blendLawsRow.domain false) (Rows.blendLawsSpec.post enc Try.prog Try.f5 false true false false) := by
  refine returnsInHanded_of_change (C := Try.checked) own started (by kernel_rfl) Try.func5
    (ChangeSpec.witness6 (enc := enc) (C := Try.checked) false ⟨#[], #[.slice none 0 0, .slice none 0 0], []⟩ 8 (by kernel_rfl) (by kernel_rfl) (by kernel_rfl) (by kernel_rfl)) ?_
  intro W base args ds gs before hval0 hW hcnd _
  have hval : ∀ (j : Nat) t v, Try.f5.params[j]? = some t → args[j]? = some v → Value.okWide Try.prog W .any base t v := hval0
  have hW' := hW
  obtain ⟨p, q, hA0, hV, rfl, hfz, hnd⟩ := hW
  have hA : DataW.TrodAll enc Try.prog W 0 (fun _ => true) true Try.f5.params.toList args.toList ds p := hA0
  rw [Try.params5] at hA hval
  obtain ⟨v0, vs0, d0, ds0, p0, q0, hargs, rfl, rfl, h0, r0⟩ := trodAll_cons hA
  obtain ⟨v1, vs1, d1, ds1, p1, q1, rfl, rfl, rfl, h1, r1⟩ := trodAll_cons r0
  obtain ⟨rfl, rfl, rfl⟩ := trodAll_nil r1
  obtain rfl : args = #[v0, v1] := by cases args; simp_all
  obtain ⟨rfl, rfl⟩ := trodVars_none hV
  have lt0 : ∀ x ∈ p0, x.block < W.heap.size := by obtain ⟨m, hm⟩ := h0; exact DataW.trod_lt m _ _ _ hm
  have ok0 := hval 0 22 v0 rfl rfl
  have lt1 : ∀ x ∈ p1, x.block < W.heap.size := by obtain ⟨m, hm⟩ := h1; exact DataW.trod_lt m _ _ _ hm
  have ok1 := hval 1 22 v1 rfl rfl
  clear hA0 hval0 hval
  obtain ⟨A0, c0, L0, rfl, hc0, hm0, ha0⟩ := ops_in ok0 h0
  obtain ⟨A1, c1, L1, rfl, hc1, hm1, ha1⟩ := ops_in ok1 h1
  refine (walk W hc0 hm0 ha0 hc1 hm1 ha1).mono fun e W' ⟨he, bel⟩ => ?_
  subst he
  exact ⟨_, rfl, _, _, _, [], _, [], hW', trodAll_mk1 (shut_bool Try.underlying4 _), (trodAll_cons_mk (Below.trod laidOut (by kernel_rfl) (of_decide_eq_true (by kernel_rfl)) h0 bel lt0) (trodAll_cons_mk (Below.trod laidOut (by kernel_rfl) (of_decide_eq_true (by kernel_rfl)) h1 bel lt1) trodAll_mk0)), rfl, bel.frame _, fun h => by cases h⟩

theorem over : Rows.blendLawsRow.holds Try.pinned (OpenSpec.ofChange Rows.blendLawsSpec) :=
  OpenClaim.holds_of_wide 5 Try.f5 rfl rfl rfl rfl rfl rfl rfl ⟨rfl, rfl, rfl, rfl, rfl⟩ rfl rfl rfl rfl rfl (by kernel_rfl) Try.func5 (by kernel_rfl)
    (of_decide_eq_true (by kernel_rfl)) (by unfold Func.isWrapper; first | (rw [if_pos (by decide +kernel)]; kernel_rfl) | (rw [if_neg (by decide +kernel)]; exact ⟨rfl, rfl⟩))
    (fun os started H enc _ => lifted os started H enc)

/-- ████ THE STATEMENT ████ -/
theorem proved : Rows.BlendLawsSaid := over
#print axioms proved
end Go.Proofs.Ytnniojlofhbioaa.blendLaws
