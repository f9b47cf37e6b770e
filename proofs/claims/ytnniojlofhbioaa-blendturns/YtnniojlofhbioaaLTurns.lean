/-
  BlendTurns: for every input the law answers true and leaves its arguments as they were: the walk is typed by hand, the row's step is the guide's template.
  Conditions: none beside the row's own.
-/
import Derived.Test.YtnniojlofhbioaaLaws
import Derived.Test.YtnniojlofhbioaaIn
import Derived.Test.YtnniojlofhbioaaRows
import Derived.WalkKit
import Derived.ProofKit
import Derived.OpenShut
import Derived.ShutString
import Derived.ChangeOld
import Derived.Below
namespace Go.Proofs.Ytnniojlofhbioaa.blendTurns
open Go.ChangeShapes Go.WideShapes Go.ChangeAt Go.RowKit
set_option linter.unusedVariables false
theorem own : ownKnob Try.prog.godebug = none := by kernel_rfl
theorem laidOut : laidOutB Try.prog = true := by kernel_rfl
theorem box_two (w : World) (a b : Value) : ∃ w1, w1 = w.alloc (.cells #[a, b] 39) ∧ Below w.heap.size w w1 ∧
    ∀ W, Below w1.heap.size w1 W → W.cell? ⟨w.heap.size, 0, none⟩ = some a ∧ W.cell? ⟨w.heap.size, 1, none⟩ = some b := by
  refine ⟨_, rfl, (Below.refl _ _).alloc (Nat.le_refl _) _, fun W hW => ?_⟩
  have r0 : W.heap[w.heap.size]? = some (.cells #[a, b] 39 (0, 0)) := (hW.block _ (by simp)).trans (heap_alloc_new w _)
  constructor
  · rw [cell_of_row W _ _ _ 39 (0, 0) r0]; rfl
  · rw [cell_of_row W _ _ _ 39 (0, 0) r0]; rfl
theorem run_index6 (a b c d e f : Value) (j : Nat) (hj : j < 3) (W : World) :
    (Instr.index 40 (.agg #[a, b, c, d, e, f]) (.int .i64 (j : Int))).run Try.prog W = .ok (.agg (#[#[a, b], #[c, d], #[e, f]].getD j #[])) W := by
  have u40 := Try.underlying40
  have a39 := Try.isAgg39
  have hz : Try.t39.size = 2 := by kernel_rfl
  obtain rfl | rfl | rfl : j = 0 ∨ j = 1 ∨ j = 2 := by omega
  all_goals simp [Instr.index, run_underlying u40, Go.sizeOf, asIntOf, a39, hz, go_sem]
set_option maxRecDepth 100000 in
set_option maxHeartbeats 4000000 in
theorem walk {A0 : Option Addr} {c0 : Nat} {L0 : List Opn} {A1 : Option Addr} {c1 : Nat} {L1 : List Opn} {A2 : Option Addr} {c2 : Nat} {L2 : List Opn} (w : World) (hc0 : L0.length ≤ c0) (hm0 : c0 ≤ maxLen) (ha0 : Ocs w A0 L0) (hc1 : L1.length ≤ c1) (hm1 : c1 ≤ maxLen) (ha1 : Ocs w A1 L1) (hc2 : L2.length ≤ c2) (hm2 : c2 ≤ maxLen) (ha2 : Ocs w A2 L2) :
    Calls Try.prog 6 #[.slice A0 L0.length c0, .slice A1 L1.length c1, .slice A2 L2.length c2] w fun e w' => e = .returned (.bool true) ∧ Below w.heap.size w w' := by
  have HAW := Lib.hid awake_any
  have F0 := Lib.hid (fun W (h : Below w.heap.size w W) => fine_any (ha0.below h) c0 40 (by decide) (Nat.le_trans hc0 hm0))
  have M0 := Lib.hid (fun W (h : Below w.heap.size w W) (g : (decide (L0.length ≤ 40) && tinyO L0) = true) => made_two (most := 40) c0 (ha0.below h) (Fine60 g).1 (by decide) (Fine60 g).2)
  have F1 := Lib.hid (fun W (h : Below w.heap.size w W) => fine_any (ha1.below h) c1 40 (by decide) (Nat.le_trans hc1 hm1))
  have M1 := Lib.hid (fun W (h : Below w.heap.size w W) (g : (decide (L1.length ≤ 40) && tinyO L1) = true) => made_two (most := 40) c1 (ha1.below h) (Fine60 g).1 (by decide) (Fine60 g).2)
  have F2 := Lib.hid (fun W (h : Below w.heap.size w W) => fine_any (ha2.below h) c2 40 (by decide) (Nat.le_trans hc2 hm2))
  have M2 := Lib.hid (fun W (h : Below w.heap.size w W) (g : (decide (L2.length ≤ 40) && tinyO L2) = true) => made_two (most := 40) c2 (ha2.below h) (Fine60 g).1 (by decide) (Fine60 g).2)
  have BB : Hid (Below w.heap.size w w) := Below.refl _ _
  clear ha0 hc0 hm0 ha1 hc1 hm1 ha2 hc2 hm2
  cases h0 : (decide (L0.length ≤ 40) && tinyO L0) with
  | false =>
    have G0 := F0.out
    simp only [h0] at G0
    have G0' := Lib.hid G0; clear G0
    clear h0 F0 M0 F1 M1 F2 M2
    go_enter Try.func6, Try.ntmps6
    have CO := Lib.hid (G0'.out w BB.out)
    go_wp2_with fail
    refine CO.out.mono ?_
    rintro e w1 ⟨rfl, bel⟩
    replace BB := Lib.hid (below_then BB.out bel)
    clear bel CO
    have CO := Lib.hid (HAW.out w1)
    go_wp2_with fail
    refine CO.out.mono ?_
    rintro e w2 ⟨rfl, bel⟩
    replace BB := Lib.hid (below_then BB.out bel)
    clear bel CO
    go_wp2_with fail
    go_ret
    exact ⟨rfl, BB.out⟩
  | true =>
    cases h1 : (decide (L1.length ≤ 40) && tinyO L1) with
    | false =>
      have G0 := F0.out
      simp only [h0] at G0
      have G0' := Lib.hid G0; clear G0
      have G1 := F1.out
      simp only [h1] at G1
      have G1' := Lib.hid G1; clear G1
      clear h0 h1 F0 M0 F1 M1 F2 M2
      go_enter Try.func6, Try.ntmps6
      have CO := Lib.hid (G0'.out w BB.out)
      go_wp2_with fail
      refine CO.out.mono ?_
      rintro e w1 ⟨rfl, bel⟩
      replace BB := Lib.hid (below_then BB.out bel)
      clear bel CO
      have CO := Lib.hid (G1'.out w1 BB.out)
      go_wp2_with fail
      refine CO.out.mono ?_
      rintro e w2 ⟨rfl, bel⟩
      replace BB := Lib.hid (below_then BB.out bel)
      clear bel CO
      have CO := Lib.hid (HAW.out w2)
      go_wp2_with fail
      refine CO.out.mono ?_
      rintro e w3 ⟨rfl, bel⟩
      replace BB := Lib.hid (below_then BB.out bel)
      clear bel CO
      go_wp2_with fail
      go_ret
      exact ⟨rfl, BB.out⟩
    | true =>
      cases h2 : (decide (L2.length ≤ 40) && tinyO L2) with
      | false =>
        have G0 := F0.out
        simp only [h0] at G0
        have G0' := Lib.hid G0; clear G0
        have G1 := F1.out
        simp only [h1] at G1
        have G1' := Lib.hid G1; clear G1
        have G2 := F2.out
        simp only [h2] at G2
        have G2' := Lib.hid G2; clear G2
        clear h0 h1 h2 F0 M0 F1 M1 F2 M2
        go_enter Try.func6, Try.ntmps6
        have CO := Lib.hid (G0'.out w BB.out)
        go_wp2_with fail
        refine CO.out.mono ?_
        rintro e w1 ⟨rfl, bel⟩
        replace BB := Lib.hid (below_then BB.out bel)
        clear bel CO
        have CO := Lib.hid (G1'.out w1 BB.out)
        go_wp2_with fail
        refine CO.out.mono ?_
        rintro e w2 ⟨rfl, bel⟩
        replace BB := Lib.hid (below_then BB.out bel)
        clear bel CO
        have CO := Lib.hid (G2'.out w2 BB.out)
        go_wp2_with fail
        refine CO.out.mono ?_
        rintro e w3 ⟨rfl, bel⟩
        replace BB := Lib.hid (below_then BB.out bel)
        clear bel CO
        have CO := Lib.hid (HAW.out w3)
        go_wp2_with fail
        refine CO.out.mono ?_
        rintro e w4 ⟨rfl, bel⟩
        replace BB := Lib.hid (below_then BB.out bel)
        clear bel CO
        go_wp2_with fail
        go_ret
        exact ⟨rfl, BB.out⟩
      | true =>
        have G0 := F0.out
        simp only [h0] at G0
        have G0' := Lib.hid G0; clear G0
        have N0 := Lib.hid (fun W (h : Below w.heap.size w W) => M0.out W h h0)
        have G1 := F1.out
        simp only [h1] at G1
        have G1' := Lib.hid G1; clear G1
        have N1 := Lib.hid (fun W (h : Below w.heap.size w W) => M1.out W h h1)
        have G2 := F2.out
        simp only [h2] at G2
        have G2' := Lib.hid G2; clear G2
        have N2 := Lib.hid (fun W (h : Below w.heap.size w W) => M2.out W h h2)
        clear h0 F0 M0 h1 F1 M1 h2 F2 M2
        go_enter Try.func6, Try.ntmps6
        have CO := Lib.hid (G0'.out w BB.out)
        go_wp2_with fail
        refine CO.out.mono ?_
        rintro e w1 ⟨rfl, bel⟩
        replace BB := Lib.hid (below_then BB.out bel)
        clear bel CO G0'
        have CO := Lib.hid (G1'.out w1 BB.out)
        go_wp2_with fail
        refine CO.out.mono ?_
        rintro e w2 ⟨rfl, bel⟩
        replace BB := Lib.hid (below_then BB.out bel)
        clear bel CO G1'
        have CO := Lib.hid (G2'.out w2 BB.out)
        go_wp2_with fail
        refine CO.out.mono ?_
        rintro e w3 ⟨rfl, bel⟩
        replace BB := Lib.hid (below_then BB.out bel)
        clear bel CO G2'
        have CO := Lib.hid (N0.out w3 BB.out)
        go_wp2_with fail
        refine CO.out.mono ?_
        rintro e w4 ⟨pa, ra, ca, na, A, rfl, ta, la, bel⟩
        replace BB := Lib.hid (below_then BB.out bel)
        have TA := Lib.hid (ta)
        clear ta
        clear bel CO
        have LEA := Lib.hid la; clear la N0
        have CO := Lib.hid (N1.out w4 BB.out)
        go_wp2_with fail
        refine CO.out.mono ?_
        rintro e w5 ⟨pb, rb, cb, nb, B, rfl, tb, lb, bel⟩
        replace TA := Lib.hid (TA.out.below bel)
        replace BB := Lib.hid (below_then BB.out bel)
        have TB := Lib.hid (tb)
        clear tb
        clear bel CO
        have LEB := Lib.hid lb; clear lb N1
        have CO := Lib.hid (N2.out w5 BB.out)
        go_wp2_with fail
        refine CO.out.mono ?_
        rintro e w6 ⟨pc, rc, cc, nc, C, rfl, tc, lc, bel⟩
        replace TA := Lib.hid (TA.out.below bel)
        replace TB := Lib.hid (TB.out.below bel)
        replace BB := Lib.hid (below_then BB.out bel)
        have TC := Lib.hid (tc)
        clear tc
        clear bel CO
        have LEC := Lib.hid lc; clear lc N2
        have GA := Lib.hid TA.out.good
        have IA := Lib.hid TA.out.tree
        have GB := Lib.hid TB.out.good
        have IB := Lib.hid TB.out.tree
        have GC := Lib.hid TC.out.good
        have IC := Lib.hid TC.out.tree
        have GU := Lib.hid (GA.out.uni GB.out (by have := LEA.out; have := LEB.out; omega))
        have GV := Lib.hid (GB.out.uni GA.out (by have := LEA.out; have := LEB.out; omega))
        have GH := Lib.hid (GA.out.bth B)
        have GI := Lib.hid (GB.out.bth A)
        have GO := Lib.hid (GA.out.odd GB.out (by have := LEA.out; have := LEB.out; omega))
        have GP := Lib.hid (GB.out.odd GA.out (by have := LEA.out; have := LEB.out; omega))
        have GX := Lib.hid (GU.out.uni GC.out (by have := LEA.out; have := LEB.out; have := LEC.out; have := uni_length B A; omega))
        have GY := Lib.hid (GB.out.uni GC.out (by have := LEB.out; have := LEC.out; omega))
        have GZ := Lib.hid (GH.out.bth C)
        have GW := Lib.hid (GB.out.bth C)
        clear TA TB TC LEA LEB LEC
        have CO := Lib.hid (GA.out.union GB.out IA.out IB.out)
        go_wp2_with fail
        refine CO.out.mono ?_
        rintro e w7 ⟨pU, rfl, hU, bel⟩
        replace IA := Lib.hid (IA.out.below bel)
        replace IB := Lib.hid (IB.out.below bel)
        replace IC := Lib.hid (IC.out.below bel)
        replace BB := Lib.hid (below_then BB.out bel)
        have IU := Lib.hid (hU)
        clear hU
        clear bel CO
        have CO := Lib.hid (GB.out.union GA.out IB.out IA.out)
        go_wp2_with fail
        refine CO.out.mono ?_
        rintro e w8 ⟨pV, rfl, hV, bel⟩
        replace IA := Lib.hid (IA.out.below bel)
        replace IB := Lib.hid (IB.out.below bel)
        replace IC := Lib.hid (IC.out.below bel)
        replace IU := Lib.hid (IU.out.below bel)
        replace BB := Lib.hid (below_then BB.out bel)
        have IV := Lib.hid (hV)
        clear hV
        clear bel CO
        have CO := Lib.hid (GA.out.both GB.out IA.out IB.out)
        go_wp2_with fail
        refine CO.out.mono ?_
        rintro e w9 ⟨pH, rfl, hH, bel⟩
        replace IA := Lib.hid (IA.out.below bel)
        replace IB := Lib.hid (IB.out.below bel)
        replace IC := Lib.hid (IC.out.below bel)
        replace IU := Lib.hid (IU.out.below bel)
        replace IV := Lib.hid (IV.out.below bel)
        replace BB := Lib.hid (below_then BB.out bel)
        have IH := Lib.hid (hH)
        clear hH
        clear bel CO
        have CO := Lib.hid (GB.out.both GA.out IB.out IA.out)
        go_wp2_with fail
        refine CO.out.mono ?_
        rintro e w10 ⟨pI, rfl, hI, bel⟩
        replace IA := Lib.hid (IA.out.below bel)
        replace IB := Lib.hid (IB.out.below bel)
        replace IC := Lib.hid (IC.out.below bel)
        replace IU := Lib.hid (IU.out.below bel)
        replace IV := Lib.hid (IV.out.below bel)
        replace IH := Lib.hid (IH.out.below bel)
        replace BB := Lib.hid (below_then BB.out bel)
        have II := Lib.hid (hI)
        clear hI
        clear bel CO
        have CO := Lib.hid (GA.out.odds GB.out IA.out IB.out)
        go_wp2_with fail
        refine CO.out.mono ?_
        rintro e w11 ⟨pO, rfl, hO, bel⟩
        replace IA := Lib.hid (IA.out.below bel)
        replace IB := Lib.hid (IB.out.below bel)
        replace IC := Lib.hid (IC.out.below bel)
        replace IU := Lib.hid (IU.out.below bel)
        replace IV := Lib.hid (IV.out.below bel)
        replace IH := Lib.hid (IH.out.below bel)
        replace II := Lib.hid (II.out.below bel)
        replace BB := Lib.hid (below_then BB.out bel)
        have IO := Lib.hid (hO)
        clear hO
        clear bel CO
        have CO := Lib.hid (GB.out.odds GA.out IB.out IA.out)
        go_wp2_with fail
        refine CO.out.mono ?_
        rintro e w12 ⟨pP, rfl, hP, bel⟩
        replace IA := Lib.hid (IA.out.below bel)
        replace IB := Lib.hid (IB.out.below bel)
        replace IC := Lib.hid (IC.out.below bel)
        replace IU := Lib.hid (IU.out.below bel)
        replace IV := Lib.hid (IV.out.below bel)
        replace IH := Lib.hid (IH.out.below bel)
        replace II := Lib.hid (II.out.below bel)
        replace IO := Lib.hid (IO.out.below bel)
        replace BB := Lib.hid (below_then BB.out bel)
        have IP := Lib.hid (hP)
        clear hP
        clear bel CO
        go_wp2_with fail
        go_loopw [66] (fun u wr => ∃ j : Nat, u = .int .i64 j ∧ j ≤ 3 ∧ Hid (Below w12.heap.size w12 wr)) (fun u _ => 3 - (intOf u).toNat)
        case atStart => exact ⟨0, rfl, by omega, Below.refl _ _⟩
        case round =>
          obtain ⟨j, rfl, hj, hbel⟩ := hrel
          obtain rfl | rfl | rfl | rfl : j = 0 ∨ j = 1 ∨ j = 2 ∨ j = 3 := by omega
          · obtain ⟨wb, hwb, bb, kb⟩ := box_two wr (.pointer pU) (.pointer pV)
            obtain ⟨q0, q1⟩ := kb wb (Below.refl _ _)
            have bk := below_then hbel.out bb
            have C1 := Lib.hid (GU.out.within GV.out (IU.out.below bk) (IV.out.below bk) (sub_uni GA.out.sorted GB.out.sorted))
            have C2 := Lib.hid (fun W (h : Below wb.heap.size wb W) => GV.out.within GU.out (IV.out.below (below_then bk h)) (IU.out.below (below_then bk h)) (sub_uni GB.out.sorted GA.out.sorted))
            have HWB := Lib.hid hwb; clear hwb
            have KB := Lib.hid kb; clear kb
            have BK := Lib.hid bk; clear bk bb hbel
            have hix := run_index6 (.pointer pU) (.pointer pV) (.pointer pH) (.pointer pI) (.pointer pO) (.pointer pP) 0 (by decide)
            replace hix : ∀ W, (Instr.index 40 (.agg #[.pointer pU, .pointer pV, .pointer pH, .pointer pI, .pointer pO, .pointer pP]) (.int .i64 0)).run Try.prog W = .ok (.agg #[.pointer pU, .pointer pV]) W := hix
            go_wp2_with (rw [← HWB.out])
            refine C1.out.mono ?_
            rintro e wc ⟨rfl, bc⟩
            clear q0 q1
            obtain ⟨q0, q1⟩ := KB.out wc bc
            have C3 := Lib.hid (C2.out wc bc)
            replace BK := Lib.hid (below_then BK.out bc)
            clear bc C1 C2 KB
            go_wp2_with fail
            refine C3.out.mono ?_
            rintro e wd ⟨rfl, bd⟩
            replace BK := Lib.hid (below_then BK.out bd)
            clear bd C3 q0 q1
            go_wp2_with fail
            go_roundw
            case rel => exact ⟨1, by go_num, by omega, BK.out⟩
            case measure => simp [intOf]
          · obtain ⟨wb, hwb, bb, kb⟩ := box_two wr (.pointer pH) (.pointer pI)
            obtain ⟨q0, q1⟩ := kb wb (Below.refl _ _)
            have bk := below_then hbel.out bb
            have C1 := Lib.hid (GH.out.within GI.out (IH.out.below bk) (II.out.below bk) (sub_bth A B))
            have C2 := Lib.hid (fun W (h : Below wb.heap.size wb W) => GI.out.within GH.out (II.out.below (below_then bk h)) (IH.out.below (below_then bk h)) (sub_bth B A))
            have HWB := Lib.hid hwb; clear hwb
            have KB := Lib.hid kb; clear kb
            have BK := Lib.hid bk; clear bk bb hbel
            have hix := run_index6 (.pointer pU) (.pointer pV) (.pointer pH) (.pointer pI) (.pointer pO) (.pointer pP) 1 (by decide)
            replace hix : ∀ W, (Instr.index 40 (.agg #[.pointer pU, .pointer pV, .pointer pH, .pointer pI, .pointer pO, .pointer pP]) (.int .i64 1)).run Try.prog W = .ok (.agg #[.pointer pH, .pointer pI]) W := hix
            go_wp2_with (rw [← HWB.out])
            refine C1.out.mono ?_
            rintro e wc ⟨rfl, bc⟩
            clear q0 q1
            obtain ⟨q0, q1⟩ := KB.out wc bc
            have C3 := Lib.hid (C2.out wc bc)
            replace BK := Lib.hid (below_then BK.out bc)
            clear bc C1 C2 KB
            go_wp2_with fail
            refine C3.out.mono ?_
            rintro e wd ⟨rfl, bd⟩
            replace BK := Lib.hid (below_then BK.out bd)
            clear bd C3 q0 q1
            go_wp2_with fail
            go_roundw
            case rel => exact ⟨2, by go_num, by omega, BK.out⟩
            case measure => simp [intOf]
          · obtain ⟨wb, hwb, bb, kb⟩ := box_two wr (.pointer pO) (.pointer pP)
            obtain ⟨q0, q1⟩ := kb wb (Below.refl _ _)
            have bk := below_then hbel.out bb
            have C1 := Lib.hid (GO.out.within GP.out (IO.out.below bk) (IP.out.below bk) (sub_odd GA.out.sorted GB.out.sorted))
            have C2 := Lib.hid (fun W (h : Below wb.heap.size wb W) => GP.out.within GO.out (IP.out.below (below_then bk h)) (IO.out.below (below_then bk h)) (sub_odd GB.out.sorted GA.out.sorted))
            have HWB := Lib.hid hwb; clear hwb
            have KB := Lib.hid kb; clear kb
            have BK := Lib.hid bk; clear bk bb hbel
            have hix := run_index6 (.pointer pU) (.pointer pV) (.pointer pH) (.pointer pI) (.pointer pO) (.pointer pP) 2 (by decide)
            replace hix : ∀ W, (Instr.index 40 (.agg #[.pointer pU, .pointer pV, .pointer pH, .pointer pI, .pointer pO, .pointer pP]) (.int .i64 2)).run Try.prog W = .ok (.agg #[.pointer pO, .pointer pP]) W := hix
            go_wp2_with (rw [← HWB.out])
            refine C1.out.mono ?_
            rintro e wc ⟨rfl, bc⟩
            clear q0 q1
            obtain ⟨q0, q1⟩ := KB.out wc bc
            have C3 := Lib.hid (C2.out wc bc)
            replace BK := Lib.hid (below_then BK.out bc)
            clear bc C1 C2 KB
            go_wp2_with fail
            refine C3.out.mono ?_
            rintro e wd ⟨rfl, bd⟩
            replace BK := Lib.hid (below_then BK.out bd)
            clear bd C3 q0 q1
            go_wp2_with fail
            go_roundw
            case rel => exact ⟨3, by go_num, by omega, BK.out⟩
            case measure => simp [intOf]
          · skip
            replace IA := Lib.hid (IA.out.below hbel.out)
            replace IB := Lib.hid (IB.out.below hbel.out)
            replace IC := Lib.hid (IC.out.below hbel.out)
            replace IU := Lib.hid (IU.out.below hbel.out)
            replace IV := Lib.hid (IV.out.below hbel.out)
            replace IH := Lib.hid (IH.out.below hbel.out)
            replace II := Lib.hid (II.out.below hbel.out)
            replace IO := Lib.hid (IO.out.below hbel.out)
            replace IP := Lib.hid (IP.out.below hbel.out)
            replace BB := Lib.hid (below_then BB.out hbel.out)
            clear hbel
            clear IU IV IH II IO IP
            obtain ⟨w13, hww⟩ : ∃ v, v = wr := ⟨_, rfl⟩
            subst hww
            have CO := Lib.hid (GA.out.union GB.out IA.out IB.out)
            go_wp2_with fail
            refine CO.out.mono ?_
            rintro e w14 ⟨pD, rfl, hD, bel⟩
            replace IA := Lib.hid (IA.out.below bel)
            replace IB := Lib.hid (IB.out.below bel)
            replace IC := Lib.hid (IC.out.below bel)
            replace BB := Lib.hid (below_then BB.out bel)
            have ID := Lib.hid (hD)
            clear hD
            clear bel CO
            have CO := Lib.hid (GU.out.union GC.out ID.out IC.out)
            go_wp2_with fail
            refine CO.out.mono ?_
            rintro e w15 ⟨pE, rfl, hE, bel⟩
            replace IA := Lib.hid (IA.out.below bel)
            replace IB := Lib.hid (IB.out.below bel)
            replace IC := Lib.hid (IC.out.below bel)
            replace ID := Lib.hid (ID.out.below bel)
            replace BB := Lib.hid (below_then BB.out bel)
            have IE := Lib.hid (hE)
            clear hE
            clear bel CO
            clear ID
            have CO := Lib.hid (GX.out.list IE.out)
            go_wp2_with fail
            refine CO.out.mono ?_
            rintro e w16 ⟨re, ce, ne, rfl, ee, hp, bel⟩
            replace IA := Lib.hid (IA.out.below bel)
            replace IB := Lib.hid (IB.out.below bel)
            replace IC := Lib.hid (IC.out.below bel)
            replace IE := Lib.hid (IE.out.below bel)
            replace BB := Lib.hid (below_then BB.out bel)
            have PE := Lib.hid (hp)
            clear hp
            clear bel CO
            have EE := Lib.hid ee; clear ee
            clear IE
            have CO := Lib.hid (GB.out.union GC.out IB.out IC.out)
            go_wp2_with fail
            refine CO.out.mono ?_
            rintro e w17 ⟨pD, rfl, hD, bel⟩
            replace IA := Lib.hid (IA.out.below bel)
            replace IB := Lib.hid (IB.out.below bel)
            replace IC := Lib.hid (IC.out.below bel)
            replace PE := Lib.hid (PE.out.below bel)
            replace BB := Lib.hid (below_then BB.out bel)
            have ID := Lib.hid (hD)
            clear hD
            clear bel CO
            have CO := Lib.hid (GA.out.union GY.out IA.out ID.out)
            go_wp2_with fail
            refine CO.out.mono ?_
            rintro e w18 ⟨pE, rfl, hE, bel⟩
            replace IA := Lib.hid (IA.out.below bel)
            replace IB := Lib.hid (IB.out.below bel)
            replace IC := Lib.hid (IC.out.below bel)
            replace PE := Lib.hid (PE.out.below bel)
            replace ID := Lib.hid (ID.out.below bel)
            replace BB := Lib.hid (below_then BB.out bel)
            have IE := Lib.hid (hE)
            clear hE
            clear bel CO
            clear ID
            have IE2 := IE.out
            rw [← uni_three GA.out.sorted GB.out.sorted GC.out.sorted] at IE2
            replace IE := Lib.hid IE2; clear IE2
            have CO := Lib.hid (GX.out.list IE.out)
            go_wp2_with fail
            refine CO.out.mono ?_
            rintro e w19 ⟨rf, cf, nf, rfl, ef, hp, bel⟩
            replace IA := Lib.hid (IA.out.below bel)
            replace IB := Lib.hid (IB.out.below bel)
            replace IC := Lib.hid (IC.out.below bel)
            replace PE := Lib.hid (PE.out.below bel)
            replace IE := Lib.hid (IE.out.below bel)
            replace BB := Lib.hid (below_then BB.out bel)
            have PF := Lib.hid (hp)
            clear hp
            clear bel CO
            have EF := Lib.hid ef; clear ef
            clear IE
            have CO := Lib.hid (GX.out.same ce cf PE.out PF.out EE.out EF.out)
            go_wp2_with fail
            refine CO.out.mono ?_
            rintro e w20 ⟨rfl, bel⟩
            replace IA := Lib.hid (IA.out.below bel)
            replace IB := Lib.hid (IB.out.below bel)
            replace IC := Lib.hid (IC.out.below bel)
            replace PE := Lib.hid (PE.out.below bel)
            replace PF := Lib.hid (PF.out.below bel)
            replace BB := Lib.hid (below_then BB.out bel)
            clear bel CO
            clear PE PF
            clear EE EF
            have CO := Lib.hid (GA.out.both GB.out IA.out IB.out)
            go_wp2_with fail
            refine CO.out.mono ?_
            rintro e w21 ⟨pD, rfl, hD, bel⟩
            replace IA := Lib.hid (IA.out.below bel)
            replace IB := Lib.hid (IB.out.below bel)
            replace IC := Lib.hid (IC.out.below bel)
            replace BB := Lib.hid (below_then BB.out bel)
            have ID := Lib.hid (hD)
            clear hD
            clear bel CO
            have CO := Lib.hid (GH.out.both GC.out ID.out IC.out)
            go_wp2_with fail
            refine CO.out.mono ?_
            rintro e w22 ⟨pE, rfl, hE, bel⟩
            replace IA := Lib.hid (IA.out.below bel)
            replace IB := Lib.hid (IB.out.below bel)
            replace IC := Lib.hid (IC.out.below bel)
            replace ID := Lib.hid (ID.out.below bel)
            replace BB := Lib.hid (below_then BB.out bel)
            have IE := Lib.hid (hE)
            clear hE
            clear bel CO
            clear ID
            have CO := Lib.hid (GZ.out.list IE.out)
            go_wp2_with fail
            refine CO.out.mono ?_
            rintro e w23 ⟨re, ce, ne, rfl, ee, hp, bel⟩
            replace IA := Lib.hid (IA.out.below bel)
            replace IB := Lib.hid (IB.out.below bel)
            replace IC := Lib.hid (IC.out.below bel)
            replace IE := Lib.hid (IE.out.below bel)
            replace BB := Lib.hid (below_then BB.out bel)
            have PE := Lib.hid (hp)
            clear hp
            clear bel CO
            have EE := Lib.hid ee; clear ee
            clear IE
            have CO := Lib.hid (GB.out.both GC.out IB.out IC.out)
            go_wp2_with fail
            refine CO.out.mono ?_
            rintro e w24 ⟨pD, rfl, hD, bel⟩
            replace IA := Lib.hid (IA.out.below bel)
            replace IB := Lib.hid (IB.out.below bel)
            replace IC := Lib.hid (IC.out.below bel)
            replace PE := Lib.hid (PE.out.below bel)
            replace BB := Lib.hid (below_then BB.out bel)
            have ID := Lib.hid (hD)
            clear hD
            clear bel CO
            have CO := Lib.hid (GA.out.both GW.out IA.out ID.out)
            go_wp2_with fail
            refine CO.out.mono ?_
            rintro e w25 ⟨pE, rfl, hE, bel⟩
            replace IA := Lib.hid (IA.out.below bel)
            replace IB := Lib.hid (IB.out.below bel)
            replace IC := Lib.hid (IC.out.below bel)
            replace PE := Lib.hid (PE.out.below bel)
            replace ID := Lib.hid (ID.out.below bel)
            replace BB := Lib.hid (below_then BB.out bel)
            have IE := Lib.hid (hE)
            clear hE
            clear bel CO
            clear ID
            have IE2 := IE.out
            rw [← bth_three A B C] at IE2
            replace IE := Lib.hid IE2; clear IE2
            have CO := Lib.hid (GZ.out.list IE.out)
            go_wp2_with fail
            refine CO.out.mono ?_
            rintro e w26 ⟨rf, cf, nf, rfl, ef, hp, bel⟩
            replace IA := Lib.hid (IA.out.below bel)
            replace IB := Lib.hid (IB.out.below bel)
            replace IC := Lib.hid (IC.out.below bel)
            replace PE := Lib.hid (PE.out.below bel)
            replace IE := Lib.hid (IE.out.below bel)
            replace BB := Lib.hid (below_then BB.out bel)
            have PF := Lib.hid (hp)
            clear hp
            clear bel CO
            have EF := Lib.hid ef; clear ef
            clear IE
            have CO := Lib.hid (GZ.out.same ce cf PE.out PF.out EE.out EF.out)
            go_wp2_with fail
            refine CO.out.mono ?_
            rintro e w27 ⟨rfl, bel⟩
            replace IA := Lib.hid (IA.out.below bel)
            replace IB := Lib.hid (IB.out.below bel)
            replace IC := Lib.hid (IC.out.below bel)
            replace PE := Lib.hid (PE.out.below bel)
            replace PF := Lib.hid (PF.out.below bel)
            replace BB := Lib.hid (below_then BB.out bel)
            clear bel CO
            clear PE PF
            clear EE EF
            clear IA IB IC
            clear GA GB GC GU GV GH GI GO GP GX GY GZ GW
            have CO := Lib.hid (HAW.out w27)
            go_wp2_with fail
            refine CO.out.mono ?_
            rintro e w28 ⟨rfl, bel⟩
            replace BB := Lib.hid (below_then BB.out bel)
            clear bel CO
            go_wp2_with fail
            go_ret
            exact ⟨rfl, BB.out⟩
/-! ### THE ROW's STEP -/
set_option maxRecDepth 100000 in
theorem lifted (os : Os) (started : os.Started) (H : Type) (enc : TypeId × Value → H) :
    ReturnsInHanded {} Try.checked os 6 .any (Rows.blendTurnsSpec.pre6 enc Try.prog Try.f6 Rows.blendTurnsRow.domain false) (Rows.blendTurnsSpec.post enc Try.prog Try.f6 false true false false) := by
  refine returnsInHanded_of_change (C := Try.checked) own started (by kernel_rfl) Try.func6
    (ChangeSpec.witness6 (enc := enc) (C := Try.checked) false ⟨#[], #[.slice none 0 0, .slice none 0 0, .slice none 0 0], []⟩ 8 (by kernel_rfl) (by kernel_rfl) (by kernel_rfl) (by kernel_rfl)) ?_
  intro W base args ds gs before hval0 hW hcnd _
  have hval : ∀ (j : Nat) t v, Try.f6.params[j]? = some t → args[j]? = some v → Value.okWide Try.prog W .any base t v := hval0
  have hW' := hW
  obtain ⟨p, q, hA0, hV, rfl, hfz, hnd⟩ := hW
  have hA : DataW.TrodAll enc Try.prog W 0 (fun _ => true) true Try.f6.params.toList args.toList ds p := hA0
  rw [Try.params6] at hA hval
  obtain ⟨v0, vs0, d0, ds0, p0, q0, hargs, rfl, rfl, h0, r0⟩ := trodAll_cons hA
  obtain ⟨v1, vs1, d1, ds1, p1, q1, rfl, rfl, rfl, h1, r1⟩ := trodAll_cons r0
  obtain ⟨v2, vs2, d2, ds2, p2, q2, rfl, rfl, rfl, h2, r2⟩ := trodAll_cons r1
  obtain ⟨rfl, rfl, rfl⟩ := trodAll_nil r2
  obtain rfl : args = #[v0, v1, v2] := by cases args; simp_all
  obtain ⟨rfl, rfl⟩ := trodVars_none hV
  have lt0 : ∀ x ∈ p0, x.block < W.heap.size := by obtain ⟨m, hm⟩ := h0; exact DataW.trod_lt m _ _ _ hm
  have ok0 := hval 0 22 v0 rfl rfl
  have lt1 : ∀ x ∈ p1, x.block < W.heap.size := by obtain ⟨m, hm⟩ := h1; exact DataW.trod_lt m _ _ _ hm
  have ok1 := hval 1 22 v1 rfl rfl
  have lt2 : ∀ x ∈ p2, x.block < W.heap.size := by obtain ⟨m, hm⟩ := h2; exact DataW.trod_lt m _ _ _ hm
  have ok2 := hval 2 22 v2 rfl rfl
  clear hA0 hval0 hval
  obtain ⟨A0, c0, L0, rfl, hc0, hm0, ha0⟩ := ops_in ok0 h0
  obtain ⟨A1, c1, L1, rfl, hc1, hm1, ha1⟩ := ops_in ok1 h1
  obtain ⟨A2, c2, L2, rfl, hc2, hm2, ha2⟩ := ops_in ok2 h2
  refine (walk W hc0 hm0 ha0 hc1 hm1 ha1 hc2 hm2 ha2).mono fun e W' ⟨he, bel⟩ => ?_
  subst he
  exact ⟨_, rfl, _, _, _, [], _, [], hW', trodAll_mk1 (shut_bool Try.underlying4 _), (trodAll_cons_mk (Below.trod laidOut (by kernel_rfl) (of_decide_eq_true (by kernel_rfl)) h0 bel lt0) (trodAll_cons_mk (Below.trod laidOut (by kernel_rfl) (of_decide_eq_true (by kernel_rfl)) h1 bel lt1) (trodAll_cons_mk (Below.trod laidOut (by kernel_rfl) (of_decide_eq_true (by kernel_rfl)) h2 bel lt2) trodAll_mk0))), rfl, bel.frame _, fun h => by cases h⟩

theorem over : Rows.blendTurnsRow.holds Try.pinned (OpenSpec.ofChange Rows.blendTurnsSpec) :=
  OpenClaim.holds_of_wide 6 Try.f6 rfl rfl rfl rfl rfl rfl rfl ⟨rfl, rfl, rfl, rfl, rfl⟩ rfl rfl rfl rfl rfl (by kernel_rfl) Try.func6 (by kernel_rfl)
    (of_decide_eq_true (by kernel_rfl)) (by unfold Func.isWrapper; first | (rw [if_pos (by decide +kernel)]; kernel_rfl) | (rw [if_neg (by decide +kernel)]; exact ⟨rfl, rfl⟩))
    (fun os started H enc _ => lifted os started H enc)

/-- ████ THE STATEMENT ████ -/
theorem proved : Rows.BlendTurnsSaid := over
#print axioms proved
end Go.Proofs.Ytnniojlofhbioaa.blendTurns
