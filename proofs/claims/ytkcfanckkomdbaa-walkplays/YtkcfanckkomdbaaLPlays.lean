/-
  WalkPlays: for every input the law answers true and leaves its arguments as they were: the walk is typed by hand, the row's step is the guide's template.
  Conditions: none beside the row's own.
-/
import Derived.Test.YtkcfanckkomdbaaMoves
import Derived.Test.YtkcfanckkomdbaaIn
import Derived.Test.YtkcfanckkomdbaaRows
import Derived.WalkKit
import Derived.ProofKit
import Derived.OpenShut
import Derived.ShutString
import Derived.ChangeOld
import Derived.Below
namespace Go.Proofs.Ytkcfanckkomdbaa.walkPlays
open Go.ChangeShapes Go.WideShapes Go.ChangeAt Go.RowKit
set_option linter.unusedVariables false
theorem own : ownKnob Try.prog.godebug = none := by kernel_rfl
theorem laidOut : laidOutB Try.prog = true := by kernel_rfl
set_option maxRecDepth 100000 in
set_option maxHeartbeats 4000000 in
theorem walk {A0 : Option Addr} {c0 : Nat} {L0 : List Opn} {z1 : Int} {A2 : Option Addr} {c2 : Nat} {L2 : List Mov} (w : World) (hc0 : L0.length ≤ c0) (hm0 : c0 ≤ maxLen) (ha0 : Ocs w A0 L0) (hl1 : -9223372036854775808 ≤ z1) (hu1 : z1 ≤ 9223372036854775807) (hc2 : L2.length ≤ c2) (hm2 : c2 ≤ maxLen) (ha2 : Mcs w A2 L2) :
    Calls Try.prog 3 #[.slice A0 L0.length c0, .int .i64 z1, .slice A2 L2.length c2] w fun e w' => e = .returned (.bool true) ∧ Below w.heap.size w w' := by
  have hsm := fine_any ha0 c0 60 (by decide) (Nat.le_trans hc0 hm0)
  have HAW := Lib.hid awake_any
  cases hs : (decide (L0.length ≤ 60) && tinyO L0) with
  | false =>
    rw [hs] at hsm
    have HSM := Lib.hid hsm; clear hsm
    clear ha0 hs hc0 hm0 hc2 hm2 ha2 hl1 hu1
    go_enter Try.func3, Try.ntmps3
    go_wp2_with fail
    refine HSM.out.mono ?_
    rintro e w1 ⟨rfl, hb⟩
    have HB := Lib.hid hb; clear hb
    go_wp2_with fail
    refine (HAW.out _).mono ?_
    rintro e w2 ⟨rfl, hb⟩
    have HB2 := Lib.hid hb; clear hb
    go_wp2_with fail
    go_ret
    exact ⟨rfl, below_then HB.out HB2.out⟩
  | true =>
    rw [hs] at hsm
    obtain ⟨hlen, htiny⟩ : L0.length ≤ 60 ∧ tinyO L0 = true := by simpa using hs
    have HSM := Lib.hid hsm; clear hsm
    by_cases hml : L2.length ≤ 60
    · have HMD := Lib.hid (fun W (h : Below w.heap.size w W) => made_mod c0 (ha0.below h) (by omega) htiny)
      have HA2 := Lib.hid ha2; clear ha2
      have hd2 : decide ((60 : Int) < (L2.length : Int)) = false := decide_eq_false (by omega)
      clear hs hc0 hm0 htiny ha0 hlen hc2 hm2
      go_enter Try.func3, Try.ntmps3
      go_wp2_with fail
      refine HSM.out.mono ?_
      rintro e w0 ⟨rfl, hb⟩
      have KM := Lib.hid (HMD.out w0 hb)
      have HB := Lib.hid hb; clear hb
      clear HMD HSM
      go_wp2_with fail
      refine KM.out.mono ?_
      rintro e w1 ⟨p, A, c, n, M, rfl, -, hwo, hmo, hb1⟩
      have hn80 := hmo.few
      have KC := Lib.hid (hwo.cursor z1 hl1 (by omega) rfl)
      have HLE := Lib.hid hmo.len
      have HMO := Lib.hid hmo; clear hmo
      have HWO := Lib.hid hwo; clear hwo
      have HB1 := Lib.hid (below_then HB.out hb1); clear hb1
      clear KM HB
      go_wp2_with fail
      refine KC.out.mono ?_
      rintro e w2 ⟨g, rfl, hg, hG, hb2⟩
      rw [← HLE.out] at hG
      have hkn := hold_le z1 n
      have KH := Lib.hid (refHeld_any z1 n w2)
      obtain ⟨k0, hk0⟩ : ∃ k0, k0 = hold z1 n := ⟨_, rfl⟩
      rw [← hk0] at hG KH hkn
      have HG := Lib.hid hG; clear hG
      have HM2 := Lib.hid (HMO.out.below hb2)
      have HT2 := Lib.hid (HWO.out.below hb2)
      have q1 := HB1.out
      have hgw : w.heap.size ≤ g := by rw [hg]; exact q1.size
      have HB2 := Lib.hid (below_then q1 hb2)
      clear KC HMO HWO hb2 hk0 hl1 hu1 hg q1
      go_wp2_with fail
      refine KH.out.mono ?_
      rintro e w' ⟨rfl, rfl⟩
      clear KH
      go_wp2_with fail
      go_loopw [7, 10, 42] (fun u v i wr => ∃ (j k : Nat) (tp : Option Addr), u = .pointer tp ∧ v = .int .i64 k ∧ i = .int .i64 j ∧ j ≤ L2.length ∧ k ≤ n ∧ Hid (Goes wr g p k M) ∧ Hid (Mod wr M A n) ∧ Hid (∃ L', Wood wr tp L') ∧ Hid (Onl g w2 wr)) (fun _ _ i _ => L2.length - (intOf i).toNat)
      case atStart => exact ⟨0, k0, p, rfl, rfl, rfl, by omega, hkn, HG.out, HM2.out, ⟨M, HT2.out⟩, Only.refl _ _⟩
      case round =>
        obtain ⟨j, k, tp, rfl, rfl, rfl, hj, hk, HG1, HM1, ⟨L', hT1⟩, HO1⟩ := hrel
        clear HG HM2 HT2 hkn
        by_cases hlt : j < L2.length
        · obtain ⟨b, off, ka, kc, rfl, hbl, h0, h1, hky⟩ := HA2.out.at rfl (HB2.out.trans (HO1.out.below HB2.out.size hgw)) hlt
          obtain ⟨z, hz⟩ : ∃ z : Int, z = (L2[j]).1 := ⟨_, rfl⟩
          obtain ⟨key, hkey⟩ : ∃ l : List UInt8, l = (L2[j]).2 := ⟨_, rfl⟩
          obtain ⟨x, hx⟩ : ∃ x, x = key.length := ⟨_, rfl⟩
          rw [← hz] at h0
          rw [← hkey] at h1 hky
          rw [← hx] at h1
          obtain ⟨w3, hw3, hb3, hV3⟩ := mvar_new wr z ka x kc
          have HG := Lib.hid (HG1.out.below hb3)
          have HM := Lib.hid (HM1.out.below hb3)
          have HT := Lib.hid (hT1.below hb3)
          have HV := Lib.hid hV3
          have HKY := Lib.hid (hky.below hb3)
          have HO := Lib.hid (HO1.out.trans (Only.of hb3))
          have HX := Lib.hid hx
          have HW3 := Lib.hid hw3; clear hw3
          obtain ⟨r0, r1⟩ := hV3.cells
          clear hb3 hV3 hky hT1 HG1 HM1 HO1 hz hkey
          by_cases hbig : x ≤ 100
          · have HBG := Lib.hid hbig
            have hd3 : decide ((100 : Int) < (x : Int)) = false := decide_eq_false (by omega)
            have hkl := hbig
            rw [hx] at hkl
            have HKL := Lib.hid hkl; clear hkl
            clear hx
            by_cases g1 : z = 1
            · have e1 : (z == 1) = true := by simpa using g1
              clear g1
              by_cases hkn : k < n
              · have hfin : k + 1 ≤ n := hkn
                obtain ⟨o, ho⟩ : ∃ o, nth M ((k : Int)) = o := ⟨_, rfl⟩
                have K1 := Lib.hid (HG.out.next (k' := k + 1) ho (by have := HLE.out; omega))
                have HOO := Lib.hid ho; clear ho
                go_wp2_with (rw [← HW3.out])
                refine K1.out.mono ?_
                rintro e w4 ⟨⟨pa, pc, qa, qc, y1, y2, is, rfl, hp⟩, hG4, hO4⟩
                obtain ⟨w5, hw5, hb5, hX5⟩ := box_var w4 pa y1 pc qa y2 qc
                have hM5 := (HM.out.curs HG.out.cur hO4).below hb5
                have K2 := Lib.hid (hM5.at c pc qc HOO.out (hp.below hb5) (by omega) (by omega))
                replace HT := Lib.hid ((HT.out.curs HG.out.cur hO4).below hb5)
                replace HV := Lib.hid ((HV.out.curs HG.out.cur hO4).below hb5)
                replace HKY := Lib.hid ((HKY.out.curs HG.out.cur hO4).below hb5)
                replace HO := Lib.hid ((HO.out.trans hO4).trans (Only.of hb5))
                replace HG := Lib.hid (hG4.below hb5)
                replace HM := Lib.hid hM5
                have HW5 := Lib.hid hw5; clear hw5
                obtain ⟨d0, d1⟩ := hX5.cells
                clear hp hG4 hO4 hb5 hX5 hM5 K1 HOO HW3 r0 r1
                go_wp2_with (rw [← HW5.out])
                refine K2.out.mono ?_
                rintro e w6 ⟨rfl, hb6⟩
                replace HT := Lib.hid (HT.out.below hb6)
                replace HV := Lib.hid (HV.out.below hb6)
                replace HKY := Lib.hid (HKY.out.below hb6)
                replace HO := Lib.hid (HO.out.trans (Only.of hb6))
                replace HG := Lib.hid (HG.out.below hb6)
                replace HM := Lib.hid (HM.out.below hb6); clear hb6
                clear d0 d1 K2 HW5
                have ht := HT.out.del kc HKY.out HX.out
                obtain ⟨d0, d1⟩ := HV.out.cells
                have KD := Lib.hid ht; clear ht
                go_wp2_with fail
                all_goals try (exfalso; omega)
                refine KD.out.mono ?_
                rintro e wD ⟨tp', isD, L'', rfl, hwD, hbD⟩
                have hGD := HG.out.below hbD
                have hpl := hGD.place
                have hlf := hGD.left HLE.out
                rw [show ((k + 1 : Nat) : Int) = (k : Int) + 1 by omega] at hpl hlf
                have KP := Lib.hid hpl; clear hpl
                have KL := Lib.hid hlf; clear hlf
                have HMD := Lib.hid (HM.out.below hbD)
                have HOD := Lib.hid (HO.out.trans (Only.of hbD))
                have HTD := Lib.hid hwD; clear hwD
                have HGD := Lib.hid hGD; clear hGD
                have hwr : IntKind.i64.wrap ((n : Int) - ((k : Int) + 1)) = (n : Int) - ((k : Int) + 1) := IntWalk.i64_in _ (by omega)
                clear d0 d1 hbD KD HG HM HT HV HKY HO
                go_wp2_with fail
                refine KP.out.mono ?_
                rintro e w' ⟨rfl, rfl⟩
                go_wp2_with fail
                refine KL.out.mono ?_
                rintro e wL ⟨rfl, hbL⟩
                have HGL := Lib.hid (HGD.out.below hbL)
                have HML := Lib.hid (HMD.out.below hbL)
                have HTL := Lib.hid (HTD.out.below hbL)
                have HOL := Lib.hid (HOD.out.trans (Only.of hbL)); clear hbL
                clear KP KL HGD HMD HTD HOD
                go_wp2_with fail
                go_roundw
                case rel => exact ⟨j + 1, k + 1, tp', rfl, by go_num, by go_num, by omega, by omega, HGL.out, HML.out, ⟨_, HTL.out⟩, HOL.out⟩
                case measure => simp [intOf]; omega
              · have hfin : n ≤ k := by omega
                obtain ⟨o, ho⟩ : ∃ o, nth M ((k : Int)) = o := ⟨_, rfl⟩
                have K1 := Lib.hid (HG.out.next (k' := n) ho (by have := HLE.out; omega))
                have HOO := Lib.hid ho; clear ho
                go_wp2_with (rw [← HW3.out])
                refine K1.out.mono ?_
                rintro e w4 ⟨⟨pa, pc, qa, qc, y1, y2, is, rfl, hp⟩, hG4, hO4⟩
                obtain ⟨w5, hw5, hb5, hX5⟩ := box_var w4 pa y1 pc qa y2 qc
                have hM5 := (HM.out.curs HG.out.cur hO4).below hb5
                have K2 := Lib.hid (hM5.at c pc qc HOO.out (hp.below hb5) (by omega) (by omega))
                replace HT := Lib.hid ((HT.out.curs HG.out.cur hO4).below hb5)
                replace HV := Lib.hid ((HV.out.curs HG.out.cur hO4).below hb5)
                replace HKY := Lib.hid ((HKY.out.curs HG.out.cur hO4).below hb5)
                replace HO := Lib.hid ((HO.out.trans hO4).trans (Only.of hb5))
                replace HG := Lib.hid (hG4.below hb5)
                replace HM := Lib.hid hM5
                have HW5 := Lib.hid hw5; clear hw5
                obtain ⟨d0, d1⟩ := hX5.cells
                clear hp hG4 hO4 hb5 hX5 hM5 K1 HOO HW3 r0 r1
                go_wp2_with (rw [← HW5.out])
                refine K2.out.mono ?_
                rintro e w6 ⟨rfl, hb6⟩
                replace HT := Lib.hid (HT.out.below hb6)
                replace HV := Lib.hid (HV.out.below hb6)
                replace HKY := Lib.hid (HKY.out.below hb6)
                replace HO := Lib.hid (HO.out.trans (Only.of hb6))
                replace HG := Lib.hid (HG.out.below hb6)
                replace HM := Lib.hid (HM.out.below hb6); clear hb6
                clear d0 d1 K2 HW5
                have ht := HT.out.del kc HKY.out HX.out
                obtain ⟨d0, d1⟩ := HV.out.cells
                have KD := Lib.hid ht; clear ht
                go_wp2_with fail
                all_goals try (exfalso; omega)
                refine KD.out.mono ?_
                rintro e wD ⟨tp', isD, L'', rfl, hwD, hbD⟩
                have hGD := HG.out.below hbD
                have hpl := hGD.place
                have hlf := hGD.left HLE.out
                rw [show ((n : Nat) : Int) = (n : Int) by omega] at hpl hlf
                have KP := Lib.hid hpl; clear hpl
                have KL := Lib.hid hlf; clear hlf
                have HMD := Lib.hid (HM.out.below hbD)
                have HOD := Lib.hid (HO.out.trans (Only.of hbD))
                have HTD := Lib.hid hwD; clear hwD
                have HGD := Lib.hid hGD; clear hGD
                have hwr : IntKind.i64.wrap ((n : Int) - ((n : Int))) = (n : Int) - ((n : Int)) := IntWalk.i64_in _ (by omega)
                clear d0 d1 hbD KD HG HM HT HV HKY HO
                go_wp2_with fail
                refine KP.out.mono ?_
                rintro e w' ⟨rfl, rfl⟩
                go_wp2_with fail
                refine KL.out.mono ?_
                rintro e wL ⟨rfl, hbL⟩
                have HGL := Lib.hid (HGD.out.below hbL)
                have HML := Lib.hid (HMD.out.below hbL)
                have HTL := Lib.hid (HTD.out.below hbL)
                have HOL := Lib.hid (HOD.out.trans (Only.of hbL)); clear hbL
                clear KP KL HGD HMD HTD HOD
                go_wp2_with fail
                go_roundw
                case rel => exact ⟨j + 1, n, tp', rfl, by go_num, by go_num, by omega, by omega, HGL.out, HML.out, ⟨_, HTL.out⟩, HOL.out⟩
                case measure => simp [intOf]; omega
            · have e1 : (z == 1) = false := by simpa using g1
              clear g1
              by_cases g2 : z = 2
              · have e2 : (z == 2) = true := by simpa using g2
                clear g2
                have hw1 : IntKind.i64.wrap ((k : Int) - 1) = (k : Int) - 1 := IntWalk.i64_in _ (by omega)
                by_cases hk2 : 1 ≤ k
                · have hfin : 1 ≤ k := by omega
                  obtain ⟨o, ho⟩ : ∃ o, nth M ((k : Int) - 1) = o := ⟨_, rfl⟩
                  have K1 := Lib.hid (HG.out.back (k' := k - 1) ho (by have := HLE.out; omega))
                  have HOO := Lib.hid ho; clear ho
                  go_wp2_with (rw [← HW3.out])
                  refine K1.out.mono ?_
                  rintro e w4 ⟨⟨pa, pc, qa, qc, y1, y2, is, rfl, hp⟩, hG4, hO4⟩
                  obtain ⟨w5, hw5, hb5, hX5⟩ := box_var w4 pa y1 pc qa y2 qc
                  have hM5 := (HM.out.curs HG.out.cur hO4).below hb5
                  have K2 := Lib.hid (hM5.at c pc qc HOO.out (hp.below hb5) (by omega) (by omega))
                  replace HT := Lib.hid ((HT.out.curs HG.out.cur hO4).below hb5)
                  replace HV := Lib.hid ((HV.out.curs HG.out.cur hO4).below hb5)
                  replace HKY := Lib.hid ((HKY.out.curs HG.out.cur hO4).below hb5)
                  replace HO := Lib.hid ((HO.out.trans hO4).trans (Only.of hb5))
                  replace HG := Lib.hid (hG4.below hb5)
                  replace HM := Lib.hid hM5
                  have HW5 := Lib.hid hw5; clear hw5
                  obtain ⟨d0, d1⟩ := hX5.cells
                  clear hp hG4 hO4 hb5 hX5 hM5 K1 HOO HW3 r0 r1
                  go_wp2_with (rw [← HW5.out])
                  refine K2.out.mono ?_
                  rintro e w6 ⟨rfl, hb6⟩
                  replace HT := Lib.hid (HT.out.below hb6)
                  replace HV := Lib.hid (HV.out.below hb6)
                  replace HKY := Lib.hid (HKY.out.below hb6)
                  replace HO := Lib.hid (HO.out.trans (Only.of hb6))
                  replace HG := Lib.hid (HG.out.below hb6)
                  replace HM := Lib.hid (HM.out.below hb6); clear hb6
                  clear d0 d1 K2 HW5
                  have ht := HT.out.del kc HKY.out HX.out
                  obtain ⟨d0, d1⟩ := HV.out.cells
                  have KD := Lib.hid ht; clear ht
                  go_wp2_with fail
                  all_goals try (exfalso; omega)
                  refine KD.out.mono ?_
                  rintro e wD ⟨tp', isD, L'', rfl, hwD, hbD⟩
                  have hGD := HG.out.below hbD
                  have hpl := hGD.place
                  have hlf := hGD.left HLE.out
                  rw [show ((k - 1 : Nat) : Int) = (k : Int) - 1 by omega] at hpl hlf
                  have KP := Lib.hid hpl; clear hpl
                  have KL := Lib.hid hlf; clear hlf
                  have HMD := Lib.hid (HM.out.below hbD)
                  have HOD := Lib.hid (HO.out.trans (Only.of hbD))
                  have HTD := Lib.hid hwD; clear hwD
                  have HGD := Lib.hid hGD; clear hGD
                  have hwr : IntKind.i64.wrap ((n : Int) - ((k : Int) - 1)) = (n : Int) - ((k : Int) - 1) := IntWalk.i64_in _ (by omega)
                  clear d0 d1 hbD KD HG HM HT HV HKY HO
                  go_wp2_with fail
                  refine KP.out.mono ?_
                  rintro e w' ⟨rfl, rfl⟩
                  go_wp2_with fail
                  refine KL.out.mono ?_
                  rintro e wL ⟨rfl, hbL⟩
                  have HGL := Lib.hid (HGD.out.below hbL)
                  have HML := Lib.hid (HMD.out.below hbL)
                  have HTL := Lib.hid (HTD.out.below hbL)
                  have HOL := Lib.hid (HOD.out.trans (Only.of hbL)); clear hbL
                  clear KP KL HGD HMD HTD HOD
                  go_wp2_with fail
                  go_roundw
                  case rel => exact ⟨j + 1, k - 1, tp', rfl, by go_num, by go_num, by omega, by omega, HGL.out, HML.out, ⟨_, HTL.out⟩, HOL.out⟩
                  case measure => simp [intOf]; omega
                · have hfin : k - 1 = 0 := by omega
                  obtain ⟨o, ho⟩ : ∃ o, nth M ((k : Int) - 1) = o := ⟨_, rfl⟩
                  have K1 := Lib.hid (HG.out.back (k' := 0) ho (by have := HLE.out; omega))
                  have HOO := Lib.hid ho; clear ho
                  go_wp2_with (rw [← HW3.out])
                  refine K1.out.mono ?_
                  rintro e w4 ⟨⟨pa, pc, qa, qc, y1, y2, is, rfl, hp⟩, hG4, hO4⟩
                  obtain ⟨w5, hw5, hb5, hX5⟩ := box_var w4 pa y1 pc qa y2 qc
                  have hM5 := (HM.out.curs HG.out.cur hO4).below hb5
                  have K2 := Lib.hid (hM5.at c pc qc HOO.out (hp.below hb5) (by omega) (by omega))
                  replace HT := Lib.hid ((HT.out.curs HG.out.cur hO4).below hb5)
                  replace HV := Lib.hid ((HV.out.curs HG.out.cur hO4).below hb5)
                  replace HKY := Lib.hid ((HKY.out.curs HG.out.cur hO4).below hb5)
                  replace HO := Lib.hid ((HO.out.trans hO4).trans (Only.of hb5))
                  replace HG := Lib.hid (hG4.below hb5)
                  replace HM := Lib.hid hM5
                  have HW5 := Lib.hid hw5; clear hw5
                  obtain ⟨d0, d1⟩ := hX5.cells
                  clear hp hG4 hO4 hb5 hX5 hM5 K1 HOO HW3 r0 r1
                  go_wp2_with (rw [← HW5.out])
                  refine K2.out.mono ?_
                  rintro e w6 ⟨rfl, hb6⟩
                  replace HT := Lib.hid (HT.out.below hb6)
                  replace HV := Lib.hid (HV.out.below hb6)
                  replace HKY := Lib.hid (HKY.out.below hb6)
                  replace HO := Lib.hid (HO.out.trans (Only.of hb6))
                  replace HG := Lib.hid (HG.out.below hb6)
                  replace HM := Lib.hid (HM.out.below hb6); clear hb6
                  clear d0 d1 K2 HW5
                  have ht := HT.out.del kc HKY.out HX.out
                  obtain ⟨d0, d1⟩ := HV.out.cells
                  have KD := Lib.hid ht; clear ht
                  go_wp2_with fail
                  all_goals try (exfalso; omega)
                  refine KD.out.mono ?_
                  rintro e wD ⟨tp', isD, L'', rfl, hwD, hbD⟩
                  have hGD := HG.out.below hbD
                  have hpl := hGD.place
                  have hlf := hGD.left HLE.out
                  rw [show ((0 : Nat) : Int) = 0 by omega] at hpl hlf
                  have KP := Lib.hid hpl; clear hpl
                  have KL := Lib.hid hlf; clear hlf
                  have HMD := Lib.hid (HM.out.below hbD)
                  have HOD := Lib.hid (HO.out.trans (Only.of hbD))
                  have HTD := Lib.hid hwD; clear hwD
                  have HGD := Lib.hid hGD; clear hGD
                  have hwr : IntKind.i64.wrap ((n : Int) - (0)) = (n : Int) - (0) := IntWalk.i64_in _ (by omega)
                  clear d0 d1 hbD KD HG HM HT HV HKY HO
                  go_wp2_with fail
                  refine KP.out.mono ?_
                  rintro e w' ⟨rfl, rfl⟩
                  go_wp2_with fail
                  refine KL.out.mono ?_
                  rintro e wL ⟨rfl, hbL⟩
                  have HGL := Lib.hid (HGD.out.below hbL)
                  have HML := Lib.hid (HMD.out.below hbL)
                  have HTL := Lib.hid (HTD.out.below hbL)
                  have HOL := Lib.hid (HOD.out.trans (Only.of hbL)); clear hbL
                  clear KP KL HGD HMD HTD HOD
                  go_wp2_with fail
                  go_roundw
                  case rel => exact ⟨j + 1, 0, tp', rfl, by go_num, by go_num, by omega, by omega, HGL.out, HML.out, ⟨_, HTL.out⟩, HOL.out⟩
                  case measure => simp [intOf]; omega
              · have e2 : (z == 2) = false := by simpa using g2
                clear g2
                by_cases g3 : z = 3
                · have e3 : (z == 3) = true := by simpa using g3
                  clear g3
                  obtain ⟨r, hr⟩ : ∃ r, rank M key = r := ⟨_, rfl⟩
                  have hrn : r ≤ n := by have := HLE.out; have := rank_le M key; omega
                  have K1 := Lib.hid (HG.out.seek kc HKY.out HX.out hr)
                  have HR := Lib.hid hr; clear hr
                  go_wp2_with (rw [← HW3.out])
                  refine K1.out.mono ?_
                  rintro e w4 ⟨rfl, hG4, hO4⟩
                  replace HT := Lib.hid (HT.out.curs HG.out.cur hO4)
                  replace HV := Lib.hid (HV.out.curs HG.out.cur hO4)
                  replace HKY := Lib.hid (HKY.out.curs HG.out.cur hO4)
                  replace HM := Lib.hid (HM.out.curs HG.out.cur hO4)
                  replace HO := Lib.hid (HO.out.trans hO4)
                  replace HG := Lib.hid hG4
                  clear hG4 hO4 K1 HW3 r0 r1
                  obtain ⟨r0, r1⟩ := HV.out.cells
                  have hcv := conv_any HKY.out kc
                  rw [← HX.out] at hcv
                  have kr := HM.out.rank c key HKL.out
                  rw [HR.out] at kr
                  have KR := Lib.hid kr; clear kr
                  obtain ⟨st, hst⟩ : ∃ s : ByteArray, s = ⟨key.toArray⟩ := ⟨_, rfl⟩
                  rw [← hst] at hcv KR
                  clear hst
                  go_wp2_with fail
                  refine KR.out.mono ?_
                  rintro e w6 ⟨rfl, hb6⟩
                  replace HT := Lib.hid (HT.out.below hb6)
                  replace HV := Lib.hid (HV.out.below hb6)
                  replace HKY := Lib.hid (HKY.out.below hb6)
                  replace HO := Lib.hid (HO.out.trans (Only.of hb6))
                  replace HG := Lib.hid (HG.out.below hb6)
                  replace HM := Lib.hid (HM.out.below hb6); clear hb6
                  clear r0 r1 hcv KR
                  have ht := HT.out.del kc HKY.out HX.out
                  obtain ⟨d0, d1⟩ := HV.out.cells
                  have KD := Lib.hid ht; clear ht
                  go_wp2_with fail
                  refine KD.out.mono ?_
                  rintro e wD ⟨tp', isD, L'', rfl, hwD, hbD⟩
                  have hGD := HG.out.below hbD
                  have hpl := hGD.place
                  have hlf := hGD.left HLE.out
                  rw [show ((r : Nat) : Int) = (r : Int) by rfl] at hpl hlf
                  have KP := Lib.hid hpl; clear hpl
                  have KL := Lib.hid hlf; clear hlf
                  have HMD := Lib.hid (HM.out.below hbD)
                  have HOD := Lib.hid (HO.out.trans (Only.of hbD))
                  have HTD := Lib.hid hwD; clear hwD
                  have HGD := Lib.hid hGD; clear hGD
                  have hwr : IntKind.i64.wrap ((n : Int) - ((r : Int))) = (n : Int) - ((r : Int)) := IntWalk.i64_in _ (by omega)
                  clear d0 d1 hbD KD HG HM HT HV HKY HO
                  go_wp2_with fail
                  refine KP.out.mono ?_
                  rintro e w' ⟨rfl, rfl⟩
                  go_wp2_with fail
                  refine KL.out.mono ?_
                  rintro e wL ⟨rfl, hbL⟩
                  have HGL := Lib.hid (HGD.out.below hbL)
                  have HML := Lib.hid (HMD.out.below hbL)
                  have HTL := Lib.hid (HTD.out.below hbL)
                  have HOL := Lib.hid (HOD.out.trans (Only.of hbL)); clear hbL
                  clear KP KL HGD HMD HTD HOD
                  go_wp2_with fail
                  go_roundw
                  case rel => exact ⟨j + 1, r, tp', rfl, by go_num, by go_num, by omega, by omega, HGL.out, HML.out, ⟨_, HTL.out⟩, HOL.out⟩
                  case measure => simp [intOf]; omega
                · have e3 : (z == 3) = false := by simpa using g3
                  clear g3
                  have ht := HT.out.del kc HKY.out HX.out
                  have d0 := HKL
                  have KD := Lib.hid ht; clear ht
                  go_wp2_with (rw [← HW3.out])
                  refine KD.out.mono ?_
                  rintro e wD ⟨tp', isD, L'', rfl, hwD, hbD⟩
                  have hGD := HG.out.below hbD
                  have hpl := hGD.place
                  have hlf := hGD.left HLE.out
                  rw [show ((k : Nat) : Int) = (k : Int) by rfl] at hpl hlf
                  have KP := Lib.hid hpl; clear hpl
                  have KL := Lib.hid hlf; clear hlf
                  have HMD := Lib.hid (HM.out.below hbD)
                  have HOD := Lib.hid (HO.out.trans (Only.of hbD))
                  have HTD := Lib.hid hwD; clear hwD
                  have HGD := Lib.hid hGD; clear hGD
                  have hwr : IntKind.i64.wrap ((n : Int) - ((k : Int))) = (n : Int) - ((k : Int)) := IntWalk.i64_in _ (by omega)
                  clear d0 r0 r1 HW3 hbD KD HG HM HT HV HKY HO
                  go_wp2_with fail
                  refine KP.out.mono ?_
                  rintro e w' ⟨rfl, rfl⟩
                  go_wp2_with fail
                  refine KL.out.mono ?_
                  rintro e wL ⟨rfl, hbL⟩
                  have HGL := Lib.hid (HGD.out.below hbL)
                  have HML := Lib.hid (HMD.out.below hbL)
                  have HTL := Lib.hid (HTD.out.below hbL)
                  have HOL := Lib.hid (HOD.out.trans (Only.of hbL)); clear hbL
                  clear KP KL HGD HMD HTD HOD
                  go_wp2_with fail
                  go_roundw
                  case rel => exact ⟨j + 1, k, tp', rfl, by go_num, by go_num, by omega, by omega, HGL.out, HML.out, ⟨_, HTL.out⟩, HOL.out⟩
                  case measure => simp [intOf]; omega
          · have hd3 : decide ((100 : Int) < (x : Int)) = true := decide_eq_true (by omega)
            clear hx
            go_wp2_with (rw [← HW3.out])
            refine (HAW.out _).mono ?_
            rintro e w4 ⟨rfl, hb4⟩
            have HO4 := Lib.hid (HO.out.trans (Only.of hb4)); clear hb4
            clear r0 r1
            go_wp2_with fail
            go_ret
            exact ⟨rfl, HB2.out.trans (HO4.out.below HB2.out.size hgw)⟩
        · go_wp2_with fail
          refine (HAW.out _).mono ?_
          rintro e w3 ⟨rfl, hb3⟩
          have HO3 := Lib.hid (HO1.out.trans (Only.of hb3)); clear hb3
          go_wp2_with fail
          go_ret
          exact ⟨rfl, HB2.out.trans (HO3.out.below HB2.out.size hgw)⟩
    · have hd2 : decide ((60 : Int) < (L2.length : Int)) = true := decide_eq_true (by omega)
      clear hs hc0 hm0 htiny ha0 hlen hc2 hm2 ha2 hl1 hu1
      go_enter Try.func3, Try.ntmps3
      go_wp2_with fail
      refine HSM.out.mono ?_
      rintro e w0 ⟨rfl, hb⟩
      have HB := Lib.hid hb; clear hb
      go_wp2_with fail
      refine (HAW.out _).mono ?_
      rintro e w2 ⟨rfl, hb⟩
      have HB2 := Lib.hid hb; clear hb
      go_wp2_with fail
      go_ret
      exact ⟨rfl, below_then HB.out HB2.out⟩
/-! ### THE ROW's STEP -/
set_option maxRecDepth 100000 in
theorem lifted (os : Os) (started : os.Started) (H : Type) (enc : TypeId × Value → H) :
    ReturnsInHanded {} Try.checked os 3 .any (Rows.walkPlaysSpec.pre6 enc Try.prog Try.f3 Rows.walkPlaysRow.domain false) (Rows.walkPlaysSpec.post enc Try.prog Try.f3 false true false false) := by
  refine returnsInHanded_of_change (C := Try.checked) own started (by kernel_rfl) Try.func3
    (ChangeSpec.witness6 (enc := enc) (C := Try.checked) false ⟨#[], #[.slice none 0 0, .int .i64 0, .slice none 0 0], []⟩ 8 (by kernel_rfl) (by kernel_rfl) (by kernel_rfl) (by kernel_rfl)) ?_
  intro W base args ds gs before hval0 hW hcnd _
  have hval : ∀ (j : Nat) t v, Try.f3.params[j]? = some t → args[j]? = some v → Value.okWide Try.prog W .any base t v := hval0
  have hW' := hW
  obtain ⟨p, q, hA0, hV, rfl, hfz, hnd⟩ := hW
  have hA : DataW.TrodAll enc Try.prog W 0 (fun _ => true) true Try.f3.params.toList args.toList ds p := hA0
  rw [Try.params3] at hA hval
  obtain ⟨v0, vs0, d0, ds0, p0, q0, hargs, rfl, rfl, h0, r0⟩ := trodAll_cons hA
  obtain ⟨v1, vs1, d1, ds1, p1, q1, rfl, rfl, rfl, h1, r1⟩ := trodAll_cons r0
  obtain ⟨v2, vs2, d2, ds2, p2, q2, rfl, rfl, rfl, h2, r2⟩ := trodAll_cons r1
  obtain ⟨rfl, rfl, rfl⟩ := trodAll_nil r2
  obtain rfl : args = #[v0, v1, v2] := by cases args; simp_all
  obtain ⟨rfl, rfl⟩ := trodVars_none hV
  have lt0 : ∀ x ∈ p0, x.block < W.heap.size := by obtain ⟨m, hm⟩ := h0; exact DataW.trod_lt m _ _ _ hm
  have ok0 := hval 0 22 v0 rfl rfl
  have lt1 : ∀ x ∈ p1, x.block < W.heap.size := by obtain ⟨m, hm⟩ := h1; exact DataW.trod_lt m _ _ _ hm
  have ok1 := hval 1 3 v1 rfl rfl
  have lt2 : ∀ x ∈ p2, x.block < W.heap.size := by obtain ⟨m, hm⟩ := h2; exact DataW.trod_lt m _ _ _ hm
  have ok2 := hval 2 23 v2 rfl rfl
  clear hA0 hval0 hval
  obtain ⟨A0, c0, L0, rfl, hc0, hm0, ha0⟩ := ops_in ok0 h0
  obtain ⟨z1, rfl, hl1, hu1⟩ := int_in ok1 h1
  obtain ⟨A2, c2, L2, rfl, hc2, hm2, ha2⟩ := moves_in ok2 h2
  refine (walk W hc0 hm0 ha0 hl1 hu1 hc2 hm2 ha2).mono fun e W' ⟨he, bel⟩ => ?_
  subst he
  exact ⟨_, rfl, _, _, _, [], _, [], hW', trodAll_mk1 (shut_bool Try.underlying4 _), (trodAll_cons_mk (Below.trod laidOut (by kernel_rfl) (of_decide_eq_true (by kernel_rfl)) h0 bel lt0) (trodAll_cons_mk (Below.trod laidOut (by kernel_rfl) (of_decide_eq_true (by kernel_rfl)) h1 bel lt1) (trodAll_cons_mk (Below.trod laidOut (by kernel_rfl) (of_decide_eq_true (by kernel_rfl)) h2 bel lt2) trodAll_mk0))), rfl, bel.frame _, fun h => by cases h⟩

theorem over : Rows.walkPlaysRow.holds Try.pinned (OpenSpec.ofChange Rows.walkPlaysSpec) :=
  OpenClaim.holds_of_wide 3 Try.f3 rfl rfl rfl rfl rfl rfl rfl ⟨rfl, rfl, rfl, rfl, rfl⟩ rfl rfl rfl rfl rfl (by kernel_rfl) Try.func3 (by kernel_rfl)
    (of_decide_eq_true (by kernel_rfl)) (by unfold Func.isWrapper; first | (rw [if_pos (by decide +kernel)]; kernel_rfl) | (rw [if_neg (by decide +kernel)]; exact ⟨rfl, rfl⟩))
    (fun os started H enc _ => lifted os started H enc)

/-- ████ THE STATEMENT ████ -/
theorem proved : Rows.WalkPlaysSaid := over
#print axioms proved
end Go.Proofs.Ytkcfanckkomdbaa.walkPlays
