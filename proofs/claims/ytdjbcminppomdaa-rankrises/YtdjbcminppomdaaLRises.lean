/-
  RankRises: for every input the law answers true and leaves its arguments as they were: the walk is typed by hand, the row's step is the guide's template.
  Conditions: none beside the row's own.
-/
import Derived.Test.YtdjbcminppomdaaLaws
import Derived.Test.YtdjbcminppomdaaIn
import Derived.Test.YtdjbcminppomdaaRows
import Derived.WalkKit
import Derived.ProofKit
import Derived.OpenShut
import Derived.ShutString
import Derived.ChangeOld
import Derived.Below
namespace Go.Proofs.Ytdjbcminppomdaa.rankRises
open Go.ChangeShapes Go.WideShapes Go.ChangeAt Go.RowKit
set_option linter.unusedVariables false
theorem own : ownKnob Try.prog.godebug = none := by kernel_rfl
theorem laidOut : laidOutB Try.prog = true := by kernel_rfl
theorem less_cmp : ∀ a b : List UInt8, Op.bytesLess a b = decide (cmp a b < 0)
  | [], [] => by rw [cmp_self]; rfl
  | [], _ :: _ => rfl
  | _ :: _, [] => rfl
  | x :: a, y :: b => by
    show (decide (x < y) || (x == y && Op.bytesLess a b)) = _
    rw [less_cmp a b]
    rcases tri x y with h | rfl | h
    · rw [cmp_lt h, decide_eq_true h]; rfl
    · rw [cmp_same]; simp [UInt8.lt_irrefl]
    · rw [cmp_gt h, decide_eq_false (UInt8.lt_asymm h)]
      have : (x == y) = false := by simpa using fun e : x = y => by subst e; exact UInt8.lt_irrefl x h
      rw [this]; rfl
theorem bs_less {a b : List UInt8} {s t : ByteArray} (hs : s = ⟨a.toArray⟩) (ht : t = ⟨b.toArray⟩) : Op.bytesLess s.toList t.toList = decide (cmp a b < 0) := by
  rw [hs, ht, ByteArray.toList_eq, ByteArray.toList_eq]
  exact less_cmp a b
theorem bs_eq {a b : List UInt8} {s t : ByteArray} (hs : s = ⟨a.toArray⟩) (ht : t = ⟨b.toArray⟩) : (s.toList == t.toList) = decide (cmp a b = 0) := by
  rw [hs, ht, ByteArray.toList_eq, ByteArray.toList_eq]
  rw [Bool.eq_iff_iff]
  simp [cmp_iff]
theorem rank_mono (M : List Pr) {a b : List UInt8} (h : cmp a b ≤ 0) : rank M a ≤ rank M b := by
  refine List.countP_mono_left fun q _ hq => ?_
  have hq := of_decide_eq_true hq
  refine decide_eq_true ?_
  have h1 := cmp_trans q.1 a b (by omega) h
  rcases Int.lt_or_eq_of_le h1 with g | g
  · exact g
  · have := cmp_zero _ _ g
    rw [this] at hq
    have e := cmp_turn a b
    omega
set_option maxRecDepth 100000 in
set_option maxHeartbeats 4000000 in
theorem walk {A0 : Option Addr} {c0 : Nat} {L0 : List Opn} {A1 : Option Addr} {c1 : Nat} {L1 : List UInt8} {A2 : Option Addr} {c2 : Nat} {L2 : List UInt8} (w : World) (hc0 : L0.length ≤ c0) (hm0 : c0 ≤ maxLen) (ha0 : Ocs w A0 L0) (hc1 : L1.length ≤ c1) (hm1 : c1 ≤ maxLen) (ha1 : Bts w A1 L1) (hc2 : L2.length ≤ c2) (hm2 : c2 ≤ maxLen) (ha2 : Bts w A2 L2) :
    Calls Try.prog 6 #[.slice A0 L0.length c0, .slice A1 L1.length c1, .slice A2 L2.length c2] w fun e w' => e = .returned (.bool true) ∧ Below w.heap.size w w' := by
  have hsm := fine_any ha0 c0 60 (by decide) (Nat.le_trans hc0 hm0)
  have HAW := Lib.hid awake_any
  have hl1 : L1.length ≤ 9223372036854775807 := Nat.le_trans hc1 hm1
  have hl2 : L2.length ≤ 9223372036854775807 := Nat.le_trans hc2 hm2
  cases hs : (decide (L0.length ≤ 60) && tinyO L0) with
  | false =>
    rw [hs] at hsm
    have HSM := Lib.hid hsm; clear hsm
    clear ha0 hs hc0 hm0 ha1 hc1 hm1 ha2 hc2 hm2
    go_enter Try.func6, Try.ntmps6
    go_wp2_with fail
    refine HSM.out.mono ?_
    rintro e w1 ⟨rfl, hb⟩
    have HB := Lib.hid hb; clear hb
    go_wp2_with fail
    refine (HAW.out _).mono ?_
    rintro e w2 ⟨rfl, hb⟩
    have HB2 := Lib.hid hb; clear hb
    go_wp2_with fail
    go_ret
    exact ⟨rfl, below_then HB.out HB2.out⟩
  | true =>
    rw [hs] at hsm
    obtain ⟨hlen, htiny⟩ : L0.length ≤ 60 ∧ tinyO L0 = true := by simpa using hs
    have HSM := Lib.hid hsm; clear hsm
    have HMD := Lib.hid (fun W (h : Below w.heap.size w W) => made_tell c0 (ha0.below h) (by omega) htiny)
    have HSR := Lib.hid (plays_srt (by omega) htiny).1
    have HK1 := Lib.hid ha1; clear ha1
    have HK2 := Lib.hid ha2; clear ha2
    clear hs hc0 hm0 htiny ha0 hlen hc1 hm1 hc2 hm2
    by_cases hk1 : L1.length ≤ 100
    · have t1 : decide ((100 : Int) < (L1.length : Int)) = false := decide_eq_false (by omega)
      have t2 : decide (100 < L1.length) = false := decide_eq_false (by omega)
      by_cases hk2 : L2.length ≤ 100
      · have t3 : decide ((100 : Int) < (L2.length : Int)) = false := decide_eq_false (by omega)
        have t4 : decide (100 < L2.length) = false := decide_eq_false (by omega)
        obtain ⟨x, hx⟩ : ∃ x, x = L1.length := ⟨_, rfl⟩
        obtain ⟨y, hy⟩ : ∃ x, x = L2.length := ⟨_, rfl⟩
        obtain ⟨sa, hsa⟩ : ∃ s : ByteArray, s = ⟨L1.toArray⟩ := ⟨_, rfl⟩
        obtain ⟨sb, hsb⟩ : ∃ s : ByteArray, s = ⟨L2.toArray⟩ := ⟨_, rfl⟩
        rw [← hx] at t1 t2 hl1 ⊢
        rw [← hy] at t3 t4 hl2 ⊢
        have HX := Lib.hid hx; clear hx
        have HY := Lib.hid hy; clear hy
        have HSA := Lib.hid hsa; clear hsa
        have HSB := Lib.hid hsb; clear hsb
        clear hk1 hk2
        go_enter Try.func6, Try.ntmps6
        go_wp2_with fail
        refine HSM.out.mono ?_
        rintro e w0 ⟨rfl, hb⟩
        have KM := Lib.hid (HMD.out w0 hb)
        have HB := Lib.hid hb; clear hb
        clear HMD HSM
        go_wp2_with fail
        refine KM.out.mono ?_
        rintro e w1 ⟨p, A, c, n, rfl, hn, hn80, ht, hb1⟩
        obtain ⟨M, hM⟩ : ∃ M, M = plays L0 := ⟨_, rfl⟩
        rw [← hM] at hn ht HSR
        have hb1' := below_then HB.out hb1
        have kw1 : ∀ W, Below w1.heap.size w1 W → Bts W A1 L1 := fun W h => HK1.out.below (below_then hb1' h)
        have kw2 : ∀ W, Below w1.heap.size w1 W → Bts W A2 L2 := fun W h => HK2.out.below (below_then hb1' h)
        obtain ⟨k1, hk1⟩ : ∃ k, k = rank M L1 := ⟨_, rfl⟩
        obtain ⟨k2, hk2⟩ : ∃ k, k = rank M L2 := ⟨_, rfl⟩
        have le1 := rank_le M L1
        have le2 := rank_le M L2
        have R1 := fun W (h : Below w1.heap.size w1 W) => ht.rk W A1 c1 L1 x h (kw1 W h) HX.out
        have R2 := fun W (h : Below w1.heap.size w1 W) => ht.rk W A2 c2 L2 y h (kw2 W h) HY.out
        have V1 := fun W (h : Below w1.heap.size w1 W) => conv_any (kw1 W h) c1
        have V2 := fun W (h : Below w1.heap.size w1 W) => conv_any (kw2 W h) c2
        have D1 : ∀ j (h : j < M.length) (s : ByteArray), s = ⟨(M[j]).1.toArray⟩ → Op.bytesLess s.toList sa.toList = decide (j < k1) := fun j h s hs => by
          rw [bs_less hs HSA.out, decide_eq_decide, hk1]; exact rank_iff HSR.out L1 h
        have D2 : ∀ j (h : j < M.length) (s : ByteArray), s = ⟨(M[j]).1.toArray⟩ → Op.bytesLess s.toList sb.toList = decide (j < k2) := fun j h s hs => by
          rw [bs_less hs HSB.out, decide_eq_decide, hk2]; exact rank_iff HSR.out L2 h
        rw [← HX.out, ← HSA.out] at V1
        rw [← HY.out, ← HSB.out] at V2
        rw [← hk1] at R1 le1
        rw [← hk2] at R2 le2
        rw [← hn] at le1 le2
        have q1 := V1 w1 (Below.refl _ _)
        have q2 := V2 w1 (Below.refl _ _)
        have J1 := Lib.hid R1; clear R1
        have J2 := Lib.hid R2; clear R2
        have W1 := Lib.hid V1; clear V1
        have W2 := Lib.hid V2; clear V2
        have E1 := Lib.hid D1; clear D1
        have E2 := Lib.hid D2; clear D2
        have HT := Lib.hid ht; clear ht
        have HN := Lib.hid hn; clear hn
        have HB1 := Lib.hid hb1'; clear hb1' hb1
        have z1 := bs_less HSA.out HSB.out
        have z2 := bs_eq HSA.out HSB.out
        clear KM HB hM kw1 kw2 HK1 HK2 HX HY HSA HSB HSR
        by_cases hc : cmp L1 L2 ≤ 0
        · have hm := rank_mono M hc
          rw [← hk1, ← hk2] at hm
          have z3 : (Op.bytesLess sa.toList sb.toList || sa.toList == sb.toList) = true := by
            rw [z1, z2]
            rcases Int.lt_or_eq_of_le hc with g | g
            · rw [decide_eq_true g]; rfl
            · rw [decide_eq_true g, Bool.or_true]
          have z4 : (!(Op.bytesLess sa.toList sb.toList || sa.toList == sb.toList)) = false := by rw [z3]; rfl
          clear z1 z2 hc hk1 hk2
          have I1 := Lib.hid (J1.out w1 (Below.refl _ _))
          go_wp2_with fail
          refine I1.out.mono ?_
          rintro e w2 ⟨rfl, hb2⟩
          have I2 := Lib.hid (J2.out w2 hb2)
          clear z3 z4 q1 q2 I1 J1 J2
          go_wp2_with fail
          refine I2.out.mono ?_
          rintro e w3 ⟨rfl, hb3⟩
          have hb13 := below_then hb2 hb3
          have I3 := Lib.hid (HT.out.sz w3 hb13)
          have B3 := Lib.hid hb13
          clear hb2 hb3 hb13 I2
          have u1 : decide ((k2 : Int) < (k1 : Int)) = false := decide_eq_false (by omega)
          have u2 : decide (k2 < k1) = false := decide_eq_false (by omega)
          have u3 : decide ((k1 : Int) < 0) = false := decide_eq_false (by omega)
          have u4 : decide ((n : Int) < (k2 : Int)) = false := decide_eq_false (by omega)
          have u5 : decide (n < k2) = false := decide_eq_false (by omega)
          go_wp2_with fail
          refine I3.out.mono ?_
          rintro e w' ⟨rfl, rfl⟩
          go_wp2_with fail
          refine I3.out.mono ?_
          rintro e w' ⟨rfl, rfl⟩
          clear u1 u2 u3 u4 u5 I3
          go_wp2_with fail
          go_loopw [62] (fun i wr => ∃ j : Nat, i = .int .i64 j ∧ j ≤ n ∧ Hid (Below w1.heap.size w1 wr)) (fun i _ => n - (intOf i).toNat)
          case atStart => exact ⟨0, rfl, by omega, B3.out⟩
          case round =>
            obtain ⟨j, rfl, hj, hbel⟩ := hrel
            clear B3
            by_cases hlt : j < n
            · have hjM : j < M.length := by have := HN.out; omega
              have K1 := HT.out.ta wr (j : Int) hbel.out (by omega) (by omega)
              rw [nth_at hjM] at K1
              obtain ⟨ks, hks⟩ : ∃ s : ByteArray, s = ⟨(M[j]).1.toArray⟩ := ⟨_, rfl⟩
              have y1 := E1.out j hjM ks hks
              have y2 := E2.out j hjM ks hks
              have I4 := Lib.hid K1; clear K1
              go_wp2_with fail
              refine I4.out.mono ?_
              rintro e w4 ⟨⟨ka, kc, va, vc, x1, x2, is, rfl, hp⟩, hb4⟩
              obtain rfl : is = true := hp.2.2.1
              obtain ⟨w5, hw5, b5, _, k5⟩ := box_pair w4 ka va x1 kc x2 vc
              have b15 := below_then hbel.out (below_then hb4 b5)
              have hx1 : x1 = (M[j]).1.length := hp.1
              have c1 := conv_any (show Bts w5 ka (M[j]).1 from hp.2.2.2.1.below b5) kc
              rw [← hx1, ← hks] at c1
              have v1 := W1.out w5 b15
              have v2 := W2.out w5 b15
              obtain ⟨d0, d1⟩ := k5 w5 (Below.refl _ _)
              have HW5 := Lib.hid hw5; clear hw5
              have B5 := Lib.hid b15; clear b15
              clear hp hb4 b5 k5 hx1 I4 hks hjM
              rcases Nat.lt_or_ge j k1 with g | g
              · have u1 : decide ((k1 : Int) ≤ (j : Int)) = false := decide_eq_false (by omega)
                have u2 : decide (k1 ≤ j) = false := decide_eq_false (by omega)
                rw [decide_eq_true g] at y1
                rw [decide_eq_true (show j < k2 by omega)] at y2
                go_wp2_with (rw [← HW5.out])
                go_roundw
                case rel => exact ⟨j + 1, by go_num, by omega, B5.out⟩
                case measure => simp [intOf]; omega
              · have u1 : decide ((k1 : Int) ≤ (j : Int)) = true := decide_eq_true (by omega)
                have u2 : decide (k1 ≤ j) = true := decide_eq_true (by omega)
                rw [decide_eq_false (by omega)] at y1
                rcases Nat.lt_or_ge j k2 with g2 | g2
                · have u3 : decide ((j : Int) < (k2 : Int)) = true := decide_eq_true (by omega)
                  have u4 : decide (j < k2) = true := decide_eq_true (by omega)
                  rw [decide_eq_true g2] at y2
                  go_wp2_with (rw [← HW5.out])
                  go_roundw
                  case rel => exact ⟨j + 1, by go_num, by omega, B5.out⟩
                  case measure => simp [intOf]; omega
                · have u3 : decide ((j : Int) < (k2 : Int)) = false := decide_eq_false (by omega)
                  have u4 : decide (j < k2) = false := decide_eq_false (by omega)
                  rw [decide_eq_false (by omega)] at y2
                  go_wp2_with (rw [← HW5.out])
                  go_roundw
                  case rel => exact ⟨j + 1, by go_num, by omega, B5.out⟩
                  case measure => simp [intOf]; omega
            · go_wp2_with fail
              refine (HAW.out _).mono ?_
              rintro e w4 ⟨rfl, hb4⟩
              have HB4 := Lib.hid hb4; clear hb4
              go_wp2_with fail
              go_ret
              exact ⟨rfl, below_then HB1.out (below_then hbel.out HB4.out)⟩
        · have e := cmp_turn L1 L2
          have hm := rank_mono M (show cmp L2 L1 ≤ 0 by omega)
          rw [← hk1, ← hk2] at hm
          rw [decide_eq_false (by omega)] at z1 z2
          have z3 : (Op.bytesLess sa.toList sb.toList || sa.toList == sb.toList) = false := by rw [z1, z2]; rfl
          have z4 : (!(Op.bytesLess sa.toList sb.toList || sa.toList == sb.toList)) = true := by rw [z3]; rfl
          clear hc hk1 hk2 e
          have I1 := Lib.hid (J2.out w1 (Below.refl _ _))
          go_wp2_with fail
          refine I1.out.mono ?_
          rintro e w2 ⟨rfl, hb2⟩
          have I2 := Lib.hid (J1.out w2 hb2)
          clear z3 z4 q1 q2 I1 J1 J2
          go_wp2_with fail
          refine I2.out.mono ?_
          rintro e w3 ⟨rfl, hb3⟩
          have hb13 := below_then hb2 hb3
          have I3 := Lib.hid (HT.out.sz w3 hb13)
          have B3 := Lib.hid hb13
          clear hb2 hb3 hb13 I2
          have u1 : decide ((k1 : Int) < (k2 : Int)) = false := decide_eq_false (by omega)
          have u2 : decide (k1 < k2) = false := decide_eq_false (by omega)
          have u3 : decide ((k2 : Int) < 0) = false := decide_eq_false (by omega)
          have u4 : decide ((n : Int) < (k1 : Int)) = false := decide_eq_false (by omega)
          have u5 : decide (n < k1) = false := decide_eq_false (by omega)
          go_wp2_with fail
          refine I3.out.mono ?_
          rintro e w' ⟨rfl, rfl⟩
          go_wp2_with fail
          refine I3.out.mono ?_
          rintro e w' ⟨rfl, rfl⟩
          clear u1 u2 u3 u4 u5 I3
          go_wp2_with fail
          go_loopw [62] (fun i wr => ∃ j : Nat, i = .int .i64 j ∧ j ≤ n ∧ Hid (Below w1.heap.size w1 wr)) (fun i _ => n - (intOf i).toNat)
          case atStart => exact ⟨0, rfl, by omega, B3.out⟩
          case round =>
            obtain ⟨j, rfl, hj, hbel⟩ := hrel
            clear B3
            by_cases hlt : j < n
            · have hjM : j < M.length := by have := HN.out; omega
              have K1 := HT.out.ta wr (j : Int) hbel.out (by omega) (by omega)
              rw [nth_at hjM] at K1
              obtain ⟨ks, hks⟩ : ∃ s : ByteArray, s = ⟨(M[j]).1.toArray⟩ := ⟨_, rfl⟩
              have y1 := E2.out j hjM ks hks
              have y2 := E1.out j hjM ks hks
              have I4 := Lib.hid K1; clear K1
              go_wp2_with fail
              refine I4.out.mono ?_
              rintro e w4 ⟨⟨ka, kc, va, vc, x1, x2, is, rfl, hp⟩, hb4⟩
              obtain rfl : is = true := hp.2.2.1
              obtain ⟨w5, hw5, b5, _, k5⟩ := box_pair w4 ka va x1 kc x2 vc
              have b15 := below_then hbel.out (below_then hb4 b5)
              have hx1 : x1 = (M[j]).1.length := hp.1
              have c1 := conv_any (show Bts w5 ka (M[j]).1 from hp.2.2.2.1.below b5) kc
              rw [← hx1, ← hks] at c1
              have v1 := W2.out w5 b15
              have v2 := W1.out w5 b15
              obtain ⟨d0, d1⟩ := k5 w5 (Below.refl _ _)
              have HW5 := Lib.hid hw5; clear hw5
              have B5 := Lib.hid b15; clear b15
              clear hp hb4 b5 k5 hx1 I4 hks hjM
              rcases Nat.lt_or_ge j k2 with g | g
              · have u1 : decide ((k2 : Int) ≤ (j : Int)) = false := decide_eq_false (by omega)
                have u2 : decide (k2 ≤ j) = false := decide_eq_false (by omega)
                rw [decide_eq_true g] at y1
                rw [decide_eq_true (show j < k1 by omega)] at y2
                go_wp2_with (rw [← HW5.out])
                go_roundw
                case rel => exact ⟨j + 1, by go_num, by omega, B5.out⟩
                case measure => simp [intOf]; omega
              · have u1 : decide ((k2 : Int) ≤ (j : Int)) = true := decide_eq_true (by omega)
                have u2 : decide (k2 ≤ j) = true := decide_eq_true (by omega)
                rw [decide_eq_false (by omega)] at y1
                rcases Nat.lt_or_ge j k1 with g2 | g2
                · have u3 : decide ((j : Int) < (k1 : Int)) = true := decide_eq_true (by omega)
                  have u4 : decide (j < k1) = true := decide_eq_true (by omega)
                  rw [decide_eq_true g2] at y2
                  go_wp2_with (rw [← HW5.out])
                  go_roundw
                  case rel => exact ⟨j + 1, by go_num, by omega, B5.out⟩
                  case measure => simp [intOf]; omega
                · have u3 : decide ((j : Int) < (k1 : Int)) = false := decide_eq_false (by omega)
                  have u4 : decide (j < k1) = false := decide_eq_false (by omega)
                  rw [decide_eq_false (by omega)] at y2
                  go_wp2_with (rw [← HW5.out])
                  go_roundw
                  case rel => exact ⟨j + 1, by go_num, by omega, B5.out⟩
                  case measure => simp [intOf]; omega
            · go_wp2_with fail
              refine (HAW.out _).mono ?_
              rintro e w4 ⟨rfl, hb4⟩
              have HB4 := Lib.hid hb4; clear hb4
              go_wp2_with fail
              go_ret
              exact ⟨rfl, below_then HB1.out (below_then hbel.out HB4.out)⟩
      · have t3 : decide ((100 : Int) < (L2.length : Int)) = true := decide_eq_true (by omega)
        have t4 : decide (100 < L2.length) = true := decide_eq_true (by omega)
        clear hk1 hk2 HMD HK1 HK2 HSR
        go_enter Try.func6, Try.ntmps6
        go_wp2_with fail
        refine HSM.out.mono ?_
        rintro e w1 ⟨rfl, hb⟩
        have HB := Lib.hid hb; clear hb
        go_wp2_with fail
        refine (HAW.out _).mono ?_
        rintro e w2 ⟨rfl, hb⟩
        have HB2 := Lib.hid hb; clear hb
        go_wp2_with fail
        go_ret
        exact ⟨rfl, below_then HB.out HB2.out⟩
    · have t1 : decide ((100 : Int) < (L1.length : Int)) = true := decide_eq_true (by omega)
      have t2 : decide (100 < L1.length) = true := decide_eq_true (by omega)
      clear hk1 HMD HK1 HK2 HSR
      go_enter Try.func6, Try.ntmps6
      go_wp2_with fail
      refine HSM.out.mono ?_
      rintro e w1 ⟨rfl, hb⟩
      have HB := Lib.hid hb; clear hb
      go_wp2_with fail
      refine (HAW.out _).mono ?_
      rintro e w2 ⟨rfl, hb⟩
      have HB2 := Lib.hid hb; clear hb
      go_wp2_with fail
      go_ret
      exact ⟨rfl, below_then HB.out HB2.out⟩
/-! ### THE ROW's STEP -/
set_option maxRecDepth 100000 in
theorem lifted (os : Os) (started : os.Started) (H : Type) (enc : TypeId × Value → H) :
    ReturnsInHanded {} Try.checked os 6 .any (Rows.rankRisesSpec.pre6 enc Try.prog Try.f6 Rows.rankRisesRow.domain false) (Rows.rankRisesSpec.post enc Try.prog Try.f6 false true false false) := by
  refine returnsInHanded_of_change (C := Try.checked) own started (by kernel_rfl) Try.func6
    (ChangeSpec.witness6 (enc := enc) (C := Try.checked) false ⟨#[], #[.slice none 0 0, .slice none 0 0, .slice none 0 0], []⟩ 8 (by kernel_rfl) (by kernel_rfl) (by kernel_rfl) (by kernel_rfl)) ?_
  intro W base args ds gs before hval0 hW hcnd _
  have hval : ∀ (j : Nat) t v, Try.f6.params[j]? = some t → args[j]? = some v → Value.okWide Try.prog W .any base t v := hval0
  have hW' := hW
  obtain ⟨p, q, hA0, hV, rfl, hfz, hnd⟩ := hW
  have hA : DataW.TrodAll enc Try.prog W 0 (fun _ => true) true Try.f6.params.toList args.toList ds p := hA0
  rw [Try.params6] at hA hval
  obtain ⟨v0, vs0, d0, ds0, p0, q0, hargs, rfl, rfl, h0, r0⟩ := trodAll_cons hA
  obtain ⟨v1, vs1, d1, ds1, p1, q1, rfl, rfl, rfl, h1, r1⟩ := trodAll_cons r0
  obtain ⟨v2, vs2, d2, ds2, p2, q2, rfl, rfl, rfl, h2, r2⟩ := trodAll_cons r1
  obtain ⟨rfl, rfl, rfl⟩ := trodAll_nil r2
  obtain rfl : args = #[v0, v1, v2] := by cases args; simp_all
  obtain ⟨rfl, rfl⟩ := trodVars_none hV
  have lt0 : ∀ x ∈ p0, x.block < W.heap.size := by obtain ⟨m, hm⟩ := h0; exact DataW.trod_lt m _ _ _ hm
  have ok0 := hval 0 22 v0 rfl rfl
  have lt1 : ∀ x ∈ p1, x.block < W.heap.size := by obtain ⟨m, hm⟩ := h1; exact DataW.trod_lt m _ _ _ hm
  have ok1 := hval 1 23 v1 rfl rfl
  have lt2 : ∀ x ∈ p2, x.block < W.heap.size := by obtain ⟨m, hm⟩ := h2; exact DataW.trod_lt m _ _ _ hm
  have ok2 := hval 2 23 v2 rfl rfl
  clear hA0 hval0 hval
  obtain ⟨A0, c0, L0, rfl, hc0, hm0, ha0⟩ := ops_in ok0 h0
  obtain ⟨A1, c1, L1, rfl, hc1, hm1, ha1⟩ := bytes_in ok1 h1
  obtain ⟨A2, c2, L2, rfl, hc2, hm2, ha2⟩ := bytes_in ok2 h2
  refine (walk W hc0 hm0 ha0 hc1 hm1 ha1 hc2 hm2 ha2).mono fun e W' ⟨he, bel⟩ => ?_
  subst he
  exact ⟨_, rfl, _, _, _, [], _, [], hW', trodAll_mk1 (shut_bool Try.underlying4 _), (trodAll_cons_mk (Below.trod laidOut (by kernel_rfl) (of_decide_eq_true (by kernel_rfl)) h0 bel lt0) (trodAll_cons_mk (Below.trod laidOut (by kernel_rfl) (of_decide_eq_true (by kernel_rfl)) h1 bel lt1) (trodAll_cons_mk (Below.trod laidOut (by kernel_rfl) (of_decide_eq_true (by kernel_rfl)) h2 bel lt2) trodAll_mk0))), rfl, bel.frame _, fun h => by cases h⟩

theorem over : Rows.rankRisesRow.holds Try.pinned (OpenSpec.ofChange Rows.rankRisesSpec) :=
  OpenClaim.holds_of_wide 6 Try.f6 rfl rfl rfl rfl rfl rfl rfl ⟨rfl, rfl, rfl, rfl, rfl⟩ rfl rfl rfl rfl rfl (by kernel_rfl) Try.func6 (by kernel_rfl)
    (of_decide_eq_true (by kernel_rfl)) (by unfold Func.isWrapper; first | (rw [if_pos (by decide +kernel)]; kernel_rfl) | (rw [if_neg (by decide +kernel)]; exact ⟨rfl, rfl⟩))
    (fun os started H enc _ => lifted os started H enc)

/-- ████ THE STATEMENT ████ -/
theorem proved : Rows.RankRisesSaid := over
#print axioms proved
end Go.Proofs.Ytdjbcminppomdaa.rankRises
