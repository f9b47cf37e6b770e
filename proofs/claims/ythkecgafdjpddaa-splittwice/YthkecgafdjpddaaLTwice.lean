/-
  SplitTwice: for every input the law answers true and leaves its arguments as they were: the walk is typed by hand, the row's step is the guide's template.
  Conditions: none beside the row's own.
-/
import Derived.Test.YthkecgafdjpddaaLaws
import Derived.Deep.RegionHeld3
import Derived.Test.YthkecgafdjpddaaIn
import Derived.Test.YthkecgafdjpddaaRows
import Derived.WalkKit
import Derived.ProofKit
import Derived.OpenShut
import Derived.ShutString
import Derived.ChangeOld
import Derived.Below
namespace Go.Proofs.Ythkecgafdjpddaa.splitTwice
open Go.ChangeShapes Go.WideShapes Go.ChangeAt Go.RowKit
set_option linter.unusedVariables false
theorem own : ownKnob Try.prog.godebug = none := by kernel_rfl
theorem laidOut : laidOutB Try.prog = true := by kernel_rfl
theorem is_size {F : Nat → Prop} {w : World} {L : List Pr} {p : Option Addr} (h : Is F w L p) (hn : L.length ≤ 5000) : Calls Try.prog 21 #[.pointer p] w fun e w' => e = .returned (.int .i64 (L.length : Int)) ∧ w = w' := by
  obtain ⟨t, h1, h2, rfl⟩ := h
  rw [Tr.length]
  exact size_any h1 (by rw [← Tr.length]; omega)
theorem refIns_n {w : World} {A : Option Addr} {M : List Pr} {n : Nat} (ha : Rcs w A M) (en : n = M.length) (c : Nat) (f t : List UInt8) (cl : Bool) (hlen : M.length ≤ 900) (hf : f.length ≤ 1000) (ht : t.length ≤ 1000) (hm : ∀ q ∈ M, q.1.length ≤ 1000) :
    Calls Try.prog 14 #[.slice A n c, .agg #[.string ⟨f.toArray⟩, .string ⟨t.toArray⟩, .bool cl], .bool true] w fun e w' => ∃ A' c' n, e = .returned (.slice A' n c') ∧ n = (ins M f t cl).length ∧ Rcs w' A' (ins M f t cl) ∧ Below w.heap.size w w' := by
  subst en
  exact refIns_any ha c f t cl hlen hf ht hm
set_option maxRecDepth 100000 in
set_option maxHeartbeats 4000000 in
theorem walk {A0 : Option Addr} {c0 : Nat} {L0 : List Opn} {F1 T1 : Option Addr} {fc1 tc1 : Nat} {fr1 to1 : List UInt8} {cl1 : Bool} {F2 T2 : Option Addr} {fc2 tc2 : Nat} {fr2 to2 : List UInt8} {cl2 : Bool} (w : World) (hc0 : L0.length ≤ c0) (hm0 : c0 ≤ maxLen) (ha0 : Ocs w A0 L0) (hf1 : fr1.length ≤ 9223372036854775807) (ht1 : to1.length ≤ 9223372036854775807) (hs1 : Spn w F1 T1 fr1 to1 fr1.length to1.length) (hf2 : fr2.length ≤ 9223372036854775807) (ht2 : to2.length ≤ 9223372036854775807) (hs2 : Spn w F2 T2 fr2 to2 fr2.length to2.length) :
    Calls Try.prog 6 #[.slice A0 L0.length c0, .agg #[.slice F1 fr1.length fc1, .slice T1 to1.length tc1, .bool cl1], .agg #[.slice F2 fr2.length fc2, .slice T2 to2.length tc2, .bool cl2]] w fun e w' => e = .returned (.bool true) ∧ Below w.heap.size w w' := by
  obtain ⟨x, hx⟩ : ∃ x, x = fr1.length := ⟨_, rfl⟩
  obtain ⟨y, hy⟩ : ∃ y, y = to1.length := ⟨_, rfl⟩
  obtain ⟨u, hu⟩ : ∃ x, x = fr2.length := ⟨_, rfl⟩
  obtain ⟨v, hv⟩ : ∃ y, y = to2.length := ⟨_, rfl⟩
  rw [← hx] at hf1 hs1 ⊢
  rw [← hy] at ht1 hs1 ⊢
  rw [← hu] at hf2 hs2 ⊢
  rw [← hv] at ht2 hs2 ⊢
  obtain ⟨w1, hw1, hb1, hk1⟩ := box_span w (.slice F1 x fc1) (.slice T1 y tc1) (.bool cl1)
  obtain ⟨w2, hw2, hb2, hk2⟩ := box_span w1 (.slice F2 u fc2) (.slice T2 v tc2) (.bool cl2)
  have hb12 := below_then hb1 hb2
  have hsm := fine_any (ha0.below hb12) c0 60 (by decide) (Nat.le_trans hc0 hm0)
  have HAW := Lib.hid awake_any
  have HMD := Lib.hid (fun W (h : Below w2.heap.size w2 W) hl ht => made_two c0 ((ha0.below hb12).below h) hl ht)
  have HSP := Lib.hid (hs1.below hb12)
  have HSU := Lib.hid (hs2.below hb12)
  have HFL := Lib.hid (And.intro (And.intro hx hy) (And.intro hu hv))
  have K1 := Lib.hid (fun W (h : Below w2.heap.size w2 W) => And.intro (hk1 W (below_then hb2 h)) (hk2 W h)); clear hk1 hk2
  have HW1 := Lib.hid hw1; clear hw1
  have HW2 := Lib.hid hw2; clear hw2
  have HB := Lib.hid hb12; clear hb1 hb2 hb12
  cases hs : (decide (L0.length ≤ 60) && tinyO L0) with
  | false =>
    rw [hs] at hsm
    have HSM := Lib.hid hsm; clear hsm
    clear ha0 hs hc0 hm0 hs1 hs2 hx hy hu hv
    go_enter Try.func6, Try.ntmps6
    go_wp2_with (first | rw [← HW1.out] | rw [← HW2.out] | fail)
    refine HSM.out.mono ?_
    rintro e w3 ⟨rfl, b3⟩
    have B3 := Lib.hid b3; clear b3
    go_wp2_with fail
    refine (HAW.out _).mono ?_
    rintro e w9 ⟨rfl, b9⟩
    have B9 := Lib.hid (below_then B3.out b9); clear b9
    go_wp2_with fail
    go_ret
    exact ⟨rfl, below_then HB.out B9.out⟩
  | true =>
    rw [hs] at hsm
    obtain ⟨hlen, htiny⟩ : L0.length ≤ 60 ∧ tinyO L0 = true := by simpa using hs
    have HSM := Lib.hid hsm; clear hsm
    have HMD2 := Lib.hid (fun W h => HMD.out W h (Nat.le_trans hlen (by decide)) htiny); clear HMD
    clear ha0 hs hc0 hm0 hs1 hs2 hx hy hu hv hlen htiny
    by_cases hx : x ≤ 100
    · have s0 : decide ((100 : Int) < (x : Int)) = false := decide_eq_false (by omega)
      have s1 : decide (100 < x) = false := decide_eq_false (by omega)
      by_cases hy : y ≤ 100
      · have s2 : decide ((100 : Int) < (y : Int)) = false := decide_eq_false (by omega)
        have s3 : decide (100 < y) = false := decide_eq_false (by omega)
        by_cases hu : u ≤ 100
        · have s4 : decide ((100 : Int) < (u : Int)) = false := decide_eq_false (by omega)
          have s5 : decide (100 < u) = false := decide_eq_false (by omega)
          by_cases hv : v ≤ 100
          · have s6 : decide ((100 : Int) < (v : Int)) = false := decide_eq_false (by omega)
            have s7 : decide (100 < v) = false := decide_eq_false (by omega)
            have HKL := Lib.hid (And.intro (And.intro hx hy) (And.intro hu hv)); clear hx hy hu hv
            go_enter Try.func6, Try.ntmps6
            go_wp2_with (first | rw [← HW1.out] | rw [← HW2.out] | fail)
            refine HSM.out.mono ?_
            rintro e w3 ⟨rfl, b3⟩
            obtain ⟨⟨q0, q1, q2⟩, q3, q4, q5⟩ := K1.out w3 b3
            have M3 := Lib.hid (HMD2.out w3 b3)
            have B3 := Lib.hid b3; clear b3
            clear HMD2 HSM HW1 HW2
            go_wp2_with fail
            refine M3.out.mono ?_
            rintro e w4 ⟨p, A, c, n, rfl, tw, b4⟩
            have b14 := below_then B3.out b4
            clear q0 q1 q2 q3 q4 q5
            obtain ⟨M, hM⟩ : ∃ M, M = plays L0 := ⟨_, rfl⟩
            rw [← hM] at tw
            have sp := HSP.out.below b14
            have su := HSU.out.below b14
            obtain ⟨sf, hsf⟩ : ∃ s : ByteArray, s = ⟨fr1.toArray⟩ := ⟨_, rfl⟩
            obtain ⟨st, hst⟩ : ∃ s : ByteArray, s = ⟨to1.toArray⟩ := ⟨_, rfl⟩
            obtain ⟨uf, huf⟩ : ∃ s : ByteArray, s = ⟨fr2.toArray⟩ := ⟨_, rfl⟩
            obtain ⟨ut, hut⟩ : ∃ s : ByteArray, s = ⟨to2.toArray⟩ := ⟨_, rfl⟩
            have hlx : (fr1.length ≤ 1000 ∧ to1.length ≤ 1000) ∧ fr2.length ≤ 1000 ∧ to2.length ≤ 1000 := by rw [← HFL.out.1.1, ← HFL.out.1.2, ← HFL.out.2.1, ← HFL.out.2.2]; have := HKL.out; omega
            have r1 := fun W (hW : Below w4.heap.size w4 W) => ref_any fc1 tc1 cl1 (sp.below hW)
            have r2 := fun W (hW : Below w4.heap.size w4 W) => ref_any fc2 tc2 cl2 (su.below hW)
            have i1 := fun W (hW : Below w4.heap.size w4 W) => refIns_any (tw.rcs.below hW) c fr1 to1 cl1 (Nat.le_trans tw.good.few (by decide)) hlx.1.1 hlx.1.2 tw.good.keys
            have gi : Good (ins M fr1 to1 cl1) := tw.good.part _
            have gu : Good (ins M fr2 to2 cl2) := tw.good.part _
            have i2 := fun W A' c' n' (hr : Rcs W A' (ins M fr1 to1 cl1)) (hn : n' = (ins M fr1 to1 cl1).length) => refIns_n hr hn c' fr2 to2 cl2 (Nat.le_trans gi.few (by decide)) hlx.2.1 hlx.2.2 gi.keys
            simp only [← hsf, ← hst] at r1 i1
            simp only [← huf, ← hut] at r2 i2
            simp only [← tw.len] at i1
            have c1 := fun W (hW : Below w4.heap.size w4 W) => cut_any fc1 tc1 cl1 (fut W) (tw.tree.below hW) tw.good.fine (sp.below hW)
            have c2 := fun W (hW : Below w4.heap.size w4 W) => cut_any fc2 tc2 cl2 (fut W) (tw.tree.below hW) tw.good.fine (su.below hW)
            have c12 := fun W p' (hW : Below w4.heap.size w4 W) (hp : Is All W (ins M fr1 to1 cl1) p') => cut_any fc2 tc2 cl2 (fut W) hp gi.fine (su.below hW)
            have c21 := fun W p' (hW : Below w4.heap.size w4 W) (hp : Is All W (ins M fr2 to2 cl2) p') => cut_any fc1 tc1 cl1 (fut W) hp gu.fine (sp.below hW)
            have o12 := fun W p' (hW : Below w4.heap.size w4 W) (hp : Is All W (ins M fr1 to1 cl1) p') => out_any fc2 tc2 cl2 (fut W) hp gi.fine (su.below hW)
            have n12 := fun W p' (hW : Below w4.heap.size w4 W) (hp : Is All W (ins M fr1 to1 cl1) p') => count_any fc2 tc2 cl2 hp gi.fine (Nat.le_trans gi.few (by decide)) (su.below hW)
            have n1 := fun W (hW : Below w4.heap.size w4 W) => count_any fc1 tc1 cl1 (tw.tree.below hW) tw.good.fine (Nat.le_trans tw.good.few (by decide)) (sp.below hW)
            have g2 : Good (ins (ins M fr1 to1 cl1) fr2 to2 cl2) := gi.part _
            have go : Good (outs (ins M fr1 to1 cl1) fr2 to2 cl2) := gi.part _
            rw [ins_twice M fr2 to2 fr1 to1 cl2 cl1] at c21
            have hsum := ins_outs (ins M fr1 to1 cl1) fr2 to2 cl2
            have ii : ∀ W p' A' n', Is All W (ins (ins M fr1 to1 cl1) fr2 to2 cl2) p' → Rcs W A' (ins (ins M fr1 to1 cl1) fr2 to2 cl2) → n' = (ins (ins M fr1 to1 cl1) fr2 to2 cl2).length → Two W (ins (ins M fr1 to1 cl1) fr2 to2 cl2) p' A' n' := fun W p' A' n' h0 h1 h2 => ⟨h0, h1, h2, g2⟩
            have sz := fun W p' (hp : Is All W (outs (ins M fr1 to1 cl1) fr2 to2 cl2) p') => is_size hp (Nat.le_trans go.few (by decide))
            have gl := go.few
            have hl := g2.few
            obtain ⟨U, hU⟩ : ∃ U, U = ins M fr2 to2 cl2 := ⟨_, rfl⟩
            obtain ⟨I, hI⟩ : ∃ I, I = ins M fr1 to1 cl1 := ⟨_, rfl⟩
            simp only [← hI] at i1 i2 c1 c12 c21 o12 n12 n1 hsum ii sz gl hl
            simp only [← hU] at c2 c21
            obtain ⟨J, hJ⟩ : ∃ J, J = ins I fr2 to2 cl2 := ⟨_, rfl⟩
            obtain ⟨O, hO⟩ : ∃ O, O = outs I fr2 to2 cl2 := ⟨_, rfl⟩
            simp only [← hJ] at i2 c12 c21 n12 hsum ii hl
            simp only [← hO] at o12 hsum sz gl
            obtain ⟨k, hk⟩ : ∃ k, k = I.length := ⟨_, rfl⟩
            obtain ⟨m, hm⟩ : ∃ k, k = O.length := ⟨_, rfl⟩
            simp only [← hk] at n1 hsum
            simp only [← hm] at sz hsum gl
            have R1 := Lib.hid r1; clear r1
            have R2 := Lib.hid r2; clear r2
            have I1 := Lib.hid i1; clear i1
            have I2 := Lib.hid i2; clear i2
            have C1 := Lib.hid c1; clear c1
            have C2 := Lib.hid c2; clear c2
            have C12 := Lib.hid c12; clear c12
            have C21 := Lib.hid c21; clear c21
            have O12 := Lib.hid o12; clear o12
            have N12 := Lib.hid n12; clear n12
            have N1 := Lib.hid n1; clear n1
            have II := Lib.hid ii; clear ii
            have SZ := Lib.hid sz; clear sz
            have SUM := Lib.hid (And.intro hsum (And.intro gl hl)); clear hsum gl hl
            have K4 := Lib.hid (fun W (h : Below w4.heap.size w4 W) => K1.out W (below_then b14 h))
            have B4 := Lib.hid b14; clear b14 b4
            have hz0 : Below w4.heap.size w4 w4.drew := (Below.refl _ _).drew
            clear tw sp su hlx hsf hst huf hut gi gu g2 go hM hI hU hJ hO hm hk M3 B3 K1 HSP HSU HFL HKL
            go_wp2_with fail
            go_region_held3 (fun W => (W.cell? ⟨w.heap.size, 0, none⟩ = some (.slice F1 x fc1) ∧ W.cell? ⟨w.heap.size, 1, none⟩ = some (.slice T1 y tc1) ∧ W.cell? ⟨w.heap.size, 2, none⟩ = some (.bool cl1)) ∧ W.cell? ⟨w1.heap.size, 0, none⟩ = some (.slice F2 u fc2) ∧ W.cell? ⟨w1.heap.size, 1, none⟩ = some (.slice T2 v tc2) ∧ W.cell? ⟨w1.heap.size, 2, none⟩ = some (.bool cl2)) (first | exact K4.out _ hz0 | exact K4.out _ hzA | exact K4.out _ hzB | exact K4.out _ hzC | exact K4.out _ hzD | fail) (first
              | (go_at_call 15; (with_reducible refine (R1.out _ hz0).mono ?_); rintro e wA ⟨rfl, hbA⟩; have hzA := below_then hz0 hbA)
              | (go_at_call 14; (with_reducible refine (I1.out _ hzA).mono ?_); rintro e wB ⟨AB, cB, nB, rfl, enB, rB, hbB⟩; have EB := Lib.hid enB; clear enB; have hzB := below_then hzA hbB)
              | (go_at_call 15; (with_reducible refine (R2.out _ hzB).mono ?_); rintro e wC ⟨rfl, hbC⟩; have hzC := below_then hzB hbC; have rC := Rcs.below rB hbC)
              | (go_at_call 14; (with_reducible refine (I2.out _ AB cB nB rC EB.out).mono ?_); rintro e w5 ⟨A5, c5, n5, rfl, en5, r5, hb5⟩; have E5 := Lib.hid en5; clear en5; have hzD := below_then hzC hb5)
              | fail)
            clear rB rC EB hz0 hzA hzB hzC hbA hbB hbC hb5 R1 R2 I1 I2
            have hy0 : Below w5.heap.size w5 w5.drew := (Below.refl _ _).drew
            have G5 := Lib.hid (fun W (h : Below w5.heap.size w5 W) => below_then hzD h)
            have R5 := Lib.hid (And.intro E5.out r5)
            clear E5 r5 hzD
            go_wp2_with fail
            go_region_held3 (fun W => (W.cell? ⟨w.heap.size, 0, none⟩ = some (.slice F1 x fc1) ∧ W.cell? ⟨w.heap.size, 1, none⟩ = some (.slice T1 y tc1) ∧ W.cell? ⟨w.heap.size, 2, none⟩ = some (.bool cl1)) ∧ W.cell? ⟨w1.heap.size, 0, none⟩ = some (.slice F2 u fc2) ∧ W.cell? ⟨w1.heap.size, 1, none⟩ = some (.slice T2 v tc2) ∧ W.cell? ⟨w1.heap.size, 2, none⟩ = some (.bool cl2)) (first | exact K4.out _ (G5.out _ hy0) | exact K4.out _ (G5.out _ hyA) | exact K4.out _ (G5.out _ hyB) | exact K4.out _ (G5.out _ hyC) | exact K4.out _ (G5.out _ hyD) | fail) (first
              | (go_at_call 16; (with_reducible refine (C1.out _ (G5.out _ hy0)).mono ?_); rintro e wA ⟨pA, rfl, hA, hbA⟩; have hyA := below_then hy0 hbA)
              | (go_at_call 16; (with_reducible refine (C12.out _ pA (G5.out _ hyA) hA).mono ?_); rintro e wB ⟨pB, rfl, hB, hbB⟩; have hyB := below_then hyA hbB)
              | (go_at_call 16; (with_reducible refine (C2.out _ (G5.out _ hyB)).mono ?_); rintro e wC ⟨pC, rfl, hC, hbC⟩; have hyC := below_then hyB hbC)
              | (go_at_call 16; (with_reducible refine (C21.out _ pC (G5.out _ hyC) hC).mono ?_); rintro e w6 ⟨pD, rfl, hD, hb6⟩; have hyD := below_then hyC hb6)
              | fail)
            have hB6 := Is.below (Is.below hB hbC) hb6
            have r6 := R5.out.2.below hyD
            have I6 := Lib.hid ((II.out w6 pB A5 n5 hB6 r6 R5.out.1).is c5)
            have I7 := Lib.hid (fun W (h : Below w6.heap.size w6 W) => (II.out W pD A5 n5 (hD.below h) (r6.below h) R5.out.1).is c5)
            have G6 := Lib.hid (fun W (h : Below w6.heap.size w6 W) => G5.out W (below_then hyD h))
            have EN := Lib.hid R5.out.1
            clear hA hB hC hD hB6 r6 hbA hbB hbC hb6 hy0 hyA hyB hyC hyD C2 C21 II R5 G5
            go_wp2_with fail
            refine I6.out.mono ?_
            rintro e w7 ⟨rfl, b7⟩
            have J7 := Lib.hid (I7.out w7 b7)
            have B7 := Lib.hid b7; clear b7
            clear I6 I7
            go_wp2_with fail
            refine J7.out.mono ?_
            rintro e w8 ⟨rfl, b8⟩
            have b48 := G6.out w8 (below_then B7.out b8)
            have G8 := Lib.hid (fun W (h : Below w8.heap.size w8 W) => below_then b48 h)
            have n12' := N12.out
            simp only [← EN.out] at n12'
            have N12' := Lib.hid n12'; clear n12'
            have hsum := SUM.out
            rw [← EN.out] at hsum
            have dn : ((n5 : Int) == (n5 : Int)) = true := by simp
            have dm : (IntKind.i64.wrap ((m : Int) + (n5 : Int)) == (k : Int)) = true := by rw [IntKind.wrap_i64]; simpa using (show ((m : Int) + (n5 : Int) + 9223372036854775808) % 18446744073709551616 - 9223372036854775808 = (k : Int) by omega)
            have hx0 : Below w8.heap.size w8 w8.drew := (Below.refl _ _).drew
            clear b48 b8 B7 J7 G6 N12 SUM EN hsum
            go_wp2_with fail
            go_region_held3 (fun W => (W.cell? ⟨w.heap.size, 0, none⟩ = some (.slice F1 x fc1) ∧ W.cell? ⟨w.heap.size, 1, none⟩ = some (.slice T1 y tc1) ∧ W.cell? ⟨w.heap.size, 2, none⟩ = some (.bool cl1)) ∧ W.cell? ⟨w1.heap.size, 0, none⟩ = some (.slice F2 u fc2) ∧ W.cell? ⟨w1.heap.size, 1, none⟩ = some (.slice T2 v tc2) ∧ W.cell? ⟨w1.heap.size, 2, none⟩ = some (.bool cl2)) (first | exact K4.out _ (G8.out _ hx0) | exact K4.out _ (G8.out _ hxA) | exact K4.out _ (G8.out _ hxB) | exact K4.out _ (G8.out _ hxC) | exact K4.out _ (G8.out _ hxD) | exact K4.out _ (G8.out _ hxE) | exact K4.out _ (G8.out _ hxF) | fail) (first
              | (go_at_call 16; (with_reducible refine (C1.out _ (G8.out _ hx0)).mono ?_); rintro e wA ⟨pA, rfl, hA, hbA⟩; have hxA := below_then hx0 hbA)
              | (go_at_call 18; (with_reducible refine (N12'.out _ pA (G8.out _ hxA) hA).mono ?_); rintro e wB ⟨rfl, hbB⟩; have hxB := below_then hxA hbB)
              | (go_at_call 16; (with_reducible refine (C1.out _ (G8.out _ hxB)).mono ?_); rintro e wC ⟨pC, rfl, hC, hbC⟩; have hxC := below_then hxB hbC)
              | (go_at_call 17; (with_reducible refine (O12.out _ pC (G8.out _ hxC) hC).mono ?_); rintro e wD ⟨pD, rfl, hD, hbD⟩; have hxD := below_then hxC hbD)
              | (go_at_call 21; (with_reducible refine (SZ.out _ pD hD).mono ?_); rintro e wS ⟨rfl, rfl⟩)
              | (go_at_call 18; (with_reducible refine (N1.out _ (G8.out _ hxD)).mono ?_); rintro e wE ⟨rfl, hbE⟩; have hxE := below_then hxD hbE)
              | (go_at_call 8; (with_reducible refine (HAW.out _).mono ?_); rintro e wF ⟨rfl, hbF⟩; have hxF := below_then hxE hbF)
              | fail)
            all_goals
              go_wp2_with fail
              go_ret
              exact ⟨rfl, below_then (below_then HB.out B4.out) (G8.out _ hxF)⟩
          · have s6 : decide ((100 : Int) < (v : Int)) = true := decide_eq_true (by omega)
            have s7 : decide (100 < v) = true := decide_eq_true (by omega)
            clear hx hy hu hv HMD2
            go_enter Try.func6, Try.ntmps6
            go_wp2_with (first | rw [← HW1.out] | rw [← HW2.out] | fail)
            refine HSM.out.mono ?_
            rintro e w3 ⟨rfl, b3⟩
            obtain ⟨⟨q0, q1, q2⟩, q3, q4, q5⟩ := K1.out w3 b3
            have B3 := Lib.hid b3; clear b3
            go_wp2_with fail
            refine (HAW.out _).mono ?_
            rintro e w9 ⟨rfl, b9⟩
            have B9 := Lib.hid (below_then B3.out b9); clear b9
            go_wp2_with fail
            go_ret
            exact ⟨rfl, below_then HB.out B9.out⟩
        · have s4 : decide ((100 : Int) < (u : Int)) = true := decide_eq_true (by omega)
          have s5 : decide (100 < u) = true := decide_eq_true (by omega)
          clear hx hy hu HMD2
          go_enter Try.func6, Try.ntmps6
          go_wp2_with (first | rw [← HW1.out] | rw [← HW2.out] | fail)
          refine HSM.out.mono ?_
          rintro e w3 ⟨rfl, b3⟩
          obtain ⟨⟨q0, q1, q2⟩, q3, q4, q5⟩ := K1.out w3 b3
          have B3 := Lib.hid b3; clear b3
          go_wp2_with fail
          refine (HAW.out _).mono ?_
          rintro e w9 ⟨rfl, b9⟩
          have B9 := Lib.hid (below_then B3.out b9); clear b9
          go_wp2_with fail
          go_ret
          exact ⟨rfl, below_then HB.out B9.out⟩
      · have s2 : decide ((100 : Int) < (y : Int)) = true := decide_eq_true (by omega)
        have s3 : decide (100 < y) = true := decide_eq_true (by omega)
        clear hx hy HMD2
        go_enter Try.func6, Try.ntmps6
        go_wp2_with (first | rw [← HW1.out] | rw [← HW2.out] | fail)
        refine HSM.out.mono ?_
        rintro e w3 ⟨rfl, b3⟩
        obtain ⟨⟨q0, q1, q2⟩, q3, q4, q5⟩ := K1.out w3 b3
        have B3 := Lib.hid b3; clear b3
        go_wp2_with fail
        refine (HAW.out _).mono ?_
        rintro e w9 ⟨rfl, b9⟩
        have B9 := Lib.hid (below_then B3.out b9); clear b9
        go_wp2_with fail
        go_ret
        exact ⟨rfl, below_then HB.out B9.out⟩
    · have s0 : decide ((100 : Int) < (x : Int)) = true := decide_eq_true (by omega)
      have s1 : decide (100 < x) = true := decide_eq_true (by omega)
      clear hx HMD2
      go_enter Try.func6, Try.ntmps6
      go_wp2_with (first | rw [← HW1.out] | rw [← HW2.out] | fail)
      refine HSM.out.mono ?_
      rintro e w3 ⟨rfl, b3⟩
      obtain ⟨⟨q0, q1, q2⟩, q3, q4, q5⟩ := K1.out w3 b3
      have B3 := Lib.hid b3; clear b3
      go_wp2_with fail
      refine (HAW.out _).mono ?_
      rintro e w9 ⟨rfl, b9⟩
      have B9 := Lib.hid (below_then B3.out b9); clear b9
      go_wp2_with fail
      go_ret
      exact ⟨rfl, below_then HB.out B9.out⟩
/-! ### THE ROW's STEP -/
set_option maxRecDepth 100000 in
theorem lifted (os : Os) (started : os.Started) (H : Type) (enc : TypeId × Value → H) :
    ReturnsInHanded {} Try.checked os 6 .any (Rows.splitTwiceSpec.pre6 enc Try.prog Try.f6 Rows.splitTwiceRow.domain false) (Rows.splitTwiceSpec.post enc Try.prog Try.f6 false true false false) := by
  refine returnsInHanded_of_change (C := Try.checked) own started (by kernel_rfl) Try.func6
    (ChangeSpec.witness6 (enc := enc) (C := Try.checked) false ⟨#[], #[.slice none 0 0, .agg #[.slice none 0 0, .slice none 0 0, .bool false], .agg #[.slice none 0 0, .slice none 0 0, .bool false]], []⟩ 8 (by kernel_rfl) (by kernel_rfl) (by kernel_rfl) (by kernel_rfl)) ?_
  intro W base args ds gs before hval0 hW hcnd _
  have hval : ∀ (j : Nat) t v, Try.f6.params[j]? = some t → args[j]? = some v → Value.okWide Try.prog W .any base t v := hval0
  have hW' := hW
  obtain ⟨p, q, hA0, hV, rfl, hfz, hnd⟩ := hW
  have hA : DataW.TrodAll enc Try.prog W 0 (fun _ => true) true Try.f6.params.toList args.toList ds p := hA0
  rw [Try.params6] at hA hval
  obtain ⟨v0, vs0, d0, ds0, p0, q0, hargs, rfl, rfl, h0, r0⟩ := trodAll_cons hA
  obtain ⟨v1, vs1, d1, ds1, p1, q1, rfl, rfl, rfl, h1, r1⟩ := trodAll_cons r0
  obtain ⟨v2, vs2, d2, ds2, p2, q2, rfl, rfl, rfl, h2, r2⟩ := trodAll_cons r1
  obtain ⟨rfl, rfl, rfl⟩ := trodAll_nil r2
  obtain rfl : args = #[v0, v1, v2] := by cases args; simp_all
  obtain ⟨rfl, rfl⟩ := trodVars_none hV
  have lt0 : ∀ x ∈ p0, x.block < W.heap.size := by obtain ⟨m, hm⟩ := h0; exact DataW.trod_lt m _ _ _ hm
  have ok0 := hval 0 22 v0 rfl rfl
  have lt1 : ∀ x ∈ p1, x.block < W.heap.size := by obtain ⟨m, hm⟩ := h1; exact DataW.trod_lt m _ _ _ hm
  have ok1 := hval 1 38 v1 rfl rfl
  have lt2 : ∀ x ∈ p2, x.block < W.heap.size := by obtain ⟨m, hm⟩ := h2; exact DataW.trod_lt m _ _ _ hm
  have ok2 := hval 2 38 v2 rfl rfl
  clear hA0 hval0 hval
  obtain ⟨A0, c0, L0, rfl, hc0, hm0, ha0⟩ := ops_in ok0 h0
  obtain ⟨F1, T1, fc1, tc1, fr1, to1, cl1, rfl, hf1, ht1, hs1⟩ := span_in ok1 h1
  obtain ⟨F2, T2, fc2, tc2, fr2, to2, cl2, rfl, hf2, ht2, hs2⟩ := span_in ok2 h2
  refine (walk W hc0 hm0 ha0 hf1 ht1 hs1 hf2 ht2 hs2).mono fun e W' ⟨he, bel⟩ => ?_
  subst he
  exact ⟨_, rfl, _, _, _, [], _, [], hW', trodAll_mk1 (shut_bool Try.underlying4 _), (trodAll_cons_mk (Below.trod laidOut (by kernel_rfl) (of_decide_eq_true (by kernel_rfl)) h0 bel lt0) (trodAll_cons_mk (Below.trod laidOut (by kernel_rfl) (of_decide_eq_true (by kernel_rfl)) h1 bel lt1) (trodAll_cons_mk (Below.trod laidOut (by kernel_rfl) (of_decide_eq_true (by kernel_rfl)) h2 bel lt2) trodAll_mk0))), rfl, bel.frame _, fun h => by cases h⟩

theorem over : Rows.splitTwiceRow.holds Try.pinned (OpenSpec.ofChange Rows.splitTwiceSpec) :=
  OpenClaim.holds_of_wide 6 Try.f6 rfl rfl rfl rfl rfl rfl rfl ⟨rfl, rfl, rfl, rfl, rfl⟩ rfl rfl rfl rfl rfl (by kernel_rfl) Try.func6 (by kernel_rfl)
    (of_decide_eq_true (by kernel_rfl)) (by unfold Func.isWrapper; first | (rw [if_pos (by decide +kernel)]; kernel_rfl) | (rw [if_neg (by decide +kernel)]; exact ⟨rfl, rfl⟩))
    (fun os started H enc _ => lifted os started H enc)

/-- ████ THE STATEMENT ████ -/
theorem proved : Rows.SplitTwiceSaid := over
#print axioms proved
end Go.Proofs.Ythkecgafdjpddaa.splitTwice
