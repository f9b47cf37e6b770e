/-
  MeterCounts: for every input the law answers true and leaves its arguments as they were: the walk is typed by hand, the row's step is the guide's template.
  Conditions: none beside the row's own.
-/
import Derived.Test.YtlpngoaachdjhaaOpen
import Derived.Laws.StructEq
import Derived.ChangeKeysEq
import Derived.Test.YtlpngoaachdjhaaOpen
import Derived.Test.YtlpngoaachdjhaaRows
import Derived.WalkKit
import Derived.ProofKit
import Derived.OpenShut
import Derived.ShutString
import Derived.ChangeOld
import Derived.Below
namespace Go.Proofs.Ytlpngoaachdjhaa.meterCounts
open Go.ChangeShapes Go.WideShapes Go.ChangeAt Go.RowKit
set_option linter.unusedVariables false
theorem own : ownKnob Try.prog.godebug = none := by kernel_rfl
theorem laidOut : laidOutB Try.prog = true := by kernel_rfl
theorem bel_then {B : Nat} {w a b : World} (h : Below B w a) (hB : B ≤ w.heap.size) (k : Below a.heap.size a b) : Below B w b := h.trans (k.mono (Nat.le_trans hB h.size))
theorem run_eql_meter (w : World) (a b : Int) : (binOp .eql 27 (.agg #[.int .i64 a, .int .i64 b]) (.agg #[.int .i64 a, .int .i64 b])).run Try.prog w = .ok (.bool true) w := by
  have u3 := Try.underlying3
  have a3 := Try.isAgg3
  have z3 := Try.sizeOf3
  have hS : Try.prog.underlying 27 = some (.struct (Try.prog.fieldsOf 27)) := by kernel_rfl
  have hp : Try.prog.stoodInHeld 27 = false := by kernel_rfl
  rw [run_eql_struct, show (10000 : Nat) = 9999 + 1 from rfl, run_equalIn_agg w 9999 27 _ _ hS hp]
  simp only [Program.fieldsOf, Try.underlying27]
  go_simp
theorem run_guard_meter (w : World) (x y : Operand) (a b c d : Int) : (eqGuard .eql 27 x y (.agg #[.int .i64 a, .int .i64 b]) (.agg #[.int .i64 c, .int .i64 d])).run Try.prog w = .ok () w :=
  run_eqGuard_agg w .eql 27 x y _ _ (by kernel_rfl)
set_option maxRecDepth 100000 in
set_option maxHeartbeats 4000000 in
theorem walk {A0 : Option Addr} {c0 : Nat} {L0 : List (List UInt8)} {z1 : Int} (w : World) (hc0 : L0.length ≤ c0) (hm0 : c0 ≤ maxLen) (ha0 : Lists w A0 L0) (hl1 : -9223372036854775808 ≤ z1) (hu1 : z1 ≤ 9223372036854775807) :
    Calls Try.prog 4 #[.slice A0 L0.length c0, .int .i64 z1] w fun e w' => e = .returned (.bool true) ∧ Below w.heap.size w w' := by
  have HAW := Lib.hid awake_any
  have HL0 := Lib.hid ha0; clear ha0
  by_cases hbig : 100 < L0.length
  · clear hc0 hm0 hl1 hu1
    go_enter Try.func4, Try.ntmps4
    go_wp2_with fail
    refine (HAW.out _).mono ?_
    rintro e w2 ⟨rfl, rfl⟩
    go_wp2_with fail
    go_ret
    exact ⟨rfl, Below.refl _ _⟩
  · have hlen : L0.length ≤ 100 := by omega
    clear hbig hm0
    have hb0 : Below w.heap.size w (w.alloc (.cells #[.int .i64 0, .int .i64 0] 27)) := (Below.refl _ _).alloc (Nat.le_refl _) _
    have hm0 : Mtr (w.alloc (.cells #[.int .i64 0, .int .i64 0] 27)) w.heap.size 0 0 := heap_alloc_new w _
    have HB0 := Lib.hid hb0; clear hb0
    have HM0 := Lib.hid hm0; clear hm0
    go_enter Try.func4, Try.ntmps4
    go_wp2_with fail
    go_loopw [7, 8, 9] (fun vi co i wr => ∃ j v c : Nat, i = .int .i64 j ∧ vi = .int .i64 v ∧ co = .int .i64 c ∧ 1 ≤ j ∧ j ≤ L0.length + 1 ∧ v ≤ 200 ∧ c ≤ 200 ∧ Hid (v ≤ j ∧ c ≤ j) ∧ Hid (Mtr wr w.heap.size v c) ∧ Hid (Below w.heap.size w wr)) (fun _ _ i _ => L0.length - (intOf i).toNat)
    case atStart => exact ⟨1, 0, 0, rfl, rfl, rfl, by omega, by omega, by omega, by omega, ⟨by omega, by omega⟩, HM0.out, HB0.out⟩
    case round =>
      obtain ⟨j, v, c, rfl, rfl, rfl, hj1, hj, hv, hc, hvc, hM, hB⟩ := hrel
      by_cases hlt : j < L0.length
      · obtain ⟨p, hp⟩ : ∃ p, j = p + 1 := ⟨j - 1, by omega⟩
        have ep : (j : Int) - 1 = (p : Int) := by omega
        have hpl : p < L0.length := by omega
        have hi1 : (p : Int) < (L0.length : Int) := by omega
        have hi2 : (j : Int) < (L0.length : Int) := by omega
        obtain ⟨b, off, a1, c1, rfl, hall1⟩ := HL0.out.at_ p hpl
        obtain ⟨b', off', a2, c2, hA', hall2⟩ := HL0.out.at_ j hlt
        obtain ⟨rfl, rfl⟩ : b = b' ∧ off = off' := by simpa using hA'
        obtain ⟨m1, hm1⟩ : ∃ m, m = L0[p] := ⟨_, rfl⟩
        obtain ⟨m2, hm2⟩ : ∃ m, m = L0[j] := ⟨_, rfl⟩
        rw [← hm1] at hall1
        rw [← hm2] at hall2
        have q1 : ∀ q, (wr.drewN q).cell? ⟨b, off + p, none⟩ = some (.slice a1 m1.length c1) := fun q => (hall1 _ (below_drewN hB.out q)).1
        have q2 : ∀ q, (wr.drewN q).cell? ⟨b, off + j, none⟩ = some (.slice a2 m2.length c2) := fun q => (hall2 _ (below_drewN hB.out q)).1
        have q3 : wr.cell? ⟨b, off + p, none⟩ = some (.slice a1 m1.length c1) := (hall1 _ hB.out).1
        have q4 : wr.cell? ⟨b, off + j, none⟩ = some (.slice a2 m2.length c2) := (hall2 _ hB.out).1
        have HBT : Hid (∀ W, Below w.heap.size w W → Bts W a1 m1 ∧ Bts W a2 m2) := fun W h => ⟨(hall1 W h).2, (hall2 W h).2⟩
        have HJ := Lib.hid hp; clear hp
        clear hm1 hm2 hall1 hall2 HL0 hA'
        by_cases hs1 : 50 < m1.length
        · go_wp2_with fail
          go_quiet (fail)
          go_wp2_with fail
          refine (HAW.out _).mono ?_
          rintro e w2 ⟨rfl, rfl⟩
          go_wp2_with fail
          go_ret
          exact ⟨rfl, below_drewN hB.out _⟩
        · by_cases hs2 : 50 < m2.length
          · go_wp2_with fail
            go_quiet (fail)
            go_wp2_with fail
            refine (HAW.out _).mono ?_
            rintro e w2 ⟨rfl, rfl⟩
            go_wp2_with fail
            go_ret
            exact ⟨rfl, below_drewN hB.out _⟩
          · have hs3 : m1.length ≤ 50 := by omega
            have hs4 : m2.length ≤ 50 := by omega
            clear hs1 hs2
            obtain ⟨s1, es1⟩ : ∃ s : ByteArray, s = ⟨m1.toArray⟩ := ⟨_, rfl⟩
            obtain ⟨s2, es2⟩ : ∃ s : ByteArray, s = ⟨m2.toArray⟩ := ⟨_, rfl⟩
            have hl1 : ∀ W, Calls Try.prog 10 #[.string s1, .string s2] W fun e w' => e = .returned (.bool (decide (cmp m1 m2 < 0))) ∧ Below W.heap.size W w' := fun W => by
              have h := less_any s1 s2 W (by rw [es1]; simp [ByteArray.size]; omega) (by rw [es2]; simp [ByteArray.size]; omega)
              rw [es1, es2] at h ⊢
              exact h
            have hl2 : ∀ W, Calls Try.prog 10 #[.string s2, .string s1] W fun e w' => e = .returned (.bool (decide (cmp m2 m1 < 0))) ∧ Below W.heap.size W w' := fun W => by
              have h := less_any s2 s1 W (by rw [es2]; simp [ByteArray.size]; omega) (by rw [es1]; simp [ByteArray.size]; omega)
              rw [es1, es2] at h ⊢
              exact h
            have hcv : ∀ W, Below w.heap.size w W → (convert 29 9 (.slice a1 m1.length c1)).run Try.prog W = .ok (.string s1) W ∧ (convert 29 9 (.slice a2 m2.length c2)).run Try.prog W = .ok (.string s2) W := fun W h => by
              rw [es1, es2]
              exact ⟨conv_any (HBT.out W h).1 c1, conv_any (HBT.out W h).2 c2⟩
            clear es1 es2
            obtain ⟨x, hx⟩ : ∃ x, x = c + 1 := ⟨_, rfl⟩
            obtain ⟨y, hy⟩ : ∃ x, x = v + 1 := ⟨_, rfl⟩
            have honly : ∀ W W', Below w.heap.size w W → Only w.heap.size W W' → Below w.heap.size w W' := fun W W' h k => h.trans (k.below h.size (Nat.le_refl _))
            have hmc : ∀ W, Mtr W w.heap.size v c → Below w.heap.size w W → Calls Try.prog 11 #[.pointer (some ⟨w.heap.size, 0, none⟩), .slice a1 m1.length c1, .slice a2 m2.length c2] W fun e w' => e = .returned (.int .i64 (cmp m1 m2)) ∧ Mtr w' w.heap.size v x ∧ Below w.heap.size w w' := fun W h k =>
              (mcompare_any h (by omega) x hx c1 c2 (fun w' o => HBT.out w' (honly W w' k o))).mono fun e w' ⟨h1, h2, h3⟩ => ⟨h1, h2, honly W w' k h3⟩
            have hnc : ∀ W, Below w.heap.size w W → Calls Try.prog 11 #[.pointer none, .slice a1 m1.length c1, .slice a2 m2.length c2] W fun e w' => e = .returned (.int .i64 (cmp m1 m2)) ∧ W = w' := fun W h => mcompare_nil (HBT.out W h).1 (HBT.out W h).2 c1 c2
            have hvs : ∀ W, Mtr W w.heap.size v x → Below w.heap.size w W → Calls Try.prog 12 #[.pointer (some ⟨w.heap.size, 0, none⟩)] W fun e w' => e = .returned (.tuple #[]) ∧ Mtr w' w.heap.size y x ∧ Below w.heap.size w w' := fun W h k =>
              (visit_any h (by omega) y hy).mono fun e w' ⟨h1, h2, h3⟩ => ⟨h1, h2, honly W w' k h3⟩
            have HVN := Lib.hid visit_nil
            have HCV := Lib.hid hcv; clear hcv
            have HVS := Lib.hid hvs; clear hvs
            have HX := Lib.hid hx; clear hx
            have HY := Lib.hid hy; clear hy
            clear honly HBT
            have hturn := cmp_turn m1 m2
            obtain ⟨cc, hcc⟩ : ∃ z, z = cmp m1 m2 := ⟨_, rfl⟩
            obtain ⟨cd, hcd⟩ : ∃ z, z = cmp m2 m1 := ⟨_, rfl⟩
            have hrange := cmp_range m1 m2
            rw [← hcc] at hrange
            rw [← hcc, ← hcd] at hturn
            simp only [← hcc] at hl1 hmc hnc
            simp only [← hcd] at hl2
            clear hcc hcd
            rcases hrange with hr | hr | hr
            · subst hr
              obtain rfl : cd = 1 := by omega
              have t1 : decide ((-1 : Int) < 0) = true := by decide
              have t2 : decide ((1 : Int) < 0) = false := by decide
              simp only [t1] at hl1
              simp only [t2] at hl2
              have HL1 := Lib.hid hl1; clear hl1
              have HL2 := Lib.hid hl2; clear hl2
              have HMC := Lib.hid hmc; clear hmc
              have HNC := Lib.hid hnc; clear hnc
              clear t1 t2 hturn
              rcases Nat.mod_two_eq_zero_or_one m1.length with hpar | hpar
              · have p1 : ((m1.length : Nat) : Int).tmod 2 = 0 := by rw [Int.tmod_eq_emod_of_nonneg (by omega)]; omega
                have p2 : ((m1.length : Nat) : Int) % 2 = 0 := by omega
                clear hpar
                obtain ⟨k1, k2⟩ : (∀ q, (convert 29 9 (.slice a1 m1.length c1)).run Try.prog (wr.drewN q) = .ok (.string s1) (wr.drewN q)) ∧ (∀ q, (convert 29 9 (.slice a2 m2.length c2)).run Try.prog (wr.drewN q) = .ok (.string s2) (wr.drewN q)) := ⟨fun q => (HCV.out _ (below_drewN hB.out q)).1, fun q => (HCV.out _ (below_drewN hB.out q)).2⟩
                go_wp2_with fail
                go_quiet (fail)
                go_wp2_with fail
                refine (HL1.out _).mono ?_
                rintro e w2 ⟨rfl, h2⟩
                have HM2 := Lib.hid ((hM.out.drew _).below h2)
                have HB2 := Lib.hid (bel_then (below_drewN hB.out _) (Nat.le_refl _) h2); clear h2
                clear k1 k2
                obtain ⟨k1, k2⟩ := HCV.out _ HB2.out
                go_wp2_with fail
                refine (HL2.out _).mono ?_
                rintro e w3 ⟨rfl, h3⟩
                have HM3 := Lib.hid (HM2.out.below h3)
                have HB3 := Lib.hid (bel_then HB2.out (Nat.le_refl _) h3); clear h3
                clear k1 k2
                go_wp2_with fail
                refine (HMC.out _ HM3.out HB3.out).mono ?_
                rintro e w4 ⟨rfl, m4, b4⟩
                have HM4 := Lib.hid m4; clear m4
                have HB4 := Lib.hid b4; clear b4
                go_wp2_with fail
                refine (HNC.out _ HB4.out).mono ?_
                rintro e w' ⟨rfl, rfl⟩
                go_wp2_with fail
                refine (HVS.out _ HM4.out HB4.out).mono ?_
                rintro e w5 ⟨rfl, m5, b5⟩
                have HM5 := Lib.hid m5; clear m5
                have HB5 := Lib.hid b5; clear b5
                go_wp2_with fail
                refine (HVN.out _).mono ?_
                rintro e w' ⟨rfl, rfl⟩
                go_wp2_with fail
                go_roundw
                case rel => exact ⟨j + 1, v + 1, c + 1, by go_num, by go_num, by go_num, by omega, by omega, by have := hvc.out; omega, by have := hvc.out; omega, ⟨by have := hvc.out; omega, by have := hvc.out; omega⟩, by rw [← HX.out, ← HY.out]; exact HM5.out, HB5.out⟩
                case measure => simp [intOf]; omega
              · have p1 : ((m1.length : Nat) : Int).tmod 2 = 1 := by rw [Int.tmod_eq_emod_of_nonneg (by omega)]; omega
                have p2 : ((m1.length : Nat) : Int) % 2 = 1 := by omega
                clear hpar
                obtain ⟨k1, k2⟩ : (∀ q, (convert 29 9 (.slice a1 m1.length c1)).run Try.prog (wr.drewN q) = .ok (.string s1) (wr.drewN q)) ∧ (∀ q, (convert 29 9 (.slice a2 m2.length c2)).run Try.prog (wr.drewN q) = .ok (.string s2) (wr.drewN q)) := ⟨fun q => (HCV.out _ (below_drewN hB.out q)).1, fun q => (HCV.out _ (below_drewN hB.out q)).2⟩
                go_wp2_with fail
                go_quiet (fail)
                go_wp2_with fail
                refine (HL1.out _).mono ?_
                rintro e w2 ⟨rfl, h2⟩
                have HM2 := Lib.hid ((hM.out.drew _).below h2)
                have HB2 := Lib.hid (bel_then (below_drewN hB.out _) (Nat.le_refl _) h2); clear h2
                clear k1 k2
                obtain ⟨k1, k2⟩ := HCV.out _ HB2.out
                go_wp2_with fail
                refine (HL2.out _).mono ?_
                rintro e w3 ⟨rfl, h3⟩
                have HM3 := Lib.hid (HM2.out.below h3)
                have HB3 := Lib.hid (bel_then HB2.out (Nat.le_refl _) h3); clear h3
                clear k1 k2
                go_wp2_with fail
                refine (HMC.out _ HM3.out HB3.out).mono ?_
                rintro e w4 ⟨rfl, m4, b4⟩
                have HM4 := Lib.hid m4; clear m4
                have HB4 := Lib.hid b4; clear b4
                go_wp2_with fail
                refine (HNC.out _ HB4.out).mono ?_
                rintro e w' ⟨rfl, rfl⟩
                go_wp2_with fail
                go_roundw
                case rel => exact ⟨j + 1, v, c + 1, by go_num, rfl, by go_num, by omega, by omega, by have := hvc.out; omega, by have := hvc.out; omega, ⟨by have := hvc.out; omega, by have := hvc.out; omega⟩, by rw [← HX.out]; exact HM4.out, HB4.out⟩
                case measure => simp [intOf]; omega
            · subst hr
              obtain rfl : cd = 0 := by omega
              have t1 : decide ((0 : Int) < 0) = false := by decide
              have t2 : decide ((0 : Int) < 0) = false := by decide
              simp only [t1] at hl1
              simp only [t2] at hl2
              have HL1 := Lib.hid hl1; clear hl1
              have HL2 := Lib.hid hl2; clear hl2
              have HMC := Lib.hid hmc; clear hmc
              have HNC := Lib.hid hnc; clear hnc
              clear t1 t2 hturn
              rcases Nat.mod_two_eq_zero_or_one m1.length with hpar | hpar
              · have p1 : ((m1.length : Nat) : Int).tmod 2 = 0 := by rw [Int.tmod_eq_emod_of_nonneg (by omega)]; omega
                have p2 : ((m1.length : Nat) : Int) % 2 = 0 := by omega
                clear hpar
                obtain ⟨k1, k2⟩ : (∀ q, (convert 29 9 (.slice a1 m1.length c1)).run Try.prog (wr.drewN q) = .ok (.string s1) (wr.drewN q)) ∧ (∀ q, (convert 29 9 (.slice a2 m2.length c2)).run Try.prog (wr.drewN q) = .ok (.string s2) (wr.drewN q)) := ⟨fun q => (HCV.out _ (below_drewN hB.out q)).1, fun q => (HCV.out _ (below_drewN hB.out q)).2⟩
                go_wp2_with fail
                go_quiet (fail)
                go_wp2_with fail
                refine (HL1.out _).mono ?_
                rintro e w2 ⟨rfl, h2⟩
                have HM2 := Lib.hid ((hM.out.drew _).below h2)
                have HB2 := Lib.hid (bel_then (below_drewN hB.out _) (Nat.le_refl _) h2); clear h2
                clear k1 k2
                obtain ⟨k1, k2⟩ := HCV.out _ HB2.out
                go_wp2_with fail
                refine (HL2.out _).mono ?_
                rintro e w3 ⟨rfl, h3⟩
                have HM3 := Lib.hid (HM2.out.below h3)
                have HB3 := Lib.hid (bel_then HB2.out (Nat.le_refl _) h3); clear h3
                clear k1 k2
                go_wp2_with fail
                refine (HMC.out _ HM3.out HB3.out).mono ?_
                rintro e w4 ⟨rfl, m4, b4⟩
                have HM4 := Lib.hid m4; clear m4
                have HB4 := Lib.hid b4; clear b4
                go_wp2_with fail
                refine (HNC.out _ HB4.out).mono ?_
                rintro e w' ⟨rfl, rfl⟩
                go_wp2_with fail
                refine (HVS.out _ HM4.out HB4.out).mono ?_
                rintro e w5 ⟨rfl, m5, b5⟩
                have HM5 := Lib.hid m5; clear m5
                have HB5 := Lib.hid b5; clear b5
                go_wp2_with fail
                refine (HVN.out _).mono ?_
                rintro e w' ⟨rfl, rfl⟩
                go_wp2_with fail
                go_roundw
                case rel => exact ⟨j + 1, v + 1, c + 1, by go_num, by go_num, by go_num, by omega, by omega, by have := hvc.out; omega, by have := hvc.out; omega, ⟨by have := hvc.out; omega, by have := hvc.out; omega⟩, by rw [← HX.out, ← HY.out]; exact HM5.out, HB5.out⟩
                case measure => simp [intOf]; omega
              · have p1 : ((m1.length : Nat) : Int).tmod 2 = 1 := by rw [Int.tmod_eq_emod_of_nonneg (by omega)]; omega
                have p2 : ((m1.length : Nat) : Int) % 2 = 1 := by omega
                clear hpar
                obtain ⟨k1, k2⟩ : (∀ q, (convert 29 9 (.slice a1 m1.length c1)).run Try.prog (wr.drewN q) = .ok (.string s1) (wr.drewN q)) ∧ (∀ q, (convert 29 9 (.slice a2 m2.length c2)).run Try.prog (wr.drewN q) = .ok (.string s2) (wr.drewN q)) := ⟨fun q => (HCV.out _ (below_drewN hB.out q)).1, fun q => (HCV.out _ (below_drewN hB.out q)).2⟩
                go_wp2_with fail
                go_quiet (fail)
                go_wp2_with fail
                refine (HL1.out _).mono ?_
                rintro e w2 ⟨rfl, h2⟩
                have HM2 := Lib.hid ((hM.out.drew _).below h2)
                have HB2 := Lib.hid (bel_then (below_drewN hB.out _) (Nat.le_refl _) h2); clear h2
                clear k1 k2
                obtain ⟨k1, k2⟩ := HCV.out _ HB2.out
                go_wp2_with fail
                refine (HL2.out _).mono ?_
                rintro e w3 ⟨rfl, h3⟩
                have HM3 := Lib.hid (HM2.out.below h3)
                have HB3 := Lib.hid (bel_then HB2.out (Nat.le_refl _) h3); clear h3
                clear k1 k2
                go_wp2_with fail
                refine (HMC.out _ HM3.out HB3.out).mono ?_
                rintro e w4 ⟨rfl, m4, b4⟩
                have HM4 := Lib.hid m4; clear m4
                have HB4 := Lib.hid b4; clear b4
                go_wp2_with fail
                refine (HNC.out _ HB4.out).mono ?_
                rintro e w' ⟨rfl, rfl⟩
                go_wp2_with fail
                go_roundw
                case rel => exact ⟨j + 1, v, c + 1, by go_num, rfl, by go_num, by omega, by omega, by have := hvc.out; omega, by have := hvc.out; omega, ⟨by have := hvc.out; omega, by have := hvc.out; omega⟩, by rw [← HX.out]; exact HM4.out, HB4.out⟩
                case measure => simp [intOf]; omega
            · subst hr
              obtain rfl : cd = -1 := by omega
              have t1 : decide ((1 : Int) < 0) = false := by decide
              have t2 : decide ((-1 : Int) < 0) = true := by decide
              simp only [t1] at hl1
              simp only [t2] at hl2
              have HL1 := Lib.hid hl1; clear hl1
              have HL2 := Lib.hid hl2; clear hl2
              have HMC := Lib.hid hmc; clear hmc
              have HNC := Lib.hid hnc; clear hnc
              clear t1 t2 hturn
              rcases Nat.mod_two_eq_zero_or_one m1.length with hpar | hpar
              · have p1 : ((m1.length : Nat) : Int).tmod 2 = 0 := by rw [Int.tmod_eq_emod_of_nonneg (by omega)]; omega
                have p2 : ((m1.length : Nat) : Int) % 2 = 0 := by omega
                clear hpar
                obtain ⟨k1, k2⟩ : (∀ q, (convert 29 9 (.slice a1 m1.length c1)).run Try.prog (wr.drewN q) = .ok (.string s1) (wr.drewN q)) ∧ (∀ q, (convert 29 9 (.slice a2 m2.length c2)).run Try.prog (wr.drewN q) = .ok (.string s2) (wr.drewN q)) := ⟨fun q => (HCV.out _ (below_drewN hB.out q)).1, fun q => (HCV.out _ (below_drewN hB.out q)).2⟩
                go_wp2_with fail
                go_quiet (fail)
                go_wp2_with fail
                refine (HL1.out _).mono ?_
                rintro e w2 ⟨rfl, h2⟩
                have HM2 := Lib.hid ((hM.out.drew _).below h2)
                have HB2 := Lib.hid (bel_then (below_drewN hB.out _) (Nat.le_refl _) h2); clear h2
                clear k1 k2
                obtain ⟨k1, k2⟩ := HCV.out _ HB2.out
                go_wp2_with fail
                refine (HL2.out _).mono ?_
                rintro e w3 ⟨rfl, h3⟩
                have HM3 := Lib.hid (HM2.out.below h3)
                have HB3 := Lib.hid (bel_then HB2.out (Nat.le_refl _) h3); clear h3
                clear k1 k2
                go_wp2_with fail
                refine (HMC.out _ HM3.out HB3.out).mono ?_
                rintro e w4 ⟨rfl, m4, b4⟩
                have HM4 := Lib.hid m4; clear m4
                have HB4 := Lib.hid b4; clear b4
                go_wp2_with fail
                refine (HNC.out _ HB4.out).mono ?_
                rintro e w' ⟨rfl, rfl⟩
                go_wp2_with fail
                refine (HVS.out _ HM4.out HB4.out).mono ?_
                rintro e w5 ⟨rfl, m5, b5⟩
                have HM5 := Lib.hid m5; clear m5
                have HB5 := Lib.hid b5; clear b5
                go_wp2_with fail
                refine (HVN.out _).mono ?_
                rintro e w' ⟨rfl, rfl⟩
                go_wp2_with fail
                go_roundw
                case rel => exact ⟨j + 1, v + 1, c + 1, by go_num, by go_num, by go_num, by omega, by omega, by have := hvc.out; omega, by have := hvc.out; omega, ⟨by have := hvc.out; omega, by have := hvc.out; omega⟩, by rw [← HX.out, ← HY.out]; exact HM5.out, HB5.out⟩
                case measure => simp [intOf]; omega
              · have p1 : ((m1.length : Nat) : Int).tmod 2 = 1 := by rw [Int.tmod_eq_emod_of_nonneg (by omega)]; omega
                have p2 : ((m1.length : Nat) : Int) % 2 = 1 := by omega
                clear hpar
                obtain ⟨k1, k2⟩ : (∀ q, (convert 29 9 (.slice a1 m1.length c1)).run Try.prog (wr.drewN q) = .ok (.string s1) (wr.drewN q)) ∧ (∀ q, (convert 29 9 (.slice a2 m2.length c2)).run Try.prog (wr.drewN q) = .ok (.string s2) (wr.drewN q)) := ⟨fun q => (HCV.out _ (below_drewN hB.out q)).1, fun q => (HCV.out _ (below_drewN hB.out q)).2⟩
                go_wp2_with fail
                go_quiet (fail)
                go_wp2_with fail
                refine (HL1.out _).mono ?_
                rintro e w2 ⟨rfl, h2⟩
                have HM2 := Lib.hid ((hM.out.drew _).below h2)
                have HB2 := Lib.hid (bel_then (below_drewN hB.out _) (Nat.le_refl _) h2); clear h2
                clear k1 k2
                obtain ⟨k1, k2⟩ := HCV.out _ HB2.out
                go_wp2_with fail
                refine (HL2.out _).mono ?_
                rintro e w3 ⟨rfl, h3⟩
                have HM3 := Lib.hid (HM2.out.below h3)
                have HB3 := Lib.hid (bel_then HB2.out (Nat.le_refl _) h3); clear h3
                clear k1 k2
                go_wp2_with fail
                refine (HMC.out _ HM3.out HB3.out).mono ?_
                rintro e w4 ⟨rfl, m4, b4⟩
                have HM4 := Lib.hid m4; clear m4
                have HB4 := Lib.hid b4; clear b4
                go_wp2_with fail
                refine (HNC.out _ HB4.out).mono ?_
                rintro e w' ⟨rfl, rfl⟩
                go_wp2_with fail
                go_roundw
                case rel => exact ⟨j + 1, v, c + 1, by go_num, rfl, by go_num, by omega, by omega, by have := hvc.out; omega, by have := hvc.out; omega, ⟨by have := hvc.out; omega, by have := hvc.out; omega⟩, by rw [← HX.out]; exact HM4.out, HB4.out⟩
                case measure => simp [intOf]; omega
      · obtain ⟨b, hb⟩ : ∃ b, b = bnd z1 := ⟨_, rfl⟩
        obtain ⟨k, hk⟩ : ∃ k, k = held z1 := ⟨_, rfl⟩
        have h8 := fun W => held_any z1 W
        have h7 := fun W => refBnd_any z1 W
        have h13 := fun W (h : Mtr W w.heap.size v c) => within_any h z1 b hb
        have hwn := fun W => within_nil W z1
        simp only [← hk] at h8 h7
        simp only [← hb] at h7
        have H8 := Lib.hid h8; clear h8
        have H7 := Lib.hid h7; clear h7
        have HWN := Lib.hid hwn; clear hwn
        have heq := fun W => run_eql_meter W (v : Int) (c : Int)
        have hgd := fun W x y => run_guard_meter W x y (v : Int) (c : Int) (v : Int) (c : Int)
        clear hb hk hl1 hu1 HL0 hj hj1 hlen hvc
        rcases Int.lt_or_le (b : Int) (v : Int) with h1 | h1
        · have d1 : decide ((v : Int) ≤ (b : Int)) = false := by rw [decide_eq_false_iff_not]; omega
          unfold inB at h13
          simp only [d1, Bool.false_and] at h13
          have H13 := Lib.hid h13; clear h13
          go_wp2_with fail
          refine (H8.out _).mono ?_
          rintro e w' ⟨rfl, rfl⟩
          go_wp2_with fail
          refine (H7.out _).mono ?_
          rintro e wB ⟨rfl, h2⟩
          have HMB := Lib.hid (hM.out.below h2)
          have HBB := Lib.hid (bel_then hB.out (Nat.le_refl _) h2); clear h2
          obtain ⟨g0, g1, _, _⟩ := HMB.out.cells
          go_wp2_with fail
          refine (H13.out _ HMB.out).mono ?_
          rintro e w3 ⟨rfl, n3, rfl⟩
          clear g0 g1
          go_wp2_with fail
          refine (HWN.out _).mono ?_
          rintro e w4 ⟨rfl, n4, rfl⟩
          go_wp2_with fail
          refine (HAW.out _).mono ?_
          rintro e w5 ⟨rfl, rfl⟩
          go_wp2_with fail
          go_ret
          exact ⟨rfl, below_drewN HBB.out _⟩
        · have d1 : decide ((v : Int) ≤ (b : Int)) = true := by rw [decide_eq_true_iff]; omega
          rcases Int.lt_or_le (v : Int) (c : Int) with h2 | h2
          · have d2 : decide ((c : Int) ≤ (v : Int)) = false := by rw [decide_eq_false_iff_not]; omega
            have d3 : decide (c ≤ v) = false := by rw [decide_eq_false_iff_not]; omega
            unfold inB at h13
            simp only [d1, d2, Bool.true_and] at h13
            have H13 := Lib.hid h13; clear h13
            go_wp2_with fail
            refine (H8.out _).mono ?_
            rintro e w' ⟨rfl, rfl⟩
            go_wp2_with fail
            refine (H7.out _).mono ?_
            rintro e wB ⟨rfl, h2⟩
            have HMB := Lib.hid (hM.out.below h2)
            have HBB := Lib.hid (bel_then hB.out (Nat.le_refl _) h2); clear h2
            obtain ⟨g0, g1, _, _⟩ := HMB.out.cells
            go_wp2_with fail
            refine (H13.out _ HMB.out).mono ?_
            rintro e w3 ⟨rfl, n3, rfl⟩
            clear g0 g1
            go_wp2_with fail
            refine (HWN.out _).mono ?_
            rintro e w4 ⟨rfl, n4, rfl⟩
            go_wp2_with fail
            refine (HAW.out _).mono ?_
            rintro e w5 ⟨rfl, rfl⟩
            go_wp2_with fail
            go_ret
            exact ⟨rfl, below_drewN HBB.out _⟩
          · have d2 : decide ((c : Int) ≤ (v : Int)) = true := by rw [decide_eq_true_iff]; omega
            have d3 : decide (c ≤ v) = true := by rw [decide_eq_true_iff]; omega
            unfold inB at h13
            simp only [d1, d2, Bool.true_and] at h13
            have H13 := Lib.hid h13; clear h13
            go_wp2_with fail
            refine (H8.out _).mono ?_
            rintro e w' ⟨rfl, rfl⟩
            go_wp2_with fail
            refine (H7.out _).mono ?_
            rintro e wB ⟨rfl, h2⟩
            have HMB := Lib.hid (hM.out.below h2)
            have HBB := Lib.hid (bel_then hB.out (Nat.le_refl _) h2); clear h2
            obtain ⟨g0, g1, _, _⟩ := HMB.out.cells
            go_wp2_with fail
            refine (H13.out _ HMB.out).mono ?_
            rintro e w3 ⟨rfl, n3, rfl⟩
            clear g0 g1
            go_wp2_with fail
            refine (HWN.out _).mono ?_
            rintro e w4 ⟨rfl, n4, rfl⟩
            go_wp2_with fail
            refine (HAW.out _).mono ?_
            rintro e w5 ⟨rfl, rfl⟩
            go_wp2_with fail
            go_ret
            exact ⟨rfl, below_drewN HBB.out _⟩
/-! ### THE ROW's STEP -/
set_option maxRecDepth 100000 in
theorem lifted (os : Os) (started : os.Started) (H : Type) (enc : TypeId × Value → H) :
    ReturnsInHanded {} Try.checked os 4 .any (Rows.meterCountsSpec.pre6 enc Try.prog Try.f4 Rows.meterCountsRow.domain false) (Rows.meterCountsSpec.post enc Try.prog Try.f4 false true false false) := by
  refine returnsInHanded_of_change (C := Try.checked) own started (by kernel_rfl) Try.func4
    (ChangeSpec.witness6 (enc := enc) (C := Try.checked) false ⟨#[], #[.slice none 0 0, .int .i64 0], []⟩ 8 (by kernel_rfl) (by kernel_rfl) (by kernel_rfl) (by kernel_rfl)) ?_
  intro W base args ds gs before hval0 hW hcnd _
  have hval : ∀ (j : Nat) t v, Try.f4.params[j]? = some t → args[j]? = some v → Value.okWide Try.prog W .any base t v := hval0
  have hW' := hW
  obtain ⟨p, q, hA0, hV, rfl, hfz, hnd⟩ := hW
  have hA : DataW.TrodAll enc Try.prog W 0 (fun _ => true) true Try.f4.params.toList args.toList ds p := hA0
  rw [Try.params4] at hA hval
  obtain ⟨v0, vs0, d0, ds0, p0, q0, hargs, rfl, rfl, h0, r0⟩ := trodAll_cons hA
  obtain ⟨v1, vs1, d1, ds1, p1, q1, rfl, rfl, rfl, h1, r1⟩ := trodAll_cons r0
  obtain ⟨rfl, rfl, rfl⟩ := trodAll_nil r1
  obtain rfl : args = #[v0, v1] := by cases args; simp_all
  obtain ⟨rfl, rfl⟩ := trodVars_none hV
  have lt0 : ∀ x ∈ p0, x.block < W.heap.size := by obtain ⟨m, hm⟩ := h0; exact DataW.trod_lt m _ _ _ hm
  have ok0 := hval 0 25 v0 rfl rfl
  have lt1 : ∀ x ∈ p1, x.block < W.heap.size := by obtain ⟨m, hm⟩ := h1; exact DataW.trod_lt m _ _ _ hm
  have ok1 := hval 1 3 v1 rfl rfl
  clear hA0 hval0 hval
  obtain ⟨A0, c0, L0, rfl, hc0, hm0, ha0⟩ := lists_open ok0 h0
  obtain ⟨z1, rfl, hl1, hu1⟩ := int_open ok1 h1
  refine (walk W hc0 hm0 ha0 hl1 hu1).mono fun e W' ⟨he, bel⟩ => ?_
  subst he
  exact ⟨_, rfl, _, _, _, [], _, [], hW', trodAll_mk1 (shut_bool Try.underlying4 _), (trodAll_cons_mk (Below.trod laidOut (by kernel_rfl) (of_decide_eq_true (by kernel_rfl)) h0 bel lt0) (trodAll_cons_mk (Below.trod laidOut (by kernel_rfl) (of_decide_eq_true (by kernel_rfl)) h1 bel lt1) trodAll_mk0)), rfl, bel.frame _, fun h => by cases h⟩

theorem over : Rows.meterCountsRow.holds Try.pinned (OpenSpec.ofChange Rows.meterCountsSpec) :=
  OpenClaim.holds_of_wide 4 Try.f4 rfl rfl rfl rfl rfl rfl rfl ⟨rfl, rfl, rfl, rfl, rfl⟩ rfl rfl rfl rfl rfl (by kernel_rfl) Try.func4 (by kernel_rfl)
    (of_decide_eq_true (by kernel_rfl)) (by unfold Func.isWrapper; first | (rw [if_pos (by decide +kernel)]; kernel_rfl) | (rw [if_neg (by decide +kernel)]; exact ⟨rfl, rfl⟩))
    (fun os started H enc _ => lifted os started H enc)

/-- ████ THE STATEMENT ████ -/
theorem proved : Rows.MeterCountsSaid := over
#print axioms proved
end Go.Proofs.Ytlpngoaachdjhaa.meterCounts
