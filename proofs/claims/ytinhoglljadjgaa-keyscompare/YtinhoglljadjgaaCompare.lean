/-
  KeysCompare: for every input the law answers true and leaves its arguments as they were: the walk is typed by hand, the row's step is the guide's template.
  Conditions: none beside the row's own.
-/
import Derived.Test.YtinhoglljadjgaaMade
import Derived.Test.YtinhoglljadjgaaRows
import Derived.WalkKit
import Derived.ProofKit
import Derived.OpenShut
import Derived.ShutString
import Derived.ChangeOld
import Derived.Below
namespace Go.Proofs.Ytinhoglljadjgaa.keysCompare
open Go.ChangeShapes Go.WideShapes Go.ChangeAt Go.RowKit
open Go.ChangeMaps (open_string shut_string)
set_option linter.unusedVariables false

theorem own : ownKnob Try.prog.godebug = none := by kernel_rfl
theorem laidOut : laidOutB Try.prog = true := by kernel_rfl

/-- WHAT THE WALK IS TOLD OF A SLICE OF INTEGERS THAT CAME IN: it is nil; or it leads to a row of 'cap' cells, the numbers 'zs' (the first 'len' are its elements, the rest its spare room), each fitting its kind. -/
def IsRow (k : IntKind) (w : World) (a : Option Addr) (len cap : Nat) (zs : List Int) : Prop :=
  (a = none ∧ len = 0 ∧ cap = 0 ∧ zs = []) ∨
  ∃ x, a = some x ∧ len ≤ cap ∧ cap ≤ maxLen ∧ zs.length = cap ∧ (∀ i, i < zs.length → w.cell? (x.add i) = some (.int k (zs.getD i 0))) ∧ ∀ n ∈ zs, (Lit.int k n).wf = true

theorem lt_of_cell {w : World} {b i : Nat} {v : Value} (h : w.cell? ⟨b, i, none⟩ = some v) : b < w.heap.size := by
  rcases Nat.lt_or_ge b w.heap.size with hlt | hge
  · exact hlt
  · simp [World.cell?, Array.getElem?_eq_none hge] at h
theorem bts_of_row {w : World} {a : Option Addr} {len cap : Nat} {zs : List Int} (h : IsRow .u8 w a len cap zs) : ∃ l : List UInt8, l.length = len ∧ len ≤ cap ∧ (a = none → cap = 0) ∧ Bts w a l := by
  rcases h with ⟨rfl, rfl, rfl, rfl⟩ | ⟨x, rfl, h1, _, h3, h4, h5⟩
  · exact ⟨[], rfl, Nat.le_refl _, fun _ => rfl, .inl rfl⟩
  · refine ⟨(zs.take len).map (fun n => UInt8.ofNat n.toNat), by simp; omega, h1, (fun e => by cases e), ?_⟩
    rcases Nat.eq_zero_or_pos len with h0 | h0
    · left; subst h0; simp
    · right
      obtain ⟨b, off, rfl, hc⟩ := ints_at h4 (by omega)
      have hlt : b < w.heap.size := lt_of_cell (hc 0 (by omega))
      refine ⟨b, off, rfl, hlt, fun i hi => ?_⟩
      simp at hi
      rw [hc i (by omega)]
      have hwf := bounds_u8 (h5 (zs.getD i 0) (by rw [List.getD_eq_getElem?_getD, List.getElem?_eq_getElem (by omega)]; simp))
      congr 2
      have hi2 : i < zs.length := by omega
      rw [List.getElem_map, List.getElem_take, UInt8.toNat_ofNat']
      rw [List.getD_eq_getElem?_getD, List.getElem?_eq_getElem hi2] at hwf ⊢
      simp only [Option.getD_some] at hwf ⊢
      omega
/-! ### STEP 1: THE WALK: the Go text returns true, AND WRITES NOTHING THAT WAS THERE: 'Below w.heap.size w w'' (Derived/Below.lean: '.refl', '.alloc', '.drew', '.setCell' at a new block, '.trans'). Open each 'IsRow' by 'rcases' AHEAD of 'go_enter'; part every test ahead of the walk. -/
set_option maxHeartbeats 4000000 in
theorem walk (a0 : Option Addr) (len0 cap0 : Nat) (z0 : List Int) (a1 : Option Addr) (len1 cap1 : Nat) (z1 : List Int) (w : World) (w0 : IsRow .u8 w a0 len0 cap0 z0) (w1 : IsRow .u8 w a1 len1 cap1 z1) :
    Calls Try.prog 3 #[.slice a0 len0 cap0, .slice a1 len1 cap1] w fun e w' => e = .returned (.bool true) ∧ Below w.heap.size w w' := by
  obtain ⟨l, hl, hlc, hla, hb0⟩ := bts_of_row w0
  obtain ⟨m, hm, hmc, hma, hb1⟩ := bts_of_row w1
  clear w0 w1
  subst hl hm
  have hsm := small2 w a0 l.length cap0 a1 m.length cap1
  have hal : Below w.heap.size w (w.alloc (.cells #[.slice a0 l.length cap0, .slice a1 m.length cap1] 22)) := (Below.refl _ _).alloc (Nat.le_refl _) _
  have hb0 := hb0.below hal
  have hb1 := hb1.below hal
  obtain ⟨W, hW⟩ : ∃ W, W = w.alloc (.cells #[.slice a0 l.length cap0, .slice a1 m.length cap1] 22) := ⟨_, rfl⟩
  rw [← hW] at hsm hal hb0 hb1
  have HAL := Lib.hid hal; clear hal
  have HW := Lib.hid hW; clear hW
  have haw := awake_any W
  have HAW := Lib.hid haw; clear haw
  by_cases hs : l.length ≤ 200 ∧ m.length ≤ 200
  · obtain ⟨hs1, hs2⟩ := hs
    simp only [hs1, hs2, decide_true, Bool.and_self] at hsm
    have HSM := Lib.hid hsm; clear hsm
    have hlm := less_any ⟨l.toArray⟩ ⟨m.toArray⟩ W (by simp [ByteArray.size]; omega) (by simp [ByteArray.size]; omega)
    have hml := fun V => less_any ⟨m.toArray⟩ ⟨l.toArray⟩ V (by simp [ByteArray.size]; omega) (by simp [ByteArray.size]; omega)
    have hcom := fun V (hV : Below W.heap.size W V) => common_any (hb0.below hV) (hb1.below hV) cap0 cap1 (by omega) (by omega)
    have hc0 := fun V (hV : Below W.heap.size W V) => conv_any (hb0.below hV) cap0
    have hc1 := fun V (hV : Below W.heap.size W V) => conv_any (hb1.below hV) cap1
    have hk0 := fun V (hV : Below W.heap.size W V) => conv_any ((hb0.below hV).take (com l m)) cap0
    have hk1 := fun V (hV : Below W.heap.size W V) => conv_any ((hb1.below hV).take (com l m)) cap1
    have hcm := fun V (hV : Below W.heap.size W V) => compare_any (hb0.below hV) (hb1.below hV) cap0 cap1
    simp only [] at hlm hml
    have hcl := com_le l m
    have hct := com_take l m
    obtain ⟨j, hj⟩ : ∃ j, j = com l m := ⟨_, rfl⟩
    rw [← hct] at hk1
    rw [← hj] at hcl hk0 hk1 hcom
    have hcx : ∀ (h1 : j < l.length) (h2 : j < m.length), l[j] ≠ m[j] := by
      subst hj
      exact com_next l m
    rw [List.length_take, Nat.min_eq_left hcl.1] at hk0 hk1
    obtain ⟨t, ht⟩ : ∃ t : ByteArray, t = ⟨(l.take j).toArray⟩ := ⟨_, rfl⟩
    rw [← ht] at hk0 hk1
    obtain ⟨hj1, hj2⟩ := hcl
    have hjc0 : j ≤ cap0 := by omega
    have hjc1 : j ≤ cap1 := by omega
    have hz : cmp l m = 0 ↔ l = m := ⟨cmp_zero l m, fun e => by rw [e, cmp_self]⟩
    rw [cmp_turn m l] at hml
    have hr := cmp_range l m
    obtain ⟨x, hx⟩ : ∃ x, x = cmp l m := ⟨_, rfl⟩
    rw [← hx] at hlm hml hr hcm hz
    obtain ⟨s0, hs0⟩ : ∃ s : ByteArray, s = ⟨l.toArray⟩ := ⟨_, rfl⟩
    obtain ⟨s1, hs1'⟩ : ∃ s : ByteArray, s = ⟨m.toArray⟩ := ⟨_, rfl⟩
    rw [← hs0, ← hs1'] at hlm hml
    rw [← hs0] at hc0
    rw [← hs1'] at hc1
    have hz2 : x = 0 ↔ s0 = s1 := by
      rw [hz, hs0, hs1']
      constructor
      · rintro rfl; rfl
      · intro e; injection e with e; simpa using e
    have HLM := Lib.hid hlm; clear hlm
    have HML := Lib.hid hml; clear hml
    have HCOM := Lib.hid hcom; clear hcom
    have HC0 := Lib.hid hc0; clear hc0
    have HC1 := Lib.hid hc1; clear hc1
    have HK0 := Lib.hid hk0; clear hk0
    have HK1 := Lib.hid hk1; clear hk1
    have HCM := Lib.hid hcm; clear hcm
    have HB0 := Lib.hid hb0; clear hb0
    have HB1 := Lib.hid hb1; clear hb1
    have HCX := Lib.hid hcx; clear hcx
    clear hct hj ht hx hz hs0 hs1'
    have hW0 := HC0.out W (Below.refl _ _)
    have hW1 := HC1.out W (Below.refl _ _)
    have d0 : decide ((j : Int) < 0) = false := by simp
    have d1 : decide (l.length < j) = false := by simp; omega
    have d2 : decide (m.length < j) = false := by simp; omega
    rcases hr with rfl | rfl | rfl
    · have hne : (s0.toList == s1.toList) = false := by
        rw [Bool.eq_false_iff]
        intro e
        have e2 : s0 = s1 := by
          apply ByteArray.ext
          apply Array.ext'
          have h := eq_of_beq e
          rw [ByteArray.toList_eq, ByteArray.toList_eq] at h
          exact h
        exact absurd (hz2.2 e2) (by decide)
      clear hz2
      have e1 : decide ((-1 : Int) < 0) = true := by decide
      have e2 : decide (-(-1 : Int) < 0) = false := by decide
      rw [e1] at HLM
      rw [e2] at HML
      clear e1 e2
      go_enter Try.func3, Try.ntmps3
      go_wp2_with fail
      rw [← HW.out]
      refine HSM.out.mono ?_
      rintro e w' ⟨rfl, rfl⟩
      go_wp2_with fail
      refine HLM.out.mono ?_
      rintro e W1 ⟨rfl, hbw1⟩
      have hX0 := HC0.out W1 hbw1
      have hX1 := HC1.out W1 hbw1
      have HBW1 := Lib.hid hbw1; clear hbw1
      go_wp2_with fail
      refine (HML.out _).mono ?_
      rintro e W2 ⟨rfl, hbw2⟩
      have hbl := below_then HBW1.out hbw2
      have HBL := Lib.hid hbl; clear hbl hbw2
      go_wp2_with fail
      refine (HCOM.out _ HBL.out).mono ?_
      rintro e W3 ⟨rfl, hbw3⟩
      have hbl3 := below_then HBL.out hbw3
      have hq : ∀ q, Below W.heap.size W (W3.drewN q) := fun q => below_drewN hbl3 q
      have k0 := fun q => HK0.out _ (hq q)
      have k1 := fun q => HK1.out _ (hq q)
      have c0 := fun q => HC0.out _ (hq q)
      have c1 := fun q => HC1.out _ (hq q)
      have HQ := Lib.hid hq; clear hq
      clear hX0 hX1 hW0 hW1 hbw3
      by_cases g1 : j < l.length
      · by_cases g2 : j < m.length
        · obtain ⟨ab, ao, rfl, hca⟩ := (HB0.out.below hbl3).at g1
          obtain ⟨bb, bo, rfl, hcb⟩ := (HB1.out.below hbl3).at g2
          have hcx := HCX.out g1 g2
          obtain ⟨u, hu⟩ : ∃ u : Nat, u = (l[j]).toNat := ⟨_, rfl⟩
          obtain ⟨v, hv⟩ : ∃ v : Nat, v = (m[j]).toNat := ⟨_, rfl⟩
          have huv : u ≠ v := fun e => hcx (UInt8.toNat_inj.1 (by rw [← hu, ← hv, e]))
          rw [← hu] at hca
          rw [← hv] at hcb
          have e3 : ((u : Int) == (v : Int)) = false := by simp; omega
          have d3 : decide (j < l.length) = true := by simp; omega
          have d4 : decide (j < m.length) = true := by simp; omega
          clear hu hv hcx huv HCX HB0 HB1 hbl3
          go_wp2_with fail
          go_quiet (fail)
          go_wp2_with fail
          refine (HCM.out _ (HQ.out _)).mono ?_
          rintro e w' ⟨rfl, rfl⟩
          go_wp2_with fail
          refine (awake_any _).mono ?_
          rintro e w' ⟨rfl, hbel⟩
          have hbe := below_then (HQ.out nq) hbel
          have HBE := Lib.hid hbe; clear hbe hbel
          go_wp2_with fail
          go_ret
          exact ⟨rfl, below_then HAL.out HBE.out⟩
        · have d3 : decide (j < l.length) = true := by simp; omega
          have d4 : decide (j < m.length) = false := by simp; omega
          clear HCX HB0 HB1 hbl3
          go_wp2_with fail
          go_quiet (fail)
          go_wp2_with fail
          refine (HCM.out _ (HQ.out _)).mono ?_
          rintro e w' ⟨rfl, rfl⟩
          go_wp2_with fail
          refine (awake_any _).mono ?_
          rintro e w' ⟨rfl, hbel⟩
          have hbe := below_then (HQ.out nq) hbel
          have HBE := Lib.hid hbe; clear hbe hbel
          go_wp2_with fail
          go_ret
          exact ⟨rfl, below_then HAL.out HBE.out⟩
      · have d3 : decide (j < l.length) = false := by simp; omega
        clear HCX HB0 HB1 hbl3
        go_wp2_with fail
        go_quiet (fail)
        go_wp2_with fail
        refine (HCM.out _ (HQ.out _)).mono ?_
        rintro e w' ⟨rfl, rfl⟩
        go_wp2_with fail
        refine (awake_any _).mono ?_
        rintro e w' ⟨rfl, hbel⟩
        have hbe := below_then (HQ.out nq) hbel
        have HBE := Lib.hid hbe; clear hbe hbel
        go_wp2_with fail
        go_ret
        exact ⟨rfl, below_then HAL.out HBE.out⟩
    · obtain rfl := hz2.1 rfl
      clear hz2
      have e1 : decide ((0 : Int) < 0) = false := by decide
      have e2 : decide (-(0 : Int) < 0) = false := by decide
      rw [e1] at HLM
      rw [e2] at HML
      clear e1 e2
      go_enter Try.func3, Try.ntmps3
      go_wp2_with fail
      rw [← HW.out]
      refine HSM.out.mono ?_
      rintro e w' ⟨rfl, rfl⟩
      go_wp2_with fail
      refine HLM.out.mono ?_
      rintro e W1 ⟨rfl, hbw1⟩
      have hX0 := HC0.out W1 hbw1
      have hX1 := HC1.out W1 hbw1
      have HBW1 := Lib.hid hbw1; clear hbw1
      go_wp2_with fail
      refine (HML.out _).mono ?_
      rintro e W2 ⟨rfl, hbw2⟩
      have hbl := below_then HBW1.out hbw2
      have HBL := Lib.hid hbl; clear hbl hbw2
      go_wp2_with fail
      refine (HCOM.out _ HBL.out).mono ?_
      rintro e W3 ⟨rfl, hbw3⟩
      have hbl3 := below_then HBL.out hbw3
      have hq : ∀ q, Below W.heap.size W (W3.drewN q) := fun q => below_drewN hbl3 q
      have k0 := fun q => HK0.out _ (hq q)
      have k1 := fun q => HK1.out _ (hq q)
      have c0 := fun q => HC0.out _ (hq q)
      have c1 := fun q => HC1.out _ (hq q)
      have HQ := Lib.hid hq; clear hq
      clear hX0 hX1 hW0 hW1 hbw3
      by_cases g1 : j < l.length
      · by_cases g2 : j < m.length
        · obtain ⟨ab, ao, rfl, hca⟩ := (HB0.out.below hbl3).at g1
          obtain ⟨bb, bo, rfl, hcb⟩ := (HB1.out.below hbl3).at g2
          have hcx := HCX.out g1 g2
          obtain ⟨u, hu⟩ : ∃ u : Nat, u = (l[j]).toNat := ⟨_, rfl⟩
          obtain ⟨v, hv⟩ : ∃ v : Nat, v = (m[j]).toNat := ⟨_, rfl⟩
          have huv : u ≠ v := fun e => hcx (UInt8.toNat_inj.1 (by rw [← hu, ← hv, e]))
          rw [← hu] at hca
          rw [← hv] at hcb
          have e3 : ((u : Int) == (v : Int)) = false := by simp; omega
          have d3 : decide (j < l.length) = true := by simp; omega
          have d4 : decide (j < m.length) = true := by simp; omega
          clear hu hv hcx huv HCX HB0 HB1 hbl3
          go_wp2_with fail
          go_quiet (fail)
          go_wp2_with fail
          refine (HCM.out _ (HQ.out _)).mono ?_
          rintro e w' ⟨rfl, rfl⟩
          go_wp2_with fail
          refine (awake_any _).mono ?_
          rintro e w' ⟨rfl, hbel⟩
          have hbe := below_then (HQ.out nq) hbel
          have HBE := Lib.hid hbe; clear hbe hbel
          go_wp2_with fail
          go_ret
          exact ⟨rfl, below_then HAL.out HBE.out⟩
        · have d3 : decide (j < l.length) = true := by simp; omega
          have d4 : decide (j < m.length) = false := by simp; omega
          clear HCX HB0 HB1 hbl3
          go_wp2_with fail
          go_quiet (fail)
          go_wp2_with fail
          refine (HCM.out _ (HQ.out _)).mono ?_
          rintro e w' ⟨rfl, rfl⟩
          go_wp2_with fail
          refine (awake_any _).mono ?_
          rintro e w' ⟨rfl, hbel⟩
          have hbe := below_then (HQ.out nq) hbel
          have HBE := Lib.hid hbe; clear hbe hbel
          go_wp2_with fail
          go_ret
          exact ⟨rfl, below_then HAL.out HBE.out⟩
      · have d3 : decide (j < l.length) = false := by simp; omega
        clear HCX HB0 HB1 hbl3
        go_wp2_with fail
        go_quiet (fail)
        go_wp2_with fail
        refine (HCM.out _ (HQ.out _)).mono ?_
        rintro e w' ⟨rfl, rfl⟩
        go_wp2_with fail
        refine (awake_any _).mono ?_
        rintro e w' ⟨rfl, hbel⟩
        have hbe := below_then (HQ.out nq) hbel
        have HBE := Lib.hid hbe; clear hbe hbel
        go_wp2_with fail
        go_ret
        exact ⟨rfl, below_then HAL.out HBE.out⟩
    · have hne : (s0.toList == s1.toList) = false := by
        rw [Bool.eq_false_iff]
        intro e
        have e2 : s0 = s1 := by
          apply ByteArray.ext
          apply Array.ext'
          have h := eq_of_beq e
          rw [ByteArray.toList_eq, ByteArray.toList_eq] at h
          exact h
        exact absurd (hz2.2 e2) (by decide)
      clear hz2
      have e1 : decide ((1 : Int) < 0) = false := by decide
      have e2 : decide (-(1 : Int) < 0) = true := by decide
      rw [e1] at HLM
      rw [e2] at HML
      clear e1 e2
      go_enter Try.func3, Try.ntmps3
      go_wp2_with fail
      rw [← HW.out]
      refine HSM.out.mono ?_
      rintro e w' ⟨rfl, rfl⟩
      go_wp2_with fail
      refine HLM.out.mono ?_
      rintro e W1 ⟨rfl, hbw1⟩
      have hX0 := HC0.out W1 hbw1
      have hX1 := HC1.out W1 hbw1
      have HBW1 := Lib.hid hbw1; clear hbw1
      go_wp2_with fail
      refine (HML.out _).mono ?_
      rintro e W2 ⟨rfl, hbw2⟩
      have hbl := below_then HBW1.out hbw2
      have HBL := Lib.hid hbl; clear hbl hbw2
      go_wp2_with fail
      refine (HCOM.out _ HBL.out).mono ?_
      rintro e W3 ⟨rfl, hbw3⟩
      have hbl3 := below_then HBL.out hbw3
      have hq : ∀ q, Below W.heap.size W (W3.drewN q) := fun q => below_drewN hbl3 q
      have k0 := fun q => HK0.out _ (hq q)
      have k1 := fun q => HK1.out _ (hq q)
      have c0 := fun q => HC0.out _ (hq q)
      have c1 := fun q => HC1.out _ (hq q)
      have HQ := Lib.hid hq; clear hq
      clear hX0 hX1 hW0 hW1 hbw3
      by_cases g1 : j < l.length
      · by_cases g2 : j < m.length
        · obtain ⟨ab, ao, rfl, hca⟩ := (HB0.out.below hbl3).at g1
          obtain ⟨bb, bo, rfl, hcb⟩ := (HB1.out.below hbl3).at g2
          have hcx := HCX.out g1 g2
          obtain ⟨u, hu⟩ : ∃ u : Nat, u = (l[j]).toNat := ⟨_, rfl⟩
          obtain ⟨v, hv⟩ : ∃ v : Nat, v = (m[j]).toNat := ⟨_, rfl⟩
          have huv : u ≠ v := fun e => hcx (UInt8.toNat_inj.1 (by rw [← hu, ← hv, e]))
          rw [← hu] at hca
          rw [← hv] at hcb
          have e3 : ((u : Int) == (v : Int)) = false := by simp; omega
          have d3 : decide (j < l.length) = true := by simp; omega
          have d4 : decide (j < m.length) = true := by simp; omega
          clear hu hv hcx huv HCX HB0 HB1 hbl3
          go_wp2_with fail
          go_quiet (fail)
          go_wp2_with fail
          refine (HCM.out _ (HQ.out _)).mono ?_
          rintro e w' ⟨rfl, rfl⟩
          go_wp2_with fail
          refine (awake_any _).mono ?_
          rintro e w' ⟨rfl, hbel⟩
          have hbe := below_then (HQ.out nq) hbel
          have HBE := Lib.hid hbe; clear hbe hbel
          go_wp2_with fail
          go_ret
          exact ⟨rfl, below_then HAL.out HBE.out⟩
        · have d3 : decide (j < l.length) = true := by simp; omega
          have d4 : decide (j < m.length) = false := by simp; omega
          clear HCX HB0 HB1 hbl3
          go_wp2_with fail
          go_quiet (fail)
          go_wp2_with fail
          refine (HCM.out _ (HQ.out _)).mono ?_
          rintro e w' ⟨rfl, rfl⟩
          go_wp2_with fail
          refine (awake_any _).mono ?_
          rintro e w' ⟨rfl, hbel⟩
          have hbe := below_then (HQ.out nq) hbel
          have HBE := Lib.hid hbe; clear hbe hbel
          go_wp2_with fail
          go_ret
          exact ⟨rfl, below_then HAL.out HBE.out⟩
      · have d3 : decide (j < l.length) = false := by simp; omega
        clear HCX HB0 HB1 hbl3
        go_wp2_with fail
        go_quiet (fail)
        go_wp2_with fail
        refine (HCM.out _ (HQ.out _)).mono ?_
        rintro e w' ⟨rfl, rfl⟩
        go_wp2_with fail
        refine (awake_any _).mono ?_
        rintro e w' ⟨rfl, hbel⟩
        have hbe := below_then (HQ.out nq) hbel
        have HBE := Lib.hid hbe; clear hbe hbel
        go_wp2_with fail
        go_ret
        exact ⟨rfl, below_then HAL.out HBE.out⟩
  · have e : (decide (l.length ≤ 200) && decide (m.length ≤ 200)) = false := by
      rw [Bool.eq_false_iff]
      intro e
      simp only [Bool.and_eq_true, decide_eq_true_eq] at e
      exact hs e
    rw [e] at hsm
    have HSM := Lib.hid hsm; clear hsm
    clear e hs hb0 hb1
    go_enter Try.func3, Try.ntmps3
    go_wp2_with fail
    rw [← HW.out]
    refine HSM.out.mono ?_
    rintro e w' ⟨rfl, rfl⟩
    go_wp2_with fail
    refine HAW.out.mono ?_
    rintro e w' ⟨rfl, hbel⟩
    have HBE := Lib.hid hbel; clear hbel
    go_wp2_with fail
    go_ret
    exact ⟨rfl, below_then HAL.out HBE.out⟩

/-! ### THE ROW's STEP: WRITTEN OUT: LEAVE IT -/
set_option maxRecDepth 100000 in
theorem lifted (os : Os) (started : os.Started) (H : Type) (enc : TypeId × Value → H) :
    ReturnsInHanded {} Try.checked os 3 .any (Rows.keysCompareSpec.pre6 enc Try.prog Try.f3 Rows.keysCompareRow.domain false) (Rows.keysCompareSpec.post enc Try.prog Try.f3 false true false false) := by
  refine returnsInHanded_of_change (C := Try.checked) own started (by kernel_rfl) Try.func3
    (ChangeSpec.witness6 (enc := enc) (C := Try.checked) false ⟨#[], #[.slice none 0 0, .slice none 0 0], []⟩ 8 (by kernel_rfl) (by kernel_rfl) (by kernel_rfl) (by kernel_rfl)) ?_
  intro W base args ds gs before hval0 hW hcnd _
  have hval : ∀ (j : Nat) t v, Try.f3.params[j]? = some t → args[j]? = some v → Value.okWide Try.prog W .any base t v := hval0
  have hW' := hW
  obtain ⟨p, q, hA0, hV, rfl, hfz, hnd⟩ := hW
  have hA : DataW.TrodAll enc Try.prog W 0 (fun _ => true) true Try.f3.params.toList args.toList ds p := hA0
  rw [Try.params3] at hA hval
  obtain ⟨v0, vs0, d0, ds0, p0, q0, hargs, rfl, rfl, h0, r0⟩ := trodAll_cons hA
  obtain ⟨v1, vs1, d1, ds1, p1, q1, rfl, rfl, rfl, h1, r1⟩ := trodAll_cons r0
  obtain ⟨rfl, rfl, rfl⟩ := trodAll_nil r1
  obtain rfl : args = #[v0, v1] := by cases args; simp_all
  obtain ⟨rfl, rfl⟩ := trodVars_none hV
  obtain ⟨a0, len0, cap0, rfl⟩ := okWide_slice Try.underlying22 (hval 0 22 v0 rfl rfl)
  have k0 := h0
  have lt0 : ∀ x ∈ p0, x.block < W.heap.size := by obtain ⟨m, hm⟩ := k0; exact DataW.trod_lt m _ _ _ hm
  obtain ⟨z0, w0⟩ : ∃ zs, IsRow .u8 W a0 len0 cap0 zs := by
    obtain ⟨fuel, hf⟩ := h0
    rcases open_ints Try.underlying22 Try.underlying5 (by kernel_rfl) hf with ⟨hcs, _⟩ | ⟨x, l, c, zs, hcs, _, hl, hm, hz, _, hcell, hwz⟩
    · simp [Value.cells] at hcs
      obtain ⟨rfl, rfl, rfl⟩ := hcs
      exact ⟨[], .inl ⟨rfl, rfl, rfl, rfl⟩⟩
    · simp [Value.cells] at hcs
      obtain ⟨rfl, rfl, rfl⟩ := hcs
      exact ⟨zs, .inr ⟨_, rfl, hl, hm, by simpa using hz, hcell, hwz⟩⟩
  obtain ⟨a1, len1, cap1, rfl⟩ := okWide_slice Try.underlying22 (hval 1 22 v1 rfl rfl)
  have k1 := h1
  have lt1 : ∀ x ∈ p1, x.block < W.heap.size := by obtain ⟨m, hm⟩ := k1; exact DataW.trod_lt m _ _ _ hm
  obtain ⟨z1, w1⟩ : ∃ zs, IsRow .u8 W a1 len1 cap1 zs := by
    obtain ⟨fuel, hf⟩ := h1
    rcases open_ints Try.underlying22 Try.underlying5 (by kernel_rfl) hf with ⟨hcs, _⟩ | ⟨x, l, c, zs, hcs, _, hl, hm, hz, _, hcell, hwz⟩
    · simp [Value.cells] at hcs
      obtain ⟨rfl, rfl, rfl⟩ := hcs
      exact ⟨[], .inl ⟨rfl, rfl, rfl, rfl⟩⟩
    · simp [Value.cells] at hcs
      obtain ⟨rfl, rfl, rfl⟩ := hcs
      exact ⟨zs, .inr ⟨_, rfl, hl, hm, by simpa using hz, hcell, hwz⟩⟩
  clear hA0 hval0
  refine (walk a0 len0 cap0 z0 a1 len1 cap1 z1 W w0 w1).mono fun e W' ⟨he, bel⟩ => ?_
  subst he
  exact ⟨_, rfl, _, _, _, [], _, [], hW', trodAll_mk1 (shut_bool Try.underlying4 _), (trodAll_cons_mk (Below.trod laidOut (by kernel_rfl) (of_decide_eq_true (by kernel_rfl)) k0 bel lt0) (trodAll_cons_mk (Below.trod laidOut (by kernel_rfl) (of_decide_eq_true (by kernel_rfl)) k1 bel lt1) trodAll_mk0)), rfl, bel.frame _, fun h => by cases h⟩

theorem over : Rows.keysCompareRow.holds Try.pinned (OpenSpec.ofChange Rows.keysCompareSpec) :=
  OpenClaim.holds_of_wide 3 Try.f3 rfl rfl rfl rfl rfl rfl rfl ⟨rfl, rfl, rfl, rfl, rfl⟩ rfl rfl rfl rfl rfl (by kernel_rfl) Try.func3 (by kernel_rfl)
    (of_decide_eq_true (by kernel_rfl)) (by unfold Func.isWrapper; first | (rw [if_pos (by decide +kernel)]; kernel_rfl) | (rw [if_neg (by decide +kernel)]; exact ⟨rfl, rfl⟩))
    (fun os started H enc _ => lifted os started H enc)

/-- ████ THE STATEMENT ████ -/
theorem proved : Rows.KeysCompareSaid := over
#print axioms proved
end Go.Proofs.Ytinhoglljadjgaa.keysCompare
