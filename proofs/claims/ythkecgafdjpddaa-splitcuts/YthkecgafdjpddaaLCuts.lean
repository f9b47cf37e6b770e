/-
  SplitCuts: for every input the law answers true and leaves its arguments as they were: the walk is typed by hand, the row's step is the guide's template.
  Conditions: none beside the row's own.
-/
import Derived.Test.YthkecgafdjpddaaLaws
import Derived.Deep.RegionHeld3
import Derived.Test.YthkecgafdjpddaaIn
import Derived.Test.YthkecgafdjpddaaRows
import Derived.WalkKit
import Derived.ProofKit
import Derived.OpenShut
import Derived.ShutString
import Derived.ChangeOld
import Derived.Below
namespace Go.Proofs.Ythkecgafdjpddaa.splitCuts
open Go.ChangeShapes Go.WideShapes Go.ChangeAt Go.RowKit
set_option linter.unusedVariables false
theorem own : ownKnob Try.prog.godebug = none := by kernel_rfl
theorem laidOut : laidOutB Try.prog = true := by kernel_rfl
set_option maxRecDepth 100000 in
set_option maxHeartbeats 4000000 in
theorem walk {A0 : Option Addr} {c0 : Nat} {L0 : List Opn} {F1 T1 : Option Addr} {fc1 tc1 : Nat} {fr1 to1 : List UInt8} {cl1 : Bool} (w : World) (hc0 : L0.length ≤ c0) (hm0 : c0 ≤ maxLen) (ha0 : Ocs w A0 L0) (hf1 : fr1.length ≤ 9223372036854775807) (ht1 : to1.length ≤ 9223372036854775807) (hs1 : Spn w F1 T1 fr1 to1 fr1.length to1.length) :
    Calls Try.prog 4 #[.slice A0 L0.length c0, .agg #[.slice F1 fr1.length fc1, .slice T1 to1.length tc1, .bool cl1]] w fun e w' => e = .returned (.bool true) ∧ Below w.heap.size w w' := by
  obtain ⟨x, hx⟩ : ∃ x, x = fr1.length := ⟨_, rfl⟩
  obtain ⟨y, hy⟩ : ∃ y, y = to1.length := ⟨_, rfl⟩
  rw [← hx] at hf1 hs1 ⊢
  rw [← hy] at ht1 hs1 ⊢
  obtain ⟨w1, hw1, hb1, hk1⟩ := box_span w (.slice F1 x fc1) (.slice T1 y tc1) (.bool cl1)
  have hsm := fine_any (ha0.below hb1) c0 80 (by decide) (Nat.le_trans hc0 hm0)
  have HAW := Lib.hid awake_any
  have HMD := Lib.hid (fun W (h : Below w1.heap.size w1 W) hl ht => made_two c0 ((ha0.below hb1).below h) hl ht)
  have HSP := Lib.hid (hs1.below hb1)
  have HFL := Lib.hid (And.intro hx hy)
  have K1 := Lib.hid hk1; clear hk1
  have HW := Lib.hid hw1; clear hw1
  have HB := Lib.hid hb1; clear hb1
  cases hs : (decide (L0.length ≤ 80) && tinyO L0) with
  | false =>
    rw [hs] at hsm
    have HSM := Lib.hid hsm; clear hsm
    clear ha0 hs hc0 hm0 hs1 hx hy
    go_enter Try.func4, Try.ntmps4
    go_wp2_with (rw [← HW.out])
    refine HSM.out.mono ?_
    rintro e w2 ⟨rfl, b2⟩
    have B2 := Lib.hid b2; clear b2
    go_wp2_with fail
    refine (HAW.out _).mono ?_
    rintro e w9 ⟨rfl, b9⟩
    have B9 := Lib.hid (below_then B2.out b9); clear b9
    go_wp2_with fail
    go_ret
    exact ⟨rfl, below_then HB.out B9.out⟩
  | true =>
    rw [hs] at hsm
    obtain ⟨hlen, htiny⟩ : L0.length ≤ 80 ∧ tinyO L0 = true := by simpa using hs
    have HSM := Lib.hid hsm; clear hsm
    have HMD2 := Lib.hid (fun W h => HMD.out W h (Nat.le_trans hlen (by decide)) htiny); clear HMD
    clear ha0 hs hc0 hm0 hs1 hx hy hlen htiny
    by_cases hk : x ≤ 100
    · have t1 : decide ((100 : Int) < (x : Int)) = false := decide_eq_false (by omega)
      have t2 : decide (100 < x) = false := decide_eq_false (by omega)
      by_cases hj : y ≤ 100
      · have t3 : decide ((100 : Int) < (y : Int)) = false := decide_eq_false (by omega)
        have t4 : decide (100 < y) = false := decide_eq_false (by omega)
        have HKL := Lib.hid (And.intro hk hj); clear hk hj
        go_enter Try.func4, Try.ntmps4
        go_wp2_with (rw [← HW.out])
        refine HSM.out.mono ?_
        rintro e w2 ⟨rfl, b2⟩
        obtain ⟨q0, q1, q2⟩ := K1.out w2 b2
        have M2 := Lib.hid (HMD2.out w2 b2)
        have B2 := Lib.hid b2; clear b2
        clear HMD2 HSM HW
        go_wp2_with fail
        refine M2.out.mono ?_
        rintro e w3 ⟨p, A, c, n, rfl, tw, b3⟩
        have b13 := below_then B2.out b3
        clear q0 q1 q2
        obtain ⟨q0, q1, q2⟩ := K1.out w3 b13
        obtain ⟨M, hM⟩ : ∃ M, M = plays L0 := ⟨_, rfl⟩
        rw [← hM] at tw
        have sp := HSP.out.below b13
        obtain ⟨sf, hsf⟩ : ∃ s : ByteArray, s = ⟨fr1.toArray⟩ := ⟨_, rfl⟩
        obtain ⟨st, hst⟩ : ∃ s : ByteArray, s = ⟨to1.toArray⟩ := ⟨_, rfl⟩
        have hlx : fr1.length ≤ 1000 ∧ to1.length ≤ 1000 := by rw [← HFL.out.1, ← HFL.out.2]; have := HKL.out; omega
        have href := fun W (hW : Below w3.heap.size w3 W) => ref_any fc1 tc1 cl1 (sp.below hW)
        have hri := fun W (hW : Below w3.heap.size w3 W) => refIns_any (tw.rcs.below hW) c fr1 to1 cl1 (Nat.le_trans tw.good.few (by decide)) hlx.1 hlx.2 tw.good.keys
        have hro := fun W (hW : Below w3.heap.size w3 W) => refOuts_any (tw.rcs.below hW) c fr1 to1 cl1 (Nat.le_trans tw.good.few (by decide)) hlx.1 hlx.2 tw.good.keys
        simp only [← hsf, ← hst] at href hri hro
        simp only [← tw.len] at hri hro
        have hcut := fun W (hW : Below w3.heap.size w3 W) => cut_any fc1 tc1 cl1 (fut W) (tw.tree.below hW) tw.good.fine (sp.below hW)
        have hout := fun W (hW : Below w3.heap.size w3 W) => out_any fc1 tc1 cl1 (fut W) (tw.tree.below hW) tw.good.fine (sp.below hW)
        have hcnt := fun W (hW : Below w3.heap.size w3 W) => count_any fc1 tc1 cl1 (tw.tree.below hW) tw.good.fine (Nat.le_trans tw.good.few (by decide)) (sp.below hW)
        have hii : ∀ W p' A' n', Is All W (ins M fr1 to1 cl1) p' → Rcs W A' (ins M fr1 to1 cl1) → n' = (ins M fr1 to1 cl1).length → Two W (ins M fr1 to1 cl1) p' A' n' := fun W p' A' n' h0 h1 h2 => ⟨h0, h1, h2, tw.good.part _⟩
        have hio : ∀ W p' A' n', Is All W (outs M fr1 to1 cl1) p' → Rcs W A' (outs M fr1 to1 cl1) → n' = (outs M fr1 to1 cl1).length → Two W (outs M fr1 to1 cl1) p' A' n' := fun W p' A' n' h0 h1 h2 => ⟨h0, h1, h2, tw.good.part _⟩
        obtain ⟨I, hI⟩ : ∃ I, I = ins M fr1 to1 cl1 := ⟨_, rfl⟩
        obtain ⟨O, hO⟩ : ∃ O, O = outs M fr1 to1 cl1 := ⟨_, rfl⟩
        simp only [← hI] at hri hcut hcnt hii
        simp only [← hO] at hro hout hio
        have R3 := Lib.hid (href w3 (Below.refl _ _))
        have HREF := Lib.hid href; clear href
        have HRI := Lib.hid hri; clear hri
        have HRO := Lib.hid hro; clear hro
        have HCUT := Lib.hid hcut; clear hcut
        have HOUT := Lib.hid hout; clear hout
        have HCNT := Lib.hid hcnt; clear hcnt
        have HII := Lib.hid hii; clear hii
        have HIO := Lib.hid hio; clear hio
        have TW := Lib.hid tw; clear tw
        have K3 := Lib.hid (fun W (h : Below w3.heap.size w3 W) => K1.out W (below_then b13 h))
        have B3 := Lib.hid b13; clear b13 b3
        clear sp hlx hsf hst hI hO hM M2 B2 K1 HSP HFL HKL
        go_wp2_with fail
        refine R3.out.mono ?_
        rintro e w4 ⟨rfl, b4⟩
        have X4 := Lib.hid (HRI.out w4 b4)
        have B4 := Lib.hid b4; clear b4
        clear q0 q1 q2 R3 HRI
        go_wp2_with fail
        refine X4.out.mono ?_
        rintro e w5 ⟨A5, c5, n5, rfl, en5, r5, b5⟩
        have b35 := below_then B4.out b5
        have KEEP := Lib.hid (fun W (h : Below w5.heap.size w5 W) => K3.out W (below_then b35 h))
        have GO := Lib.hid (fun W (h : Below w5.heap.size w5 W) => below_then b35 h)
        have J1 := Lib.hid (fun W (h : Below w5.heap.size w5 W) => HCUT.out W (below_then b35 h))
        have J2 := Lib.hid (fun W p' (h : Below w5.heap.size w5 W) (hp : Is All W I p') => (HII.out W p' A5 n5 hp (r5.below h) en5).is c5)
        have J3 := Lib.hid (fun W (h : Below w5.heap.size w5 W) => HOUT.out W (below_then b35 h))
        have J4 := Lib.hid (fun W (h : Below w5.heap.size w5 W) => HREF.out W (below_then b35 h))
        have J5 := Lib.hid (fun W (h : Below w5.heap.size w5 W) => HRO.out W (below_then b35 h))
        have J6 := Lib.hid (fun W p' A' n' c' hp hr hn => (HIO.out W p' A' n' hp hr hn).is c')
        have hj7 := fun W (h : Below w5.heap.size w5 W) => HCNT.out W (below_then b35 h)
        simp only [← en5] at hj7
        have J7 := Lib.hid hj7; clear hj7
        have J8 := Lib.hid (fun W (h : Below w5.heap.size w5 W) => (TW.out.below (below_then b35 h)).is c)
        have dn : ((n5 : Int) == (n5 : Int)) = true := by simp
        have hz0 : Below w5.heap.size w5 w5.drew := (Below.refl _ _).drew
        clear X4 B4 HCUT HII HOUT HREF HRO HIO HCNT TW K3 b35 b5 r5 en5
        go_wp2_with fail
        go_region_held3 (fun W => W.cell? ⟨w.heap.size, 0, none⟩ = some (.slice F1 x fc1) ∧ W.cell? ⟨w.heap.size, 1, none⟩ = some (.slice T1 y tc1) ∧ W.cell? ⟨w.heap.size, 2, none⟩ = some (.bool cl1)) (first | exact KEEP.out _ hz0 | exact KEEP.out _ hzA | exact KEEP.out _ hzB | exact KEEP.out _ hzC | exact KEEP.out _ hzD | exact KEEP.out _ hzE | exact KEEP.out _ hzF | exact KEEP.out _ hzG | exact KEEP.out _ hzH | exact KEEP.out _ hzI | fail) (first
          | (go_at_call 16; (with_reducible refine (J1.out _ hz0).mono ?_); rintro e wA ⟨pA, rfl, hA, hbA⟩; have hzA := below_then hz0 hbA)
          | (go_at_call 12; (with_reducible refine (J2.out _ pA hzA hA).mono ?_); rintro e wB ⟨rfl, hbB⟩; have hzB := below_then hzA hbB)
          | (go_at_call 17; (with_reducible refine (J3.out _ hzB).mono ?_); rintro e wC ⟨pC, rfl, hC, hbC⟩; have hzC := below_then hzB hbC)
          | (go_at_call 15; (with_reducible refine (J4.out _ hzC).mono ?_); rintro e wD ⟨rfl, hbD⟩; have hzD := below_then hzC hbD)
          | (go_at_call 14; (with_reducible refine (J5.out _ hzD).mono ?_); rintro e wE ⟨AE, cE, nE, rfl, enE, rE, hbE⟩; have EE := Lib.hid enE; clear enE; have hzE := below_then hzD hbE; have hCE := Is.below (Is.below hC hbD) hbE)
          | (go_at_call 12; (with_reducible refine (J6.out _ pC AE nE cE hCE rE EE.out).mono ?_); rintro e wF ⟨rfl, hbF⟩; have hzF := below_then hzE hbF)
          | (go_at_call 18; (with_reducible refine (J7.out _ hzF).mono ?_); rintro e wG ⟨rfl, hbG⟩; have hzG := below_then hzF hbG)
          | (go_at_call 12; (with_reducible refine (J8.out _ hzG).mono ?_); rintro e wH ⟨rfl, hbH⟩; have hzH := below_then hzG hbH)
          | (go_at_call 8; (with_reducible refine (HAW.out _).mono ?_); rintro e wI ⟨rfl, hbI⟩; have hzI := below_then hzH hbI)
          | fail)
        all_goals
          go_wp2_with fail
          go_ret
          exact ⟨rfl, below_then (below_then HB.out B3.out) (GO.out _ hzI)⟩
      · have t3 : decide ((100 : Int) < (y : Int)) = true := decide_eq_true (by omega)
        have t4 : decide (100 < y) = true := decide_eq_true (by omega)
        clear hk hj HMD2
        go_enter Try.func4, Try.ntmps4
        go_wp2_with (rw [← HW.out])
        refine HSM.out.mono ?_
        rintro e w2 ⟨rfl, b2⟩
        obtain ⟨q0, q1, q2⟩ := K1.out w2 b2
        have B2 := Lib.hid b2; clear b2
        go_wp2_with fail
        refine (HAW.out _).mono ?_
        rintro e w9 ⟨rfl, b9⟩
        have B9 := Lib.hid (below_then B2.out b9); clear b9
        go_wp2_with fail
        go_ret
        exact ⟨rfl, below_then HB.out B9.out⟩
    · have t1 : decide ((100 : Int) < (x : Int)) = true := decide_eq_true (by omega)
      have t2 : decide (100 < x) = true := decide_eq_true (by omega)
      clear hk HMD2
      go_enter Try.func4, Try.ntmps4
      go_wp2_with (rw [← HW.out])
      refine HSM.out.mono ?_
      rintro e w2 ⟨rfl, b2⟩
      obtain ⟨q0, q1, q2⟩ := K1.out w2 b2
      have B2 := Lib.hid b2; clear b2
      go_wp2_with fail
      refine (HAW.out _).mono ?_
      rintro e w9 ⟨rfl, b9⟩
      have B9 := Lib.hid (below_then B2.out b9); clear b9
      go_wp2_with fail
      go_ret
      exact ⟨rfl, below_then HB.out B9.out⟩
/-! ### THE ROW's STEP -/
set_option maxRecDepth 100000 in
theorem lifted (os : Os) (started : os.Started) (H : Type) (enc : TypeId × Value → H) :
    ReturnsInHanded {} Try.checked os 4 .any (Rows.splitCutsSpec.pre6 enc Try.prog Try.f4 Rows.splitCutsRow.domain false) (Rows.splitCutsSpec.post enc Try.prog Try.f4 false true false false) := by
  refine returnsInHanded_of_change (C := Try.checked) own started (by kernel_rfl) Try.func4
    (ChangeSpec.witness6 (enc := enc) (C := Try.checked) false ⟨#[], #[.slice none 0 0, .agg #[.slice none 0 0, .slice none 0 0, .bool false]], []⟩ 8 (by kernel_rfl) (by kernel_rfl) (by kernel_rfl) (by kernel_rfl)) ?_
  intro W base args ds gs before hval0 hW hcnd _
  have hval : ∀ (j : Nat) t v, Try.f4.params[j]? = some t → args[j]? = some v → Value.okWide Try.prog W .any base t v := hval0
  have hW' := hW
  obtain ⟨p, q, hA0, hV, rfl, hfz, hnd⟩ := hW
  have hA : DataW.TrodAll enc Try.prog W 0 (fun _ => true) true Try.f4.params.toList args.toList ds p := hA0
  rw [Try.params4] at hA hval
  obtain ⟨v0, vs0, d0, ds0, p0, q0, hargs, rfl, rfl, h0, r0⟩ := trodAll_cons hA
  obtain ⟨v1, vs1, d1, ds1, p1, q1, rfl, rfl, rfl, h1, r1⟩ := trodAll_cons r0
  obtain ⟨rfl, rfl, rfl⟩ := trodAll_nil r1
  obtain rfl : args = #[v0, v1] := by cases args; simp_all
  obtain ⟨rfl, rfl⟩ := trodVars_none hV
  have lt0 : ∀ x ∈ p0, x.block < W.heap.size := by obtain ⟨m, hm⟩ := h0; exact DataW.trod_lt m _ _ _ hm
  have ok0 := hval 0 22 v0 rfl rfl
  have lt1 : ∀ x ∈ p1, x.block < W.heap.size := by obtain ⟨m, hm⟩ := h1; exact DataW.trod_lt m _ _ _ hm
  have ok1 := hval 1 38 v1 rfl rfl
  clear hA0 hval0 hval
  obtain ⟨A0, c0, L0, rfl, hc0, hm0, ha0⟩ := ops_in ok0 h0
  obtain ⟨F1, T1, fc1, tc1, fr1, to1, cl1, rfl, hf1, ht1, hs1⟩ := span_in ok1 h1
  refine (walk W hc0 hm0 ha0 hf1 ht1 hs1).mono fun e W' ⟨he, bel⟩ => ?_
  subst he
  exact ⟨_, rfl, _, _, _, [], _, [], hW', trodAll_mk1 (shut_bool Try.underlying4 _), (trodAll_cons_mk (Below.trod laidOut (by kernel_rfl) (of_decide_eq_true (by kernel_rfl)) h0 bel lt0) (trodAll_cons_mk (Below.trod laidOut (by kernel_rfl) (of_decide_eq_true (by kernel_rfl)) h1 bel lt1) trodAll_mk0)), rfl, bel.frame _, fun h => by cases h⟩

theorem over : Rows.splitCutsRow.holds Try.pinned (OpenSpec.ofChange Rows.splitCutsSpec) :=
  OpenClaim.holds_of_wide 4 Try.f4 rfl rfl rfl rfl rfl rfl rfl ⟨rfl, rfl, rfl, rfl, rfl⟩ rfl rfl rfl rfl rfl (by kernel_rfl) Try.func4 (by kernel_rfl)
    (of_decide_eq_true (by kernel_rfl)) (by unfold Func.isWrapper; first | (rw [if_pos (by decide +kernel)]; kernel_rfl) | (rw [if_neg (by decide +kernel)]; exact ⟨rfl, rfl⟩))
    (fun os started H enc _ => lifted os started H enc)

/-- ████ THE STATEMENT ████ -/
theorem proved : Rows.SplitCutsSaid := over
#print axioms proved
end Go.Proofs.Ythkecgafdjpddaa.splitCuts
