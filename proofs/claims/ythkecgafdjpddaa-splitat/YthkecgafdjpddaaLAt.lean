/-
  SplitAt: for every input the law answers true and leaves its arguments as they were: the walk is typed by hand, the row's step is the guide's template.
  Conditions: none beside the row's own.
-/
import Derived.Test.YthkecgafdjpddaaLaws
import Derived.Test.YthkecgafdjpddaaIn
import Derived.Test.YthkecgafdjpddaaRows
import Derived.WalkKit
import Derived.ProofKit
import Derived.OpenShut
import Derived.ShutString
import Derived.ChangeOld
import Derived.Below
namespace Go.Proofs.Ythkecgafdjpddaa.splitAt
open Go.ChangeShapes Go.WideShapes Go.ChangeAt Go.RowKit
set_option linter.unusedVariables false
theorem own : ownKnob Try.prog.godebug = none := by kernel_rfl
theorem laidOut : laidOutB Try.prog = true := by kernel_rfl
set_option maxRecDepth 100000 in
set_option maxHeartbeats 4000000 in
theorem walk {A0 : Option Addr} {c0 : Nat} {L0 : List Opn} {A1 : Option Addr} {c1 : Nat} {L1 : List UInt8} (w : World) (hc0 : L0.length ≤ c0) (hm0 : c0 ≤ maxLen) (ha0 : Ocs w A0 L0) (hc1 : L1.length ≤ c1) (hm1 : c1 ≤ maxLen) (ha1 : Bts w A1 L1) :
    Calls Try.prog 3 #[.slice A0 L0.length c0, .slice A1 L1.length c1] w fun e w' => e = .returned (.bool true) ∧ Below w.heap.size w w' := by
  have hsm := fine_any ha0 c0 80 (by decide) (Nat.le_trans hc0 hm0)
  have HAW := Lib.hid awake_any
  have hl1 : L1.length ≤ 9223372036854775807 := Nat.le_trans hc1 hm1
  cases hs : (decide (L0.length ≤ 80) && tinyO L0) with
  | false =>
    rw [hs] at hsm
    have HSM := Lib.hid hsm; clear hsm
    clear ha0 hs hc0 hm0 ha1 hc1 hm1
    go_enter Try.func3, Try.ntmps3
    go_wp2_with fail
    refine HSM.out.mono ?_
    rintro e w1 ⟨rfl, hb⟩
    have HB := Lib.hid hb; clear hb
    go_wp2_with fail
    refine (HAW.out _).mono ?_
    rintro e w2 ⟨rfl, hb⟩
    have HB2 := Lib.hid hb; clear hb
    go_wp2_with fail
    go_ret
    exact ⟨rfl, below_then HB.out HB2.out⟩
  | true =>
    rw [hs] at hsm
    obtain ⟨hlen, htiny⟩ : L0.length ≤ 80 ∧ tinyO L0 = true := by simpa using hs
    have HSM := Lib.hid hsm; clear hsm
    have HMD := Lib.hid (fun W (h : Below w.heap.size w W) => made_two c0 (ha0.below h) (Nat.le_trans hlen (by decide)) htiny)
    have HK := Lib.hid ha1; clear ha1
    clear hs hc0 hm0 htiny ha0 hlen hc1 hm1
    by_cases hk : L1.length ≤ 100
    · have t1 : decide ((100 : Int) < (L1.length : Int)) = false := decide_eq_false (by omega)
      have t2 : decide (100 < L1.length) = false := decide_eq_false (by omega)
      obtain ⟨x, hx⟩ : ∃ x, x = L1.length := ⟨_, rfl⟩
      rw [← hx] at t1 t2 hl1 ⊢
      have HKL := Lib.hid hk; clear hk
      have HX := Lib.hid hx; clear hx
      go_enter Try.func3, Try.ntmps3
      go_wp2_with fail
      refine HSM.out.mono ?_
      rintro e w0 ⟨rfl, hb⟩
      have KM := Lib.hid (HMD.out w0 hb)
      have HB := Lib.hid hb; clear hb
      clear HMD HSM
      go_wp2_with fail
      refine KM.out.mono ?_
      rintro e w1 ⟨p, A, c, n, rfl, ht, hb1⟩
      obtain ⟨M, hM⟩ : ∃ M, M = plays L0 := ⟨_, rfl⟩
      rw [← hM] at ht
      have hb1' := below_then HB.out hb1
      have hkw := HK.out.below hb1'
      have hat := split_any c1 (fut _) ht.tree ht.good.fine hkw
      rw [← HX.out] at hat
      have HAT := Lib.hid hat; clear hat
      have HKW := Lib.hid hkw; clear hkw
      have HT := Lib.hid ht; clear ht
      have B1 := Lib.hid hb1'; clear hb1' hb1
      clear KM HB hM HK
      go_wp2_with fail
      refine HAT.out.mono ?_
      rintro e w2 ⟨pl, pr, va, vc, y, is, rfl, hcut, hb2⟩
      have B2 := Lib.hid (below_then B1.out hb2)
      obtain ⟨e1, e2, e3, l, r, hl, hr, el, er, ll, lr⟩ := hcut
      obtain ⟨ks, hks⟩ : ∃ s : ByteArray, s = ⟨L1.toArray⟩ := ⟨_, rfl⟩
      obtain ⟨vs, hvs⟩ : ∃ s : ByteArray, s = ⟨(val M L1).toArray⟩ := ⟨_, rfl⟩
      have tw := HT.out.below hb2
      have ck : ∀ W, Below w2.heap.size w2 W → (convert 23 9 (.slice A1 x c1)).run Try.prog W = .ok (.string ks) W := by
        intro W hW
        have h := conv_any ((HKW.out.below hb2).below hW) c1
        rw [← HX.out, ← hks] at h
        exact h
      have cv : ∀ W, Below w2.heap.size w2 W → (convert 23 9 (.slice va y vc)).run Try.prog W = .ok (.string vs) W := by
        intro W hW
        have h := conv_any (e3.below hW) vc
        rw [← e1, ← hvs] at h
        exact h
      have hget := refVal_any tw.rcs c L1 (Nat.le_trans tw.good.few (by decide))
      rw [← hks, ← hvs, ← e2, ← tw.len] at hget
      have hlt := fun W (hW : Below w2.heap.size w2 W) => refLts_any (tw.rcs.below hW) c L1 (Nat.le_trans tw.good.few (by decide)) (by have := HKL.out; omega) tw.good.keys
      have hgt := fun W (hW : Below w2.heap.size w2 W) => refGts_any (tw.rcs.below hW) c L1 (Nat.le_trans tw.good.few (by decide)) (by have := HKL.out; omega) tw.good.keys
      simp only [← hks, ← tw.len] at hlt hgt
      have hil : ∀ W A' n', Below w2.heap.size w2 W → Rcs W A' (lts M L1) → n' = (lts M L1).length → Two W (lts M L1) pl A' n' := fun W A' n' hW h1 h2 => ⟨⟨l, hl.below hW, el, ll⟩, h1, h2, tw.good.part _⟩
      have hig : ∀ W A' n', Below w2.heap.size w2 W → Rcs W A' (gts M L1) → n' = (gts M L1).length → Two W (gts M L1) pr A' n' := fun W A' n' hW h1 h2 => ⟨⟨r, hr.below hW, er, lr⟩, h1, h2, tw.good.part _⟩
      have ck2 := ck w2 (Below.refl _ _)
      have db : (is == is) = true := by cases is <;> rfl
      have CK := Lib.hid ck; clear ck
      have CV := Lib.hid cv; clear cv
      have HG := Lib.hid hget; clear hget
      have HLT := Lib.hid hlt; clear hlt
      have HGT := Lib.hid hgt; clear hgt
      have HIL := Lib.hid hil; clear hil
      have HIG := Lib.hid hig; clear hig
      have TW := Lib.hid tw; clear tw
      clear e1 e2 e3 hl hr el er ll lr hks hvs hb2 HT HKW HAT B1 HKL HX
      go_wp2_with fail
      refine HG.out.mono ?_
      rintro e w3 ⟨rfl, b3⟩
      have ck3 := CK.out w3 b3
      have cv3 := CV.out w3 b3
      have L3 := Lib.hid (HLT.out w3 b3)
      have B3 := Lib.hid b3; clear b3
      clear ck2 HG CV HLT
      go_wp2_with fail
      refine L3.out.mono ?_
      rintro e w4 ⟨A4, c4, n4, rfl, en4, r4, b4⟩
      have b24 := below_then B3.out b4
      have I4 := Lib.hid ((HIL.out w4 A4 n4 b24 r4 en4).is c4)
      have B4 := Lib.hid b24; clear b24 b4
      clear ck3 cv3 r4 en4 HIL L3 B3
      go_wp2_with fail
      refine I4.out.mono ?_
      rintro e w5 ⟨rfl, b5⟩
      have b25 := below_then B4.out b5
      have ck5 := CK.out w5 b25
      have L5 := Lib.hid (HGT.out w5 b25)
      have B5 := Lib.hid b25; clear b25 b5
      clear I4 B4 CK HGT
      go_wp2_with fail
      refine L5.out.mono ?_
      rintro e w6 ⟨A6, c6, n6, rfl, en6, r6, b6⟩
      have b26 := below_then B5.out b6
      have I6 := Lib.hid ((HIG.out w6 A6 n6 b26 r6 en6).is c6)
      have B6 := Lib.hid b26; clear b26 b6
      clear ck5 r6 en6 HIG L5 B5
      go_wp2_with fail
      refine I6.out.mono ?_
      rintro e w7 ⟨rfl, b7⟩
      have b27 := below_then B6.out b7
      have I7 := Lib.hid ((TW.out.below b27).is c)
      have B7 := Lib.hid b27; clear b27 b7
      clear I6 B6
      go_wp2_with fail
      refine I7.out.mono ?_
      rintro e w8 ⟨rfl, b8⟩
      have B8 := Lib.hid (below_then B7.out b8); clear b8
      clear I7 B7
      go_wp2_with fail
      refine (HAW.out _).mono ?_
      rintro e w9 ⟨rfl, b9⟩
      have B9 := Lib.hid (below_then B8.out b9); clear b9
      clear B8
      go_wp2_with fail
      go_ret
      exact ⟨rfl, below_then B2.out B9.out⟩
    · have t1 : decide ((100 : Int) < (L1.length : Int)) = true := decide_eq_true (by omega)
      have t2 : decide (100 < L1.length) = true := decide_eq_true (by omega)
      clear hk HMD HK
      go_enter Try.func3, Try.ntmps3
      go_wp2_with fail
      refine HSM.out.mono ?_
      rintro e w1 ⟨rfl, hb⟩
      have HB := Lib.hid hb; clear hb
      go_wp2_with fail
      refine (HAW.out _).mono ?_
      rintro e w2 ⟨rfl, hb⟩
      have HB2 := Lib.hid hb; clear hb
      go_wp2_with fail
      go_ret
      exact ⟨rfl, below_then HB.out HB2.out⟩
/-! ### THE ROW's STEP -/
set_option maxRecDepth 100000 in
theorem lifted (os : Os) (started : os.Started) (H : Type) (enc : TypeId × Value → H) :
    ReturnsInHanded {} Try.checked os 3 .any (Rows.splitAtSpec.pre6 enc Try.prog Try.f3 Rows.splitAtRow.domain false) (Rows.splitAtSpec.post enc Try.prog Try.f3 false true false false) := by
  refine returnsInHanded_of_change (C := Try.checked) own started (by kernel_rfl) Try.func3
    (ChangeSpec.witness6 (enc := enc) (C := Try.checked) false ⟨#[], #[.slice none 0 0, .slice none 0 0], []⟩ 8 (by kernel_rfl) (by kernel_rfl) (by kernel_rfl) (by kernel_rfl)) ?_
  intro W base args ds gs before hval0 hW hcnd _
  have hval : ∀ (j : Nat) t v, Try.f3.params[j]? = some t → args[j]? = some v → Value.okWide Try.prog W .any base t v := hval0
  have hW' := hW
  obtain ⟨p, q, hA0, hV, rfl, hfz, hnd⟩ := hW
  have hA : DataW.TrodAll enc Try.prog W 0 (fun _ => true) true Try.f3.params.toList args.toList ds p := hA0
  rw [Try.params3] at hA hval
  obtain ⟨v0, vs0, d0, ds0, p0, q0, hargs, rfl, rfl, h0, r0⟩ := trodAll_cons hA
  obtain ⟨v1, vs1, d1, ds1, p1, q1, rfl, rfl, rfl, h1, r1⟩ := trodAll_cons r0
  obtain ⟨rfl, rfl, rfl⟩ := trodAll_nil r1
  obtain rfl : args = #[v0, v1] := by cases args; simp_all
  obtain ⟨rfl, rfl⟩ := trodVars_none hV
  have lt0 : ∀ x ∈ p0, x.block < W.heap.size := by obtain ⟨m, hm⟩ := h0; exact DataW.trod_lt m _ _ _ hm
  have ok0 := hval 0 22 v0 rfl rfl
  have lt1 : ∀ x ∈ p1, x.block < W.heap.size := by obtain ⟨m, hm⟩ := h1; exact DataW.trod_lt m _ _ _ hm
  have ok1 := hval 1 23 v1 rfl rfl
  clear hA0 hval0 hval
  obtain ⟨A0, c0, L0, rfl, hc0, hm0, ha0⟩ := ops_in ok0 h0
  obtain ⟨A1, c1, L1, rfl, hc1, hm1, ha1⟩ := bytes_in ok1 h1
  refine (walk W hc0 hm0 ha0 hc1 hm1 ha1).mono fun e W' ⟨he, bel⟩ => ?_
  subst he
  exact ⟨_, rfl, _, _, _, [], _, [], hW', trodAll_mk1 (shut_bool Try.underlying4 _), (trodAll_cons_mk (Below.trod laidOut (by kernel_rfl) (of_decide_eq_true (by kernel_rfl)) h0 bel lt0) (trodAll_cons_mk (Below.trod laidOut (by kernel_rfl) (of_decide_eq_true (by kernel_rfl)) h1 bel lt1) trodAll_mk0)), rfl, bel.frame _, fun h => by cases h⟩

theorem over : Rows.splitAtRow.holds Try.pinned (OpenSpec.ofChange Rows.splitAtSpec) :=
  OpenClaim.holds_of_wide 3 Try.f3 rfl rfl rfl rfl rfl rfl rfl ⟨rfl, rfl, rfl, rfl, rfl⟩ rfl rfl rfl rfl rfl (by kernel_rfl) Try.func3 (by kernel_rfl)
    (of_decide_eq_true (by kernel_rfl)) (by unfold Func.isWrapper; first | (rw [if_pos (by decide +kernel)]; kernel_rfl) | (rw [if_neg (by decide +kernel)]; exact ⟨rfl, rfl⟩))
    (fun os started H enc _ => lifted os started H enc)

/-- ████ THE STATEMENT ████ -/
theorem proved : Rows.SplitAtSaid := over
#print axioms proved
end Go.Proofs.Ythkecgafdjpddaa.splitAt
