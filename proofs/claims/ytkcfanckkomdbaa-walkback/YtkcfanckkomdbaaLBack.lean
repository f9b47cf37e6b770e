/-
  WalkBack: for every input the law answers true and leaves its arguments as they were: the walk is typed by hand, the row's step is the guide's template.
  Conditions: none beside the row's own.
-/
import Derived.Test.YtkcfanckkomdbaaLaws
import Derived.Test.YtkcfanckkomdbaaIn
import Derived.Test.YtkcfanckkomdbaaRows
import Derived.WalkKit
import Derived.ProofKit
import Derived.OpenShut
import Derived.ShutString
import Derived.ChangeOld
import Derived.Below
namespace Go.Proofs.Ytkcfanckkomdbaa.walkBack
open Go.ChangeShapes Go.WideShapes Go.ChangeAt Go.RowKit
set_option linter.unusedVariables false
theorem own : ownKnob Try.prog.godebug = none := by kernel_rfl
theorem laidOut : laidOutB Try.prog = true := by kernel_rfl
set_option maxRecDepth 100000 in
set_option maxHeartbeats 4000000 in
theorem walk {A0 : Option Addr} {c0 : Nat} {L0 : List Opn} (w : World) (hc0 : L0.length ≤ c0) (hm0 : c0 ≤ maxLen) (ha0 : Ocs w A0 L0) :
    Calls Try.prog 6 #[.slice A0 L0.length c0] w fun e w' => e = .returned (.bool true) ∧ Below w.heap.size w w' := by
  have hsm := fine_any ha0 c0 60 (by decide) (Nat.le_trans hc0 hm0)
  have HAW := Lib.hid awake_any
  cases hs : (decide (L0.length ≤ 60) && tinyO L0) with
  | false =>
    rw [hs] at hsm
    have HSM := Lib.hid hsm; clear hsm
    clear ha0 hs hc0 hm0
    go_enter Try.func6, Try.ntmps6
    go_wp2_with fail
    refine HSM.out.mono ?_
    rintro e w1 ⟨rfl, hb⟩
    have HB := Lib.hid hb; clear hb
    go_wp2_with fail
    refine (HAW.out _).mono ?_
    rintro e w2 ⟨rfl, hb⟩
    have HB2 := Lib.hid hb; clear hb
    go_wp2_with fail
    go_ret
    exact ⟨rfl, below_then HB.out HB2.out⟩
  | true =>
    rw [hs] at hsm
    obtain ⟨hlen, htiny⟩ : L0.length ≤ 60 ∧ tinyO L0 = true := by simpa using hs
    have HSM := Lib.hid hsm; clear hsm
    have HMD := Lib.hid (fun W (h : Below w.heap.size w W) => made_mod c0 (ha0.below h) (by omega) htiny)
    clear hs hc0 hm0 htiny ha0 hlen
    go_enter Try.func6, Try.ntmps6
    go_wp2_with fail
    refine HSM.out.mono ?_
    rintro e w0 ⟨rfl, hb⟩
    have KM := Lib.hid (HMD.out w0 hb)
    have HB := Lib.hid hb; clear hb
    clear HMD HSM
    go_wp2_with fail
    refine KM.out.mono ?_
    rintro e w1 ⟨p, A, c, n, M, rfl, -, hwo, hmo, hb1⟩
    have hn80 := hmo.few
    have KC := Lib.hid (hwo.cursor (k := 0) 0 (by omega) (by omega) (by rfl))
    have HLE := Lib.hid hmo.len
    have HMO := Lib.hid hmo; clear hmo
    have HB1 := Lib.hid (below_then HB.out hb1); clear hb1
    clear KM HB hwo
    go_wp2_with fail
    refine KC.out.mono ?_
    rintro e w2 ⟨g, rfl, hg, hG, hb2⟩
    have HG := Lib.hid hG; clear hG
    have HM2 := Lib.hid (HMO.out.below hb2)
    have HGG := Lib.hid hg; clear hg
    have HB2 := Lib.hid hb2; clear hb2
    clear KC HMO
    go_wp2_with fail
    go_loopw [31] (fun i wr => ∃ j : Nat, i = .int .i64 j ∧ j ≤ n ∧ Hid (Goes wr g p j M) ∧ Hid (Mod wr M A n) ∧ Hid (Onl g w2 wr)) (fun i _ => n - (intOf i).toNat)
    case atStart => exact ⟨0, rfl, by omega, HG.out, HM2.out, Only.refl _ _⟩
    case round =>
      obtain ⟨j, rfl, hj, hGj, hMj, hOj⟩ := hrel
      clear HG HM2
      by_cases hlt : j < n
      · obtain ⟨o, ho⟩ : ∃ o, nth M (j : Int) = o := ⟨_, rfl⟩
        have K1 := Lib.hid (hGj.out.next (k' := j + 1) ho (by have := HLE.out; omega))
        have HO := Lib.hid ho; clear ho
        go_wp2_with fail
        refine K1.out.mono ?_
        rintro e w3 ⟨⟨ka, kc, va, vc, x1, x2, is, rfl, hp⟩, hG3, hO3⟩
        obtain ⟨w4, hw4, hb4, hX4⟩ := box_var w3 ka x1 kc va x2 vc
        have hM4 := (hMj.out.curs hGj.out.cur hO3).below hb4
        have K2 := Lib.hid (hM4.at c kc vc HO.out (hp.below hb4) (by omega) (by omega))
        have HG4 := Lib.hid (hG3.below hb4)
        have HM4 := Lib.hid hM4
        have HO4 := Lib.hid ((hOj.out.trans hO3).trans (Only.of hb4))
        have HW4 := Lib.hid hw4; clear hw4
        obtain ⟨d0, d1⟩ := hX4.cells
        clear hp hG3 hO3 hb4 hX4 hM4 K1 HO hGj hMj hOj
        go_wp2_with (rw [← HW4.out])
        refine K2.out.mono ?_
        rintro e w5 ⟨rfl, hb5⟩
        have HG5 := Lib.hid (HG4.out.below hb5)
        have HM5 := Lib.hid (HM4.out.below hb5)
        have HO5 := Lib.hid (HO4.out.trans (Only.of hb5)); clear hb5
        clear d0 d1 HG4 HM4 HO4 K2 HW4
        go_wp2_with fail
        go_roundw
        case rel => exact ⟨j + 1, by go_num, by omega, HG5.out, HM5.out, HO5.out⟩
        case measure => simp [intOf]; omega
      · obtain rfl : j = n := by omega
        have K1 := Lib.hid (hGj.out.next (k' := j) (o := none) (nth_out (by have := HLE.out; omega)) (by have := HLE.out; omega))
        go_wp2_with fail
        refine K1.out.mono ?_
        rintro e w3 ⟨⟨ka, kc, va, vc, x1, x2, is, rfl, hp⟩, hG3, hO3⟩
        obtain rfl : is = false := hp.2.2.1
        obtain ⟨w4, hw4, hb4, hX4⟩ := box_var w3 ka x1 kc va x2 vc
        have HM4 := Lib.hid ((hMj.out.curs hGj.out.cur hO3).below hb4)
        have HG4 := Lib.hid (hG3.below hb4)
        have HO4 := Lib.hid ((hOj.out.trans hO3).trans (Only.of hb4))
        have HW4 := Lib.hid hw4; clear hw4
        clear hp hG3 hO3 hb4 hX4 K1 hGj hMj hOj
        go_wp2_with (rw [← HW4.out])
        go_loopw [54] (fun i wr => ∃ m : Nat, i = .int .i64 m ∧ m ≤ j ∧ Hid (Goes wr g p (j - m) M) ∧ Hid (Mod wr M A j) ∧ Hid (Onl g w2 wr)) (fun i _ => j - (intOf i).toNat)
        case atStart => exact ⟨0, rfl, by omega, HG4.out, HM4.out, HO4.out⟩
        case round =>
          obtain ⟨m, rfl, hm, hGm, hMm, hOm⟩ := hrel
          clear HG4 HM4 HO4
          by_cases hmt : m < j
          · obtain ⟨o, ho⟩ : ∃ o, nth M ((j : Int) - 1 - (m : Int)) = o := ⟨_, rfl⟩
            have K1 := Lib.hid (hGm.out.back (o := o) (k' := j - (m + 1)) (by rw [← ho]; congr 1; omega) (by omega))
            have HO := Lib.hid ho; clear ho
            clear HW4
            go_wp2_with fail
            refine K1.out.mono ?_
            rintro e w5 ⟨⟨ka, kc, va, vc, x1, x2, is, rfl, hp⟩, hG5, hO5⟩
            obtain ⟨w6, hw6, hb6, hX6⟩ := box_var w5 ka x1 kc va x2 vc
            have hM6 := (hMm.out.curs hGm.out.cur hO5).below hb6
            have K2 := Lib.hid (hM6.at c kc vc HO.out (hp.below hb6) (by omega) (by omega))
            have HG6 := Lib.hid (hG5.below hb6)
            have HM6 := Lib.hid hM6
            have HO6 := Lib.hid ((hOm.out.trans hO5).trans (Only.of hb6))
            have HW6 := Lib.hid hw6; clear hw6
            obtain ⟨d0, d1⟩ := hX6.cells
            clear hp hG5 hO5 hb6 hX6 hM6 K1 HO hGm hMm hOm
            go_wp2_with (rw [← HW6.out])
            refine K2.out.mono ?_
            rintro e w7 ⟨rfl, hb7⟩
            have HG7 := Lib.hid (HG6.out.below hb7)
            have HM7 := Lib.hid (HM6.out.below hb7)
            have HO7 := Lib.hid (HO6.out.trans (Only.of hb7)); clear hb7
            clear d0 d1 HG6 HM6 HO6 K2 HW6
            go_wp2_with fail
            go_roundw
            case rel => exact ⟨m + 1, by go_num, by omega, HG7.out, HM7.out, HO7.out⟩
            case measure => simp [intOf]; omega
          · obtain rfl : m = j := by omega
            have K1 := Lib.hid (hGm.out.back (k' := 0) (o := none) (nth_neg _ (by omega)) (by omega))
            clear HW4
            go_wp2_with fail
            refine K1.out.mono ?_
            rintro e w5 ⟨⟨ka, kc, va, vc, x1, x2, is, rfl, hp⟩, hG5, hO5⟩
            obtain rfl : is = false := hp.2.2.1
            obtain ⟨w6, hw6, hb6, hX6⟩ := box_var w5 ka x1 kc va x2 vc
            have K2 := Lib.hid (hG5.below hb6).place
            have k3 := (hG5.below hb6).left HLE.out
            rw [show (m : Int) - ((0 : Nat) : Int) = (m : Int) by omega] at k3
            have K3 := Lib.hid k3; clear k3
            have HO6 := Lib.hid ((hOm.out.trans hO5).trans (Only.of hb6))
            have HW6 := Lib.hid hw6; clear hw6
            clear hp hG5 hO5 hb6 hX6 K1 hGm hMm hOm
            go_wp2_with (rw [← HW6.out])
            refine K2.out.mono ?_
            rintro e w' ⟨rfl, rfl⟩
            go_wp2_with fail
            refine K3.out.mono ?_
            rintro e w7 ⟨rfl, hb7⟩
            have HO7 := Lib.hid (HO6.out.trans (Only.of hb7)); clear hb7
            clear K2 K3 HO6 HW6
            go_wp2_with fail
            refine (HAW.out _).mono ?_
            rintro e w8 ⟨rfl, hb8⟩
            have HO8 := Lib.hid (HO7.out.trans (Only.of hb8)); clear hb8
            go_wp2_with fail
            go_ret
            have q1 := HB1.out
            have q2 := HB2.out
            exact ⟨rfl, (below_then q1 q2).trans (HO8.out.below (Nat.le_trans q1.size q2.size) (by rw [HGG.out]; exact q1.size))⟩
/-! ### THE ROW's STEP -/
set_option maxRecDepth 100000 in
theorem lifted (os : Os) (started : os.Started) (H : Type) (enc : TypeId × Value → H) :
    ReturnsInHanded {} Try.checked os 6 .any (Rows.walkBackSpec.pre6 enc Try.prog Try.f6 Rows.walkBackRow.domain false) (Rows.walkBackSpec.post enc Try.prog Try.f6 false true false false) := by
  refine returnsInHanded_of_change (C := Try.checked) own started (by kernel_rfl) Try.func6
    (ChangeSpec.witness6 (enc := enc) (C := Try.checked) false ⟨#[], #[.slice none 0 0], []⟩ 8 (by kernel_rfl) (by kernel_rfl) (by kernel_rfl) (by kernel_rfl)) ?_
  intro W base args ds gs before hval0 hW hcnd _
  have hval : ∀ (j : Nat) t v, Try.f6.params[j]? = some t → args[j]? = some v → Value.okWide Try.prog W .any base t v := hval0
  have hW' := hW
  obtain ⟨p, q, hA0, hV, rfl, hfz, hnd⟩ := hW
  have hA : DataW.TrodAll enc Try.prog W 0 (fun _ => true) true Try.f6.params.toList args.toList ds p := hA0
  rw [Try.params6] at hA hval
  obtain ⟨v0, vs0, d0, ds0, p0, q0, hargs, rfl, rfl, h0, r0⟩ := trodAll_cons hA
  obtain ⟨rfl, rfl, rfl⟩ := trodAll_nil r0
  obtain rfl : args = #[v0] := by cases args; simp_all
  obtain ⟨rfl, rfl⟩ := trodVars_none hV
  have lt0 : ∀ x ∈ p0, x.block < W.heap.size := by obtain ⟨m, hm⟩ := h0; exact DataW.trod_lt m _ _ _ hm
  have ok0 := hval 0 22 v0 rfl rfl
  clear hA0 hval0 hval
  obtain ⟨A0, c0, L0, rfl, hc0, hm0, ha0⟩ := ops_in ok0 h0
  refine (walk W hc0 hm0 ha0).mono fun e W' ⟨he, bel⟩ => ?_
  subst he
  exact ⟨_, rfl, _, _, _, [], _, [], hW', trodAll_mk1 (shut_bool Try.underlying4 _), (trodAll_cons_mk (Below.trod laidOut (by kernel_rfl) (of_decide_eq_true (by kernel_rfl)) h0 bel lt0) trodAll_mk0), rfl, bel.frame _, fun h => by cases h⟩

theorem over : Rows.walkBackRow.holds Try.pinned (OpenSpec.ofChange Rows.walkBackSpec) :=
  OpenClaim.holds_of_wide 6 Try.f6 rfl rfl rfl rfl rfl rfl rfl ⟨rfl, rfl, rfl, rfl, rfl⟩ rfl rfl rfl rfl rfl (by kernel_rfl) Try.func6 (by kernel_rfl)
    (of_decide_eq_true (by kernel_rfl)) (by unfold Func.isWrapper; first | (rw [if_pos (by decide +kernel)]; kernel_rfl) | (rw [if_neg (by decide +kernel)]; exact ⟨rfl, rfl⟩))
    (fun os started H enc _ => lifted os started H enc)

/-- ████ THE STATEMENT ████ -/
theorem proved : Rows.WalkBackSaid := over
#print axioms proved
end Go.Proofs.Ytkcfanckkomdbaa.walkBack
