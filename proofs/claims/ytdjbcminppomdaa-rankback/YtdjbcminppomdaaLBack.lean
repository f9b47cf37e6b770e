/-
  RankBack: for every input the law answers true and leaves its arguments as they were: the walk is typed by hand, the row's step is the guide's template.
  Conditions: none beside the row's own.
-/
import Derived.Test.YtdjbcminppomdaaLaws
import Derived.Test.YtdjbcminppomdaaIn
import Derived.Test.YtdjbcminppomdaaRows
import Derived.WalkKit
import Derived.ProofKit
import Derived.OpenShut
import Derived.ShutString
import Derived.ChangeOld
import Derived.Below
namespace Go.Proofs.Ytdjbcminppomdaa.rankBack
open Go.ChangeShapes Go.WideShapes Go.ChangeAt Go.RowKit
set_option linter.unusedVariables false
theorem own : ownKnob Try.prog.godebug = none := by kernel_rfl
theorem laidOut : laidOutB Try.prog = true := by kernel_rfl
set_option maxRecDepth 100000 in
set_option maxHeartbeats 4000000 in
theorem walk {A0 : Option Addr} {c0 : Nat} {L0 : List Opn} (w : World) (hc0 : L0.length ≤ c0) (hm0 : c0 ≤ maxLen) (ha0 : Ocs w A0 L0) :
    Calls Try.prog 5 #[.slice A0 L0.length c0] w fun e w' => e = .returned (.bool true) ∧ Below w.heap.size w w' := by
  have hsm := fine_any ha0 c0 60 (by decide) (Nat.le_trans hc0 hm0)
  have HAW := Lib.hid awake_any
  cases hs : (decide (L0.length ≤ 60) && tinyO L0) with
  | false =>
    rw [hs] at hsm
    have HSM := Lib.hid hsm; clear hsm
    clear ha0 hs hc0 hm0
    go_enter Try.func5, Try.ntmps5
    go_wp2_with fail
    refine HSM.out.mono ?_
    rintro e w1 ⟨rfl, hb⟩
    have HB := Lib.hid hb; clear hb
    go_wp2_with fail
    refine (HAW.out _).mono ?_
    rintro e w2 ⟨rfl, hb⟩
    have HB2 := Lib.hid hb; clear hb
    go_wp2_with fail
    go_ret
    exact ⟨rfl, below_then HB.out HB2.out⟩
  | true =>
    rw [hs] at hsm
    obtain ⟨hlen, htiny⟩ : L0.length ≤ 60 ∧ tinyO L0 = true := by simpa using hs
    have HSM := Lib.hid hsm; clear hsm
    have HMD := Lib.hid (fun W (h : Below w.heap.size w W) => made_tell c0 (ha0.below h) (by omega) htiny)
    have HSR := Lib.hid (plays_srt (by omega) htiny).1
    clear hs hc0 hm0 htiny ha0 hlen
    go_enter Try.func5, Try.ntmps5
    go_wp2_with fail
    refine HSM.out.mono ?_
    rintro e w0 ⟨rfl, hb⟩
    have KM := Lib.hid (HMD.out w0 hb)
    have HB := Lib.hid hb; clear hb
    clear HMD HSM
    go_wp2_with fail
    refine KM.out.mono ?_
    rintro e w1 ⟨p, A, c, n, rfl, hn, hn80, ht, hb1⟩
    obtain ⟨M, hM⟩ : ∃ M, M = plays L0 := ⟨_, rfl⟩
    rw [← hM] at hn ht HSR
    have HT := Lib.hid ht; clear ht
    have HN := Lib.hid hn; clear hn
    have HB1 := Lib.hid (below_then HB.out hb1); clear hb1
    clear KM HB hM
    go_wp2_with fail
    go_loopw [25] (fun i wr => ∃ j : Nat, i = .int .i64 j ∧ j ≤ n ∧ Hid (Below w1.heap.size w1 wr)) (fun i _ => n - (intOf i).toNat)
    case atStart => exact ⟨0, rfl, by omega, Below.refl _ _⟩
    case round =>
      obtain ⟨j, rfl, hj, hbel⟩ := hrel
      by_cases hlt : j < n
      · have hjM : j < M.length := by have := HN.out; omega
        have e1 := nth_at hjM
        have e2 := rank_at HSR.out hjM
        have e3 := upTo_at HSR.out hjM
        obtain ⟨q, hq⟩ : ∃ q, q = M[j] := ⟨_, rfl⟩
        rw [← hq] at e1 e2 e3
        have K1 := HT.out.ta wr (j : Int) hbel.out (by omega) (by omega)
        have K2 := fun W K kc x h1 h2 h3 => HT.out.fl W K kc q.1 x h1 h2 h3
        have K3 := fun W K kc x h1 h2 h3 => HT.out.ce W K kc q.1 x h1 h2 h3
        have K4 := fun W K kc x h1 h2 h3 => HT.out.rk W K kc q.1 x h1 h2 h3
        have K5 := fun W ka kc va vc x1 x2 is h1 h2 => HT.out.ra W (some q) (j : Int) ka kc va vc x1 x2 is h1 e1.symm h2 (by omega) (by omega)
        rw [e1] at K1
        rw [e3, show (((j + 1 : Nat) : Int) - 1) = (j : Int) by omega, e1] at K2
        rw [e2, e1] at K3
        rw [e2] at K4
        have J1 := Lib.hid K1; clear K1
        have J2 := Lib.hid K2; clear K2
        have J3 := Lib.hid K3; clear K3
        have J4 := Lib.hid K4; clear K4
        have J5 := Lib.hid K5; clear K5
        clear e1 e2 e3 hq hjM
        go_wp2_with fail
        refine J1.out.mono ?_
        rintro e w2 ⟨⟨ka, kc, va, vc, x1, x2, is, rfl, hp⟩, hb2⟩
        obtain rfl : is = true := hp.2.2.1
        obtain ⟨w3, hw3, b3, z3, k3⟩ := box_pair w2 ka va x1 kc x2 vc
        have b13 := below_then hb2 b3
        have hkey : ∀ W, Below w3.heap.size w3 W → Bts W ka q.1 := fun W h => ((hp.2.2.2.1.below b3).below h)
        have hx1 : x1 = q.1.length := hp.1
        have I2 := Lib.hid (J2.out w3 ka kc x1 (below_then hbel.out b13) (hkey w3 (Below.refl _ _)) hx1)
        have I3 := Lib.hid (fun W (h : Below w3.heap.size w3 W) => J3.out W ka kc x1 (below_then (below_then hbel.out b13) h) (hkey W h) hx1)
        have I4 := Lib.hid (fun W (h : Below w3.heap.size w3 W) => J4.out W ka kc x1 (below_then (below_then hbel.out b13) h) (hkey W h) hx1)
        have B3 := Lib.hid (below_then hbel.out b13)
        have C3 := Lib.hid k3; clear k3
        have HW3 := Lib.hid hw3; clear hw3
        clear hp hb2 b3 z3 J1 J2 J3 J4 hkey hx1 b13
        obtain ⟨d0, d1⟩ := C3.out w3 (Below.refl _ _)
        go_wp2_with (rw [← HW3.out])
        refine I2.out.mono ?_
        rintro e w4 ⟨⟨ka2, kc2, va2, vc2, y1, y2, is2, rfl, hp⟩, hb4⟩
        obtain ⟨w5, hw5, b5, z5, k5⟩ := box_pair w4 ka2 va2 y1 kc2 y2 vc2
        have b35 := below_then hb4 b5
        have L3 := Lib.hid (I3.out w5 b35)
        have P2 := Lib.hid (hp.below b5)
        have C5 := Lib.hid k5; clear k5
        have HW5 := Lib.hid hw5; clear hw5
        clear d0 d1 hp hb4 b5 z5 I2 I3 HW3
        obtain ⟨d0, d1⟩ := C3.out w5 b35
        have B35 := Lib.hid b35; clear b35
        go_wp2_with (rw [← HW5.out])
        refine L3.out.mono ?_
        rintro e w6 ⟨⟨ka3, kc3, va3, vc3, v1, v2, is3, rfl, hp⟩, hb6⟩
        obtain ⟨w7, hw7, b7, z7, k7⟩ := box_pair w6 ka3 va3 v1 kc3 v2 vc3
        have b57 := below_then hb6 b7
        have b37 := below_then B35.out b57
        have L4 := Lib.hid (I4.out w7 b37)
        have P3 := Lib.hid (hp.below b7)
        have P2' := Lib.hid (P2.out.below b57)
        have C7 := Lib.hid k7; clear k7
        have C5' := Lib.hid (fun W (h : Below w7.heap.size w7 W) => C5.out W (below_then b57 h))
        have HW7 := Lib.hid hw7; clear hw7
        clear d0 d1 hp hb6 b7 z7 L3 I4 HW5 P2 C5 b57 B35
        obtain ⟨d0, d1⟩ := C3.out w7 b37
        have B7 := Lib.hid (below_then B3.out b37); clear b37
        go_wp2_with (rw [← HW7.out])
        refine L4.out.mono ?_
        rintro e w8 ⟨rfl, hb8⟩
        obtain ⟨f0, f1⟩ := C5'.out w8 hb8
        have N1 := Lib.hid (J5.out w8 ka2 kc2 va2 vc2 y1 y2 is2 (below_then B7.out hb8) (P2'.out.below hb8))
        have HB8 := Lib.hid hb8; clear hb8
        clear d0 d1 L4 HW7
        go_wp2_with fail
        refine N1.out.mono ?_
        rintro e w9 ⟨rfl, hb9⟩
        have b79 := below_then HB8.out hb9
        obtain ⟨g0, g1⟩ := C7.out w9 b79
        have N2 := Lib.hid (J5.out w9 ka3 kc3 va3 vc3 v1 v2 is3 (below_then B7.out b79) (P3.out.below b79))
        have HB9 := Lib.hid (below_then B7.out b79); clear b79 hb9
        clear f0 f1 N1
        go_wp2_with fail
        refine N2.out.mono ?_
        rintro e w10 ⟨rfl, hb10⟩
        have HB10 := Lib.hid (below_then HB9.out hb10); clear hb10
        clear g0 g1 N2
        go_wp2_with fail
        go_roundw
        case rel => exact ⟨j + 1, by go_num, by omega, HB10.out⟩
        case measure => simp [intOf]; omega
      · have K1 := HT.out.ta wr (n : Int) hbel.out (by omega) (by omega)
        rw [nth_out (by have := HN.out; omega)] at K1
        have J1 := Lib.hid K1; clear K1
        go_wp2_with fail
        refine J1.out.mono ?_
        rintro e w2 ⟨⟨ka, kc, va, vc, x1, x2, is, rfl, hp⟩, hb2⟩
        obtain rfl : is = false := hp.2.2.1
        obtain ⟨w3, hw3, b3, _, _⟩ := box_pair w2 ka va x1 kc x2 vc
        have HW3 := Lib.hid hw3; clear hw3
        have B3 := Lib.hid (below_then hbel.out (below_then hb2 b3))
        clear hp hb2 b3 J1
        go_wp2_with (rw [← HW3.out])
        refine (HAW.out _).mono ?_
        rintro e w4 ⟨rfl, hb4⟩
        have HB4 := Lib.hid hb4; clear hb4
        go_wp2_with fail
        go_ret
        exact ⟨rfl, below_then HB1.out (below_then B3.out HB4.out)⟩
/-! ### THE ROW's STEP -/
set_option maxRecDepth 100000 in
theorem lifted (os : Os) (started : os.Started) (H : Type) (enc : TypeId × Value → H) :
    ReturnsInHanded {} Try.checked os 5 .any (Rows.rankBackSpec.pre6 enc Try.prog Try.f5 Rows.rankBackRow.domain false) (Rows.rankBackSpec.post enc Try.prog Try.f5 false true false false) := by
  refine returnsInHanded_of_change (C := Try.checked) own started (by kernel_rfl) Try.func5
    (ChangeSpec.witness6 (enc := enc) (C := Try.checked) false ⟨#[], #[.slice none 0 0], []⟩ 8 (by kernel_rfl) (by kernel_rfl) (by kernel_rfl) (by kernel_rfl)) ?_
  intro W base args ds gs before hval0 hW hcnd _
  have hval : ∀ (j : Nat) t v, Try.f5.params[j]? = some t → args[j]? = some v → Value.okWide Try.prog W .any base t v := hval0
  have hW' := hW
  obtain ⟨p, q, hA0, hV, rfl, hfz, hnd⟩ := hW
  have hA : DataW.TrodAll enc Try.prog W 0 (fun _ => true) true Try.f5.params.toList args.toList ds p := hA0
  rw [Try.params5] at hA hval
  obtain ⟨v0, vs0, d0, ds0, p0, q0, hargs, rfl, rfl, h0, r0⟩ := trodAll_cons hA
  obtain ⟨rfl, rfl, rfl⟩ := trodAll_nil r0
  obtain rfl : args = #[v0] := by cases args; simp_all
  obtain ⟨rfl, rfl⟩ := trodVars_none hV
  have lt0 : ∀ x ∈ p0, x.block < W.heap.size := by obtain ⟨m, hm⟩ := h0; exact DataW.trod_lt m _ _ _ hm
  have ok0 := hval 0 22 v0 rfl rfl
  clear hA0 hval0 hval
  obtain ⟨A0, c0, L0, rfl, hc0, hm0, ha0⟩ := ops_in ok0 h0
  refine (walk W hc0 hm0 ha0).mono fun e W' ⟨he, bel⟩ => ?_
  subst he
  exact ⟨_, rfl, _, _, _, [], _, [], hW', trodAll_mk1 (shut_bool Try.underlying4 _), (trodAll_cons_mk (Below.trod laidOut (by kernel_rfl) (of_decide_eq_true (by kernel_rfl)) h0 bel lt0) trodAll_mk0), rfl, bel.frame _, fun h => by cases h⟩

theorem over : Rows.rankBackRow.holds Try.pinned (OpenSpec.ofChange Rows.rankBackSpec) :=
  OpenClaim.holds_of_wide 5 Try.f5 rfl rfl rfl rfl rfl rfl rfl ⟨rfl, rfl, rfl, rfl, rfl⟩ rfl rfl rfl rfl rfl (by kernel_rfl) Try.func5 (by kernel_rfl)
    (of_decide_eq_true (by kernel_rfl)) (by unfold Func.isWrapper; first | (rw [if_pos (by decide +kernel)]; kernel_rfl) | (rw [if_neg (by decide +kernel)]; exact ⟨rfl, rfl⟩))
    (fun os started H enc _ => lifted os started H enc)

/-- ████ THE STATEMENT ████ -/
theorem proved : Rows.RankBackSaid := over
#print axioms proved
end Go.Proofs.Ytdjbcminppomdaa.rankBack
