/-
  SplitBack: for every input the law answers true and leaves its arguments as they were: the walk is typed by hand, the row's step is the guide's template.
  Conditions: none beside the row's own.
-/
import Derived.Test.YthkecgafdjpddaaLaws
import Derived.Test.YthkecgafdjpddaaIn
import Derived.Test.YthkecgafdjpddaaRows
import Derived.WalkKit
import Derived.ProofKit
import Derived.OpenShut
import Derived.ShutString
import Derived.ChangeOld
import Derived.Below
namespace Go.Proofs.Ythkecgafdjpddaa.splitBack
open Go.ChangeShapes Go.WideShapes Go.ChangeAt Go.RowKit
set_option linter.unusedVariables false
theorem own : ownKnob Try.prog.godebug = none := by kernel_rfl
theorem laidOut : laidOutB Try.prog = true := by kernel_rfl
theorem cut_not {L : List Pr} {k : List UInt8} (hs : srt L) (h : has L k = false) : lts L k ++ gts L k = L := by rw [← oth_not h]; exact lts_oth hs k
theorem cut_has {L : List Pr} {k : List UInt8} (hs : srt L) (h : has L k = true) : lts L k ++ (k, val L k) :: gts L k = L := by rw [← oth_has hs h]; exact lts_oth hs k
theorem cut_few {L : List Pr} {k : List UInt8} (h : L.length ≤ 80) : (lts L k ++ gts L k).length < 1500 := by
  have h1 : (lts L k).length ≤ L.length := List.length_filter_le _ _
  have h2 : (gts L k).length ≤ L.length := List.length_filter_le _ _
  rw [List.length_append]
  omega
theorem _root_.Go.Proofs.Ythkecgafdjpddaa.Cutd.left {F : Nat → Prop} {L : List Pr} {k : List UInt8} {w : World} {pl pr va : Option Addr} {x : Nat} {is : Bool} (h : Cutd F L k w pl pr va x is) : Is F w (lts L k) pl := by
  obtain ⟨_, _, _, l, r, h4, h5, h6, h7, h8, h9⟩ := h
  exact ⟨l, h4, h6, h8⟩
theorem _root_.Go.Proofs.Ythkecgafdjpddaa.Cutd.right {F : Nat → Prop} {L : List Pr} {k : List UInt8} {w : World} {pl pr va : Option Addr} {x : Nat} {is : Bool} (h : Cutd F L k w pl pr va x is) : Is F w (gts L k) pr := by
  obtain ⟨_, _, _, l, r, h4, h5, h6, h7, h8, h9⟩ := h
  exact ⟨r, h5, h7, h9⟩
/-- what was cut, joined again at its key -/
theorem _root_.Go.Proofs.Ythkecgafdjpddaa.Cutd.joined {L : List Pr} {k : List UInt8} {w : World} {pl pr va K : Option Addr} {x n : Nat} {is : Bool} (h : Cutd All L k w pl pr va x is) (kc vc : Nat) (hK : Bts w K k) (hn : n = k.length) (hg : Good L) :
    ∀ W, has L k = true → Below w.heap.size w W → Calls Try.prog 20 #[.pointer pl, .agg #[.slice K n kc, .slice va x vc], .pointer pr] W fun e w' => ∃ p, e = .returned (.pointer p) ∧ Is All w' L p ∧ Below W.heap.size W w' := by
  intro W hh hW
  obtain ⟨e1, e2, e3, l, r, h4, h5, h6, h7, h8, h9⟩ := h
  have e := cut_has hg.sorted hh
  have hm : (k, val L k) ∈ L := by
    have : (k, val L k) ∈ lts L k ++ (k, val L k) :: gts L k := by simp
    rw [e] at this
    exact this
  have hz : l.size + r.size < 2000 := by
    have h1 : (lts L k).length ≤ L.length := List.length_filter_le _ _
    have h2 : (gts L k).length ≤ L.length := List.length_filter_le _ _
    have := hg.few
    rw [← Tr.length, ← Tr.length, h8, h9]
    omega
  subst hn e1
  refine (joinP_any (q := (k, val L k)) kc vc (fut W) (h4.below hW) (h5.below hW) (hK.below hW) (e3.below hW) (hg.fine.fits _ hm) h6 h7 hz).mono ?_
  rintro e' w' ⟨p, t, rfl, g1, g2, g3, g4⟩
  exact ⟨p, rfl, ⟨t, g1, g2, by rw [g3, h8, h9]; exact e⟩, g4⟩
set_option maxRecDepth 100000 in
set_option maxHeartbeats 4000000 in
theorem walk {A0 : Option Addr} {c0 : Nat} {L0 : List Opn} {A1 : Option Addr} {c1 : Nat} {L1 : List UInt8} (w : World) (hc0 : L0.length ≤ c0) (hm0 : c0 ≤ maxLen) (ha0 : Ocs w A0 L0) (hc1 : L1.length ≤ c1) (hm1 : c1 ≤ maxLen) (ha1 : Bts w A1 L1) :
    Calls Try.prog 5 #[.slice A0 L0.length c0, .slice A1 L1.length c1] w fun e w' => e = .returned (.bool true) ∧ Below w.heap.size w w' := by
  have hsm := fine_any ha0 c0 80 (by decide) (Nat.le_trans hc0 hm0)
  have HAW := Lib.hid awake_any
  have hl1 : L1.length ≤ 9223372036854775807 := Nat.le_trans hc1 hm1
  cases hs : (decide (L0.length ≤ 80) && tinyO L0) with
  | false =>
    rw [hs] at hsm
    have HSM := Lib.hid hsm; clear hsm
    clear ha0 hs hc0 hm0 ha1 hc1 hm1
    go_enter Try.func5, Try.ntmps5
    go_wp2_with fail
    refine HSM.out.mono ?_
    rintro e w1 ⟨rfl, hb⟩
    have HB := Lib.hid hb; clear hb
    go_wp2_with fail
    refine (HAW.out _).mono ?_
    rintro e w2 ⟨rfl, hb⟩
    have HB2 := Lib.hid hb; clear hb
    go_wp2_with fail
    go_ret
    exact ⟨rfl, below_then HB.out HB2.out⟩
  | true =>
    rw [hs] at hsm
    obtain ⟨hlen, htiny⟩ : L0.length ≤ 80 ∧ tinyO L0 = true := by simpa using hs
    have HSM := Lib.hid hsm; clear hsm
    have HMD := Lib.hid (fun W (h : Below w.heap.size w W) => made_two c0 (ha0.below h) (Nat.le_trans hlen (by decide)) htiny)
    have HK := Lib.hid ha1; clear ha1
    clear hs hc0 hm0 htiny ha0 hlen hc1 hm1
    by_cases hk : L1.length ≤ 100
    · have t1 : decide ((100 : Int) < (L1.length : Int)) = false := decide_eq_false (by omega)
      have t2 : decide (100 < L1.length) = false := decide_eq_false (by omega)
      obtain ⟨x, hx⟩ : ∃ x, x = L1.length := ⟨_, rfl⟩
      rw [← hx] at t1 t2 hl1 ⊢
      have HKL := Lib.hid hk; clear hk
      have HX := Lib.hid hx; clear hx
      go_enter Try.func5, Try.ntmps5
      go_wp2_with fail
      refine HSM.out.mono ?_
      rintro e w0 ⟨rfl, hb⟩
      have KM := Lib.hid (HMD.out w0 hb)
      have HB := Lib.hid hb; clear hb
      clear HMD HSM
      go_wp2_with fail
      refine KM.out.mono ?_
      rintro e w1 ⟨p, A, c, n, rfl, ht, hb1⟩
      obtain ⟨M, hM⟩ : ∃ M, M = plays L0 := ⟨_, rfl⟩
      rw [← hM] at ht
      have hb1' := below_then HB.out hb1
      have hkw := HK.out.below hb1'
      have hat := split_any c1 (fut _) ht.tree ht.good.fine hkw
      rw [← HX.out] at hat
      have HAT := Lib.hid hat; clear hat
      have HKW := Lib.hid hkw; clear hkw
      have HT := Lib.hid ht; clear ht
      have B1 := Lib.hid hb1'; clear hb1' hb1
      clear KM HB hM HK
      go_wp2_with fail
      refine HAT.out.mono ?_
      rintro e w2 ⟨pl, pr, va, vc, y, is, rfl, hcut, hb2⟩
      have B2 := Lib.hid (below_then B1.out hb2)
      have hp := pair_list (M := gts M L1) (fut _) (hcut.left) (hcut.right) (cut_few HT.out.good.few)
      have hj := hcut.joined (n := x) c1 vc (HKW.out.below hb2) HX.out HT.out.good
      have hnot := fun (h : has M L1 = false) => cut_not HT.out.good.sorted h
      have e2 := hcut.2.1
      have tw := HT.out.below hb2
      have HP := Lib.hid hp; clear hp
      have HJ := Lib.hid hj; clear hj
      have HN := Lib.hid hnot; clear hnot
      have TW := Lib.hid tw; clear tw
      have E2 := Lib.hid e2; clear e2
      clear hcut hb2 HT HKW HAT B1 HKL HX
      go_wp2_with fail
      refine HP.out.mono ?_
      rintro e w3 ⟨p3, rfl, h3, b3⟩
      cases is with
      | false =>
        rw [HN.out E2.out.symm] at h3
        have I3 := Lib.hid (Two.is (p := p3) ⟨h3, TW.out.rcs.below b3, TW.out.len, TW.out.good⟩ c)
        have B3 := Lib.hid (below_then B2.out b3); clear b3
        clear h3 HP HJ HN E2 B2 TW
        go_wp2_with fail
        refine I3.out.mono ?_
        rintro e w4 ⟨rfl, b4⟩
        have B4 := Lib.hid (below_then B3.out b4); clear b4
        clear I3 B3
        go_wp2_with fail
        refine (HAW.out _).mono ?_
        rintro e w5 ⟨rfl, b5⟩
        have B5 := Lib.hid (below_then B4.out b5); clear b5
        clear B4
        go_wp2_with fail
        go_ret
        exact ⟨rfl, B5.out⟩
      | true =>
        have J3 := Lib.hid (HJ.out w3 E2.out.symm b3)
        have B3 := Lib.hid b3; clear b3
        clear h3 HP HJ HN E2
        go_wp2_with fail
        refine J3.out.mono ?_
        rintro e w4 ⟨p4, rfl, h4, b4⟩
        have b24 := below_then B3.out b4
        have I4 := Lib.hid (Two.is (p := p4) ⟨h4, TW.out.rcs.below b24, TW.out.len, TW.out.good⟩ c)
        have B4 := Lib.hid (below_then B2.out b24); clear b4 b24
        clear h4 J3 B3 B2 TW
        go_wp2_with fail
        refine I4.out.mono ?_
        rintro e w5 ⟨rfl, b5⟩
        have B5 := Lib.hid (below_then B4.out b5); clear b5
        clear I4 B4
        go_wp2_with fail
        refine (HAW.out _).mono ?_
        rintro e w6 ⟨rfl, b6⟩
        have B6 := Lib.hid (below_then B5.out b6); clear b6
        clear B5
        go_wp2_with fail
        go_ret
        exact ⟨rfl, B6.out⟩
    · have t1 : decide ((100 : Int) < (L1.length : Int)) = true := decide_eq_true (by omega)
      have t2 : decide (100 < L1.length) = true := decide_eq_true (by omega)
      clear hk HMD HK
      go_enter Try.func5, Try.ntmps5
      go_wp2_with fail
      refine HSM.out.mono ?_
      rintro e w1 ⟨rfl, hb⟩
      have HB := Lib.hid hb; clear hb
      go_wp2_with fail
      refine (HAW.out _).mono ?_
      rintro e w2 ⟨rfl, hb⟩
      have HB2 := Lib.hid hb; clear hb
      go_wp2_with fail
      go_ret
      exact ⟨rfl, below_then HB.out HB2.out⟩
/-! ### THE ROW's STEP -/
set_option maxRecDepth 100000 in
theorem lifted (os : Os) (started : os.Started) (H : Type) (enc : TypeId × Value → H) :
    ReturnsInHanded {} Try.checked os 5 .any (Rows.splitBackSpec.pre6 enc Try.prog Try.f5 Rows.splitBackRow.domain false) (Rows.splitBackSpec.post enc Try.prog Try.f5 false true false false) := by
  refine returnsInHanded_of_change (C := Try.checked) own started (by kernel_rfl) Try.func5
    (ChangeSpec.witness6 (enc := enc) (C := Try.checked) false ⟨#[], #[.slice none 0 0, .slice none 0 0], []⟩ 8 (by kernel_rfl) (by kernel_rfl) (by kernel_rfl) (by kernel_rfl)) ?_
  intro W base args ds gs before hval0 hW hcnd _
  have hval : ∀ (j : Nat) t v, Try.f5.params[j]? = some t → args[j]? = some v → Value.okWide Try.prog W .any base t v := hval0
  have hW' := hW
  obtain ⟨p, q, hA0, hV, rfl, hfz, hnd⟩ := hW
  have hA : DataW.TrodAll enc Try.prog W 0 (fun _ => true) true Try.f5.params.toList args.toList ds p := hA0
  rw [Try.params5] at hA hval
  obtain ⟨v0, vs0, d0, ds0, p0, q0, hargs, rfl, rfl, h0, r0⟩ := trodAll_cons hA
  obtain ⟨v1, vs1, d1, ds1, p1, q1, rfl, rfl, rfl, h1, r1⟩ := trodAll_cons r0
  obtain ⟨rfl, rfl, rfl⟩ := trodAll_nil r1
  obtain rfl : args = #[v0, v1] := by cases args; simp_all
  obtain ⟨rfl, rfl⟩ := trodVars_none hV
  have lt0 : ∀ x ∈ p0, x.block < W.heap.size := by obtain ⟨m, hm⟩ := h0; exact DataW.trod_lt m _ _ _ hm
  have ok0 := hval 0 22 v0 rfl rfl
  have lt1 : ∀ x ∈ p1, x.block < W.heap.size := by obtain ⟨m, hm⟩ := h1; exact DataW.trod_lt m _ _ _ hm
  have ok1 := hval 1 23 v1 rfl rfl
  clear hA0 hval0 hval
  obtain ⟨A0, c0, L0, rfl, hc0, hm0, ha0⟩ := ops_in ok0 h0
  obtain ⟨A1, c1, L1, rfl, hc1, hm1, ha1⟩ := bytes_in ok1 h1
  refine (walk W hc0 hm0 ha0 hc1 hm1 ha1).mono fun e W' ⟨he, bel⟩ => ?_
  subst he
  exact ⟨_, rfl, _, _, _, [], _, [], hW', trodAll_mk1 (shut_bool Try.underlying4 _), (trodAll_cons_mk (Below.trod laidOut (by kernel_rfl) (of_decide_eq_true (by kernel_rfl)) h0 bel lt0) (trodAll_cons_mk (Below.trod laidOut (by kernel_rfl) (of_decide_eq_true (by kernel_rfl)) h1 bel lt1) trodAll_mk0)), rfl, bel.frame _, fun h => by cases h⟩

theorem over : Rows.splitBackRow.holds Try.pinned (OpenSpec.ofChange Rows.splitBackSpec) :=
  OpenClaim.holds_of_wide 5 Try.f5 rfl rfl rfl rfl rfl rfl rfl ⟨rfl, rfl, rfl, rfl, rfl⟩ rfl rfl rfl rfl rfl (by kernel_rfl) Try.func5 (by kernel_rfl)
    (of_decide_eq_true (by kernel_rfl)) (by unfold Func.isWrapper; first | (rw [if_pos (by decide +kernel)]; kernel_rfl) | (rw [if_neg (by decide +kernel)]; exact ⟨rfl, rfl⟩))
    (fun os started H enc _ => lifted os started H enc)

/-- ████ THE STATEMENT ████ -/
theorem proved : Rows.SplitBackSaid := over
#print axioms proved
end Go.Proofs.Ythkecgafdjpddaa.splitBack
