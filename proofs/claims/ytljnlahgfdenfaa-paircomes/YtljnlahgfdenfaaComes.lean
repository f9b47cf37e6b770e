/-
  PairComes: for every input the law answers true and leaves its arguments as they were: the walk is typed by hand, the row's step is the guide's template.
  Conditions: none beside the row's own.
-/
import Derived.Test.YtljnlahgfdenfaaSmall
import Derived.Test.YtljnlahgfdenfaaOpen
import Derived.Test.YtljnlahgfdenfaaRows
import Derived.WalkKit
import Derived.ProofKit
import Derived.OpenShut
import Derived.ShutString
import Derived.ChangeOld
import Derived.Below
namespace Go.Proofs.Ytljnlahgfdenfaa.pairComes
open Go.ChangeShapes Go.WideShapes Go.ChangeAt Go.RowKit
set_option linter.unusedVariables false
theorem own : ownKnob Try.prog.godebug = none := by kernel_rfl
theorem laidOut : laidOutB Try.prog = true := by kernel_rfl
set_option maxRecDepth 100000 in
set_option maxHeartbeats 4000000 in
theorem walk {A0 : Option Addr} {c0 : Nat} {L0 : List Pr} (w : World) (hc0 : L0.length ≤ c0) (hm0 : c0 ≤ maxLen) (ha0 : Pcs w A0 L0) :
    Calls Try.prog 3 #[.slice A0 L0.length c0] w fun e w' => e = .returned (.bool true) ∧ Below w.heap.size w w' := by
  have hsm := small_any ha0 c0 60 (by decide) (Nat.le_trans hc0 hm0)
  have haw := awake_any
  cases hs : (decide (L0.length ≤ 60) && tiny L0) with
  | false =>
    rw [hs] at hsm
    have HSM := Lib.hid hsm; clear hsm
    have HAW := Lib.hid haw; clear haw
    clear ha0 hs hc0 hm0
    go_enter Try.func3, Try.ntmps3
    go_wp2_with fail
    refine HSM.out.mono ?_
    rintro e w1 ⟨rfl, hb⟩
    have HB := Lib.hid hb; clear hb
    go_wp2_with fail
    refine (HAW.out _).mono ?_
    rintro e w2 ⟨rfl, hb⟩
    have HB2 := Lib.hid hb; clear hb
    go_wp2_with fail
    go_ret
    exact ⟨rfl, below_then HB.out HB2.out⟩
  | true =>
    rw [hs] at hsm
    obtain ⟨hlen, htiny⟩ := small_true hs
    have hall := tiny_all htiny
    have hallc := tiny_come htiny
    have hcl := come_length L0
    have hse := come_self (come L0) (srt_come L0)
    have h1 := fun W (hW : Below w.heap.size w W) => come_any (ha0.below hW) c0 (by omega) (fun p hp => by have := hall p hp; omega)
    have h2 := fun W g (hN : News w.heap.size W g (come L0)) => map_all hN.pcs (come L0).length (by omega) (srt_come L0) hallc
    have h3 := fun W (hW : Below w.heap.size w W) => refOf_any (ha0.below hW) c0 (by omega)
    have h4 := fun W A c (hR : Rcs W A L0) => refCome_any hR c (by omega) (fun p hp => by have := hall p hp; omega)
    have h5 := fun W A B c d (hP : Pcs W A (come L0)) (hR : Rcs W B (come L0)) => refIs_any hP hR c d (by omega)
    have h6 := fun W g (hN : Pcs W (some ⟨g, 0, none⟩) (come L0)) => come_any hN (come L0).length (by omega) (fun p hp => by have := hallc p hp; omega)
    have h7 := fun W A B c d (hP : Pcs W A (come L0)) (hR : Pcs W B (come L0)) => same_any hP hR c d (by omega)
    simp only [hse, decide_true] at h5 h6 h7
    have HSM := Lib.hid hsm; clear hsm
    have HAW := Lib.hid haw; clear haw
    have H1 := Lib.hid h1; clear h1
    have H2 := Lib.hid h2; clear h2
    have H3 := Lib.hid h3; clear h3
    have H4 := Lib.hid h4; clear h4
    have H5 := Lib.hid h5; clear h5
    have H6 := Lib.hid h6; clear h6
    have H7 := Lib.hid h7; clear h7
    clear ha0 hs hc0 hm0 hall hallc hcl hse htiny
    go_enter Try.func3, Try.ntmps3
    go_wp2_with fail
    refine HSM.out.mono ?_
    rintro e w1 ⟨rfl, hb1⟩
    have HB1 := Lib.hid hb1; clear hb1
    go_wp2_with fail
    refine (H1.out _ HB1.out).mono ?_
    rintro e w2 ⟨g, rfl, hn2, hb⟩
    have HP2 := Lib.hid hn2.pcs
    have HN2 : Hid (News w.heap.size w2 g (come L0)) := by
      obtain ⟨q1, cur, q2, q3, q4⟩ := hn2
      have hz := HB1.out.size
      refine ⟨Nat.le_trans hz q1, cur, q2, q3, fun i hi => ?_⟩
      obtain ⟨kb, vb, s1, s2, s3, s4⟩ := q4 i hi
      exact ⟨kb, vb, s1, s2, ⟨Nat.le_trans hz s3.1, s3.2⟩, ⟨Nat.le_trans hz s4.1, s4.2⟩⟩
    have HB2 := Lib.hid (below_then HB1.out hb); clear hb hn2
    go_wp2_with fail
    refine (H2.out _ g HN2.out).mono ?_
    rintro e w3 ⟨rfl, hb⟩
    have HP3 := Lib.hid (HP2.out.below hb)
    have HB3 := Lib.hid (below_then HB2.out hb); clear hb
    go_wp2_with fail
    refine (H3.out _ HB3.out).mono ?_
    rintro e w4 ⟨A4, c4, rfl, hr4, hb⟩
    have HP4 := Lib.hid (HP3.out.below hb)
    have HR4 := Lib.hid hr4; clear hr4
    have HB4 := Lib.hid (below_then HB3.out hb); clear hb
    go_wp2_with fail
    refine (H4.out _ A4 c4 HR4.out).mono ?_
    rintro e w5 ⟨A5, c5, rfl, hr5, hb⟩
    have HP5 := Lib.hid (HP4.out.below hb)
    have HR5 := Lib.hid hr5; clear hr5
    have HB5 := Lib.hid (below_then HB4.out hb); clear hb
    go_wp2_with fail
    refine (H5.out _ _ _ _ _ HP5.out HR5.out).mono ?_
    rintro e w6 ⟨rfl, hb⟩
    have HP6 := Lib.hid (HP5.out.below hb)
    have HB6 := Lib.hid (below_then HB5.out hb); clear hb
    go_wp2_with fail
    refine (H6.out _ g HP6.out).mono ?_
    rintro e w7 ⟨g7, rfl, hn7, hb⟩
    have HP7 := Lib.hid (HP6.out.below hb)
    have HN7 := Lib.hid hn7.pcs; clear hn7
    have HB7 := Lib.hid (below_then HB6.out hb); clear hb
    go_wp2_with fail
    refine (H7.out _ _ _ _ _ HN7.out HP7.out).mono ?_
    rintro e w8 ⟨rfl, hb⟩
    have HB8 := Lib.hid (below_then HB7.out hb); clear hb
    go_wp2_with fail
    refine (HAW.out _).mono ?_
    rintro e w9 ⟨rfl, hb⟩
    have HB9 := Lib.hid (below_then HB8.out hb); clear hb
    go_wp2_with fail
    go_ret
    exact ⟨rfl, HB9.out⟩
/-! ### THE ROW's STEP -/
set_option maxRecDepth 100000 in
theorem lifted (os : Os) (started : os.Started) (H : Type) (enc : TypeId × Value → H) :
    ReturnsInHanded {} Try.checked os 3 .any (Rows.pairComesSpec.pre6 enc Try.prog Try.f3 Rows.pairComesRow.domain false) (Rows.pairComesSpec.post enc Try.prog Try.f3 false true false false) := by
  refine returnsInHanded_of_change (C := Try.checked) own started (by kernel_rfl) Try.func3
    (ChangeSpec.witness6 (enc := enc) (C := Try.checked) false ⟨#[], #[.slice none 0 0], []⟩ 8 (by kernel_rfl) (by kernel_rfl) (by kernel_rfl) (by kernel_rfl)) ?_
  intro W base args ds gs before hval0 hW hcnd _
  have hval : ∀ (j : Nat) t v, Try.f3.params[j]? = some t → args[j]? = some v → Value.okWide Try.prog W .any base t v := hval0
  have hW' := hW
  obtain ⟨p, q, hA0, hV, rfl, hfz, hnd⟩ := hW
  have hA : DataW.TrodAll enc Try.prog W 0 (fun _ => true) true Try.f3.params.toList args.toList ds p := hA0
  rw [Try.params3] at hA hval
  obtain ⟨v0, vs0, d0, ds0, p0, q0, hargs, rfl, rfl, h0, r0⟩ := trodAll_cons hA
  obtain ⟨rfl, rfl, rfl⟩ := trodAll_nil r0
  obtain rfl : args = #[v0] := by cases args; simp_all
  obtain ⟨rfl, rfl⟩ := trodVars_none hV
  obtain ⟨a0, len0, cap0, rfl⟩ := okWide_slice Try.underlying22 (hval 0 22 v0 rfl rfl)
  have k0 := h0
  have lt0 : ∀ x ∈ p0, x.block < W.heap.size := by obtain ⟨m, hm⟩ := k0; exact DataW.trod_lt m _ _ _ hm
  obtain ⟨A0, c0, L0, e0, hc0, hm0, ha0⟩ : ∃ (A : Option Addr) (c : Nat) (L : List Pr), Value.slice a0 len0 cap0 = .slice A L.length c ∧ L.length ≤ c ∧ c ≤ maxLen ∧ Pcs W A L := by
    obtain ⟨fuel, hf⟩ := h0
    exact pairs_open hf
  clear hA0 hval0
  obtain ⟨rfl, rfl, rfl⟩ : a0 = A0 ∧ len0 = L0.length ∧ cap0 = c0 := by
    injection e0 with x y z
    exact ⟨x, y, z⟩
  refine (walk W hc0 hm0 ha0).mono fun e W' ⟨he, bel⟩ => ?_
  subst he
  exact ⟨_, rfl, _, _, _, [], _, [], hW', trodAll_mk1 (shut_bool Try.underlying4 _), (trodAll_cons_mk (Below.trod laidOut (by kernel_rfl) (of_decide_eq_true (by kernel_rfl)) k0 bel lt0) trodAll_mk0), rfl, bel.frame _, fun h => by cases h⟩

theorem over : Rows.pairComesRow.holds Try.pinned (OpenSpec.ofChange Rows.pairComesSpec) :=
  OpenClaim.holds_of_wide 3 Try.f3 rfl rfl rfl rfl rfl rfl rfl ⟨rfl, rfl, rfl, rfl, rfl⟩ rfl rfl rfl rfl rfl (by kernel_rfl) Try.func3 (by kernel_rfl)
    (of_decide_eq_true (by kernel_rfl)) (by unfold Func.isWrapper; first | (rw [if_pos (by decide +kernel)]; kernel_rfl) | (rw [if_neg (by decide +kernel)]; exact ⟨rfl, rfl⟩))
    (fun os started H enc _ => lifted os started H enc)

/-- ████ THE STATEMENT ████ -/
theorem proved : Rows.PairComesSaid := over
#print axioms proved
end Go.Proofs.Ytljnlahgfdenfaa.pairComes
