/-
  PairFinds: for every input the law answers true and leaves its arguments as they were: the walk is typed by hand, the row's step is the guide's template.
  Conditions: none beside the row's own.
-/
import Derived.Test.YtljnlahgfdenfaaSmall
import Derived.Test.YtljnlahgfdenfaaOpen
import Derived.Test.YtljnlahgfdenfaaRows
import Derived.WalkKit
import Derived.ProofKit
import Derived.OpenShut
import Derived.ShutString
import Derived.ChangeOld
import Derived.Below
namespace Go.Proofs.Ytljnlahgfdenfaa.pairFinds
open Go.ChangeShapes Go.WideShapes Go.ChangeAt Go.RowKit
set_option linter.unusedVariables false
theorem own : ownKnob Try.prog.godebug = none := by kernel_rfl
theorem laidOut : laidOutB Try.prog = true := by kernel_rfl
set_option maxRecDepth 100000 in
set_option maxHeartbeats 4000000 in
theorem walk {A0 : Option Addr} {c0 : Nat} {L0 : List Pr} {A1 : Option Addr} {c1 : Nat} {L1 : List UInt8} (w : World) (hc0 : L0.length ≤ c0) (hm0 : c0 ≤ maxLen) (ha0 : Pcs w A0 L0) (hc1 : L1.length ≤ c1) (hm1 : c1 ≤ maxLen) (ha1 : Bts w A1 L1) :
    Calls Try.prog 6 #[.slice A0 L0.length c0, .slice A1 L1.length c1] w fun e w' => e = .returned (.bool true) ∧ Below w.heap.size w w' := by
  have hsm := small_any ha0 c0 60 (by decide) (Nat.le_trans hc0 hm0)
  have haw := awake_any
  have HAW := Lib.hid haw; clear haw
  cases hs : (decide (L0.length ≤ 60) && tiny L0) with
  | false =>
    rw [hs] at hsm
    have HSM := Lib.hid hsm; clear hsm
    clear ha0 hs hc0 hm0 ha1 hc1 hm1
    go_enter Try.func6, Try.ntmps6
    go_wp2_with fail
    refine HSM.out.mono ?_
    rintro e w1 ⟨rfl, hb⟩
    have HB := Lib.hid hb; clear hb
    go_wp2_with fail
    refine (HAW.out _).mono ?_
    rintro e w2 ⟨rfl, hb⟩
    have HB2 := Lib.hid hb; clear hb
    go_wp2_with fail
    go_ret
    exact ⟨rfl, below_then HB.out HB2.out⟩
  | true =>
    rw [hs] at hsm
    obtain ⟨hlen, htiny⟩ := small_true hs
    by_cases hk : 100 < L1.length
    · have HSM := Lib.hid hsm; clear hsm
      clear ha0 hs hc0 hm0 ha1 hc1 hm1 htiny
      go_enter Try.func6, Try.ntmps6
      go_wp2_with fail
      refine HSM.out.mono ?_
      rintro e w1 ⟨rfl, hb⟩
      have HB := Lib.hid hb; clear hb
      go_wp2_with fail
      refine (HAW.out _).mono ?_
      rintro e w2 ⟨rfl, hb⟩
      have HB2 := Lib.hid hb; clear hb
      go_wp2_with fail
      go_ret
      exact ⟨rfl, below_then HB.out HB2.out⟩
    · have hall := tiny_all htiny
      have hallc := tiny_come htiny
      have hcl := come_length L0
      have h1 := fun W (hW : Below w.heap.size w W) => come_any (ha0.below hW) c0 (by omega) (fun p hp => by have := hall p hp; omega)
      have h3 := fun W (hW : Below w.heap.size w W) => refOf_any (ha0.below hW) c0 (by omega)
      have h4 := fun W A c (hR : Rcs W A L0) => refCome_any hR c (by omega) (fun p hp => by have := hall p hp; omega)
      have h5 := fun W (hW : Below w.heap.size w W) => conv_any (ha1.below hW) c1
      have h6 := fun W A c (hR : Rcs W A (come L0)) => refGet_any hR c L1 (by omega)
      have h7 := fun W A c (hR : Rcs W A (come L0)) => refRank_any hR c L1 (by omega) (by omega) (fun p hp => by have := hallc p hp; omega)
      have h8 := fun W A c (hP : Pcs W A (come L0)) (hW : Below w.heap.size w W) => find_any hP (ha1.below hW) (srt_come L0) c c1 (by omega)
      have hrl := rank_le (come L0) L1
      obtain ⟨b, hbb⟩ : ∃ b, b = has (come L0) L1 := ⟨_, rfl⟩
      obtain ⟨r, hr⟩ : ∃ r, r = rank (come L0) L1 := ⟨_, rfl⟩
      obtain ⟨s, hss⟩ : ∃ s : ByteArray, s = ⟨L1.toArray⟩ := ⟨_, rfl⟩
      simp only [← hbb, ← hr, ← hss] at h5 h6 h7 h8
      have d1 : (b == b) = true := by cases b <;> rfl
      have HSM := Lib.hid hsm; clear hsm
      have H1 := Lib.hid h1; clear h1
      have H3 := Lib.hid h3; clear h3
      have H4 := Lib.hid h4; clear h4
      have H5 := Lib.hid h5; clear h5
      have H6 := Lib.hid h6; clear h6
      have H7 := Lib.hid h7; clear h7
      have H8 := Lib.hid h8; clear h8
      clear ha0 hs hc0 hm0 hall hallc hcl htiny ha1 hc1 hm1 hrl hbb hr hss
      go_enter Try.func6, Try.ntmps6
      go_wp2_with fail
      refine HSM.out.mono ?_
      rintro e w1 ⟨rfl, hb1⟩
      have HB1 := Lib.hid hb1; clear hb1
      go_wp2_with fail
      refine (H3.out _ HB1.out).mono ?_
      rintro e w4 ⟨A4, c4, rfl, hr4, hb⟩
      have HR4 := Lib.hid hr4; clear hr4
      have HB4 := Lib.hid (below_then HB1.out hb); clear hb
      go_wp2_with fail
      refine (H4.out _ A4 c4 HR4.out).mono ?_
      rintro e w5 ⟨A5, c5, rfl, hr5, hb⟩
      have HR5 := Lib.hid hr5; clear hr5
      have HB5 := Lib.hid (below_then HB4.out hb); clear hb
      have v5 := H5.out _ HB5.out
      go_wp2_with fail
      refine (H6.out _ A5 c5 HR5.out).mono ?_
      rintro e w6 ⟨s6, rfl, hb⟩
      have HR6 := Lib.hid (HR5.out.below hb)
      have HB6 := Lib.hid (below_then HB5.out hb); clear hb
      clear v5
      go_wp2_with fail
      refine (H1.out _ HB6.out).mono ?_
      rintro e w7 ⟨g, rfl, hn, hb⟩
      have HP7 := Lib.hid hn.pcs; clear hn
      have HR7 := Lib.hid (HR6.out.below hb)
      have HB7 := Lib.hid (below_then HB6.out hb); clear hb
      go_wp2_with fail
      refine (H8.out _ _ _ HP7.out HB7.out).mono ?_
      rintro e w8 ⟨rfl, hb⟩
      have HR8 := Lib.hid (HR7.out.below hb)
      have HB8 := Lib.hid (below_then HB7.out hb); clear hb
      have v8 := H5.out _ HB8.out
      go_wp2_with fail
      refine (H7.out _ A5 c5 HR8.out).mono ?_
      rintro e w9 ⟨rfl, hb⟩
      have HB9 := Lib.hid (below_then HB8.out hb); clear hb
      clear v8
      go_wp2_with fail
      refine (HAW.out _).mono ?_
      rintro e w10 ⟨rfl, hb⟩
      have HB10 := Lib.hid (below_then HB9.out hb); clear hb
      go_wp2_with fail
      go_ret
      exact ⟨rfl, HB10.out⟩
/-! ### THE ROW's STEP -/
set_option maxRecDepth 100000 in
theorem lifted (os : Os) (started : os.Started) (H : Type) (enc : TypeId × Value → H) :
    ReturnsInHanded {} Try.checked os 6 .any (Rows.pairFindsSpec.pre6 enc Try.prog Try.f6 Rows.pairFindsRow.domain false) (Rows.pairFindsSpec.post enc Try.prog Try.f6 false true false false) := by
  refine returnsInHanded_of_change (C := Try.checked) own started (by kernel_rfl) Try.func6
    (ChangeSpec.witness6 (enc := enc) (C := Try.checked) false ⟨#[], #[.slice none 0 0, .slice none 0 0], []⟩ 8 (by kernel_rfl) (by kernel_rfl) (by kernel_rfl) (by kernel_rfl)) ?_
  intro W base args ds gs before hval0 hW hcnd _
  have hval : ∀ (j : Nat) t v, Try.f6.params[j]? = some t → args[j]? = some v → Value.okWide Try.prog W .any base t v := hval0
  have hW' := hW
  obtain ⟨p, q, hA0, hV, rfl, hfz, hnd⟩ := hW
  have hA : DataW.TrodAll enc Try.prog W 0 (fun _ => true) true Try.f6.params.toList args.toList ds p := hA0
  rw [Try.params6] at hA hval
  obtain ⟨v0, vs0, d0, ds0, p0, q0, hargs, rfl, rfl, h0, r0⟩ := trodAll_cons hA
  obtain ⟨v1, vs1, d1, ds1, p1, q1, rfl, rfl, rfl, h1, r1⟩ := trodAll_cons r0
  obtain ⟨rfl, rfl, rfl⟩ := trodAll_nil r1
  obtain rfl : args = #[v0, v1] := by cases args; simp_all
  obtain ⟨rfl, rfl⟩ := trodVars_none hV
  obtain ⟨a0, len0, cap0, rfl⟩ := okWide_slice Try.underlying22 (hval 0 22 v0 rfl rfl)
  have k0 := h0
  have lt0 : ∀ x ∈ p0, x.block < W.heap.size := by obtain ⟨m, hm⟩ := k0; exact DataW.trod_lt m _ _ _ hm
  obtain ⟨A0, c0, L0, e0, hc0, hm0, ha0⟩ : ∃ (A : Option Addr) (c : Nat) (L : List Pr), Value.slice a0 len0 cap0 = .slice A L.length c ∧ L.length ≤ c ∧ c ≤ maxLen ∧ Pcs W A L := by
    obtain ⟨fuel, hf⟩ := h0
    exact pairs_open hf
  obtain ⟨a1, len1, cap1, rfl⟩ := okWide_slice Try.underlying35 (hval 1 35 v1 rfl rfl)
  have k1 := h1
  have lt1 : ∀ x ∈ p1, x.block < W.heap.size := by obtain ⟨m, hm⟩ := k1; exact DataW.trod_lt m _ _ _ hm
  obtain ⟨A1, c1, L1, e1, hc1, hm1, ha1⟩ : ∃ (A : Option Addr) (c : Nat) (L : List UInt8), Value.slice a1 len1 cap1 = .slice A L.length c ∧ L.length ≤ c ∧ c ≤ maxLen ∧ Bts W A L := by
    obtain ⟨fuel, hf⟩ := h1
    exact bytes_open hf
  clear hA0 hval0
  obtain ⟨rfl, rfl, rfl⟩ : a0 = A0 ∧ len0 = L0.length ∧ cap0 = c0 := by
    injection e0 with x y z
    exact ⟨x, y, z⟩
  obtain ⟨rfl, rfl, rfl⟩ : a1 = A1 ∧ len1 = L1.length ∧ cap1 = c1 := by
    injection e1 with x y z
    exact ⟨x, y, z⟩
  refine (walk W hc0 hm0 ha0 hc1 hm1 ha1).mono fun e W' ⟨he, bel⟩ => ?_
  subst he
  exact ⟨_, rfl, _, _, _, [], _, [], hW', trodAll_mk1 (shut_bool Try.underlying4 _), (trodAll_cons_mk (Below.trod laidOut (by kernel_rfl) (of_decide_eq_true (by kernel_rfl)) k0 bel lt0) (trodAll_cons_mk (Below.trod laidOut (by kernel_rfl) (of_decide_eq_true (by kernel_rfl)) k1 bel lt1) trodAll_mk0)), rfl, bel.frame _, fun h => by cases h⟩

theorem over : Rows.pairFindsRow.holds Try.pinned (OpenSpec.ofChange Rows.pairFindsSpec) :=
  OpenClaim.holds_of_wide 6 Try.f6 rfl rfl rfl rfl rfl rfl rfl ⟨rfl, rfl, rfl, rfl, rfl⟩ rfl rfl rfl rfl rfl (by kernel_rfl) Try.func6 (by kernel_rfl)
    (of_decide_eq_true (by kernel_rfl)) (by unfold Func.isWrapper; first | (rw [if_pos (by decide +kernel)]; kernel_rfl) | (rw [if_neg (by decide +kernel)]; exact ⟨rfl, rfl⟩))
    (fun os started H enc _ => lifted os started H enc)

/-- ████ THE STATEMENT ████ -/
theorem proved : Rows.PairFindsSaid := over
#print axioms proved
end Go.Proofs.Ytljnlahgfdenfaa.pairFinds
