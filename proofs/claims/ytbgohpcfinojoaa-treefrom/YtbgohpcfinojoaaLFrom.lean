/-
  TreeFrom: for every input the law answers true and leaves its arguments as they were: the walk is typed by hand, the row's step is the guide's template.
  Conditions: none beside the row's own.
-/
import Derived.Test.YtbgohpcfinojoaaFrom
import Derived.Test.YtbgohpcfinojoaaCome
import Derived.Test.YtbgohpcfinojoaaSmall
import Derived.Test.YtbgohpcfinojoaaPlays
import Derived.Test.YtbgohpcfinojoaaOpen
import Derived.Test.YtbgohpcfinojoaaRows
import Derived.WalkKit
import Derived.ProofKit
import Derived.OpenShut
import Derived.ShutString
import Derived.ChangeOld
import Derived.Below
namespace Go.Proofs.Ytbgohpcfinojoaa.treeFrom
open Go.ChangeShapes Go.WideShapes Go.ChangeAt Go.RowKit
set_option linter.unusedVariables false
theorem own : ownKnob Try.prog.godebug = none := by kernel_rfl
theorem laidOut : laidOutB Try.prog = true := by kernel_rfl
set_option maxRecDepth 100000 in
set_option maxHeartbeats 4000000 in
theorem walk {A0 : Option Addr} {c0 : Nat} {L0 : List Pr} (w : World) (hc0 : L0.length ≤ c0) (hm0 : c0 ≤ maxLen) (ha0 : Pcs w A0 L0) :
    Calls Try.prog 6 #[.slice A0 L0.length c0] w fun e w' => e = .returned (.bool true) ∧ Below w.heap.size w w' := by
  have hsm := small_any ha0 c0 120 (by decide) (Nat.le_trans hc0 hm0)
  have HAW := Lib.hid awake_any
  cases hs : (decide (L0.length ≤ 120) && tiny L0) with
  | false =>
    rw [hs] at hsm
    have HSM := Lib.hid hsm; clear hsm
    clear ha0 hs hc0 hm0
    go_enter Try.func6, Try.ntmps6
    go_wp2_with fail
    refine HSM.out.mono ?_
    rintro e w1 ⟨rfl, hb⟩
    have HB := Lib.hid hb; clear hb
    go_wp2_with fail
    refine (HAW.out _).mono ?_
    rintro e w2 ⟨rfl, hb⟩
    have HB2 := Lib.hid hb; clear hb
    go_wp2_with fail
    go_ret
    exact ⟨rfl, below_then HB.out HB2.out⟩
  | true =>
    rw [hs] at hsm
    obtain ⟨hlen, htiny⟩ : L0.length ≤ 120 ∧ tiny L0 = true := by simpa using hs
    have hty := tiny_all htiny
    have htc := tiny_come htiny
    have hcl := come_length L0
    have hco := fun W (hW : Below w.heap.size w W) => come_any (ha0.below hW) c0 (by omega) (fun q hq => by have := hty q hq; omega)
    have hsr := srt_come L0
    obtain ⟨M, hM⟩ : ∃ M, M = come L0 := ⟨_, rfl⟩
    simp only [← hM] at hco hsr htc hcl
    have hM1 : M.length ≤ 120 := by omega
    have HSM := Lib.hid hsm; clear hsm
    have HCO := Lib.hid hco; clear hco
    have HSR := Lib.hid hsr; clear hsr
    have HTC := Lib.hid htc; clear htc
    have HM1 := Lib.hid hM1; clear hM1
    clear hs hc0 hm0 htiny hty ha0 hcl hM
    go_enter Try.func6, Try.ntmps6
    go_wp2_with fail
    refine HSM.out.mono ?_
    rintro e w1 ⟨rfl, hb⟩
    have J1 := Lib.hid (HCO.out w1 hb)
    have HB := Lib.hid hb; clear hb
    clear HSM HCO
    go_wp2_with fail
    refine J1.out.mono ?_
    rintro e w2 ⟨g, rfl, hn, hb2⟩
    have hp := hn.pcs
    have J2 := Lib.hid (from_any (F := fun _ => True) (fun _ _ => trivial) hp (Nat.le_refl _) (by have := HM1.out; omega) (fun x hx => by have := HTC.out x hx; omega))
    have HP := Lib.hid hp; clear hp
    have HB2 := Lib.hid (below_then HB.out hb2); clear hb2
    obtain ⟨n, hnn⟩ : ∃ n, n = M.length := ⟨_, rfl⟩
    rw [← hnn] at J2 ⊢
    have HN := Lib.hid hnn; clear hnn
    clear hn J1 HB
    go_wp2_with fail
    refine J2.out.mono ?_
    rintro e w3 ⟨p, t, rfl, ht, hev, hli, hb3⟩
    have hts : t.size = n := by rw [← Tr.length, hli, HN.out]
    have hn1 : n ≤ 120 := by have := HN.out; have := HM1.out; omega
    have hcu := Tr.high_cube hev (by omega)
    rw [hts] at hcu
    have hfit : Fits t.list := fun x hx => by rw [hli] at hx; have := HTC.out x hx; omega
    have hl := list_any ht (by omega) hfit
    rw [hli] at hl
    have J3 := Lib.hid hl; clear hl
    have hszx := fun W (hW : Below w3.heap.size w3 W) => size_any (ht.below hW) (by omega)
    have hsox := fun W (hW : Below w3.heap.size w3 W) => sound_any (ht.below hW) (by omega) hev (by rw [hli]; exact HSR.out)
    have hhix := fun W (hW : Below w3.heap.size w3 W) => height_any t W p (by omega) (ht.below hW)
    obtain ⟨hh, hhh⟩ : ∃ hh, hh = t.high := ⟨_, rfl⟩
    simp only [hts, ← hhh] at hszx hhix hcu
    have hvi := fun W => visits_any hh n W (by omega) (by omega) hcu.2
    have hnil : (n = 0 ∧ p = none) ∨ (0 < n ∧ ∃ a, p = some a) := by
      cases t with
      | nil => left; exact ⟨by rw [← hts]; rfl, ht⟩
      | node a b c => right; obtain ⟨bb, rfl, _⟩ := tre_some ht (by intro e; cases e); exact ⟨by rw [← hts]; simp [Tr.size], _, rfl⟩
    have S1 := Lib.hid hszx; clear hszx
    have S2 := Lib.hid hsox; clear hsox
    have S3 := Lib.hid hhix; clear hhix
    have S4 := Lib.hid hvi; clear hvi
    have HP3 := Lib.hid (HP.out.below hb3)
    have HB3 := Lib.hid (below_then HB2.out hb3)
    have HM3 := Lib.hid hn1; clear hn1
    clear hb3 ht hev hli hts hcu hfit hhh J2 HP HB2
    go_wp2_with fail
    refine J3.out.mono ?_
    rintro e w4 ⟨A, c, rfl, hfr, hb4⟩
    have hsa := same_any hfr.pcs (HP3.out.below hb4) c n (by have := HM1.out; omega)
    rw [decide_eq_true (show M = M from rfl), ← HN.out] at hsa
    rw [← HN.out]
    have J4 := Lib.hid hsa; clear hsa
    have HB4 := Lib.hid hb4; clear hb4
    clear hfr J3
    go_wp2_with fail
    refine J4.out.mono ?_
    rintro e w5 ⟨rfl, hb5⟩
    have h45 := below_then HB4.out hb5
    have J5 := Lib.hid (S1.out w5 h45)
    have J6 := Lib.hid (S2.out w5 h45)
    have H45 := Lib.hid h45; clear h45
    clear hb5 HB4 J4
    go_wp2_with fail
    refine J5.out.mono ?_
    rintro e w' ⟨rfl, rfl⟩
    go_wp2_with fail
    refine J6.out.mono ?_
    rintro e w6 ⟨rfl, hb6⟩
    have h46 := below_then H45.out hb6
    have J7 := Lib.hid (S3.out w6 h46)
    have H46 := Lib.hid h46; clear h46
    clear hb6 H45 J5 J6
    go_wp2_with fail
    refine J7.out.mono ?_
    rintro e w7 ⟨rfl, n1, hw7⟩
    have H47 : Hid (Below w3.heap.size w3 w7) := by
      show Below w3.heap.size w3 w7
      rw [hw7]
      exact below_drewN H46.out n1
    clear hw7 H46 J7
    go_wp2_with fail
    refine (S4.out _).mono ?_
    rintro e w' ⟨rfl, rfl⟩
    rcases hnil with ⟨rfl, rfl⟩ | ⟨hpos, a, rfl⟩
    · go_wp2_with fail
      refine (HAW.out _).mono ?_
      rintro e w8 ⟨rfl, hb8⟩
      have HB8 := Lib.hid hb8; clear hb8
      go_wp2_with fail
      go_ret
      exact ⟨rfl, below_then (below_then HB3.out H47.out) HB8.out⟩
    · have d0 : ((n : Int) == 0) = false := by simpa using (show ¬ (n : Int) = 0 by omega)
      go_wp2_with fail
      refine (HAW.out _).mono ?_
      rintro e w8 ⟨rfl, hb8⟩
      have HB8 := Lib.hid hb8; clear hb8
      go_wp2_with fail
      go_ret
      exact ⟨rfl, below_then (below_then HB3.out H47.out) HB8.out⟩
/-! ### THE ROW's STEP -/
set_option maxRecDepth 100000 in
theorem lifted (os : Os) (started : os.Started) (H : Type) (enc : TypeId × Value → H) :
    ReturnsInHanded {} Try.checked os 6 .any (Rows.treeFromSpec.pre6 enc Try.prog Try.f6 Rows.treeFromRow.domain false) (Rows.treeFromSpec.post enc Try.prog Try.f6 false true false false) := by
  refine returnsInHanded_of_change (C := Try.checked) own started (by kernel_rfl) Try.func6
    (ChangeSpec.witness6 (enc := enc) (C := Try.checked) false ⟨#[], #[.slice none 0 0], []⟩ 8 (by kernel_rfl) (by kernel_rfl) (by kernel_rfl) (by kernel_rfl)) ?_
  intro W base args ds gs before hval0 hW hcnd _
  have hval : ∀ (j : Nat) t v, Try.f6.params[j]? = some t → args[j]? = some v → Value.okWide Try.prog W .any base t v := hval0
  have hW' := hW
  obtain ⟨p, q, hA0, hV, rfl, hfz, hnd⟩ := hW
  have hA : DataW.TrodAll enc Try.prog W 0 (fun _ => true) true Try.f6.params.toList args.toList ds p := hA0
  rw [Try.params6] at hA hval
  obtain ⟨v0, vs0, d0, ds0, p0, q0, hargs, rfl, rfl, h0, r0⟩ := trodAll_cons hA
  obtain ⟨rfl, rfl, rfl⟩ := trodAll_nil r0
  obtain rfl : args = #[v0] := by cases args; simp_all
  obtain ⟨rfl, rfl⟩ := trodVars_none hV
  obtain ⟨a0, len0, cap0, rfl⟩ := okWide_slice Try.underlying33 (hval 0 33 v0 rfl rfl)
  have k0 := h0
  have lt0 : ∀ x ∈ p0, x.block < W.heap.size := by obtain ⟨m, hm⟩ := k0; exact DataW.trod_lt m _ _ _ hm
  obtain ⟨A0, c0, L0, e0, hc0, hm0, ha0⟩ : ∃ (A : Option Addr) (c : Nat) (L : List Pr), Value.slice a0 len0 cap0 = .slice A L.length c ∧ L.length ≤ c ∧ c ≤ maxLen ∧ Pcs W A L := by
    obtain ⟨fuel, hf⟩ := h0
    exact pairs_open hf
  clear hA0 hval0
  obtain ⟨rfl, rfl, rfl⟩ : a0 = A0 ∧ len0 = L0.length ∧ cap0 = c0 := by
    injection e0 with x y z
    exact ⟨x, y, z⟩
  refine (walk W hc0 hm0 ha0).mono fun e W' ⟨he, bel⟩ => ?_
  subst he
  exact ⟨_, rfl, _, _, _, [], _, [], hW', trodAll_mk1 (shut_bool Try.underlying4 _), (trodAll_cons_mk (Below.trod laidOut (by kernel_rfl) (of_decide_eq_true (by kernel_rfl)) k0 bel lt0) trodAll_mk0), rfl, bel.frame _, fun h => by cases h⟩

theorem over : Rows.treeFromRow.holds Try.pinned (OpenSpec.ofChange Rows.treeFromSpec) :=
  OpenClaim.holds_of_wide 6 Try.f6 rfl rfl rfl rfl rfl rfl rfl ⟨rfl, rfl, rfl, rfl, rfl⟩ rfl rfl rfl rfl rfl (by kernel_rfl) Try.func6 (by kernel_rfl)
    (of_decide_eq_true (by kernel_rfl)) (by unfold Func.isWrapper; first | (rw [if_pos (by decide +kernel)]; kernel_rfl) | (rw [if_neg (by decide +kernel)]; exact ⟨rfl, rfl⟩))
    (fun os started H enc _ => lifted os started H enc)

/-- ████ THE STATEMENT ████ -/
theorem proved : Rows.TreeFromSaid := over
#print axioms proved
end Go.Proofs.Ytbgohpcfinojoaa.treeFrom
