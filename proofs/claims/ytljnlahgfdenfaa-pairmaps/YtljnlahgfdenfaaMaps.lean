/-
  PairMaps: for every input the law answers true and leaves its arguments as they were: the walk is typed by hand, the row's step is the guide's template.
  Conditions: none beside the row's own.
-/
import Derived.Test.YtljnlahgfdenfaaSmall
import Derived.Test.YtljnlahgfdenfaaOpen
import Derived.Test.YtljnlahgfdenfaaRows
import Derived.WalkKit
import Derived.ProofKit
import Derived.OpenShut
import Derived.ShutString
import Derived.ChangeOld
import Derived.Below
namespace Go.Proofs.Ytljnlahgfdenfaa.pairMaps
open Go.ChangeShapes Go.WideShapes Go.ChangeAt Go.RowKit
set_option linter.unusedVariables false
theorem own : ownKnob Try.prog.godebug = none := by kernel_rfl
theorem laidOut : laidOutB Try.prog = true := by kernel_rfl
/-- where a list stops being a map -/
theorem first_fault (L : List Pr) : ∀ k, k ≤ L.length → (∀ i, i < k → flt L i = 0) ∨ ∃ n, n < k ∧ (∀ i, i < n → flt L i = 0) ∧ flt L n ≠ 0
  | 0, _ => .inl fun i h => by omega
  | k + 1, h => by
    rcases first_fault L k (by omega) with g | ⟨n, h1, h2, h3⟩
    · by_cases e : flt L k = 0
      · exact .inl fun i hi => by
          rcases Nat.lt_or_ge i k with g2 | g2
          · exact g i g2
          · obtain rfl : i = k := by omega
            exact e
      · exact .inr ⟨k, by omega, g, e⟩
    · exact .inr ⟨n, by omega, h2, h3⟩
theorem fault_is (L : List Pr) : ∃ (n : Nat) (r : Int), (∀ i, i < n → flt L i = 0) ∧ ((n = L.length ∧ r = 0) ∨ (n < L.length ∧ flt L n = r ∧ r ≠ 0)) := by
  rcases first_fault L L.length (Nat.le_refl _) with g | ⟨n, h1, h2, h3⟩
  · exact ⟨L.length, 0, g, .inl ⟨rfl, rfl⟩⟩
  · exact ⟨n, flt L n, h2, .inr ⟨h1, rfl, h3⟩⟩
theorem fault_at {L : List Pr} {n j : Nat} {r : Int} (h0 : ∀ i, i < n → flt L i = 0) (hn : (n = L.length ∧ r = 0) ∨ (n < L.length ∧ flt L n = r ∧ r ≠ 0)) (hj : j < L.length) (hz : ∀ i, i < j → flt L i = 0) (hf : flt L j ≠ 0) : n = j ∧ r = flt L j := by
  have h1 : n = j := by
    rcases Nat.lt_trichotomy n j with g | g | g
    · rcases hn with ⟨h, _⟩ | ⟨_, h, h2⟩
      · omega
      · exact absurd (h.symm.trans (hz n g)) h2
    · exact g
    · exact absurd (h0 j g) hf
  subst h1
  rcases hn with ⟨h, _⟩ | ⟨_, h, _⟩
  · omega
  · exact ⟨rfl, h.symm⟩
theorem fault_none {L : List Pr} {n : Nat} {r : Int} (hn : (n = L.length ∧ r = 0) ∨ (n < L.length ∧ flt L n = r ∧ r ≠ 0)) (hz : ∀ i, i < L.length → flt L i = 0) : n = L.length ∧ r = 0 := by
  rcases hn with h | ⟨h1, h2, h3⟩
  · exact h
  · exact absurd (h2.symm.trans (hz n h1)) h3
theorem flt_tiny {L : List Pr} (ht : tiny L = true) {i k : Nat} (hi : i < L.length) (hk : k < L.length) (hik : k + 1 = i) : flt L i = if cmp (L[i]).1 (L[k]).1 = 0 then 6 else if cmp (L[i]).1 (L[k]).1 = -1 then 5 else 0 := by
  have h := tiny_all ht _ (List.getElem_mem hi)
  subst hik
  unfold flt
  rw [pat_at hi, if_neg (by omega), if_neg (by omega), Nat.add_sub_cancel, pat_at hk]
theorem flt_first {L : List Pr} (ht : tiny L = true) (hi : 0 < L.length) : flt L 0 = 0 := by
  have h := tiny_all ht _ (List.getElem_mem hi)
  unfold flt
  rw [pat_at hi, if_neg (by omega), if_pos rfl]
set_option maxRecDepth 100000 in
set_option maxHeartbeats 4000000 in
theorem walk {A0 : Option Addr} {c0 : Nat} {L0 : List Pr} (w : World) (hc0 : L0.length ≤ c0) (hm0 : c0 ≤ maxLen) (ha0 : Pcs w A0 L0) :
    Calls Try.prog 5 #[.slice A0 L0.length c0] w fun e w' => e = .returned (.bool true) ∧ Below w.heap.size w w' := by
  have hsm := small_any ha0 c0 60 (by decide) (Nat.le_trans hc0 hm0)
  have haw := awake_any
  have HAW := Lib.hid haw; clear haw
  cases hs : (decide (L0.length ≤ 60) && tiny L0) with
  | false =>
    rw [hs] at hsm
    have HSM := Lib.hid hsm; clear hsm
    clear ha0 hs hc0 hm0
    go_enter Try.func5, Try.ntmps5
    go_wp2_with fail
    refine HSM.out.mono ?_
    rintro e w1 ⟨rfl, hb⟩
    have HB := Lib.hid hb; clear hb
    go_wp2_with fail
    refine (HAW.out _).mono ?_
    rintro e w2 ⟨rfl, hb⟩
    have HB2 := Lib.hid hb; clear hb
    go_wp2_with fail
    go_ret
    exact ⟨rfl, below_then HB.out HB2.out⟩
  | true =>
    rw [hs] at hsm
    obtain ⟨hlen, htiny⟩ := small_true hs
    have hall := tiny_all htiny
    obtain ⟨n, r, hf0, hfn⟩ := fault_is L0
    have hnl : n ≤ L0.length := by omega
    have hmap := fun W (hW : Below w.heap.size w W) => map_any (ha0.below hW) c0 n r (by omega) hf0 hfn
    have HSM := Lib.hid hsm; clear hsm
    have HMAP := Lib.hid hmap; clear hmap
    have HA := Lib.hid ha0; clear ha0
    have HF0 := Lib.hid hf0; clear hf0
    have HFN := Lib.hid hfn; clear hfn
    have HTI := Lib.hid htiny; clear htiny
    have HALL := Lib.hid hall; clear hall
    clear hs hc0 hm0
    go_enter Try.func5, Try.ntmps5
    go_wp2_with fail
    refine HSM.out.mono ?_
    rintro e w1 ⟨rfl, hb1⟩
    have HB1 := Lib.hid hb1; clear hb1
    go_wp2_with fail
    refine (HMAP.out _ HB1.out).mono ?_
    rintro e w2 ⟨rfl, hb2⟩
    have HB2 := Lib.hid (below_then HB1.out hb2); clear hb2
    go_wp2_with fail
    go_loopw [5] (fun u wr => ∃ j : Nat, u = .int .i64 j ∧ 1 ≤ j ∧ j ≤ L0.length + 1 ∧ Hid (Below w.heap.size w wr) ∧ Hid (∀ i, i < L0.length → i < j → flt L0 i = 0)) (fun u _ => L0.length + 1 - (intOf u).toNat)
    case atStart => exact ⟨1, rfl, by omega, by omega, HB2.out, fun i h1 h2 => by
      obtain rfl : i = 0 := by omega
      exact flt_first HTI.out h1⟩
    case round =>
      obtain ⟨j, rfl, hj1, hj2, hbel, hz⟩ := hrel
      by_cases hlt : j < L0.length
      · obtain ⟨k, hk⟩ : ∃ k, k + 1 = j := ⟨j - 1, by omega⟩
        have hkl : k < L0.length := by omega
        have hflt := flt_tiny HTI.out hlt hkl hk
        obtain ⟨b, off, ka, kc, va, vc, rfl, hbl, h1, h2, h3, h4⟩ := (HA.out.below hbel.out).at hlt
        obtain ⟨b', off', ka', kc', va', vc', e, _, k1, k2, k3, k4⟩ := (HA.out.below hbel.out).at hkl
        obtain ⟨rfl, rfl⟩ : b = b' ∧ off = off' := by
          injection e with e
          injection e with e1 e2
          exact ⟨e1, e2⟩
        clear e
        have v1 : ∀ q, _ := fun q => conv_any (h3.below (below_drewN (Below.refl _ _) q)) kc
        have v2 : ∀ q, _ := fun q => conv_any (k3.below (below_drewN (Below.refl _ _) q)) kc'
        have ll1 := (HALL.out _ (List.getElem_mem hlt)).1
        have ll2 := (HALL.out _ (List.getElem_mem hkl)).1
        obtain ⟨x, hx⟩ : ∃ x : Nat, x = (L0[j]).1.length := ⟨_, rfl⟩
        obtain ⟨y, hy⟩ : ∃ x : Nat, x = (L0[k]).1.length := ⟨_, rfl⟩
        obtain ⟨s, hs⟩ : ∃ s : ByteArray, s = ⟨(L0[j]).1.toArray⟩ := ⟨_, rfl⟩
        obtain ⟨t, ht⟩ : ∃ s : ByteArray, s = ⟨(L0[k]).1.toArray⟩ := ⟨_, rfl⟩
        have hless := fun W => less_any s t W (by rw [hs, bs_size]; omega) (by rw [ht, bs_size]; omega)
        rw [show cmp s.data.toList t.data.toList = cmp (L0[j]).1 (L0[k]).1 by rw [hs, ht]] at hless
        simp only [← hx, ← hy, ← hs, ← ht] at h1 k1 v1 v2
        have hsub : ((j : Int) - 1) = (k : Int) := by omega
        have hw1 : IntKind.i64.wrap ((j : Int) - 1) = (k : Int) := by rw [hsub]; exact IntWalk.i64_in _ (by omega)
        clear h2 h3 h4 k2 k3 k4 hx hy HA HALL hsub
        rcases cmp_range (L0[j]).1 (L0[k]).1 with hc | hc | hc
        · rw [hc] at hflt hless
          simp only [show ¬ (-1 : Int) = 0 by decide, if_false, if_true] at hflt
          rw [decide_eq_true (by decide)] at hless
          obtain ⟨hn1, hr1⟩ := fault_at HF0.out HFN.out hlt (fun i hi => hz.out i (by omega) hi) (by rw [hflt]; decide)
          rw [hflt] at hr1
          have e2 : (t.toList == s.toList) = false := by
            rw [hs, ht]
            exact bs_ne fun e => by rw [e, cmp_self] at hc; omega
          subst hn1 hr1
          have HL := Lib.hid hless; clear hless
          clear hs ht hc hflt HFN HF0 hz HMAP hk
          go_wp2_with fail
          go_quiet (fail)
          clear hw1
          go_wp2_with fail
          refine (HL.out _).mono ?_
          rintro e w4 ⟨rfl, hb4⟩
          have HB4 := Lib.hid (below_then (below_drewN hbel.out _) hb4); clear hb4
          go_wp2_with fail
          refine (HAW.out _).mono ?_
          rintro e w5 ⟨rfl, hb5⟩
          have HB5 := Lib.hid (below_then HB4.out hb5); clear hb5
          go_wp2_with fail
          go_ret
          exact ⟨rfl, HB5.out⟩
        · have hst : s = t := by rw [hs, ht, cmp_zero _ _ hc]
          rw [hc] at hflt hless
          simp only [if_true] at hflt
          obtain ⟨hn1, hr1⟩ := fault_at HF0.out HFN.out hlt (fun i hi => hz.out i (by omega) hi) (by rw [hflt]; decide)
          rw [hflt] at hr1
          subst hn1 hr1
          subst hst
          clear hs ht hc hflt HFN HF0 hz HMAP hk hless
          go_wp2_with fail
          go_quiet (fail)
          clear hw1
          go_wp2_with fail
          refine (HAW.out _).mono ?_
          rintro e w5 ⟨rfl, hb5⟩
          have HB5 := Lib.hid (below_then (below_drewN hbel.out _) hb5); clear hb5
          go_wp2_with fail
          go_ret
          exact ⟨rfl, HB5.out⟩
        · rw [hc] at hflt hless
          simp only [show ¬ (1 : Int) = 0 by decide, show ¬ (1 : Int) = -1 by decide, if_false] at hflt
          rw [decide_eq_false (by decide)] at hless
          have e2 : (t.toList == s.toList) = false := by
            rw [hs, ht]
            exact bs_ne fun e => by rw [e, cmp_self] at hc; omega
          have HL := Lib.hid hless; clear hless
          have HFL := Lib.hid hflt; clear hflt
          clear hs ht hc HFN HF0 HMAP hk
          go_wp2_with fail
          go_quiet (fail)
          clear hw1
          go_wp2_with fail
          refine (HL.out _).mono ?_
          rintro e w4 ⟨rfl, hb4⟩
          have HB4 := Lib.hid (below_then (below_drewN hbel.out _) hb4); clear hb4
          go_wp2_with fail
          go_roundw
          case rel => exact ⟨j + 1, by go_num, by omega, by omega, HB4.out, fun i h1 h2 => by
            rcases Nat.lt_or_ge i j with g | g
            · exact hz.out i h1 g
            · obtain rfl : i = j := by omega
              exact HFL.out⟩
          case measure => simp [intOf]; omega
      · obtain ⟨hn1, hr1⟩ := fault_none HFN.out (fun i hi => hz.out i hi (by omega))
        subst hn1 hr1
        clear HFN HF0 hz HMAP
        go_wp2_with fail
        refine (HAW.out _).mono ?_
        rintro e w5 ⟨rfl, hb5⟩
        have HB5 := Lib.hid (below_then hbel.out hb5); clear hb5
        go_wp2_with fail
        go_ret
        exact ⟨rfl, HB5.out⟩
/-! ### THE ROW's STEP -/
set_option maxRecDepth 100000 in
theorem lifted (os : Os) (started : os.Started) (H : Type) (enc : TypeId × Value → H) :
    ReturnsInHanded {} Try.checked os 5 .any (Rows.pairMapsSpec.pre6 enc Try.prog Try.f5 Rows.pairMapsRow.domain false) (Rows.pairMapsSpec.post enc Try.prog Try.f5 false true false false) := by
  refine returnsInHanded_of_change (C := Try.checked) own started (by kernel_rfl) Try.func5
    (ChangeSpec.witness6 (enc := enc) (C := Try.checked) false ⟨#[], #[.slice none 0 0], []⟩ 8 (by kernel_rfl) (by kernel_rfl) (by kernel_rfl) (by kernel_rfl)) ?_
  intro W base args ds gs before hval0 hW hcnd _
  have hval : ∀ (j : Nat) t v, Try.f5.params[j]? = some t → args[j]? = some v → Value.okWide Try.prog W .any base t v := hval0
  have hW' := hW
  obtain ⟨p, q, hA0, hV, rfl, hfz, hnd⟩ := hW
  have hA : DataW.TrodAll enc Try.prog W 0 (fun _ => true) true Try.f5.params.toList args.toList ds p := hA0
  rw [Try.params5] at hA hval
  obtain ⟨v0, vs0, d0, ds0, p0, q0, hargs, rfl, rfl, h0, r0⟩ := trodAll_cons hA
  obtain ⟨rfl, rfl, rfl⟩ := trodAll_nil r0
  obtain rfl : args = #[v0] := by cases args; simp_all
  obtain ⟨rfl, rfl⟩ := trodVars_none hV
  obtain ⟨a0, len0, cap0, rfl⟩ := okWide_slice Try.underlying22 (hval 0 22 v0 rfl rfl)
  have k0 := h0
  have lt0 : ∀ x ∈ p0, x.block < W.heap.size := by obtain ⟨m, hm⟩ := k0; exact DataW.trod_lt m _ _ _ hm
  obtain ⟨A0, c0, L0, e0, hc0, hm0, ha0⟩ : ∃ (A : Option Addr) (c : Nat) (L : List Pr), Value.slice a0 len0 cap0 = .slice A L.length c ∧ L.length ≤ c ∧ c ≤ maxLen ∧ Pcs W A L := by
    obtain ⟨fuel, hf⟩ := h0
    exact pairs_open hf
  clear hA0 hval0
  obtain ⟨rfl, rfl, rfl⟩ : a0 = A0 ∧ len0 = L0.length ∧ cap0 = c0 := by
    injection e0 with x y z
    exact ⟨x, y, z⟩
  refine (walk W hc0 hm0 ha0).mono fun e W' ⟨he, bel⟩ => ?_
  subst he
  exact ⟨_, rfl, _, _, _, [], _, [], hW', trodAll_mk1 (shut_bool Try.underlying4 _), (trodAll_cons_mk (Below.trod laidOut (by kernel_rfl) (of_decide_eq_true (by kernel_rfl)) k0 bel lt0) trodAll_mk0), rfl, bel.frame _, fun h => by cases h⟩

theorem over : Rows.pairMapsRow.holds Try.pinned (OpenSpec.ofChange Rows.pairMapsSpec) :=
  OpenClaim.holds_of_wide 5 Try.f5 rfl rfl rfl rfl rfl rfl rfl ⟨rfl, rfl, rfl, rfl, rfl⟩ rfl rfl rfl rfl rfl (by kernel_rfl) Try.func5 (by kernel_rfl)
    (of_decide_eq_true (by kernel_rfl)) (by unfold Func.isWrapper; first | (rw [if_pos (by decide +kernel)]; kernel_rfl) | (rw [if_neg (by decide +kernel)]; exact ⟨rfl, rfl⟩))
    (fun os started H enc _ => lifted os started H enc)

/-- ████ THE STATEMENT ████ -/
theorem proved : Rows.PairMapsSaid := over
#print axioms proved
end Go.Proofs.Ytljnlahgfdenfaa.pairMaps
