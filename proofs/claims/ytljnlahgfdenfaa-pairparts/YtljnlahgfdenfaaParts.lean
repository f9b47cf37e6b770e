/-
  PairParts: for every input the law answers true and leaves its arguments as they were: the walk is typed by hand, the row's step is the guide's template.
  Conditions: none beside the row's own.
-/
import Derived.Test.YtljnlahgfdenfaaSmall
import Derived.Test.YtljnlahgfdenfaaJoins
import Derived.Test.YtljnlahgfdenfaaOpen
import Derived.Test.YtljnlahgfdenfaaRows
import Derived.WalkKit
import Derived.ProofKit
import Derived.OpenShut
import Derived.ShutString
import Derived.ChangeOld
import Derived.Below
namespace Go.Proofs.Ytljnlahgfdenfaa.pairParts
open Go.ChangeShapes Go.WideShapes Go.ChangeAt Go.RowKit
set_option linter.unusedVariables false
theorem own : ownKnob Try.prog.godebug = none := by kernel_rfl
theorem laidOut : laidOutB Try.prog = true := by kernel_rfl
theorem own_low {B B' : Nat} {w : World} {v : Value} {n : Nat} {xs : List Value} (h : w.ownsRow B 37 2 v n xs) (hb : B' ≤ B) : w.ownsRow B' 37 2 v n xs := by
  refine ⟨h.1, ?_⟩
  rcases h.2 with hn | ⟨g, cap, cur, rfl, h1, rest⟩
  · exact .inl hn
  · exact .inr ⟨g, cap, cur, rfl, Nat.le_trans hb h1, rest⟩
/-- the empty row that is made first -/
theorem own_empty (w : World) : (w.alloc (.cells #[] 37)).ownsRow w.heap.size 37 2 (.slice (some ⟨w.heap.size, 0, none⟩) 0 0) ([] : List Pr).length [] :=
  World.ownsRow_made w #[] 0 (Nat.le_refl _) (Nat.zero_le _) rfl
set_option maxRecDepth 100000 in
set_option maxHeartbeats 4000000 in
theorem walk {A0 : Option Addr} {c0 : Nat} {L0 : List Pr} {A1 : Option Addr} {c1 : Nat} {L1 : List Pr} (w : World) (hc0 : L0.length ≤ c0) (hm0 : c0 ≤ maxLen) (ha0 : Pcs w A0 L0) (hc1 : L1.length ≤ c1) (hm1 : c1 ≤ maxLen) (ha1 : Pcs w A1 L1) :
    Calls Try.prog 4 #[.slice A0 L0.length c0, .slice A1 L1.length c1] w fun e w' => e = .returned (.bool true) ∧ Below w.heap.size w w' := by
  have hsm := small_any ha0 c0 40 (by decide) (Nat.le_trans hc0 hm0)
  have hsm1 := fun W (hW : Below w.heap.size w W) => small_any (ha1.below hW) c1 40 (by decide) (Nat.le_trans hc1 hm1)
  have haw := awake_any
  have HAW := Lib.hid haw; clear haw
  cases hs : (decide (L0.length ≤ 40) && tiny L0) with
  | false =>
    rw [hs] at hsm
    have HSM := Lib.hid hsm; clear hsm
    clear ha0 hs hc0 hm0 ha1 hc1 hm1 hsm1
    go_enter Try.func4, Try.ntmps4
    go_wp2_with fail
    refine HSM.out.mono ?_
    rintro e w1 ⟨rfl, hb⟩
    have HB := Lib.hid hb; clear hb
    go_wp2_with fail
    refine (HAW.out _).mono ?_
    rintro e w2 ⟨rfl, hb⟩
    have HB2 := Lib.hid hb; clear hb
    go_wp2_with fail
    go_ret
    exact ⟨rfl, below_then HB.out HB2.out⟩
  | true =>
    rw [hs] at hsm
    obtain ⟨hlen0, htiny0⟩ := small_true hs
    cases hs1 : (decide (L1.length ≤ 40) && tiny L1) with
    | false =>
      simp only [hs1] at hsm1
      have HSM := Lib.hid hsm; clear hsm
      have HSM1 := Lib.hid hsm1; clear hsm1
      clear ha0 hs hc0 hm0 ha1 hc1 hm1 hs1 htiny0
      go_enter Try.func4, Try.ntmps4
      go_wp2_with fail
      refine HSM.out.mono ?_
      rintro e w1 ⟨rfl, hb⟩
      have HB := Lib.hid hb; clear hb
      go_wp2_with fail
      refine (HSM1.out _ HB.out).mono ?_
      rintro e w2 ⟨rfl, hb⟩
      have HB2 := Lib.hid (below_then HB.out hb); clear hb
      go_wp2_with fail
      refine (HAW.out _).mono ?_
      rintro e w3 ⟨rfl, hb⟩
      have HB3 := Lib.hid hb; clear hb
      go_wp2_with fail
      go_ret
      exact ⟨rfl, below_then HB2.out HB3.out⟩
    | true =>
      simp only [hs1] at hsm1
      obtain ⟨hlen1, htiny1⟩ := small_true hs1
      have hall0 := tiny_all htiny0
      have hall1 := tiny_all htiny1
      have hallc := tiny_come htiny0
      have hcl := come_length L0
      have h1 := fun W (hW : Below w.heap.size w W) => come_any (ha0.below hW) c0 (by omega) (fun p hp => by have := hall0 p hp; omega)
      have h2 := fun W A c (hP : Pcs W A (L0 ++ L1)) => come_any hP c (by simp; omega) (fun p hp => by
        rcases List.mem_append.1 hp with h | h
        · have := hall0 p h; omega
        · have := hall1 p h; omega)
      have h3 := fun W A c (hP : Pcs W A (come L0 ++ L1)) => come_any hP c (by simp; omega) (fun p hp => by
        rcases List.mem_append.1 hp with h | h
        · have := hallc p h; omega
        · have := hall1 p h; omega)
      simp only [come_parts, List.length_append] at h3
      simp only [List.length_append] at h2
      have hcl2 := come_length (L0 ++ L1)
      have h4 := fun W A B c d (hP : Pcs W A (come (L0 ++ L1))) (hR : Pcs W B (come (L0 ++ L1))) => same_any hP hR c d (by simp at hcl2; omega)
      simp only [decide_true] at h4
      have HSM := Lib.hid hsm; clear hsm
      have HSM1 := Lib.hid hsm1; clear hsm1
      have H1 := Lib.hid h1; clear h1
      have H2 := Lib.hid h2; clear h2
      have H3 := Lib.hid h3; clear h3
      have H4 := Lib.hid h4; clear h4
      have HA0 := Lib.hid ha0; clear ha0
      have HA1 := Lib.hid ha1; clear ha1
      clear hs hc0 hm0 hs1 hc1 hm1 hall0 hall1 hallc htiny0 htiny1 hcl2
      go_enter Try.func4, Try.ntmps4
      go_wp2_with fail
      refine HSM.out.mono ?_
      rintro e w1 ⟨rfl, hb⟩
      have HB1 := Lib.hid hb; clear hb
      go_wp2_with fail
      refine (HSM1.out _ HB1.out).mono ?_
      rintro e w2 ⟨rfl, hb⟩
      have HB2 := Lib.hid (below_then HB1.out hb); clear hb
      have HE2 : Hid (Below w.heap.size w (w2.alloc (.cells #[] 37))) := HB2.out.alloc HB2.out.size _
      have HS2 : Hid (w.heap.size ≤ (w2.alloc (.cells #[] 37)).heap.size) := HE2.out.size
      have HO2 : Hid ((w2.alloc (.cells #[] 37)).ownsRow w.heap.size 37 2 (.slice (some ⟨w2.heap.size, 0, none⟩) 0 0) ([] : List Pr).length []) := own_low (own_empty w2) HB2.out.size
      go_wp2_with (first
        | (at_builtin; refine list_app_pairs (B := w.heap.size) (w := w2.alloc (.cells #[] 37)) rfl (.tmp 16) (.tmp 17) rfl _ [] w [] L0 A0 c0 HO2.out rfl (Prow.nil w) HE2.out HA0.out rfl rfl (by simp; omega) HS2.out ?_; intro v3 w3 ys3 ho3 hr3 hg3; have hb3 := HE2.out.grown hg3 HS2.out (fun k hk => (HO2.out.lt k hk).1))
        | (at_builtin; refine list_app_pairs (B := w.heap.size) (w := w3) rfl (.tmp 18) (.tmp 19) rfl _ ys3 w ([] ++ L0) L1 A1 c1 ho3 rfl hr3 hb3 HA1.out rfl rfl (by simp; omega) hb3.size ?_; intro v4 w4 ys4 ho4 hr4 hg4; have hb4 := hb3.grown hg4 hb3.size (fun k hk => (ho3.lt k hk).1)))
      rw [List.nil_append] at ho4 hr4
      obtain ⟨A4, c4, rfl, hp4⟩ := pcs_own ho4 rfl hr4 hb4
      have HBE : Hid (Below w.heap.size w (w4.alloc (.cells #[] 37))) := hb4.alloc hb4.size _
      have HAE : Hid (Pcs (w4.alloc (.cells #[] 37)) A4 (L0 ++ L1)) := hp4.below ((Below.refl _ _).alloc (Nat.le_refl _) _)
      clear hp4 ho4 hr4 hg4 hb4 ho3 hr3 hg3 hb3
      by_cases hnil : come L0 = []
      · have HNIL := Lib.hid hnil; clear hnil
        refine (H1.out _ HBE.out).mono ?_
        rintro e w5 ⟨g, rfl, hn5, hb⟩
        have HP5 := Lib.hid hn5.pcs; clear hn5
        have HA5 := Lib.hid (HAE.out.below hb)
        have HB5 := Lib.hid (below_then HBE.out hb); clear hb
        go_wp2_with (first
          | (at_builtin; refine list_app_first (w := w5) rfl (.tmp 21) (.tmp 23) rfl w4.heap.size (come L0) (some ⟨g, 0, none⟩) (come L0).length HP5.out rfl rfl (by omega) ?_; intro v6 w6 ys6 hr6 hb6 hv6; obtain rfl := hv6.1 HNIL.out; have HP6 := Lib.hid (HA1.out.below (below_then HB5.out hb6)); have HA6 := Lib.hid (HA5.out.below hb6); have HB6 := Lib.hid (below_then HB5.out hb6))
          | (at_builtin; refine list_app_first (w := w6) rfl (.tmp 24) (.tmp 25) rfl w4.heap.size L1 A1 c1 HP6.out rfl rfl (by omega) ?_; intro v7 w7 ys7 hr7 hb7 hv7))
        have HX7 : Hid (∃ A c, v7 = .slice A ((come L0).length + L1.length) c ∧ Pcs w7 A (come L0 ++ L1)) := by
          rw [← List.length_append, HNIL.out, List.nil_append]
          by_cases hn1 : L1 = []
          · exact ⟨_, 0, by rw [hv7.1 hn1, hn1]; rfl, .inl hn1⟩
          · exact pcs_own (hv7.2 hn1) rfl hr7 hb7
        have HA7 := Lib.hid (HA6.out.below hb7)
        have HB7 := Lib.hid (below_then HB6.out hb7)
        clear hr7 hb7 hv7 hr6 hb6 hv6
        obtain ⟨A7, c7, rfl, hp7⟩ := HX7.out
        have HP7 := Lib.hid hp7; clear hp7
        refine (H2.out _ A4 c4 HA7.out).mono ?_
        rintro e w8 ⟨g8, rfl, hn8, hb⟩
        have HN8 := Lib.hid hn8.pcs; clear hn8
        have HP8 := Lib.hid (HP7.out.below hb)
        have HB8 := Lib.hid (below_then HB7.out hb); clear hb
        go_wp2_with fail
        refine (H3.out _ A7 c7 HP8.out).mono ?_
        rintro e w9 ⟨g9, rfl, hn9, hb⟩
        have HN9 := Lib.hid hn9.pcs; clear hn9
        have HP9 := Lib.hid (HN8.out.below hb)
        have HB9 := Lib.hid (below_then HB8.out hb); clear hb
        go_wp2_with fail
        refine (H4.out _ _ _ _ _ HP9.out HN9.out).mono ?_
        rintro e w10 ⟨rfl, hb⟩
        have HB10 := Lib.hid (below_then HB9.out hb); clear hb
        go_wp2_with fail
        refine (HAW.out _).mono ?_
        rintro e w11 ⟨rfl, hb⟩
        have HB11 := Lib.hid (below_then HB10.out hb); clear hb
        go_wp2_with fail
        go_ret
        exact ⟨rfl, HB11.out⟩
      · have HNIL := Lib.hid hnil; clear hnil
        refine (H1.out _ HBE.out).mono ?_
        rintro e w5 ⟨g, rfl, hn5, hb⟩
        have HP5 := Lib.hid hn5.pcs; clear hn5
        have HA5 := Lib.hid (HAE.out.below hb)
        have HB5 := Lib.hid (below_then HBE.out hb); clear hb
        have HQ5 := Lib.hid (HA1.out.below HB5.out)
        go_wp2_with (first
          | (at_builtin; refine list_app_first (w := w5) rfl (.tmp 21) (.tmp 23) rfl w4.heap.size (come L0) (some ⟨g, 0, none⟩) (come L0).length HP5.out rfl rfl (by omega) ?_; intro v6 w6 ys6 hr6 hb6 hv6; have ho6 := hv6.2 HNIL.out)
          | (at_builtin; refine list_app_pairs (B := w5.heap.size) (w := w6) rfl (.tmp 24) (.tmp 25) rfl _ ys6 w5 (come L0) L1 A1 c1 ho6 rfl hr6 hb6 HQ5.out rfl rfl (by omega) hb6.size ?_; intro v7 w7 ys7 ho7 hr7 hg7))
        have hb7 : Below w5.heap.size w5 w7 := hb6.grown hg7 hb6.size (fun k hk => (ho6.lt k hk).1)
        have HX7 : Hid (∃ A c, v7 = .slice A ((come L0).length + L1.length) c ∧ Pcs w7 A (come L0 ++ L1)) := by
          rw [← List.length_append]
          exact pcs_own ho7 rfl hr7 hb7
        have HA7 := Lib.hid (HA5.out.below hb7)
        have HB7 := Lib.hid (below_then HB5.out hb7)
        clear hr7 hb7 ho7 hg7 hr6 hb6 hv6 ho6
        obtain ⟨A7, c7, rfl, hp7⟩ := HX7.out
        have HP7 := Lib.hid hp7; clear hp7
        refine (H2.out _ A4 c4 HA7.out).mono ?_
        rintro e w8 ⟨g8, rfl, hn8, hb⟩
        have HN8 := Lib.hid hn8.pcs; clear hn8
        have HP8 := Lib.hid (HP7.out.below hb)
        have HB8 := Lib.hid (below_then HB7.out hb); clear hb
        go_wp2_with fail
        refine (H3.out _ A7 c7 HP8.out).mono ?_
        rintro e w9 ⟨g9, rfl, hn9, hb⟩
        have HN9 := Lib.hid hn9.pcs; clear hn9
        have HP9 := Lib.hid (HN8.out.below hb)
        have HB9 := Lib.hid (below_then HB8.out hb); clear hb
        go_wp2_with fail
        refine (H4.out _ _ _ _ _ HP9.out HN9.out).mono ?_
        rintro e w10 ⟨rfl, hb⟩
        have HB10 := Lib.hid (below_then HB9.out hb); clear hb
        go_wp2_with fail
        refine (HAW.out _).mono ?_
        rintro e w11 ⟨rfl, hb⟩
        have HB11 := Lib.hid (below_then HB10.out hb); clear hb
        go_wp2_with fail
        go_ret
        exact ⟨rfl, HB11.out⟩
/-! ### THE ROW's STEP -/
set_option maxRecDepth 100000 in
theorem lifted (os : Os) (started : os.Started) (H : Type) (enc : TypeId × Value → H) :
    ReturnsInHanded {} Try.checked os 4 .any (Rows.pairPartsSpec.pre6 enc Try.prog Try.f4 Rows.pairPartsRow.domain false) (Rows.pairPartsSpec.post enc Try.prog Try.f4 false true false false) := by
  refine returnsInHanded_of_change (C := Try.checked) own started (by kernel_rfl) Try.func4
    (ChangeSpec.witness6 (enc := enc) (C := Try.checked) false ⟨#[], #[.slice none 0 0, .slice none 0 0], []⟩ 8 (by kernel_rfl) (by kernel_rfl) (by kernel_rfl) (by kernel_rfl)) ?_
  intro W base args ds gs before hval0 hW hcnd _
  have hval : ∀ (j : Nat) t v, Try.f4.params[j]? = some t → args[j]? = some v → Value.okWide Try.prog W .any base t v := hval0
  have hW' := hW
  obtain ⟨p, q, hA0, hV, rfl, hfz, hnd⟩ := hW
  have hA : DataW.TrodAll enc Try.prog W 0 (fun _ => true) true Try.f4.params.toList args.toList ds p := hA0
  rw [Try.params4] at hA hval
  obtain ⟨v0, vs0, d0, ds0, p0, q0, hargs, rfl, rfl, h0, r0⟩ := trodAll_cons hA
  obtain ⟨v1, vs1, d1, ds1, p1, q1, rfl, rfl, rfl, h1, r1⟩ := trodAll_cons r0
  obtain ⟨rfl, rfl, rfl⟩ := trodAll_nil r1
  obtain rfl : args = #[v0, v1] := by cases args; simp_all
  obtain ⟨rfl, rfl⟩ := trodVars_none hV
  obtain ⟨a0, len0, cap0, rfl⟩ := okWide_slice Try.underlying22 (hval 0 22 v0 rfl rfl)
  have k0 := h0
  have lt0 : ∀ x ∈ p0, x.block < W.heap.size := by obtain ⟨m, hm⟩ := k0; exact DataW.trod_lt m _ _ _ hm
  obtain ⟨A0, c0, L0, e0, hc0, hm0, ha0⟩ : ∃ (A : Option Addr) (c : Nat) (L : List Pr), Value.slice a0 len0 cap0 = .slice A L.length c ∧ L.length ≤ c ∧ c ≤ maxLen ∧ Pcs W A L := by
    obtain ⟨fuel, hf⟩ := h0
    exact pairs_open hf
  obtain ⟨a1, len1, cap1, rfl⟩ := okWide_slice Try.underlying22 (hval 1 22 v1 rfl rfl)
  have k1 := h1
  have lt1 : ∀ x ∈ p1, x.block < W.heap.size := by obtain ⟨m, hm⟩ := k1; exact DataW.trod_lt m _ _ _ hm
  obtain ⟨A1, c1, L1, e1, hc1, hm1, ha1⟩ : ∃ (A : Option Addr) (c : Nat) (L : List Pr), Value.slice a1 len1 cap1 = .slice A L.length c ∧ L.length ≤ c ∧ c ≤ maxLen ∧ Pcs W A L := by
    obtain ⟨fuel, hf⟩ := h1
    exact pairs_open hf
  clear hA0 hval0
  obtain ⟨rfl, rfl, rfl⟩ : a0 = A0 ∧ len0 = L0.length ∧ cap0 = c0 := by
    injection e0 with x y z
    exact ⟨x, y, z⟩
  obtain ⟨rfl, rfl, rfl⟩ : a1 = A1 ∧ len1 = L1.length ∧ cap1 = c1 := by
    injection e1 with x y z
    exact ⟨x, y, z⟩
  refine (walk W hc0 hm0 ha0 hc1 hm1 ha1).mono fun e W' ⟨he, bel⟩ => ?_
  subst he
  exact ⟨_, rfl, _, _, _, [], _, [], hW', trodAll_mk1 (shut_bool Try.underlying4 _), (trodAll_cons_mk (Below.trod laidOut (by kernel_rfl) (of_decide_eq_true (by kernel_rfl)) k0 bel lt0) (trodAll_cons_mk (Below.trod laidOut (by kernel_rfl) (of_decide_eq_true (by kernel_rfl)) k1 bel lt1) trodAll_mk0)), rfl, bel.frame _, fun h => by cases h⟩

theorem over : Rows.pairPartsRow.holds Try.pinned (OpenSpec.ofChange Rows.pairPartsSpec) :=
  OpenClaim.holds_of_wide 4 Try.f4 rfl rfl rfl rfl rfl rfl rfl ⟨rfl, rfl, rfl, rfl, rfl⟩ rfl rfl rfl rfl rfl (by kernel_rfl) Try.func4 (by kernel_rfl)
    (of_decide_eq_true (by kernel_rfl)) (by unfold Func.isWrapper; first | (rw [if_pos (by decide +kernel)]; kernel_rfl) | (rw [if_neg (by decide +kernel)]; exact ⟨rfl, rfl⟩))
    (fun os started H enc _ => lifted os started H enc)

/-- ████ THE STATEMENT ████ -/
theorem proved : Rows.PairPartsSaid := over
#print axioms proved
end Go.Proofs.Ytljnlahgfdenfaa.pairParts
