/-
  FindMeters: for every input the law answers true and leaves its arguments as they were; the row lists math/bits.deBruijn32tab, the card ties it to the program's text (the tie is given).
  Conditions: none beside the row's own.
-/
import Derived.Test.YtajanacbifjmgaaDoorFAwake
import Derived.Test.YtajanacbifjmgaaDoorFEnd
import Derived.Test.YtajanacbifjmgaaDoorFFind
import Derived.Test.YtajanacbifjmgaaDoorLays
import Derived.Test.YtajanacbifjmgaaDoorRefE
import Derived.Test.YtajanacbifjmgaaDoorComeE
import Derived.Test.YtajanacbifjmgaaDoorBound
import Derived.Deep.RegionHeld3
import Derived.Deep.DeepCutAuto
import Derived.Test.YtajanacbifjmgaaDoorIn
import Derived.Test.YtajanacbifjmgaaDoorLaid
import Derived.Test.YtajanacbifjmgaaDoorCards
import Derived.Test.YtajanacbifjmgaaDoorTie
import Derived.ShutString
import Derived.ChangeOld
import Derived.Below
namespace Go.Proofs.YtajanacbifjmgaaDoor.findMeters
open Go.ChangeShapes Go.WideShapes Go.ChangeAt Go.RowKit Go.Shelf
set_option linter.unusedVariables false
theorem laidOut : laidOutB Tryd.prog = true := by kernel_rfl
set_option maxRecDepth 100000
set_option maxHeartbeats 4000000 in
theorem walk {A0 : Option Addr} {c0 : Nat} {L0 : List En} {z1 : Nat} {A2 : Option Addr} {c2 : Nat} {L2 : List UInt8} (w : World) (hc0 : L0.length ≤ c0) (hm0 : c0 ≤ maxLen) (ha0 : Ens w A0 L0) (hh0 : ∀ e ∈ L0, e.1 < 18446744073709551616) (hz1 : z1 < 18446744073709551616) (hc2 : L2.length ≤ c2) (hm2 : c2 ≤ maxLen) (ha2 : Bts w A2 L2) (hT : Tab w) :
    Calls Tryd.prog 5 #[.slice A0 L0.length c0, .int .u64 (z1 : Int), .slice A2 L2.length c2] w fun e w' => e = .returned (.bool true) ∧ Below w.heap.size w w' := by
  have hml : maxLen ≤ 9223372036854775807 := by decide
  have hsm := small_any ha0 c0 60 (by decide) (Nat.le_trans (Nat.le_trans hc0 hm0) hml)
  obtain ⟨n2, hn2⟩ : ∃ n, n = L2.length := ⟨_, rfl⟩
  rw [← hn2]
  have hn2b : n2 ≤ 9223372036854775807 := by rw [hn2]; exact Nat.le_trans (Nat.le_trans hc2 hm2) hml
  cases hs : (decide (L0.length ≤ 60) && tinyE L0) with
  | false =>
    rw [hs] at hsm
    have HSM := Lib.hid hsm; clear hsm
    have HT := Lib.hid hT; clear hT
    clear ha0 hs hc0 hm0 hh0 ha2 hn2 hc2 hm2
    go_enter Tryd.func5, Tryd.ntmps5
    go_wp2_with fail
    refine HSM.out.mono ?_
    rintro e w1 ⟨rfl, hb⟩
    have HAW := Lib.hid (awake_any (HT.out.below hb))
    have HB := Lib.hid hb; clear hb
    go_wp2_with fail
    refine HAW.out.mono ?_
    rintro e w2 ⟨rfl, hb⟩
    have HB2 := Lib.hid (below_then HB.out hb); clear hb
    go_wp2_with fail
    go_ret
    exact ⟨rfl, HB2.out⟩
  | true =>
    rw [hs] at hsm
    rcases Nat.lt_or_ge 60 n2 with hk60 | hk60
    · have hk1 : decide ((n2 : Int) > 60) = true := decide_eq_true (by omega)
      have HSM := Lib.hid hsm; clear hsm
      have HT := Lib.hid hT; clear hT
      clear ha0 hs hc0 hm0 hh0 ha2 hn2 hc2 hm2
      go_enter Tryd.func5, Tryd.ntmps5
      go_wp2_with fail
      refine HSM.out.mono ?_
      rintro e w1 ⟨rfl, hb⟩
      have HAW := Lib.hid (awake_any (HT.out.below hb))
      have HB := Lib.hid hb; clear hb
      go_wp2_with fail
      refine HAW.out.mono ?_
      rintro e w2 ⟨rfl, hb⟩
      have HB2 := Lib.hid (below_then HB.out hb); clear hb
      go_wp2_with fail
      go_ret
      exact ⟨rfl, HB2.out⟩
    have hk1 : decide ((n2 : Int) > 60) = false := decide_eq_false (by omega)
    obtain ⟨hfit, hl40, ht60⟩ := small_fit (by decide) hs hh0
    obtain ⟨M, hM⟩ : ∃ M, M = comeE L0 := ⟨_, rfl⟩
    have hgood : Good 0 M := by rw [hM]; exact hfit.good
    have hM40 : M.length ≤ 60 := by rw [hM]; exact Nat.le_trans (comeE_len L0) hl40
    obtain ⟨X, hX⟩ : ∃ X, X = layL 13 0 M := ⟨_, rfl⟩
    have hlaid : Laid M 0 X := by rw [hX]; exact lay_laid 13 0 M rfl hgood
    have hok := hlaid.ok
    have hri := hlaid.right
    have hof : ∀ W, Below w.heap.size w W → Calls Tryd.prog 8 #[.slice A0 L0.length c0] W fun e w' => ∃ v, e = .returned v ∧ Nde (fun b => W.heap.size ≤ b) w' X v ∧ Below W.heap.size W w' := fun W hW => by
      have h := of_any (F := fun b => W.heap.size ≤ b) c0 (fun b hb => hb) (hT.below hW) (ha0.below hW) hfit
      rw [← hM, ← hX] at h
      exact h
    have hrf := fun (W : World) (hW : Below w.heap.size w W) => refOf_any (ha0.below hW) c0 (by omega)
    have hco : ∀ W A c, Res W A L0 → Calls Tryd.prog 11 #[.slice A L0.length c] W fun e w' => (∃ A' c', e = .returned (.slice A' M.length c') ∧ Res w' A' M ∧ NewIn W.heap.size w' A') ∧ Below W.heap.size W w' := fun W A c hR => by
      have h := refComeE_any hR c (by omega)
      rw [← hM] at h
      exact h
    have hly : ∀ W A c, Res W A M → Calls Tryd.prog 10 #[.slice A M.length c, .int .i64 0] W fun e w' => ∃ r, e = .returned (RN.agg r X) ∧ Mde (fun b => b < w'.heap.size) w' X r ∧ Below W.heap.size W w' := fun W A c hR => by
      have h := layR_all 13 0 rfl W A M c hR hgood
      rw [← hX] at h
      exact h.mono fun e w' ⟨r, h1, h2, h3⟩ => ⟨r, h1, h2.mono fun b hb _ => hb, h3⟩
    have hen : ∀ W r, Mde (fun b => b < W.heap.size) W X r → Calls Tryd.prog 9 #[RN.agg r X, .int .u64 (z1 : Int), .int .i64 0] W fun e w' => ∃ r', e = .returned (.tuple #[RN.agg r' (X.endAt z1 0), .int .i64 ((X.deep z1 0 : Nat) : Int)]) ∧ Mde (fun b => b < W.heap.size) w' (X.endAt z1 0) r' ∧ Below W.heap.size W w' := fun W r h => end_any X _ W r 0 z1 (fun b hb => hb) h hok hri (by decide) hz1
    have hd13 := deep_le X z1 0 hok hri (by decide)
    have hg0 : ∀ W v, Below w.heap.size w W → Nde (fun b => b < W.heap.size) W X v → Calls Tryd.prog 14 #[v, .int .u64 (z1 : Int), .slice A2 L2.length c2, .pointer none] W fun e w' => ∃ A' cc, e = .returned (.tuple #[.slice A' (X.valKey z1 L2).length cc, .bool (X.hasKey z1 L2)]) ∧ Bts w' A' (X.valKey z1 L2) ∧ Below W.heap.size W w' := fun W v hW hn =>
      (get18_any (k := L2) (vv := 0) (c := 0) c2 hn hok hri (.inl rfl) (fun a e => by cases e) hz1 (ha2.below hW) (by decide) (by decide)).mono fun e w' ⟨A', cc, v', c', h1, h2, _, h3, _⟩ => ⟨A', cc, h1, h2, h3.nil⟩
    have hgm : ∀ W v g, Below w.heap.size w W → Nde (fun b => b < g) W X v → Met W (some ⟨g, 0, none⟩) 0 0 → Calls Tryd.prog 14 #[v, .int .u64 (z1 : Int), .slice A2 L2.length c2, .pointer (some ⟨g, 0, none⟩)] W fun e w' => ∃ A' cc v' c', e = .returned (.tuple #[.slice A' (X.valKey z1 L2).length cc, .bool (X.hasKey z1 L2)]) ∧ Bts w' A' (X.valKey z1 L2) ∧ Met w' (some ⟨g, 0, none⟩) v' c' ∧ Only (some ⟨g, 0, none⟩) W w' ∧ Seen (X.endAt z1 0) z1 (X.deep z1 0) 0 v' c' := fun W v g hW hn hm => by
      have h := get18_any (k := L2) c2 hn hok hri hm (fun a e => by cases e; exact Nat.lt_irrefl g) hz1 (ha2.below hW) (by decide) (by decide)
      simp only [Nat.zero_add] at h
      exact h
    have hcom : ∀ W, Below w.heap.size w W → Calls Tryd.prog 16 #[.slice A0 L0.length c0] W fun e w' => (∃ A' c', e = .returned (.slice A' M.length c')) ∧ Below W.heap.size W w' := fun W hW => by
      have h := comeE_any (ha0.below hW) c0 (by omega) (fun e he => by have := ht60 e he; omega)
      rw [← hM] at h
      exact h.mono fun e w' ⟨v, h1, h2, h3⟩ => by
        obtain ⟨A', c', rfl, _, h4⟩ := h2.ens
        exact ⟨⟨A', c', h1⟩, h3⟩
    obtain ⟨bn, hbn⟩ : ∃ b, b = 16 + Dg.bl ((M.length + 1) ^ 6) := ⟨_, rfl⟩
    have hbd := fun W => Dg.refBound_any M.length W (by omega) bn hbn
    have hsb : Hid (∀ v' c', Seen (X.endAt z1 0) z1 (X.deep z1 0) 0 v' c' → v' ≤ bn ∧ c' ≤ v' ∧ X.deep z1 0 ≤ 13) := fun v' c' hs => by
      have h5 := hs.2.2.2.1
      rw [hX] at hs
      have := seen_bound hgood hs
      rw [hbn]
      rw [← hX] at hs
      exact ⟨this, by have := deep_le X z1 0 hok hri (by decide); have : X.deep z1 0 ≤ v' := (by
        obtain ⟨s1, s2, s3, _, _⟩ := hs
        have hk3 := (end_kind X z1 0 hok).1
        generalize X.endAt z1 0 = Y at s1 s2 s3 hk3
        cases Y with
        | bran _ _ _ => exact absurd rfl hk3
        | none => have := (s2 (.inl rfl)).1; omega
        | leaf h' p => have := (s1 rfl).1; omega
        | buck h' K =>
          by_cases hh : h' = z1
          · have := (s3 rfl hh).1; omega
          · have := (s2 (.inr ⟨hh, rfl⟩)).1; omega); omega, by have := deep_le X z1 0 hok hri (by decide); omega⟩
    have hk3 := (end_kind X z1 0 hok).1
    rw [← hn2] at hg0 hgm
    obtain ⟨V, hV⟩ : ∃ V, V = X.valKey z1 L2 := ⟨_, rfl⟩
    obtain ⟨bb, hbb⟩ : ∃ b, b = X.hasKey z1 L2 := ⟨_, rfl⟩
    obtain ⟨vl, hvl⟩ : ∃ n, n = V.length := ⟨_, rfl⟩
    simp only [← hV, ← hbb, ← hvl] at hg0 hgm
    obtain ⟨vs, hvs⟩ : ∃ s : ByteArray, s = ⟨V.toArray⟩ := ⟨_, rfl⟩
    have HCV : Hid (∀ W A c, Bts W A V → (convert 24 9 (.slice A vl c)).run Tryd.prog W = .ok (.string vs) W) := fun W A c h => by rw [hvl, hvs]; exact conv_any h c
    have hss : (vs.toList == vs.toList) = true := by simp
    have hbe : (bb == bb) = true := by simp
    have hbe2 : (bb != bb) = false := by simp
    obtain ⟨Y, hY⟩ : ∃ Y, Y = X.endAt z1 0 := ⟨_, rfl⟩
    obtain ⟨d, hd⟩ : ∃ d, d = X.deep z1 0 := ⟨_, rfl⟩
    simp only [← hY, ← hd] at hgm hen hd13 hsb hk3
    obtain ⟨L, hLL⟩ : ∃ n, n = L0.length := ⟨_, rfl⟩
    obtain ⟨ML, hMLn⟩ : ∃ n, n = M.length := ⟨_, rfl⟩
    rw [← hLL] at hsm ⊢
    simp only [← hLL] at hof hrf hco hcom
    simp only [← hMLn] at hco hly hcom hbd
    have hbn2 : bn ≤ 10000 := by
      have : Dg.bl ((M.length + 1) ^ 6) ≤ 36 := (Dg.bl_le _ _).2 (Nat.lt_of_le_of_lt (Nat.pow_le_pow_left (show M.length + 1 ≤ 61 by omega) 6) (by decide))
      omega
    have HSM := Lib.hid hsm; clear hsm
    have HOF := Lib.hid hof; clear hof
    have HRF := Lib.hid hrf; clear hrf
    have HCO := Lib.hid hco; clear hco
    have HLY := Lib.hid hly; clear hly
    have HEN := Lib.hid hen; clear hen
    have HG0 := Lib.hid hg0; clear hg0
    have HGM := Lib.hid hgm; clear hgm
    have HCOM := Lib.hid hcom; clear hcom
    have HBD := Lib.hid hbd; clear hbd
    have HT := Lib.hid hT; clear hT
    have HK3 := Lib.hid hk3; clear hk3
    have hml2 : ML ≤ 60 := by omega
    clear ha0 ha2 hs hc0 hm0 hh0 hfit hl40 ht60 hM hX hgood hM40 hlaid hok hri hLL hMLn hn2 hc2 hm2 hY hd hz1 hn2b hV hbb hvl hvs hbn
    go_enter Tryd.func5, Tryd.ntmps5
    go_wp2_with fail
    refine HSM.out.mono ?_
    rintro e w1 ⟨rfl, hb⟩
    have B1 := Lib.hid hb
    have J := Lib.hid (HOF.out w1 hb); clear hb
    go_wp2_with fail
    refine J.out.mono ?_
    rintro e w2 ⟨v, rfl, hn, hb⟩
    have N2 := Lib.hid (hn.mono (G := fun b => b < w2.heap.size) fun b hl _ => hl)
    have B2 := Lib.hid (below_then B1.out hb); clear hn hb J
    have J := Lib.hid (HRF.out w2 B2.out)
    go_wp2_with fail
    refine J.out.mono ?_
    rintro e w3 ⟨⟨A3, c3, rfl, _, hr3, _⟩, hb⟩
    have N3 := Lib.hid (N2.out.below hb)
    have B3 := Lib.hid (below_then B2.out hb); clear hb J
    have J := Lib.hid (HCO.out w3 A3 c3 hr3); clear hr3
    go_wp2_with fail
    refine J.out.mono ?_
    rintro e w4 ⟨⟨A4, c4, rfl, hr4, _⟩, hb⟩
    have N4 := Lib.hid (N3.out.below hb)
    have B4 := Lib.hid (below_then B3.out hb); clear hb J
    have J := Lib.hid (HLY.out w4 A4 c4 hr4); clear hr4
    go_wp2_with fail
    refine J.out.mono ?_
    rintro e w5 ⟨r5, rfl, hm5, hb⟩
    have N5 := Lib.hid (N4.out.below hb)
    have B5 := Lib.hid (below_then B4.out hb)
    have J := Lib.hid (HEN.out w5 r5 hm5); clear hb hm5
    obtain ⟨ar5, har5⟩ : ∃ v, v = RN.agg r5 X := ⟨_, rfl⟩
    have har : ∃ xs, ar5 = .agg xs := ⟨_, har5⟩
    rw [← har5] at J ⊢
    clear har5
    obtain ⟨xs5, rfl⟩ := har
    go_wp2_with fail
    refine J.out.mono ?_
    rintro e w6 ⟨⟨pa, pc, sa, sc, ka, kc⟩, rfl, hm6, hb⟩
    have N6 := Lib.hid (N5.out.below hb)
    have P6 := Lib.hid hm6.prs
    have B6 := Lib.hid (below_then B5.out hb); clear hb hm6 J
    obtain ⟨k0, hk0⟩ : ∃ k, k = Y.kind := ⟨_, rfl⟩
    obtain ⟨k1, hkh⟩ : ∃ k, k = Y.hash := ⟨_, rfl⟩
    obtain ⟨k2, hk2⟩ : ∃ k, k = Y.prs.length := ⟨_, rfl⟩
    obtain ⟨k3, hk3⟩ : ∃ k, k = Y.set.length := ⟨_, rfl⟩
    obtain ⟨k4, hk4⟩ : ∃ k, k = Y.num := ⟨_, rfl⟩
    have hag : RN.agg (⟨pa, pc, sa, sc, ka, kc⟩ : RN) Y = .agg #[.int .i64 (k0 : Int), .int .u64 (k1 : Int), .slice pa k2 pc, .slice sa k3 sc, .slice ka k4 kc] := by rw [hk0, hkh, hk2, hk3, hk4]; rfl
    rw [hag]
    obtain ⟨gx, hgx⟩ : ∃ g, g = w6.heap.size := ⟨_, rfl⟩
    obtain ⟨w7, hw7⟩ : ∃ x, x = w6.alloc (.cells #[.int .i64 (k0 : Int), .int .u64 (k1 : Int), .slice pa k2 pc, .slice sa k3 sc, .slice ka k4 kc] 34) := ⟨_, rfl⟩
    have hb7 : Below w6.heap.size w6 w7 := by rw [hw7]; exact (Below.refl _ _).alloc (Nat.le_refl _) _
    have r7 : w7.heap[gx]? = some (.cells #[.int .i64 (k0 : Int), .int .u64 (k1 : Int), .slice pa k2 pc, .slice sa k3 sc, .slice ka k4 kc] 34 (0, 0)) := by rw [hw7, hgx]; exact heap_alloc_new w6 _
    have hg7 : gx < w7.heap.size := (Array.getElem?_eq_some_iff.1 r7).1
    have HCEL : Hid (∀ W, Below w7.heap.size w7 W → W.cell? ⟨gx, 0, none⟩ = some (.int .i64 (k0 : Int)) ∧ W.cell? ⟨gx, 1, none⟩ = some (.int .u64 (k1 : Int)) ∧ W.cell? ⟨gx, 2, none⟩ = some (.slice pa k2 pc)) := fun W hW => by
      obtain ⟨y0, y1, y2, _, _⟩ := (row5 ((hW.block gx hg7).trans r7)).1
      exact ⟨y0, y1, y2⟩
    have N7 := Lib.hid (N6.out.below hb7)
    have P7 := Lib.hid (P6.out.below hb7)
    have B7 := Lib.hid (below_then B6.out hb7)
    have HK := Lib.hid (And.intro hk0 (And.intro hkh hk2))
    have HGX := Lib.hid hgx; clear hgx
    have HW7 := Lib.hid hw7; clear hw7
    clear hb7 r7 hg7 hk0 hkh hk2 hk3 hk4 hag HSM HOF HRF HCO HLY HEN
    go_upto_region 5 with fail
    simp only [← HGX.out] at HW7 ⊢
    rw [← HW7.out]
    obtain ⟨gm, hgm⟩ : ∃ g, g = w7.heap.size := ⟨_, rfl⟩
    obtain ⟨w8, hw8⟩ : ∃ x, x = w7.alloc (.cells #[.int .i64 0, .int .i64 0] 54) := ⟨_, rfl⟩
    have b8 : Below w7.heap.size w7 w8 := by rw [hw8]; exact (Below.refl _ _).alloc (Nat.le_refl _) _
    have r8 : w8.heap[gm]? = some (.cells #[.int .i64 0, .int .i64 0] 54 (0, 0)) := by rw [hw8, hgm]; exact heap_alloc_new w7 _
    have n8 := (N7.out.mono (G := fun b => b < gm) fun b hl _ => by rw [hgm]; exact hl).below b8
    have J := Lib.hid (HGM.out w8 v gm (below_then B7.out b8) n8 (.inr ⟨gm, rfl, r8⟩))
    have N8 := Lib.hid n8; clear n8
    have B78 := Lib.hid b8; clear b8
    have HGMS : Hid (gm = w7.heap.size) := hgm
    have HW8 := Lib.hid hw8; clear hw8
    clear r8 hgm HGM
    go_upto_region 6 with fail
    simp only [← HGMS.out] at HW8 ⊢
    rw [← HW8.out]
    go_wp2_with fail
    refine J.out.mono ?_
    rintro e w9 ⟨A9, c9, v', c', rfl, hb9, hm9, ho9, hsn⟩
    have b89 : Below w7.heap.size w8 w9 := ho9.below B78.out.size (by rw [HGMS.out]; exact Nat.le_refl _)
    have B79 := Lib.hid (B78.out.trans b89)
    have n9 := N8.out.kept (kept_only (F := fun b => b < gm) (fun a e => by cases e; exact Nat.lt_irrefl gm) ho9)
    have hgs : gm ≤ w9.heap.size := by rw [HGMS.out]; exact B79.out.size
    have N9 := Lib.hid (n9.mono (G := fun b => b < w9.heap.size) fun b hl _ => hl); clear n9 hgs
    have B9 := Lib.hid (below_then B7.out B79.out)
    have M9 := Lib.hid hm9; clear hm9
    have V9 := Lib.hid hb9; clear hb9
    have SN := Lib.hid hsn
    obtain ⟨hvb, hcb, hd13'⟩ := hsb.out v' c' hsn
    have J := Lib.hid (HG0.out w9 v B9.out N9.out)
    clear hsn ho9 b89
    go_wp2_with fail
    refine J.out.mono ?_
    rintro e w10 ⟨A10, c10, rfl, hb10, hb⟩
    have B10 := Lib.hid (below_then B9.out hb)
    have B710 := Lib.hid (below_then B79.out hb)
    obtain ⟨g2, hg2, r10⟩ : ∃ g2, (some (⟨gm, 0, none⟩ : Addr)) = some ⟨g2, 0, none⟩ ∧ w10.heap[g2]? = some (.cells #[.int .i64 (v' : Int), .int .i64 (c' : Int)] 54 (0, 0)) := by
      rcases M9.out.below hb with h | h
      · cases h
      · exact h
    cases hg2
    have hgl : gm < w10.heap.size := (Array.getElem?_eq_some_iff.1 r10).1
    have HC10 : Hid (∀ W, Below w10.heap.size w10 W → (W.cell? ⟨gm, 0, none⟩ = some (.int .i64 (v' : Int)) ∧ W.cell? ⟨gm, 1, none⟩ = some (.int .i64 (c' : Int))) ∧ (convert 24 9 (.slice A9 vl c9)).run Tryd.prog W = .ok (.string vs) W ∧ (convert 24 9 (.slice A10 vl c10)).run Tryd.prog W = .ok (.string vs) W) := fun W hW => by
      have := (hW.block gm hgl).trans r10
      exact ⟨⟨row_cell this rfl, row_cell this rfl⟩, HCV.out W A9 c9 ((V9.out.below hb).below hW), HCV.out W A10 c10 (hb10.below hW)⟩
    have HX10 : Hid (∀ W, Below w10.heap.size w10 W → W.cell? ⟨gx, 0, none⟩ = some (.int .i64 (k0 : Int)) ∧ W.cell? ⟨gx, 1, none⟩ = some (.int .u64 (k1 : Int))) := fun W hW => by
      obtain ⟨y0, y1, _⟩ := HCEL.out W (below_then B710.out hW)
      exact ⟨y0, y1⟩
    have HCM : Hid (∀ W, Below w10.heap.size w10 W → Calls Tryd.prog 16 #[.slice A0 L c0] W fun e w' => (∃ A' c', e = .returned (.slice A' ML c')) ∧ Below W.heap.size W w') := fun W hW => HCOM.out W (below_then B10.out hW)
    have HAW : Hid (∀ W, Below w10.heap.size w10 W → Calls Tryd.prog 7 #[] W fun e w' => e = .returned (.bool true) ∧ Below W.heap.size W w') := fun W hW => awake_any (HT.out.below (below_then B10.out hW))
    have d1 : decide ((v' : Int) > (bn : Int)) = false := decide_eq_false (by omega)
    have d2 : decide ((c' : Int) > (v' : Int)) = false := decide_eq_false (by omega)
    have d3 : decide (bn < v') = false := decide_eq_false (by omega)
    have d4 : decide (v' < c') = false := decide_eq_false (by omega)
    have hz0 : Below w10.heap.size w10 w10.drew := (Below.refl _ _).drew
    clear J hb hb10 r10 hgl HCEL HCV hsb
    go_wp2_with fail
    go_cut [75] from 50 (fun s75 wx => s75 = .bool false ∧ Hid (Below w10.heap.size w10 wx))
    case first =>
      go_region_held3 (fun W => (W.cell? ⟨gm, 0, none⟩ = some (.int .i64 (v' : Int)) ∧ W.cell? ⟨gm, 1, none⟩ = some (.int .i64 (c' : Int))) ∧ (convert 24 9 (.slice A9 vl c9)).run Tryd.prog W = .ok (.string vs) W ∧ (convert 24 9 (.slice A10 vl c10)).run Tryd.prog W = .ok (.string vs) W) (first | (with_reducible exact HC10.out _ hz0) | (with_reducible exact HC10.out _ hzA) | (with_reducible exact HC10.out _ hzB)) (first
        | (go_at_call 16; refine (HCM.out _ hz0).mono ?_; rintro e wA ⟨⟨AA, cA, rfl⟩, hA⟩; have hzA := below_then hz0 hA)
        | (go_at_call 17; refine (HBD.out _).mono ?_; rintro e wB ⟨rfl, hB⟩; have hzB := below_then hzA hB))
      all_goals (go_wp2_with fail; go_meet; exact ⟨rfl, hzB⟩)
    case rest =>
      obtain ⟨rfl, hbx⟩ := hcut
      obtain ⟨y0, y1⟩ := HX10.out wc hbx.out
      obtain ⟨⟨m0, m1⟩, _, _⟩ := HC10.out wc hbx.out
      have hkk : k0 = 0 ∨ k0 = 1 ∨ k0 = 2 := by
        have h1 := HK.out.1
        have h2 := HK3.out
        have h3 : Y.kind ≤ 3 := by cases Y <;> simp [Nd.kind]
        omega
      have gg := fun W x y xs ys => guard_met W x y xs ys
      obtain ⟨s1, s2, s3, _, _⟩ := SN.out
      rw [← HK.out.1, ← HK.out.2.1] at s1 s2 s3
      clear HX10 HC10 SN d1 d2 d3 d4 hvb hcb hss hbe hbe2 HCM HBD hz0
      rcases hkk with rfl | rfl | rfl
      · obtain ⟨e1, e2⟩ := s2 (.inl rfl)
        subst e1 e2
        clear s1 s2 s3
        have em := fun W => eq_met (v' : Int) 0 (v' : Int) 0 W
        simp only [beq_self_eq_true, Bool.and_self] at em
        have JA := Lib.hid (HAW.out wc hbx.out)
        go_wp2_with fail
        refine JA.out.mono ?_
        rintro e wE ⟨rfl, hbE⟩
        have BE := Lib.hid (below_then (below_then B10.out hbx.out) hbE); clear hbE JA
        go_wp2_with fail
        go_ret
        exact ⟨rfl, BE.out⟩
      · obtain ⟨e1, e2⟩ := s1 rfl
        have e3 : (v' : Int) = (d : Int) + 1 := by omega
        rw [e3] at m0
        have em := fun W (z : Int) => eq_met ((d : Int) + 1) z ((d : Int) + 1) z W
        simp only [beq_self_eq_true, Bool.and_self] at em
        clear s1 s2 s3 e1 e3
        by_cases hkz : k1 = z1
        · have hzz : ((k1 : Int) == (z1 : Int)) = true := by simp; omega
          rw [if_pos hkz] at e2
          have e4 : (c' : Int) = 1 := by omega
          rw [e4] at m1
          clear e2 e4 hkz
          have JA := Lib.hid (HAW.out wc hbx.out)
          go_wp2_with fail
          refine JA.out.mono ?_
          rintro e wE ⟨rfl, hbE⟩
          have BE := Lib.hid (below_then (below_then B10.out hbx.out) hbE); clear hbE JA
          go_wp2_with fail
          go_ret
          exact ⟨rfl, BE.out⟩
        · have hzz : ((k1 : Int) == (z1 : Int)) = false := by simp; omega
          rw [if_neg hkz] at e2
          have e4 : (c' : Int) = 0 := by omega
          rw [e4] at m1
          clear e2 e4 hkz
          have JA := Lib.hid (HAW.out wc hbx.out)
          go_wp2_with fail
          refine JA.out.mono ?_
          rintro e wE ⟨rfl, hbE⟩
          have BE := Lib.hid (below_then (below_then B10.out hbx.out) hbE); clear hbE JA
          go_wp2_with fail
          go_ret
          exact ⟨rfl, BE.out⟩
      · by_cases hkz : k1 = z1
        · have hzz : ((k1 : Int) != (z1 : Int)) = false := by simp; omega
          have hzz2 : ((k1 : Int) == (z1 : Int)) = true := by simp; omega
          have hlt := (s3 rfl hkz).1
          have d3 : decide ((v' : Int) > (d : Int)) = true := decide_eq_true (by omega)
          have d4 : decide (d < v') = true := decide_eq_true hlt
          clear s1 s2 s3 hkz
          have JA := Lib.hid (HAW.out wc hbx.out)
          go_wp2_with fail
          refine JA.out.mono ?_
          rintro e wE ⟨rfl, hbE⟩
          have BE := Lib.hid (below_then (below_then B10.out hbx.out) hbE); clear hbE JA
          go_wp2_with fail
          go_ret
          exact ⟨rfl, BE.out⟩
        · have hzz : ((k1 : Int) != (z1 : Int)) = true := by simp; omega
          have hzz2 : ((k1 : Int) == (z1 : Int)) = false := by simp; omega
          obtain ⟨e1, e2⟩ := s2 (.inr ⟨hkz, rfl⟩)
          subst e1 e2
          clear s1 s2 s3 hkz
          have em := fun W => eq_met (v' : Int) 0 (v' : Int) 0 W
          simp only [beq_self_eq_true, Bool.and_self] at em
          have JA := Lib.hid (HAW.out wc hbx.out)
          go_wp2_with fail
          refine JA.out.mono ?_
          rintro e wE ⟨rfl, hbE⟩
          have BE := Lib.hid (below_then (below_then B10.out hbx.out) hbE); clear hbE JA
          go_wp2_with fail
          go_ret
          exact ⟨rfl, BE.out⟩

theorem lifted (os : Os) (started : os.Started) (H : Type) (enc : TypeId × Value → H) :
    ReturnsInHanded {} Tryd.checked os 5 .any (fun w args => (Rows.findMetersSpec.pre enc Tryd.prog Tryd.f5 [] false w args ∧ laidMetH Tryd.prog laid w) ∧ sizedMet enc Tryd.prog Tryd.f5 (OpenSpec.ofChange Rows.findMetersSpec) false w args)
      (Rows.findMetersSpec.post enc Tryd.prog Tryd.f5 false true false false) := by
  refine returnsInHanded_of_change_and (C := Tryd.checked) (X := fun w _ => laidMetH Tryd.prog laid w) (fun _ _ _ hh h => h.of_heap hh) own started (by kernel_rfl) Tryd.func5
    (ChangeSpec.witness_shaped (enc := enc) (C := Tryd.checked) (os := os) (X := fun w _ => laidMetH Tryd.prog laid w) false (World.laidAll Tryd.prog os laid) #[.slice none 0 0, .int .u64 0, .slice none 0 0] 8 (World.laidAll_os _ _ _)
      (World.shaped_of_ZipB (by kernel_rfl) (by kernel_rfl)) (by kernel_rfl) (by kernel_rfl) (by kernel_rfl)
      (by rw [MakeChecks.laidMetH_plain _ _ _ (by kernel_rfl)]; exact laidMet_laidAll _ (by kernel_rfl) (by kernel_rfl))) ?_
  intro W base args ds gs before hval0 hW _ _ hL _
  have hval : ∀ (j : Nat) t v, Tryd.f5.params[j]? = some t → args[j]? = some v → Value.okWide Tryd.prog W .any base t v := hval0
  have hW' := hW
  obtain ⟨p, q, hA0, hV, rfl, _, _⟩ := hW
  have hA : DataW.TrodAll enc Tryd.prog W 0 (fun _ => true) true Tryd.f5.params.toList args.toList ds p := hA0
  rw [Tryd.params5] at hA hval
  obtain ⟨v0, vs0, d0, ds0, p0, q0, hargs, rfl, rfl, h0, r0⟩ := trodAll_cons hA
  obtain ⟨v1, vs1, d1, ds1, p1, q1, rfl, rfl, rfl, h1, r1⟩ := trodAll_cons r0
  obtain ⟨v2, vs2, d2, ds2, p2, q2, rfl, rfl, rfl, h2, r2⟩ := trodAll_cons r1
  obtain ⟨rfl, rfl, rfl⟩ := trodAll_nil r2
  obtain rfl : args = #[v0, v1, v2] := by cases args; simp_all
  obtain ⟨rfl, rfl⟩ := trodVars_none hV
  have lt0 : ∀ x ∈ p0, x.block < W.heap.size := by obtain ⟨m, hm⟩ := h0; exact DataW.trod_lt m _ _ _ hm
  have ok0 := hval 0 22 v0 rfl rfl
  have lt1 : ∀ x ∈ p1, x.block < W.heap.size := by obtain ⟨m, hm⟩ := h1; exact DataW.trod_lt m _ _ _ hm
  have ok1 := hval 1 23 v1 rfl rfl
  have lt2 : ∀ x ∈ p2, x.block < W.heap.size := by obtain ⟨m, hm⟩ := h2; exact DataW.trod_lt m _ _ _ hm
  have ok2 := hval 2 24 v2 rfl rfl
  clear hA0 hval0 hval
  obtain ⟨A0, c0, L0, rfl, hc0, hm0, ha0, hh0⟩ := entries_in ok0 h0
  obtain ⟨z1, rfl, hz1⟩ := num_in ok1 h1
  obtain ⟨A2, c2, L2, rfl, hc2, hm2, ha2⟩ := bytes_in ok2 h2
  refine (walk W hc0 hm0 ha0 hh0 hz1 hc2 hm2 ha2 (tab_of_laid hL)).mono fun e W' ⟨he, bel⟩ => ?_
  subst he
  exact ⟨_, rfl, _, _, _, [], _, [], hW', trodAll_mk1 (shut_bool Tryd.underlying4 _), (trodAll_cons_mk (Below.trod laidOut (by kernel_rfl) (of_decide_eq_true (by kernel_rfl)) h0 bel lt0) (trodAll_cons_mk (Below.trod laidOut (by kernel_rfl) (of_decide_eq_true (by kernel_rfl)) h1 bel lt1) (trodAll_cons_mk (Below.trod laidOut (by kernel_rfl) (of_decide_eq_true (by kernel_rfl)) h2 bel lt2) trodAll_mk0))), rfl, bel.frame _, fun h => by cases h⟩

theorem over : Rows.FindMetersSaid :=
  OpenClaim.holds_of_wide 5 Tryd.f5 rfl rfl rfl rfl rfl rfl rfl ⟨rfl, rfl, rfl, rfl, rfl⟩ rfl rfl rfl rfl rfl (by kernel_rfl) Tryd.func5 (by kernel_rfl)
    (of_decide_eq_true (by kernel_rfl)) (by unfold Func.isWrapper; first | (rw [if_pos (by decide +kernel)]; kernel_rfl) | (rw [if_neg (by decide +kernel)]; exact ⟨rfl, rfl⟩))
    (fun os started H enc _ => lifted os started H enc)

/-- ████ THE STATEMENT: THE TIED CARD ████ -/
theorem proved : Rows.FindMetersCardSaid :=
  Claim7.holds_tied_plain_at .later [] [.data] true (true, "ff3f2754b6fa9aed38bb7fb7396d085aee7f3ca0826b58b1b4ac0abbbe6f43fa") true over (fun _ h => by cases h) (by kernel_rfl) (fun _ h => by cases h) findMeters_row_tie rfl ⟨rfl, rfl⟩ (by kernel_rfl) rfl
    (fun f fn hf hfn => by
      obtain rfl : f = 5 := Option.some.inj ((show Tryd.prog.funcNamed "brushwood/brushwoodlaw18.FindMeters" = some 5 by kernel_rfl).symm.trans hf) |>.symm
      obtain rfl : fn = Tryd.f5 := (Option.some.inj (Tryd.func5.symm.trans hfn)).symm
      exact ⟨by kernel_rfl, fun j t ht => by
        rw [Tryd.params5] at ht
        have hm : t ∈ [22, 23, 24] := by simpa using Array.mem_of_getElem? ht
        have hall : ([22, 23, 24].all fun u => !Tryd.prog.wantsStandIn u) = true := by kernel_rfl
        exact (show Tryd.prog.wantsStandIn t = false by simpa using List.all_eq_true.1 hall t hm)⟩)
    (by kernel_rfl)
#print axioms proved
end Go.Proofs.YtajanacbifjmgaaDoor.findMeters
