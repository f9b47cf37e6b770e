/-
  LayoutOrder: for every input the law answers true and leaves its arguments as they were; the row lists math/bits.deBruijn32tab, the card ties it to the program's text (the tie is given).
  Conditions: none beside the row's own.
-/
import Derived.Test.YtngfbkkfnooobaaDoorAwake
import Derived.Test.YtngfbkkfnooobaaDoorAlike
import Derived.Test.YtngfbkkfnooobaaDoorComeE
import Derived.Test.YtngfbkkfnooobaaDoorFront
import Derived.Test.YtngfbkkfnooobaaDoorIn
import Derived.Test.YtngfbkkfnooobaaDoorLaid
import Derived.Test.YtngfbkkfnooobaaDoorCards
import Derived.Test.YtngfbkkfnooobaaDoorTie
import Derived.ShutString
import Derived.ChangeOld
import Derived.Below
namespace Go.Proofs.YtngfbkkfnooobaaDoor.layoutOrder
open Go.ChangeShapes Go.WideShapes Go.ChangeAt Go.RowKit Go.Shelf
set_option linter.unusedVariables false
theorem laidOut : laidOutB Tryd.prog = true := by kernel_rfl
set_option maxRecDepth 100000
set_option maxHeartbeats 4000000 in
theorem walk {A0 : Option Addr} {c0 : Nat} {L0 : List En} {A1 : Option Addr} {c1 : Nat} {L1 : List UInt8} (w : World) (hc0 : L0.length ≤ c0) (hm0 : c0 ≤ maxLen) (ha0 : Ens w A0 L0) (hh0 : ∀ e ∈ L0, e.1 < 18446744073709551616) (hc1 : L1.length ≤ c1) (hm1 : c1 ≤ maxLen) (ha1 : Bts w A1 L1) (hT : Tab w) :
    Calls Tryd.prog 4 #[.slice A0 L0.length c0, .slice A1 L1.length c1] w fun e w' => e = .returned (.bool true) ∧ Below w.heap.size w w' := by
  have hml : maxLen ≤ 9223372036854775807 := by decide
  have hsm := small_any ha0 c0 40 (by decide) (Nat.le_trans (Nat.le_trans hc0 hm0) hml)
  cases hs : (decide (L0.length ≤ 40) && tinyE L0) with
  | false =>
    rw [hs] at hsm
    have HSM := Lib.hid hsm; clear hsm
    have HT := Lib.hid hT; clear hT
    clear ha0 hs hc0 hm0 hh0 ha1
    go_enter Tryd.func4, Tryd.ntmps4
    go_wp2_with fail
    refine HSM.out.mono ?_
    rintro e w1 ⟨rfl, hb⟩
    have HAW := Lib.hid (awake_any (HT.out.below hb))
    have HB := Lib.hid hb; clear hb
    go_wp2_with fail
    refine HAW.out.mono ?_
    rintro e w2 ⟨rfl, hb⟩
    have HB2 := Lib.hid (below_then HB.out hb); clear hb
    go_wp2_with fail
    go_ret
    exact ⟨rfl, HB2.out⟩
  | true =>
    rw [hs] at hsm
    obtain ⟨hfit, hl40, ht60⟩ := small_fit (by decide) hs hh0
    obtain ⟨LM, hLM⟩ : ∃ n, n = L1.length := ⟨_, rfl⟩
    by_cases hlm : LM ≤ 40
    · obtain ⟨M, hM⟩ : ∃ M, M = comeE L0 := ⟨_, rfl⟩
      have hmm : ∀ e ∈ M, e ∈ L0 := fun e he => by rw [hM] at he; exact comeE_mem he
      have hap : apart M := by rw [hM]; exact comeE_apart L0
      have hgood : Good 0 M := by rw [hM]; exact hfit.good
      have hML0 : M.length ≤ L0.length := by rw [hM]; exact comeE_len L0
      obtain ⟨X, hX⟩ : ∃ X, X = layL 13 0 M := ⟨_, rfl⟩
      have hlaid : X.ok := by rw [hX]; exact (lay_laid 13 0 M rfl hgood).ok
      have hperm : ∀ P : List En, P.Perm M → FitE P ∧ layL 13 0 (comeE P) = X := fun P hP => by
        refine ⟨⟨by rw [hP.length_eq]; omega, fun e he => hfit.2 e (hmm e (hP.mem_iff.1 he))⟩, ?_⟩
        rw [comeE_id (apart_perm hP.symm hap), hX]
        exact (lay_perm 13 0 M P rfl hgood hP.symm).symm
      have hofP : Hid (∀ (W : World) (A : Option Addr) (c : Nat) (P : List En), Below w.heap.size w W → P.Perm M → Ens W A P → Calls Tryd.prog 11 #[.slice A P.length c] W fun e w' => ∃ v, e = .returned v ∧ Nde (fun b => W.heap.size ≤ b) w' X v ∧ Below W.heap.size W w') := fun W A c P hW hP hE => by
        have h := of_any (F := fun b => W.heap.size ≤ b) c (fun b hb => hb) (hT.below hW) hE (hperm P hP).1
        rw [(hperm P hP).2] at h
        exact h
      have hofL : Hid (∀ (W : World), Below w.heap.size w W → Calls Tryd.prog 11 #[.slice A0 L0.length c0] W fun e w' => ∃ v, e = .returned v ∧ Nde (fun b => W.heap.size ≤ b) w' X v ∧ Below W.heap.size W w') := fun W hW => by
        have h := of_any (F := fun b => W.heap.size ≤ b) c0 (fun b hb => hb) (hT.below hW) (ha0.below hW) hfit
        rw [← hM, ← hX] at h
        exact h
      have hsame : Hid (∀ (F G : Nat → Prop) (W : World) (v u : Value), Below w.heap.size w W → (∀ b, F b → ¬ G b) → Nde F W X v → Nde G W X u → Calls Tryd.prog 12 #[v, u] W fun e w' => e = .returned (.bool true) ∧ Below W.heap.size W w') := fun F G W v u hW hFG h1 h2 => by
        have h := same_node X F G W X v u hFG h1 h2 hlaid hlaid (hT.below hW)
        rw [same_refl] at h
        exact h
      have hco := fun W (hW : Below w.heap.size w W) => comeE_any (ha0.below hW) c0 (by omega) (fun e he => by have := ht60 e he; omega)
      simp only [← hM] at hco
      have hbt : Hid (∀ W, Below w.heap.size w W → Bts W A1 L1) := fun W hW => ha1.below hW
      obtain ⟨ML, hMLn⟩ : ∃ n, n = M.length := ⟨_, rfl⟩
      have hML40 : ML ≤ 40 := by omega
      rw [← hLM]
      have HSM := Lib.hid hsm; clear hsm
      have HCO := Lib.hid hco; clear hco
      have HT := Lib.hid hT; clear hT
      have HLL := Lib.hid (And.intro hLM hMLn)
      have hngt : ¬ ((40 : Int) < (LM : Int)) := by omega
      clear ha0 hs hc0 hm0 hh0 ha1 hfit ht60 hl40 hmm hap hgood hML0 hlaid hperm hM hX hLM hMLn hc1 hm1
      go_enter Tryd.func4, Tryd.ntmps4
      go_wp2_with fail
      refine HSM.out.mono ?_
      rintro e w1 ⟨rfl, hb⟩
      have B1 := Lib.hid hb; clear hb
      go_wp2_with fail
      refine (HCO.out w1 B1.out).mono ?_
      rintro e w2 ⟨v2, rfl, hn2, hb⟩
      obtain ⟨A2, c2, rfl, hc2, hE2⟩ := hn2.ens
      rw [← HLL.out.2] at hc2 ⊢
      have R2 := Lib.hid hE2; clear hE2 hn2
      have B2 := Lib.hid (below_then B1.out hb); clear hb
      have hcp := fun ty => app_copy R2.out c2 (by have := HLL.out.2; omega) ty
      rw [← HLL.out.2] at hcp
      have HCP := Lib.hid hcp; clear hcp
      clear HCO HSM B1
      go_wp2_with (at_builtin; refine list_of_ex 22 rfl (.tmp 23) (.tmp 24) rfl _ _ rfl rfl HCP.out ?_; rintro v3 w3 ⟨A3, c3, rfl, q1, q2, q3⟩)
      have R3 := Lib.hid (And.intro q2 q3)
      have B3 := Lib.hid (below_then B2.out q3)
      have R23 := Lib.hid (R2.out.below q3)
      clear q2 q3 HCP R2
      go_loopw [6, 28] (fun v6 u wr => ∃ (i : Nat) (A : Option Addr) (c : Nat) (P : List En), u = .int .i64 i ∧ i ≤ LM ∧ v6 = .slice A ML c ∧ ML ≤ c ∧ Hid (P.Perm M ∧ Ens wr A P) ∧ Hid (Below w3.heap.size w3 wr)) (fun _ u _ => LM - (intOf u).toNat)
      case atStart => exact ⟨0, A3, c3, M, rfl, by omega, rfl, q1, ⟨List.Perm.refl _, R3.out.1⟩, Below.refl _ _⟩
      case round =>
        obtain ⟨i, A, c, P, rfl, hi, rfl, hPc, RP, hbel⟩ := hrel
        have hbw := below_then B3.out hbel.out
        have BW := Lib.hid hbw; clear hbw
        have R2W := Lib.hid (R23.out.below hbel.out)
        by_cases hlt : i < LM
        · obtain ⟨b1, o1, rfl, y0⟩ := (hbt.out wr BW.out).at (by rw [← HLL.out.1]; exact hlt : i < L1.length)
          obtain ⟨m, hm⟩ : ∃ m : Nat, m = (L1[i]'(by rw [← HLL.out.1]; exact hlt)).toNat := ⟨_, rfl⟩
          rw [← hm] at y0
          have hm8 : m < 256 := by rw [hm]; exact UInt8.toNat_lt _
          clear hm
          by_cases h0 : ML = 0
          · subst h0
            have J3 := Lib.hid (hofP.out wr A2 c2 M BW.out (List.Perm.refl _) R2W.out)
            rw [← HLL.out.2] at J3
            go_wp2_with fail
            refine J3.out.mono ?_
            rintro e w5 ⟨v5, rfl, hn5, hb⟩
            have B5 := Lib.hid (below_then BW.out hb)
            have J4 := Lib.hid (hofP.out w5 A c P B5.out RP.out.1 (RP.out.2.below hb))
            have N5 := Lib.hid (hn5.mono (G := fun b => b < w5.heap.size) fun b hl _ => hl); clear hb hn5
            rw [RP.out.1.length_eq, ← HLL.out.2] at J4
            clear J3
            go_wp2_with fail
            refine J4.out.mono ?_
            rintro e w6 ⟨v6, rfl, hn6, hb⟩
            have B6 := Lib.hid (below_then B5.out hb)
            have N6 := Lib.hid (N5.out.below hb)
            have H56 : Hid (w5.heap.size ≤ w6.heap.size) := hb.size
            have J5 := Lib.hid (hsame.out _ _ w6 v5 v6 B6.out (fun b h1 h2 => absurd h1 (by show ¬ b < w5.heap.size; have : w5.heap.size ≤ b := h2; omega)) N6.out hn6)
            clear J4 N5 hb hn6
            go_wp2_with fail
            refine J5.out.mono ?_
            rintro e w7 ⟨rfl, hb⟩
            have B7 := Lib.hid (below_then B6.out hb)
            have N7 := Lib.hid (N6.out.below hb)
            have H57 : Hid (w5.heap.size ≤ w7.heap.size) := Nat.le_trans H56.out hb.size
            have J6 := Lib.hid (hofL.out w7 B7.out)
            clear J5 hb
            go_wp2_with fail
            refine J6.out.mono ?_
            rintro e w8 ⟨v8, rfl, hn8, hb⟩
            have B8 := Lib.hid (below_then B7.out hb)
            have J7 := Lib.hid (hsame.out _ _ w8 v5 v8 B8.out (fun b h1 h2 => absurd h1 (by show ¬ b < w5.heap.size; have : w7.heap.size ≤ b := h2; have := H57.out; omega)) (N7.out.below hb) hn8)
            clear J6 hb hn8
            go_wp2_with fail
            refine J7.out.mono ?_
            rintro e w9 ⟨rfl, hb⟩
            have B9 := Lib.hid (below_then B8.out hb)
            have J8 := Lib.hid (awake_any (HT.out.below B9.out))
            clear J7 hb
            go_wp2_with fail
            refine J8.out.mono ?_
            rintro e w10 ⟨rfl, hb⟩
            have B10 := Lib.hid (below_then B9.out hb); clear hb
            go_wp2_with fail
            go_ret
            exact ⟨rfl, B10.out⟩
          · obtain ⟨g, off, ha⟩ : ∃ g off, A = some ⟨g, off, none⟩ := by
              rcases RP.out.2 with h | ⟨g, off, h, _⟩
              · have e := RP.out.1.length_eq
                rw [h] at e
                have e1 := HLL.out.2
                have e2 : ([] : List En).length = 0 := rfl
                omega
              · exact ⟨g, off, h⟩
            subst ha
            have hPl : P.length = ML := by rw [RP.out.1.length_eq]; exact HLL.out.2.symm
            obtain ⟨k, hk⟩ : ∃ k, k = m % ML := ⟨_, rfl⟩
            have hkl : k < ML := by rw [hk]; exact Nat.mod_lt _ (by omega)
            have hrem : Int.tmod (m : Int) (ML : Int) = (k : Int) := by rw [hk]; rfl
            obtain ⟨xs, ka, kc, va, vc, o', hg, x0, x1, x2, sl1, sl2, ap1, ap2⟩ := front_run RP.out.2 (c := c) (i := k) (by omega) (by omega) (by omega)
            obtain ⟨q, hq⟩ : ∃ q, q = (P[k]'(by omega)).1 := ⟨_, rfl⟩
            obtain ⟨kl, hkl2⟩ : ∃ q, q = (P[k]'(by omega)).2.1.length := ⟨_, rfl⟩
            obtain ⟨vl, hvl2⟩ : ∃ q, q = (P[k]'(by omega)).2.2.length := ⟨_, rfl⟩
            simp only [← hq, ← hkl2, ← hvl2, hPl] at x0 x1 x2 sl1 sl2 ap1 ap2
            obtain ⟨w5, hw5⟩ : ∃ w5, w5 = wr.alloc (.cells #[.int .u64 (q : Int), .slice ka kl kc, .slice va vl vc] 38) := ⟨_, rfl⟩
            have b5 : Below wr.heap.size wr w5 := by rw [hw5]; exact (Below.refl _ _).alloc (Nat.le_refl _) _
            have r5 : w5.heap[wr.heap.size]? = some (.cells #[.int .u64 (q : Int), .slice ka kl kc, .slice va vl vc] 38 (0, 0)) := by rw [hw5]; exact heap_alloc_new wr _
            have f0 : w5.cell? ⟨wr.heap.size, 0, none⟩ = some (.int .u64 (q : Int)) := row_cell r5 rfl
            have f1 : w5.cell? ⟨wr.heap.size, 1, none⟩ = some (.slice ka kl kc) := row_cell r5 rfl
            have f2 : w5.cell? ⟨wr.heap.size, 2, none⟩ = some (.slice va vl vc) := row_cell r5 rfl
            have HAP1 := Lib.hid (fun W (hW : Below w5.heap.size w5 W) => ap1 W (below_then b5 hW)); clear ap1
            have HAP2 := Lib.hid (fun W W1 A1 c1 (hW : Below w5.heap.size w5 W) => ap2 W W1 A1 c1 (below_then b5 hW)); clear ap2
            obtain ⟨D, hD⟩ : ∃ D, D = ML - (k + 1) := ⟨_, rfl⟩
            obtain ⟨cD, hcD⟩ : ∃ D, D = c - (k + 1) := ⟨_, rfl⟩
            rw [← hD, ← hcD] at sl2 HAP2
            have HW5 := Lib.hid hw5
            have HTF := Lib.hid ((toFront_perm (P := P) (i := k) (by omega)).trans RP.out.1)
            have hbel' := Lib.hid hbel; clear hbel
            have h0' : ¬ ((ML : Int) = 0) := by omega
            clear hD hcD r5 b5 hk hPl hq hkl2 hvl2 hw5 R2W R23
            go_wp2_with fail
            rw [← HW5.out]
            clear x0 x1 x2 y0 hrem
            have hwr : IntKind.i64.wrap ((k : Int) + 1) = (k : Int) + 1 := by rw [IntKind.wrap_i64]; omega
            have sl3 := sl2
            rw [← hwr] at sl3
            go_region_law (first
              | (refine step_of_ex 22 rfl (.tmp 45) (.tmp 48) rfl _ _ (by simp [Act.eval]) (by simp [Act.eval]) (HAP1.out w5.drew ?_) ?_; exact below_drewN (Below.refl _ _) 1; rintro v7 w7 ⟨A7, c7, rfl, o7, b7⟩)
              | (refine step_of_ex 22 rfl (.tmp 49) (.tmp 53) rfl _ _ (by simp [Act.eval]) (by simp [Act.eval]) (HAP2.out w5.drew _ _ _ ?_ o7 b7) ?_; exact below_drewN (Below.refl _ _) 1; rintro v8 w8 ⟨A8, c8, rfl, q8, e8, b8⟩)
              | fail)
            all_goals
              have H8 := Lib.hid (And.intro e8 b8)
              clear o7 b7 e8 b8
              go_wp2_with fail
              go_roundw
              case rel => exact ⟨i + 1, A8, c8, toFront P k, by go_num, by omega, rfl, q8, ⟨HTF.out, H8.out.1⟩, below_then hbel'.out H8.out.2⟩
              case measure => simp [intOf]; omega
        · obtain rfl : i = LM := by omega
          have J3 := Lib.hid (hofP.out wr A2 c2 M BW.out (List.Perm.refl _) R2W.out)
          rw [← HLL.out.2] at J3
          go_wp2_with fail
          refine J3.out.mono ?_
          rintro e w5 ⟨v5, rfl, hn5, hb⟩
          have B5 := Lib.hid (below_then BW.out hb)
          have J4 := Lib.hid (hofP.out w5 A c P B5.out RP.out.1 (RP.out.2.below hb))
          have N5 := Lib.hid (hn5.mono (G := fun b => b < w5.heap.size) fun b hl _ => hl); clear hb hn5
          rw [RP.out.1.length_eq, ← HLL.out.2] at J4
          clear J3
          go_wp2_with fail
          refine J4.out.mono ?_
          rintro e w6 ⟨v6, rfl, hn6, hb⟩
          have B6 := Lib.hid (below_then B5.out hb)
          have N6 := Lib.hid (N5.out.below hb)
          have H56 : Hid (w5.heap.size ≤ w6.heap.size) := hb.size
          have J5 := Lib.hid (hsame.out _ _ w6 v5 v6 B6.out (fun b h1 h2 => absurd h1 (by show ¬ b < w5.heap.size; have : w5.heap.size ≤ b := h2; omega)) N6.out hn6)
          clear J4 N5 hb hn6
          go_wp2_with fail
          refine J5.out.mono ?_
          rintro e w7 ⟨rfl, hb⟩
          have B7 := Lib.hid (below_then B6.out hb)
          have N7 := Lib.hid (N6.out.below hb)
          have H57 : Hid (w5.heap.size ≤ w7.heap.size) := Nat.le_trans H56.out hb.size
          have J6 := Lib.hid (hofL.out w7 B7.out)
          clear J5 hb
          go_wp2_with fail
          refine J6.out.mono ?_
          rintro e w8 ⟨v8, rfl, hn8, hb⟩
          have B8 := Lib.hid (below_then B7.out hb)
          have J7 := Lib.hid (hsame.out _ _ w8 v5 v8 B8.out (fun b h1 h2 => absurd h1 (by show ¬ b < w5.heap.size; have : w7.heap.size ≤ b := h2; have := H57.out; omega)) (N7.out.below hb) hn8)
          clear J6 hb hn8
          go_wp2_with fail
          refine J7.out.mono ?_
          rintro e w9 ⟨rfl, hb⟩
          have B9 := Lib.hid (below_then B8.out hb)
          have J8 := Lib.hid (awake_any (HT.out.below B9.out))
          clear J7 hb
          go_wp2_with fail
          refine J8.out.mono ?_
          rintro e w10 ⟨rfl, hb⟩
          have B10 := Lib.hid (below_then B9.out hb); clear hb
          go_wp2_with fail
          go_ret
          exact ⟨rfl, B10.out⟩
    · have hgt : ((40 : Int) < (LM : Int)) := by omega
      rw [← hLM]
      have HSM := Lib.hid hsm; clear hsm
      have HT := Lib.hid hT; clear hT
      clear ha0 hs hc0 hm0 hh0 ha1 hfit hl40 ht60 hLM
      go_enter Tryd.func4, Tryd.ntmps4
      go_wp2_with fail
      refine HSM.out.mono ?_
      rintro e w1 ⟨rfl, hb⟩
      have HAW := Lib.hid (awake_any (HT.out.below hb))
      have HB := Lib.hid hb; clear hb
      go_wp2_with fail
      refine HAW.out.mono ?_
      rintro e w2 ⟨rfl, hb⟩
      have HB2 := Lib.hid (below_then HB.out hb); clear hb
      go_wp2_with fail
      go_ret
      exact ⟨rfl, HB2.out⟩

theorem lifted (os : Os) (started : os.Started) (H : Type) (enc : TypeId × Value → H) :
    ReturnsInHanded {} Tryd.checked os 4 .any (fun w args => (Rows.layoutOrderSpec.pre enc Tryd.prog Tryd.f4 [] false w args ∧ laidMetH Tryd.prog laid w) ∧ sizedMet enc Tryd.prog Tryd.f4 (OpenSpec.ofChange Rows.layoutOrderSpec) false w args)
      (Rows.layoutOrderSpec.post enc Tryd.prog Tryd.f4 false true false false) := by
  refine returnsInHanded_of_change_and (C := Tryd.checked) (X := fun w _ => laidMetH Tryd.prog laid w) (fun _ _ _ hh h => h.of_heap hh) own started (by kernel_rfl) Tryd.func4
    (ChangeSpec.witness_shaped (enc := enc) (C := Tryd.checked) (os := os) (X := fun w _ => laidMetH Tryd.prog laid w) false (World.laidAll Tryd.prog os laid) #[.slice none 0 0, .slice none 0 0] 8 (World.laidAll_os _ _ _)
      (World.shaped_of_ZipB (by kernel_rfl) (by kernel_rfl)) (by kernel_rfl) (by kernel_rfl) (by kernel_rfl)
      (by rw [MakeChecks.laidMetH_plain _ _ _ (by kernel_rfl)]; exact laidMet_laidAll _ (by kernel_rfl) (by kernel_rfl))) ?_
  intro W base args ds gs before hval0 hW _ _ hL _
  have hval : ∀ (j : Nat) t v, Tryd.f4.params[j]? = some t → args[j]? = some v → Value.okWide Tryd.prog W .any base t v := hval0
  have hW' := hW
  obtain ⟨p, q, hA0, hV, rfl, _, _⟩ := hW
  have hA : DataW.TrodAll enc Tryd.prog W 0 (fun _ => true) true Tryd.f4.params.toList args.toList ds p := hA0
  rw [Tryd.params4] at hA hval
  obtain ⟨v0, vs0, d0, ds0, p0, q0, hargs, rfl, rfl, h0, r0⟩ := trodAll_cons hA
  obtain ⟨v1, vs1, d1, ds1, p1, q1, rfl, rfl, rfl, h1, r1⟩ := trodAll_cons r0
  obtain ⟨rfl, rfl, rfl⟩ := trodAll_nil r1
  obtain rfl : args = #[v0, v1] := by cases args; simp_all
  obtain ⟨rfl, rfl⟩ := trodVars_none hV
  have lt0 : ∀ x ∈ p0, x.block < W.heap.size := by obtain ⟨m, hm⟩ := h0; exact DataW.trod_lt m _ _ _ hm
  have ok0 := hval 0 22 v0 rfl rfl
  have lt1 : ∀ x ∈ p1, x.block < W.heap.size := by obtain ⟨m, hm⟩ := h1; exact DataW.trod_lt m _ _ _ hm
  have ok1 := hval 1 34 v1 rfl rfl
  clear hA0 hval0 hval
  obtain ⟨A0, c0, L0, rfl, hc0, hm0, ha0, hh0⟩ := entries_in ok0 h0
  obtain ⟨A1, c1, L1, rfl, hc1, hm1, ha1⟩ := bytes_in ok1 h1
  refine (walk W hc0 hm0 ha0 hh0 hc1 hm1 ha1 (tab_of_laid hL)).mono fun e W' ⟨he, bel⟩ => ?_
  subst he
  exact ⟨_, rfl, _, _, _, [], _, [], hW', trodAll_mk1 (shut_bool Tryd.underlying4 _), (trodAll_cons_mk (Below.trod laidOut (by kernel_rfl) (of_decide_eq_true (by kernel_rfl)) h0 bel lt0) (trodAll_cons_mk (Below.trod laidOut (by kernel_rfl) (of_decide_eq_true (by kernel_rfl)) h1 bel lt1) trodAll_mk0)), rfl, bel.frame _, fun h => by cases h⟩

theorem over : Rows.LayoutOrderSaid :=
  OpenClaim.holds_of_wide 4 Tryd.f4 rfl rfl rfl rfl rfl rfl rfl ⟨rfl, rfl, rfl, rfl, rfl⟩ rfl rfl rfl rfl rfl (by kernel_rfl) Tryd.func4 (by kernel_rfl)
    (of_decide_eq_true (by kernel_rfl)) (by unfold Func.isWrapper; first | (rw [if_pos (by decide +kernel)]; kernel_rfl) | (rw [if_neg (by decide +kernel)]; exact ⟨rfl, rfl⟩))
    (fun os started H enc _ => lifted os started H enc)

/-- ████ THE STATEMENT: THE TIED CARD ████ -/
theorem proved : Rows.LayoutOrderCardSaid :=
  Claim7.holds_tied_plain_at .later [] [.data] true (true, "41dacddf5f520ead60d17bced455855c118e313fc8aa3ad090142a0f83d9016d") true over (fun _ h => by cases h) (by kernel_rfl) (fun _ h => by cases h) layoutOrder_row_tie rfl ⟨rfl, rfl⟩ (by kernel_rfl) rfl
    (fun f fn hf hfn => by
      obtain rfl : f = 4 := Option.some.inj ((show Tryd.prog.funcNamed "brushwood/brushwoodlaw17.LayoutOrder" = some 4 by kernel_rfl).symm.trans hf) |>.symm
      obtain rfl : fn = Tryd.f4 := (Option.some.inj (Tryd.func4.symm.trans hfn)).symm
      exact ⟨by kernel_rfl, fun j t ht => by
        rw [Tryd.params4] at ht
        have hm : t ∈ [22, 34] := by simpa using Array.mem_of_getElem? ht
        have hall : ([22, 34].all fun u => !Tryd.prog.wantsStandIn u) = true := by kernel_rfl
        exact (show Tryd.prog.wantsStandIn t = false by simpa using List.all_eq_true.1 hall t hm)⟩)
    (by kernel_rfl)
#print axioms proved
end Go.Proofs.YtngfbkkfnooobaaDoor.layoutOrder
