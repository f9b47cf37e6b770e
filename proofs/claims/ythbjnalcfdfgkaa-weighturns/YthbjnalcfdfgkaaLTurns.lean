/-
  WeighTurns: for every input the law answers true and leaves its arguments as they were: the walk is typed by hand, the row's step is the guide's template.
  Conditions: none beside the row's own.
-/
import Derived.Test.YthbjnalcfdfgkaaOpen
import Derived.Deep.QuietTactic
import Derived.BigQuiet
import Derived.Test.YthbjnalcfdfgkaaOpen
import Derived.Test.YthbjnalcfdfgkaaRows
import Derived.WalkKit
import Derived.ProofKit
import Derived.OpenShut
import Derived.ShutString
import Derived.ChangeOld
import Derived.Below
namespace Go.Proofs.Ythbjnalcfdfgkaa.weighTurns
open Go.ChangeShapes Go.WideShapes Go.ChangeAt Go.RowKit
set_option linter.unusedVariables false
theorem own : ownKnob Try.prog.godebug = none := by kernel_rfl
theorem laidOut : laidOutB Try.prog = true := by kernel_rfl
theorem below_drewN {B : Nat} {w a : World} (h : Below B w a) (n : Nat) : Below B w (a.drewN n) := by
  induction n with
  | zero => exact h
  | succ n ih => exact ih.drew
set_option maxRecDepth 100000 in
set_option maxHeartbeats 4000000 in
theorem walk {x0 y0 z0 u0 : Int} (w : World)  :
    Calls Try.prog 7 #[.agg #[.int .i64 x0, .int .i64 y0, .int .i64 z0, .int .i64 u0]] w fun e w' => e = .returned (.bool true) ∧ Below w.heap.size w w' := by
  have HAW := Lib.hid awake_any
  obtain ⟨W0, hW0⟩ : ∃ W, W = w.alloc (.cells #[.int .i64 x0, .int .i64 y0, .int .i64 z0, .int .i64 u0] 29) := ⟨_, rfl⟩
  have hb0 : Below w.heap.size w W0 := by rw [hW0]; exact (Below.refl _ _).alloc (Nat.le_refl _) _
  have hr : ∀ q, (W0.drewN q).heap[w.heap.size]? = some (.cells #[.int .i64 x0, .int .i64 y0, .int .i64 z0, .int .i64 u0] 29) := fun q => by
    have h := heap_alloc_new w (.cells #[.int .i64 x0, .int .i64 y0, .int .i64 z0, .int .i64 u0] 29)
    rw [← hW0] at h
    exact ((below_drewN (Below.refl W0.heap.size W0) q).block _ (Array.getElem?_eq_some_iff.1 h).1).trans h
  have k0 : ∀ q, (W0.drewN q).cell? ⟨w.heap.size, 0, none⟩ = some (.int .i64 x0) := fun q => by rw [cell_of_row _ _ 0 _ 29 (0, 0) (hr q)]; rfl
  have k1 : ∀ q, (W0.drewN q).cell? ⟨w.heap.size, 1, none⟩ = some (.int .i64 y0) := fun q => by rw [cell_of_row _ _ 1 _ 29 (0, 0) (hr q)]; rfl
  have k2 : ∀ q, (W0.drewN q).cell? ⟨w.heap.size, 2, none⟩ = some (.int .i64 z0) := fun q => by rw [cell_of_row _ _ 2 _ 29 (0, 0) (hr q)]; rfl
  have k3 : ∀ q, (W0.drewN q).cell? ⟨w.heap.size, 3, none⟩ = some (.int .i64 u0) := fun q => by rw [cell_of_row _ _ 3 _ 29 (0, 0) (hr q)]; rfl
  have HBQ : Hid (∀ q, Below w.heap.size w (W0.drewN q)) := fun q => below_drewN hb0 q
  have HW0 := Lib.hid hW0; clear hW0 hr hb0
  go_enter Try.func7, Try.ntmps7
  go_wp2_with fail
  rw [← HW0.out]
  go_quiet (fail)
  obtain ⟨W1, hW1⟩ : ∃ W, W = W0.drewN nq := ⟨_, rfl⟩
  rw [← hW1]
  have HB : Hid (Below w.heap.size w W1) := by rw [hW1]; exact HBQ.out nq
  clear k0 k1 k2 k3 HBQ HW0 hW1
  go_wp2_with fail
  go_loop [24] (fun i => ∃ j : Nat, j ≤ 4 ∧ i = .int .i64 j ∧ Hid (∀ i, i < j → 0 ≤ nth x0 y0 z0 u0 i ∧ nth x0 y0 z0 u0 i ≤ 262144)) (fun i => 4 - (intOf i).toNat)
  case atStart => exact ⟨0, by omega, rfl, fun i hi => by omega⟩
  case round =>
    obtain ⟨j, hj, rfl, hall⟩ := hrel
    by_cases hlt : j < 4
    · have hix := run_index4 x0 y0 z0 u0 j hlt
      obtain ⟨x, hx⟩ : ∃ x, x = nth x0 y0 z0 u0 j := ⟨_, rfl⟩
      simp only [← hx] at hix
      have HX := Lib.hid hx; clear hx
      rcases Int.lt_or_le x 0 with h1 | h1
      · go_wp2_with fail
        refine (HAW.out _).mono ?_
        rintro e w' ⟨rfl, rfl⟩
        go_wp2_with fail
        go_ret
        exact ⟨rfl, HB.out⟩
      · rcases Int.lt_or_le 262144 x with h2 | h2
        · go_wp2_with fail
          refine (HAW.out _).mono ?_
          rintro e w' ⟨rfl, rfl⟩
          go_wp2_with fail
          go_ret
          exact ⟨rfl, HB.out⟩
        · go_wp2_with fail
          go_round
          case rel =>
            refine ⟨j + 1, by omega, by go_num, fun i hi => ?_⟩
            by_cases he : i = j
            · rw [he, ← HX.out]; exact ⟨h1, h2⟩
            · exact hall.out i (by omega)
          case measure => simp [intOf]; omega
    · obtain rfl : j = 4 := by omega
      have g0 : 0 ≤ x0 ∧ x0 ≤ 262144 := hall.out 0 (by omega)
      have g1 : 0 ≤ y0 ∧ y0 ≤ 262144 := hall.out 1 (by omega)
      have g2 : 0 ≤ z0 ∧ z0 ≤ 262144 := hall.out 2 (by omega)
      have g3 : 0 ≤ u0 ∧ u0 ≤ 262144 := hall.out 3 (by omega)
      clear hall hlt hj
      obtain ⟨l, rfl⟩ := Int.eq_ofNat_of_zero_le g0.1
      obtain ⟨a, rfl⟩ := Int.eq_ofNat_of_zero_le g1.1
      obtain ⟨b, rfl⟩ := Int.eq_ofNat_of_zero_le g2.1
      obtain ⟨c, rfl⟩ := Int.eq_ofNat_of_zero_le g3.1
      have hl : l ≤ 262144 := by omega
      have ha : a ≤ 262144 := by omega
      have hb : b ≤ 262144 := by omega
      have hc : c ≤ 262144 := by omega
      clear g0 g1 g2 g3
      have h1 := even_nat l (a + b + 1 + c + 1) (by omega) (by omega)
      have h2 := even_nat (a + b + 1) c (by omega) (by omega)
      have h3 := even_nat a b (by omega) (by omega)
      have h4 := even_nat (l + 1) (a + b + 1 + c + 1) (by omega) (by omega)
      have h5 := even_nat l (a + b + 1 + c) (by omega) (by omega)
      have h6 := single_nat l (a + b + 1) c (by omega) (by omega) (by omega)
      have h7 := even_nat l a (by omega) (by omega)
      have h8 := even_nat b c (by omega) (by omega)
      have h9 := even_nat (l + a + 1) (b + c + 1) (by omega) (by omega)
      have ht := turns l a b c
      generalize ev l (a + b + 1 + c + 1) = t1 at h1 ht
      generalize ev (a + b + 1) c = t2 at h2 ht
      generalize ev a b = t3 at h3 ht
      generalize ev (l + 1) (a + b + 1 + c + 1) = t4 at h4 ht
      generalize ev l (a + b + 1 + c) = t5 at h5 ht
      generalize (ev l (a + b + 1) && ev (l + (a + b + 1) + 1) c) = t6 at h6 ht
      generalize ev l a = t7 at h7 ht
      generalize ev b c = t8 at h8 ht
      generalize ev (l + a + 1) (b + c + 1) = t9 at h9 ht
      have H1 := Lib.hid h1; clear h1
      have H2 := Lib.hid h2; clear h2
      have H3 := Lib.hid h3; clear h3
      have H4 := Lib.hid h4; clear h4
      have H5 := Lib.hid h5; clear h5
      have H6 := Lib.hid h6; clear h6
      have H7 := Lib.hid h7; clear h7
      have H8 := Lib.hid h8; clear h8
      have H9 := Lib.hid h9; clear h9
      have HT := Lib.hid ht; clear ht
      have hne : (((a : Int) + b + 1 + c + 1) == 0) = false := by rw [beq_eq_false_iff_ne]; omega
      cases t1 with
      | true =>
        go_wp2_with fail
        refine (H1.out _ _ _ (by omega) (by omega)).mono ?_
        rintro e w' ⟨rfl, rfl⟩
        go_wp2_with fail
        refine (HAW.out _).mono ?_
        rintro e w' ⟨rfl, rfl⟩
        go_wp2_with fail
        go_ret
        exact ⟨rfl, HB.out⟩
      | false =>
        by_cases hlt : a + b + 1 + c + 1 < l
        · have hlt2 : (a : Int) + b + 1 + c + 1 < l := by omega
          go_wp2_with fail
          refine (H1.out _ _ _ (by omega) (by omega)).mono ?_
          rintro e w' ⟨rfl, rfl⟩
          go_wp2_with fail
          refine (HAW.out _).mono ?_
          rintro e w' ⟨rfl, rfl⟩
          go_wp2_with fail
          go_ret
          exact ⟨rfl, HB.out⟩
        · have hlt2 : ¬ ((a : Int) + b + 1 + c + 1 < l) := by omega
          cases t2 with
          | false =>
            go_wp2_with fail
            refine (H1.out _ _ _ (by omega) (by omega)).mono ?_
            rintro e w' ⟨rfl, rfl⟩
            go_wp2_with fail
            refine (H2.out _ _ _ (by omega) (by omega)).mono ?_
            rintro e w' ⟨rfl, rfl⟩
            go_wp2_with fail
            refine (HAW.out _).mono ?_
            rintro e w' ⟨rfl, rfl⟩
            go_wp2_with fail
            go_ret
            exact ⟨rfl, HB.out⟩
          | true =>
            cases t3 with
            | false =>
              go_wp2_with fail
              refine (H1.out _ _ _ (by omega) (by omega)).mono ?_
              rintro e w' ⟨rfl, rfl⟩
              go_wp2_with fail
              refine (H2.out _ _ _ (by omega) (by omega)).mono ?_
              rintro e w' ⟨rfl, rfl⟩
              go_wp2_with fail
              refine (H3.out _ _ _ (by omega) (by omega)).mono ?_
              rintro e w' ⟨rfl, rfl⟩
              go_wp2_with fail
              refine (HAW.out _).mono ?_
              rintro e w' ⟨rfl, rfl⟩
              go_wp2_with fail
              go_ret
              exact ⟨rfl, HB.out⟩
            | true =>
              cases t4 with
              | true =>
                cases t6 with
                | true =>
                  go_wp2_with fail
                  refine (H1.out _ _ _ (by omega) (by omega)).mono ?_
                  rintro e w' ⟨rfl, rfl⟩
                  go_wp2_with fail
                  refine (H2.out _ _ _ (by omega) (by omega)).mono ?_
                  rintro e w' ⟨rfl, rfl⟩
                  go_wp2_with fail
                  refine (H3.out _ _ _ (by omega) (by omega)).mono ?_
                  rintro e w' ⟨rfl, rfl⟩
                  go_wp2_with fail
                  refine (H4.out _ _ _ (by omega) (by omega)).mono ?_
                  rintro e w' ⟨rfl, rfl⟩
                  go_wp2_with fail
                  refine (H6.out _ _ _ _ (by omega) (by omega) (by omega)).mono ?_
                  rintro e w' ⟨rfl, rfl⟩
                  go_wp2_with fail
                  refine (HAW.out _).mono ?_
                  rintro e w' ⟨rfl, rfl⟩
                  go_wp2_with fail
                  go_ret
                  exact ⟨rfl, HB.out⟩
                | false =>
                  obtain ⟨rfl, rfl, rfl⟩ := HT.out rfl (by omega) rfl rfl (.inl rfl) rfl
                  go_wp2_with fail
                  refine (H1.out _ _ _ (by omega) (by omega)).mono ?_
                  rintro e w' ⟨rfl, rfl⟩
                  go_wp2_with fail
                  refine (H2.out _ _ _ (by omega) (by omega)).mono ?_
                  rintro e w' ⟨rfl, rfl⟩
                  go_wp2_with fail
                  refine (H3.out _ _ _ (by omega) (by omega)).mono ?_
                  rintro e w' ⟨rfl, rfl⟩
                  go_wp2_with fail
                  refine (H4.out _ _ _ (by omega) (by omega)).mono ?_
                  rintro e w' ⟨rfl, rfl⟩
                  go_wp2_with fail
                  refine (H6.out _ _ _ _ (by omega) (by omega) (by omega)).mono ?_
                  rintro e w' ⟨rfl, rfl⟩
                  go_wp2_with fail
                  refine (H7.out _ _ _ (by omega) (by omega)).mono ?_
                  rintro e w' ⟨rfl, rfl⟩
                  go_wp2_with fail
                  refine (H8.out _ _ _ (by omega) (by omega)).mono ?_
                  rintro e w' ⟨rfl, rfl⟩
                  go_wp2_with fail
                  refine (H9.out _ _ _ (by omega) (by omega)).mono ?_
                  rintro e w' ⟨rfl, rfl⟩
                  go_wp2_with fail
                  refine (HAW.out _).mono ?_
                  rintro e w' ⟨rfl, rfl⟩
                  go_wp2_with fail
                  go_ret
                  exact ⟨rfl, HB.out⟩
              | false =>
                cases t5 with
                | false =>
                  go_wp2_with fail
                  refine (H1.out _ _ _ (by omega) (by omega)).mono ?_
                  rintro e w' ⟨rfl, rfl⟩
                  go_wp2_with fail
                  refine (H2.out _ _ _ (by omega) (by omega)).mono ?_
                  rintro e w' ⟨rfl, rfl⟩
                  go_wp2_with fail
                  refine (H3.out _ _ _ (by omega) (by omega)).mono ?_
                  rintro e w' ⟨rfl, rfl⟩
                  go_wp2_with fail
                  refine (H4.out _ _ _ (by omega) (by omega)).mono ?_
                  rintro e w' ⟨rfl, rfl⟩
                  go_wp2_with fail
                  refine (H5.out _ _ _ (by omega) (by omega)).mono ?_
                  rintro e w' ⟨rfl, rfl⟩
                  go_wp2_with fail
                  refine (HAW.out _).mono ?_
                  rintro e w' ⟨rfl, rfl⟩
                  go_wp2_with fail
                  go_ret
                  exact ⟨rfl, HB.out⟩
                | true =>
                  cases t6 with
                  | true =>
                    go_wp2_with fail
                    refine (H1.out _ _ _ (by omega) (by omega)).mono ?_
                    rintro e w' ⟨rfl, rfl⟩
                    go_wp2_with fail
                    refine (H2.out _ _ _ (by omega) (by omega)).mono ?_
                    rintro e w' ⟨rfl, rfl⟩
                    go_wp2_with fail
                    refine (H3.out _ _ _ (by omega) (by omega)).mono ?_
                    rintro e w' ⟨rfl, rfl⟩
                    go_wp2_with fail
                    refine (H4.out _ _ _ (by omega) (by omega)).mono ?_
                    rintro e w' ⟨rfl, rfl⟩
                    go_wp2_with fail
                    refine (H5.out _ _ _ (by omega) (by omega)).mono ?_
                    rintro e w' ⟨rfl, rfl⟩
                    go_wp2_with fail
                    refine (H6.out _ _ _ _ (by omega) (by omega) (by omega)).mono ?_
                    rintro e w' ⟨rfl, rfl⟩
                    go_wp2_with fail
                    refine (HAW.out _).mono ?_
                    rintro e w' ⟨rfl, rfl⟩
                    go_wp2_with fail
                    go_ret
                    exact ⟨rfl, HB.out⟩
                  | false =>
                    obtain ⟨rfl, rfl, rfl⟩ := HT.out rfl (by omega) rfl rfl (.inr rfl) rfl
                    go_wp2_with fail
                    refine (H1.out _ _ _ (by omega) (by omega)).mono ?_
                    rintro e w' ⟨rfl, rfl⟩
                    go_wp2_with fail
                    refine (H2.out _ _ _ (by omega) (by omega)).mono ?_
                    rintro e w' ⟨rfl, rfl⟩
                    go_wp2_with fail
                    refine (H3.out _ _ _ (by omega) (by omega)).mono ?_
                    rintro e w' ⟨rfl, rfl⟩
                    go_wp2_with fail
                    refine (H4.out _ _ _ (by omega) (by omega)).mono ?_
                    rintro e w' ⟨rfl, rfl⟩
                    go_wp2_with fail
                    refine (H5.out _ _ _ (by omega) (by omega)).mono ?_
                    rintro e w' ⟨rfl, rfl⟩
                    go_wp2_with fail
                    refine (H6.out _ _ _ _ (by omega) (by omega) (by omega)).mono ?_
                    rintro e w' ⟨rfl, rfl⟩
                    go_wp2_with fail
                    refine (H7.out _ _ _ (by omega) (by omega)).mono ?_
                    rintro e w' ⟨rfl, rfl⟩
                    go_wp2_with fail
                    refine (H8.out _ _ _ (by omega) (by omega)).mono ?_
                    rintro e w' ⟨rfl, rfl⟩
                    go_wp2_with fail
                    refine (H9.out _ _ _ (by omega) (by omega)).mono ?_
                    rintro e w' ⟨rfl, rfl⟩
                    go_wp2_with fail
                    refine (HAW.out _).mono ?_
                    rintro e w' ⟨rfl, rfl⟩
                    go_wp2_with fail
                    go_ret
                    exact ⟨rfl, HB.out⟩
/-! ### THE ROW's STEP -/
set_option maxRecDepth 100000 in
theorem lifted (os : Os) (started : os.Started) (H : Type) (enc : TypeId × Value → H) :
    ReturnsInHanded {} Try.checked os 7 .any (Rows.weighTurnsSpec.pre6 enc Try.prog Try.f7 Rows.weighTurnsRow.domain false) (Rows.weighTurnsSpec.post enc Try.prog Try.f7 false true false false) := by
  refine returnsInHanded_of_change (C := Try.checked) own started (by kernel_rfl) Try.func7
    (ChangeSpec.witness6 (enc := enc) (C := Try.checked) false ⟨#[], #[.agg #[.int .i64 0, .int .i64 0, .int .i64 0, .int .i64 0]], []⟩ 8 (by kernel_rfl) (by kernel_rfl) (by kernel_rfl) (by kernel_rfl)) ?_
  intro W base args ds gs before hval0 hW hcnd _
  have hval : ∀ (j : Nat) t v, Try.f7.params[j]? = some t → args[j]? = some v → Value.okWide Try.prog W .any base t v := hval0
  have hW' := hW
  obtain ⟨p, q, hA0, hV, rfl, hfz, hnd⟩ := hW
  have hA : DataW.TrodAll enc Try.prog W 0 (fun _ => true) true Try.f7.params.toList args.toList ds p := hA0
  rw [Try.params7] at hA hval
  obtain ⟨v0, vs0, d0, ds0, p0, q0, hargs, rfl, rfl, h0, r0⟩ := trodAll_cons hA
  obtain ⟨rfl, rfl, rfl⟩ := trodAll_nil r0
  obtain rfl : args = #[v0] := by cases args; simp_all
  obtain ⟨rfl, rfl⟩ := trodVars_none hV
  have lt0 : ∀ x ∈ p0, x.block < W.heap.size := by obtain ⟨m, hm⟩ := h0; exact DataW.trod_lt m _ _ _ hm
  have ok0 := hval 0 29 v0 rfl rfl
  clear hA0 hval0 hval
  obtain ⟨x0, y0, z0, u0, rfl⟩ := four_open ok0 h0
  refine (walk W ).mono fun e W' ⟨he, bel⟩ => ?_
  subst he
  exact ⟨_, rfl, _, _, _, [], _, [], hW', trodAll_mk1 (shut_bool Try.underlying4 _), (trodAll_cons_mk (Below.trod laidOut (by kernel_rfl) (of_decide_eq_true (by kernel_rfl)) h0 bel lt0) trodAll_mk0), rfl, bel.frame _, fun h => by cases h⟩

theorem over : Rows.weighTurnsRow.holds Try.pinned (OpenSpec.ofChange Rows.weighTurnsSpec) :=
  OpenClaim.holds_of_wide 7 Try.f7 rfl rfl rfl rfl rfl rfl rfl ⟨rfl, rfl, rfl, rfl, rfl⟩ rfl rfl rfl rfl rfl (by kernel_rfl) Try.func7 (by kernel_rfl)
    (of_decide_eq_true (by kernel_rfl)) (by unfold Func.isWrapper; first | (rw [if_pos (by decide +kernel)]; kernel_rfl) | (rw [if_neg (by decide +kernel)]; exact ⟨rfl, rfl⟩))
    (fun os started H enc _ => lifted os started H enc)

/-- ████ THE STATEMENT ████ -/
theorem proved : Rows.WeighTurnsSaid := over
#print axioms proved
end Go.Proofs.Ythbjnalcfdfgkaa.weighTurns
