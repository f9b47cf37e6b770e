/-
  ChunkWays: for every input the law answers true and leaves its arguments as they were: the walk is typed by hand, the row's step is the guide's template.
  Conditions: none beside the row's own.
-/
import Derived.Test.YtmbifgmdilmkgaaFrom
import Derived.Deep.WholeRow
import Derived.Deep.DeepCutAuto
import Derived.Test.YtmbifgmdilmkgaaRows
import Derived.WalkKit
import Derived.ProofKit
import Derived.OpenShut
import Derived.ShutString
namespace Go.Proofs.Ytmbifgmdilmkgaa.chunkWays
open Go.ChangeShapes Go.WideShapes Go.ChangeAt Go.RowKit
open Go.ChangeMaps (open_string shut_string)
set_option linter.unusedVariables false      -- a walk need not use every 'w<i>' (that an integer argument fits its kind)

theorem own : ownKnob Try.prog.godebug = none := by kernel_rfl

/-! ### STEP 1: THE WALK: the Go text returns true. 'Grown w w'': the world has at most new blocks (Derived/RowKit3.lean). Part the cases AHEAD of 'go_enter' where a test parts the walk; take each callee by a contract of your own. -/
set_option maxHeartbeats 4000000 in
theorem walk (a0 : Int) (a1 : Int) (w0 : (Lit.int .u64 a0).wf = true) (w1 : (Lit.int .i64 a1).wf = true) (w : World) :
    Calls Try.prog 3 #[.int .u64 a0, .int .i64 a1] w fun e w' => e = .returned (.bool true) ∧ Below w.heap.size w w' := by
  have hb0 := bounds_u64 w0
  obtain ⟨h, rfl⟩ := Int.eq_ofNat_of_zero_le hb0.1
  have hh : h < 18446744073709551616 := by omega
  have h1 := fun W => refWay_any h W hh
  have h2 := fun W => way_any h W hh
  have h3 := fun W => (at_any h a1 W hh).mono (fun e w' k => And.intro k.1 k.2.symm)
  have h4 := fun (j : Nat) (W : World) (hj : j ≤ 12) => (at_nat h j W hh hj).mono (fun e w' k => And.intro k.1 k.2.symm)
  have hget := wayV_get h
  have hone := wayV_one h
  have hsz := wayV_size h
  obtain ⟨A, hA⟩ : ∃ A, A = wayV h := ⟨_, rfl⟩
  obtain ⟨x, hx⟩ : ∃ x, x = ch h (lv a1) := ⟨_, rfl⟩
  simp only [← hA] at h1 h2 hget hone hsz
  simp only [← hx] at h3
  have H1 := Lib.hid h1; clear h1
  have H2 := Lib.hid h2; clear h2
  have H3 := Lib.hid h3; clear h3
  have H4 := Lib.hid h4; clear h4
  have HGET := Lib.hid hget; clear hget
  have HONE := Lib.hid hone; clear hone
  have HSZ := Lib.hid hsz; clear hsz
  have HX := Lib.hid hx; clear hx
  have HI : Hid ((Try.prog.info? 23).map (·.size) = some A.size) := by show _ = _; rw [HSZ.out]; kernel_rfl
  clear hA hb0 w0 w1
  go_enter Try.func3, Try.ntmps3
  go_wp2_with fail
  refine (H1.out _).mono ?_
  rintro e wA ⟨rfl, hA⟩
  have HA := Lib.hid hA; clear hA
  go_wp2_with (refine wpList_store_row rfl 23 _ _ rfl wA.heap.size A rfl rfl 23 _ (heap_alloc_new wA _) HI.out (by rw [HSZ.out]; rfl) HONE.out ?_)
  rw [World.setRow_alloc_new]
  refine (H2.out _).mono ?_
  rintro e wC ⟨rfl, rfl⟩
  obtain ⟨W0, hW0⟩ : ∃ W, W = (wA.alloc (.cells A 23)).alloc (.cells A 3) := ⟨_, rfl⟩
  have hb0 : Below w.heap.size w W0 := by rw [hW0]; exact (HA.out.alloc HA.out.size _).alloc (Nat.le_trans HA.out.size (by simp)) _
  have hga : ∀ X, Below W0.heap.size W0 X → ∀ j, j < 13 → X.cell? ⟨wA.heap.size, j, none⟩ = some (.int .i64 ((ch h j : Nat) : Int)) := by
    intro X hX j hj
    have e : W0.heap[wA.heap.size]? = some (.cells A 23 (0, 0)) := by rw [hW0]; exact heap_alloc2_old wA _ _
    rw [cell_of_row _ _ _ _ _ _ (row_below e hX), HGET.out j hj]
  have hgb : ∀ X, Below W0.heap.size W0 X → ∀ j, j < 13 → X.cell? ⟨wA.heap.size + 1, j, none⟩ = some (.int .i64 ((ch h j : Nat) : Int)) := by
    intro X hX j hj
    have e : W0.heap[wA.heap.size + 1]? = some (.cells A 3 (0, 0)) := by rw [hW0]; exact heap_alloc2_new wA _ _
    rw [cell_of_row _ _ _ _ _ _ (row_below e hX), HGET.out j hj]
  have HGA := Lib.hid hga; clear hga
  have HGB := Lib.hid hgb; clear hgb
  have HB0 := Lib.hid hb0; clear hb0
  have hbs : (wA.alloc (.cells A 23)).heap.size = wA.heap.size + 1 := by simp
  rw [hbs, ← hW0]
  clear hbs hW0
  have hk : ∃ k : Nat, k ≤ 12 ∧ k = lv a1 := ⟨_, lv_le _, rfl⟩
  obtain ⟨k, hk12, hk⟩ := hk
  have hcell := fun q => HGA.out (W0.drewN q) (below_drewN (Below.refl _ _) q) k (by omega)
  rw [hk, ← HX.out, ← hk] at hcell
  go_wp2_with fail
  go_cut [25] (fun s25 wx => s25 = .bool false ∧ Hid (Below W0.heap.size W0 wx))
  case first =>
    by_cases h1 : a1 < 0
    · obtain rfl : k = 0 := by rw [hk]; unfold lv; omega
      clear hk
      go_quiet (first | (go_at_call 9; refine Calls.quiet_of_same (H3.out _)))
      go_wp2_with fail
      go_meet
      exact ⟨rfl, below_drewN (Below.refl _ _) _⟩
    · by_cases h2 : 12 < a1
      · obtain rfl : k = 12 := by rw [hk]; unfold lv; omega
        clear hk
        go_quiet (first | (go_at_call 9; refine Calls.quiet_of_same (H3.out _)))
        go_wp2_with fail
        go_meet
        exact ⟨rfl, below_drewN (Below.refl _ _) _⟩
      · obtain rfl : a1 = (k : Int) := by rw [hk]; unfold lv; omega
        clear hk
        by_cases h3 : k = 0
        · subst h3
          go_quiet (first | (go_at_call 9; refine Calls.quiet_of_same (H3.out _)))
          go_wp2_with fail
          go_meet
          exact ⟨rfl, below_drewN (Below.refl _ _) _⟩
        · by_cases h4 : k = 12
          · subst h4
            go_quiet (first | (go_at_call 9; refine Calls.quiet_of_same (H3.out _)))
            go_wp2_with fail
            go_meet
            exact ⟨rfl, below_drewN (Below.refl _ _) _⟩
          · have h5 : 0 < (k : Int) := by omega
            have h6 : (k : Int) < 12 := by omega
            go_quiet (first | (go_at_call 9; refine Calls.quiet_of_same (H3.out _)))
            go_wp2_with fail
            go_meet
            exact ⟨rfl, below_drewN (Below.refl _ _) _⟩
  obtain ⟨rfl, hb1⟩ := hcut
  clear hcell hk hk12 HX H1 H2 H3
  go_wp2_with fail
  go_loopw [28] (fun i wr => ∃ j : Nat, j ≤ 13 ∧ i = .int .i64 j ∧ Hid (Below W0.heap.size W0 wr)) (fun i _ => 13 - (intOf i).toNat)
  case atStart => exact ⟨0, by omega, rfl, hb1.out⟩
  case round =>
    obtain ⟨j, hj, rfl, hb⟩ := hrel
    by_cases hlt : j < 13
    · have hca := fun q => HGA.out (wr.drewN q) (below_drewN hb.out q) j hlt
      have hcb := fun q => HGB.out (wr.drewN q) (below_drewN hb.out q) j hlt
      have hat := fun W => H4.out j W (by omega)
      obtain ⟨y, hy⟩ : ∃ y, y = ch h j := ⟨_, rfl⟩
      simp only [← hy] at hca hcb hat
      have HAT := Lib.hid hat; clear hat
      clear hy
      have hne : ((y : Int) != (y : Int)) = false := by simp
      go_wp2_with fail
      go_quiet (first | (go_at_call 9; refine Calls.quiet_of_same (HAT.out _)))
      go_wp2_with fail
      go_roundw
      case rel => exact ⟨j + 1, by omega, by go_num, below_drewN hb.out _⟩
      case measure => simp [intOf]; omega
    · go_wp2_with fail
      refine (awake_any _).mono ?_
      rintro e w' ⟨rfl, rfl⟩
      go_wp2_with fail
      go_ret
      exact ⟨rfl, below_then HB0.out hb.out⟩

/-! ### THE ROW's STEP: WRITTEN OUT: LEAVE IT -/
set_option maxRecDepth 100000 in
theorem lifted (os : Os) (started : os.Started) (H : Type) (enc : TypeId × Value → H) :
    ReturnsInHanded {} Try.checked os 3 .any (Rows.chunkWaysSpec.pre6 enc Try.prog Try.f3 Rows.chunkWaysRow.domain false) (Rows.chunkWaysSpec.post enc Try.prog Try.f3 false true false false) := by
  refine returnsInHanded_of_change (C := Try.checked) own started (by kernel_rfl) Try.func3
    (ChangeSpec.witness6 (enc := enc) (C := Try.checked) false ⟨#[], #[.int .u64 0, .int .i64 0], []⟩ 8 (by kernel_rfl) (by kernel_rfl) (by kernel_rfl) (by kernel_rfl)) ?_
  intro W base args ds gs before hval0 hW hcnd _
  have hval : ∀ (j : Nat) t v, Try.f3.params[j]? = some t → args[j]? = some v → Value.okWide Try.prog W .any base t v := hval0
  have hW' := hW
  obtain ⟨p, q, hA0, hV, rfl, hfz, hnd⟩ := hW
  have hA : DataW.TrodAll enc Try.prog W 0 (fun _ => true) true Try.f3.params.toList args.toList ds p := hA0
  rw [Try.params3] at hA hval
  obtain ⟨v0, vs0, d0, ds0, p0, q0, hargs, rfl, rfl, h0, r0⟩ := trodAll_cons hA
  obtain ⟨v1, vs1, d1, ds1, p1, q1, rfl, rfl, rfl, h1, r1⟩ := trodAll_cons r0
  obtain ⟨rfl, rfl, rfl⟩ := trodAll_nil r1
  obtain rfl : args = #[v0, v1] := by cases args; simp_all
  obtain ⟨rfl, rfl⟩ := trodVars_none hV
  obtain ⟨a0, rfl, rfl, rfl, w0⟩ := open_int Try.underlying22 (hval 0 22 v0 rfl rfl) h0
  obtain ⟨a1, rfl, rfl, rfl, w1⟩ := open_int Try.underlying3 (hval 1 3 v1 rfl rfl) h1
  clear hA0 hval0
  refine (walk a0 a1 w0 w1 W).mono fun e W' ⟨he, hg⟩ => ?_
  subst he
  exact ⟨_, rfl, _, _, _, [], _, [], hW', trodAll_mk1 (shut_bool Try.underlying4 _), (trodAll_cons_mk (shut_int Try.underlying22 w0) (trodAll_cons_mk (shut_int Try.underlying3 w1) trodAll_mk0)), rfl, hg.frame _, fun h => by cases h⟩

theorem over : Rows.chunkWaysRow.holds Try.pinned (OpenSpec.ofChange Rows.chunkWaysSpec) :=
  OpenClaim.holds_of_wide 3 Try.f3 rfl rfl rfl rfl rfl rfl rfl ⟨rfl, rfl, rfl, rfl, rfl⟩ rfl rfl rfl rfl rfl (by kernel_rfl) Try.func3 (by kernel_rfl)
    (of_decide_eq_true (by kernel_rfl)) (by unfold Func.isWrapper; first | (rw [if_pos (by decide +kernel)]; kernel_rfl) | (rw [if_neg (by decide +kernel)]; exact ⟨rfl, rfl⟩))
    (fun os started H enc _ => lifted os started H enc)

/-- ████ THE STATEMENT ████ -/
theorem proved : Rows.ChunkWaysSaid :=
  over
#print axioms proved
end Go.Proofs.Ytmbifgmdilmkgaa.chunkWays
