/-
  BitsTurns: for every input the law answers true and leaves its arguments as they were: the walk is typed by hand, the row's step is the guide's template.
  Conditions: none beside the row's own.
-/
import Derived.Test.YtbagfhidkjkmnaaJoins
import Derived.Test.YtbagfhidkjkmnaaRows
import Derived.WalkKit
import Derived.ProofKit
import Derived.OpenShut
import Derived.ShutString
namespace Go.Proofs.Ytbagfhidkjkmnaa.bitsTurns
open Go.ChangeShapes Go.WideShapes Go.ChangeAt Go.RowKit
open Go.ChangeMaps (open_string shut_string)
set_option linter.unusedVariables false      -- a walk need not use every 'w<i>' (that an integer argument fits its kind)

theorem own : ownKnob Try.prog.godebug = none := by kernel_rfl

/-! ### STEP 1: THE WALK: the Go text returns true. 'Grown w w'': the world has at most new blocks (Derived/RowKit3.lean). Part the cases AHEAD of 'go_enter' where a test parts the walk; take each callee by a contract of your own. -/
set_option maxHeartbeats 4000000 in
theorem walk (a0 : Int) (a1 : Int) (w0 : (Lit.int .u32 a0).wf = true) (w1 : (Lit.int .i64 a1).wf = true) (w : World) :
    Calls Try.prog 5 #[.int .u32 a0, .int .i64 a1] w fun e w' => e = .returned (.bool true) ∧ Below w.heap.size w w' := by
  obtain ⟨h0, h1⟩ : 0 ≤ a0 ∧ a0 < 4294967296 := by have := w0; simp [Lit.wf, IntKind.min, IntKind.max, IntKind.signed, IntKind.bits] at this; omega
  obtain ⟨m, rfl⟩ := Int.eq_ofNat_of_zero_le h0
  have hm : m < 4294967296 := by omega
  clear w0 h0 h1 w1
  obtain ⟨L, hL⟩ : ∃ L, L = lst m 32 := ⟨_, rfl⟩
  have hl := list_any m w hm L hL
  have hle : L.length ≤ 32 := by rw [hL]; exact list_le m 32
  have hw := fun W => with_any m a1 W hm
  have hwn := with_num m a1 hm
  rw [← hL] at hwn
  have ho := fun W => without_any m a1 W hm
  have hon := without_num m a1 hm
  rw [← hL] at hon
  obtain ⟨x, hx⟩ : ∃ x, x = m ||| one a1 := ⟨_, rfl⟩
  obtain ⟨y, hy⟩ : ∃ y, y = wo m (one a1) := ⟨_, rfl⟩
  rw [← hx] at hw hwn
  rw [← hy] at ho hon
  have HAW := Lib.hid awake_any
  have HL := Lib.hid hl; clear hl
  have HW := Lib.hid hw; clear hw
  have HWN := Lib.hid hwn; clear hwn
  have HO := Lib.hid ho; clear ho
  have HON := Lib.hid hon; clear hon
  clear hL hx hy
  go_enter Try.func5, Try.ntmps5
  go_wp2_with fail
  refine HL.out.mono ?_
  rintro e w1 ⟨⟨A, c, rfl, hcc, hI⟩, hb1⟩
  have HI := Lib.hid hI; clear hI
  have HB1 := Lib.hid hb1; clear hb1
  have HCC := Lib.hid hcc; clear hcc
  go_wp2_with fail
  go_loopw [6, 13] (fun v i wr => ∃ j n : Nat, i = .int .i64 j ∧ j ≤ L.length ∧ n ≤ j ∧ Hid (n = ((L.take j).filter (fun x => x != a1)).length) ∧ Hid (Below w1.heap.size w1 wr ∧ wr.ownsRow w1.heap.size 3 1 v n (icells ((L.take j).filter (fun x => x != a1))))) (fun _ i _ => L.length - (intOf i).toNat)
  case atStart => exact ⟨0, 0, rfl, by omega, by omega, rfl, Below.refl _ _, rfl, .inl ⟨rfl, rfl⟩⟩
  case round =>
    obtain ⟨j, n, rfl, hj, hnj, hn, hown⟩ := hrel
    by_cases hlt : j < L.length
    · obtain ⟨b, off, rfl, hcell⟩ := (HI.out.below hown.out.1).at_ j hlt
      have hf := filter_take_succ hlt a1
      obtain ⟨q, hq⟩ : ∃ q, q = L[j] := ⟨_, rfl⟩
      rw [← hq] at hcell hf
      by_cases he : q = a1
      · rw [if_pos he, List.append_nil] at hf
        have HF := Lib.hid hf; clear hf hq
        subst he
        go_wp2_with fail
        go_roundw
        case rel => exact ⟨j + 1, n, by go_num, by omega, by omega, by show _ = _; rw [HF.out, hn.out], by rw [HF.out]; exact hown.out⟩
        case measure => simp [intOf]; omega
      · rw [if_neg he] at hf
        have HF := Lib.hid hf; clear hf hq
        have hne : ((q : Int) == a1) = false := by simpa using he
        clear he
        go_wp2_with (at_builtin; refine list_app1 (B := w1.heap.size) (w := wr) 22 3 _ 8 Try.underlying22 Try.info3 rfl (by decide) rfl (.tmp 20) (.tmp 22) rfl _ n _ hown.out.2 (.int .i64 q) rfl rfl rfl (by omega) hown.out.1.size ?_; intro v1 w3 ho3 hg3)
        go_roundw
        case rel =>
          refine ⟨j + 1, n + 1, by go_num, by omega, by omega, by show _ = _; rw [HF.out, hn.out]; simp, hown.out.1.grown hg3 (by have := hown.out.1.size; omega) (fun q hq => by have := (hown.out.2.lt q hq).1; omega), ?_⟩
          rw [HF.out, icells_snoc]
          exact ho3
        case measure => simp [intOf]; omega
    · obtain rfl : j = L.length := by omega
      have hoo := hown.out.2
      rw [List.take_length] at hoo
      have hnn := hn.out
      rw [List.take_length] at hnn
      obtain ⟨A2, c2, rfl, hc2, hI2⟩ := ints_own hoo hnn
      have hn2 : (L.filter (fun x => x != a1)).length ≤ 32 := by rw [← hnn]; omega
      obtain ⟨M, hM⟩ : ∃ M, M = L.filter (fun x => x != a1) := ⟨_, rfl⟩
      rw [← hM] at hI2 hn2
      have hnumM := fun X (hX : Below wr.heap.size wr X) => number_any M A2 c2 X (hI2.below hX) (by omega) y (by rw [hM]; exact HON.out)
      rw [← hM]
      have HM := Lib.hid hnumM; clear hnumM
      have HBW := Lib.hid hown.out.1
      clear hoo hnn hM hI2 hc2 hown hn
      go_wp2_with fail
      refine (HW.out _).mono ?_
      rintro e w' ⟨rfl, rfl⟩
      go_wp2_with (first
        | (at_builtin; refine list_app_ints (B := wr.heap.size) (n := 0) rfl (.tmp 28) (.tmp 29) rfl _ _ L A c (own_empty wr) (HI.out.below (HBW.out.alloc HBW.out.size _)) rfl rfl (by omega) (by simp) ?_; intro v1 w3 ho3 hg3
           have hb3 : Below wr.heap.size wr w3 := ((Below.refl _ _).alloc (Nat.le_refl _) _).grown hg3 (by simp) (fun q hq => by have := ((own_empty wr).lt q hq).1; omega)
           rw [Nat.zero_add] at ho3
           have HO3 := Lib.hid ho3; clear ho3
           have HB3 := Lib.hid hb3; clear hb3 hg3)
        | (at_builtin; refine list_app1 (B := wr.heap.size) (w := w3) 22 3 _ 8 Try.underlying22 Try.info3 rfl (by decide) rfl (.tmp 30) (.tmp 32) rfl _ L.length _ HO3.out (.int .i64 a1) rfl rfl rfl (by omega) HB3.out.size ?_; intro v4 w4 ho4 hg4
           have hb4 : Below wr.heap.size wr w4 := HB3.out.grown hg4 HB3.out.size (fun q hq => by have := (HO3.out.lt q hq).1; omega)
           obtain ⟨A4, c4, rfl, hc4, hI4⟩ := ints_own (l := L ++ [a1]) (by rw [icells_append]; exact ho4) (by simp)
           have hnum4 := number_any (L ++ [a1]) A4 c4 w4 hI4 (by simp; omega) x HWN.out
           rw [show (L ++ [a1]).length = L.length + 1 by simp] at hnum4
           have HN4 := Lib.hid hnum4; clear hnum4
           have HB4 := Lib.hid hb4; clear hb4 hg4 ho4 hI4 hc4))
      refine HN4.out.mono ?_
      rintro e w' ⟨rfl, rfl⟩
      go_wp2_with fail
      refine (HO.out _).mono ?_
      rintro e w' ⟨rfl, rfl⟩
      go_wp2_with fail
      refine (HM.out _ HB4.out).mono ?_
      rintro e w' ⟨rfl, rfl⟩
      go_wp2_with fail
      refine (HAW.out _).mono ?_
      rintro e w5 ⟨rfl, hb5⟩
      have HB5 := Lib.hid hb5; clear hb5
      go_wp2_with fail
      go_ret
      exact ⟨rfl, below_then (below_then (below_then HB1.out HBW.out) HB4.out) HB5.out⟩

/-! ### THE ROW's STEP: WRITTEN OUT: LEAVE IT -/
set_option maxRecDepth 100000 in
theorem lifted (os : Os) (started : os.Started) (H : Type) (enc : TypeId × Value → H) :
    ReturnsInHanded {} Try.checked os 5 .any (Rows.bitsTurnsSpec.pre6 enc Try.prog Try.f5 Rows.bitsTurnsRow.domain false) (Rows.bitsTurnsSpec.post enc Try.prog Try.f5 false true false false) := by
  refine returnsInHanded_of_change (C := Try.checked) own started (by kernel_rfl) Try.func5
    (ChangeSpec.witness6 (enc := enc) (C := Try.checked) false ⟨#[], #[.int .u32 0, .int .i64 0], []⟩ 8 (by kernel_rfl) (by kernel_rfl) (by kernel_rfl) (by kernel_rfl)) ?_
  intro W base args ds gs before hval0 hW hcnd _
  have hval : ∀ (j : Nat) t v, Try.f5.params[j]? = some t → args[j]? = some v → Value.okWide Try.prog W .any base t v := hval0
  have hW' := hW
  obtain ⟨p, q, hA0, hV, rfl, hfz, hnd⟩ := hW
  have hA : DataW.TrodAll enc Try.prog W 0 (fun _ => true) true Try.f5.params.toList args.toList ds p := hA0
  rw [Try.params5] at hA hval
  obtain ⟨v0, vs0, d0, ds0, p0, q0, hargs, rfl, rfl, h0, r0⟩ := trodAll_cons hA
  obtain ⟨v1, vs1, d1, ds1, p1, q1, rfl, rfl, rfl, h1, r1⟩ := trodAll_cons r0
  obtain ⟨rfl, rfl, rfl⟩ := trodAll_nil r1
  obtain rfl : args = #[v0, v1] := by cases args; simp_all
  obtain ⟨rfl, rfl⟩ := trodVars_none hV
  obtain ⟨a0, rfl, rfl, rfl, w0⟩ := open_int Try.underlying25 (hval 0 25 v0 rfl rfl) h0
  obtain ⟨a1, rfl, rfl, rfl, w1⟩ := open_int Try.underlying3 (hval 1 3 v1 rfl rfl) h1
  clear hA0 hval0
  refine (walk a0 a1 w0 w1 W).mono fun e W' ⟨he, hg⟩ => ?_
  subst he
  exact ⟨_, rfl, _, _, _, [], _, [], hW', trodAll_mk1 (shut_bool Try.underlying4 _), (trodAll_cons_mk (shut_int Try.underlying25 w0) (trodAll_cons_mk (shut_int Try.underlying3 w1) trodAll_mk0)), rfl, hg.frame _, fun h => by cases h⟩

theorem over : Rows.bitsTurnsRow.holds Try.pinned (OpenSpec.ofChange Rows.bitsTurnsSpec) :=
  OpenClaim.holds_of_wide 5 Try.f5 rfl rfl rfl rfl rfl rfl rfl ⟨rfl, rfl, rfl, rfl, rfl⟩ rfl rfl rfl rfl rfl (by kernel_rfl) Try.func5 (by kernel_rfl)
    (of_decide_eq_true (by kernel_rfl)) (by unfold Func.isWrapper; first | (rw [if_pos (by decide +kernel)]; kernel_rfl) | (rw [if_neg (by decide +kernel)]; exact ⟨rfl, rfl⟩))
    (fun os started H enc _ => lifted os started H enc)

/-- ████ THE STATEMENT ████ -/
theorem proved : Rows.BitsTurnsSaid :=
  over
#print axioms proved
end Go.Proofs.Ytbagfhidkjkmnaa.bitsTurns
