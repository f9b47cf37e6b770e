/-
  BitsNth: for every input the law answers true and leaves its arguments as they were; the row lists math/bits.deBruijn32tab, the card ties it to the program's text (the tie is given). The walk is typed by hand, the row's step and the card's are the guide's template.
  Conditions: none beside the row's own.
-/
import Derived.Test.YtbagfhidkjkmnaaDoorNth
import Derived.Test.YtbagfhidkjkmnaaDoorLaid
import Derived.Test.YtbagfhidkjkmnaaDoorCards
import Derived.Test.YtbagfhidkjkmnaaDoorTie
namespace Go.Proofs.YtbagfhidkjkmnaaDoor.bitsNth
open Go.ChangeShapes Go.WideShapes Go.ChangeAt Go.RowKit Go.Shelf
set_option linter.unusedVariables false
attribute [local irreducible] lst
set_option maxRecDepth 100000
set_option maxHeartbeats 4000000 in
theorem walk (a0 : Int) (a1 : Int) (w0 : (Lit.int .u32 a0).wf = true) (w1 : (Lit.int .i64 a1).wf = true) (w : World) (hT : Tab w) :
    Calls Tryd.prog 3 #[.int .u32 a0, .int .i64 a1] w fun e w' => e = .returned (.bool true) ∧ Below w.heap.size w w' := by
  obtain ⟨h0, h1⟩ : 0 ≤ a0 ∧ a0 < 4294967296 := by have := w0; simp [Lit.wf, IntKind.min, IntKind.max, IntKind.signed, IntKind.bits] at this; omega
  obtain ⟨m, rfl⟩ := Int.eq_ofNat_of_zero_le h0
  have hm : m < 4294967296 := by omega
  clear w0 h0 h1 w1
  obtain ⟨L, hL⟩ : ∃ L, L = lst m 32 := ⟨_, rfl⟩
  have hl := list_any m w hm L hL
  have hle : L.length ≤ 32 := by rw [hL]; exact list_le m 32
  have hn := fun W hT => nth_any m a1 W hm hT L hL
  have hget : ∀ j (hj : j < L.length), less L L[j] = j := by subst hL; exact fun j hj => less_get m 32 j hj
  have hpl : ∀ z W, Calls Tryd.prog 8 #[.int .u32 m, .int .i64 z] W fun e w' => e = .returned (.int .i64 (less L z : Nat)) ∧ ∃ n, w' = W.drewN n := by
    subst hL
    exact fun z W => place_any m z W hm
  have HAW := Lib.hid awake_any
  have HL := Lib.hid hl; clear hl
  have HN := Lib.hid hn; clear hn
  have HGET := Lib.hid hget; clear hget
  have HPL := Lib.hid hpl; clear hpl
  have HT := Lib.hid hT; clear hT
  clear hL
  go_enter Tryd.func3, Tryd.ntmps3
  go_wp2_with fail
  refine HL.out.mono ?_
  rintro e w1 ⟨⟨A, c, rfl, hcc, hI⟩, hb1⟩
  have HI := Lib.hid hI; clear hI
  have HB1 := Lib.hid hb1; clear hb1
  have HCC := Lib.hid hcc; clear hcc
  go_wp2_with fail
  refine (HN.out _ (HT.out.below HB1.out HT.out.lt)).mono ?_
  rintro e w2 ⟨hres, hb2⟩
  have HB2 := Lib.hid hb2; clear hb2
  rcases hres with ⟨j, hj, rfl, rfl⟩ | ⟨hout, rfl⟩
  · obtain ⟨b, off, rfl, hcell⟩ := (HI.out.below HB2.out).at_ j hj
    have hp := HPL.out L[j]
    rw [HGET.out j hj] at hp
    obtain ⟨x, hx⟩ : ∃ x, x = L[j] := ⟨_, rfl⟩
    rw [← hx] at hcell hp ⊢
    have HP := Lib.hid hp; clear hp hx
    go_wp2_with fail
    refine (HP.out _).mono ?_
    rintro e w3 ⟨rfl, n, rfl⟩
    go_wp2_with fail
    refine (HAW.out _).mono ?_
    rintro e w4 ⟨rfl, hb4⟩
    have HB4 := Lib.hid hb4; clear hb4
    go_wp2_with fail
    go_ret
    exact ⟨rfl, below_then (below_drewN (below_then HB1.out HB2.out) _) HB4.out⟩
  · rcases hout with h | h
    · go_wp2_with fail
      refine (HAW.out _).mono ?_
      rintro e w4 ⟨rfl, hb4⟩
      have HB4 := Lib.hid hb4; clear hb4
      go_wp2_with fail
      go_ret
      exact ⟨rfl, below_then (below_then HB1.out HB2.out) HB4.out⟩
    · have h0 : ¬ a1 < 0 := by omega
      go_wp2_with fail
      refine (HAW.out _).mono ?_
      rintro e w4 ⟨rfl, hb4⟩
      have HB4 := Lib.hid hb4; clear hb4
      go_wp2_with fail
      go_ret
      exact ⟨rfl, below_then (below_then HB1.out HB2.out) HB4.out⟩

theorem lifted (os : Os) (started : os.Started) (H : Type) (enc : TypeId × Value → H) :
    ReturnsInHanded {} Tryd.checked os 3 .any (fun w args => (Rows.bitsNthSpec.pre enc Tryd.prog Tryd.f3 [] false w args ∧ laidMetH Tryd.prog laid w) ∧ sizedMet enc Tryd.prog Tryd.f3 (OpenSpec.ofChange Rows.bitsNthSpec) false w args)
      (Rows.bitsNthSpec.post enc Tryd.prog Tryd.f3 false true false false) := by
  refine returnsInHanded_of_change_and (C := Tryd.checked) (X := fun w _ => laidMetH Tryd.prog laid w) (fun _ _ _ hh h => h.of_heap hh) own started (by kernel_rfl) Tryd.func3
    (ChangeSpec.witness_shaped (enc := enc) (C := Tryd.checked) (os := os) (X := fun w _ => laidMetH Tryd.prog laid w) false (World.laidAll Tryd.prog os laid) #[.int .u32 0, .int .i64 0] 8 (World.laidAll_os _ _ _)
      (World.shaped_of_ZipB (by kernel_rfl) (by kernel_rfl)) (by kernel_rfl) (by kernel_rfl) (by kernel_rfl)
      (by rw [MakeChecks.laidMetH_plain _ _ _ (by kernel_rfl)]; exact laidMet_laidAll _ (by kernel_rfl) (by kernel_rfl))) ?_
  intro W base args ds gs before hval0 hW _ _ hL _
  have hval : ∀ (j : Nat) t v, Tryd.f3.params[j]? = some t → args[j]? = some v → Value.okWide Tryd.prog W .any base t v := hval0
  have hW' := hW
  obtain ⟨p, q, hA0, hV, rfl, _, _⟩ := hW
  have hA : DataW.TrodAll enc Tryd.prog W 0 (fun _ => true) true Tryd.f3.params.toList args.toList ds p := hA0
  rw [Tryd.params3] at hA hval
  obtain ⟨v0, vs0, d0, ds0, p0, q0, hargs, rfl, rfl, h0, r0⟩ := trodAll_cons hA
  obtain ⟨v1, vs1, d1, ds1, p1, q1, rfl, rfl, rfl, h1, r1⟩ := trodAll_cons r0
  obtain ⟨rfl, rfl, rfl⟩ := trodAll_nil r1
  obtain rfl : args = #[v0, v1] := by cases args; simp_all
  obtain ⟨rfl, rfl⟩ := trodVars_none hV
  obtain ⟨a0, rfl, rfl, rfl, w0⟩ := open_int Tryd.underlying23 (hval 0 23 v0 rfl rfl) h0
  obtain ⟨a1, rfl, rfl, rfl, w1⟩ := open_int Tryd.underlying3 (hval 1 3 v1 rfl rfl) h1
  simp only [List.append_nil] at hW'
  refine (walk a0 a1 w0 w1 W (tab_of_laid hL)).mono fun e W' ⟨he, hb⟩ => ?_
  subst he
  exact ⟨_, rfl, _, _, _, [], [], [], hW', trodAll_mk1 (shut_bool Tryd.underlying4 _), trodAll_cons_mk (shut_int Tryd.underlying23 w0) (trodAll_cons_mk (shut_int Tryd.underlying3 w1) trodAll_mk0), rfl, hb.frame _, fun h => by cases h⟩

theorem over : Rows.BitsNthSaid :=
  OpenClaim.holds_of_wide 3 Tryd.f3 rfl rfl rfl rfl rfl rfl rfl ⟨rfl, rfl, rfl, rfl, rfl⟩ rfl rfl rfl rfl rfl (by kernel_rfl) Tryd.func3 (by kernel_rfl)
    (of_decide_eq_true (by kernel_rfl)) (by unfold Func.isWrapper; first | (rw [if_pos (by decide +kernel)]; kernel_rfl) | (rw [if_neg (by decide +kernel)]; exact ⟨rfl, rfl⟩))
    (fun os started H enc _ => lifted os started H enc)

/-- ████ THE STATEMENT: THE TIED CARD ████ -/
theorem proved : Rows.BitsNthCardSaid :=
  Claim7.holds_tied_plain_at .later [] [.data] true (true, "1d7f00e9f74c877081602463018f19e926e7bf6fd8fe6d035d1b6ad744b438d7") false over (fun _ h => by cases h) (by kernel_rfl) (fun _ h => by cases h) bitsNth_row_tie rfl ⟨rfl, rfl⟩ (by kernel_rfl) rfl
    (fun f fn hf hfn => by
      obtain rfl : f = 3 := Option.some.inj ((show Tryd.prog.funcNamed "brushwood/brushwoodlaw07.BitsNth" = some 3 by kernel_rfl).symm.trans hf) |>.symm
      obtain rfl : fn = Tryd.f3 := (Option.some.inj (Tryd.func3.symm.trans hfn)).symm
      exact ⟨by kernel_rfl, fun j t ht => by
        rw [Tryd.params3] at ht
        have hm : t ∈ [23, 3] := by simpa using Array.mem_of_getElem? ht
        have hall : ([23, 3].all fun u => !Tryd.prog.wantsStandIn u) = true := by kernel_rfl
        exact (show Tryd.prog.wantsStandIn t = false by simpa using List.all_eq_true.1 hall t hm)⟩)
    (by kernel_rfl)
#print axioms proved
end Go.Proofs.YtbagfhidkjkmnaaDoor.bitsNth
