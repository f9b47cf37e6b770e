/-
  QuoteFinds: for every input the law answers true and leaves its arguments as they were: the walk is typed by hand, the row's step is the guide's template.
  Conditions: none beside the row's own.
-/
import Derived.Test.YtjagpamefcgpoaaPars
import Derived.Test.YtjagpamefcgpoaaRows
import Derived.WalkKit
import Derived.ProofKit
import Derived.OpenShut
import Derived.ShutString
import Derived.ChangeOld
import Derived.Below
namespace Go.Proofs.Ytjagpamefcgpoaa.quoteFinds
open Go.ChangeShapes Go.WideShapes Go.ChangeAt Go.RowKit
open Go.ChangeMaps (open_string shut_string)
set_option linter.unusedVariables false

theorem own : ownKnob Try.prog.godebug = none := by kernel_rfl
theorem laidOut : laidOutB Try.prog = true := by kernel_rfl

/-- WHAT THE WALK IS TOLD OF A SLICE OF INTEGERS THAT CAME IN: it is nil; or it leads to a row of 'cap' cells, the numbers 'zs' (the first 'len' are its elements, the rest its spare room), each fitting its kind. -/
def IsRow (k : IntKind) (w : World) (a : Option Addr) (len cap : Nat) (zs : List Int) : Prop :=
  (a = none ∧ len = 0 ∧ cap = 0 ∧ zs = []) ∨
  ∃ x, a = some x ∧ len ≤ cap ∧ cap ≤ maxLen ∧ zs.length = cap ∧ (∀ i, i < zs.length → w.cell? (x.add i) = some (.int k (zs.getD i 0))) ∧ ∀ n ∈ zs, (Lit.int k n).wf = true

theorem lt_of_cell {w : World} {b i : Nat} {v : Value} (h : w.cell? ⟨b, i, none⟩ = some v) : b < w.heap.size := by
  rcases Nat.lt_or_ge b w.heap.size with hlt | hge
  · exact hlt
  · simp [World.cell?, Array.getElem?_eq_none hge] at h
theorem bts_of_row {w : World} {a : Option Addr} {len cap : Nat} {zs : List Int} (h : IsRow .u8 w a len cap zs) : ∃ l : List UInt8, l.length = len ∧ len ≤ cap ∧ Bts w a l := by
  rcases h with ⟨rfl, rfl, rfl, rfl⟩ | ⟨x, rfl, h1, _, h3, h4, h5⟩
  · exact ⟨[], rfl, Nat.le_refl _, .inl rfl⟩
  · refine ⟨(zs.take len).map (fun n => UInt8.ofNat n.toNat), by simp; omega, h1, ?_⟩
    rcases Nat.eq_zero_or_pos len with h0 | h0
    · left; subst h0; simp
    · right
      obtain ⟨b, off, rfl, hc⟩ := ints_at h4 (by omega)
      have hlt : b < w.heap.size := lt_of_cell (hc 0 (by omega))
      refine ⟨b, off, rfl, hlt, fun i hi => ?_⟩
      simp at hi
      rw [hc i (by omega)]
      have hwf := bounds_u8 (h5 (zs.getD i 0) (by rw [List.getD_eq_getElem?_getD, List.getElem?_eq_getElem (by omega)]; simp))
      congr 2
      have hi2 : i < zs.length := by omega
      rw [List.getElem_map, List.getElem_take, UInt8.toNat_ofNat']
      rw [List.getD_eq_getElem?_getD, List.getElem?_eq_getElem hi2] at hwf ⊢
      simp only [Option.getD_some] at hwf ⊢
      omega
/-! ### STEP 1: THE WALK: the Go text returns true, AND WRITES NOTHING THAT WAS THERE: 'Below w.heap.size w w'' (Derived/Below.lean: '.refl', '.alloc', '.drew', '.setCell' at a new block, '.trans'). Open each 'IsRow' by 'rcases' AHEAD of 'go_enter'; part every test ahead of the walk. -/
set_option maxHeartbeats 4000000 in
theorem walk (a0 : Option Addr) (len0 cap0 : Nat) (z0 : List Int) (a1 : ByteArray) (w : World) (w0 : IsRow .u8 w a0 len0 cap0 z0) (w1 : a1.size ≤ maxLen) :
    Calls Try.prog 5 #[.slice a0 len0 cap0, .string a1] w fun e w' => e = .returned (.bool true) ∧ Below w.heap.size w w' := by
  obtain ⟨l, hl, hc, hb⟩ : ∃ l : List UInt8, l.length = len0 ∧ len0 ≤ cap0 ∧ Bts w a0 l := bts_of_row w0
  clear w0
  subst hl
  by_cases hbig : 100 < l.length ∨ (¬ 100 < l.length ∧ 700 < a1.size)
  · rcases hbig with h2 | ⟨h2, h3⟩
    all_goals
      go_enter Try.func5, Try.ntmps5
      go_wp2_with fail
      refine (awake_any _).mono ?_
      rintro e w' ⟨rfl, hbel⟩
      go_wp2_with fail
      go_ret
      exact ⟨rfl, hbel⟩
  · have hla : ¬ 100 < l.length := by omega
    have hlb : ¬ 700 < a1.size := by omega
    clear hbig
    obtain ⟨s, hs⟩ : ∃ s : ByteArray, s = ⟨l.toArray⟩ := ⟨_, rfl⟩
    obtain ⟨p, hp⟩ : ∃ p : ByteArray, p = ⟨(printL l).toArray⟩ := ⟨_, rfl⟩
    have h1 := parse_any a1 w (by omega)
    have h3 : ∀ W, Calls Try.prog 12 #[.string s] W fun e w' => e = .returned (.string p) ∧ Below W.heap.size W w' := by
      intro W
      have h := refPrint_any s W (by rw [hs]; simp [ByteArray.size]; omega)
      rw [hp]
      rw [hs] at h ⊢
      exact h
    have hcv : ∀ W, Below w.heap.size w W → (convert 22 9 (.slice a0 l.length cap0)).run Try.prog W = .ok (.string s) W := by
      intro W hW
      rw [hs]; exact conv_any (hb.below hW) cap0
    have H3 := Lib.hid h3; clear h3
    have HCV := Lib.hid hcv; clear hcv hb
    cases ho : parseL a1.data.toList with
    | none =>
      rw [ho] at h1
      have h1' : Calls Try.prog 11 #[.string a1] w fun e w' => e = .returned (.tuple #[.slice none 0 0, .int .i64 2]) ∧ Below w.heap.size w w' := h1
      have H1 := Lib.hid h1'; clear h1 h1'
      have e1 : (p.toList == a1.toList) = false := by
        rw [beq_eq_false_iff_ne, ByteArray.toList_eq, ByteArray.toList_eq, hp]
        intro e
        have e2 : printL l = a1.data.toList := e
        rw [← e2, parse_print] at ho
        cases ho
      clear ho hp hs
      go_enter Try.func5, Try.ntmps5
      go_wp2_with fail
      refine H1.out.mono ?_
      rintro e w1 ⟨rfl, hb1⟩
      have d1 := HCV.out w1 hb1
      go_wp2_with fail
      refine (H3.out _).mono ?_
      rintro e w2 ⟨rfl, hb2⟩
      go_wp2_with fail
      refine (awake_any _).mono ?_
      rintro e w3 ⟨rfl, hb3⟩
      go_wp2_with fail
      go_ret
      exact ⟨rfl, below_then (below_then hb1 hb2) hb3⟩
    | some b =>
      rw [ho] at h1
      have h1' : Calls Try.prog 11 #[.string a1] w fun e w' => ∃ v, e = .returned (.tuple #[v, .int .i64 0]) ∧ Own w.heap.size w' v b ∧ Below w.heap.size w w' := h1
      have H1 := Lib.hid h1'; clear h1 h1'
      obtain ⟨t, ht⟩ : ∃ t : ByteArray, t = ⟨b.toArray⟩ := ⟨_, rfl⟩
      have hcw : ∀ (B : Nat) (W : World) (v : Value), Own B W v b → (convert 22 9 v).run Try.prog W = .ok (.string t) W := by
        intro B W v h
        rw [ht]; exact h.conv
      have HCW := Lib.hid hcw; clear hcw
      have hpb := print_parse ho
      by_cases hq : b = l
      · have e1 : p = a1 := by rw [hp, ← hq, hpb, Lib.mk_data]
        have e2 : t = s := by rw [ht, hs, hq]
        subst e1
        subst e2
        clear ho hp hs ht hpb hq
        go_enter Try.func5, Try.ntmps5
        go_wp2_with fail
        refine H1.out.mono ?_
        rintro e w1 ⟨v, rfl, hown, hb1⟩
        have d1 := HCV.out w1 hb1
        go_wp2_with fail
        refine (H3.out _).mono ?_
        rintro e w2 ⟨rfl, hb2⟩
        have hb12 := below_then hb1 hb2
        have d2 := HCV.out w2 hb12
        have d3 := HCW.out _ _ _ (hown.keep hb2)
        go_wp2_with fail
        refine (awake_any _).mono ?_
        rintro e w3 ⟨rfl, hb3⟩
        go_wp2_with fail
        go_ret
        exact ⟨rfl, below_then hb12 hb3⟩
      · have e1 : (p.toList == a1.toList) = false := by
          rw [beq_eq_false_iff_ne, ByteArray.toList_eq, ByteArray.toList_eq, hp]
          intro e
          have e2 : printL l = a1.data.toList := e
          exact hq (printL_inj (hpb.trans e2.symm))
        have e3 : (t.toList != s.toList) = true := by
          rw [bne_iff_ne, ByteArray.toList_eq, ByteArray.toList_eq, ht, hs]; exact hq
        have e4 : (t.toList == s.toList) = false := by
          rw [beq_eq_false_iff_ne, ByteArray.toList_eq, ByteArray.toList_eq, ht, hs]; exact hq
        clear ho hp hs ht hpb hq
        go_enter Try.func5, Try.ntmps5
        go_wp2_with fail
        refine H1.out.mono ?_
        rintro e w1 ⟨v, rfl, hown, hb1⟩
        have d1 := HCV.out w1 hb1
        go_wp2_with fail
        refine (H3.out _).mono ?_
        rintro e w2 ⟨rfl, hb2⟩
        have hb12 := below_then hb1 hb2
        have d2 := HCV.out w2 hb12
        have d3 := HCW.out _ _ _ (hown.keep hb2)
        go_wp2_with fail
        refine (awake_any _).mono ?_
        rintro e w3 ⟨rfl, hb3⟩
        go_wp2_with fail
        go_ret
        exact ⟨rfl, below_then hb12 hb3⟩

/-! ### THE ROW's STEP: WRITTEN OUT: LEAVE IT -/
set_option maxRecDepth 100000 in
theorem lifted (os : Os) (started : os.Started) (H : Type) (enc : TypeId × Value → H) :
    ReturnsInHanded {} Try.checked os 5 .any (Rows.quoteFindsSpec.pre6 enc Try.prog Try.f5 Rows.quoteFindsRow.domain false) (Rows.quoteFindsSpec.post enc Try.prog Try.f5 false true false false) := by
  refine returnsInHanded_of_change (C := Try.checked) own started (by kernel_rfl) Try.func5
    (ChangeSpec.witness6 (enc := enc) (C := Try.checked) false ⟨#[], #[.slice none 0 0, .string ByteArray.empty], []⟩ 8 (by kernel_rfl) (by kernel_rfl) (by kernel_rfl) (by kernel_rfl)) ?_
  intro W base args ds gs before hval0 hW hcnd _
  have hval : ∀ (j : Nat) t v, Try.f5.params[j]? = some t → args[j]? = some v → Value.okWide Try.prog W .any base t v := hval0
  have hW' := hW
  obtain ⟨p, q, hA0, hV, rfl, hfz, hnd⟩ := hW
  have hA : DataW.TrodAll enc Try.prog W 0 (fun _ => true) true Try.f5.params.toList args.toList ds p := hA0
  rw [Try.params5] at hA hval
  obtain ⟨v0, vs0, d0, ds0, p0, q0, hargs, rfl, rfl, h0, r0⟩ := trodAll_cons hA
  obtain ⟨v1, vs1, d1, ds1, p1, q1, rfl, rfl, rfl, h1, r1⟩ := trodAll_cons r0
  obtain ⟨rfl, rfl, rfl⟩ := trodAll_nil r1
  obtain rfl : args = #[v0, v1] := by cases args; simp_all
  obtain ⟨rfl, rfl⟩ := trodVars_none hV
  obtain ⟨a0, len0, cap0, rfl⟩ := okWide_slice Try.underlying22 (hval 0 22 v0 rfl rfl)
  have k0 := h0
  have lt0 : ∀ x ∈ p0, x.block < W.heap.size := by obtain ⟨m, hm⟩ := k0; exact DataW.trod_lt m _ _ _ hm
  obtain ⟨z0, w0⟩ : ∃ zs, IsRow .u8 W a0 len0 cap0 zs := by
    obtain ⟨fuel, hf⟩ := h0
    rcases open_ints Try.underlying22 Try.underlying5 (by kernel_rfl) hf with ⟨hcs, _⟩ | ⟨x, l, c, zs, hcs, _, hl, hm, hz, _, hcell, hwz⟩
    · simp [Value.cells] at hcs
      obtain ⟨rfl, rfl, rfl⟩ := hcs
      exact ⟨[], .inl ⟨rfl, rfl, rfl, rfl⟩⟩
    · simp [Value.cells] at hcs
      obtain ⟨rfl, rfl, rfl⟩ := hcs
      exact ⟨zs, .inr ⟨_, rfl, hl, hm, by simpa using hz, hcell, hwz⟩⟩
  obtain ⟨a1, rfl, rfl, rfl, w1⟩ := open_string Try.underlying9 (hval 1 9 v1 rfl rfl) h1
  clear hA0 hval0
  refine (walk a0 len0 cap0 z0 a1 W w0 w1).mono fun e W' ⟨he, bel⟩ => ?_
  subst he
  exact ⟨_, rfl, _, _, _, [], _, [], hW', trodAll_mk1 (shut_bool Try.underlying4 _), (trodAll_cons_mk (Below.trod laidOut (by kernel_rfl) (of_decide_eq_true (by kernel_rfl)) k0 bel lt0) (trodAll_cons_mk (shut_string Try.underlying9 w1) trodAll_mk0)), rfl, bel.frame _, fun h => by cases h⟩

theorem over : Rows.quoteFindsRow.holds Try.pinned (OpenSpec.ofChange Rows.quoteFindsSpec) :=
  OpenClaim.holds_of_wide 5 Try.f5 rfl rfl rfl rfl rfl rfl rfl ⟨rfl, rfl, rfl, rfl, rfl⟩ rfl rfl rfl rfl rfl (by kernel_rfl) Try.func5 (by kernel_rfl)
    (of_decide_eq_true (by kernel_rfl)) (by unfold Func.isWrapper; first | (rw [if_pos (by decide +kernel)]; kernel_rfl) | (rw [if_neg (by decide +kernel)]; exact ⟨rfl, rfl⟩))
    (fun os started H enc _ => lifted os started H enc)

/-- ████ THE STATEMENT ████ -/
theorem proved : Rows.QuoteFindsSaid := over
#print axioms proved
end Go.Proofs.Ytjagpamefcgpoaa.quoteFinds
