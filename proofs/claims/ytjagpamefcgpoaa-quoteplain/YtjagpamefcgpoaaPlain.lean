/-
  QuotePlain: for every input the law answers true and leaves its arguments as they were: the walk is typed by hand, the row's step is the guide's template.
  Conditions: none beside the row's own.
-/
import Derived.Test.YtjagpamefcgpoaaTold
import Derived.Test.YtjagpamefcgpoaaRows
import Derived.WalkKit
import Derived.ProofKit
import Derived.OpenShut
import Derived.ShutString
import Derived.ChangeOld
import Derived.Below
namespace Go.Proofs.Ytjagpamefcgpoaa.quotePlain
open Go.ChangeShapes Go.WideShapes Go.ChangeAt Go.RowKit
open Go.ChangeMaps (open_string shut_string)
set_option linter.unusedVariables false

theorem own : ownKnob Try.prog.godebug = none := by kernel_rfl
theorem laidOut : laidOutB Try.prog = true := by kernel_rfl

/-- WHAT THE WALK IS TOLD OF A SLICE OF INTEGERS THAT CAME IN: it is nil; or it leads to a row of 'cap' cells, the numbers 'zs' (the first 'len' are its elements, the rest its spare room), each fitting its kind. -/
def IsRow (k : IntKind) (w : World) (a : Option Addr) (len cap : Nat) (zs : List Int) : Prop :=
  (a = none ∧ len = 0 ∧ cap = 0 ∧ zs = []) ∨
  ∃ x, a = some x ∧ len ≤ cap ∧ cap ≤ maxLen ∧ zs.length = cap ∧ (∀ i, i < zs.length → w.cell? (x.add i) = some (.int k (zs.getD i 0))) ∧ ∀ n ∈ zs, (Lit.int k n).wf = true

theorem lt_of_cell {w : World} {b i : Nat} {v : Value} (h : w.cell? ⟨b, i, none⟩ = some v) : b < w.heap.size := by
  rcases Nat.lt_or_ge b w.heap.size with hlt | hge
  · exact hlt
  · simp [World.cell?, Array.getElem?_eq_none hge] at h
theorem bts_of_row {w : World} {a : Option Addr} {len cap : Nat} {zs : List Int} (h : IsRow .u8 w a len cap zs) : ∃ l : List UInt8, l.length = len ∧ len ≤ cap ∧ Bts w a l := by
  rcases h with ⟨rfl, rfl, rfl, rfl⟩ | ⟨x, rfl, h1, _, h3, h4, h5⟩
  · exact ⟨[], rfl, Nat.le_refl _, .inl rfl⟩
  · refine ⟨(zs.take len).map (fun n => UInt8.ofNat n.toNat), by simp; omega, h1, ?_⟩
    rcases Nat.eq_zero_or_pos len with h0 | h0
    · left; subst h0; simp
    · right
      obtain ⟨b, off, rfl, hc⟩ := ints_at h4 (by omega)
      have hlt : b < w.heap.size := lt_of_cell (hc 0 (by omega))
      refine ⟨b, off, rfl, hlt, fun i hi => ?_⟩
      simp at hi
      rw [hc i (by omega)]
      have hwf := bounds_u8 (h5 (zs.getD i 0) (by rw [List.getD_eq_getElem?_getD, List.getElem?_eq_getElem (by omega)]; simp))
      congr 2
      have hi2 : i < zs.length := by omega
      rw [List.getElem_map, List.getElem_take, UInt8.toNat_ofNat']
      rw [List.getD_eq_getElem?_getD, List.getElem?_eq_getElem hi2] at hwf ⊢
      simp only [Option.getD_some] at hwf ⊢
      omega
/-! ### STEP 1: THE WALK: the Go text returns true, AND WRITES NOTHING THAT WAS THERE: 'Below w.heap.size w w'' (Derived/Below.lean: '.refl', '.alloc', '.drew', '.setCell' at a new block, '.trans'). Open each 'IsRow' by 'rcases' AHEAD of 'go_enter'; part every test ahead of the walk. -/
set_option maxHeartbeats 4000000 in
theorem walk (a0 : Option Addr) (len0 cap0 : Nat) (z0 : List Int) (w : World) (w0 : IsRow .u8 w a0 len0 cap0 z0) :
    Calls Try.prog 7 #[.slice a0 len0 cap0] w fun e w' => e = .returned (.bool true) ∧ Below w.heap.size w w' := by
  obtain ⟨l, hl, hc, hb⟩ : ∃ l : List UInt8, l.length = len0 ∧ len0 ≤ cap0 ∧ Bts w a0 l := bts_of_row w0
  clear w0
  subst hl
  by_cases h300 : 300 < l.length
  · go_enter Try.func7, Try.ntmps7
    go_wp2_with fail
    refine (awake_any _).mono ?_
    rintro e w' ⟨rfl, hbel⟩
    go_wp2_with fail
    go_ret
    exact ⟨rfl, hbel⟩
  · have h1 := print_any l a0 cap0 w hb (by omega)
    obtain ⟨s, hs⟩ : ∃ s : ByteArray, s = ⟨(printL l).toArray⟩ := ⟨_, rfl⟩
    rw [← hs] at h1
    have hsl : s.data.toList = printL l := by rw [hs]
    have hsz : s.size ≤ 10000 := by
      have h2 := body_le l
      rw [Lib.size_eq, hsl, printL]
      simp; omega
    have h2 := fun W => refCount_any s W hsz
    rw [hsl, plain_count (plain_print l)] at h2
    have hpl : Plain s.data.toList := by rw [hsl]; exact plain_print l
    obtain ⟨m, hm⟩ : ∃ m, m = (countL (printL l)).1 := ⟨_, rfl⟩
    rw [← hm] at h2
    clear hm hb hs hsl
    have H1 := Lib.hid h1; clear h1
    have H2 := Lib.hid h2; clear h2
    have HP := Lib.hid hpl; clear hpl
    go_enter Try.func7, Try.ntmps7
    go_wp2_with fail
    refine H1.out.mono ?_
    rintro e w1 ⟨rfl, hb1⟩
    go_wp2_with fail
    refine (H2.out _).mono ?_
    rintro e w' ⟨rfl, rfl⟩
    go_wp2_with fail
    go_loopw [] (fun wr => ∃ pos : Nat, wr = w1.iter s pos ∧ Hid (Plain (s.data.toList.drop pos)) ∧ pos ≤ s.size) (fun wr => s.size - wr.iterPos w1.heap.size)
    case atStart => exact ⟨0, rfl, by simpa [Hid] using HP.out, by omega⟩
    case round =>
      obtain ⟨pos, rfl, hpl, hps⟩ := hrel
      by_cases hp : pos < s.size
      · have hdc := decode_eq s pos hp
        have hnx : ∀ ty, (Instr.next (.pointer (some ⟨w1.heap.size, 0, none⟩)) true ty).run Try.prog (w1.iter s pos) = _ := fun ty => run_next_any w1 s pos ty hp
        rw [hdc] at hnx
        clear hdc
        have hne := drop_ne hp
        obtain ⟨q, hq⟩ : ∃ q, q = s.data.toList.drop pos := ⟨_, rfl⟩
        have h5 := hpl.out
        rw [← hq] at hnx hne h5
        obtain ⟨st, hst⟩ : ∃ st, st = step q := ⟨_, rfl⟩
        obtain ⟨r, hr⟩ : ∃ r, r = runeOf q := ⟨_, rfl⟩
        rw [← hst, ← hr] at hnx
        obtain ⟨hr2, hpl2⟩ : okRune r = true ∧ Plain (s.data.toList.drop (pos + st)) := by
          cases h5 with
          | nil => exact absurd rfl hne
          | cons _ hw hrr hh =>
            have e1 : st = width q := by rw [hst]; simp [step, hw]
            refine ⟨by rw [hr]; exact hrr, ?_⟩
            rw [← List.drop_drop, ← hq, e1]
            exact hh
        have hst1 : 1 ≤ st := by rw [hst]; exact step_pos q
        have hst2 : pos + st ≤ s.size := by
          have := step_le q hne
          rw [← hst] at this
          have h4 : q.length = s.size - pos := by rw [hq, List.length_drop, ← Lib.size_eq]
          omega
        have hr3 : 32 ≤ r ∧ (r < 127 ∨ (127 ≤ r ∧ ¬ r < 160)) := by
          simp [okRune] at hr2; omega
        clear hq hst hr hne h5 hr2
        have HPL2 := Lib.hid hpl2; clear hpl2
        obtain ⟨hr4, hr5⟩ := hr3
        have c1 : ¬ (r : Int) < 32 := by omega
        rcases hr5 with hr5 | ⟨hr5, hr6⟩
        · have c2 : ¬ (127 : Int) ≤ (r : Int) := by omega
          go_wp2_with fail
          go_roundw
          case rel => exact ⟨pos + st, rfl, HPL2, hst2⟩
          case measure => simp only [World.iterPos_iter]; omega
        · have c2 : (127 : Int) ≤ (r : Int) := by omega
          have c3 : ¬ (r : Int) < 160 := by omega
          go_wp2_with fail
          go_roundw
          case rel => exact ⟨pos + st, rfl, HPL2, hst2⟩
          case measure => simp only [World.iterPos_iter]; omega
      · have hnx : ∀ ty, (Instr.next (.pointer (some ⟨w1.heap.size, 0, none⟩)) true ty).run Try.prog (w1.iter s pos) = _ := fun ty => run_next_end w1 s pos ty hp
        go_wp2_with fail
        refine (awake_any _).mono ?_
        rintro e w2 ⟨rfl, hb2⟩
        go_wp2_with fail
        go_ret
        exact ⟨rfl, below_then (hb1.alloc hb1.size _) hb2⟩

/-! ### THE ROW's STEP: WRITTEN OUT: LEAVE IT -/
set_option maxRecDepth 100000 in
theorem lifted (os : Os) (started : os.Started) (H : Type) (enc : TypeId × Value → H) :
    ReturnsInHanded {} Try.checked os 7 .any (Rows.quotePlainSpec.pre6 enc Try.prog Try.f7 Rows.quotePlainRow.domain false) (Rows.quotePlainSpec.post enc Try.prog Try.f7 false true false false) := by
  refine returnsInHanded_of_change (C := Try.checked) own started (by kernel_rfl) Try.func7
    (ChangeSpec.witness6 (enc := enc) (C := Try.checked) false ⟨#[], #[.slice none 0 0], []⟩ 8 (by kernel_rfl) (by kernel_rfl) (by kernel_rfl) (by kernel_rfl)) ?_
  intro W base args ds gs before hval0 hW hcnd _
  have hval : ∀ (j : Nat) t v, Try.f7.params[j]? = some t → args[j]? = some v → Value.okWide Try.prog W .any base t v := hval0
  have hW' := hW
  obtain ⟨p, q, hA0, hV, rfl, hfz, hnd⟩ := hW
  have hA : DataW.TrodAll enc Try.prog W 0 (fun _ => true) true Try.f7.params.toList args.toList ds p := hA0
  rw [Try.params7] at hA hval
  obtain ⟨v0, vs0, d0, ds0, p0, q0, hargs, rfl, rfl, h0, r0⟩ := trodAll_cons hA
  obtain ⟨rfl, rfl, rfl⟩ := trodAll_nil r0
  obtain rfl : args = #[v0] := by cases args; simp_all
  obtain ⟨rfl, rfl⟩ := trodVars_none hV
  obtain ⟨a0, len0, cap0, rfl⟩ := okWide_slice Try.underlying22 (hval 0 22 v0 rfl rfl)
  have k0 := h0
  have lt0 : ∀ x ∈ p0, x.block < W.heap.size := by obtain ⟨m, hm⟩ := k0; exact DataW.trod_lt m _ _ _ hm
  obtain ⟨z0, w0⟩ : ∃ zs, IsRow .u8 W a0 len0 cap0 zs := by
    obtain ⟨fuel, hf⟩ := h0
    rcases open_ints Try.underlying22 Try.underlying5 (by kernel_rfl) hf with ⟨hcs, _⟩ | ⟨x, l, c, zs, hcs, _, hl, hm, hz, _, hcell, hwz⟩
    · simp [Value.cells] at hcs
      obtain ⟨rfl, rfl, rfl⟩ := hcs
      exact ⟨[], .inl ⟨rfl, rfl, rfl, rfl⟩⟩
    · simp [Value.cells] at hcs
      obtain ⟨rfl, rfl, rfl⟩ := hcs
      exact ⟨zs, .inr ⟨_, rfl, hl, hm, by simpa using hz, hcell, hwz⟩⟩
  clear hA0 hval0
  refine (walk a0 len0 cap0 z0 W w0).mono fun e W' ⟨he, bel⟩ => ?_
  subst he
  exact ⟨_, rfl, _, _, _, [], _, [], hW', trodAll_mk1 (shut_bool Try.underlying4 _), (trodAll_cons_mk (Below.trod laidOut (by kernel_rfl) (of_decide_eq_true (by kernel_rfl)) k0 bel lt0) trodAll_mk0), rfl, bel.frame _, fun h => by cases h⟩

theorem over : Rows.quotePlainRow.holds Try.pinned (OpenSpec.ofChange Rows.quotePlainSpec) :=
  OpenClaim.holds_of_wide 7 Try.f7 rfl rfl rfl rfl rfl rfl rfl ⟨rfl, rfl, rfl, rfl, rfl⟩ rfl rfl rfl rfl rfl (by kernel_rfl) Try.func7 (by kernel_rfl)
    (of_decide_eq_true (by kernel_rfl)) (by unfold Func.isWrapper; first | (rw [if_pos (by decide +kernel)]; kernel_rfl) | (rw [if_neg (by decide +kernel)]; exact ⟨rfl, rfl⟩))
    (fun os started H enc _ => lifted os started H enc)

/-- ████ THE STATEMENT ████ -/
theorem proved : Rows.QuotePlainSaid := over
#print axioms proved
end Go.Proofs.Ytjagpamefcgpoaa.quotePlain
