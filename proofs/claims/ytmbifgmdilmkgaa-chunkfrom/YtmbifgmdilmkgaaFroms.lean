/-
  ChunkFrom: for every input the law answers true and leaves its arguments as they were: the walk is typed by hand, the row's step is the guide's template.
  Conditions: none beside the row's own.
-/
import Derived.Test.YtmbifgmdilmkgaaFrom
import Derived.Deep.WholeRow
import Derived.Test.YtmbifgmdilmkgaaRows
import Derived.WalkKit
import Derived.ProofKit
import Derived.OpenShut
import Derived.ShutString
import Derived.ChangeOld
import Derived.Below
namespace Go.Proofs.Ytmbifgmdilmkgaa.chunkFrom
open Go.ChangeShapes Go.WideShapes Go.ChangeAt Go.RowKit
open Go.ChangeMaps (open_string shut_string)
set_option linter.unusedVariables false

theorem own : ownKnob Try.prog.godebug = none := by kernel_rfl
theorem laidOut : laidOutB Try.prog = true := by kernel_rfl

/-- WHAT THE WALK IS TOLD OF A SLICE OF INTEGERS THAT CAME IN: it is nil; or it leads to a row of 'cap' cells, the numbers 'zs' (the first 'len' are its elements, the rest its spare room), each fitting its kind. -/
def IsRow (k : IntKind) (w : World) (a : Option Addr) (len cap : Nat) (zs : List Int) : Prop :=
  (a = none ∧ len = 0 ∧ cap = 0 ∧ zs = []) ∨
  ∃ x, a = some x ∧ len ≤ cap ∧ cap ≤ maxLen ∧ zs.length = cap ∧ (∀ i, i < zs.length → w.cell? (x.add i) = some (.int k (zs.getD i 0))) ∧ ∀ n ∈ zs, (Lit.int k n).wf = true

theorem lt_of_cell {w : World} {b i : Nat} {v : Value} (h : w.cell? ⟨b, i, none⟩ = some v) : b < w.heap.size := by
  rcases Nat.lt_or_ge b w.heap.size with hlt | hge
  · exact hlt
  · simp [World.cell?, Array.getElem?_eq_none hge] at h
theorem ints_of_row {w : World} {a : Option Addr} {len cap : Nat} {zs : List Int} (h : IsRow .i64 w a len cap zs) : ∃ l : List Int, l.length = len ∧ Ints w a l := by
  rcases h with ⟨rfl, rfl, rfl, rfl⟩ | ⟨x, rfl, h1, _, h3, h4, h5⟩
  · exact ⟨[], rfl, .inl rfl⟩
  · refine ⟨zs.take len, by simp; omega, ?_⟩
    rcases Nat.eq_zero_or_pos len with h0 | h0
    · left; subst h0; simp
    · right
      obtain ⟨b, off, rfl, hc⟩ := ints_at h4 (by omega)
      have hlt : b < w.heap.size := lt_of_cell (hc 0 (by omega))
      refine ⟨b, off, rfl, hlt, fun i hi => ?_⟩
      simp at hi
      rw [hc i (by omega), List.getElem_take, List.getD_eq_getElem?_getD, List.getElem?_eq_getElem (by omega)]
      rfl
theorem getD_of (L : List Int) (i : Nat) (h : i < L.length) : L.getD i 0 = L[i] := by rw [List.getD_eq_getElem?_getD, List.getElem?_eq_getElem h]; rfl
theorem ok_iff (L : List Int) (h13 : L.length = 13) : okTo L 13 ↔ (L.getD 12 0 < 16 ∧ ∀ i, i < 13 → 0 ≤ L.getD i 0 ∧ L.getD i 0 < 32) := by
  constructor
  · intro h
    constructor
    · have h2 := (h 12 (by omega) (by omega)).2
      rw [gr_of 12 (by omega), if_pos rfl, ← getD_of L 12 (by omega)] at h2
      omega
    · intro i hi
      have h2 := h i hi (by omega)
      unfold okAt at h2
      rw [gr_of i (by omega), ← getD_of L i (by omega)] at h2
      split at h2 <;> omega
  · rintro ⟨h12, h⟩ i hi hl
    have h2 := h i hi
    unfold okAt
    rw [gr_of i (by omega), ← getD_of L i hl]
    split
    · rename_i e
      subst e
      omega
    · omega
theorem ints_get {w : World} {b off : Nat} {L : List Int} (h : Ints w (some ⟨b, off, none⟩) L) (i : Nat) (hi : i < L.length) : w.cell? ⟨b, off + i, none⟩ = some (.int .i64 (L.getD i 0)) := by
  obtain ⟨b2, o2, e, hc⟩ := h.at_ i hi
  obtain ⟨rfl, rfl⟩ : b = b2 ∧ off = o2 := by simpa using e
  rw [hc, getD_of L i hi]
theorem ok_nat (L : List Int) (h13 : L.length = 13) (hok : okTo L 13) (i : Nat) (hi : i < 13) : ((ch (val (nat L)) i : Nat) : Int) = L.getD i 0 := by
  have h := (ok_iff L h13).1 hok
  rw [val_ch (nat L) i (by
    intro a ha
    obtain ⟨k, hk, rfl⟩ := List.getElem_of_mem ha
    have hk2 : k < L.length := by simpa [nat] using hk
    have h2 := (h.2 k (by omega)).2
    rw [getD_of L k hk2] at h2
    simp only [nat, List.getElem_map]
    omega) (by simp [nat]; omega), getD_of L i (by omega)]
  have h2 := (h.2 i hi).1
  rw [getD_of L i (by omega)] at h2
  simp only [nat, List.getElem_map]
  omega
/-! ### STEP 1: THE WALK: the Go text returns true, AND WRITES NOTHING THAT WAS THERE: 'Below w.heap.size w w'' (Derived/Below.lean: '.refl', '.alloc', '.drew', '.setCell' at a new block, '.trans'). Open each 'IsRow' by 'rcases' AHEAD of 'go_enter'; part every test ahead of the walk. -/
set_option maxHeartbeats 4000000 in
theorem walk (a0 : Option Addr) (len0 cap0 : Nat) (z0 : List Int) (w : World) (w0 : IsRow .i64 w a0 len0 cap0 z0) :
    Calls Try.prog 5 #[.slice a0 len0 cap0] w fun e w' => e = .returned (.bool true) ∧ Below w.heap.size w w' := by
  obtain ⟨L, hL, hI⟩ := ints_of_row w0
  subst hL
  clear w0
  by_cases h20 : 20 < L.length
  · clear hI
    go_enter Try.func5, Try.ntmps5
    go_wp2_with fail
    refine (awake_any _).mono ?_
    rintro e w' ⟨rfl, rfl⟩
    go_wp2_with fail
    go_ret
    exact ⟨rfl, Below.refl _ _⟩
  · by_cases h13 : L.length = 13
    · have hf := from_any L a0 cap0 w h13 hI
      obtain ⟨b, off, rfl, hd12⟩ := hI.at_ 12 (by omega)
      clear hd12
      have hget := fun i (hi : i < 13) => ints_get hI i (by omega)
      have hc12 := hget 12 (by omega)
      have hok := ok_iff L h13
      have hnat := ok_nat L h13
      have hIn : ∀ X, Below w.heap.size w X → ∀ i, i < 13 → X.cell? ⟨b, off + i, none⟩ = some (.int .i64 (L.getD i 0)) := fun X hX i hi => ints_get (hI.below hX) i (by omega)
      rw [h13]
      obtain ⟨z12, hz12⟩ : ∃ z, z = L.getD 12 0 := ⟨_, rfl⟩
      rw [← hz12] at hc12 hok
      have HF := Lib.hid hf; clear hf
      have HG := Lib.hid hget; clear hget
      have HOK := Lib.hid hok; clear hok
      have HNAT := Lib.hid hnat; clear hnat
      have HIN := Lib.hid hIn; clear hIn
      clear h20 hz12 h13 hI
      go_enter Try.func5, Try.ntmps5
      go_wp2_with fail
      refine HF.out.mono ?_
      rintro e w' ⟨⟨v, c, rfl, hv64, hvc⟩, rfl⟩
      have HV := Lib.hid hvc; clear hvc
      go_wp2_with fail
      go_loop [5, 37] (fun r i => ∃ (j : Nat) (q : Bool), j ≤ 13 ∧ i = .int .i64 j ∧ r = .bool q ∧ Hid (q = true ↔ (z12 < 16 ∧ ∀ i, i < j → 0 ≤ L.getD i 0 ∧ L.getD i 0 < 32))) (fun _ i => 13 - (intOf i).toNat)
      case atStart =>
        refine ⟨0, _, by omega, rfl, rfl, ?_⟩
        show _ ↔ _
        rw [decide_eq_true_eq]
        exact ⟨fun h => ⟨h, fun i hi => by omega⟩, fun h => h.1⟩
      case round =>
        obtain ⟨j, q, hj, rfl, rfl, hq⟩ := hrel
        by_cases hlt : j < 13
        · have hcell := HG.out j hlt
          obtain ⟨z, hz⟩ : ∃ z, z = L.getD j 0 := ⟨_, rfl⟩
          rw [← hz] at hcell
          have hstep : ∀ P : Nat → Prop, (∀ i, i < j + 1 → P i) ↔ ((∀ i, i < j → P i) ∧ P j) := by
            intro P
            constructor
            · intro h; exact ⟨fun i hi => h i (by omega), h j (by omega)⟩
            · rintro ⟨h1, h2⟩ i hi
              by_cases e : i = j
              · subst e; exact h2
              · exact h1 i (by omega)
          have hnx : (z12 < 16 ∧ ∀ i, i < j + 1 → 0 ≤ L.getD i 0 ∧ L.getD i 0 < 32) ↔ (q = true ∧ 0 ≤ z ∧ z < 32) := by
            rw [hstep, ← and_assoc, ← hq.out, ← hz]
          have HNX := Lib.hid hnx; clear hnx
          clear hstep hz hq
          cases q with
          | false =>
            go_wp2_with fail
            go_round
            case rel => exact ⟨j + 1, false, by omega, by go_num, rfl, by show _ ↔ _; rw [HNX.out]; simp⟩
            case measure => simp [intOf]; omega
          | true =>
            rcases Int.lt_or_le z 0 with h1 | h1
            · go_wp2_with fail
              go_round
              case rel => exact ⟨j + 1, false, by omega, by go_num, rfl, by show _ ↔ _; rw [HNX.out]; simp; omega⟩
              case measure => simp [intOf]; omega
            · rcases Int.lt_or_le z 32 with h2 | h2
              · go_wp2_with fail
                go_round
                case rel => exact ⟨j + 1, true, by omega, by go_num, by simp, by show _ ↔ _; rw [HNX.out]; simp [h1, h2]⟩
                case measure => simp [intOf]; omega
              · go_wp2_with fail
                go_round
                case rel => exact ⟨j + 1, false, by omega, by go_num, by simp; omega, by show _ ↔ _; rw [HNX.out]; simp; omega⟩
                case measure => simp [intOf]; omega
        · obtain rfl : j = 13 := by omega
          have hqo : q = true ↔ okTo L 13 := hq.out.trans HOK.out.symm
          cases q with
          | false =>
            have hno : ¬ okTo L 13 := fun h => by cases hqo.2 h
            have hvc : v = 0 ∧ c = 2 := by
              rcases HV.out with ⟨h, _⟩ | ⟨_, h⟩
              · exact absurd h hno
              · exact h
            obtain ⟨rfl, rfl⟩ := hvc
            clear hqo hno
            go_wp2_with fail
            refine (awake_any _).mono ?_
            rintro e w' ⟨rfl, rfl⟩
            go_wp2_with fail
            go_ret
            exact ⟨rfl, Below.refl _ _⟩
          | true =>
            have hyes : okTo L 13 := hqo.1 rfl
            have hvc : v = val (nat L) ∧ c = 0 := by
              rcases HV.out with ⟨_, h⟩ | ⟨h, _⟩
              · exact h
              · exact absurd hyes h
            obtain ⟨hv, rfl⟩ := hvc
            have hch := HNAT.out hyes
            rw [← hv] at hch
            have hrw := refWay_any v w hv64
            have hwg := wayV_get v
            have hone := wayV_one v
            have hsz := wayV_size v
            obtain ⟨A, hA⟩ : ∃ A, A = wayV v := ⟨_, rfl⟩
            simp only [← hA] at hrw hwg hone hsz
            have HCH := Lib.hid hch; clear hch
            have HRW := Lib.hid hrw; clear hrw
            have HWG := Lib.hid hwg; clear hwg
            have HONE := Lib.hid hone; clear hone
            have HSZ := Lib.hid hsz; clear hsz
            have HI : Hid ((Try.prog.info? 23).map (·.size) = some A.size) := by show _ = _; rw [HSZ.out]; kernel_rfl
            clear hqo hyes hv hA hq HV HOK HNAT HF
            go_wp2_with fail
            refine HRW.out.mono ?_
            rintro e wA ⟨rfl, hA⟩
            have HA := Lib.hid hA; clear hA
            go_wp2_with (refine wpList_store_row rfl 23 _ _ rfl wA.heap.size A rfl rfl 23 _ (heap_alloc_new wA _) HI.out (by rw [HSZ.out]; rfl) HONE.out ?_)
            rw [World.setRow_alloc_new]
            obtain ⟨W0, hW0⟩ : ∃ W, W = wA.alloc (.cells A 23) := ⟨_, rfl⟩
            have hb0 : Below w.heap.size w W0 := by rw [hW0]; exact HA.out.alloc HA.out.size _
            have hga : ∀ X, Below W0.heap.size W0 X → ∀ j, j < 13 → X.cell? ⟨wA.heap.size, j, none⟩ = some (.int .i64 (L.getD j 0)) := by
              intro X hX j hj
              have e : W0.heap[wA.heap.size]? = some (.cells A 23 (0, 0)) := by rw [hW0]; exact heap_alloc_new wA _
              rw [cell_of_row _ _ _ _ _ _ (row_below e hX), HWG.out j hj, HCH.out j hj]
            rw [← hW0]
            have HGA := Lib.hid hga; clear hga
            have HB0 := Lib.hid hb0; clear hb0
            clear hW0
            go_loopw [66] (fun i wr => ∃ j : Nat, j ≤ 13 ∧ i = .int .i64 j ∧ Hid (Below W0.heap.size W0 wr)) (fun i _ => 13 - (intOf i).toNat)
            case atStart => exact ⟨0, by omega, rfl, Below.refl _ _⟩
            case round =>
              obtain ⟨j, hj, rfl, hb⟩ := hrel
              by_cases hlt : j < 13
              · have hca := fun q => HGA.out (wr.drewN q) (below_drewN hb.out q) j hlt
                have hcb := fun q => HIN.out (wr.drewN q) (below_drewN (below_then HB0.out hb.out) q) j hlt
                obtain ⟨y, hy⟩ : ∃ y, y = L.getD j 0 := ⟨_, rfl⟩
                simp only [← hy] at hca hcb
                clear hy
                have hne : (y != y) = false := by simp
                go_wp2_with fail
                go_quiet (fail)
                go_wp2_with fail
                go_roundw
                case rel => exact ⟨j + 1, by omega, by go_num, below_drewN hb.out _⟩
                case measure => simp [intOf]; omega
              · go_wp2_with fail
                refine (awake_any _).mono ?_
                rintro e w' ⟨rfl, rfl⟩
                go_wp2_with fail
                go_ret
                exact ⟨rfl, below_then HB0.out hb.out⟩
    · have hf := from_arg L a0 cap0 w h13
      have HF := Lib.hid hf; clear hf
      clear hI
      have hne : ¬ ((L.length : Int) = 13) := by omega
      go_enter Try.func5, Try.ntmps5
      go_wp2_with fail
      refine HF.out.mono ?_
      rintro e w' ⟨rfl, rfl⟩
      go_wp2_with fail
      refine (awake_any _).mono ?_
      rintro e w' ⟨rfl, rfl⟩
      go_wp2_with fail
      go_ret
      exact ⟨rfl, Below.refl _ _⟩

/-! ### THE ROW's STEP: WRITTEN OUT: LEAVE IT -/
set_option maxRecDepth 100000 in
theorem lifted (os : Os) (started : os.Started) (H : Type) (enc : TypeId × Value → H) :
    ReturnsInHanded {} Try.checked os 5 .any (Rows.chunkFromSpec.pre6 enc Try.prog Try.f5 Rows.chunkFromRow.domain false) (Rows.chunkFromSpec.post enc Try.prog Try.f5 false true false false) := by
  refine returnsInHanded_of_change (C := Try.checked) own started (by kernel_rfl) Try.func5
    (ChangeSpec.witness6 (enc := enc) (C := Try.checked) false ⟨#[], #[.slice none 0 0], []⟩ 8 (by kernel_rfl) (by kernel_rfl) (by kernel_rfl) (by kernel_rfl)) ?_
  intro W base args ds gs before hval0 hW hcnd _
  have hval : ∀ (j : Nat) t v, Try.f5.params[j]? = some t → args[j]? = some v → Value.okWide Try.prog W .any base t v := hval0
  have hW' := hW
  obtain ⟨p, q, hA0, hV, rfl, hfz, hnd⟩ := hW
  have hA : DataW.TrodAll enc Try.prog W 0 (fun _ => true) true Try.f5.params.toList args.toList ds p := hA0
  rw [Try.params5] at hA hval
  obtain ⟨v0, vs0, d0, ds0, p0, q0, hargs, rfl, rfl, h0, r0⟩ := trodAll_cons hA
  obtain ⟨rfl, rfl, rfl⟩ := trodAll_nil r0
  obtain rfl : args = #[v0] := by cases args; simp_all
  obtain ⟨rfl, rfl⟩ := trodVars_none hV
  obtain ⟨a0, len0, cap0, rfl⟩ := okWide_slice Try.underlying25 (hval 0 25 v0 rfl rfl)
  have k0 := h0
  have lt0 : ∀ x ∈ p0, x.block < W.heap.size := by obtain ⟨m, hm⟩ := k0; exact DataW.trod_lt m _ _ _ hm
  obtain ⟨z0, w0⟩ : ∃ zs, IsRow .i64 W a0 len0 cap0 zs := by
    obtain ⟨fuel, hf⟩ := h0
    rcases open_ints Try.underlying25 Try.underlying3 (by kernel_rfl) hf with ⟨hcs, _⟩ | ⟨x, l, c, zs, hcs, _, hl, hm, hz, _, hcell, hwz⟩
    · simp [Value.cells] at hcs
      obtain ⟨rfl, rfl, rfl⟩ := hcs
      exact ⟨[], .inl ⟨rfl, rfl, rfl, rfl⟩⟩
    · simp [Value.cells] at hcs
      obtain ⟨rfl, rfl, rfl⟩ := hcs
      exact ⟨zs, .inr ⟨_, rfl, hl, hm, by simpa using hz, hcell, hwz⟩⟩
  clear hA0 hval0
  refine (walk a0 len0 cap0 z0 W w0).mono fun e W' ⟨he, bel⟩ => ?_
  subst he
  exact ⟨_, rfl, _, _, _, [], _, [], hW', trodAll_mk1 (shut_bool Try.underlying4 _), (trodAll_cons_mk (Below.trod laidOut (by kernel_rfl) (of_decide_eq_true (by kernel_rfl)) k0 bel lt0) trodAll_mk0), rfl, bel.frame _, fun h => by cases h⟩

theorem over : Rows.chunkFromRow.holds Try.pinned (OpenSpec.ofChange Rows.chunkFromSpec) :=
  OpenClaim.holds_of_wide 5 Try.f5 rfl rfl rfl rfl rfl rfl rfl ⟨rfl, rfl, rfl, rfl, rfl⟩ rfl rfl rfl rfl rfl (by kernel_rfl) Try.func5 (by kernel_rfl)
    (of_decide_eq_true (by kernel_rfl)) (by unfold Func.isWrapper; first | (rw [if_pos (by decide +kernel)]; kernel_rfl) | (rw [if_neg (by decide +kernel)]; exact ⟨rfl, rfl⟩))
    (fun os started H enc _ => lifted os started H enc)

/-- ████ THE STATEMENT ████ -/
theorem proved : Rows.ChunkFromSaid := over
#print axioms proved
end Go.Proofs.Ytmbifgmdilmkgaa.chunkFrom
