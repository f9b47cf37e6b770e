/-
  BitsAll: for every input the law answers true and leaves its arguments as they were; the row lists math/bits.deBruijn32tab, the card ties it to the program's text (the tie is given). The walk is typed by hand, the row's step and the card's are the guide's template.
  Conditions: none beside the row's own.
-/
import Derived.Test.YtbagfhidkjkmnaaDoorNth
import Derived.Test.YtbagfhidkjkmnaaDoorLaid
import Derived.Test.YtbagfhidkjkmnaaDoorCards
import Derived.Test.YtbagfhidkjkmnaaDoorTie
namespace Go.Proofs.YtbagfhidkjkmnaaDoor.bitsAll
open Go.ChangeShapes Go.WideShapes Go.ChangeAt Go.RowKit Go.Shelf
set_option linter.unusedVariables false
attribute [local irreducible] lst
set_option maxRecDepth 100000
attribute [local go_sem] Oper.semAt_some
theorem run_eql_func (lb : Array Value) (w : World) : Sem.run Tryd.prog (binOp BinOp.eql 32 (Value.func (Fn.func 13) #[] lb) Value.nilFunc) w = .ok (.bool false) w := by kernel_rfl
theorem snoc_prefix {pre L : List Int} {x : Int} (hlt : pre.length < L.length) (hne : ¬ L[pre.length] = x) : ¬ pre ++ [x] <+: L := by
  rintro ⟨t, rfl⟩
  apply hne
  rw [List.getElem_append_left (by simp), List.getElem_append_right (Nat.le_refl _)]
  simp
set_option maxHeartbeats 4000000 in
theorem walk (a0 : Int) (a1 : Int) (w0 : (Lit.int .u32 a0).wf = true) (w1 : (Lit.int .i64 a1).wf = true) (w : World) (hT : Tab w) :
    Calls Tryd.prog 4 #[.int .u32 a0, .int .i64 a1] w fun e w' => e = .returned (.bool true) ∧ Below w.heap.size w w' := by
  obtain ⟨h0, h1⟩ : 0 ≤ a0 ∧ a0 < 4294967296 := by have := w0; simp [Lit.wf, IntKind.min, IntKind.max, IntKind.signed, IntKind.bits] at this; omega
  obtain ⟨m, rfl⟩ := Int.eq_ofNat_of_zero_le h0
  have hm : m < 4294967296 := by omega
  clear w0 h0 h1 w1
  obtain ⟨L, hL⟩ : ∃ L, L = lst m 32 := ⟨_, rfl⟩
  have hl := fun W => list_any m W hm L hL
  have hle : L.length ≤ 32 := by rw [hL]; exact list_le m 32
  have hst : ∀ (Bn n₀ : Nat) (W : World), Bn < W.heap.size → W.cell? ⟨Bn, 0, none⟩ = some (.int .u32 m) → Tab W → 0 < n₀ →
      SeqStopsK Fence.wide 2 Tryd.prog 13 #[.pointer (some ⟨Bn, 0, none⟩)] (fun x : Int => #[Value.int .i64 x]) (Below n₀) (fun ys => ys = L) (fun pre => pre <+: L) L.length W := by
    subst hL
    exact fun Bn n₀ W hBn hc hT hn0 => all_stops 2 Bn n₀ m (by omega) hm W hBn hc hT hn0
  have HAW := Lib.hid awake_any
  have HL := Lib.hid hl; clear hl
  have HST := Lib.hid hst; clear hst
  have h00 := hT.lt
  have HT := Lib.hid hT; clear hT
  clear hL
  refine (callsIn_wide (n := 3)).1 ?_
  refine callsIn_of_wp_marks Tryd.func4 rfl trivial ?_ rfl
  simp only [Tryd.ntmps4, List.size_toArray, List.length_cons, List.length_nil, Nat.reduceAdd, Nat.reduceSub, Array.replicate_succ, Array.replicate_zero, List.push_toArray, List.append_toArray, List.nil_append, List.cons_append]
  gi_wp2_with fail
  refine ⟨trivial, (callsIn_wide.2 (HL.out _)).mono ?_⟩
  rintro e w1 ⟨⟨A, c, rfl, hcc, hI⟩, hb1⟩
  have HI := Lib.hid hI; clear hI
  have HB1 := Lib.hid hb1; clear hb1
  have HCC := Lib.hid hcc; clear hcc
  gi_wp2_with fail
  refine ⟨trivial, (callsIn_wide.2 (all_any m _)).mono ?_⟩
  rintro e w' ⟨rfl, rfl⟩
  have hef := run_eql_func
  gi_wp2_with fail
  clear hef
  have hsw : w.heap.size + 1 + 1 ≤ w1.heap.size := by have := HB1.out.size; simpa using this
  have hBw : Below w.heap.size w w1 := (((Below.refl _ w).alloc (Nat.le_refl _) (.cells #[.int .i64 a1] 3)).alloc (by simp) (.cells #[.bool false] 4)).trans (HB1.out.mono (by simp; omega))
  have hT1 : Tab w1 := HT.out.below hBw h00
  have s3 : Boxed w1 w.heap.size 3 (.int .i64 a1) := (HB1.out.block w.heap.size (by simp; omega)).trans ((Boxed.new w 3 (.int .i64 a1)).alloc (.cells #[.bool false] 4))
  have s4 : Boxed w1 (w.heap.size + 1) 4 (.bool false) := by
    have h := Boxed.new (w.alloc (.cells #[.int .i64 a1] 3)) 4 (.bool false)
    rw [World.size_alloc] at h
    exact (HB1.out.block (w.heap.size + 1) (by simp)).trans h
  have b5 := ((Boxed.new w1 24 (.slice A L.length c)).alloc (.cells #[.int .i64 0] 3)).alloc (.cells #[.int .u32 m] 23)
  have b6 := (Boxed.new (w1.alloc (.cells #[.slice A L.length c] 24)) 3 (.int .i64 0)).alloc (.cells #[.int .u32 m] 23)
  have b7 := Boxed.new ((w1.alloc (.cells #[.slice A L.length c] 24)).alloc (.cells #[.int .i64 0] 3)) 23 (.int .u32 m)
  simp only [World.size_alloc] at b6 b7
  have hB0 : Below w1.heap.size w1 (((w1.alloc (.cells #[.slice A L.length c] 24)).alloc (.cells #[.int .i64 0] 3)).alloc (.cells #[.int .u32 m] 23)) :=
    (((Below.refl _ w1).alloc (Nat.le_refl _) _).alloc (by simp) _).alloc (by simp; omega) _
  have hsz : (((w1.alloc (.cells #[.slice A L.length c] 24)).alloc (.cells #[.int .i64 0] 3)).alloc (.cells #[.int .u32 m] 23)).heap.size = w1.heap.size + 1 + 1 + 1 := by simp
  obtain ⟨W0, hW0⟩ : ∃ W0, (((w1.alloc (.cells #[.slice A L.length c] 24)).alloc (.cells #[.int .i64 0] 3)).alloc (.cells #[.int .u32 m] 23)) = W0 := ⟨_, rfl⟩
  rw [hW0] at b5 b6 b7 hB0 hsz ⊢
  clear hW0 HT HL
  refine wpIn_rangeFunc_ownF rfl (by omega) (gf := 13) (lb := #[.pointer (some ⟨w1.heap.size + 1 + 1, 0, none⟩)]) rfl trivial (enters_of Tryd.func13 (by kernel_rfl) rfl)
    (HST.out _ w1.heap.size W0 b7.lt b7.cell (hT1.below hB0 (by omega)) (by omega)) belowK_t (belowK_b (by omega)) (Below.refl _ _) (fun _ => rfl)
    (fun pre W => (Boxed W w1.heap.size 24 (.slice A L.length c) ∧ Boxed W (w1.heap.size + 1) 3 (.int .i64 (pre.length : Nat))) ∧ Below w1.heap.size w1 W)
    (fun c' pre W => (c' = .ret ∧ ¬ pre <+: L) ∨ (c' = .exit 0 ∧ ((pre.length : Nat) : Int) = a1 ∧ Boxed W w1.heap.size 24 (.slice A L.length c) ∧ Boxed W (w1.heap.size + 1) 3 (.int .i64 (pre.length : Nat)) ∧ Below w1.heap.size w1 W))
    (OwnFrom.and (Own.from (fun s A B row hs hg hr => ⟨box_kept hs.1 hg hr, box_kept hs.2 hg hr⟩) _) (ownFrom_below (Nat.le_refl _) (by omega)))
    (fun c' s A B row hs hg hr => hs.elim .inl (fun h => .inr ⟨h.1, h.2.1, box_kept h.2.2.1 hg (fun r e => (hr r e).2), box_kept h.2.2.2.1 hg (fun r e => (hr r e).2), (ownFrom_below (β := Unit) (B := W0.heap.size) (Nat.le_refl _) (by omega)) () A B row h.2.2.2.2 hg hr⟩))
    ⟨⟨b5, b6⟩, hB0⟩
    (fun x => { tmps := #[.int .u32 m, .int .i64 a1, undef, .pointer (some ⟨w.heap.size, 0, none⟩), .pointer (some ⟨w.heap.size + 1, 0, none⟩), .pointer (some ⟨w1.heap.size, 0, none⟩), .pointer (some ⟨w1.heap.size + 1, 0, none⟩), .func (.func 13) #[] #[.pointer (some ⟨w1.heap.size + 1 + 1, 0, none⟩)], .int .i64 x, .int .u32 m, .slice A L.length c, .int .u32 m, .func (.func 13) #[] #[.pointer (some ⟨w1.heap.size + 1 + 1, 0, none⟩)], .func (.func 13) #[] #[.pointer (some ⟨w1.heap.size + 1 + 1, 0, none⟩)], .bool false, .func (.func 13) #[] #[.pointer (some ⟨w1.heap.size + 1 + 1, 0, none⟩)], .int .i64 x, undef, undef, undef, undef, undef, undef, undef, undef, undef, undef, undef, undef, undef, undef, undef, undef, undef, undef, undef, undef, undef, undef, undef, undef, undef, undef, undef, undef, undef], defers := [] }) ?assign ?body ?done ?stop
  case assign =>
    intro l x W K hK
    gi_wp2
    exact hK
  case body =>
    rintro l pre x W ⟨⟨c5, c6⟩, hB⟩ hlt
    obtain ⟨b, off, rfl, hcell⟩ := (HI.out.below hB).at_ pre.length hlt
    have hno := snoc_prefix (x := x) hlt
    have hlen : (pre ++ [x]).length = pre.length + 1 := by simp
    obtain ⟨y, hy⟩ : ∃ y, y = L[pre.length] := ⟨_, rfl⟩
    rw [← hy] at hcell hno
    clear hy
    obtain ⟨j, hj⟩ : ∃ j, j = pre.length := ⟨_, rfl⟩
    rw [← hj] at hcell hlt hlen c6
    have HNO := Lib.hid hno; clear hno
    have HLEN := Lib.hid hlen; clear hlen
    have hj32 : j < 32 := by omega
    have k3 : Boxed W w.heap.size 3 (.int .i64 a1) := (hB.block w.heap.size (by omega)).trans s3
    have k4 : Boxed W (w.heap.size + 1) 4 (.bool false) := (hB.block (w.heap.size + 1) (by omega)).trans s4
    have d3 := k3.cell
    have d4 := k4.cell
    have f4 := k4.frozen
    have d5 := c5.cell
    have d6 := c6.cell
    have f6 := c6.frozen
    have n1 : ¬ w1.heap.size + 1 = w.heap.size := by omega
    have n2 : ¬ w.heap.size = w1.heap.size + 1 := by omega
    have C5 := Lib.hid c5
    have C6 := Lib.hid c6
    have HB := Lib.hid hB
    clear hj c5 c6 hB k3 k4 s3 s4 b5 b6 b7
    by_cases he : y = x
    · subst he
      have e5 : Hid (Boxed (W.setCell ⟨w1.heap.size + 1, 0, none⟩ (.int .i64 ((j : Int) + 1))) w1.heap.size 24 (.slice (some ⟨b, off, none⟩) L.length c)) := C5.out.other (by omega) _
      have e6 : Hid (Boxed (W.setCell ⟨w1.heap.size + 1, 0, none⟩ (.int .i64 ((j : Int) + 1))) (w1.heap.size + 1) 3 (.int .i64 (((pre ++ [y]).length : Nat) : Int))) := by
        have h := C6.out.set (.int .i64 ((j : Int) + 1))
        have e : (((pre ++ [y]).length : Nat) : Int) = (j : Int) + 1 := by rw [HLEN.out]; simp
        rw [e]
        exact h
      have eB : Hid (Below w1.heap.size w1 (W.setCell ⟨w1.heap.size + 1, 0, none⟩ (.int .i64 ((j : Int) + 1)))) := HB.out.setCell (p := ⟨w1.heap.size + 1, 0, none⟩) (by simp) _
      have hne : (y != y) = false := by simp
      by_cases hk : (j : Int) + 1 = a1
      · have hk2 : Hid ((((pre ++ [y]).length : Nat) : Int) = a1) := by show _ = _; rw [HLEN.out, ← hk]; simp
        have hk3 : (((j : Int) + 1) == a1) = true := by simpa using hk
        clear hk
        gi_wp2
        exact ⟨KeepsOthers.setCell _ _ _, .inr ⟨rfl, hk2.out, e5.out, e6.out, eB.out⟩⟩
      · have hk3 : (((j : Int) + 1) == a1) = false := by simpa using hk
        gi_wp2
        exact ⟨KeepsOthers.setCell _ _ _, (Below.refl _ W).setCell (p := ⟨w1.heap.size + 1, 0, none⟩) (by simp) _, ⟨e5.out, e6.out⟩, eB.out⟩
    · have hne : (y != x) = true := by simpa using he
      have HN2 := Lib.hid (HNO.out he)
      gi_wp2
      exact ⟨KeepsOthers.setCell _ _ _, .inl ⟨rfl, HN2.out⟩⟩
  case done =>
    rintro D ys W hD rfl ⟨⟨c5, c6⟩, hB⟩ hK
    have k3 : Boxed W w.heap.size 3 (.int .i64 a1) := (hB.block w.heap.size (by omega)).trans s3
    have k4 : Boxed W (w.heap.size + 1) 4 (.bool false) := (hB.block (w.heap.size + 1) (by omega)).trans s4
    have d3 := k3.cell
    have d5 := c5.cell
    have d6 := c6.cell
    have HK4 := Lib.hid k4
    have HB := Lib.hid (hBw.trans (hB.mono (by omega)))
    have HKD := Lib.hid hK
    have HDW := Lib.hid (Array.getElem?_eq_some_iff.1 hK).1
    clear k3 k4 s3 s4 b5 b6 b7 c5 c6 hB hK
    by_cases hk : ((ys.length : Nat) : Int) = a1
    · have hk3 : (((ys.length : Nat) : Int) == a1) = true := by simpa using hk
      clear hk
      gi_wp2_with fail
      refine ⟨trivial, (callsIn_wide.2 (HAW.out _)).mono ?_⟩
      rintro e w5 ⟨rfl, hb5⟩
      have r4 : Boxed w5 (w.heap.size + 1) 4 (.bool false) := (hb5.block (w.heap.size + 1) HK4.out.lt).trans HK4.out
      have rK : w5.heap[D]? = some (.deferred (some [])) := (hb5.block D HDW.out).trans HKD.out
      have rB : Below w.heap.size w w5 := below_then HB.out hb5
      have g4 := r4.cell
      have gf := r4.frozen
      have R4 := Lib.hid r4; clear r4
      have RK := Lib.hid rK; clear rK
      have RB := Lib.hid rB; clear rB hb5
      gi_wp2_with fail
      have hK2 := (KeepsOthers.setCell w5 ⟨w.heap.size + 1, 0, none⟩ (.bool true)).same D _ RK.out rfl
      refine ⟨by simp, .inl ⟨_, _, rfl, run_takeDeferred hK2, ?_⟩⟩
      have k2 := (box_put (R4.out.set (.bool true)) hK2 (.deferred none)).cell
      refine ⟨.bool true, ?_, rfl, (RB.out.setCell (p := ⟨w.heap.size + 1, 0, none⟩) (by simp) _).trans (belowK_b (w := w) (Nat.le_refl _) _ D _ _ (by omega) hK2 rfl rfl)⟩
      simp [results, Tryd.f4, go_sem, k2]
    · have hk3 : (((ys.length : Nat) : Int) == a1) = false := by simpa using hk
      gi_wp2_with fail
      refine ⟨trivial, (callsIn_wide.2 (HAW.out _)).mono ?_⟩
      rintro e w5 ⟨rfl, hb5⟩
      have r4 : Boxed w5 (w.heap.size + 1) 4 (.bool false) := (hb5.block (w.heap.size + 1) HK4.out.lt).trans HK4.out
      have rK : w5.heap[D]? = some (.deferred (some [])) := (hb5.block D HDW.out).trans HKD.out
      have rB : Below w.heap.size w w5 := below_then HB.out hb5
      have g4 := r4.cell
      have gf := r4.frozen
      have R4 := Lib.hid r4; clear r4
      have RK := Lib.hid rK; clear rK
      have RB := Lib.hid rB; clear rB hb5
      gi_wp2_with fail
      have hK2 := (KeepsOthers.setCell w5 ⟨w.heap.size + 1, 0, none⟩ (.bool true)).same D _ RK.out rfl
      refine ⟨by simp, .inl ⟨_, _, rfl, run_takeDeferred hK2, ?_⟩⟩
      have k2 := (box_put (R4.out.set (.bool true)) hK2 (.deferred none)).cell
      refine ⟨.bool true, ?_, rfl, (RB.out.setCell (p := ⟨w.heap.size + 1, 0, none⟩) (by simp) _).trans (belowK_b (w := w) (Nat.le_refl _) _ D _ _ (by omega) hK2 rfl rfl)⟩
      simp [results, Tryd.f4, go_sem, k2]
  case stop =>
    rintro D c' pre W hD hpre (⟨rfl, hno⟩ | ⟨rfl, hk, c5, c6, hB⟩) hK
    · exact absurd hpre hno
    · have k3 : Boxed W w.heap.size 3 (.int .i64 a1) := (hB.block w.heap.size (by omega)).trans s3
      have k4 : Boxed W (w.heap.size + 1) 4 (.bool false) := (hB.block (w.heap.size + 1) (by omega)).trans s4
      have d3 := k3.cell
      have d5 := c5.cell
      have d6 := c6.cell
      have HK4 := Lib.hid k4
      have HB := Lib.hid (hBw.trans (hB.mono (by omega)))
      have HKD := Lib.hid hK
      have HDW := Lib.hid (Array.getElem?_eq_some_iff.1 hK).1
      clear k3 k4 s3 s4 b5 b6 b7 c5 c6 hB hK
      have hk3 : (((pre.length : Nat) : Int) == a1) = true := by simpa using hk
      clear hk
      gi_wp2_with fail
      refine ⟨trivial, (callsIn_wide.2 (HAW.out _)).mono ?_⟩
      rintro e w5 ⟨rfl, hb5⟩
      have r4 : Boxed w5 (w.heap.size + 1) 4 (.bool false) := (hb5.block (w.heap.size + 1) HK4.out.lt).trans HK4.out
      have rK : w5.heap[D]? = some (.deferred (some [])) := (hb5.block D HDW.out).trans HKD.out
      have rB : Below w.heap.size w w5 := below_then HB.out hb5
      have g4 := r4.cell
      have gf := r4.frozen
      have R4 := Lib.hid r4; clear r4
      have RK := Lib.hid rK; clear rK
      have RB := Lib.hid rB; clear rB hb5
      gi_wp2_with fail
      have hK2 := (KeepsOthers.setCell w5 ⟨w.heap.size + 1, 0, none⟩ (.bool true)).same D _ RK.out rfl
      refine ⟨by simp, .inl ⟨_, _, rfl, run_takeDeferred hK2, ?_⟩⟩
      have k2 := (box_put (R4.out.set (.bool true)) hK2 (.deferred none)).cell
      refine ⟨.bool true, ?_, rfl, (RB.out.setCell (p := ⟨w.heap.size + 1, 0, none⟩) (by simp) _).trans (belowK_b (w := w) (Nat.le_refl _) _ D _ _ (by omega) hK2 rfl rfl)⟩
      simp [results, Tryd.f4, go_sem, k2]

theorem lifted (os : Os) (started : os.Started) (H : Type) (enc : TypeId × Value → H) :
    ReturnsInHanded {} Tryd.checked os 4 .any (fun w args => (Rows.bitsAllSpec.pre enc Tryd.prog Tryd.f4 [] false w args ∧ laidMetH Tryd.prog laid w) ∧ sizedMet enc Tryd.prog Tryd.f4 (OpenSpec.ofChange Rows.bitsAllSpec) false w args)
      (Rows.bitsAllSpec.post enc Tryd.prog Tryd.f4 false true false false) := by
  refine returnsInHanded_of_change_and (C := Tryd.checked) (X := fun w _ => laidMetH Tryd.prog laid w) (fun _ _ _ hh h => h.of_heap hh) own started (by kernel_rfl) Tryd.func4
    (ChangeSpec.witness_shaped (enc := enc) (C := Tryd.checked) (os := os) (X := fun w _ => laidMetH Tryd.prog laid w) false (World.laidAll Tryd.prog os laid) #[.int .u32 0, .int .i64 0] 8 (World.laidAll_os _ _ _)
      (World.shaped_of_ZipB (by kernel_rfl) (by kernel_rfl)) (by kernel_rfl) (by kernel_rfl) (by kernel_rfl)
      (by rw [MakeChecks.laidMetH_plain _ _ _ (by kernel_rfl)]; exact laidMet_laidAll _ (by kernel_rfl) (by kernel_rfl))) ?_
  intro W base args ds gs before hval0 hW _ _ hL _
  have hval : ∀ (j : Nat) t v, Tryd.f4.params[j]? = some t → args[j]? = some v → Value.okWide Tryd.prog W .any base t v := hval0
  have hW' := hW
  obtain ⟨p, q, hA0, hV, rfl, _, _⟩ := hW
  have hA : DataW.TrodAll enc Tryd.prog W 0 (fun _ => true) true Tryd.f4.params.toList args.toList ds p := hA0
  rw [Tryd.params4] at hA hval
  obtain ⟨v0, vs0, d0, ds0, p0, q0, hargs, rfl, rfl, h0, r0⟩ := trodAll_cons hA
  obtain ⟨v1, vs1, d1, ds1, p1, q1, rfl, rfl, rfl, h1, r1⟩ := trodAll_cons r0
  obtain ⟨rfl, rfl, rfl⟩ := trodAll_nil r1
  obtain rfl : args = #[v0, v1] := by cases args; simp_all
  obtain ⟨rfl, rfl⟩ := trodVars_none hV
  obtain ⟨a0, rfl, rfl, rfl, w0⟩ := open_int Tryd.underlying23 (hval 0 23 v0 rfl rfl) h0
  obtain ⟨a1, rfl, rfl, rfl, w1⟩ := open_int Tryd.underlying3 (hval 1 3 v1 rfl rfl) h1
  simp only [List.append_nil] at hW'
  refine (walk a0 a1 w0 w1 W (tab_of_laid hL)).mono fun e W' ⟨he, hb⟩ => ?_
  subst he
  exact ⟨_, rfl, _, _, _, [], [], [], hW', trodAll_mk1 (shut_bool Tryd.underlying4 _), trodAll_cons_mk (shut_int Tryd.underlying23 w0) (trodAll_cons_mk (shut_int Tryd.underlying3 w1) trodAll_mk0), rfl, hb.frame _, fun h => by cases h⟩

theorem over : Rows.BitsAllSaid :=
  OpenClaim.holds_of_wide 4 Tryd.f4 rfl rfl rfl rfl rfl rfl rfl ⟨rfl, rfl, rfl, rfl, rfl⟩ rfl rfl rfl rfl rfl (by kernel_rfl) Tryd.func4 (by kernel_rfl)
    (of_decide_eq_true (by kernel_rfl)) (by unfold Func.isWrapper; first | (rw [if_pos (by decide +kernel)]; kernel_rfl) | (rw [if_neg (by decide +kernel)]; exact ⟨rfl, rfl⟩))
    (fun os started H enc _ => lifted os started H enc)

/-- ████ THE STATEMENT: THE TIED CARD ████ -/
theorem proved : Rows.BitsAllCardSaid :=
  Claim7.holds_tied_plain_at .later [] [.data] true (true, "1d7f00e9f74c877081602463018f19e926e7bf6fd8fe6d035d1b6ad744b438d7") false over (fun _ h => by cases h) (by kernel_rfl) (fun _ h => by cases h) bitsAll_row_tie rfl ⟨rfl, rfl⟩ (by kernel_rfl) rfl
    (fun f fn hf hfn => by
      obtain rfl : f = 4 := Option.some.inj ((show Tryd.prog.funcNamed "brushwood/brushwoodlaw07.BitsAll" = some 4 by kernel_rfl).symm.trans hf) |>.symm
      obtain rfl : fn = Tryd.f4 := (Option.some.inj (Tryd.func4.symm.trans hfn)).symm
      exact ⟨by kernel_rfl, fun j t ht => by
        rw [Tryd.params4] at ht
        have hm : t ∈ [23, 3] := by simpa using Array.mem_of_getElem? ht
        have hall : ([23, 3].all fun u => !Tryd.prog.wantsStandIn u) = true := by kernel_rfl
        exact (show Tryd.prog.wantsStandIn t = false by simpa using List.all_eq_true.1 hall t hm)⟩)
    (by kernel_rfl)
#print axioms proved
end Go.Proofs.YtbagfhidkjkmnaaDoor.bitsAll
