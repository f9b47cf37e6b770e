/-
  SipGoes: for every input the law answers true and leaves its arguments as they were: the walk is typed by hand, the row's step is the guide's template.
  Conditions: none beside the row's own.
-/
import Derived.Test.YtmkibkeacbhhaaaApp
import Derived.Test.YtmkibkeacbhhaaaAwake
import Derived.Deep.RegionHeld3
import Derived.Test.YtmkibkeacbhhaaaOpen
import Derived.Test.YtmkibkeacbhhaaaRows
import Derived.WalkKit
import Derived.ProofKit
import Derived.OpenShut
import Derived.ShutString
import Derived.ChangeOld
import Derived.Below
namespace Go.Proofs.Ytmkibkeacbhhaaa.sipGoes
open Go.ChangeShapes Go.WideShapes Go.ChangeAt Go.RowKit
set_option linter.unusedVariables false
theorem own : ownKnob Try.prog.godebug = none := by kernel_rfl
theorem laidOut : laidOutB Try.prog = true := by kernel_rfl
theorem range_row {X : World} {g : Nat} {cs : List Value} {t : TypeId} (h : X.heap[g]? = some (.cells cs.toArray t (0, 0))) : X.rangeAt g 0 cs := by
  intro j v hv
  rw [Nat.zero_add, cell_of_row X g j _ t _ h]
  simpa using hv
set_option maxRecDepth 100000 in
set_option maxHeartbeats 4000000 in
theorem walk {sd0 : List UInt8} {A1 : Option Addr} {c1 : Nat} {l1 : List Nat} (w : World) (hs0 : sd0.length = 16) (hc1 : l1.length ≤ c1) (hm1 : c1 ≤ maxLen) (ha1 : Nums w A1 l1) (hn1 : ∀ m ∈ l1, m < 18446744073709551616) :
    Calls Try.prog 6 #[.agg (seedV sd0), .slice A1 l1.length c1] w fun e w' => e = .returned (.bool true) ∧ Below w.heap.size w w' := by
  have hbnd : ∀ j (h : j < l1.length), l1[j] < 18446744073709551616 := fun j h => hn1 _ (List.getElem_mem h)
  obtain ⟨z, hz⟩ : ∃ z, z = St.start sd0 := ⟨_, rfl⟩
  have hbg := fun W => begin_any sd0 W hs0 z hz
  have hzo : z.ok := by rw [hz]; exact St.start_ok hs0
  obtain ⟨cs, hcs⟩ : ∃ cs : List Value, cs = sd0.map (fun b => Value.int .u8 (b.toNat : Int)) := ⟨_, rfl⟩
  have hl16 : cs.length = 16 := by rw [hcs, List.length_map, hs0]
  have hsd : seedV sd0 = cs.toArray := by rw [hcs]; rfl
  rw [hsd]
  simp only [hsd] at hbg
  have hasz : cs.toArray.size = 16 := by simp [hl16]
  have hhash := fun (K : List UInt8) (A : Option Addr) (c : Nat) (W : World) (hb : Bts W A K) (hc : K.length ≤ c) (hl : K.length ≤ 1000000) => hash_any sd0 K A c W hb hc hl hs0
  simp only [hsd] at hhash
  have hhk := hash_keyOf sd0 l1 hn1
  rw [← hz] at hhk
  obtain ⟨za, zb, zc, zd⟩ := z
  simp only at hbg
  have HHK := Lib.hid hhk; clear hhk
  have HH := Lib.hid hhash; clear hhash
  have HBG := Lib.hid hbg; clear hbg
  have HZO := Lib.hid hzo; clear hzo
  have HN := Lib.hid hbnd; clear hbnd
  have HALL := Lib.hid hn1; clear hn1
  have HNU := Lib.hid ha1; clear ha1
  clear hz hsd hcs hs0 hm1 hc1
  by_cases h30 : 30 < l1.length
  · go_enter Try.func6, Try.ntmps6
    go_wp2_with fail
    refine (awake_any _).mono ?_
    rintro e w' ⟨rfl, hbel⟩
    have HBE := Lib.hid hbel; clear hbel
    go_wp2_with fail
    go_ret
    exact ⟨rfl, below_then ((Below.refl _ _).alloc (Nat.le_refl _) _) HBE.out⟩
  · go_enter Try.func6, Try.ntmps6
    go_wp2_with (refine wpList_load_row rfl 23 _ rfl w.heap.size rfl 23 cs.toArray (0, 0) _ (heap_alloc_new w _) Try.underlying23 rfl (by rw [hasz]; kernel_rfl) ?_)
    refine (HBG.out _).mono ?_
    rintro e w1 ⟨rfl, hb1⟩
    have hgw : w.heap.size + 1 ≤ w1.heap.size := Nat.le_trans (by simp) hb1.size
    have hrs : w1.heap[w.heap.size]? = some (.cells cs.toArray 23 (0, 0)) := row_below (heap_alloc_new w _) hb1
    have HRS := Lib.hid hrs; clear hrs
    have HB1 := Lib.hid (below_then ((Below.refl w.heap.size w).alloc (Nat.le_refl _) _) hb1); clear hb1
    go_wp2_with fail
    go_loopw [6, 19] (fun s6 i wr => ∃ (j a b c d : Nat), i = .int .i64 j ∧ j ≤ l1.length ∧ Hid (St.mk a b c d = (St.mk za zb zc zd).takes (l1.take j)) ∧ Hid (Below w.heap.size w wr) ∧
      Hid (wr.heap[w1.heap.size]? = some (.cells #[.int .u64 a, .int .u64 b, .int .u64 c, .int .u64 d] 31 (0, 0))) ∧ Hid (wr.heap[w.heap.size]? = some (.cells cs.toArray 23 (0, 0))) ∧
      Hid (w1.heap.size + 1 ≤ wr.heap.size ∧ wr.ownsRow (w1.heap.size + 1) 5 1 s6 (8 * j) (bcells (keyOf (l1.take j))))) (fun _ i _ => l1.length - (intOf i).toNat)
    case atStart =>
      refine ⟨0, za, zb, zc, zd, rfl, by omega, by show _ = _; rw [List.take_zero, St.takes_nil], (HB1.out.alloc (by omega) _).alloc (by simp; omega) _, heap_alloc2_old w1 _ _, row_below HRS.out (((Below.refl _ _).alloc (Nat.le_refl _) _).alloc (by simp) _), by simp, ?_⟩
      exact ⟨by simp [bcells, keyOf], .inr ⟨w1.heap.size + 1, 0, #[], rfl, Nat.le_refl _, heap_alloc2_new w1 _ _, Nat.le_refl _, Nat.zero_le _, rfl, by simp [bcells, keyOf]⟩⟩
    case round =>
      obtain ⟨j, a, b, c, d, rfl, hj, hx, hb, hrg, hrs, hown⟩ := hrel
      obtain ⟨k0, k1, k2, k3, k4⟩ := cells4 hrg.out
      have hok : St.ok ⟨a, b, c, d⟩ := by rw [hx.out]; exact takes_ok _ HZO.out (fun m hm => HALL.out m (List.mem_of_mem_take hm))
      by_cases hlt : j < l1.length
      · obtain ⟨bb, off, rfl, hcell⟩ := (HNU.out.below hb.out).at_ j hlt
        obtain ⟨m, hm⟩ : ∃ m, m = l1[j] := ⟨_, rfl⟩
        rw [← hm] at hcell
        have hml : m < 18446744073709551616 := by rw [hm]; exact HN.out j hlt
        obtain ⟨z2, hz2⟩ : ∃ z, z = St.take ⟨a, b, c, d⟩ m := ⟨_, rfl⟩
        have htk := take_any a b c d m wr hok hml z2 hz2
        have hz3 : z2 = (St.mk za zb zc zd).takes (l1.take (j + 1)) := by rw [List.take_succ_eq_append_getElem hlt, St.takes_snoc, ← hx.out, hz2, hm]
        obtain ⟨a2, b2, c2, d2⟩ := z2
        simp only at htk
        have HTK := Lib.hid htk; clear htk
        have HZ3 := Lib.hid hz3; clear hz3 hz2 hok
        have HM := Lib.hid hm; clear hm
        go_wp2_with fail
        refine HTK.out.mono ?_
        rintro e w2 ⟨rfl, hb2⟩
        clear k0 k1 k2 k3 k4 hcell
        have HB2 := Lib.hid hb2; clear hb2
        obtain ⟨k0, k1, k2, k3, k4⟩ := cells4 (row_below hrg.out HB2.out)
        go_wp2_with fail
        clear k0 k1 k2 k3 k4
        go_loopw [6, 26] (fun s6 i wq => ∃ (k : Nat), i = .int .i64 k ∧ k ≤ 8 ∧ Hid (Below w.heap.size w wq) ∧
          Hid (wq.heap[w1.heap.size]? = some (.cells #[.int .u64 a2, .int .u64 b2, .int .u64 c2, .int .u64 d2] 31 (0, 0))) ∧ Hid (wq.heap[w.heap.size]? = some (.cells cs.toArray 23 (0, 0))) ∧
          Hid (w1.heap.size + 1 ≤ wq.heap.size ∧ wq.ownsRow (w1.heap.size + 1) 5 1 s6 (8 * j + k) (bcells (keyOf (l1.take j) ++ le m k)))) (fun _ i _ => 8 - (intOf i).toNat)
        case atStart =>
          refine ⟨0, rfl, by omega, below4 (below_then hb.out HB2.out) (by omega) _ _ _ _, store4 _ _ _ _ _ _ _ _ _ _ _ (row_below hrg.out HB2.out), (other4 _ _ _ _ _ _ _ (by omega)).trans (row_below hrs.out HB2.out), ?_, ?_⟩
          · have := HB2.out.size
            have := hown.out.1
            simp; omega
          · have h := own_store4 (own_below hown.out.2 HB2.out) (g := w1.heap.size) (by omega) (.int .u64 a2) (.int .u64 b2) (.int .u64 c2) (.int .u64 d2)
            rw [le, List.append_nil]
            exact h
        case round =>
          obtain ⟨k, rfl, hk, hbq, hrgq, hrsq, hownq⟩ := hrel
          by_cases hk8 : k < 8
          · have hm8 : IntKind.i64.wrap (8 * (k : Int)) = 8 * (k : Int) := IntWalk.i64_in _ (by omega)
            obtain ⟨x, hx8⟩ : ∃ x : UInt8, x = UInt8.ofNat (m / 256 ^ k) := ⟨_, rfl⟩
            have hby := byte_of m k
            rw [← hx8] at hby
            have hxb := x.toNat_lt
            have HX8 := Lib.hid hx8; clear hx8
            go_wp2_with (at_builtin; refine list_app1 (B := w1.heap.size + 1) (w := wr) 24 5 _ 1 Try.underlying24 Try.info5 rfl (by decide) rfl (.tmp 29) (.tmp 35) rfl _ (8 * j + k) _ hownq.out.2 (.int .u8 (x.toNat : Int)) rfl rfl rfl (by omega) hownq.out.1 ?_; intro v1 w3 ho3 hg3)
            go_roundw
            case rel =>
              refine ⟨k + 1, by go_num, by omega, hbq.out.grown hg3 (by have := hownq.out.1; omega) (fun q hq => by have := (hownq.out.2.lt q hq).1; omega), grown_row hownq.out.2 hg3 (by omega) hrgq.out, grown_row hownq.out.2 hg3 (by omega) hrsq.out, Nat.le_trans hownq.out.1 hg3.size, ?_⟩
              rw [le, ← HX8.out, ← List.append_assoc, bcells_snoc]
              exact ho3
            case measure => simp [intOf]; omega
          · obtain rfl : k = 8 := by omega
            go_wp2_with fail
            go_roundw
            case rel =>
              refine ⟨j + 1, a2, b2, c2, d2, by go_num, by omega, HZ3.out, hbq.out, hrgq.out, hrsq.out, hownq.out.1, ?_⟩
              have h := hownq.out.2
              rw [← keyOf_snoc, HM.out, ← List.take_succ_eq_append_getElem hlt] at h
              exact h
            case measure => simp [intOf]; omega
      · obtain rfl : j = l1.length := by omega
        have ho := hown.out.2
        rw [List.take_length] at ho
        have hxx := hx.out
        rw [List.take_length] at hxx
        obtain ⟨A, cc, hv, hcap, hbts⟩ := bts_own ho (keyOf_length l1).symm
        obtain ⟨n8, hn8⟩ : ∃ n, n = (keyOf l1).length := ⟨_, rfl⟩
        have hn8b : n8 = 8 * l1.length := by rw [hn8, keyOf_length]
        obtain ⟨kk, hkk⟩ : ∃ k, k = n8 % 256 := ⟨_, rfl⟩
        have hkl : kk < 256 := by omega
        have hq1 : (n8 : Int).tmod 256 = (kk : Int) := by rw [Int.tmod_eq_emod_of_nonneg (by omega)]; omega
        obtain ⟨m2, hm2⟩ : ∃ m, m = kk * 72057594037927936 := ⟨_, rfl⟩
        have he2 : (kk : Int) * 72057594037927936 = (m2 : Int) := by rw [hm2]; simp
        have hm2l : m2 < 18446744073709551616 := by omega
        have hw2 : IntKind.u64.wrap (IntKind.u64.wrap (kk : Int) * 72057594037927936) = (m2 : Int) := by rw [IntKind.wrap_u64, IntKind.wrap_u64]; omega
        have HW2 := Lib.hid hw2; clear hw2
        obtain ⟨z2, hz2⟩ : ∃ z, z = St.take ⟨a, b, c, d⟩ m2 := ⟨_, rfl⟩
        have htk := fun W => take_any a b c d m2 W hok hm2l z2 hz2
        have hz2o : z2.ok := by rw [hz2]; exact St.take_ok hok hm2l
        obtain ⟨ye, hye⟩ : ∃ y, y = St.fin z2 := ⟨_, rfl⟩
        have hyh : hashN sd0 (keyOf l1) = ye := by rw [HHK.out, hye, hz2, hxx, hm2, hkk, hn8b]
        have hh1 := fun (X : World) (hX : Below wr.heap.size wr X) => HH.out (keyOf l1) A cc X (hbts.below hX) hcap (by rw [← hn8, hn8b]; omega)
        rw [hyh, ← hn8] at hh1
        rw [← hn8] at hv
        obtain ⟨a2, b2, c2, d2⟩ := z2
        have hen := fun W => end_any a2 b2 c2 d2 W hz2o ye hye
        simp only at htk
        have keep : ∀ X, Below wr.heap.size wr X → X.rangeAt w.heap.size 0 cs ∧ (X.cell? ⟨w1.heap.size, 0, none⟩ = some (.int .u64 a) ∧ X.cell? ⟨w1.heap.size, 1, none⟩ = some (.int .u64 b) ∧ X.cell? ⟨w1.heap.size, 2, none⟩ = some (.int .u64 c) ∧ X.cell? ⟨w1.heap.size, 3, none⟩ = some (.int .u64 d)) := by
          intro X hX
          obtain ⟨k0, k1, k2, k3, _⟩ := cells4 (row_below hrg.out hX)
          exact ⟨range_row (row_below hrs.out hX), k0, k1, k2, k3⟩
        have KEEP := Lib.hid keep; clear keep
        have HH1 := Lib.hid hh1; clear hh1
        have htkz : ∀ (zz : Int) (W : World), zz = (m2 : Int) → Calls Try.prog 15 #[.agg #[.int .u64 a, .int .u64 b, .int .u64 c, .int .u64 d], .int .u64 zz] W fun e w' => e = .returned (.agg #[.int .u64 a2, .int .u64 b2, .int .u64 c2, .int .u64 d2]) ∧ Below W.heap.size W w' := by
          intro zz W e
          rw [e]
          exact htk W
        have HTKZ := Lib.hid htkz; clear htkz htk
        have HEN := Lib.hid hen; clear hen
        clear hyh hye hz2 hz2o hm2 hkk hn8b hn8 hcap hbts ho hxx hok k0 k1 k2 k3 k4
        have hi23 : (Try.prog.info? 23).map (·.size) = some cs.length := by rw [hl16]; kernel_rfl
        have hu23 := Try.underlying23
        have hz0 : Below wr.heap.size wr wr.drew := (Below.refl _ _).drew
        subst hv
        go_wp2_with fail
        go_region_held3 (fun X => X.rangeAt w.heap.size 0 cs ∧ (X.cell? ⟨w1.heap.size, 0, none⟩ = some (.int .u64 a) ∧ X.cell? ⟨w1.heap.size, 1, none⟩ = some (.int .u64 b) ∧ X.cell? ⟨w1.heap.size, 2, none⟩ = some (.int .u64 c) ∧ X.cell? ⟨w1.heap.size, 3, none⟩ = some (.int .u64 d))) (first | exact KEEP.out _ hz0 | exact KEEP.out _ hzA | exact KEEP.out _ hzB | exact KEEP.out _ hzC | exact KEEP.out _ hzD) (first
          | (go_at_call 9; refine (HH1.out _ hz0).mono ?_; rintro e wA ⟨rfl, hA⟩; have hzA := hz0.trans (hA.mono hz0.size))
          | (go_at_call 15; refine (HTKZ.out _ _ HW2.out).mono ?_; rintro e wB ⟨rfl, hB⟩; have hzB := hzA.trans (hB.mono hzA.size))
          | (go_at_call 17; refine (HEN.out _).mono ?_; rintro e wC ⟨rfl, hC⟩; have hzC := hzB.trans (hC.mono hzB.size))
          | (go_at_call 8; refine (awake_any _).mono ?_; rintro e wD ⟨rfl, hD⟩; have hzD := hzC.trans (hD.mono hzC.size)))
        all_goals
          go_wp2_with fail
          go_ret
          exact ⟨rfl, below_then hb.out hzD⟩
/-! ### THE ROW's STEP -/
set_option maxRecDepth 100000 in
theorem lifted (os : Os) (started : os.Started) (H : Type) (enc : TypeId × Value → H) :
    ReturnsInHanded {} Try.checked os 6 .any (Rows.sipGoesSpec.pre6 enc Try.prog Try.f6 Rows.sipGoesRow.domain false) (Rows.sipGoesSpec.post enc Try.prog Try.f6 false true false false) := by
  refine returnsInHanded_of_change (C := Try.checked) own started (by kernel_rfl) Try.func6
    (ChangeSpec.witness6 (enc := enc) (C := Try.checked) false ⟨#[], #[.agg #[.int .u8 0, .int .u8 0, .int .u8 0, .int .u8 0, .int .u8 0, .int .u8 0, .int .u8 0, .int .u8 0, .int .u8 0, .int .u8 0, .int .u8 0, .int .u8 0, .int .u8 0, .int .u8 0, .int .u8 0, .int .u8 0], .slice none 0 0], []⟩ 8 (by kernel_rfl) (by kernel_rfl) (by kernel_rfl) (by kernel_rfl)) ?_
  intro W base args ds gs before hval0 hW hcnd _
  have hval : ∀ (j : Nat) t v, Try.f6.params[j]? = some t → args[j]? = some v → Value.okWide Try.prog W .any base t v := hval0
  have hW' := hW
  obtain ⟨p, q, hA0, hV, rfl, hfz, hnd⟩ := hW
  have hA : DataW.TrodAll enc Try.prog W 0 (fun _ => true) true Try.f6.params.toList args.toList ds p := hA0
  rw [Try.params6] at hA hval
  obtain ⟨v0, vs0, d0, ds0, p0, q0, hargs, rfl, rfl, h0, r0⟩ := trodAll_cons hA
  obtain ⟨v1, vs1, d1, ds1, p1, q1, rfl, rfl, rfl, h1, r1⟩ := trodAll_cons r0
  obtain ⟨rfl, rfl, rfl⟩ := trodAll_nil r1
  obtain rfl : args = #[v0, v1] := by cases args; simp_all
  obtain ⟨rfl, rfl⟩ := trodVars_none hV
  have lt0 : ∀ x ∈ p0, x.block < W.heap.size := by obtain ⟨m, hm⟩ := h0; exact DataW.trod_lt m _ _ _ hm
  have ok0 := hval 0 23 v0 rfl rfl
  have lt1 : ∀ x ∈ p1, x.block < W.heap.size := by obtain ⟨m, hm⟩ := h1; exact DataW.trod_lt m _ _ _ hm
  have ok1 := hval 1 42 v1 rfl rfl
  clear hA0 hval0 hval
  obtain ⟨sd0, rfl, hs0⟩ := seed_open ok0 h0
  obtain ⟨A1, c1, l1, rfl, hc1, hm1, ha1, hn1⟩ := nums_open ok1 h1
  refine (walk W hs0 hc1 hm1 ha1 hn1).mono fun e W' ⟨he, bel⟩ => ?_
  subst he
  exact ⟨_, rfl, _, _, _, [], _, [], hW', trodAll_mk1 (shut_bool Try.underlying4 _), (trodAll_cons_mk (Below.trod laidOut (by kernel_rfl) (of_decide_eq_true (by kernel_rfl)) h0 bel lt0) (trodAll_cons_mk (Below.trod laidOut (by kernel_rfl) (of_decide_eq_true (by kernel_rfl)) h1 bel lt1) trodAll_mk0)), rfl, bel.frame _, fun h => by cases h⟩

theorem over : Rows.sipGoesRow.holds Try.pinned (OpenSpec.ofChange Rows.sipGoesSpec) :=
  OpenClaim.holds_of_wide 6 Try.f6 rfl rfl rfl rfl rfl rfl rfl ⟨rfl, rfl, rfl, rfl, rfl⟩ rfl rfl rfl rfl rfl (by kernel_rfl) Try.func6 (by kernel_rfl)
    (of_decide_eq_true (by kernel_rfl)) (by unfold Func.isWrapper; first | (rw [if_pos (by decide +kernel)]; kernel_rfl) | (rw [if_neg (by decide +kernel)]; exact ⟨rfl, rfl⟩))
    (fun os started H enc _ => lifted os started H enc)

/-- ████ THE STATEMENT ████ -/
theorem proved : Rows.SipGoesSaid := over
#print axioms proved
end Go.Proofs.Ytmkibkeacbhhaaa.sipGoes
