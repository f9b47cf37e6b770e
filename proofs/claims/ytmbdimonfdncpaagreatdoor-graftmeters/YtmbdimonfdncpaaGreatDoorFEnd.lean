/-
  Contract of the reference's End: where a hash's way ends in the document's node, and how many branches are on it.
-/
import Derived.Test.YtmbdimonfdncpaaGreatDoorLays
import Derived.Test.YtmbdimonfdncpaaGreatDoorNods
import Derived.Test.YtmbdimonfdncpaaGreatDoorOf
namespace Go.Proofs.YtmbdimonfdncpaaGreatDoor
open Go.RowKit
set_option maxHeartbeats 4000000
set_option maxRecDepth 100000
attribute [local irreducible] Bt.lst
def EndAt (x : Nd) : Prop := ∀ (F : Nat → Prop) (w : World) (r : RN) (lv h : Nat), (∀ b, F b → b < w.heap.size) → Mde F w x r → x.ok → x.right lv = true → lv ≤ 13 → h < 18446744073709551616 →
  Calls Tryz.prog 11 #[RN.agg r x, .int .u64 (h : Int), .int .i64 (lv : Int)] w fun e w' => ∃ r', e = .returned (.tuple #[RN.agg r' (x.endAt h lv), .int .i64 ((x.deep h lv : Nat) : Int)]) ∧ Mde F w' (x.endAt h lv) r' ∧ Below w.heap.size w w'
/-- the parameter's box and the result's variable -/
theorem two_boxes (w : World) (a b c d e : Value) : ∃ w2, w2 = (w.alloc (.cells #[a, b, c, d, e] 44)).alloc (.cells #[.int .i64 0, .int .u64 0, .slice none 0 0, .slice none 0 0, .slice none 0 0] 44) ∧ Below w.heap.size w w2 ∧ w2.heap.size = w.heap.size + 1 + 1 ∧
    w2.heap[w.heap.size]? = some (.cells #[a, b, c, d, e] 44 (0, 0)) ∧ w2.heap[w.heap.size + 1]? = some (.cells #[.int .i64 0, .int .u64 0, .slice none 0 0, .slice none 0 0, .slice none 0 0] 44 (0, 0)) :=
  ⟨_, rfl, ((Below.refl _ _).alloc (Nat.le_refl _) _).alloc (by simp) _, by simp, heap_alloc2_old w _ _, heap_alloc2_new w _ _⟩
theorem end_same {x : Nd} (hk : x.kind ≠ 3) : EndAt x := fun F w r lv h _ hm _ _ _ _ => by
  obtain ⟨e1, e2⟩ := end_flat h lv hk
  rw [e1, e2]
  obtain ⟨pa, pc, sa, sc, ka, kc⟩ := r
  obtain ⟨k0, hk0⟩ : ∃ k, k = x.kind := ⟨_, rfl⟩
  obtain ⟨k1, hk1⟩ : ∃ k, k = x.hash := ⟨_, rfl⟩
  obtain ⟨k2, hk2⟩ : ∃ k, k = x.prs.length := ⟨_, rfl⟩
  obtain ⟨k3, hk3⟩ : ∃ k, k = x.set.length := ⟨_, rfl⟩
  obtain ⟨k4, hk4⟩ : ∃ k, k = x.num := ⟨_, rfl⟩
  have hag : RN.agg (⟨pa, pc, sa, sc, ka, kc⟩ : RN) x = .agg #[.int .i64 (k0 : Int), .int .u64 (k1 : Int), .slice pa k2 pc, .slice sa k3 sc, .slice ka k4 kc] := by rw [hk0, hk1, hk2, hk3, hk4]; rfl
  rw [hag]
  obtain ⟨w2, hw2, b2, z2, rA, rB⟩ := two_boxes w (.int .i64 (k0 : Int)) (.int .u64 (k1 : Int)) (.slice pa k2 pc) (.slice sa k3 sc) (.slice ka k4 kc)
  have hne : ((k0 : Int) != 3) = true := by
    rw [hk0]
    simp
    omega
  have HS := Lib.hid (And.intro (set5_row rB (.int .i64 (k0 : Int)) (.int .u64 (k1 : Int)) (.slice pa k2 pc) (.slice sa k3 sc) (.slice ka k4 kc)) (b2.trans (set5_below (B := w.heap.size) (W := w2) (g := w.heap.size + 1) (by omega) (.int .i64 (k0 : Int)) (.int .u64 (k1 : Int)) (.slice pa k2 pc) (.slice sa k3 sc) (.slice ka k4 kc))))
  have HRA := Lib.hid (row5 rA)
  have HRB := Lib.hid (row5 rB)
  have HW := Lib.hid hw2; clear hw2
  have HM := Lib.hid hm; clear hm
  have HAG := Lib.hid hag; clear hag
  clear rA rB b2 z2 hk0 hk1 hk2 hk3 hk4 e1 e2
  go_enter Tryz.func11, Tryz.ntmps11
  go_upto_region 1 with fail
  rw [← HW.out]
  obtain ⟨⟨c0, c1, c2, c3, c4⟩, _⟩ := HRA.out
  obtain ⟨⟨d0, d1, d2, d3, d4⟩, f0, f1, f2, f3, f4⟩ := HRB.out
  go_wp2_with fail
  refine bodyPost_ret (results_two rfl _ _ (w.heap.size + 1) 44 _ (0, 0) _ _ rfl HS.out.1 rfl Tryz.underlying44 rfl (by kernel_rfl)) rfl ?_
  exact ⟨⟨pa, pc, sa, sc, ka, kc⟩, by rw [HAG.out]; rfl, HM.out.below HS.out.2, HS.out.2⟩
theorem end_bran (m k : Nat) (kid : Nat → Nd) (ih : ∀ i, i < k → EndAt (kid i)) : EndAt (.bran m k kid) := fun F w r lv h hFw hm ho hr hl hh => by
  obtain ⟨pa, pc, sa, sc, ka, kc⟩ := r
  obtain ⟨hints, _, g, hka, hFg, hglt, hkids⟩ := hm
  simp only at hints hka
  subst hka
  rw [Nd.right, Bool.and_eq_true, Bool.and_eq_true] at hr
  have h12 : lv ≤ 12 := of_decide_eq_true hr.1
  have hrk : ∀ i, i < k → (kid i).right (lv + 1) = true := fun i hi => by
    have hk := (allTo_iff _ _).1 hr.2.2 _ hi
    rw [Bool.and_eq_true] at hk
    exact hk.1
  have hlen : (Bt.lst m 32).length = k := ho.2.2.1
  have hokk : ∀ i, i < k → (kid i).ok := fun i hi => (ho.2.2.2 i hi).2
  have hk32 : k ≤ 32 := by rw [← hlen]; exact Bt.list_le m 32
  obtain ⟨C, hC⟩ : ∃ C, C = ch h lv := ⟨_, rfl⟩
  obtain ⟨S, hS⟩ : ∃ S, S = Bt.lst m 32 := ⟨_, rfl⟩
  have hnd : S.Nodup := by rw [hS]; exact lst_nodup m 32
  have hfound : ∀ j (hj : j < S.length), S[j] = (C : Int) → (Nd.bran m k kid).endAt h lv = (kid j).endAt h (lv + 1) ∧ (Nd.bran m k kid).deep h lv = (kid j).deep h (lv + 1) + 1 := fun j hj e => by
    have hm : ((ch h lv : Nat) : Int) ∈ Bt.lst m 32 := by rw [← hC, ← hS, ← e]; exact List.getElem_mem hj
    obtain ⟨i, hi, e1, e2⟩ := Bt.less_mem m _ hm
    have e3 : i = j := nodup_at hnd (by rw [hS]; exact hi) hj (by rw [e, hC]; simp only [hS]; exact e1)
    rw [Nd.endAt, Nd.deep, if_pos hm, if_pos hm, e2, e3]
    exact ⟨rfl, rfl⟩
  have hnot : (∀ j (hj : j < S.length), S[j] ≠ (C : Int)) → (Nd.bran m k kid).endAt h lv = .none ∧ (Nd.bran m k kid).deep h lv = 1 := fun hno => by
    have hm : ¬ ((ch h lv : Nat) : Int) ∈ Bt.lst m 32 := fun hm => by
      rw [← hC, ← hS] at hm
      obtain ⟨j, hj, e⟩ := List.getElem_of_mem hm
      exact hno j hj e
    rw [Nd.endAt, Nd.deep, if_neg hm, if_neg hm]
    exact ⟨rfl, rfl⟩
  have hlen2 : S.length = k := by rw [hS]; exact hlen
  have hag : RN.agg (⟨pa, pc, sa, sc, some ⟨g, 0, none⟩, kc⟩ : RN) (.bran m k kid) = .agg #[.int .i64 3, .int .u64 0, .slice pa 0 pc, .slice sa k sc, .slice (some ⟨g, 0, none⟩) k kc] := by rw [← hlen]; rfl
  rw [hag]
  rw [← hS] at hints
  have JW : Hid (∀ W, Calls Tryz.prog 22 #[.int .u64 (h : Int)] W fun e w' => e = .returned (.agg (wayV h)) ∧ Below W.heap.size W w') := fun W => refWay_any h W hh
  have hwv := wayV_get h lv (by omega)
  obtain ⟨V, hV⟩ : ∃ V, V = wayV h := ⟨_, rfl⟩
  rw [← hV, ← hC] at hwv
  simp only [← hV] at JW
  have hix := fun W => run_index13 V lv (C : Int) (by omega) hwv W
  have hlv13 : (lv : Int) < 13 := by omega
  obtain ⟨w2, hw2, b2, z2, rA, rB⟩ := two_boxes w (.int .i64 3) (.int .u64 0) (.slice pa 0 pc) (.slice sa k sc) (.slice (some ⟨g, 0, none⟩) k kc)
  have HRA : Hid (∀ W, Below w2.heap.size w2 W → W.cell? ⟨w.heap.size, 4, none⟩ = some (.slice (some ⟨g, 0, none⟩) k kc)) := fun W hW => row_cell ((hW.block _ (by omega)).trans rA) rfl
  have HR0 := Lib.hid (row5 rA)
  have HRB : Hid (∀ W, Below w2.heap.size w2 W → W.heap[w.heap.size + 1]? = some (.cells #[.int .i64 0, .int .u64 0, .slice none 0 0, .slice none 0 0, .slice none 0 0] 44 (0, 0))) := fun W hW => (hW.block _ (by omega)).trans rB
  have HB := Lib.hid b2; clear b2
  have HZ := Lib.hid z2; clear z2
  have HI := Lib.hid hints; clear hints
  have HKD := Lib.hid (And.intro hFg (And.intro hglt hkids)); clear hFg hglt hkids
  have HF := Lib.hid (And.intro hfound hnot); clear hfound hnot
  have HIH := Lib.hid (And.intro ih (And.intro hokk hrk)); clear ih hokk hrk
  have HL := Lib.hid hlen2; clear hlen2
  have HW := Lib.hid hw2; clear hw2
  have HH := Lib.hid hh; clear hh
  clear rA rB hr hl hlen hC hS hnd hV hwv hag ho
  go_enter Tryz.func11, Tryz.ntmps11
  go_upto_region 1 with fail
  rw [← HW.out]
  obtain ⟨⟨c0, c1, c2, c3, c4⟩, _⟩ := HR0.out
  go_wp2_with fail
  go_loopw [19] (fun u wr => ∃ j : Nat, u = .int .i64 j ∧ j ≤ k ∧ Hid (Below w2.heap.size w2 wr) ∧ Hid (∀ i (hi : i < S.length), i < j → S[i] ≠ (C : Int))) (fun u _ => k - (intOf u).toNat)
  case atStart => exact ⟨0, rfl, by omega, Below.refl _ _, fun i _ hi => absurd hi (Nat.not_lt_zero _)⟩
  case round =>
    obtain ⟨j, rfl, hj, hbel, hno⟩ := hrel
    have hbw : Below w.heap.size w wr := below_then HB.out hbel.out
    clear c0 c1 c2 c3 c4
    by_cases hlt : j < k
    · have hj' : j < S.length := by rw [HL.out]; exact hlt
      obtain ⟨b, off, rfl, hcell⟩ := (HI.out.below hbw).at_ j hj'
      obtain ⟨z, hz⟩ : ∃ z, z = S[j] := ⟨_, rfl⟩
      rw [← hz] at hcell
      by_cases hzc : z = (C : Int)
      · have hfd := HF.out.1 j hj' (hz.symm.trans hzc)
        have hzb : (z == (C : Int)) = true := by simpa using hzc
        obtain ⟨ri, hri, hmi⟩ := HKD.out.2.2 j hlt
        have HRI : Hid (∀ W, Below wr.heap.size wr W → ri.at (kid j) W g j) := fun W hW => hri.kept ((hW.block g (Nat.lt_of_lt_of_le HKD.out.2.1 hbw.size)).trans (hbw.block g HKD.out.2.1))
        have hend : ∀ W, Below wr.heap.size wr W → Calls Tryz.prog 11 #[RN.agg ri (kid j), .int .u64 (h : Int), .int .i64 ((lv + 1 : Nat) : Int)] W fun e w' => ∃ r', e = .returned (.tuple #[RN.agg r' ((kid j).endAt h (lv + 1)), .int .i64 (((kid j).deep h (lv + 1) : Nat) : Int)]) ∧ Mde F w' ((kid j).endAt h (lv + 1)) r' ∧ Below W.heap.size W w' := fun W hW => HIH.out.1 j hlt F W ri (lv + 1) h (fun b hb => Nat.lt_of_lt_of_le (hFw b hb) (below_then hbw hW).size) (hmi.below (below_then hbw hW)) (HIH.out.2.1 j hlt) (HIH.out.2.2 j hlt) (by omega) HH.out
        have hdp := deep_le (kid j) h (lv + 1) (HIH.out.2.1 j hlt) (HIH.out.2.2 j hlt) (by omega)
        obtain ⟨Y, hY⟩ : ∃ Y, Y = (kid j).endAt h (lv + 1) := ⟨_, rfl⟩
        obtain ⟨dd, hdd⟩ : ∃ d, d = (kid j).deep h (lv + 1) := ⟨_, rfl⟩
        simp only [← hY, ← hdd] at hend hdp hfd
        have HFD := Lib.hid hfd; clear hfd
        clear hY hdd hri hmi
        obtain ⟨X, hX⟩ : ∃ X, X = kid j := ⟨_, rfl⟩
        rw [← hX] at HRI
        simp only [← hX] at hend
        clear hX
        obtain ⟨pa', pc', sa', sc', ka', kc'⟩ := ri
        obtain ⟨k0, hk0⟩ : ∃ k, k = X.kind := ⟨_, rfl⟩
        obtain ⟨k1, hk1⟩ : ∃ k, k = X.hash := ⟨_, rfl⟩
        obtain ⟨k2, hk2⟩ : ∃ k, k = X.prs.length := ⟨_, rfl⟩
        obtain ⟨k3, hk3⟩ : ∃ k, k = X.set.length := ⟨_, rfl⟩
        obtain ⟨k4, hk4⟩ : ∃ k, k = X.num := ⟨_, rfl⟩
        have hag : RN.agg (⟨pa', pc', sa', sc', ka', kc'⟩ : RN) X = .agg #[.int .i64 (k0 : Int), .int .u64 (k1 : Int), .slice pa' k2 pc', .slice sa' k3 sc', .slice ka' k4 kc'] := by rw [hk0, hk1, hk2, hk3, hk4]; rfl
        have HCE : Hid (∀ W, Below wr.heap.size wr W → W.cell? ⟨g, j * 5, none⟩ = some (.int .i64 (k0 : Int)) ∧ W.cell? ⟨g, j * 5 + 1, none⟩ = some (.int .u64 (k1 : Int)) ∧ W.cell? ⟨g, j * 5 + 2, none⟩ = some (.slice pa' k2 pc') ∧ W.cell? ⟨g, j * 5 + 3, none⟩ = some (.slice sa' k3 sc') ∧ W.cell? ⟨g, j * 5 + 4, none⟩ = some (.slice ka' k4 kc')) := fun W hW => by
          rw [hk0, hk1, hk2, hk3, hk4]
          exact HRI.out W hW
        rw [hag, show ((lv + 1 : Nat) : Int) = (lv : Int) + 1 by omega] at hend
        have HEND := Lib.hid hend; clear hend
        have HBW := Lib.hid hbw; clear hbw
        clear hk0 hk1 hk2 hk3 hk4 hag hz hzc hno HRI
        go_wp2_with fail
        refine (JW.out _).mono ?_
        rintro e w3 ⟨rfl, hb3⟩
        have HB3 := Lib.hid hb3
        have HB23 := Lib.hid (below_then hbel.out hb3); clear hb3
        obtain ⟨x0, x1, x2, x3, x4⟩ := HCE.out w3 HB3.out
        have y4 := HRA.out w3 HB23.out
        go_wp2_with fail
        refine (HEND.out w3 HB3.out).mono ?_
        rintro e w4 ⟨⟨pb, qb, sb, tb, lb, mb⟩, rfl, hm4, hb4⟩
        obtain ⟨l0, hl0⟩ : ∃ k, k = Y.kind := ⟨_, rfl⟩
        obtain ⟨l1, hl1⟩ : ∃ k, k = Y.hash := ⟨_, rfl⟩
        obtain ⟨l2, hl2⟩ : ∃ k, k = Y.prs.length := ⟨_, rfl⟩
        obtain ⟨l3, hl3⟩ : ∃ k, k = Y.set.length := ⟨_, rfl⟩
        obtain ⟨l4, hl4⟩ : ∃ k, k = Y.num := ⟨_, rfl⟩
        have hag : RN.agg (⟨pb, qb, sb, tb, lb, mb⟩ : RN) Y = .agg #[.int .i64 (l0 : Int), .int .u64 (l1 : Int), .slice pb l2 qb, .slice sb l3 tb, .slice lb l4 mb] := by rw [hl0, hl1, hl2, hl3, hl4]; rfl
        rw [hag]
        obtain ⟨gx, hgx⟩ : ∃ g, g = w4.heap.size := ⟨_, rfl⟩
        obtain ⟨w5, hw5⟩ : ∃ x, x = w4.alloc (.cells #[.int .i64 (l0 : Int), .int .u64 (l1 : Int), .slice pb l2 qb, .slice sb l3 tb, .slice lb l4 mb] 44) := ⟨_, rfl⟩
        have b45 : Below w4.heap.size w4 w5 := by rw [hw5]; exact (Below.refl _ _).alloc (Nat.le_refl _) _
        have r5 : w5.heap[gx]? = some (.cells #[.int .i64 (l0 : Int), .int .u64 (l1 : Int), .slice pb l2 qb, .slice sb l3 tb, .slice lb l4 mb] 44 (0, 0)) := by rw [hw5, hgx]; exact heap_alloc_new w4 _
        have b25 := below_then (below_then HB23.out hb4) b45
        have rb5 := HRB.out w5 b25
        have hst := set5_below (B := w.heap.size) (W := w5) (g := w.heap.size + 1) (by omega) (.int .i64 (l0 : Int)) (.int .u64 (l1 : Int)) (.slice pb l2 qb) (.slice sb l3 tb) (.slice lb l4 mb)
        have HS := Lib.hid (And.intro (set5_row rb5 (.int .i64 (l0 : Int)) (.int .u64 (l1 : Int)) (.slice pb l2 qb) (.slice sb l3 tb) (.slice lb l4 mb)) ((below_then HB.out b25).trans hst))
        have HM5 := Lib.hid ((hm4.below b45).kept (fun b hb _ => hst.block b (hFw b hb)) hst.size); clear hst
        have HR5 := Lib.hid (row5 r5)
        have HR6 := Lib.hid (row5 rb5)
        have HAG := Lib.hid hag; clear hag
        have HGX := Lib.hid hgx; clear hgx
        have HW5 := Lib.hid hw5; clear hw5
        clear hm4 hb4 b45 r5 b25 rb5 hl0 hl1 hl2 hl3 hl4 x0 x1 x2 x3 x4 y4
        go_upto_region 8 with fail
        simp only [← HGX.out] at HW5 ⊢
        rw [← HW5.out]
        obtain ⟨⟨x0, x1, x2, x3, x4⟩, _⟩ := HR5.out
        obtain ⟨⟨d0, d1, d2, d3, d4⟩, f0, f1, f2, f3, f4⟩ := HR6.out
        go_wp2_with fail
        refine bodyPost_ret (results_two rfl _ _ (w.heap.size + 1) 44 _ (0, 0) _ _ rfl HS.out.1 rfl Tryz.underlying44 rfl (by kernel_rfl)) rfl ?_
        rw [HFD.out.1, HFD.out.2]
        exact ⟨⟨pb, qb, sb, tb, lb, mb⟩, by rw [HAG.out]; simp, HM5.out, HS.out.2⟩
      · have hzb : (z == (C : Int)) = false := by simpa using hzc
        have HN : Hid (∀ i (hi : i < S.length), i < j + 1 → S[i] ≠ (C : Int)) := fun i hi hij => by
          rcases Nat.eq_or_lt_of_le (Nat.lt_succ_iff.1 hij) with rfl | h'
          · rw [← hz]; exact hzc
          · exact hno.out i hi h'
        have HBW := Lib.hid hbw; clear hbw
        clear hz hzc hno
        go_wp2_with fail
        refine (JW.out _).mono ?_
        rintro e w3 ⟨rfl, hb3⟩
        have HB3 := Lib.hid (below_then hbel.out hb3); clear hb3
        go_wp2_with fail
        go_roundw
        case rel => exact ⟨j + 1, by go_num, by omega, HB3.out, HN.out⟩
        case measure => simp [intOf]; omega
    · obtain rfl : j = k := by omega
      have hnt := HF.out.2 fun i hi => hno.out i hi (by have := HL.out; omega)
      have HNT := Lib.hid hnt
      have rb5 := HRB.out wr hbel.out
      have HS := Lib.hid (And.intro (set5_row rb5 (.int .i64 0) (.int .u64 0) (.slice none 0 0) (.slice none 0 0) (.slice none 0 0)) (hbw.trans (set5_below (B := w.heap.size) (W := wr) (g := w.heap.size + 1) (by omega) (.int .i64 0) (.int .u64 0) (.slice none 0 0) (.slice none 0 0) (.slice none 0 0))))
      obtain ⟨⟨d0, d1, d2, d3, d4⟩, f0, f1, f2, f3, f4⟩ := row5 rb5
      clear hnt rb5 hbw hno
      go_wp2_with fail
      refine bodyPost_ret (results_two rfl _ _ (w.heap.size + 1) 44 _ (0, 0) _ _ rfl HS.out.1 rfl Tryz.underlying44 rfl (by kernel_rfl)) rfl ?_
      rw [HNT.out.1, HNT.out.2]
      exact ⟨⟨none, 0, none, 0, none, 0⟩, rfl, trivial, HS.out.2⟩
theorem end_any : ∀ x, EndAt x := Nd.by_kids fun x ih => by
  cases x with
  | bran m k kid => exact end_bran m k kid ih
  | none => exact end_same (by intro e; cases e)
  | leaf _ _ => exact end_same (by intro e; cases e)
  | buck _ _ => exact end_same (by intro e; cases e)
end Go.Proofs.YtmbdimonfdncpaaGreatDoor
