/-
  Contract of the reference's Right.
-/
import Derived.Test.YtfhnmmiakknilaaDoorHashes
import Derived.Deep.RegionHeld3
namespace Go.Proofs.YtfhnmmiakknilaaDoor
open Go.RowKit
set_option maxHeartbeats 4000000
set_option maxRecDepth 100000
attribute [local go_sem] Oper.semAt_some
/-- is it right as the child at a place of a branch of a level? -/
def Nd.fits (x : Nd) (lv i : Nat) : Bool := (x.kid i).right (lv + 1) && (x.kid i).hashes.all fun h => decide ((ch h lv : Int) = x.set.getD i 0)
theorem right_eq (x : Nd) (lv : Nat) : x.kind = 3 → x.right lv = (decide (lv ≤ 12) && (decide (x.num ≠ 1 ∨ (x.kid 0).kind = 3) && allTo (x.fits lv) x.num)) := by
  cases x <;> simp [Nd.kind]
  rfl
theorem right_one (x : Nd) (lv : Nat) : x.kind ≠ 3 → x.right lv = true := by
  cases x <;> simp [Nd.kind, Nd.right]
theorem kids_pos {x : Nd} (ho : x.ok) : x.kind = 3 → 0 < x.num ∧ x.set.length = x.num := by
  cases x <;> simp [Nd.kind]
  exact ⟨ho.2.1, ho.2.2.1⟩
theorem run_index13 (V : Array Value) (j : Nat) (c : Int) (hj : j < 13) (h : V[j]? = some (.int .i64 c)) (w : World) :
    (Instr.index 62 (.agg V) (.int .i64 (j : Int))).run Tryd.prog w = .ok (.int .i64 c) w := by
  have u62 := Tryd.underlying62
  have a3 := Tryd.isAgg3
  have hz : Tryd.t3.size = 1 := by kernel_rfl
  have h0 : (0 : Int) ≤ (j : Int) ∧ (j : Int) < 13 := by omega
  simp [Instr.index, run_underlying u62, Go.sizeOf, asIntOf, part, a3, hz, go_sem, h0, h]
  intro h9
  omega
theorem all_take {l : List Nat} {p : Nat → Bool} {i : Nat} (h : i < l.length) (hp : p l[i] = true) (ha : (l.take i).all p = true) : (l.take (i + 1)).all p = true := by
  rw [List.take_succ_eq_append_getElem h, List.all_append, ha]
  simp [hp]
theorem all_fails {l : List Nat} {p : Nat → Bool} {i : Nat} (h : i < l.length) (hp : p l[i] = false) : l.all p = false := by
  cases e : l.all p
  · rfl
  · have := (List.all_eq_true.1 e) l[i] (List.getElem_mem h)
    rw [hp] at this
    cases this
theorem refRight_any (x : Nd) : ∀ (F : Nat → Prop) (w : World) (r : RN) (lv : Nat), Mde F w x r → x.ok → x ≠ .none → x.cnt ≤ 1000000000000 → lv ≤ 13 →
    Calls Tryd.prog 7 #[RN.agg r x, .int .i64 (lv : Int)] w fun e w' => e = .returned (.bool (x.right lv)) ∧ Below w.heap.size w w' := by
  induction x using Nd.by_kids with
  | h x ih =>
    intro F w r lv hm ho hx0 hc hlv
    have hnum := kids_le ho
    have hkp := kids_pos ho
    have heq := right_eq x lv
    have hon := right_one x lv
    have hset := hm.set
    unfold RN.agg
    obtain ⟨pa, pc, sa, sc, ka, kc⟩ := r
    obtain ⟨kd, hkd⟩ : ∃ k, k = x.kind := ⟨_, rfl⟩
    obtain ⟨hs, hhs⟩ : ∃ k, k = x.hash := ⟨_, rfl⟩
    obtain ⟨np, hnp⟩ : ∃ k, k = x.prs.length := ⟨_, rfl⟩
    obtain ⟨ns, hns⟩ : ∃ k, k = x.set.length := ⟨_, rfl⟩
    obtain ⟨nk, hnk⟩ : ∃ k, k = x.num := ⟨_, rfl⟩
    rw [← hkd, ← hhs, ← hnp, ← hns, ← hnk]
    rw [← hkd, ← hnk] at heq
    rw [← hkd] at hon
    rw [← hkd, ← hnk, ← hns] at hkp
    rw [← hnk] at hnum
    obtain ⟨w1, hw1⟩ : ∃ w1, w1 = w.alloc (.cells #[.int .i64 (kd : Int), .int .u64 (hs : Int), .slice pa np pc, .slice sa ns sc, .slice ka nk kc] 32) := ⟨_, rfl⟩
    have hb1 : Below w.heap.size w w1 := by rw [hw1]; exact (Below.refl _ _).alloc (Nat.le_refl _) _
    have r1 : w1.heap[w.heap.size]? = some (.cells #[.int .i64 (kd : Int), .int .u64 (hs : Int), .slice pa np pc, .slice sa ns sc, .slice ka nk kc] 32 (0, 0)) := by rw [hw1]; exact heap_alloc_new w _
    obtain ⟨⟨c0, c1, _, c3, c4⟩, _⟩ := row5 r1
    have KR : Hid (∀ W, Below w1.heap.size w1 W → W.cell? ⟨w.heap.size, 3, none⟩ = some (.slice sa ns sc)) := fun W hW => (row5 ((hW.block _ (Array.getElem?_eq_some_iff.1 r1).1).trans r1)).1.2.2.2.1
    have HW := Lib.hid hw1; clear hw1
    have HB := Lib.hid hb1; clear hb1
    have HM := Lib.hid hm; clear hm
    have HIH := Lib.hid ih; clear ih
    have HO := Lib.hid ho; clear ho
    have HK := Lib.hid hnk; clear hnk
    have HS := Lib.hid hns; clear hns
    have HCC := Lib.hid hc; clear hc
    have HEQ := Lib.hid heq; clear heq
    have HON := Lib.hid hon; clear hon
    have HKP := Lib.hid hkp; clear hkp
    have HI := Lib.hid hset; clear hset
    clear hkd hhs hnp r1
    by_cases h3 : kd = 3
    · have hne : ((kd : Int) != 3) = false := by rw [h3]; rfl
      have HE := Lib.hid (HEQ.out h3)
      obtain ⟨hk0, hsl⟩ := HKP.out h3
      have HSL := Lib.hid hsl; clear hsl
      clear h3
      by_cases hl12 : lv ≤ 12
      · have g1 : ¬ (12 : Int) < (lv : Int) := by omega
        have g2 : ((nk : Int) == 0) = false := by
          have : ¬ (nk : Int) = 0 := by omega
          simpa using this
        obtain ⟨g0, hka, hg0, ⟨pa0, pc0, sa0, sc0, ka0, kc0⟩, ⟨z0, _, _, _, _⟩, _⟩ := (HM.out.below HB.out).child (i := 0) (by have := HK.out; omega)
        subst hka
        have z0 : w1.cell? ⟨g0, 0, none⟩ = some (.int .i64 ((x.kid 0).kind : Int)) := by simpa using z0
        obtain ⟨ke, hke⟩ : ∃ k, k = (x.kid 0).kind := ⟨_, rfl⟩
        rw [← hke] at z0
        have z1 := z0
        rw [HW.out] at z1
        have hnd : Hid (x.right lv = (decide (nk ≠ 1 ∨ ke = 3) && allTo (x.fits lv) nk)) := by
          show _ = _
          rw [HE.out, decide_eq_true hl12, Bool.true_and, hke]
        clear hke
        have hcase : (nk = 1 ∧ ke ≠ 3) ∨ (nk = 1 ∧ ke = 3) ∨ nk ≠ 1 := by omega
        rcases hcase with ⟨k1, k2⟩ | hcase
        · have g3 : ((nk : Int) == 1) = true := by rw [k1]; rfl
          have g4 : ((ke : Int) != 3) = true := by
            have : ¬ (ke : Int) = 3 := by omega
            simpa using this
          have HX : Hid (x.right lv = false) := by
            show _ = _
            rw [hnd.out, decide_eq_false (by omega), Bool.false_and]
          clear k1 k2
          go_enter Tryd.func7, Tryd.ntmps7
          go_wp2_with fail
          rw [← HW.out]
          go_ret
          rw [HX.out]
          exact ⟨rfl, HB.out⟩
        · have HX : Hid (x.right lv = allTo (x.fits lv) nk) := by
            show _ = _
            rw [hnd.out, decide_eq_true (by omega), Bool.true_and]
          have hg : (((nk : Int) == 1) = true ∧ ((ke : Int) != 3) = false) ∨ ((nk : Int) == 1) = false := by
            rcases hcase with ⟨k1, k2⟩ | k1
            · exact .inl ⟨by rw [k1]; rfl, by rw [k2]; rfl⟩
            · refine .inr ?_
              have : ¬ (nk : Int) = 1 := by omega
              simpa using this
          clear hcase
          have hadd : IntKind.i64.wrap ((lv : Int) + 1) = (lv : Int) + 1 := by rw [IntKind.wrap_i64]; omega
          rcases hg with ⟨g3, g4⟩ | g3
          all_goals
            go_enter Tryd.func7, Tryd.ntmps7
            go_wp2_with fail
            rw [← HW.out]
            go_loopw [37] (fun i wr => ∃ j : Nat, i = .int .i64 (j : Int) ∧ j ≤ nk ∧ Hid (allTo (x.fits lv) j = true) ∧ Hid (Below w1.heap.size w1 wr)) (fun i _ => nk - (intOf i).toNat)
            case atStart => exact ⟨0, rfl, by omega, rfl, Below.refl _ _⟩
            case round =>
              obtain ⟨j, rfl, hj, hall, hbel⟩ := hrel
              by_cases hlt : j < nk
              · obtain ⟨g, hka, hg, ⟨pa5, pc5, sa5, sc5, ka5, kc5⟩, ⟨q0, q1, q2, q3, q4⟩, hm5⟩ := ((HM.out.below HB.out).below hbel.out).child (i := j) (by have := HK.out; omega)
                obtain rfl : g0 = g := by injection hka with hka; injection hka
                have hk5 := Nd.ok_kid HO.out (i := j) (by have := HK.out; omega)
                have hc5 : (x.kid j).cnt ≤ 1000000000000 := Nat.le_trans (Nd.cnt_kid x (by have := HK.out; omega)) HCC.out
                have hlt5 := hashes_lt (x.kid j) hk5.2
                have hbw : ∀ o, Below wr.heap.size wr (wr.alloc o) := fun o => (Below.refl _ _).alloc (Nat.le_refl _) o
                have J := fun o => HIH.out j (by have := HK.out; omega) F (wr.alloc o) ⟨pa5, pc5, sa5, sc5, ka5, kc5⟩ (lv + 1) (hm5.below (hbw o)) hk5.2 hk5.1 hc5 (by omega)
                have J2 := fun W (hW : Below wr.heap.size wr W) => hashes_any (x.kid j) F W ⟨pa5, pc5, sa5, sc5, ka5, kc5⟩ (hm5.below hW) hk5.2 hk5.1 hc5
                simp only [RN.agg] at J J2
                have hsl : j < x.set.length := by have := HSL.out; have := HS.out; omega
                obtain ⟨sb, so, hsa, hsc⟩ := HI.out.at_ j hsl
                have hft : x.fits lv j = ((x.kid j).right (lv + 1) && (x.kid j).hashes.all fun h => decide ((ch h lv : Int) = x.set[j])) := by
                  unfold Nd.fits
                  rw [List.getD_eq_getElem?_getD, List.getElem?_eq_getElem hsl]; rfl
                obtain ⟨sj, hsj⟩ : ∃ z, z = x.set[j] := ⟨_, rfl⟩
                rw [← hsj] at hsc hft
                obtain ⟨hl, hhl⟩ : ∃ k, k = (x.kid j).hashes := ⟨_, rfl⟩
                rw [← hhl] at hft hlt5
                obtain ⟨ln, hln⟩ : ∃ k, k = hl.length := ⟨_, rfl⟩
                have hlb : ln ≤ 1000000000000 := by
                  have h1 := (hashes_le (x.kid j) hk5.2 hk5.1).2
                  rw [← hhl] at h1
                  omega
                obtain ⟨rb, hrb⟩ : ∃ k, k = (x.kid j).right (lv + 1) := ⟨_, rfl⟩
                rw [← hrb] at hft
                obtain ⟨k0, hk0⟩ : ∃ k, k = (x.kid j).kind := ⟨_, rfl⟩
                obtain ⟨k1, hk1⟩ : ∃ k, k = (x.kid j).hash := ⟨_, rfl⟩
                obtain ⟨k2, hk2⟩ : ∃ k, k = (x.kid j).prs.length := ⟨_, rfl⟩
                obtain ⟨k3, hk3⟩ : ∃ k, k = (x.kid j).set.length := ⟨_, rfl⟩
                obtain ⟨k4, hk4⟩ : ∃ k, k = (x.kid j).num := ⟨_, rfl⟩
                simp only [← hrb, ← hk0, ← hk1, ← hk2, ← hk3, ← hk4] at J
                simp only [← hhl, ← hk0, ← hk1, ← hk2, ← hk3, ← hk4, ← hln] at J2
                rw [← hk0] at q0
                rw [← hk1] at q1
                rw [← hk2] at q2
                rw [← hk3] at q3
                rw [← hk4] at q4
                obtain ⟨w2, hw2⟩ : ∃ w2, w2 = wr.alloc (.cells #[.int .i64 (k0 : Int), .int .u64 (k1 : Int), .slice pa5 k2 pc5, .slice sa5 k3 sc5, .slice ka5 k4 kc5] 32) := ⟨_, rfl⟩
                have r2 : w2.heap[wr.heap.size]? = some (.cells #[.int .i64 (k0 : Int), .int .u64 (k1 : Int), .slice pa5 k2 pc5, .slice sa5 k3 sc5, .slice ka5 k4 kc5] 32 (0, 0)) := by rw [hw2]; exact heap_alloc_new wr _
                have K5 : Hid (∀ W, Below w2.heap.size w2 W → W.cell? ⟨wr.heap.size, 0, none⟩ = some (.int .i64 (k0 : Int)) ∧ W.cell? ⟨wr.heap.size, 1, none⟩ = some (.int .u64 (k1 : Int)) ∧ W.cell? ⟨wr.heap.size, 2, none⟩ = some (.slice pa5 k2 pc5) ∧ W.cell? ⟨wr.heap.size, 3, none⟩ = some (.slice sa5 k3 sc5) ∧ W.cell? ⟨wr.heap.size, 4, none⟩ = some (.slice ka5 k4 kc5)) := fun W hW => (row5 ((hW.block _ (Array.getElem?_eq_some_iff.1 r2).1).trans r2)).1
                have J3 : Hid (Calls Tryd.prog 7 #[.agg #[.int .i64 (k0 : Int), .int .u64 (k1 : Int), .slice pa5 k2 pc5, .slice sa5 k3 sc5, .slice ka5 k4 kc5], .int .i64 ((lv : Int) + 1)] w2 fun e w' => e = .returned (.bool rb) ∧ Below w2.heap.size w2 w') := by
                  have := J (.cells #[.int .i64 (k0 : Int), .int .u64 (k1 : Int), .slice pa5 k2 pc5, .slice sa5 k3 sc5, .slice ka5 k4 kc5] 32)
                  rw [← hw2] at this
                  exact this
                have hb2 : Below wr.heap.size wr w2 := by rw [hw2]; exact hbw _
                have HJ2 := Lib.hid J2; clear J2 J
                have HW2 := Lib.hid hw2; clear hw2
                have HB2 := Lib.hid hb2; clear hb2
                have HFT := Lib.hid hft; clear hft
                have HLT := Lib.hid hlt5; clear hlt5
                have HLN := Lib.hid hln; clear hln
                have HSC : Hid (∀ W, Below w1.heap.size w1 W → W.cell? ⟨sb, so + j, none⟩ = some (.int .i64 sj)) := fun W hW => by
                  have h0 : sb < w.heap.size := by
                    rcases Nat.lt_or_ge sb w.heap.size with h | h
                    · exact h
                    · rw [World.cell?, Array.getElem?_eq_none h] at hsc; cases hsc
                  exact (hW.cell (p := ⟨sb, so + j, none⟩) (Nat.lt_of_lt_of_le h0 HB.out.size)).trans ((HB.out.cell (p := ⟨sb, so + j, none⟩) h0).trans hsc)
                subst hsa
                clear hm5 hk5 hc5 hsl hsj hhl hrb hk0 hk1 hk2 hk3 hk4 hbw r2 hka hsc
                go_wp2_with fail
                rw [← HW2.out]
                cases rb with
                | false =>
                  have HXF : Hid (x.right lv = false) := by
                    show _ = _
                    rw [HX.out]
                    exact allTo_false hlt (by rw [HFT.out]; rfl)
                  refine J3.out.mono ?_
                  rintro e w3 ⟨rfl, hb3⟩
                  have HB3 := Lib.hid (below_then HB.out (below_then hbel.out (below_then HB2.out hb3))); clear hb3
                  go_wp2_with fail
                  go_ret
                  rw [HXF.out]
                  exact ⟨rfl, HB3.out⟩
                | true =>
                  refine J3.out.mono ?_
                  rintro e w3 ⟨rfl, hb3⟩
                  obtain ⟨d0, d1, d2, d3, d4⟩ := K5.out w3 hb3
                  have J4 := Lib.hid (HJ2.out w3 (below_then HB2.out hb3))
                  have HB3 := Lib.hid (below_then hbel.out (below_then HB2.out hb3)); clear hb3
                  clear q0 q1 q2 q3 q4
                  go_wp2_with fail
                  refine J4.out.mono ?_
                  rintro e w4 ⟨⟨A, c, rfl, g2, rfl, hg2, hcell⟩, hb4⟩
                  have HB4 := Lib.hid (below_then HB3.out hb4); clear hb4
                  have HC := Lib.hid hcell
                  clear hcell d0 d1 d2 d3 d4 K5 J3 J4
                  go_wp2_with fail
                  go_loopw [8, 50] (fun _ i wq => ∃ q : Nat, i = .int .i64 (q : Int) ∧ q ≤ ln ∧ Hid ((hl.take q).all (fun h => decide ((ch h lv : Int) = sj)) = true) ∧ Hid (Below w4.heap.size w4 wq)) (fun _ i _ => ln - (intOf i).toNat)
                  case atStart => exact ⟨0, rfl, by omega, rfl, Below.refl _ _⟩
                  case round =>
                    obtain ⟨q, rfl, hq, hal2, hbq⟩ := hrel
                    by_cases hlq : q < ln
                    · have hql : q < hl.length := by have := HLN.out; omega
                      have hcq := (hbq.out.cell (p := ⟨g2, q, none⟩) hg2).trans (HC.out q hql)
                      have hhq := HLT.out _ (List.getElem_mem hql)
                      obtain ⟨hh, hhh⟩ : ∃ z, z = hl[q] := ⟨_, rfl⟩
                      rw [← hhh] at hcq hhq
                      have JW : Hid (∀ W, Calls Tryd.prog 20 #[.int .u64 (hh : Int)] W fun e w' => e = .returned (.agg (wayV hh)) ∧ Below W.heap.size W w') := fun W => refWay_any hh W hhq
                      have hwv := wayV_get hh lv (by omega)
                      have hws := wayV_size hh
                      obtain ⟨V, hV⟩ : ∃ V, V = wayV hh := ⟨_, rfl⟩
                      rw [← hV] at hwv hws
                      simp only [← hV] at JW
                      obtain ⟨cv, hcv⟩ : ∃ z, z = ch hh lv := ⟨_, rfl⟩
                      rw [← hcv] at hwv
                      have HHH := Lib.hid (And.intro hhh hcv)
                      have hix := fun W => run_index13 V lv (cv : Int) (by omega) hwv W
                      clear hhh hcv hhq hV hwv hws
                      have hz0 : Below w1.heap.size w1 wr := below_then HB4.out hbq.out
                      have KS : Hid (∀ W, Below w1.heap.size w1 W → W.cell? ⟨w.heap.size, 3, none⟩ = some (.slice (some ⟨sb, so, none⟩) ns sc) ∧ W.cell? ⟨sb, so + j, none⟩ = some (.int .i64 sj)) := fun W hW => ⟨KR.out W hW, HSC.out W hW⟩
                      obtain ⟨e1, e2⟩ := KS.out wr hz0
                      have hjn : (j : Int) < (ns : Int) := by have := HSL.out; omega
                      have hlv13 : (lv : Int) < 13 := by omega
                      have hbq4 := hbq.out
                      have HLQ := Lib.hid hlq
                      have HZ := Lib.hid hz0
                      clear hz0
                      by_cases heqv : (cv : Int) = sj
                      · have t1 : ((cv : Int) != sj) = false := by simpa using heqv
                        have hq1 : Hid ((hl.take (q + 1)).all (fun h => decide ((ch h lv : Int) = sj)) = true) := all_take hql (by rw [← HHH.out.1, ← HHH.out.2]; exact decide_eq_true heqv) hal2.out
                        clear heqv HHH hql
                        go_wp2_with fail
                        have hz0 : Below wr.heap.size wr wr.drew := (Below.refl _ _).drew
                        go_region_held3 (fun W => W.cell? ⟨w.heap.size, 3, none⟩ = some (.slice (some ⟨sb, so, none⟩) ns sc) ∧ W.cell? ⟨sb, so + j, none⟩ = some (.int .i64 sj)) (first | (with_reducible exact KS.out _ (below_then HZ.out hz0)) | (with_reducible exact KS.out _ (below_then HZ.out hzA))) (first
                          | (go_at_call 20; refine (JW.out _).mono ?_; rintro e wA ⟨rfl, hA⟩; have hzA := below_then hz0 hA))
                        all_goals
                          have HY := Lib.hid (below_then hbq4 hzA)
                          clear hzA hA hz0 hbq4
                          go_wp2_with fail
                          go_roundw
                          case rel => exact ⟨q + 1, by go_num, HLQ.out, hq1.out, HY.out⟩
                          case measure =>
                            have := HLQ.out
                            simp [intOf]; omega
                      · have t1 : ((cv : Int) != sj) = true := by simpa using heqv
                        have HXF : Hid (x.right lv = false) := by
                          show _ = _
                          rw [HX.out]
                          refine allTo_false hlt ?_
                          rw [HFT.out, Bool.true_and]
                          exact all_fails hql (by rw [← HHH.out.1, ← HHH.out.2]; exact decide_eq_false heqv)
                        clear heqv HHH hql
                        go_wp2_with fail
                        have hz0 : Below wr.heap.size wr wr.drew := (Below.refl _ _).drew
                        go_region_held3 (fun W => W.cell? ⟨w.heap.size, 3, none⟩ = some (.slice (some ⟨sb, so, none⟩) ns sc) ∧ W.cell? ⟨sb, so + j, none⟩ = some (.int .i64 sj)) (first | (with_reducible exact KS.out _ (below_then HZ.out hz0)) | (with_reducible exact KS.out _ (below_then HZ.out hzA))) (first
                          | (go_at_call 20; refine (JW.out _).mono ?_; rintro e wA ⟨rfl, hA⟩; have hzA := below_then hz0 hA))
                        all_goals
                          have HY := Lib.hid (below_then HB.out (below_then HZ.out hzA))
                          clear hzA hA hz0 hbq4
                          go_wp2_with fail
                          go_ret
                          rw [HXF.out]
                          exact ⟨rfl, HY.out⟩
                    · obtain rfl : ln = q := by omega
                      have hal3 : Hid (allTo (x.fits lv) (j + 1) = true) := by
                        show _ = _
                        rw [allTo, hall.out, HFT.out, Bool.true_and, Bool.true_and]
                        have := hal2.out
                        rwa [HLN.out, List.take_length] at this
                      have HY := Lib.hid (below_then HB4.out hbq.out)
                      go_wp2_with fail
                      go_roundw
                      case rel => exact ⟨j + 1, by go_num, by omega, hal3.out, HY.out⟩
                      case measure => simp [intOf]; omega
              · obtain rfl : nk = j := by omega
                have HXT : Hid (x.right lv = true) := by show _ = _; rw [HX.out]; exact hall.out
                have HBE := Lib.hid (below_then HB.out hbel.out)
                go_wp2_with fail
                go_ret
                rw [HXT.out]
                exact ⟨rfl, HBE.out⟩
      · have g1 : (12 : Int) < (lv : Int) := by omega
        have HX : Hid (x.right lv = false) := by
          show _ = _
          rw [HE.out, decide_eq_false hl12, Bool.false_and]
        go_enter Tryd.func7, Tryd.ntmps7
        go_wp2_with fail
        rw [← HW.out]
        go_wp2_with fail
        go_ret
        rw [HX.out]
        exact ⟨rfl, HB.out⟩
    · have hne : ((kd : Int) != 3) = true := by
        have : ¬ (kd : Int) = 3 := by omega
        simpa using this
      have HX := Lib.hid (HON.out h3)
      clear h3
      go_enter Tryd.func7, Tryd.ntmps7
      go_wp2_with fail
      rw [← HW.out]
      go_wp2_with fail
      go_ret
      rw [HX.out]
      exact ⟨rfl, HB.out⟩
end Go.Proofs.YtfhnmmiakknilaaDoor
