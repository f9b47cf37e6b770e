/-
  Contract of the reference's All; contract of gathered: all pairs of a node behind a list, in a row of the call's own.
-/
import Derived.Test.YtfhnmmiakknilaaMany
import Derived.Test.YtfhnmmiakknilaaCount
import Derived.Test.YtfhnmmiakknilaaParts
import Derived.Test.YtfhnmmiakknilaaMaking
namespace Go.Proofs.Ytfhnmmiakknilaa
open Go.RowKit
set_option maxHeartbeats 4000000
set_option maxRecDepth 100000
theorem fold_step {l m : List Pr} {q : Nat} (h : q < l.length) : (l.take (q + 1)).foldl put m = put ((l.take q).foldl put m) l[q] := by
  rw [List.take_succ_eq_append_getElem h, List.foldl_append]; rfl
theorem kid_cnt_le (x : Nd) {j : Nat} (h : j < x.num) : x.num ≠ 0 ∧ ((x.ok) → (putTo (fun i => (x.kid i).all) j).length + (x.kid j).all.length ≤ x.cnt) := by
  cases x with
  | bran m k kid =>
    refine ⟨by simp only [Nd.num] at h ⊢; omega, fun ho => ?_⟩
    have h1 := (putTo_cases (fun i => (kid i).all) (fun i => (kid i).flat) k (fun i hi => (all_cases (kid i) (ho.2.2.2 i hi).2).2) j (by simp only [Nd.num] at h; omega)).2.1
    have h2 := (all_cases (kid j) (ho.2.2.2 j h).2).2.1
    have h3 : (catP (fun i => (kid i).flat) j).length = sumTo (fun i => (kid i).cnt) j := by
      clear h h1 h2
      induction j with
      | zero => rfl
      | succ n ih => rw [catP, List.length_append, ih, flat_cnt (kid n), sumTo]
    have h4 := sumTo_le (fun i => (kid i).cnt) (show j + 1 ≤ k from h)
    have h5 : sumTo (fun i => (kid i).cnt) (j + 1) = sumTo (fun i => (kid i).cnt) j + (kid j).cnt := rfl
    rw [flat_cnt (kid j)] at h2
    simp only [Nd.kid, Nd.cnt]
    omega
  | _ => exact absurd h (Nat.not_lt_zero _)
theorem putTo_fits' (x : Nd) (ho : x.ok) {j : Nat} (h : j ≤ x.num) : Fits (putTo (fun i => (x.kid i).all) j) ∧ srt (putTo (fun i => (x.kid i).all) j) := by
  cases x with
  | bran m k kid =>
    exact ⟨putTo_fits _ k (fun i hi => all_fits (kid i) (ho.2.2.2 i hi).2) j h, (putTo_cases (fun i => (kid i).all) (fun i => (kid i).flat) k (fun i hi => (all_cases (kid i) (ho.2.2.2 i hi).2).2) j h).1⟩
  | _ =>
    obtain rfl : j = 0 := Nat.le_zero.1 h
    exact ⟨fits_nil, List.Pairwise.nil⟩
theorem all_ref (x : Nd) : ∀ (F : Nat → Prop) (w : World) (r : RN), Mde F w x r → x.ok → x.cnt ≤ 500000000000 →
    Calls Try.prog 13 #[RN.agg r x] w fun e w' => (∃ A c, e = .returned (.slice A x.all.length c) ∧ Rcs w' A x.all) ∧ Below w.heap.size w w' := by
  induction x using Nd.by_kids with
  | h x ih =>
    intro F w r hm ho hc
    have hnum := Nd.num_le ho
    have hprs := hm.prs
    have hokp := Nd.ok_prs ho
    unfold RN.agg
    obtain ⟨pa, pc, sa, sc, ka, kc⟩ := r
    obtain ⟨kd, hkd⟩ : ∃ k, k = x.kind := ⟨_, rfl⟩
    obtain ⟨hs, hhs⟩ : ∃ k, k = x.hash := ⟨_, rfl⟩
    obtain ⟨np, hnp⟩ : ∃ k, k = x.prs.length := ⟨_, rfl⟩
    obtain ⟨ns, hns⟩ : ∃ k, k = x.set.length := ⟨_, rfl⟩
    obtain ⟨nk, hnk⟩ : ∃ k, k = x.num := ⟨_, rfl⟩
    rw [← hkd, ← hhs, ← hnp, ← hns, ← hnk]
    rw [← hnk] at hnum
    have hnp100 : np ≤ 100 := by rw [hnp]; exact hokp.2.2
    obtain ⟨w1, hw1⟩ : ∃ w1, w1 = w.alloc (.cells #[.int .i64 (kd : Int), .int .u64 (hs : Int), .slice pa np pc, .slice sa ns sc, .slice ka nk kc] 32) := ⟨_, rfl⟩
    have hb1 : Below w.heap.size w w1 := by rw [hw1]; exact (Below.refl _ _).alloc (Nat.le_refl _) _
    have r1 : w1.heap[w.heap.size]? = some (.cells #[.int .i64 (kd : Int), .int .u64 (hs : Int), .slice pa np pc, .slice sa ns sc, .slice ka nk kc] 32 (0, 0)) := by rw [hw1]; exact heap_alloc_new w _
    obtain ⟨⟨_, _, c2, _, _⟩, _⟩ := row5 r1
    have KR : Hid (∀ W, Below w1.heap.size w1 W → W.cell? ⟨w.heap.size, 4, none⟩ = some (.slice ka nk kc)) := fun W hW => (row5 ((hW.block _ (Array.getElem?_eq_some_iff.1 r1).1).trans r1)).1.2.2.2.2
    obtain ⟨G, hG⟩ : ∃ G : Nat → List Pr, G = fun j => if nk = 0 then come x.prs else putTo (fun i => (x.kid i).all) j := ⟨_, rfl⟩
    have hg0 : come x.prs = G 0 := by
      rw [hG]
      by_cases h0 : nk = 0
      · simp only [if_pos h0]
      · simp only [if_neg h0]
        rw [(all_bran x (by omega)).2]; rfl
    have hgn : x.all = G nk := by
      rw [hG]
      by_cases h0 : nk = 0
      · simp only [if_pos h0]
        exact all_own x (by omega) ho
      · simp only [if_neg h0]
        rw [hnk]
        exact (all_bran x (by omega)).1
    have hgs : ∀ j, j < nk → G j = putTo (fun i => (x.kid i).all) j ∧ G (j + 1) = (x.kid j).all.foldl put (G j) := fun j hj => by
      rw [hG]
      simp only [if_neg (show ¬ nk = 0 by omega)]
      first | exact ⟨rfl, rfl⟩ | exact ⟨trivial, rfl⟩
    have HG := Lib.hid (And.intro hg0 (And.intro hgn hgs)); clear hg0 hgn hgs hG
    have HW := Lib.hid hw1; clear hw1
    have HB := Lib.hid hb1
    have HM := Lib.hid hm; clear hm
    have HIH := Lib.hid ih; clear ih
    have HO := Lib.hid ho; clear ho
    have HK := Lib.hid hnk; clear hnk
    have HCC := Lib.hid hc; clear hc
    have HNP := Lib.hid hnp
    have HP := Lib.hid (hprs.below hb1); clear hprs
    have HOK := Lib.hid hokp; clear hokp
    clear hkd hhs hnp hns r1 hb1
    go_enter Try.func13, Try.ntmps13
    go_wp2_with fail
    rw [← HW.out]
    go_loopw [3, 13] (fun s i wr => ∃ (j nn c : Nat) (A : Option Addr), i = .int .i64 (j : Int) ∧ s = .slice A nn c ∧ j ≤ np ∧ Hid (nn = (come (x.prs.take j)).length ∧ Rcs wr A (come (x.prs.take j))) ∧ Hid (Below w1.heap.size w1 wr)) (fun _ i _ => np - (intOf i).toNat)
    case atStart => exact ⟨0, 0, 0, none, rfl, rfl, by omega, ⟨rfl, .inl rfl⟩, Below.refl _ _⟩
    case round =>
      obtain ⟨j, nn, c, A, rfl, rfl, hj, hrc, hbel⟩ := hrel
      by_cases hlt : j < np
      · have hjl : j < x.prs.length := by have := HNP.out; omega
        obtain ⟨b, hpa, hb, q0, q1⟩ := (HP.out.below hbel.out).at hjl
        subst hpa
        have hcl := come_length (x.prs.take j)
        rw [List.length_take] at hcl
        have hfit : Fits (come (x.prs.take j)) := fun q hq => HOK.out.2.1 q (List.mem_of_mem_take (come_sub _ q hq))
        have hpf := HOK.out.2.1 _ (List.getElem_mem hjl)
        have hbw : ∀ o, Below wr.heap.size wr (wr.alloc o) := fun o => (Below.refl _ _).alloc (Nat.le_refl _) o
        have J := fun o => refPutB (x.prs[j]) (hrc.out.2.below (hbw o)) c (by omega) hpf.1 (fun q hq => (hfit q hq).1)
        rw [← come_step hjl] at J
        obtain ⟨s1, hs1⟩ : ∃ s : ByteArray, s = ⟨(x.prs[j]).1.toArray⟩ := ⟨_, rfl⟩
        obtain ⟨s2, hs2⟩ : ∃ s : ByteArray, s = ⟨(x.prs[j]).2.toArray⟩ := ⟨_, rfl⟩
        rw [← hs1] at q0
        rw [← hs2] at q1
        simp only [← hs1, ← hs2, ← hrc.out.1] at J
        have HJ := Lib.hid J; clear J
        have HBW := Lib.hid hbw; clear hbw
        clear hs1 hs2 hfit hpf hcl hjl hrc
        go_wp2_with fail
        refine (HJ.out _).mono ?_
        rintro e w2 ⟨A2, c2', rfl, k1, _, hb2⟩
        have HB2 := Lib.hid (below_then hbel.out (below_then (HBW.out _) hb2)); clear hb2
        obtain ⟨n2, hn2⟩ : ∃ n, n = (come (x.prs.take (j + 1))).length := ⟨_, rfl⟩
        rw [← hn2]
        have HR2 := Lib.hid (And.intro hn2 k1); clear hn2 k1
        clear q0 q1
        go_wp2_with fail
        go_roundw
        case rel => exact ⟨j + 1, n2, c2', A2, by go_num, rfl, by omega, HR2.out, HB2.out⟩
        case measure => simp [intOf]; omega
      · obtain rfl : np = j := by omega
        have hr2 : nn = (G 0).length ∧ Rcs wr A (G 0) := by
          rw [← HG.out.1]
          have := hrc.out
          rwa [HNP.out, List.take_length] at this
        have HR2 := Lib.hid hr2; clear hr2
        have c4 := KR.out _ hbel.out
        have hbl := hbel.out
        clear hrc c2
        go_wp2_with fail
        go_loopw [3, 24] (fun s i wr => ∃ (t nn c : Nat) (A : Option Addr), i = .int .i64 (t : Int) ∧ s = .slice A nn c ∧ t ≤ nk ∧ Hid (nn = (G t).length ∧ Rcs wr A (G t)) ∧ Hid (Below w1.heap.size w1 wr)) (fun _ i _ => nk - (intOf i).toNat)
        case atStart => exact ⟨0, nn, c, A, rfl, rfl, by omega, HR2.out, hbl⟩
        case round =>
          clear HR2 hbl c4
          obtain ⟨t, nn, c, A, rfl, rfl, ht, hrc, hbt⟩ := hrel
          by_cases hlt2 : t < nk
          · obtain ⟨g, hka, hg, ⟨pa5, pc5, sa5, sc5, ka5, kc5⟩, ⟨q0, q1, q2, q3, q4⟩, hm5⟩ := ((HM.out.below HB.out).below hbt.out).child (i := t) (by have := HK.out; omega)
            subst hka
            have hk5 := (Nd.ok_kid HO.out (i := t) (by have := HK.out; omega)).2
            have hc5 : (x.kid t).cnt ≤ 500000000000 := Nat.le_trans (Nd.cnt_kid x (by have := HK.out; omega)) HCC.out
            have hsum := (kid_cnt_le x (j := t) (by have := HK.out; omega)).2 HO.out
            have hptf := putTo_fits' x HO.out (j := t) (by have := HK.out; omega)
            obtain ⟨hg1, hg2⟩ := HG.out.2.2 t hlt2
            rw [← hg1] at hsum hptf
            have hlf := all_fits (x.kid t) hk5
            have hbw : ∀ o, Below wr.heap.size wr (wr.alloc o) := fun o => (Below.refl _ _).alloc (Nat.le_refl _) o
            have J := fun o => HIH.out t (by have := HK.out; omega) F (wr.alloc o) ⟨pa5, pc5, sa5, sc5, ka5, kc5⟩ (hm5.below (hbw o)) hk5 hc5
            simp only [RN.agg] at J
            obtain ⟨LK, hLK⟩ : ∃ k, k = (x.kid t).all := ⟨_, rfl⟩
            rw [← hLK] at hsum hlf hg2
            obtain ⟨ln, hln⟩ : ∃ k, k = LK.length := ⟨_, rfl⟩
            obtain ⟨k0, hk0⟩ : ∃ k, k = (x.kid t).kind := ⟨_, rfl⟩
            obtain ⟨k1, hk1⟩ : ∃ k, k = (x.kid t).hash := ⟨_, rfl⟩
            obtain ⟨k2, hk2⟩ : ∃ k, k = (x.kid t).prs.length := ⟨_, rfl⟩
            obtain ⟨k3, hk3⟩ : ∃ k, k = (x.kid t).set.length := ⟨_, rfl⟩
            obtain ⟨k4, hk4⟩ : ∃ k, k = (x.kid t).num := ⟨_, rfl⟩
            simp only [← hLK, ← hk0, ← hk1, ← hk2, ← hk3, ← hk4, ← hln] at J
            rw [← hk0] at q0
            rw [← hk1] at q1
            rw [← hk2] at q2
            rw [← hk3] at q3
            rw [← hk4] at q4
            have HJ := Lib.hid J; clear J
            have HBW := Lib.hid hbw; clear hbw
            have hlnb : ln ≤ 500000000000 := by have := HCC.out; omega
            have HX := Lib.hid (And.intro hln (And.intro hg2 (And.intro hsum (And.intro hlf hptf))))
            clear hm5 hk5 hc5 hLK hk0 hk1 hk2 hk3 hk4 hln hg1 hg2 hsum hlf hptf
            go_wp2_with fail
            refine (HJ.out _).mono ?_
            rintro e w2 ⟨⟨A2, c2', rfl, k9⟩, hb2⟩
            have hb22 := below_then (HBW.out _) hb2
            have HB2 := Lib.hid (below_then hbt.out hb22)
            have HR2 : Hid (nn = (G t).length ∧ Rcs w2 A (G t)) := ⟨hrc.out.1, hrc.out.2.below hb22⟩
            have HK9 := Lib.hid k9
            clear hb2 hb22 k9 hrc q0 q1 q2 q3 q4
            go_wp2_with fail
            go_loopw [3, 31] (fun s i wr => ∃ (q mm c : Nat) (A : Option Addr), i = .int .i64 (q : Int) ∧ s = .slice A mm c ∧ q ≤ ln ∧ Hid (mm = ((LK.take q).foldl put (G t)).length ∧ Rcs wr A ((LK.take q).foldl put (G t))) ∧ Hid (Below w2.heap.size w2 wr)) (fun _ i _ => ln - (intOf i).toNat)
            case atStart => exact ⟨0, nn, c, A, rfl, rfl, by omega, HR2.out, Below.refl _ _⟩
            case round =>
              clear HR2
              obtain ⟨q, mm, c, A, rfl, rfl, hq, hrq, hbq⟩ := hrel
              by_cases hlq : q < ln
              · obtain ⟨e1, e2, e3, e4, e5⟩ := HX.out
                have hjl : q < LK.length := by omega
                obtain ⟨b, hpa, hb, q0, q1⟩ := (HK9.out.below hbq.out).at hjl
                subst hpa
                have hfl := (fold_cases (LK.take q) (G t) e5.2).2.1
                rw [List.length_take] at hfl
                have hfit : Fits ((LK.take q).foldl put (G t)) := fold_fits _ _ (fun z hz => e4 z (List.mem_of_mem_take hz)) e5.1
                have hpf := e4 _ (List.getElem_mem hjl)
                have hbw : ∀ o, Below wr.heap.size wr (wr.alloc o) := fun o => (Below.refl _ _).alloc (Nat.le_refl _) o
                have J := fun o => refPutB (LK[q]) (hrq.out.2.below (hbw o)) c (by have := HCC.out; omega) hpf.1 (fun z hz => (hfit z hz).1)
                rw [← fold_step hjl] at J
                obtain ⟨s1, hs1⟩ : ∃ s : ByteArray, s = ⟨(LK[q]).1.toArray⟩ := ⟨_, rfl⟩
                obtain ⟨s2, hs2⟩ : ∃ s : ByteArray, s = ⟨(LK[q]).2.toArray⟩ := ⟨_, rfl⟩
                rw [← hs1] at q0
                rw [← hs2] at q1
                simp only [← hs1, ← hs2, ← hrq.out.1] at J
                have HJ2 := Lib.hid J; clear J
                have HBW2 := Lib.hid hbw; clear hbw
                have HLQ := Lib.hid hlq
                clear hs1 hs2 hfit hpf hfl hjl hrq e1 e2 e3 e4 e5
                go_wp2_with fail
                refine (HJ2.out _).mono ?_
                rintro e w3 ⟨A3, c3', rfl, k1, _, hb3⟩
                have HB3 := Lib.hid (below_then hbq.out (below_then (HBW2.out _) hb3)); clear hb3
                obtain ⟨n2, hn2⟩ : ∃ n, n = ((LK.take (q + 1)).foldl put (G t)).length := ⟨_, rfl⟩
                rw [← hn2]
                have HR3 := Lib.hid (And.intro hn2 k1); clear hn2 k1
                clear q0 q1
                go_wp2_with fail
                go_roundw
                case rel => exact ⟨q + 1, n2, c3', A3, by go_num, rfl, HLQ.out, HR3.out, HB3.out⟩
                case measure =>
                  have := HLQ.out
                  simp [intOf]; omega
              · obtain rfl : ln = q := by omega
                have hr3 : mm = (G (t + 1)).length ∧ Rcs wr A (G (t + 1)) := by
                  obtain ⟨e1, e2, _⟩ := HX.out
                  have := hrq.out
                  rw [e1, List.take_length] at this
                  rw [e2]
                  exact this
                have HR3 := Lib.hid hr3; clear hr3
                have HB3 := Lib.hid (below_then HB2.out hbq.out)
                clear hrq
                go_wp2_with fail
                go_roundw
                case rel => exact ⟨t + 1, mm, c, A, by go_num, rfl, by omega, HR3.out, HB3.out⟩
                case measure => simp [intOf]; omega
          · obtain rfl : nk = t := by omega
            have hr3 : nn = x.all.length ∧ Rcs wr A x.all := by rw [HG.out.2.1]; exact hrc.out
            have HR3 := Lib.hid hr3; clear hr3
            have HBB := Lib.hid (below_then HB.out hbt.out)
            clear hrc
            go_wp2_with fail
            go_ret
            have e := HR3.out.1
            subst e
            exact ⟨⟨A, c, rfl, HR3.out.2⟩, HBB.out⟩
end Go.Proofs.Ytfhnmmiakknilaa
namespace Go.Proofs.Ytfhnmmiakknilaa
open Go.RowKit
set_option maxHeartbeats 4000000
set_option maxRecDepth 100000
/-- append of some elements that lie in memory, up to many -/
theorem list_appB {B : Nat} {w : World} {ops : Array Oper} {rest : List Oper} {o : Oper} {a : Act} {Q : Exit → Act → World → Prop} (t e : TypeId) (z : Value) (size bytes : Nat) (hu : Try.prog.underlying t = some (.slice e)) (hinf : (Try.prog.info? e).map (fun i => (i.zero, i.size, i.bytes)) = some (some z, size, bytes)) (hz : z.cells.size = size) (hs0 : 0 < size) (hby : bytes ≤ 100)
    (hgd : o.guard = none) (s x : Operand) (ho : o.op = .call { callee := .builtin .append, args := #[s, x], argTypes := #[t, t] }) (v : Value) (n : Nat) (xs : List Value) (h : w.ownsRow B e size v n xs) (p : Addr) (m c : Nat) (news : List Value) (hl : news.length = m * size) (hnews : ∀ j u, news[j]? = some u → w.cell? (p.add j) = some u) (h1 : ∀ u ∈ news, u.oneCell' = true)
    (hs : a.eval s = v) (hx : a.eval x = .slice (some p) m c) (hn : n + m ≤ 1000000000000) (hB : B ≤ w.heap.size)
    (hK : ∀ v' w', w'.ownsRow B e size v' (n + m) (xs ++ news) → w.grownBy w' v.ownBlock → wpList Try.prog ops Q rest (a.put o.dst v') w') : wpList Try.prog ops Q (o :: rest) a w := by
  obtain ⟨i0, hi, hz0, hz1, hz2⟩ := info_parts hinf
  obtain ⟨v', w', hr, hown, hg, _⟩ := run_append_own (P := Try.prog) w B t o.type e i0 z size bytes hu hi hz0 hz1 hz2 hz hs0 v n xs h p m c news hl hnews h1
    (by unfold maxLen; omega) (by have := Nat.mul_le_mul hn hby; omega) hB
  refine wpList_plain hgd fun _ hk => ?_
  unfold Oper.wp execOp
  simp only [ho, resolve, invoke, builtin, Sem.run_bind, Sem.run_pure, Result.andThen_ok, List.map_toArray, List.map_cons, List.map_nil, hs, hx, hr]
  exact hk _ _ (hK v' w' hown hg)
theorem NewRow.less {B C b : Nat} {w : World} {l : List UInt8} (h : NewRow B w b l) (k : C ≤ B) : NewRow C w b l := ⟨Nat.le_trans k h.1, h.2⟩
theorem Mrow.less {B C : Nat} {w : World} {xs : List Value} {L : List Pr} (h : Mrow B w xs L) (k : C ≤ B) : Mrow C w xs L := by
  refine ⟨h.1, fun i hi => ?_⟩
  obtain ⟨kb, vb, h1, h2, h3, h4⟩ := h.2 i hi
  exact ⟨kb, vb, h1, h2, h3.less k, h4.less k⟩
theorem Mrow.append {B : Nat} {w : World} {xs ys : List Value} {L M : List Pr} (h : Mrow B w xs L) (k : Mrow B w ys M) : Mrow B w (xs ++ ys) (L ++ M) := by
  have hl := h.1
  have hk := k.1
  refine ⟨by rw [List.length_append, List.length_append]; omega, fun i hi => ?_⟩
  rcases Nat.lt_or_ge i L.length with g | g
  · obtain ⟨kb, vb, e1, e2, e3, e4⟩ := h.2 i g
    have e : (L ++ M)[i] = L[i] := List.getElem_append_left g
    rw [e, List.getElem?_append_left (by omega), List.getElem?_append_left (by omega)]
    exact ⟨kb, vb, e1, e2, e3, e4⟩
  · have hj : i - L.length < M.length := by rw [List.length_append] at hi; omega
    obtain ⟨kb, vb, e1, e2, e3, e4⟩ := k.2 (i - L.length) hj
    have e : (L ++ M)[i] = M[i - L.length] := List.getElem_append_right g
    rw [e, List.getElem?_append_right (by omega), List.getElem?_append_right (by omega), hl, show i * 2 - L.length * 2 = (i - L.length) * 2 by omega, show i * 2 + 1 - L.length * 2 = (i - L.length) * 2 + 1 by omega]
    exact ⟨kb, vb, e1, e2, e3, e4⟩
theorem Mrow.one {B : Nat} {w : World} {xs : List Value} {L : List Pr} (h : Mrow B w xs L) : ∀ u ∈ xs, u.oneCell' = true := fun u hu => by
  obtain ⟨j, hj, rfl⟩ := List.getElem_of_mem hu
  have hl := h.1
  obtain ⟨kb, vb, e1, e2, _⟩ := h.2 (j / 2) (by omega)
  rcases Nat.mod_two_eq_zero_or_one j with hm | hm
  · rw [show j / 2 * 2 = j by omega, List.getElem?_eq_getElem hj] at e1
    rw [Option.some.inj e1]; rfl
  · rw [show j / 2 * 2 + 1 = j by omega, List.getElem?_eq_getElem hj] at e2
    rw [Option.some.inj e2]; rfl
theorem Mrow.grown {B n : Nat} {w w' : World} {v : Value} {xs ys : List Value} {L : List Pr} (h : Mrow B w ys L) (ho : w.ownsRow B 54 2 v n xs) (hg : w.grownBy w' v.ownBlock) : Mrow B w' ys L := h.keep fun _ _ k => k.grown ho hg
theorem below_grown {B n : Nat} {w a b : World} {v : Value} {xs : List Value} (h : Below B w a) (hB : B ≤ w.heap.size) (ho : a.ownsRow B 54 2 v n xs) (hg : a.grownBy b v.ownBlock) : Below B w b :=
  ⟨hg.os.trans h.os, hg.tape.trans h.tape, hg.output.trans h.output, Nat.le_trans h.size hg.size, fun k hk => (hg.block k (by have := h.size; omega) (fun e => by
    have := (own_lt ho e.symm).1
    omega)).trans (h.block k hk)⟩
def Got (B n : Nat) (L : List Pr) (x : Nd) (w : World) (e : Ending) (w' : World) : Prop := ∃ v' ys, e = .returned v' ∧ w'.ownsRow B 54 2 v' (n + x.cnt) ys ∧ Mrow B w' ys (L ++ x.flat) ∧ Below B w w'
theorem gathered_any (x : Nd) : ∀ (F : Nat → Prop) (B : Nat) (w : World) (v vl : Value) (n : Nat) (xs : List Value) (L : List Pr), Nde F w x v → x.ok → (∀ q, F q → q < B) → B ≤ w.heap.size → w.ownsRow B 54 2 vl n xs → Mrow B w xs L → n = L.length → n + x.cnt ≤ 1000000000000 →
    Calls Try.prog 36 #[vl, v] w (Got B n L x w) := by
  induction x using Nd.by_kids with
  | h x ih =>
    intro F B w v vl n xs L hN ho hF hB hown hm hn hc
    cases x with
    | none =>
      obtain rfl : v = .nilIface := hN
      have h1 := ta84_nil
      have h2 := ta91_nil
      have h3 := ta100_nil
      have HX : Hid (Got B n L .none w (.returned vl) w) := ⟨vl, xs, rfl, hown, by rw [Nd.flat, List.append_nil]; exact hm, Below.refl _ _⟩
      clear ih hown hm hn hc ho hF hB
      go_enter Try.func36, Try.ntmps36
      go_wp2
      go_ret
      exact HX.out
    | leaf h p =>
      obtain ⟨b, ka, kc, va, vc, rfl, _, hr, hk, hv⟩ := hN
      have c1 := row_cell (i := 1) hr rfl
      have c2 := row_cell (i := 2) hr rfl
      have h1 := ta84_84 (.pointer (some ⟨b, 0, none⟩))
      have own := owned_any kc vc hk.bts hv.bts (by have := ho.2; omega)
      obtain ⟨n1, hn1⟩ : ∃ k, k = p.1.length := ⟨_, rfl⟩
      obtain ⟨n2, hn2⟩ : ∃ k, k = p.2.length := ⟨_, rfl⟩
      rw [← hn1] at c1
      rw [← hn2] at c2
      simp only [← hn1, ← hn2] at own
      have OWN := Lib.hid own; clear own
      have HO := Lib.hid (And.intro hown (And.intro hm (And.intro hn hB)))
      have HL := Lib.hid (And.intro hn1 hn2)
      have HC := Lib.hid (show n ≤ 1000000000000 by omega)
      clear ih hown hm hn hc ho hF hB hr hk hv hn1 hn2
      go_enter Try.func36, Try.ntmps36
      go_wp2_with fail
      refine OWN.out.mono ?_
      rintro e w2 ⟨g1, g2, rfl, k1, k2, hb⟩
      have HOW := Lib.hid (own_keep HO.out.1 hb)
      have HB2 : Hid (B ≤ w2.heap.size) := Nat.le_trans HO.out.2.2.2 hb.size
      have HK := Lib.hid (And.intro k1 (And.intro k2 hb)); clear k1 k2 hb
      clear c1 c2
      go_wp2_with (at_builtin; refine list_app2B (B := B) (w := w2) 44 54 _ 48 Try.underlying44 Try.info54 rfl (by decide) rfl (.tmp 14) (.tmp 20) rfl _ n xs HOW.out _ _ rfl rfl rfl rfl HC.out HB2.out ?_; intro v1 w3 ho3 hg3)
      go_ret
      obtain ⟨k1, k2, hb⟩ := HK.out
      have hBw := HO.out.2.2.2
      have m2 : Mrow B w2 xs L := HO.out.2.1.keep fun _ _ h => h.below hb
      have m3 := m2.snoc (p := p) (k1.less hBw) (k2.less hBw)
      rw [← HL.out.1, ← HL.out.2] at m3
      exact ⟨v1, _, rfl, ho3, m3.grown HOW.out hg3, below_grown (hb.mono hBw) hBw HOW.out hg3⟩
    | buck h M =>
      obtain ⟨b, p, t, rfl, _, hr, ht, he, hl⟩ := hN
      have c1 := row_cell (i := 1) hr rfl
      have h1 := ta84_91 (.pointer (some ⟨b, 0, none⟩))
      have h2 := ta91_91 (.pointer (some ⟨b, 0, none⟩))
      have hts : t.size = M.length := by rw [← hl, Tr.length]
      have hli := list_any ht (by have := ho.2.2.1; omega) (by rw [hl]; exact ho.2.2.2.2)
      rw [hl] at hli
      obtain ⟨ml, hml⟩ : ∃ k, k = M.length := ⟨_, rfl⟩
      rw [← hml] at hli
      have HLI := Lib.hid hli; clear hli
      have HO := Lib.hid (And.intro hown (And.intro hm (And.intro hn hB)))
      have hcm : (Nd.buck h M).cnt = M.length := rfl
      have HC : Hid (n + ml ≤ 1000000000000) := by show _ ≤ _; omega
      have HM := Lib.hid (And.intro hml (show 0 < ml by have := ho.2.1; omega))
      clear ih hown hm hn hc ho hF hB hr ht he hl hts hml hcm
      go_enter Try.func36, Try.ntmps36
      go_wp2_with fail
      refine HLI.out.mono ?_
      rintro e w2 ⟨A, c, rfl, ⟨ys, oy, my⟩, hb⟩
      have hml := HM.out.1
      rw [← hml] at oy
      obtain ⟨A', c', e, hrd⟩ := row_reads oy
      injection e with e1 _ e3
      subst e1
      subst e3
      obtain ⟨q, rfl, _, _, _⟩ := hrd HM.out.2
      have HOW := Lib.hid (own_keep HO.out.1 hb)
      have HB2 : Hid (B ≤ w2.heap.size) := Nat.le_trans HO.out.2.2.2 hb.size
      have HYL : Hid (ys.length = ml * 2) := oy.1
      have HYC : Hid (∀ j u, ys[j]? = some u → w2.cell? ((⟨q, 0, none⟩ : Addr).add j) = some u) := oy.cells (g := q) rfl
      have HY1 := Lib.hid my.one
      have HK := Lib.hid (And.intro my hb); clear my hb
      clear c1 oy hrd hml
      go_wp2_with (at_builtin; refine list_appB (B := B) (w := w2) 44 54 _ 2 48 Try.underlying44 Try.info54 rfl (by decide) (by decide) rfl (.tmp 25) (.tmp 30) rfl _ n xs HOW.out ⟨q, 0, none⟩ ml c ys HYL.out HYC.out HY1.out rfl rfl HC.out HB2.out ?_; intro v1 w3 ho3 hg3)
      go_ret
      obtain ⟨my, hb⟩ := HK.out
      have hBw := HO.out.2.2.2
      have m2 : Mrow B w2 xs L := HO.out.2.1.keep fun _ _ h => h.below hb
      have m3 := m2.append (my.less hBw)
      refine ⟨v1, _, rfl, ?_, m3.grown HOW.out hg3, below_grown (hb.mono hBw) hBw HOW.out hg3⟩
      rw [show n + (Nd.buck h M).cnt = n + ml by rw [HM.out.1]; rfl]
      exact ho3
    | bran m k kid =>
      obtain ⟨b, g, c, rfl, hFb, hr, hFg, hg, hkid⟩ := hN
      have c1 := row_cell (i := 1) hr rfl
      have h1 := ta84_100 (.pointer (some ⟨b, 0, none⟩))
      have h2 := ta91_100 (.pointer (some ⟨b, 0, none⟩))
      have h3 := ta100_100 (.pointer (some ⟨b, 0, none⟩))
      have hgB := hF g hFg
      have hk32 : k ≤ 32 := by have := Bt.list_le m 32; have := ho.2.2.1; omega
      have HKID := Lib.hid hkid; clear hkid
      have HO := Lib.hid (And.intro hown (And.intro hm (And.intro hn hB)))
      have HOK := Lib.hid ho
      have HF := Lib.hid hF
      have HIH := Lib.hid ih
      have HC : Hid (n + sumTo (fun i => (kid i).cnt) k ≤ 1000000000000) := hc
      clear ih hown hm hn hc ho hF hB hr hFb hFg
      go_enter Try.func36, Try.ntmps36
      go_wp2_with fail
      go_loopw [0, 9, 40] (fun s0 _ i wr => ∃ (j : Nat), i = .int .i64 (j : Int) ∧ j ≤ k ∧ Hid (∃ ys, wr.ownsRow B 54 2 s0 (n + sumTo (fun i => (kid i).cnt) j) ys ∧ Mrow B wr ys (L ++ catP (fun i => (kid i).flat) j)) ∧ Hid (Below B w wr)) (fun _ _ i _ => k - (intOf i).toNat)
      case atStart => exact ⟨0, rfl, by omega, ⟨xs, HO.out.1, by rw [catP, List.append_nil]; exact HO.out.2.1⟩, Below.refl _ _⟩
      case round =>
        obtain ⟨j, rfl, hj, hrow, hbel⟩ := hrel
        by_cases hlt : j < k
        · obtain ⟨vi, hci, hNi⟩ := HKID.out j hlt
          have hcw := (hbel.out.cell (p := ⟨g, j, none⟩) hgB).trans hci
          have hNw : Nde F wr (kid j) vi := hNi.kept fun q hq _ => hbel.out.block q (HF.out q hq)
          obtain ⟨ys, oy, my⟩ := hrow.out
          have hst : sumTo (fun i => (kid i).cnt) (j + 1) = sumTo (fun i => (kid i).cnt) j + (kid j).cnt := rfl
          have hle := sumTo_le (fun i => (kid i).cnt) (show j + 1 ≤ k by omega)
          have hln : n + sumTo (fun i => (kid i).cnt) j = (L ++ catP (fun i => (kid i).flat) j).length := by
            have h1 := my.1
            have h2 := oy.1
            omega
          have hcb : n + sumTo (fun i => (kid i).cnt) j + (kid j).cnt ≤ 1000000000000 := by
            have h1 := HC.out
            rw [hst] at hle
            have h2 : n + sumTo (fun i => (kid i).cnt) k ≤ 1000000000000 := h1
            omega
          have J := HIH.out j hlt F B wr vi _ _ ys (L ++ catP (fun i => (kid i).flat) j) hNw (HOK.out.2.2.2 j hlt).2 HF.out (by have := hbel.out.size; have := HO.out.2.2.2; omega) oy my hln hcb
          have HJ := Lib.hid J; clear J
          have HST := Lib.hid hst
          clear hci hNi hNw oy my hst hle hln hrow hcb
          go_wp2_with fail
          refine HJ.out.mono ?_
          rintro e w2 ⟨v', ys', rfl, o2, m2, b2⟩
          have HR2 : Hid (∃ ys, w2.ownsRow B 54 2 v' (n + sumTo (fun i => (kid i).cnt) (j + 1)) ys ∧ Mrow B w2 ys (L ++ catP (fun i => (kid i).flat) (j + 1))) := by
            refine ⟨ys', ?_, ?_⟩
            · rw [HST.out, ← Nat.add_assoc]; exact o2
            · rw [catP, ← List.append_assoc]; exact m2
          have HB2 := Lib.hid (hbel.out.trans b2)
          clear o2 m2 b2 hcw HJ
          go_wp2_with fail
          go_roundw
          case rel => exact ⟨j + 1, by go_num, by omega, HR2.out, HB2.out⟩
          case measure => simp [intOf]; omega
        · obtain rfl : j = k := by omega
          obtain ⟨ys, oy, my⟩ := hrow.out
          have HX := Lib.hid (And.intro oy my)
          clear hrow oy my
          go_wp2_with fail
          go_ret
          exact ⟨_, ys, rfl, HX.out.1, HX.out.2, hbel.out⟩
end Go.Proofs.Ytfhnmmiakknilaa
