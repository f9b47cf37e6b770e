/-
  The contracts of the reference's Put and Is, for lists of any length that may come; all pairs of a node, plainly.
-/
import Derived.Test.YtfhnmmiakknilaaRefs
import Derived.Laws.StructEq
import Derived.Test.YtfhnmmiakknilaaNodes
import Derived.Test.YtfhnmmiakknilaaMerge
namespace Go.Proofs.Ytfhnmmiakknilaa
open Go.RowKit
set_option maxHeartbeats 4000000
set_option maxRecDepth 100000
/-- append of one pair that was laid into a block of its own just ahead -/
theorem list_app2B {B : Nat} {w : World} {ops : Array Oper} {rest : List Oper} {o : Oper} {a : Act} {Q : Exit → Act → World → Prop} (t e : TypeId) (z : Value) (bytes : Nat) (hu : Try.prog.underlying t = some (.slice e)) (hinf : (Try.prog.info? e).map (fun i => (i.zero, i.size, i.bytes)) = some (some z, 2, bytes)) (hz : z.cells.size = 2) (hby : bytes ≤ 100)
    (hgd : o.guard = none) (s x : Operand) (ho : o.op = .call { callee := .builtin .append, args := #[s, x], argTypes := #[t, t] }) (v : Value) (n : Nat) (xs : List Value) (h : w.ownsRow B e 2 v n xs) (x1 x2 : Value) (h1 : x1.oneCell' = true) (h2 : x2.oneCell' = true) (hs : a.eval s = v) (hx : a.eval x = .slice (some ⟨w.heap.size, 0, none⟩) 1 1) (hn : n ≤ 1000000000000) (hB : B ≤ w.heap.size)
    (hK : ∀ v' w', w'.ownsRow B e 2 v' (n + 1) (xs ++ [x1, x2]) → w.grownBy w' v.ownBlock → wpList Try.prog ops Q rest (a.put o.dst v') w') : wpList Try.prog ops Q (o :: rest) a (w.alloc (.cells #[x1, x2] e)) := by
  obtain ⟨i0, hi, hz0, hz1, hz2⟩ := info_parts hinf
  have hnew : (w.alloc (.cells #[x1, x2] e)).heap[w.heap.size]? = some (.cells #[x1, x2] e (0, 0)) := heap_alloc_new w _
  obtain ⟨v', w', hr, hown, hg, _⟩ := run_append_own (P := Try.prog) (w.alloc (.cells #[x1, x2] e)) B t o.type e i0 z 2 bytes hu hi hz0 hz1 hz2 hz (by decide) v n xs (World.ownsRow.alloc h _) ⟨w.heap.size, 0, none⟩ 1 1 [x1, x2] rfl
    (by
      intro j u hj
      rw [Go.WideShapes.add_plain, Nat.zero_add, cell_of_row _ w.heap.size j _ e (0, 0) hnew, ← hj]
      simp)
    (by
      intro u hu
      rcases List.mem_cons.1 hu with rfl | hu
      · exact h1
      · rcases List.mem_cons.1 hu with rfl | hu
        · exact h2
        · cases hu)
    (by unfold maxLen; omega) (by have := Nat.mul_le_mul (show n + 1 ≤ 1000000000001 by omega) hby; omega) (by simp; omega)
  have hg2 : w.grownBy w' v.ownBlock := grown_then (World.grownBy_alloc w _ none) hg
  refine wpList_plain hgd fun _ hk => ?_
  unfold Oper.wp execOp
  simp only [ho, resolve, invoke, builtin, Sem.run_bind, Sem.run_pure, Result.andThen_ok, List.map_toArray, List.map_cons, List.map_nil, hs, hx, hr]
  exact hk _ _ (hK v' w' hown hg2)
theorem refPutB {w : World} {A : Option Addr} {M : List Pr} (p : Pr) (ha : Rcs w A M) (c : Nat) (hlen : M.length ≤ 900000000000) (hp : p.1.length ≤ 1000) (hm : ∀ q ∈ M, q.1.length ≤ 1000) :
    Calls Try.prog 35 #[.slice A M.length c, .agg #[.string ⟨p.1.toArray⟩, .string ⟨p.2.toArray⟩]] w fun e w' => ∃ A' c', e = .returned (.slice A' (put M p).length c') ∧ Rcs w' A' (put M p) ∧ NewIn w.heap.size w' A' ∧ Below w.heap.size w w' := by
  obtain ⟨kp, hkp⟩ : ∃ s : ByteArray, s = ⟨p.1.toArray⟩ := ⟨_, rfl⟩
  obtain ⟨vp, hvp⟩ : ∃ s : ByteArray, s = ⟨p.2.toArray⟩ := ⟨_, rfl⟩
  rw [← hkp, ← hvp]
  have HA := Lib.hid ha; clear ha
  have HM := Lib.hid hm; clear hm
  have HKP := Lib.hid hkp; clear hkp
  have HVP := Lib.hid hvp; clear hvp
  obtain ⟨w1, hw1⟩ : ∃ w1, w1 = w.alloc (.cells #[.string kp, .string vp] 73) := ⟨_, rfl⟩
  have hb1 : Below w.heap.size w w1 := by rw [hw1]; exact (Below.refl _ _).alloc (Nat.le_refl _) _
  have hbx : w.heap.size < w1.heap.size := by rw [hw1]; simp
  have hk1 : w1.cell? ⟨w.heap.size, 0, none⟩ = some (.string kp) := by
    rw [hw1, cell_of_row _ w.heap.size 0 _ 73 (0, 0) (heap_alloc_new w _)]; rfl
  have hk2 : w1.cell? ⟨w.heap.size, 1, none⟩ = some (.string vp) := by
    rw [hw1, cell_of_row _ w.heap.size 1 _ 73 (0, 0) (heap_alloc_new w _)]; rfl
  have HB1 := Lib.hid hb1; clear hb1
  have HK1 := Lib.hid hk1; clear hk1
  have HK2 := Lib.hid hk2; clear hk2
  go_enter Try.func35, Try.ntmps35
  go_wp2
  rw [← hw1]
  have HW1 := Lib.hid hw1; clear hw1
  go_loopw [5, 6, 11] (fun v f u wr => ∃ (j : Nat) (b : Bool) (N : List Pr), u = .int .i64 j ∧ f = .bool b ∧ j ≤ M.length ∧ N.length ≤ j + b.toNat ∧ Hid (Below w1.heap.size w1 wr) ∧ Hid (wr.ownsRow w1.heap.size 73 2 v N.length (scells N)) ∧ Hid (N ++ putGo p b (M.drop j) = put M p)) (fun _ _ u _ => M.length - (intOf u).toNat)
  case atStart => exact ⟨0, false, [], rfl, rfl, by omega, by simp, Below.refl _ _, World.ownsRow_nil _ _ _ _, rfl⟩
  case round =>
    obtain ⟨j, b, N, rfl, rfl, hj, hN, hbel, hown, hinv⟩ := hrel
    by_cases hlt : j < M.length
    · obtain ⟨bm, rfl, hbl, h1, h2⟩ := (HA.out.below (below_then HB1.out hbel.out)).at hlt
      have hqm := HM.out _ (List.getElem_mem hlt)
      obtain ⟨x, hx⟩ : ∃ s : ByteArray, s = ⟨(M[j]).1.toArray⟩ := ⟨_, rfl⟩
      obtain ⟨y, hy⟩ : ∃ s : ByteArray, s = ⟨(M[j]).2.toArray⟩ := ⟨_, rfl⟩
      rw [← hx] at h1
      rw [← hy] at h2
      obtain ⟨wq, hwq⟩ : ∃ wq, wq = wr.alloc (.cells #[.string x, .string y] 73) := ⟨_, rfl⟩
      have hbq : Below wr.heap.size wr wq := by rw [hwq]; exact (Below.refl _ _).alloc (Nat.le_refl _) _
      have hsq : wq.heap.size = wr.heap.size + 1 := by rw [hwq]; simp
      have q1 : wq.cell? ⟨wr.heap.size, 0, none⟩ = some (.string x) := by
        rw [hwq, cell_of_row _ wr.heap.size 0 _ 73 (0, 0) (heap_alloc_new wr _)]; rfl
      have q2 : wq.cell? ⟨wr.heap.size, 1, none⟩ = some (.string y) := by
        rw [hwq, cell_of_row _ wr.heap.size 1 _ 73 (0, 0) (heap_alloc_new wr _)]; rfl
      have q3 := ((below_then hbel.out hbq).cell (p := ⟨w.heap.size, 0, none⟩) hbx).trans HK1.out
      have q4 := ((below_then hbel.out hbq).cell (p := ⟨w.heap.size, 1, none⟩) hbx).trans HK2.out
      have hoq := own_keep hown.out hbq
      have HOQ := Lib.hid hoq; clear hoq
      have HBQ := Lib.hid (below_then hbel.out hbq); clear hbq
      have HSQ := Lib.hid hsq; clear hsq
      have HX := Lib.hid hx; clear hx
      have HY := Lib.hid hy; clear hy
      have HL := Lib.hid hqm; clear hqm
      have hnn : N.length ≤ 1000000000000 := by have := b.toNat_le; omega
      clear HA HM
      cases b with
      | true =>
        simp only [Bool.toNat_true] at hN
        by_cases he : (M[j]).1 = p.1
        · have hxk : x = kp := by rw [HX.out, HKP.out, he]
          have HI : Hid (N ++ putGo p true (M.drop (j + 1)) = put M p) := put_same hlt hinv.out (.inl rfl) he
          subst hxk
          subst hwq
          clear he hinv
          go_wp2_with fail
          go_roundw
          case rel => exact ⟨j + 1, true, N, by go_num, rfl, by omega, by simp; omega, HBQ.out, HOQ.out, HI.out⟩
          case measure => simp [intOf]; omega
        · have dn : (x.toList == kp.toList) = false := by rw [HX.out, HKP.out]; exact bs_ne he
          have HI : Hid ((N ++ [M[j]]) ++ putGo p true (M.drop (j + 1)) = put M p) := put_other hlt hinv.out (.inl rfl) he
          subst hwq
          clear he hinv
          go_wp2_with (at_builtin; refine list_app2B (B := w1.heap.size) (w := wr.alloc (.cells #[.string x, .string y] 73)) 28 73 _ 32 Try.underlying28 Try.info73 rfl (by decide) rfl (.tmp 34) (.tmp 36) rfl _ (N).length (scells (N)) HOQ.out (.string x) (.string y) rfl rfl rfl (by rw [World.size_alloc]; rfl) (hnn) (HBQ.out.size) ?_; intro v1 w2 ho2 hg2)
          go_roundw
          case rel =>
            refine ⟨j + 1, true, N ++ [M[j]], by go_num, rfl, by omega, by simp; omega, HBQ.out.grown hg2 HBQ.out.size (fun k hk => (HOQ.out.lt k hk).1), ?_, HI.out⟩
            rw [scells_snoc, List.length_append, ← HX.out, ← HY.out]; exact ho2
          case measure => simp [intOf]; omega
      | false =>
        simp only [Bool.toNat_false, Nat.add_zero] at hN
        have hless := less_any x kp wq (by rw [HX.out, bs_size]; exact HL.out) (by rw [HKP.out, bs_size]; exact hp)
        rw [show cmp x.data.toList kp.data.toList = cmp (M[j]).1 p.1 by rw [HX.out, HKP.out]] at hless
        by_cases hc : cmp (M[j]).1 p.1 < 0
        · rw [decide_eq_true hc] at hless
          have he := cmp_ne hc
          have dn : (x.toList == kp.toList) = false := by rw [HX.out, HKP.out]; exact bs_ne he
          have HI : Hid ((N ++ [M[j]]) ++ putGo p false (M.drop (j + 1)) = put M p) := put_other hlt hinv.out (.inr hc) he
          subst hwq
          have HLS := Lib.hid hless; clear hless
          clear he hinv hc
          go_wp2_with fail
          refine HLS.out.mono ?_
          rintro e wz ⟨rfl, hbz⟩
          have z1 := (hbz.cell (p := ⟨wr.heap.size, 0, none⟩) (by rw [HSQ.out]; exact Nat.lt_succ_self _)).trans q1
          have z2 := (hbz.cell (p := ⟨wr.heap.size, 1, none⟩) (by rw [HSQ.out]; exact Nat.lt_succ_self _)).trans q2
          have z3 := (hbz.cell (p := ⟨w.heap.size, 0, none⟩) (Nat.lt_of_lt_of_le hbx HBQ.out.size)).trans q3
          have HOZ := Lib.hid (own_keep HOQ.out hbz)
          have HBZ := Lib.hid (below_then HBQ.out hbz); clear hbz
          clear q1 q2 q3 q4 h1 h2
          go_wp2_with (at_builtin; refine list_app2B (B := w1.heap.size) (w := wz) 28 73 _ 32 Try.underlying28 Try.info73 rfl (by decide) rfl (.tmp 34) (.tmp 36) rfl _ (N).length (scells (N)) HOZ.out (.string x) (.string y) rfl rfl rfl (rfl) (hnn) (HBZ.out.size) ?_; intro v1 w2 ho2 hg2)
          go_roundw
          case rel =>
            refine ⟨j + 1, false, N ++ [M[j]], by go_num, rfl, by omega, by simp; omega, HBZ.out.grown hg2 HBZ.out.size (fun k hk => (HOZ.out.lt k hk).1), ?_, HI.out⟩
            rw [scells_snoc, List.length_append, ← HX.out, ← HY.out]; exact ho2
          case measure => simp [intOf]; omega
        · rw [decide_eq_false hc] at hless
          have HI : Hid (((N ++ [p]) ++ if (M[j]).1 = p.1 then [] else [M[j]]) ++ putGo p true (M.drop (j + 1)) = put M p) := put_in hlt hinv.out hc
          subst hwq
          have HLS := Lib.hid hless; clear hless
          clear hinv hc
          have hlow : ∀ k, u5.ownBlock = some k → k ≠ wr.heap.size ∧ k ≠ w.heap.size := fun k hk => ⟨Nat.ne_of_lt (hown.out.lt k hk).2, by have := (hown.out.lt k hk).1; omega⟩
          have HLOW := Lib.hid hlow; clear hlow
          by_cases he : (M[j]).1 = p.1
          · have hxk : x = kp := by rw [HX.out, HKP.out, he]
            have HI2 : Hid ((N ++ [p]) ++ putGo p true (M.drop (j + 1)) = put M p) := by
              have h := HI.out
              rw [if_pos he, List.append_nil] at h
              exact h
            subst hxk
            clear he HI
            go_wp2_with fail
            refine HLS.out.mono ?_
            rintro e wz ⟨rfl, hbz⟩
            have z1 := (hbz.cell (p := ⟨wr.heap.size, 0, none⟩) (by rw [HSQ.out]; exact Nat.lt_succ_self _)).trans q1
            have z2 := (hbz.cell (p := ⟨wr.heap.size, 1, none⟩) (by rw [HSQ.out]; exact Nat.lt_succ_self _)).trans q2
            have z3 := (hbz.cell (p := ⟨w.heap.size, 0, none⟩) (Nat.lt_of_lt_of_le hbx HBQ.out.size)).trans q3
            have z4 := (hbz.cell (p := ⟨w.heap.size, 1, none⟩) (Nat.lt_of_lt_of_le hbx HBQ.out.size)).trans q4
            have HOZ := Lib.hid (own_keep HOQ.out hbz)
            have HBZ := Lib.hid (below_then HBQ.out hbz); clear hbz
            clear q1 q2 q3 q4 h1 h2
            go_wp2_with (at_builtin; refine list_app2B (B := w1.heap.size) (w := wz) 28 73 _ 32 Try.underlying28 Try.info73 rfl (by decide) rfl (.tmp 25) (.tmp 27) rfl _ (N).length (scells (N)) HOZ.out (.string x) (.string vp) rfl rfl rfl (rfl) (hnn) (HBZ.out.size) ?_; intro v1 w2 ho2 hg2; have y1 := hg2.cell z1 (fun e => (HLOW.out _ e.symm).1 rfl); have y2 := hg2.cell z2 (fun e => (HLOW.out _ e.symm).1 rfl); have y3 := hg2.cell z3 (fun e => (HLOW.out _ e.symm).2 rfl))
            go_roundw
            case rel =>
              refine ⟨j + 1, true, N ++ [p], by go_num, rfl, by omega, by simp; omega, HBZ.out.grown hg2 HBZ.out.size (fun k hk => (HOZ.out.lt k hk).1), ?_, HI2.out⟩
              rw [scells_snoc, List.length_append, ← HKP.out, ← HVP.out]; exact ho2
            case measure => simp [intOf]; omega
          · have dn : (x.toList == kp.toList) = false := by rw [HX.out, HKP.out]; exact bs_ne he
            have HI2 : Hid (((N ++ [p]) ++ [M[j]]) ++ putGo p true (M.drop (j + 1)) = put M p) := by
              have h := HI.out
              rw [if_neg he] at h
              exact h
            have HMK : Hid (∀ (v : Value) (W : World), W.ownsRow w1.heap.size 73 2 v (N.length + 1) (scells N ++ [.string kp, .string vp]) → W.ownsRow w1.heap.size 73 2 v (N ++ [p]).length (scells (N ++ [p]))) := by
              intro v W h
              rw [scells_snoc, List.length_append, ← HKP.out, ← HVP.out]; exact h
            have hnn2 : (N ++ [p]).length ≤ 1000000000000 := by simp; omega
            have HN2 := Lib.hid hnn2; clear hnn2
            clear he HI
            go_wp2_with fail
            refine HLS.out.mono ?_
            rintro e wz ⟨rfl, hbz⟩
            have z1 := (hbz.cell (p := ⟨wr.heap.size, 0, none⟩) (by rw [HSQ.out]; exact Nat.lt_succ_self _)).trans q1
            have z2 := (hbz.cell (p := ⟨wr.heap.size, 1, none⟩) (by rw [HSQ.out]; exact Nat.lt_succ_self _)).trans q2
            have z3 := (hbz.cell (p := ⟨w.heap.size, 0, none⟩) (Nat.lt_of_lt_of_le hbx HBQ.out.size)).trans q3
            have z4 := (hbz.cell (p := ⟨w.heap.size, 1, none⟩) (Nat.lt_of_lt_of_le hbx HBQ.out.size)).trans q4
            have HOZ := Lib.hid (own_keep HOQ.out hbz)
            have HBZ := Lib.hid (below_then HBQ.out hbz); clear hbz
            clear q1 q2 q3 q4 h1 h2
            go_wp2_with (first
              | (at_builtin; refine list_app2B (B := w1.heap.size) (w := wz) 28 73 _ 32 Try.underlying28 Try.info73 rfl (by decide) rfl (.tmp 25) (.tmp 27) rfl _ (N).length (scells (N)) HOZ.out (.string kp) (.string vp) rfl rfl rfl (rfl) (hnn) (HBZ.out.size) ?_; intro v1 w2 ho2 hg2; have y1 := hg2.cell z1 (fun e => (HLOW.out _ e.symm).1 rfl); have y2 := hg2.cell z2 (fun e => (HLOW.out _ e.symm).1 rfl); have y3 := hg2.cell z3 (fun e => (HLOW.out _ e.symm).2 rfl); have HO2 := Lib.hid (HMK.out _ _ ho2); have HB2 := Lib.hid (HBZ.out.grown hg2 HBZ.out.size (fun k hk => (HOZ.out.lt k hk).1)))
              | (at_builtin; refine list_app2B (B := w1.heap.size) (w := w2) 28 73 _ 32 Try.underlying28 Try.info73 rfl (by decide) rfl (.tmp 34) (.tmp 36) rfl _ (N ++ [p]).length (scells (N ++ [p])) HO2.out (.string x) (.string y) rfl rfl rfl (rfl) HN2.out (HB2.out.size) ?_; intro v3 w3 ho3 hg3))
            go_roundw
            case rel =>
              refine ⟨j + 1, true, (N ++ [p]) ++ [M[j]], by go_num, rfl, by omega, by simp; omega, HB2.out.grown hg3 HB2.out.size (fun k hk => (HO2.out.lt k hk).1), ?_, HI2.out⟩
              rw [scells_snoc, List.length_append, ← HX.out, ← HY.out]; exact ho3
            case measure => simp [intOf]; omega
    · obtain rfl : j = M.length := by omega
      cases b with
      | true =>
        obtain rfl := put_end' hinv.out
        have hoo := hown.out
        obtain ⟨A2, c2, rfl, hp2⟩ := rcs_own hoo
        have HP := Lib.hid hp2; clear hp2
        have HNW := Lib.hid (own_new hoo); clear hoo
        go_wp2_with fail
        go_ret
        exact ⟨A2, c2, rfl, HP.out, HNW.out.less HB1.out.size, below_then HB1.out hbel.out⟩
      | false =>
        have HNN : Hid (N.length ≤ 1000000000000) := by simp only [Bool.toNat_false, Nat.add_zero] at hN; show _ ≤ _; omega
        have he := put_end hinv.out
        have HE := Lib.hid he; clear he
        have c1 := (hbel.out.cell (p := ⟨w.heap.size, 0, none⟩) hbx).trans HK1.out
        have c2 := (hbel.out.cell (p := ⟨w.heap.size, 1, none⟩) hbx).trans HK2.out
        go_wp2_with (at_builtin; refine list_app2B (B := w1.heap.size) (w := wr) 28 73 _ 32 Try.underlying28 Try.info73 rfl (by decide) rfl (.tmp 41) (.tmp 43) rfl _ N.length (scells N) hown.out (.string kp) (.string vp) rfl rfl rfl rfl HNN.out hbel.out.size ?_; intro v1 w1' hb1 hs1)
        have hb2 : w1'.ownsRow w1.heap.size 73 2 v1 (put M p).length (scells (put M p)) := by
          rw [← HE.out, scells_snoc, List.length_append, ← HKP.out, ← HVP.out]; exact hb1
        obtain ⟨A2, c2, rfl, hp2⟩ := rcs_own hb2
        go_ret
        exact ⟨A2, c2, rfl, hp2, (own_new hb2).less HB1.out.size, below_then HB1.out (hbel.out.grown hs1 hbel.out.size (fun k hk => (hown.out.lt k hk).1))⟩
theorem refIsB {w : World} {A B : Option Addr} {L M : List Pr} (ha : Pcs w A L) (hb : Rcs w B M) (c d : Nat) (hlen : M.length ≤ 1000000000000) :
    Calls Try.prog 14 #[.slice A L.length c, .slice B M.length d] w fun e w' => e = .returned (.bool (decide (L = M))) ∧ Below w.heap.size w w' := by
  have HA := Lib.hid ha; clear ha
  have HM := Lib.hid hb; clear hb
  by_cases hl : L.length = M.length
  · have d0 : (((L.length : Nat) : Int) != ((M.length : Nat) : Int)) = false := by simp; omega
    have HL := Lib.hid hl; clear hl
    go_enter Try.func14, Try.ntmps14
    go_wp2
    go_loopw [13] (fun i wr => ∃ j : Nat, i = .int .i64 j ∧ j ≤ M.length ∧ Hid (Below w.heap.size w wr) ∧ Hid (L.take j = M.take j)) (fun i _ => M.length - (intOf i).toNat)
    case atStart => exact ⟨0, rfl, by omega, Below.refl _ _, by simp [Hid]⟩
    case round =>
      obtain ⟨j, rfl, hj, hbel, htk⟩ := hrel
      by_cases hlt2 : j < M.length
      · have hlt : j < L.length := by have := HL.out; omega
        obtain ⟨b, off, ka, kc, va, vc, rfl, hbl, h1, h2, h3, h4⟩ := (HA.out.below hbel.out).at hlt
        obtain ⟨b', rfl, hbl', k1, k2⟩ := (HM.out.below hbel.out).at hlt2
        have v1 : ∀ q, _ := fun q => conv_any (h3.below (below_drewN (Below.refl _ _) q)) kc
        have v2 : ∀ q, _ := fun q => conv_any (h4.below (below_drewN (Below.refl _ _) q)) vc
        obtain ⟨x1, hx1⟩ : ∃ x : Nat, x = (L[j]).1.length := ⟨_, rfl⟩
        obtain ⟨x2, hx2⟩ : ∃ x : Nat, x = (L[j]).2.length := ⟨_, rfl⟩
        obtain ⟨s, hs⟩ : ∃ s : ByteArray, s = ⟨(L[j]).1.toArray⟩ := ⟨_, rfl⟩
        obtain ⟨t, ht⟩ : ∃ s : ByteArray, s = ⟨(L[j]).2.toArray⟩ := ⟨_, rfl⟩
        obtain ⟨s', hs'⟩ : ∃ s : ByteArray, s = ⟨(M[j]).1.toArray⟩ := ⟨_, rfl⟩
        obtain ⟨t', ht'⟩ : ∃ s : ByteArray, s = ⟨(M[j]).2.toArray⟩ := ⟨_, rfl⟩
        simp only [← hx1, ← hx2, ← hs, ← ht, ← hs', ← ht'] at h1 h2 k1 k2 v1 v2
        clear h3 h4 hx1 hx2 HA HM
        by_cases he1 : (L[j]).1 = (M[j]).1
        · have e1 : s = s' := by rw [hs, hs', he1]
          subst e1
          by_cases he2 : (L[j]).2 = (M[j]).2
          · have e2 : t = t' := by rw [ht, ht', he2]
            subst e2
            have HE : Hid (L[j] = M[j]) := Prod.ext he1 he2
            clear hs ht hs' ht' he1 he2
            go_wp2_with fail
            go_quiet (fail)
            go_wp2_with fail
            go_roundw
            case rel => exact ⟨j + 1, by go_num, by omega, below_drewN hbel.out _, take_more' htk.out hlt hlt2 HE.out⟩
            case measure => simp [intOf]; omega
          · have e2 : (t.toList == t'.toList) = false := by rw [ht, ht']; exact bs_ne he2
            have e3 : (t.toList != t'.toList) = true := by simp [bne, e2]
            have HE := Lib.hid (no_eq hlt hlt2 fun e => he2 (by rw [e]))
            clear hs ht hs' ht' he1 he2
            go_wp2_with fail
            go_quiet (fail)
            go_wp2_with fail
            go_ret
            exact ⟨ret_bool HE.out.symm, below_drewN hbel.out _⟩
        · have e2 : (s.toList == s'.toList) = false := by rw [hs, hs']; exact bs_ne he1
          have e3 : (s.toList != s'.toList) = true := by simp [bne, e2]
          have HE := Lib.hid (no_eq hlt hlt2 fun e => he1 (by rw [e]))
          clear hs ht hs' ht' he1
          go_wp2_with fail
          go_quiet (fail)
          go_wp2_with fail
          go_ret
          exact ⟨ret_bool HE.out.symm, below_drewN hbel.out _⟩
      · obtain rfl : j = M.length := by omega
        have e : L = M := by
          have h := htk.out
          rw [List.take_length, ← HL.out, List.take_length] at h
          exact h
        have HE := Lib.hid (decide_eq_true e); clear e
        go_wp2_with fail
        go_ret
        exact ⟨ret_bool HE.out.symm, hbel.out⟩
  · have d0 : (((L.length : Nat) : Int) != ((M.length : Nat) : Int)) = true := by simp; omega
    have e : decide (L = M) = false := decide_eq_false fun e => hl (by rw [e])
    rw [e]
    go_enter Try.func14, Try.ntmps14
    go_wp2
    go_ret
    exact ⟨rfl, Below.refl _ _⟩
end Go.Proofs.Ytfhnmmiakknilaa
namespace Go.Proofs.Ytfhnmmiakknilaa
set_option maxHeartbeats 400000
/-- the lists up to n, one behind the other -/
def catP (f : Nat → List Pr) : Nat → List Pr
  | 0 => []
  | n + 1 => catP f n ++ f n
/-- all pairs, child by child -/
def Nd.flat : Nd → List Pr
  | .none => []
  | .leaf _ p => [p]
  | .buck _ L => L
  | .bran _ k kid => catP (fun i => (kid i).flat) k
/-- what comes of the first so many children -/
def putTo (f : Nat → List Pr) : Nat → List Pr
  | 0 => []
  | n + 1 => (f n).foldl put (putTo f n)
/-- all pairs, by the document -/
def Nd.all : Nd → List Pr
  | .none => []
  | .leaf _ p => [p]
  | .buck _ L => L.foldl put []
  | .bran _ k kid => putTo (fun i => (kid i).all) k
theorem all_eq (x : Nd) (h : x.ok) : x.all = putTo (fun i => (x.kid i).all) x.num ∨ x.num = 0 := by
  cases x with
  | bran m k kid => exact .inl rfl
  | _ => exact .inr rfl
theorem all_bran (x : Nd) (h : x.num ≠ 0) : x.all = putTo (fun i => (x.kid i).all) x.num ∧ x.prs = [] := by
  cases x with
  | bran m k kid => exact ⟨rfl, rfl⟩
  | _ => exact absurd rfl h
theorem all_own (x : Nd) (h : x.num = 0) (ho : x.ok) : x.all = x.prs.foldl put [] := by
  cases x with
  | bran m k kid => have := ho.2.1; simp only [Nd.num] at h; omega
  | none => rfl
  | leaf h' p => rfl
  | buck h' L => rfl
theorem flat_cnt : ∀ x : Nd, x.flat.length = x.cnt
  | .none => rfl
  | .leaf _ _ => rfl
  | .buck _ _ => rfl
  | .bran _ k kid => by
    have key : ∀ n, (catP (fun i => (kid i).flat) n).length = sumTo (fun i => (kid i).cnt) n := by
      intro n
      induction n with
      | zero => rfl
      | succ n ih => rw [catP, List.length_append, ih, flat_cnt (kid n), sumTo]
    exact key k
theorem put_perm (p : Pr) : ∀ m : List Pr, (putGo p false m).Perm (p :: m.filter fun q => decide (q.1 ≠ p.1))
  | [] => List.Perm.refl _
  | q :: m => by
    rw [putGo_step]
    by_cases h : cmp q.1 p.1 < 0
    · have hne : q.1 ≠ p.1 := cmp_ne h
      have ih := put_perm p m
      simp only [h, decide_true, Bool.not_true, Bool.and_false, Bool.or_self, if_neg hne, Bool.false_eq_true, if_false, List.nil_append, List.cons_append, List.filter_cons, decide_not, decide_eq_false hne, Bool.not_false, if_true]
      simp only [decide_not] at ih
      exact (ih.cons q).trans (List.Perm.swap p q _)
    · have h2 : putGo p true m = m.filter fun q => decide (q.1 ≠ p.1) := putGo_true p m
      simp only [h, decide_false, Bool.not_false, Bool.and_self, Bool.or_true, if_true, h2, List.cons_append, List.nil_append, List.filter_cons]
      refine List.Perm.cons p ?_
      by_cases e : q.1 = p.1
      · simp [e]
      · simp [e]
theorem put_cases (m : List Pr) (p : Pr) (_h : srt m) : (put m p).length ≤ m.length + 1 ∧ ((put m p).length = m.length + 1 → (put m p).Perm (p :: m)) := by
  refine ⟨put_length m p, fun e => ?_⟩
  have hp := put_perm p m
  have hl := hp.length_eq
  rw [List.length_cons] at hl
  have hf : (m.filter fun q => decide (q.1 ≠ p.1)) = m := List.filter_eq_self.2 (List.length_filter_eq_length_iff.1 (by have : (put m p).length = (putGo p false m).length := rfl; omega))
  rw [hf] at hp
  exact hp
theorem fold_cases : ∀ (l m : List Pr), srt m → srt (l.foldl put m) ∧ (l.foldl put m).length ≤ m.length + l.length ∧ ((l.foldl put m).length = m.length + l.length → (l.foldl put m).Perm (m ++ l))
  | [], m, h => ⟨h, Nat.le_refl _, fun _ => by rw [List.append_nil]; exact List.Perm.refl _⟩
  | p :: l, m, h => by
    obtain ⟨h1, h2⟩ := put_cases m p h
    obtain ⟨h3, h4, h5⟩ := fold_cases l (put m p) (srt_put p m h)
    refine ⟨h3, ?_, fun e => ?_⟩
    · rw [List.foldl_cons, List.length_cons]; omega
    · rw [List.foldl_cons, List.length_cons] at e
      rw [List.foldl_cons]
      refine (h5 (by omega)).trans ?_
      refine ((h2 (by omega)).append_right l).trans ?_
      exact (List.perm_middle (a := p) (l₁ := m) (l₂ := l)).symm
theorem putTo_cases (f : Nat → List Pr) (g : Nat → List Pr) (k : Nat) (hf : ∀ i, i < k → (f i).length ≤ (g i).length ∧ ((f i).length = (g i).length → (f i).Perm (g i))) :
    ∀ n, n ≤ k → srt (putTo f n) ∧ (putTo f n).length ≤ (catP g n).length ∧ ((putTo f n).length = (catP g n).length → (putTo f n).Perm (catP g n))
  | 0, _ => ⟨List.Pairwise.nil, Nat.le_refl _, fun _ => List.Perm.refl _⟩
  | n + 1, hn => by
    obtain ⟨h1, h2, h3⟩ := putTo_cases f g k hf n (by omega)
    obtain ⟨h4, h5, h6⟩ := fold_cases (f n) (putTo f n) h1
    obtain ⟨h7, h8⟩ := hf n (by omega)
    refine ⟨h4, ?_, fun e => ?_⟩
    · rw [putTo, catP, List.length_append]; omega
    · rw [putTo, catP, List.length_append] at e
      rw [putTo, catP]
      refine (h6 (by omega)).trans ((h3 (by omega)).append (h8 (by omega)))
theorem all_cases : ∀ x : Nd, x.ok → srt x.all ∧ x.all.length ≤ x.flat.length ∧ (x.all.length = x.flat.length → x.all.Perm x.flat)
  | .none, _ => ⟨List.Pairwise.nil, Nat.le_refl _, fun _ => List.Perm.refl _⟩
  | .leaf _ p, _ => ⟨List.pairwise_singleton _ _, Nat.le_refl _, fun _ => List.Perm.refl _⟩
  | .buck _ L, ho => by
    have h := fold_cases L [] List.Pairwise.nil
    rw [List.nil_append, List.length_nil, Nat.zero_add] at h
    exact h
  | .bran m k kid, ho => putTo_cases (fun i => (kid i).all) (fun i => (kid i).flat) k (fun i hi => (all_cases (kid i) (ho.2.2.2 i hi).2).2) k (Nat.le_refl _)
/-- keys and values of all pairs are short -/
theorem flat_fits : ∀ x : Nd, x.ok → Fits x.flat
  | .none, _ => fits_nil
  | .leaf _ p, ho => fun q hq => by
    obtain rfl : q = p := by simpa [Nd.flat] using hq
    exact ho.2
  | .buck _ L, ho => ho.2.2.2.2
  | .bran m k kid, ho => by
    have key : ∀ n, n ≤ k → Fits (catP (fun i => (kid i).flat) n) := by
      intro n
      induction n with
      | zero => intro _; exact fits_nil
      | succ n ih =>
        intro hn q hq
        rw [catP, List.mem_append] at hq
        rcases hq with hq | hq
        · exact ih (by omega) q hq
        · exact flat_fits (kid n) (ho.2.2.2 n (by omega)).2 q hq
    exact key k (Nat.le_refl _)
theorem fold_fits : ∀ (l m : List Pr), Fits l → Fits m → Fits (l.foldl put m)
  | [], _, _, h => h
  | p :: l, m, h1, h2 => fold_fits l (put m p) (fun q hq => h1 q (List.mem_cons_of_mem _ hq)) fun q hq => by
    rcases (mem_put p q m).1 hq with rfl | ⟨h3, _⟩
    · exact h1 q List.mem_cons_self
    · exact h2 q h3
theorem putTo_fits (f : Nat → List Pr) (k : Nat) (hf : ∀ i, i < k → Fits (f i)) : ∀ n, n ≤ k → Fits (putTo f n)
  | 0, _ => fits_nil
  | n + 1, hn => fold_fits _ _ (hf n (by omega)) (putTo_fits f k hf n (by omega))
theorem all_fits : ∀ x : Nd, x.ok → Fits x.all
  | .none, _ => fits_nil
  | .leaf _ p, ho => fun q hq => by
    obtain rfl : q = p := by simpa [Nd.all] using hq
    exact ho.2
  | .buck _ L, ho => fold_fits L [] ho.2.2.2.2 fits_nil
  | .bran m k kid, ho => putTo_fits _ k (fun i hi => all_fits (kid i) (ho.2.2.2 i hi).2) k (Nat.le_refl _)
/-- what is sorted by keys, and has just the pairs of a list of unlike keys, is that list -/
theorem sorted_is {a b : List Pr} (hb : srt b) (hp : a.Perm b) (ha : a.Pairwise fun p q => ¬ cmp q.1 p.1 < 0) : a = b := by
  refine srt_ext a b ?_ hb fun q => hp.mem_iff
  have hn : b.Pairwise fun p q => p.1 ≠ q.1 := hb.imp fun h => cmp_ne h
  have hn2 : a.Pairwise fun p q => p.1 ≠ q.1 := (hp.pairwise_iff fun h e => h e.symm).2 hn
  exact (ha.and hn2).imp fun ⟨h1, h2⟩ => by
    rcases Int.lt_or_le (cmp _ _) 0 with h | h
    · exact h
    · exfalso
      exact h1 (cmp_or (by omega) h2)
end Go.Proofs.Ytfhnmmiakknilaa
