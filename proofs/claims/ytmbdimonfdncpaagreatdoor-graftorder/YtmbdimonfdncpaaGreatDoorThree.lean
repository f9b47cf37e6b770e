/-
  Out of elder texts.
-/
import Derived.Test.YtmbdimonfdncpaaGreatDoorRefz
import Derived.Test.YtmbdimonfdncpaaGreatDoorKins
import Derived.Test.YtmbdimonfdncpaaGreatDoorOpen
import Derived.Test.YtmbdimonfdncpaaGreatDoorBits
import Derived.Test.YtmbdimonfdncpaaGreatDoorNods
import Derived.Test.YtmbdimonfdncpaaGreatDoorPlain
import Derived.Laws.StructEq
namespace Go.Proofs.YtmbdimonfdncpaaGreatDoor
open Go.RowKit
set_option maxHeartbeats 400000
set_option maxRecDepth 100000
theorem less_any (a b : ByteArray) (w : World) (ha : a.size ≤ 1000) (hb : b.size ≤ 1000) :
    Calls Tryz.prog 16 #[.string a, .string b] w fun e w' => e = .returned (.bool (decide (cmp a.data.toList b.data.toList < 0))) ∧ Below w.heap.size w w' := by
  go_enter Tryz.func16, Tryz.ntmps16
  go_wp2
  go_loopw [5] (fun i wr => ∃ j : Nat, i = .int .i64 j ∧ j ≤ a.size ∧ j ≤ b.size ∧ Hid (Below w.heap.size w wr) ∧ Hid (a.data.toList.take j = b.data.toList.take j)) (fun i _ => a.size - (intOf i).toNat)
  case atStart => exact ⟨0, rfl, by omega, by omega, Below.refl _ _, by simp [Hid]⟩
  case round =>
    obtain ⟨j, rfl, hj1, hj2, hbel, htk⟩ := hrel
    have ea : a.data.toList.length = a.size := (Lib.size_eq a).symm
    have eb : b.data.toList.length = b.size := (Lib.size_eq b).symm
    by_cases h1 : j < a.size
    · by_cases h2 : j < b.size
      · by_cases h3 : (a[j]'h1).toNat = (b[j]'h2).toNat
        · have e3 : ((((a[j]'h1).toNat : Int)) != (((b[j]'h2).toNat : Int))) = false := by rw [h3]; simp
          have H3 := Lib.hid h3; clear h3
          go_wp2
          go_quiet (fail)
          go_wp2
          go_roundw
          case rel =>
            refine ⟨j + 1, by go_num, by omega, by omega, ?_, ?_⟩
            · exact below_drewN hbel.out _
            · show _ = _
              refine take_next htk.out (by omega) (by omega) ?_
              rw [at_list a j h1, at_list b j h2]
              exact UInt8.toNat_inj.1 H3.out
          case measure => simp [intOf]; omega
        · have e3 : ((((a[j]'h1).toNat : Int)) != (((b[j]'h2).toNat : Int))) = true := by simp; omega
          have hs := cmp_stop htk.out (by omega) (by omega) (by
            rw [at_list a j h1, at_list b j h2]
            exact fun e => h3 (by rw [e]))
          rw [at_list a j h1, at_list b j h2] at hs
          have HS := Lib.hid hs; clear hs
          have H3 := Lib.hid h3; clear h3
          go_wp2
          go_quiet (fail)
          go_wp2
          go_quiet (fail)
          go_wp2
          go_ret
          refine ⟨ret_bool ?_, below_drewN (below_drewN hbel.out _) _⟩
          rw [HS.out]
          split <;> simp <;> omega
      · go_wp2
        go_ret
        refine ⟨ret_bool ?_, hbel.out⟩
        rw [cmp_end htk.out (by omega)]
        simp
    · go_wp2
      go_ret
      refine ⟨ret_bool ?_, hbel.out⟩
      rw [cmp_end htk.out (by omega)]
      simp
theorem refPut_any {w : World} {A : Option Addr} {M : List Pr} (p : Pr) (ha : Rcs w A M) (c : Nat) (hlen : M.length ≤ 900) (hp : p.1.length ≤ 1000) (hm : ∀ q ∈ M, q.1.length ≤ 1000) :
    Calls Tryz.prog 7 #[.slice A M.length c, .agg #[.string ⟨p.1.toArray⟩, .string ⟨p.2.toArray⟩]] w fun e w' => ∃ A' c', e = .returned (.slice A' (put M p).length c') ∧ Rcs w' A' (put M p) ∧ NewIn w.heap.size w' A' ∧ Below w.heap.size w w' := by
  obtain ⟨kp, hkp⟩ : ∃ s : ByteArray, s = ⟨p.1.toArray⟩ := ⟨_, rfl⟩
  obtain ⟨vp, hvp⟩ : ∃ s : ByteArray, s = ⟨p.2.toArray⟩ := ⟨_, rfl⟩
  rw [← hkp, ← hvp]
  have HA := Lib.hid ha; clear ha
  have HM := Lib.hid hm; clear hm
  have HKP := Lib.hid hkp; clear hkp
  have HVP := Lib.hid hvp; clear hvp
  obtain ⟨w1, hw1⟩ : ∃ w1, w1 = w.alloc (.cells #[.string kp, .string vp] 32) := ⟨_, rfl⟩
  have hb1 : Below w.heap.size w w1 := by rw [hw1]; exact (Below.refl _ _).alloc (Nat.le_refl _) _
  have hbx : w.heap.size < w1.heap.size := by rw [hw1]; simp
  have hk1 : w1.cell? ⟨w.heap.size, 0, none⟩ = some (.string kp) := by
    rw [hw1, cell_of_row _ w.heap.size 0 _ 32 (0, 0) (heap_alloc_new w _)]; rfl
  have hk2 : w1.cell? ⟨w.heap.size, 1, none⟩ = some (.string vp) := by
    rw [hw1, cell_of_row _ w.heap.size 1 _ 32 (0, 0) (heap_alloc_new w _)]; rfl
  have HB1 := Lib.hid hb1; clear hb1
  have HK1 := Lib.hid hk1; clear hk1
  have HK2 := Lib.hid hk2; clear hk2
  go_enter Tryz.func7, Tryz.ntmps7
  go_wp2
  rw [← hw1]
  have HW1 := Lib.hid hw1; clear hw1
  go_loopw [5, 6, 11] (fun v f u wr => ∃ (j : Nat) (b : Bool) (N : List Pr), u = .int .i64 j ∧ f = .bool b ∧ j ≤ M.length ∧ N.length ≤ j + b.toNat ∧ Hid (Below w1.heap.size w1 wr) ∧ Hid (wr.ownsRow w1.heap.size 32 2 v N.length (scells N)) ∧ Hid (N ++ putGo p b (M.drop j) = put M p)) (fun _ _ u _ => M.length - (intOf u).toNat)
  case atStart => exact ⟨0, false, [], rfl, rfl, by omega, by simp, Below.refl _ _, World.ownsRow_nil _ _ _ _, rfl⟩
  case round =>
    obtain ⟨j, b, N, rfl, rfl, hj, hN, hbel, hown, hinv⟩ := hrel
    by_cases hlt : j < M.length
    · obtain ⟨bm, rfl, hbl, h1, h2⟩ := (HA.out.below (below_then HB1.out hbel.out)).at hlt
      have hqm := HM.out _ (List.getElem_mem hlt)
      obtain ⟨x, hx⟩ : ∃ s : ByteArray, s = ⟨(M[j]).1.toArray⟩ := ⟨_, rfl⟩
      obtain ⟨y, hy⟩ : ∃ s : ByteArray, s = ⟨(M[j]).2.toArray⟩ := ⟨_, rfl⟩
      rw [← hx] at h1
      rw [← hy] at h2
      obtain ⟨wq, hwq⟩ : ∃ wq, wq = wr.alloc (.cells #[.string x, .string y] 32) := ⟨_, rfl⟩
      have hbq : Below wr.heap.size wr wq := by rw [hwq]; exact (Below.refl _ _).alloc (Nat.le_refl _) _
      have hsq : wq.heap.size = wr.heap.size + 1 := by rw [hwq]; simp
      have q1 : wq.cell? ⟨wr.heap.size, 0, none⟩ = some (.string x) := by
        rw [hwq, cell_of_row _ wr.heap.size 0 _ 32 (0, 0) (heap_alloc_new wr _)]; rfl
      have q2 : wq.cell? ⟨wr.heap.size, 1, none⟩ = some (.string y) := by
        rw [hwq, cell_of_row _ wr.heap.size 1 _ 32 (0, 0) (heap_alloc_new wr _)]; rfl
      have q3 := ((below_then hbel.out hbq).cell (p := ⟨w.heap.size, 0, none⟩) hbx).trans HK1.out
      have q4 := ((below_then hbel.out hbq).cell (p := ⟨w.heap.size, 1, none⟩) hbx).trans HK2.out
      have hoq := own_keep hown.out hbq
      have HOQ := Lib.hid hoq; clear hoq
      have HBQ := Lib.hid (below_then hbel.out hbq); clear hbq
      have HSQ := Lib.hid hsq; clear hsq
      have HX := Lib.hid hx; clear hx
      have HY := Lib.hid hy; clear hy
      have HL := Lib.hid hqm; clear hqm
      have hnn : N.length ≤ 1000 := by have := b.toNat_le; omega
      clear HA HM
      cases b with
      | true =>
        simp only [Bool.toNat_true] at hN
        by_cases he : (M[j]).1 = p.1
        · have hxk : x = kp := by rw [HX.out, HKP.out, he]
          have HI : Hid (N ++ putGo p true (M.drop (j + 1)) = put M p) := put_same hlt hinv.out (.inl rfl) he
          subst hxk
          subst hwq
          clear he hinv
          go_wp2_with fail
          go_roundw
          case rel => exact ⟨j + 1, true, N, by go_num, rfl, by omega, by simp; omega, HBQ.out, HOQ.out, HI.out⟩
          case measure => simp [intOf]; omega
        · have dn : (x.toList == kp.toList) = false := by rw [HX.out, HKP.out]; exact bs_ne he
          have HI : Hid ((N ++ [M[j]]) ++ putGo p true (M.drop (j + 1)) = put M p) := put_other hlt hinv.out (.inl rfl) he
          subst hwq
          clear he hinv
          go_wp2_with (at_builtin; refine list_app2 (B := w1.heap.size) (w := wr.alloc (.cells #[.string x, .string y] 32)) 26 32 _ 32 Tryz.underlying26 Tryz.info60 rfl (by decide) rfl (.tmp 34) (.tmp 36) rfl _ (N).length (scells (N)) HOQ.out (.string x) (.string y) rfl rfl rfl (by rw [World.size_alloc]; rfl) (hnn) (HBQ.out.size) ?_; intro v1 w2 ho2 hg2)
          go_roundw
          case rel =>
            refine ⟨j + 1, true, N ++ [M[j]], by go_num, rfl, by omega, by simp; omega, HBQ.out.grown hg2 HBQ.out.size (fun k hk => (HOQ.out.lt k hk).1), ?_, HI.out⟩
            rw [scells_snoc, List.length_append, ← HX.out, ← HY.out]; exact ho2
          case measure => simp [intOf]; omega
      | false =>
        simp only [Bool.toNat_false, Nat.add_zero] at hN
        have hless := less_any x kp wq (by rw [HX.out, bs_size]; exact HL.out) (by rw [HKP.out, bs_size]; exact hp)
        rw [show cmp x.data.toList kp.data.toList = cmp (M[j]).1 p.1 by rw [HX.out, HKP.out]] at hless
        by_cases hc : cmp (M[j]).1 p.1 < 0
        · rw [decide_eq_true hc] at hless
          have he := cmp_ne hc
          have dn : (x.toList == kp.toList) = false := by rw [HX.out, HKP.out]; exact bs_ne he
          have HI : Hid ((N ++ [M[j]]) ++ putGo p false (M.drop (j + 1)) = put M p) := put_other hlt hinv.out (.inr hc) he
          subst hwq
          have HLS := Lib.hid hless; clear hless
          clear he hinv hc
          go_wp2_with fail
          refine HLS.out.mono ?_
          rintro e wz ⟨rfl, hbz⟩
          have z1 := (hbz.cell (p := ⟨wr.heap.size, 0, none⟩) (by rw [HSQ.out]; exact Nat.lt_succ_self _)).trans q1
          have z2 := (hbz.cell (p := ⟨wr.heap.size, 1, none⟩) (by rw [HSQ.out]; exact Nat.lt_succ_self _)).trans q2
          have z3 := (hbz.cell (p := ⟨w.heap.size, 0, none⟩) (Nat.lt_of_lt_of_le hbx HBQ.out.size)).trans q3
          have HOZ := Lib.hid (own_keep HOQ.out hbz)
          have HBZ := Lib.hid (below_then HBQ.out hbz); clear hbz
          clear q1 q2 q3 q4 h1 h2
          go_wp2_with (at_builtin; refine list_app2 (B := w1.heap.size) (w := wz) 26 32 _ 32 Tryz.underlying26 Tryz.info60 rfl (by decide) rfl (.tmp 34) (.tmp 36) rfl _ (N).length (scells (N)) HOZ.out (.string x) (.string y) rfl rfl rfl (rfl) (hnn) (HBZ.out.size) ?_; intro v1 w2 ho2 hg2)
          go_roundw
          case rel =>
            refine ⟨j + 1, false, N ++ [M[j]], by go_num, rfl, by omega, by simp; omega, HBZ.out.grown hg2 HBZ.out.size (fun k hk => (HOZ.out.lt k hk).1), ?_, HI.out⟩
            rw [scells_snoc, List.length_append, ← HX.out, ← HY.out]; exact ho2
          case measure => simp [intOf]; omega
        · rw [decide_eq_false hc] at hless
          have HI : Hid (((N ++ [p]) ++ if (M[j]).1 = p.1 then [] else [M[j]]) ++ putGo p true (M.drop (j + 1)) = put M p) := put_in hlt hinv.out hc
          subst hwq
          have HLS := Lib.hid hless; clear hless
          clear hinv hc
          have hlow : ∀ k, u5.ownBlock = some k → k ≠ wr.heap.size ∧ k ≠ w.heap.size := fun k hk => ⟨Nat.ne_of_lt (hown.out.lt k hk).2, by have := (hown.out.lt k hk).1; omega⟩
          have HLOW := Lib.hid hlow; clear hlow
          by_cases he : (M[j]).1 = p.1
          · have hxk : x = kp := by rw [HX.out, HKP.out, he]
            have HI2 : Hid ((N ++ [p]) ++ putGo p true (M.drop (j + 1)) = put M p) := by
              have h := HI.out
              rw [if_pos he, List.append_nil] at h
              exact h
            subst hxk
            clear he HI
            go_wp2_with fail
            refine HLS.out.mono ?_
            rintro e wz ⟨rfl, hbz⟩
            have z1 := (hbz.cell (p := ⟨wr.heap.size, 0, none⟩) (by rw [HSQ.out]; exact Nat.lt_succ_self _)).trans q1
            have z2 := (hbz.cell (p := ⟨wr.heap.size, 1, none⟩) (by rw [HSQ.out]; exact Nat.lt_succ_self _)).trans q2
            have z3 := (hbz.cell (p := ⟨w.heap.size, 0, none⟩) (Nat.lt_of_lt_of_le hbx HBQ.out.size)).trans q3
            have z4 := (hbz.cell (p := ⟨w.heap.size, 1, none⟩) (Nat.lt_of_lt_of_le hbx HBQ.out.size)).trans q4
            have HOZ := Lib.hid (own_keep HOQ.out hbz)
            have HBZ := Lib.hid (below_then HBQ.out hbz); clear hbz
            clear q1 q2 q3 q4 h1 h2
            go_wp2_with (at_builtin; refine list_app2 (B := w1.heap.size) (w := wz) 26 32 _ 32 Tryz.underlying26 Tryz.info60 rfl (by decide) rfl (.tmp 25) (.tmp 27) rfl _ (N).length (scells (N)) HOZ.out (.string x) (.string vp) rfl rfl rfl (rfl) (hnn) (HBZ.out.size) ?_; intro v1 w2 ho2 hg2; have y1 := hg2.cell z1 (fun e => (HLOW.out _ e.symm).1 rfl); have y2 := hg2.cell z2 (fun e => (HLOW.out _ e.symm).1 rfl); have y3 := hg2.cell z3 (fun e => (HLOW.out _ e.symm).2 rfl))
            go_roundw
            case rel =>
              refine ⟨j + 1, true, N ++ [p], by go_num, rfl, by omega, by simp; omega, HBZ.out.grown hg2 HBZ.out.size (fun k hk => (HOZ.out.lt k hk).1), ?_, HI2.out⟩
              rw [scells_snoc, List.length_append, ← HKP.out, ← HVP.out]; exact ho2
            case measure => simp [intOf]; omega
          · have dn : (x.toList == kp.toList) = false := by rw [HX.out, HKP.out]; exact bs_ne he
            have HI2 : Hid (((N ++ [p]) ++ [M[j]]) ++ putGo p true (M.drop (j + 1)) = put M p) := by
              have h := HI.out
              rw [if_neg he] at h
              exact h
            have HMK : Hid (∀ (v : Value) (W : World), W.ownsRow w1.heap.size 32 2 v (N.length + 1) (scells N ++ [.string kp, .string vp]) → W.ownsRow w1.heap.size 32 2 v (N ++ [p]).length (scells (N ++ [p]))) := by
              intro v W h
              rw [scells_snoc, List.length_append, ← HKP.out, ← HVP.out]; exact h
            have hnn2 : (N ++ [p]).length ≤ 1000 := by simp; omega
            have HN2 := Lib.hid hnn2; clear hnn2
            clear he HI
            go_wp2_with fail
            refine HLS.out.mono ?_
            rintro e wz ⟨rfl, hbz⟩
            have z1 := (hbz.cell (p := ⟨wr.heap.size, 0, none⟩) (by rw [HSQ.out]; exact Nat.lt_succ_self _)).trans q1
            have z2 := (hbz.cell (p := ⟨wr.heap.size, 1, none⟩) (by rw [HSQ.out]; exact Nat.lt_succ_self _)).trans q2
            have z3 := (hbz.cell (p := ⟨w.heap.size, 0, none⟩) (Nat.lt_of_lt_of_le hbx HBQ.out.size)).trans q3
            have z4 := (hbz.cell (p := ⟨w.heap.size, 1, none⟩) (Nat.lt_of_lt_of_le hbx HBQ.out.size)).trans q4
            have HOZ := Lib.hid (own_keep HOQ.out hbz)
            have HBZ := Lib.hid (below_then HBQ.out hbz); clear hbz
            clear q1 q2 q3 q4 h1 h2
            go_wp2_with (first
              | (at_builtin; refine list_app2 (B := w1.heap.size) (w := wz) 26 32 _ 32 Tryz.underlying26 Tryz.info60 rfl (by decide) rfl (.tmp 25) (.tmp 27) rfl _ (N).length (scells (N)) HOZ.out (.string kp) (.string vp) rfl rfl rfl (rfl) (hnn) (HBZ.out.size) ?_; intro v1 w2 ho2 hg2; have y1 := hg2.cell z1 (fun e => (HLOW.out _ e.symm).1 rfl); have y2 := hg2.cell z2 (fun e => (HLOW.out _ e.symm).1 rfl); have y3 := hg2.cell z3 (fun e => (HLOW.out _ e.symm).2 rfl); have HO2 := Lib.hid (HMK.out _ _ ho2); have HB2 := Lib.hid (HBZ.out.grown hg2 HBZ.out.size (fun k hk => (HOZ.out.lt k hk).1)))
              | (at_builtin; refine list_app2 (B := w1.heap.size) (w := w2) 26 32 _ 32 Tryz.underlying26 Tryz.info60 rfl (by decide) rfl (.tmp 34) (.tmp 36) rfl _ (N ++ [p]).length (scells (N ++ [p])) HO2.out (.string x) (.string y) rfl rfl rfl (rfl) HN2.out (HB2.out.size) ?_; intro v3 w3 ho3 hg3))
            go_roundw
            case rel =>
              refine ⟨j + 1, true, (N ++ [p]) ++ [M[j]], by go_num, rfl, by omega, by simp; omega, HB2.out.grown hg3 HB2.out.size (fun k hk => (HO2.out.lt k hk).1), ?_, HI2.out⟩
              rw [scells_snoc, List.length_append, ← HX.out, ← HY.out]; exact ho3
            case measure => simp [intOf]; omega
    · obtain rfl : j = M.length := by omega
      cases b with
      | true =>
        obtain rfl := put_end' hinv.out
        have hoo := hown.out
        obtain ⟨A2, c2, rfl, hp2⟩ := rcs_own hoo
        have HP := Lib.hid hp2; clear hp2
        have HNW := Lib.hid (own_new hoo); clear hoo
        go_wp2_with fail
        go_ret
        exact ⟨A2, c2, rfl, HP.out, HNW.out.less HB1.out.size, below_then HB1.out hbel.out⟩
      | false =>
        have HNN : Hid (N.length ≤ 1000) := by simp only [Bool.toNat_false, Nat.add_zero] at hN; show _ ≤ _; omega
        have he := put_end hinv.out
        have HE := Lib.hid he; clear he
        have c1 := (hbel.out.cell (p := ⟨w.heap.size, 0, none⟩) hbx).trans HK1.out
        have c2 := (hbel.out.cell (p := ⟨w.heap.size, 1, none⟩) hbx).trans HK2.out
        go_wp2_with (at_builtin; refine list_app2 (B := w1.heap.size) (w := wr) 26 32 _ 32 Tryz.underlying26 Tryz.info60 rfl (by decide) rfl (.tmp 41) (.tmp 43) rfl _ N.length (scells N) hown.out (.string kp) (.string vp) rfl rfl rfl rfl HNN.out hbel.out.size ?_; intro v1 w1' hb1 hs1)
        have hb2 : w1'.ownsRow w1.heap.size 32 2 v1 (put M p).length (scells (put M p)) := by
          rw [← HE.out, scells_snoc, List.length_append, ← HKP.out, ← HVP.out]; exact hb1
        obtain ⟨A2, c2, rfl, hp2⟩ := rcs_own hb2
        go_ret
        exact ⟨A2, c2, rfl, hp2, (own_new hb2).less HB1.out.size, below_then HB1.out (hbel.out.grown hs1 hbel.out.size (fun k hk => (hown.out.lt k hk).1))⟩
end Go.Proofs.YtmbdimonfdncpaaGreatDoor

namespace Go.Proofs.YtmbdimonfdncpaaGreatDoor
open Go.RowKit
set_option maxHeartbeats 400000
set_option maxRecDepth 100000
end Go.Proofs.YtmbdimonfdncpaaGreatDoor

namespace Go.Proofs.YtmbdimonfdncpaaGreatDoor.Bt
open Go.RowKit
set_option maxHeartbeats 400000
set_option maxRecDepth 100000
end Go.Proofs.YtmbdimonfdncpaaGreatDoor.Bt

namespace Go.Proofs.YtmbdimonfdncpaaGreatDoor
open Go.RowKit
theorem row5 {w : World} {g : Nat} {a b c d e : Value} {t : TypeId} (h : w.heap[g]? = some (.cells #[a, b, c, d, e] t (0, 0))) :
    (w.cell? ⟨g, 0, none⟩ = some a ∧ w.cell? ⟨g, 1, none⟩ = some b ∧ w.cell? ⟨g, 2, none⟩ = some c ∧ w.cell? ⟨g, 3, none⟩ = some d ∧ w.cell? ⟨g, 4, none⟩ = some e) ∧
      w.frozen? ⟨g, 0, none⟩ = false ∧ w.frozen? ⟨g, 1, none⟩ = false ∧ w.frozen? ⟨g, 2, none⟩ = false ∧ w.frozen? ⟨g, 3, none⟩ = false ∧ w.frozen? ⟨g, 4, none⟩ = false :=
  ⟨⟨row_cell h rfl, row_cell h rfl, row_cell h rfl, row_cell h rfl, row_cell h rfl⟩, by simp [World.frozen?, h], by simp [World.frozen?, h], by simp [World.frozen?, h], by simp [World.frozen?, h], by simp [World.frozen?, h]⟩
end Go.Proofs.YtmbdimonfdncpaaGreatDoor
