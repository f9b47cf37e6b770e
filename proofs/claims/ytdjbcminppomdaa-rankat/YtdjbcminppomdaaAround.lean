/-
  Contracts of the reference: Rank, Floor, Ceil; of at: is a pair that at a place; of made: what calls come to.
-/
import Derived.Test.YtdjbcminppomdaaTells
import Derived.Test.YtdjbcminppomdaaPlays
namespace Go.Proofs.Ytdjbcminppomdaa
open Go.RowKit
set_option maxHeartbeats 4000000
set_option maxRecDepth 100000
theorem rank_take {M : List Pr} {j : Nat} {k : List UInt8} (h : j < M.length) : rank (M.take (j + 1)) k = rank (M.take j) k + if cmp (M[j]).1 k < 0 then 1 else 0 := by
  rw [List.take_succ_eq_append_getElem h]
  simp only [rank, List.countP_append, List.countP_cons, List.countP_nil, decide_eq_true_eq, Nat.zero_add]
theorem refRank_any {w : World} {A : Option Addr} {M : List Pr} (ha : Rcs w A M) (c : Nat) (k : List UInt8) (hlen : M.length ≤ 1000) (hk : k.length ≤ 1000) (hm : ∀ q ∈ M, q.1.length ≤ 1000) :
    Calls Try.prog 13 #[.slice A M.length c, .string ⟨k.toArray⟩] w fun e w' => e = .returned (.int .i64 (rank M k : Int)) ∧ Below w.heap.size w w' := by
  have HA := Lib.hid ha; clear ha
  have HM := Lib.hid hm; clear hm
  obtain ⟨kk, hkk⟩ : ∃ s : ByteArray, s = ⟨k.toArray⟩ := ⟨_, rfl⟩
  rw [← hkk]
  have HK := Lib.hid hkk; clear hkk
  go_enter Try.func13, Try.ntmps13
  go_wp2
  go_loopw [5, 10] (fun v i wr => ∃ j r : Nat, i = .int .i64 j ∧ v = .int .i64 r ∧ j ≤ M.length ∧ r ≤ j ∧ Hid (Below w.heap.size w wr) ∧ Hid (r = rank (M.take j) k)) (fun _ i _ => M.length - (intOf i).toNat)
  case atStart => exact ⟨0, 0, rfl, rfl, by omega, by omega, Below.refl _ _, by simp [Hid, rank]⟩
  case round =>
    obtain ⟨j, r, rfl, rfl, hj, hr, hbel, hrk⟩ := hrel
    by_cases hlt : j < M.length
    · obtain ⟨b', rfl, hbl', k1, k2⟩ := (HA.out.below hbel.out).at hlt
      have hqm := HM.out _ (List.getElem_mem hlt)
      obtain ⟨s, hs⟩ : ∃ s : ByteArray, s = ⟨(M[j]).1.toArray⟩ := ⟨_, rfl⟩
      obtain ⟨t, ht⟩ : ∃ s : ByteArray, s = ⟨(M[j]).2.toArray⟩ := ⟨_, rfl⟩
      rw [← hs] at k1
      rw [← ht] at k2
      have hless := less_any s kk (wr.alloc (.cells #[.string s, .string t] 53)) (by rw [hs, bs_size]; exact hqm) (by rw [HK.out, bs_size]; exact hk)
      rw [show cmp s.data.toList kk.data.toList = cmp (M[j]).1 k by rw [hs, HK.out]] at hless
      have hrt := rank_take (k := k) hlt
      clear HA hs ht hqm
      by_cases hc : cmp (M[j]).1 k < 0
      · rw [decide_eq_true hc] at hless
        rw [if_pos hc] at hrt
        have HR := Lib.hid hrt; clear hrt
        have HL := Lib.hid hless; clear hless hc
        go_wp2_with fail
        refine HL.out.mono ?_
        rintro e w' ⟨rfl, hb⟩
        have HB := Lib.hid (below_then ((Below.refl wr.heap.size wr).alloc (Nat.le_refl _) _) hb); clear hb
        go_wp2_with fail
        go_roundw
        case rel => exact ⟨j + 1, r + 1, by go_num, by go_num, by omega, by omega, below_then hbel.out HB.out, by show _ = _; rw [HR.out, ← hrk.out]⟩
        case measure => simp [intOf]; omega
      · rw [decide_eq_false hc] at hless
        rw [if_neg hc] at hrt
        have HR := Lib.hid hrt; clear hrt
        have HL := Lib.hid hless; clear hless hc
        go_wp2_with fail
        refine HL.out.mono ?_
        rintro e w' ⟨rfl, hb⟩
        have HB := Lib.hid (below_then ((Below.refl wr.heap.size wr).alloc (Nat.le_refl _) _) hb); clear hb
        go_wp2_with fail
        go_roundw
        case rel => exact ⟨j + 1, r, by go_num, rfl, by omega, by omega, below_then hbel.out HB.out, by show _ = _; rw [HR.out, ← hrk.out]; rfl⟩
        case measure => simp [intOf]; omega
    · obtain rfl : j = M.length := by omega
      have HE : Hid (r = rank M k) := by
        have h := hrk.out
        rw [List.take_length] at h
        exact h
      go_wp2_with fail
      go_ret
      exact ⟨ret_int (by rw [HE.out]), hbel.out⟩
theorem refFloor_any {w : World} {A : Option Addr} {M : List Pr} (ha : Rcs w A M) (hs : srt M) (c : Nat) (k : List UInt8) (hlen : M.length ≤ 1000) (hk : k.length ≤ 1000) (hm : ∀ q ∈ M, q.1.length ≤ 1000) :
    Calls Try.prog 15 #[.slice A M.length c, .string ⟨k.toArray⟩] w fun e w' => e = .returned (.int .i64 ((upTo M k : Int) - 1)) ∧ Below w.heap.size w w' := by
  have HA := Lib.hid ha; clear ha
  have HM := Lib.hid hm; clear hm
  have HSR := Lib.hid hs; clear hs
  obtain ⟨kk, hkk⟩ : ∃ s : ByteArray, s = ⟨k.toArray⟩ := ⟨_, rfl⟩
  rw [← hkk]
  have HK := Lib.hid hkk; clear hkk
  go_enter Try.func15, Try.ntmps15
  go_wp2
  go_loopw [5, 10] (fun v i wr => ∃ (j : Nat) (z : Int), i = .int .i64 j ∧ v = .int .i64 z ∧ j ≤ M.length ∧ Hid (Below w.heap.size w wr) ∧ Hid (z = (upTo (M.take j) k : Int) - 1)) (fun _ i _ => M.length - (intOf i).toNat)
  case atStart => exact ⟨0, -1, rfl, rfl, by omega, Below.refl _ _, by simp [Hid, upTo]⟩
  case round =>
    obtain ⟨j, z, rfl, rfl, hj, hbel, hrk⟩ := hrel
    by_cases hlt : j < M.length
    · obtain ⟨b', rfl, hbl', k1, k2⟩ := (HA.out.below hbel.out).at hlt
      have hqm := HM.out _ (List.getElem_mem hlt)
      obtain ⟨s, hs⟩ : ∃ s : ByteArray, s = ⟨(M[j]).1.toArray⟩ := ⟨_, rfl⟩
      obtain ⟨t, ht⟩ : ∃ s : ByteArray, s = ⟨(M[j]).2.toArray⟩ := ⟨_, rfl⟩
      rw [← hs] at k1
      rw [← ht] at k2
      have hless := less_any kk s (wr.alloc (.cells #[.string s, .string t] 53)) (by rw [HK.out, bs_size]; exact hk) (by rw [hs, bs_size]; exact hqm)
      rw [show cmp kk.data.toList s.data.toList = cmp k (M[j]).1 by rw [hs, HK.out]] at hless
      clear HA hs ht hqm
      by_cases hc : cmp k (M[j]).1 < 0
      · rw [decide_eq_true hc] at hless
        have hrt : upTo (M.take (j + 1)) k = upTo (M.take j) k := below_skip (P := fun a => decide (cmp a k ≤ 0)) hlt (decide_eq_false (by have := cmp_turn (M[j]).1 k; omega))
        have HR := Lib.hid hrt; clear hrt
        have HL := Lib.hid hless; clear hless hc
        go_wp2_with fail
        refine HL.out.mono ?_
        rintro e w' ⟨rfl, hb⟩
        have HB := Lib.hid (below_then ((Below.refl wr.heap.size wr).alloc (Nat.le_refl _) _) hb); clear hb
        go_wp2_with fail
        go_roundw
        case rel => exact ⟨j + 1, z, by go_num, rfl, by omega, below_then hbel.out HB.out, by show _ = _; rw [HR.out]; exact hrk.out⟩
        case measure => simp [intOf]; omega
      · rw [decide_eq_false hc] at hless
        have hrt : upTo (M.take (j + 1)) k = j + 1 := below_take (down_le k) HSR.out hlt (decide_eq_true (by have := cmp_turn (M[j]).1 k; omega))
        have HR := Lib.hid hrt; clear hrt
        have HL := Lib.hid hless; clear hless hc
        go_wp2_with fail
        refine HL.out.mono ?_
        rintro e w' ⟨rfl, hb⟩
        have HB := Lib.hid (below_then ((Below.refl wr.heap.size wr).alloc (Nat.le_refl _) _) hb); clear hb
        go_wp2_with fail
        go_roundw
        case rel => exact ⟨j + 1, j, by go_num, rfl, by omega, below_then hbel.out HB.out, by show _ = _; rw [HR.out]; omega⟩
        case measure => simp [intOf]; omega
    · obtain rfl : j = M.length := by omega
      have HE : Hid (z = (upTo M k : Int) - 1) := by
        have h := hrk.out
        rw [List.take_length] at h
        exact h
      go_wp2_with fail
      go_ret
      exact ⟨ret_int HE.out, hbel.out⟩
theorem refCeil_any {w : World} {A : Option Addr} {M : List Pr} (ha : Rcs w A M) (hs : srt M) (c : Nat) (k : List UInt8) (hlen : M.length ≤ 1000) (hk : k.length ≤ 1000) (hm : ∀ q ∈ M, q.1.length ≤ 1000) :
    Calls Try.prog 16 #[.slice A M.length c, .string ⟨k.toArray⟩] w fun e w' => ∃ z : Int, e = .returned (.int .i64 z) ∧ nth M z = nth M (rank M k : Int) ∧ -1 ≤ z ∧ z ≤ 1000 ∧ Below w.heap.size w w' := by
  have HA := Lib.hid ha; clear ha
  have HM := Lib.hid hm; clear hm
  have HRI := Lib.hid (fun j (h : j < M.length) => rank_iff hs k h); clear hs
  have HRL := Lib.hid (rank_le M k)
  obtain ⟨kk, hkk⟩ : ∃ s : ByteArray, s = ⟨k.toArray⟩ := ⟨_, rfl⟩
  rw [← hkk]
  have HK := Lib.hid hkk; clear hkk
  go_enter Try.func16, Try.ntmps16
  go_wp2
  go_loopw [9] (fun i wr => ∃ j : Nat, i = .int .i64 j ∧ j ≤ M.length ∧ Hid (Below w.heap.size w wr) ∧ Hid (j ≤ rank M k)) (fun i _ => M.length - (intOf i).toNat)
  case atStart => exact ⟨0, rfl, by omega, Below.refl _ _, by simp [Hid]⟩
  case round =>
    obtain ⟨j, rfl, hj, hbel, hrk⟩ := hrel
    by_cases hlt : j < M.length
    · obtain ⟨b', rfl, hbl', k1, k2⟩ := (HA.out.below hbel.out).at hlt
      have hqm := HM.out _ (List.getElem_mem hlt)
      obtain ⟨s, hs⟩ : ∃ s : ByteArray, s = ⟨(M[j]).1.toArray⟩ := ⟨_, rfl⟩
      obtain ⟨t, ht⟩ : ∃ s : ByteArray, s = ⟨(M[j]).2.toArray⟩ := ⟨_, rfl⟩
      rw [← hs] at k1
      rw [← ht] at k2
      have hless := less_any s kk (wr.alloc (.cells #[.string s, .string t] 53)) (by rw [hs, bs_size]; exact hqm) (by rw [HK.out, bs_size]; exact hk)
      rw [show cmp s.data.toList kk.data.toList = cmp (M[j]).1 k by rw [hs, HK.out]] at hless
      clear HA hs ht hqm
      by_cases hc : cmp (M[j]).1 k < 0
      · rw [decide_eq_true hc] at hless
        have HR := Lib.hid ((HRI.out j hlt).1 hc)
        have HL := Lib.hid hless; clear hless hc
        go_wp2_with fail
        refine HL.out.mono ?_
        rintro e w' ⟨rfl, hb⟩
        have HB := Lib.hid (below_then ((Below.refl wr.heap.size wr).alloc (Nat.le_refl _) _) hb); clear hb
        go_wp2_with fail
        go_roundw
        case rel => exact ⟨j + 1, by go_num, by omega, below_then hbel.out HB.out, HR.out⟩
        case measure => simp [intOf]; omega
      · rw [decide_eq_false hc] at hless
        have HR := Lib.hid (Nat.le_of_not_lt fun h => hc ((HRI.out j hlt).2 h))
        have HL := Lib.hid hless; clear hless hc
        go_wp2_with fail
        refine HL.out.mono ?_
        rintro e w' ⟨rfl, hb⟩
        have HB := Lib.hid (below_then ((Below.refl wr.heap.size wr).alloc (Nat.le_refl _) _) hb); clear hb
        go_wp2_with fail
        go_ret
        have a1 := HR.out
        have a2 := hrk.out
        exact ⟨j, rfl, by rw [show rank M k = j by omega], by omega, by omega, below_then hbel.out HB.out⟩
    · have e : rank M k = M.length := by have := hrk.out; have := HRL.out; omega
      have HE := Lib.hid e; clear e
      go_wp2_with fail
      go_ret
      exact ⟨-1, rfl, by rw [HE.out, nth_neg _ (by omega), nth_out (Int.le_refl _)], by omega, by omega, hbel.out⟩
theorem refAt_any {w : World} {A ka va : Option Addr} {M : List Pr} {z : Int} {o : Option Pr} (c kc vc : Nat) (ha : Rcs w A M) (ho : o = nth M z) (hk : Bts w ka (od o).1) (hv : Bts w va (od o).2) (z1 : -9223372036854775808 ≤ z) (z2 : z < 9223372036854775808) :
    Calls Try.prog 14 #[.agg #[.slice ka (od o).1.length kc, .slice va (od o).2.length vc], .bool o.isSome, .slice A M.length c, .int .i64 z] w fun e w' => e = .returned (.bool true) ∧ Below w.heap.size w w' := by
  have hb : ∀ x y, Below w.heap.size w (w.alloc (.cells #[x, y] 31)) := fun x y => (Below.refl _ _).alloc (Nat.le_refl _) _
  by_cases hin : 0 ≤ z ∧ z < (M.length : Int)
  · obtain ⟨i, rfl⟩ : ∃ i : Nat, z = (i : Int) := ⟨z.toNat, by omega⟩
    have hi : i < M.length := by omega
    rw [nth_at hi] at ho
    subst ho
    rw [show od (some M[i]) = M[i] from rfl] at hk hv ⊢
    rw [show (some M[i]).isSome = true from rfl]
    obtain ⟨b', rfl, hbl', k1, k2⟩ := (ha.below (hb (.slice ka (M[i]).1.length kc) (.slice va (M[i]).2.length vc))).at hi
    have v1 : ∀ q, _ := fun q => conv_any ((hk.below (hb (.slice ka (M[i]).1.length kc) (.slice va (M[i]).2.length vc))).below (below_drewN (Below.refl _ _) q)) kc
    have v2 : ∀ q, _ := fun q => conv_any ((hv.below (hb (.slice ka (M[i]).1.length kc) (.slice va (M[i]).2.length vc))).below (below_drewN (Below.refl _ _) q)) vc
    obtain ⟨w1, hw1⟩ : ∃ w1, w1 = w.alloc (.cells #[.slice ka (M[i]).1.length kc, .slice va (M[i]).2.length vc] 31) := ⟨_, rfl⟩
    have r0 : w1.heap[w.heap.size]? = some (.cells #[.slice ka (M[i]).1.length kc, .slice va (M[i]).2.length vc] 31 (0, 0)) := by rw [hw1]; exact heap_alloc_new w _
    obtain ⟨d0, d1, _, _⟩ := row2 r0
    have hbb := hb (.slice ka (M[i]).1.length kc) (.slice va (M[i]).2.length vc)
    simp only [← hw1] at k1 k2 v1 v2 hbl' hbb
    obtain ⟨x1, hx1⟩ : ∃ x : Nat, x = (M[i]).1.length := ⟨_, rfl⟩
    obtain ⟨x2, hx2⟩ : ∃ x : Nat, x = (M[i]).2.length := ⟨_, rfl⟩
    obtain ⟨s, hs⟩ : ∃ s : ByteArray, s = ⟨(M[i]).1.toArray⟩ := ⟨_, rfl⟩
    obtain ⟨t, ht⟩ : ∃ s : ByteArray, s = ⟨(M[i]).2.toArray⟩ := ⟨_, rfl⟩
    simp only [← hx1, ← hx2, ← hs, ← ht] at k1 k2 v1 v2 d0 d1 hw1 ⊢
    have HW := Lib.hid hw1; clear hw1
    have HB := Lib.hid hbb; clear hbb
    have t1 : decide ((i : Int) < 0) = false := decide_eq_false (by omega)
    have t2 : decide ((M.length : Int) ≤ (i : Int)) = false := decide_eq_false (by omega)
    have t3 : decide (M.length ≤ i) = false := decide_eq_false (by omega)
    clear hb ha hk hv hx1 hx2 hs ht r0 hin z1 z2
    go_enter Try.func14, Try.ntmps14
    go_wp2_with (rw [← HW.out])
    go_quiet (fail)
    go_wp2_with fail
    go_ret
    exact ⟨rfl, below_drewN HB.out _⟩
  · have e : nth M z = none := by
      rcases Int.lt_or_le z 0 with g | g
      · exact nth_neg _ g
      · exact nth_out (by omega)
    rw [e] at ho
    subst ho
    have hbb := hb (.slice ka 0 kc) (.slice va 0 vc)
    obtain ⟨w1, hw1⟩ : ∃ w1, w1 = w.alloc (.cells #[.slice ka 0 kc, .slice va 0 vc] 31) := ⟨_, rfl⟩
    have r0 : w1.heap[w.heap.size]? = some (.cells #[.slice ka 0 kc, .slice va 0 vc] 31 (0, 0)) := by rw [hw1]; exact heap_alloc_new w _
    obtain ⟨d0, d1, _, _⟩ := row2 r0
    rw [← hw1] at hbb
    rw [show (od none).1.length = 0 from rfl, show (od none).2.length = 0 from rfl, show (none : Option Pr).isSome = false from rfl]
    have HW := Lib.hid hw1; clear hw1
    have HB := Lib.hid hbb; clear hbb
    clear hb ha hk hv r0 e
    by_cases g : z < 0
    · have t1 : decide (z < 0) = true := decide_eq_true g
      go_enter Try.func14, Try.ntmps14
      go_wp2_with (rw [← HW.out])
      go_ret
      exact ⟨rfl, HB.out⟩
    · have t1 : decide (z < 0) = false := decide_eq_false g
      have t2 : decide ((M.length : Int) ≤ z) = true := decide_eq_true (by omega)
      go_enter Try.func14, Try.ntmps14
      go_wp2_with (rw [← HW.out])
      go_ret
      exact ⟨rfl, HB.out⟩
theorem made_any {w : World} {A0 : Option Addr} {L0 : List Opn} (c0 : Nat) (ha0 : Ocs w A0 L0) (hlen : L0.length ≤ 80) (htiny : tinyO L0 = true) :
    Calls Try.prog 9 #[.slice A0 L0.length c0] w fun e w' => ∃ p A c t, e = .returned (.tuple #[.pointer p, .slice A (plays L0).length c]) ∧ At w (plays L0) p A w' t := by
  have HTY := Lib.hid (tinyO_all htiny)
  have HA := Lib.hid ha0; clear ha0
  have HAL := Lib.hid (plays_all hlen htiny)
  clear htiny
  go_enter Try.func9, Try.ntmps9
  go_wp2_with fail
  go_loopw [4, 5, 10] (fun x y u wr => ∃ (j n c : Nat) (p A : Option Addr), u = .int .i64 j ∧ x = .pointer p ∧ y = .slice A n c ∧ j ≤ L0.length ∧ Hid (n = (plays (L0.take j)).length) ∧ Hid (∃ t, At w (plays (L0.take j)) p A wr t)) (fun _ _ u _ => L0.length - (intOf u).toNat)
  case atStart => exact ⟨0, 0, 0, none, none, rfl, rfl, rfl, by omega, rfl, .nil, rfl, trivial, rfl, .inl rfl, Below.refl _ _⟩
  case round =>
    obtain ⟨j, n, c, p, A, rfl, rfl, rfl, hj, hn, t, hat⟩ := hrel
    by_cases hlt : j < L0.length
    · obtain ⟨b, off, ka, kc, va, vc, rfl, hbl, h0, h1, h2, h3, h4⟩ := (HA.out.below hat.bel).at hlt
      obtain ⟨a1, a2, a3⟩ := HAL.out j
      have hst := fun W (hW : Below wr.heap.size wr W) => step_any (m := none) (v := 0) (c := 0) c kc vc (fun _ _ => trivial) (hat.tre.below hW) (hat.rcs.below hW) (.inl rfl) (h3.below hW) (h4.below hW) hat.ev a1 (by omega) a2 (HTY.out _ (List.getElem_mem hlt)) (by omega) (by omega) hat.list
      simp only [← plays_step hlt, ← hn.out] at hst
      obtain ⟨M', hM'⟩ : ∃ M', M' = plays (L0.take (j + 1)) := ⟨_, rfl⟩
      obtain ⟨z, hz⟩ : ∃ z : Int, z = (L0[j]).1 := ⟨_, rfl⟩
      obtain ⟨x1, hx1⟩ : ∃ x : Nat, x = (L0[j]).2.1.length := ⟨_, rfl⟩
      obtain ⟨x2, hx2⟩ : ∃ x : Nat, x = (L0[j]).2.2.length := ⟨_, rfl⟩
      obtain ⟨n', hn'⟩ : ∃ n', n' = M'.length := ⟨_, rfl⟩
      simp only [← hM', ← hn'] at hst
      rw [← hz] at h0
      rw [← hx1] at h1
      rw [← hx2] at h2
      simp only [← hz, ← hx1, ← hx2] at hst
      have HST := Lib.hid (hst _ (box3 wr (.int .i64 z) (.slice ka x1 kc) (.slice va x2 vc)))
      have HBEL := Lib.hid (below_then hat.bel (box3 wr (.int .i64 z) (.slice ka x1 kc) (.slice va x2 vc)))
      have HM := Lib.hid hM'; clear hM'
      have HN' := Lib.hid hn'; clear hn'
      clear hst h3 h4 hat hz hx1 hx2 a1 a2 a3 HA hn
      go_wp2_with fail
      refine HST.out.mono ?_
      rintro e w2 ⟨p', t', A', c', v', k', rfl, g1, g2, g3, g4, _, _, g7⟩
      have hb2 := below_then HBEL.out g7.nil
      have HAT : Hid (At w M' p' A' w2 t') := ⟨g1, g2, g3, g4, hb2⟩
      clear HST g1 g2 g3 g4 g7 h0 h1 h2 HBEL hb2
      go_wp2_with fail
      go_roundw
      case rel =>
        have hq := HAT.out
        exact ⟨j + 1, n', c', p', A', by go_num, rfl, rfl, by omega, by show _ = _; rw [HN'.out, HM.out], t', by rw [← HM.out]; exact hq⟩
      case measure => simp [intOf]; omega
    · obtain rfl : j = L0.length := by omega
      have e : plays (L0.take L0.length) = plays L0 := by rw [List.take_length]
      have h1 := hn.out
      rw [e] at h1 hat
      have HAT := Lib.hid hat; clear hat
      have H1 := Lib.hid h1; clear h1
      clear hn e
      go_wp2_with fail
      go_ret2
      exact ⟨p, A, c, t, by rw [H1.out]; rfl, HAT.out⟩
end Go.Proofs.Ytdjbcminppomdaa
