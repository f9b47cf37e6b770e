/-
  Contracts of the reference's Numbers and Hash.
-/
import Derived.Test.YtmkibkeacbhhaaaRefTake
import Derived.Test.YtmkibkeacbhhaaaApp
namespace Go.Proofs.Ytmkibkeacbhhaaa
open Go.RowKit
set_option maxHeartbeats 400000
def strSize : Value → Nat
  | .string t => t.size
  | _ => 0
theorem push_zero (t : ByteArray) : (t ++ (⟨#[0]⟩ : ByteArray)).data.toList = t.data.toList ++ [0] := by simp
theorem size_push (t : ByteArray) : (t ++ (⟨#[0]⟩ : ByteArray)).size = t.size + 1 := by
  rw [Lib.size_eq, push_zero, List.length_append, Lib.size_eq]
  rfl
set_option maxRecDepth 100000 in
theorem numbers_any (s : ByteArray) (w : World) (hs : s.size ≤ 1000) :
    Calls Try.prog 21 #[.string s] w fun e w' => ∃ v, e = .returned v ∧ w'.ownsRow w.heap.size 26 1 v (allN s.data.toList).length (ncells (allN s.data.toList)) ∧ Below w.heap.size w w' := by
  obtain ⟨K, hK⟩ : ∃ K, K = s.data.toList := ⟨_, rfl⟩
  have hKl : K.length = s.size := by rw [hK]; exact (Lib.size_eq s).symm
  obtain ⟨q, hq⟩ : ∃ q, q = s.size % 256 := ⟨_, rfl⟩
  have hq1 : (s.size : Int).tmod 256 = (q : Int) := by rw [Int.tmod_eq_emod_of_nonneg (by omega)]; omega
  have hq2 : q < 256 := by omega
  rw [← hK]
  have HK := Lib.hid hK; clear hK
  have HKL := Lib.hid hKl; clear hKl
  have HQ := Lib.hid hq; clear hq
  go_enter Try.func21, Try.ntmps21
  go_wp2_with fail
  go_loopw [0, 3] (fun s0 s3 wr => ∃ (j : Nat) (t : ByteArray) (v : Value), s0 = .string t ∧ s3 = v ∧ t.size + 8 * j = s.size ∧ Hid (t.data.toList = K.drop (8 * j)) ∧ Hid (Below w.heap.size w wr) ∧ Hid (wr.ownsRow w.heap.size 26 1 v j (ncells (nums K j)))) (fun s0 _ _ => strSize s0)
  case atStart => exact ⟨0, s, _, rfl, rfl, by omega, by show _ = _; rw [← HK.out]; simp, Below.refl _ _, rfl, .inl ⟨rfl, rfl⟩⟩
  case round =>
    obtain ⟨j, t, v, rfl, rfl, hj, ht, hb, hown⟩ := hrel
    by_cases h8 : 8 ≤ t.size
    · have hlo := refLow_any (t.extract 0 8) wr (by rw [Lib.size_eq, Lib.extract_data]; simp; omega)
      have hd : (t.extract 0 8).data.toList = (K.drop (8 * j)).take 8 := by rw [Lib.extract_data, ht.out]; simp
      rw [hd] at hlo
      obtain ⟨m, hm⟩ : ∃ m, m = part K j := ⟨_, rfl⟩
      have hm2 := hm
      unfold part at hm2
      rw [← hm2] at hlo
      have HLO := Lib.hid hlo; clear hlo hd hm2
      have HM := Lib.hid hm; clear hm
      go_wp2_with fail
      refine HLO.out.mono ?_
      rintro e w1 ⟨rfl, rfl⟩
      go_wp2_with (at_builtin; refine list_app1 (B := w.heap.size) (w := wr) 42 26 _ 8 Try.underlying42 Try.info26 rfl (by decide) rfl (.tmp 12) (.tmp 16) rfl _ j _ hown.out (.int .u64 (m : Int)) rfl rfl rfl (by omega) hb.out.size ?_; intro v1 w3 ho3 hg3)
      go_roundw
      case rel =>
        refine ⟨j + 1, t.extract 8 t.size, v1, rfl, rfl, ?_, ?_, hb.out.grown hg3 hb.out.size (fun k hk => (hown.out.lt k hk).1), ?_⟩
        · rw [Lib.size_eq, Lib.extract_data, List.length_take, List.length_drop, ← Lib.size_eq]; omega
        · show _ = _
          rw [Lib.extract_data, ht.out, List.drop_drop, List.take_of_length_le (by rw [List.length_drop, HKL.out]; omega)]
          congr 1
        · show World.ownsRow _ _ _ _ _ _ _
          rw [nums_snoc, ncells_snoc, ← HM.out]
          exact ho3
      case measure =>
        have e : (t.extract 8 t.size).size = t.size - 8 := by rw [Lib.size_eq, Lib.extract_data, List.length_take, List.length_drop, ← Lib.size_eq]; omega
        show (t.extract 8 t.size).size < t.size
        omega
    · have hjd : j = s.size / 8 := by omega
      go_wp2_with fail
      go_loop [0] (fun s0 => ∃ t2 : ByteArray, s0 = .string t2 ∧ t2.size ≤ 7 ∧ Hid (lowN t2.data.toList = lowN (K.drop (8 * j)))) (fun s0 => 7 - strSize s0)
      case atStart => exact ⟨t, rfl, by omega, by show _ = _; rw [ht.out]⟩
      case round =>
        obtain ⟨t2, rfl, h7, hlow⟩ := hrel
        by_cases hlt : t2.size < 7
        · go_wp2_with fail
          go_round
          case rel => exact ⟨_, rfl, by rw [size_push]; omega, by show _ = _; rw [push_zero, lowN_zero]; exact hlow.out⟩
          case measure =>
            show 7 - (t2 ++ (⟨#[0]⟩ : ByteArray)).size < 7 - t2.size
            rw [size_push]
            omega
        · have hlo := refLow_any t2 wr (by omega)
          obtain ⟨a, ha⟩ : ∃ a, a = lowN t2.data.toList := ⟨_, rfl⟩
          rw [← ha] at hlo
          have hal : a < 72057594037927936 := by rw [ha]; exact lowN_lt56 _ (by rw [← Lib.size_eq]; omega)
          obtain ⟨y, hy⟩ : ∃ y, y = a + q * 72057594037927936 := ⟨_, rfl⟩
          have hyl : y = lastN K := by
            unfold lastN
            rw [hy, ha, hlow.out, HQ.out, HKL.out, hjd]
          have he : (a : Int) + (q : Int) * 72057594037927936 = (y : Int) := by rw [hy]; simp
          have HLO := Lib.hid hlo; clear hlo
          have HYL := Lib.hid hyl; clear hyl hy ha
          go_wp2_with fail
          refine HLO.out.mono ?_
          rintro e w1 ⟨rfl, rfl⟩
          go_wp2_with (at_builtin; refine list_app1 (B := w.heap.size) (w := wr) 42 26 _ 8 Try.underlying42 Try.info26 rfl (by decide) rfl (.tmp 25) (.tmp 31) rfl _ j _ hown.out (.int .u64 (y : Int)) rfl rfl rfl (by omega) hb.out.size ?_; intro v1 w3 ho3 hg3)
          go_ret
          refine ⟨v1, rfl, ?_, hb.out.grown hg3 hb.out.size (fun k hk => (hown.out.lt k hk).1)⟩
          have e1 : (allN K).length = j + 1 := by rw [allN, List.length_append, nums, List.length_map, List.length_range, HKL.out, hjd]; rfl
          rw [e1, allN, ncells_snoc, ← HYL.out, HKL.out, ← hjd]
          exact ho3
set_option maxRecDepth 100000 in
theorem refHash_any (sd : List UInt8) (s : ByteArray) (w : World) (hs : s.size ≤ 1000) (hsd : sd.length = 16) :
    Calls Try.prog 10 #[.agg (seedV sd), .string s] w fun e w' => e = .returned (.int .u64 ((hashN sd s.data.toList : Nat) : Int)) ∧ Below w.heap.size w w' := by
  have hsz := seedV_size sd
  rw [hsd] at hsz
  obtain ⟨z, hz⟩ : ∃ z, z = St.start sd := ⟨_, rfl⟩
  have hbg := fun W => refBegin_any sd W hsd z hz
  have hzo : z.ok := by rw [hz]; exact St.start_ok hsd
  obtain ⟨arr, harr⟩ : ∃ a, a = seedV sd := ⟨_, rfl⟩
  rw [← harr] at hsz
  rw [← harr]
  simp only [← harr] at hbg
  have hha := hash_all sd s.data.toList
  rw [← hz] at hha
  have hall := allN_lt s.data.toList
  have hnu := fun W => numbers_any s W hs
  obtain ⟨N, hN⟩ : ∃ N, N = allN s.data.toList := ⟨_, rfl⟩
  rw [← hN] at hha hall
  simp only [← hN] at hnu
  rw [hha]
  obtain ⟨za, zb, zc, zd⟩ := z
  simp only at hbg
  have HBG := Lib.hid hbg; clear hbg
  have HZO := Lib.hid hzo; clear hzo
  have HNU := Lib.hid hnu; clear hnu
  have HALL := Lib.hid hall; clear hall
  have hNl : N.length ≤ 1000 := by rw [hN, allN, List.length_append, nums, List.length_map, List.length_range, ← Lib.size_eq]; simp; omega
  clear hz harr hha hN hsd
  go_enter Try.func10, Try.ntmps10
  go_wp2_with (refine wpList_load_row rfl 22 _ rfl w.heap.size rfl 22 arr (0, 0) _ (heap_alloc_new w _) Try.underlying22 rfl (by rw [hsz]; kernel_rfl) ?_)
  refine (HBG.out _).mono ?_
  rintro e w1 ⟨rfl, hb1⟩
  have hgw : w.heap.size ≤ w1.heap.size := Nat.le_trans (by simp) hb1.size
  have HGW := Lib.hid hgw; clear hgw
  have HB1 := Lib.hid (below_then ((Below.refl w.heap.size w).alloc (Nat.le_refl _) _) hb1); clear hb1
  go_wp2_with fail
  refine (HNU.out _).mono ?_
  rintro e w2 ⟨v, rfl, hown, hb2⟩
  have hr2 : w2.heap[w1.heap.size]? = some (.cells #[.int .u64 za, .int .u64 zb, .int .u64 zc, .int .u64 zd] 30 (0, 0)) := row_below (heap_alloc_new w1 _) hb2
  have hg2 : (w1.alloc (.cells #[.int .u64 za, .int .u64 zb, .int .u64 zc, .int .u64 zd] 30)).heap.size = w1.heap.size + 1 := by simp
  rw [hg2] at hown
  have HB2 := Lib.hid (below_then (HB1.out.alloc HGW.out _) hb2); clear hb2 hg2
  have HR2 := Lib.hid hr2; clear hr2
  obtain ⟨A, c, hv, hnu⟩ := nums_own hown rfl
  have HNM := Lib.hid hnu; clear hnu
  rw [hv] at hown
  subst hv
  have HOWN := Lib.hid hown; clear hown
  go_wp2_with fail
  go_loopw [13] (fun i wr => ∃ (j a b c' d : Nat), i = .int .i64 j ∧ j ≤ N.length ∧ Hid (St.mk a b c' d = (St.mk za zb zc zd).takes (N.take j)) ∧ Hid (Below w.heap.size w wr) ∧
    Hid (wr.heap[w1.heap.size]? = some (.cells #[.int .u64 a, .int .u64 b, .int .u64 c', .int .u64 d] 30 (0, 0))) ∧ Hid (wr.ownsRow (w1.heap.size + 1) 26 1 (.slice A N.length c) N.length (ncells N))) (fun i _ => N.length - (intOf i).toNat)
  case atStart => exact ⟨0, za, zb, zc, zd, rfl, by omega, by show _ = _; rw [List.take_zero, St.takes_nil], HB2.out, HR2.out, HOWN.out⟩
  case round =>
    obtain ⟨j, a, b, c', d, rfl, hj, hx, hb, hr, how⟩ := hrel
    clear HNM HOWN HB2 HR2
    obtain ⟨k0, k1, k2, k3, k4⟩ := cells4 hr.out
    have hok : St.ok ⟨a, b, c', d⟩ := by rw [hx.out]; exact takes_ok _ HZO.out (fun m hm => HALL.out m (List.mem_of_mem_take hm))
    by_cases hlt : j < N.length
    · obtain ⟨A', c2, e, hnu⟩ := nums_own how.out rfl
      obtain ⟨rfl, rfl⟩ : A = A' ∧ c = c2 := by injection e with e1 e2 e3; exact ⟨e1, e3⟩
      obtain ⟨bb, off, rfl, hcell⟩ := hnu.at_ j hlt
      clear e hnu
      obtain ⟨m, hm⟩ : ∃ m, m = N[j] := ⟨_, rfl⟩
      rw [← hm] at hcell
      have hml : m < 18446744073709551616 := by rw [hm]; exact HALL.out _ (List.getElem_mem hlt)
      obtain ⟨z2, hz2⟩ : ∃ z, z = St.take ⟨a, b, c', d⟩ m := ⟨_, rfl⟩
      have htk := refTake_any a b c' d m wr hok hml z2 hz2
      have hz3 : z2 = (St.mk za zb zc zd).takes (N.take (j + 1)) := by rw [List.take_succ_eq_append_getElem hlt, St.takes_snoc, ← hx.out, hz2, hm]
      obtain ⟨a2, b2, c3, d2⟩ := z2
      simp only at htk
      have HTK := Lib.hid htk; clear htk
      have HZ3 := Lib.hid hz3; clear hz3 hz2 hok hm
      go_wp2_with fail
      refine HTK.out.mono ?_
      rintro e w4 ⟨rfl, hb4⟩
      clear k0 k1 k2 k3 k4 hcell
      have HB4 := Lib.hid hb4; clear hb4
      obtain ⟨k0, k1, k2, k3, k4⟩ := cells4 (row_below hr.out HB4.out)
      go_wp2_with fail
      go_roundw
      case rel =>

        exact ⟨j + 1, a2, b2, c3, d2, by go_num, by omega, HZ3.out, below4 (below_then hb.out HB4.out) HGW.out _ _ _ _, store4 _ _ _ _ _ _ _ _ _ _ _ (row_below hr.out HB4.out), own_store4 (own_below how.out HB4.out) (by omega) _ _ _ _⟩
      case measure => simp [intOf]; omega
    · obtain rfl : j = N.length := by omega
      obtain ⟨y, hy⟩ : ∃ y, y = St.fin ⟨a, b, c', d⟩ := ⟨_, rfl⟩
      have hen := refEnd_any a b c' d wr hok y hy
      have hyy : ((St.mk za zb zc zd).takes N).fin = y := by rw [hy, hx.out, List.take_length]
      have HEN := Lib.hid hen; clear hen
      have HYY := Lib.hid hyy; clear hyy hy hok
      go_wp2_with fail
      refine HEN.out.mono ?_
      rintro e w4 ⟨rfl, hb4⟩
      clear k0 k1 k2 k3 k4
      have HB4 := Lib.hid hb4; clear hb4
      go_wp2_with fail
      go_ret
      exact ⟨ret_int (by rw [HYY.out]), below_then hb.out HB4.out⟩
end Go.Proofs.Ytmkibkeacbhhaaa
