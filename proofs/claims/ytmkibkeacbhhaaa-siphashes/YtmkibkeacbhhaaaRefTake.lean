/-
  Contracts of the reference's Take, End, low, Begin.
-/
import Derived.Test.YtmkibkeacbhhaaaRefRounds
import Derived.Test.YtmkibkeacbhhaaaBegin
import Derived.StillTailTactics
import Derived.Lib.Strings
namespace Go.Proofs.Ytmkibkeacbhhaaa
open Go.RowKit
set_option maxHeartbeats 400000
theorem refTake_any (p q r s m : Nat) (w : World) (h : (⟨p, q, r, s⟩ : St).ok) (hm : m < 18446744073709551616) (y : St) (hy : y = St.take ⟨p, q, r, s⟩ m) :
    Calls Try.prog 16 #[.agg #[.int .u64 p, .int .u64 q, .int .u64 r, .int .u64 s], .int .u64 m] w fun e w' => e = .returned (.agg #[.int .u64 (y.p : Int), .int .u64 (y.q : Int), .int .u64 (y.r : Int), .int .u64 (y.s : Int)]) ∧ Below w.heap.size w w' := by
  obtain ⟨hp, hq, hr, hs⟩ := h
  simp only at hp hq hr hs
  obtain ⟨s1, hs1⟩ : ∃ x, x = s ^^^ m := ⟨_, rfl⟩
  obtain ⟨es1, ls1⟩ := name_xor s1 hs1 hs hm
  have hok : St.ok ⟨p, q, r, s1⟩ := ⟨hp, hq, hr, ls1⟩
  obtain ⟨z, hz⟩ : ∃ z, z = St.rounds 2 ⟨p, q, r, s1⟩ := ⟨_, rfl⟩
  have hc := fun W => refRounds_any p q r s1 2 W hok (by decide) z hz
  have hzo : z.ok := by rw [hz]; exact St.rounds_ok 2 hok
  have hy2 : y = ⟨z.p ^^^ m, z.q, z.r, z.s⟩ := by rw [hy, hz, hs1]; rfl
  clear hz hy hok
  obtain ⟨a, b, c, d⟩ := z
  obtain ⟨ha, _, _, _⟩ := hzo
  simp only at ha hc hy2
  obtain ⟨a1, ha1⟩ : ∃ x, x = a ^^^ m := ⟨_, rfl⟩
  obtain ⟨ea1, _⟩ := name_xor a1 ha1 ha hm
  rw [← ha1] at hy2
  subst hy2
  simp only
  have HC := Lib.hid hc; clear hc
  clear hs1 ha1 hp hq hr hs
  go_enter Try.func16, Try.ntmps16
  go_wp2_with fail
  refine (HC.out _).mono ?_
  rintro e w1 ⟨rfl, hb⟩
  have HB := Lib.hid hb; clear hb
  have hr0 := row_below (heap_alloc2_old w _ _) HB.out
  have hr1 := row_below (heap_alloc2_new w _ _) HB.out
  obtain ⟨k0, k1, k2, k3, k4⟩ := cells4 hr0
  obtain ⟨m0, m1, m2, m3, m4⟩ := cells4 hr1
  have HR1 := Lib.hid hr1; clear hr1 hr0
  go_wp2_with fail
  refine bodyPost_ret (results_cell_row rfl _ _ (w.heap.size + 1) 30 _ (0, 0) _ rfl (store4 _ _ _ _ _ _ _ _ _ _ _ ((heap_setCell_other _ _ _ _ (by simp)).trans ((other4 _ _ _ _ _ _ _ (by simp)).trans HR1.out))) Try.underlying30 rfl (by kernel_rfl)) rfl ?_
  exact ⟨rfl, below4 ((below4 (below_then (((Below.refl _ _).alloc (Nat.le_refl _) _).alloc (by simp) _) HB.out) (Nat.le_refl _) _ _ _ _).setCell (Nat.le_refl _) _) (by omega) _ _ _ _⟩
/-- the end of a state -/
theorem refEnd_any (p q r s : Nat) (w : World) (h : (⟨p, q, r, s⟩ : St).ok) (y : Nat) (hy : y = St.fin ⟨p, q, r, s⟩) :
    Calls Try.prog 18 #[.agg #[.int .u64 p, .int .u64 q, .int .u64 r, .int .u64 s]] w fun e w' => e = .returned (.int .u64 (y : Int)) ∧ Below w.heap.size w w' := by
  obtain ⟨hp, hq, hr, hs⟩ := h
  simp only at hp hq hr hs
  obtain ⟨r1, hr1⟩ : ∃ x, x = r ^^^ 255 := ⟨_, rfl⟩
  obtain ⟨er1, lr1⟩ := name_xor r1 hr1 hr (by decide)
  have hok : St.ok ⟨p, q, r1, s⟩ := ⟨hp, hq, lr1, hs⟩
  obtain ⟨z, hz⟩ : ∃ z, z = St.rounds 4 ⟨p, q, r1, s⟩ := ⟨_, rfl⟩
  have hc := fun W => refRounds_any p q r1 s 4 W hok (by decide) z hz
  have hzo : z.ok := by rw [hz]; exact St.rounds_ok 4 hok
  have hy2 : y = z.p ^^^ z.q ^^^ z.r ^^^ z.s := by rw [hy, hz, hr1]; rfl
  clear hz hy hok
  obtain ⟨a, b, c, d⟩ := z
  obtain ⟨ha, hb, hc', hd⟩ := hzo
  simp only at ha hb hc' hd hc hy2
  obtain ⟨a1, ha1⟩ : ∃ x, x = a ^^^ b := ⟨_, rfl⟩
  obtain ⟨ea1, la1⟩ := name_xor a1 ha1 ha hb
  rw [← ha1] at hy2
  obtain ⟨a2, ha2⟩ : ∃ x, x = a1 ^^^ c := ⟨_, rfl⟩
  obtain ⟨ea2, la2⟩ := name_xor a2 ha2 la1 hc'
  rw [← ha2] at hy2
  obtain ⟨ea3, _⟩ := name_xor y hy2 la2 hd
  have HC := Lib.hid hc; clear hc
  clear hr1 ha1 ha2 hp hq hr hs hy2
  have er2 : bits .xor .u64 (r : Int) 255 = (r1 : Int) := er1
  clear er1
  go_enter Try.func18, Try.ntmps18
  go_wp2_with fail
  refine (HC.out _).mono ?_
  rintro e w1 ⟨rfl, hb⟩
  have HB := Lib.hid hb; clear hb
  have hr0 := row_below (heap_alloc_new w _) HB.out
  obtain ⟨k0, k1, k2, k3, k4⟩ := cells4 hr0
  clear hr0
  go_wp2_with fail
  go_ret
  exact ⟨rfl, below4 (below_then ((Below.refl _ _).alloc (Nat.le_refl _) _) HB.out) (Nat.le_refl _) _ _ _ _⟩
/-- the number of a string's bytes, the lowest first -/
theorem refLow_any (s : ByteArray) (w : World) (hs : s.size ≤ 8) :
    Calls Try.prog 26 #[.string s] w fun e w' => e = .returned (.int .u64 ((lowN s.data.toList : Nat) : Int)) ∧ w = w' := by
  have hsl : s.data.toList.length = s.size := (Lib.size_eq s).symm
  go_enter Try.func26, Try.ntmps26
  go_wp2_with fail
  go_loop [3, 4] (fun a i => ∃ j m : Nat, j ≤ s.size ∧ i = .int .i64 ((j : Int) - 1) ∧ a = .int .u64 (m : Int) ∧ Hid (m = lowN (s.data.toList.drop j))) (fun _ i => (intOf i + 1).toNat)
  case atStart => exact ⟨s.size, 0, by omega, rfl, rfl, by show _ = _; rw [List.drop_of_length_le (by omega)]; rfl⟩
  case round =>
    obtain ⟨j, m, hj, rfl, rfl, hm⟩ := hrel
    by_cases hlt : 0 < j
    · obtain ⟨k, rfl⟩ : ∃ k, j = k + 1 := ⟨j - 1, by omega⟩
      have hk : k < s.size := by omega
      have e1 : (((k + 1 : Nat) : Int) - 1) = (k : Int) := by omega
      have hml : lowN (s.data.toList.drop (k + 1)) < 72057594037927936 := lowN_lt56 _ (by rw [List.length_drop]; omega)
      rw [← hm.out] at hml
      have hb : (s[k]'hk).toNat < 256 := (s[k]'hk).toNat_lt
      rw [e1]
      go_wp2_with fail
      go_round
      case rel => 
        refine ⟨k, m * 256 + (s[k]'hk).toNat, by omega, by go_num, ?_, ?_⟩
        · go_num
        · show _ = _
          rw [lowN_drop _ k (by omega), hm.out]
          rfl
      case measure => simp [intOf]
    · obtain rfl : j = 0 := by omega
      go_wp2_with fail
      go_ret
      exact ⟨ret_int (by rw [hm.out]; simp), rfl⟩
/-- 'string(b)' of a slice of bytes -/
theorem conv_any {w : World} {A : Option Addr} {l : List UInt8} (h : Bts w A l) (c : Nat) : (convert 24 9 (.slice A l.length c)).run Try.prog w = .ok (.string ⟨l.toArray⟩) w := by
  rcases h with rfl | ⟨b, off, rfl, _, hc⟩
  · cases A with
    | none => exact run_convert_bytes_nil w 24 5 Try.underlying24 Try.underlying5 0 c 9 Try.underlying9
    | some a => exact run_convert_bytes_back w 24 9 5 a c [] Try.underlying24 Try.underlying5 Try.underlying9 (fun j hj => by simp at hj)
  · exact run_convert_bytes_back w 24 9 5 _ c l Try.underlying24 Try.underlying5 Try.underlying9 (fun j hj => by rw [Go.WideShapes.add_plain]; exact hc j hj)
theorem refBegin_any (l : List UInt8) (w : World) (hl : l.length = 16) (y : St) (hy : y = St.start l) :
    Calls Try.prog 14 #[.agg (seedV l)] w fun e w' => e = .returned (.agg #[.int .u64 (y.p : Int), .int .u64 (y.q : Int), .int .u64 (y.r : Int), .int .u64 (y.s : Int)]) ∧ Below w.heap.size w w' := by
  have hsz := seedV_size l
  rw [hl] at hsz
  obtain ⟨arr, harr⟩ : ∃ a, a = seedV l := ⟨_, rfl⟩
  rw [← harr] at hsz
  rw [← harr]
  obtain ⟨W, hW⟩ : ∃ W, W = (w.alloc (.cells arr 22)).alloc (.cells #[.int .u64 0, .int .u64 0, .int .u64 0, .int .u64 0] 30) := ⟨_, rfl⟩
  have hr0 : W.drew.heap[w.heap.size]? = some (.cells (seedV l) 22 (0, 0)) := by rw [hW, ← harr]; exact heap_alloc2_old w _ _
  have hr1 : W.heap[w.heap.size + 1]? = some (.cells #[.int .u64 0, .int .u64 0, .int .u64 0, .int .u64 0] 30 (0, 0)) := by rw [hW]; exact heap_alloc2_new w _ _
  have hb : Below w.heap.size w W := by rw [hW]; exact ((Below.refl _ _).alloc (Nat.le_refl _) _).alloc (by simp) _
  have v1 := conv_any (seed_bts hr0 0 8) 16
  have v2 := conv_any (seed_bts hr0 8 8) 8
  rw [List.drop_zero, List.length_take, hl] at v1
  rw [List.length_take, List.length_drop, hl, List.take_of_length_le (by rw [List.length_drop]; omega)] at v2
  have v1 : (convert 24 9 (.slice (some ⟨w.heap.size, 0, none⟩) 8 16)).run Try.prog W.drew = .ok (.string ⟨(l.take 8).toArray⟩) W.drew := v1
  have v2 : (convert 24 9 (.slice (some ⟨w.heap.size, 8, none⟩) 8 8)).run Try.prog W.drew = .ok (.string ⟨(l.drop 8).toArray⟩) W.drew := v2
  have h1 := refLow_any ⟨(l.take 8).toArray⟩ W.drew (by simp [ByteArray.size]; omega)
  have h2 := refLow_any ⟨(l.drop 8).toArray⟩ W.drew (by simp [ByteArray.size]; omega)
  simp only [] at h1 h2
  have b1 := lowN_lt64 (l.take 8) (by rw [List.length_take]; omega)
  have b2 := lowN_lt64 (l.drop 8) (by rw [List.length_drop]; omega)
  unfold St.start at hy
  obtain ⟨s1, hs1⟩ : ∃ s : ByteArray, s = ⟨(l.take 8).toArray⟩ := ⟨_, rfl⟩
  obtain ⟨s2, hs2⟩ : ∃ s : ByteArray, s = ⟨(l.drop 8).toArray⟩ := ⟨_, rfl⟩
  rw [← hs1] at v1 h1
  rw [← hs2] at v2 h2
  clear hs1 hs2
  obtain ⟨k, hk⟩ : ∃ k, k = lowN (l.take 8) := ⟨_, rfl⟩
  obtain ⟨j, hj⟩ : ∃ k, k = lowN (l.drop 8) := ⟨_, rfl⟩
  rw [← hk] at h1 b1 hy
  rw [← hj] at h2 b2 hy
  obtain ⟨x1, hx1⟩ : ∃ x, x = k ^^^ 8317987319222330741 := ⟨_, rfl⟩
  have e1 := (name_xor x1 hx1 b1 (by decide)).1
  obtain ⟨x2, hx2⟩ : ∃ x, x = j ^^^ 7237128888997146477 := ⟨_, rfl⟩
  have e2 := (name_xor x2 hx2 b2 (by decide)).1
  obtain ⟨x3, hx3⟩ : ∃ x, x = k ^^^ 7816392313619706465 := ⟨_, rfl⟩
  have e3 := (name_xor x3 hx3 b1 (by decide)).1
  obtain ⟨x4, hx4⟩ : ∃ x, x = j ^^^ 8387220255154660723 := ⟨_, rfl⟩
  have e4 := (name_xor x4 hx4 b2 (by decide)).1
  rw [← hx1, ← hx2, ← hx3, ← hx4] at hy
  subst hy
  simp only
  have f1 : bits .xor .u64 (k : Int) 8317987319222330741 = (x1 : Int) := e1
  have f2 : bits .xor .u64 (j : Int) 7237128888997146477 = (x2 : Int) := e2
  have f3 : bits .xor .u64 (k : Int) 7816392313619706465 = (x3 : Int) := e3
  have f4 : bits .xor .u64 (j : Int) 8387220255154660723 = (x4 : Int) := e4
  clear e1 e2 e3 e4 hx1 hx2 hx3 hx4 b1 b2 hk hj hr0
  have H1 := Lib.hid h1; clear h1
  have H2 := Lib.hid h2; clear h2
  have HW := Lib.hid hW; clear hW
  have HR1 := Lib.hid hr1
  have HB := Lib.hid hb; clear hb harr
  obtain ⟨m0, m1, m2, m3, m4⟩ := cells4 hr1
  clear hr1
  go_enter Try.func14, Try.ntmps14
  go_wp2_with fail
  rw [← HW.out]
  refine wp_region_still_tail 6 (by kernel_rfl) (by kernel_rfl) ?_
  simp only [List.take_succ_cons, List.take_zero, List.drop_succ_cons, List.drop_zero]
  still_step
  still_step
  still_call (H1.out.mono (fun e w' h => ⟨h.1, h.2.symm⟩))
  still_step
  still_step
  still_call (H2.out.mono (fun e w' h => ⟨h.1, h.2.symm⟩))
  refine wpStill_nil ?_
  change wpList _ _ _ _ _ W.drew
  clear v1 v2
  go_wp2_with fail
  refine bodyPost_ret (results_cell_row rfl _ _ (w.heap.size + 1) 30 _ (0, 0) _ rfl (store4 _ _ _ _ _ _ _ _ _ _ _ (show W.drew.heap[w.heap.size + 1]? = _ from HR1.out)) Try.underlying30 rfl (by kernel_rfl)) rfl ?_
  exact ⟨rfl, below4 HB.out.drew (by omega) _ _ _ _⟩
end Go.Proofs.Ytmkibkeacbhhaaa
