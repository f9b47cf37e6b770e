/-
  Contract of the reference's Lay at entries that have all one hash.
-/
import Derived.Test.YtngfbkkfnooobaaGreatDoorOf
import Derived.Test.YtngfbkkfnooobaaGreatDoorThree
import Derived.BigQuiet
namespace Go.Proofs.YtngfbkkfnooobaaGreatDoor
open Go.RowKit Go.ChangeShapes
set_option maxHeartbeats 4000000
set_option maxRecDepth 100000
theorem set5_other {W : World} {g : Nat} (i : Nat) (h : i ≠ g) (v0 v1 v2 v3 v4 : Value) : (set5 W g v0 v1 v2 v3 v4).heap[i]? = W.heap[i]? := by
  unfold set5
  rw [Below.heap_setCell _ ⟨g, 4, none⟩ v4 i h, Below.heap_setCell _ ⟨g, 3, none⟩ v3 i h, Below.heap_setCell _ ⟨g, 2, none⟩ v2 i h, Below.heap_setCell _ ⟨g, 1, none⟩ v1 i h, Below.heap_setCell _ ⟨g, 0, none⟩ v0 i h]
theorem layR_nil (w : World) (A : Option Addr) (c lv : Nat) :
    Calls Tryz.prog 8 #[.slice A 0 c, .int .i64 (lv : Int)] w fun e w' => ∃ r, e = .returned (RN.agg r .none) ∧ Mde (fun b => w.heap.size ≤ b) w' .none r ∧ Below w.heap.size w w' := by
  obtain ⟨w1, hw1⟩ : ∃ w1, w1 = w.alloc (.cells #[.int .i64 0, .int .u64 0, .slice none 0 0, .slice none 0 0, .slice none 0 0] 33) := ⟨_, rfl⟩
  have b1 : Below w.heap.size w w1 := by rw [hw1]; exact (Below.refl _ _).alloc (Nat.le_refl _) _
  have r1 : w1.heap[w.heap.size]? = some (.cells #[.int .i64 0, .int .u64 0, .slice none 0 0, .slice none 0 0, .slice none 0 0] 33 (0, 0)) := by rw [hw1]; exact heap_alloc_new w _
  obtain ⟨⟨d0, d1, d2, d3, d4⟩, f0, f1, f2, f3, f4⟩ := row5f r1
  have HS := Lib.hid (And.intro (set5_row r1 (.int .i64 0) (.int .u64 0) (.slice none 0 0) (.slice none 0 0) (.slice none 0 0)) (b1.trans (set5_below (B := w.heap.size) (Nat.le_refl _) (.int .i64 0) (.int .u64 0) (.slice none 0 0) (.slice none 0 0) (.slice none 0 0))))
  have HW := Lib.hid hw1; clear hw1
  clear b1 r1
  have HD := Lib.hid (And.intro d0 (And.intro d1 (And.intro d2 (And.intro d3 (And.intro d4 (And.intro f0 (And.intro f1 (And.intro f2 (And.intro f3 f4)))))))))
  clear d0 d1 d2 d3 d4 f0 f1 f2 f3 f4
  go_enter Tryz.func8, Tryz.ntmps8
  go_upto_region 2 with fail
  rw [← HW.out]
  obtain ⟨d0, d1, d2, d3, d4, f0, f1, f2, f3, f4⟩ := HD.out
  go_wp2_with fail
  refine bodyPost_ret (results_cell_row rfl _ _ w.heap.size 33 _ (0, 0) _ rfl HS.out.1 Tryz.underlying33 rfl (by kernel_rfl)) rfl ?_
  exact ⟨⟨none, 0, none, 0, none, 0⟩, rfl, trivial, HS.out.2⟩
theorem layR_alike {w : World} {A : Option Addr} {L : List En} (c lv : Nat) (h : Res w A L) (hG : Good lv L) (ha : alike L = true) (h0 : 0 < L.length) :
    Calls Tryz.prog 8 #[.slice A L.length c, .int .i64 (lv : Int)] w fun e w' => ∃ r, e = .returned (RN.agg r (flatL L)) ∧ Mde (fun b => w.heap.size ≤ b) w' (flatL L) r ∧ Below w.heap.size w w' := by
  obtain ⟨q, hq⟩ : ∃ q, q = (ehd L).1 := ⟨_, rfl⟩
  have hall : ∀ e ∈ L, e.1 = q := fun e he => by rw [hq]; exact (alike_iff L).1 ha e he _ (ehd_mem (List.ne_nil_of_length_pos h0))
  have hfit : ∀ e ∈ L, e.2.1.length ≤ 1000 := fun e he => (hG.fits e he).2.1
  have hlen : L.length ≤ 100 := hG.len
  obtain ⟨LL, hLL⟩ : ∃ n, n = L.length := ⟨_, rfl⟩
  obtain ⟨C, hC⟩ : ∃ C : Nat → List Pr, C = fun j => come ((eprs L).take j) := ⟨_, rfl⟩
  have hCl : ∀ j, j ≤ LL → (C j).length ≤ 900 := fun j hj => by
    have h1 := come_new (eprs L) (by rw [eprs_keys]; exact hG.apart) j (by simp [eprs]; omega)
    rw [hC]
    show (come ((eprs L).take j)).length ≤ 900
    omega
  have hCm : ∀ j, ∀ p ∈ C j, p.1.length ≤ 1000 := fun j p hp => by
    rw [hC] at hp
    obtain ⟨e, he, rfl⟩ := List.mem_map.1 (List.mem_of_mem_take (come_sub _ _ hp))
    exact hfit e he
  have hCs : ∀ j, (hj : j < L.length) → C (j + 1) = put (C j) (L[j]).2 := fun j hj => by
    rw [hC]
    show come ((eprs L).take (j + 1)) = put (come ((eprs L).take j)) _
    rw [come_step (by simpa [eprs] using hj)]
    simp [eprs]
  have hflat : ∀ (pa : Option Addr) (pc : Nat), flatL L = if LL = 1 then .leaf q (ehd L).2 else .buck q (C LL) := fun _ _ => by
    unfold flatL
    rw [if_neg (by omega), ← hq, hC, hLL]
    by_cases h1 : L.length = 1
    · rw [if_pos h1, if_pos h1]
    · rw [if_neg h1, if_neg h1]
      show Nd.buck q (come (eprs L)) = Nd.buck q (come ((eprs L).take L.length))
      rw [List.take_of_length_le (by simp [eprs])]
  have hC1 : LL = 1 → C LL = [(ehd L).2] := fun h1 => by
    rw [hC, h1]
    obtain ⟨e, he⟩ := List.length_eq_one_iff.1 (hLL.symm.trans h1)
    rw [he]
    rfl
  have hCL : (C LL).length = LL := by
    have h1 := come_new (eprs L) (by rw [eprs_keys]; exact hG.apart) LL (by simp [eprs]; omega)
    rw [hC]
    exact h1
  rw [← hLL] at h0 hlen ⊢
  obtain ⟨w1, hw1⟩ : ∃ w1, w1 = w.alloc (.cells #[.int .i64 0, .int .u64 0, .slice none 0 0, .slice none 0 0, .slice none 0 0] 33) := ⟨_, rfl⟩
  have b1 : Below w.heap.size w w1 := by rw [hw1]; exact (Below.refl _ _).alloc (Nat.le_refl _) _
  have z1 : w1.heap.size = w.heap.size + 1 := by rw [hw1]; simp
  have r1 : w1.heap[w.heap.size]? = some (.cells #[.int .i64 0, .int .u64 0, .slice none 0 0, .slice none 0 0, .slice none 0 0] 33 (0, 0)) := by rw [hw1]; exact heap_alloc_new w _
  have HW := Lib.hid hw1; clear hw1
  have HB1 := Lib.hid (And.intro b1 (And.intro z1 r1))
  have HA := Lib.hid (h.below b1); clear h
  have HC := Lib.hid (And.intro hCl (And.intro hCm (And.intro hCs (And.intro hflat (And.intro hC1 hCL))))); clear hCl hCm hCs hflat hC1 hCL
  have HE := Lib.hid (And.intro hall (And.intro hfit hLL)); clear hall hfit hLL
  have HC0 : Hid (C 0 = []) := by rw [hC]; rfl
  have hne0 : ((LL : Int) == 0) = false := by simp; omega
  clear hq hC hG ha b1 z1 r1
  go_enter Tryz.func8, Tryz.ntmps8
  go_upto_region 5 with fail
  rw [← HW.out]
  go_wp2_with fail
  go_loopw [5, 6, 21] (fun s5 s6 u wr => ∃ (j : Nat) (A' : Option Addr) (n' c' : Nat), u = .int .i64 j ∧ j ≤ LL ∧ s5 = .bool true ∧ s6 = .slice A' n' c' ∧ Hid (n' = (C j).length ∧ Rcs wr A' (C j) ∧ NewIn w1.heap.size wr A') ∧ Hid (Below w1.heap.size w1 wr)) (fun _ _ u _ => LL - (intOf u).toNat)
  case atStart => exact ⟨0, none, 0, 0, rfl, by omega, rfl, rfl, ⟨by rw [HC0.out]; rfl, .inl HC0.out, fun a e => by cases e⟩, Below.refl _ _⟩
  case round =>
    obtain ⟨j, A', n', c', rfl, hj, rfl, rfl, hm, hbel⟩ := hrel
    obtain ⟨b, rfl, hb, y0, _, _⟩ := (HA.out.below hbel.out).at (by rw [← HE.out.2.2]; exact h0 : 0 < L.length)
    have e0 : (L[0]'(by rw [← HE.out.2.2]; exact h0)).1 = q := HE.out.1 _ (List.getElem_mem _)
    rw [e0, Nat.zero_mul] at y0
    by_cases hlt : j < LL
    · have hj' : j < L.length := by rw [← HE.out.2.2]; exact hlt
      obtain ⟨b', hbb, _, x0, x1, x2⟩ := (HA.out.below hbel.out).at hj'
      injection hbb with hbb
      injection hbb with hbb
      subst hbb
      have e1 := HE.out.1 _ (List.getElem_mem hj')
      rw [e1] at x0
      have hp1 := HE.out.2.1 _ (List.getElem_mem hj')
      have hput := fun W (hW : Below wr.heap.size wr W) => refPut_any (L[j]).2 (hm.out.2.1.below hW) c' (HC.out.1 j hj) hp1 (HC.out.2.1 j)
      rw [← HC.out.2.2.1 j hj', ← hm.out.1] at hput
      obtain ⟨s, hs⟩ : ∃ s : ByteArray, s = ⟨(L[j]).2.1.toArray⟩ := ⟨_, rfl⟩
      obtain ⟨t, ht⟩ : ∃ s : ByteArray, s = ⟨(L[j]).2.2.toArray⟩ := ⟨_, rfl⟩
      rw [← hs] at x1
      rw [← ht] at x2
      simp only [← hs, ← ht] at hput
      have bz := (Below.refl wr.heap.size wr).alloc (Nat.le_refl _) (.cells #[.int .u64 (q : Int), .string s, .string t] 62)
      have k0 := (bz.cell (p := ⟨b, 0, none⟩) hb).trans y0
      have HP := Lib.hid hput; clear hput
      have HZ := Lib.hid bz; clear bz
      clear hs ht e0 e1 hp1 hm
      go_wp2_with fail
      go_quiet (fail)
      go_wp2_with fail
      refine (HP.out _ (below_drewN HZ.out _)).mono ?_
      rintro e w2 ⟨A2, c2, rfl, hr2, hn2, hb2⟩
      have hbz := below_then (below_drewN HZ.out _) hb2
      have H2 := Lib.hid (And.intro hr2 (And.intro (hn2.less (Nat.le_trans hbel.out.size (below_drewN HZ.out _).size)) (hbel.out.trans (hbz.mono hbel.out.size)))); clear hr2 hn2 hb2 hbz
      go_wp2_with fail
      go_roundw
      case rel =>
        exact ⟨j + 1, A2, _, c2, by go_num, by omega, rfl, rfl, ⟨rfl, H2.out.1, H2.out.2.1⟩, H2.out.2.2⟩
      case measure => simp [intOf]; omega
    · obtain rfl : j = LL := by omega
      have r2 := (hbel.out.block w.heap.size (by have := HB1.out.2.1; omega)).trans HB1.out.2.2
      obtain ⟨⟨d0, d1, d2, d3, d4⟩, f0, f1, f2, f3, f4⟩ := row5f r2
      have hnl : n' = j := hm.out.1.trans HC.out.2.2.2.2.2
      subst hnl
      have bw : Below w.heap.size w wr := below_then HB1.out.1 hbel.out
      have HS : Hid (∀ k : Int, (set5 wr w.heap.size (.int .i64 k) (.int .u64 (q : Int)) (.slice A' n' c') (.slice none 0 0) (.slice none 0 0)).heap[w.heap.size]? = some (.cells #[.int .i64 k, .int .u64 (q : Int), .slice A' n' c', .slice none 0 0, .slice none 0 0] 33 (0, 0)) ∧
          Below w.heap.size w (set5 wr w.heap.size (.int .i64 k) (.int .u64 (q : Int)) (.slice A' n' c') (.slice none 0 0) (.slice none 0 0)) ∧ Rcs (set5 wr w.heap.size (.int .i64 k) (.int .u64 (q : Int)) (.slice A' n' c') (.slice none 0 0) (.slice none 0 0)) A' (C n') ∧
          Inb (fun b => w.heap.size ≤ b) (set5 wr w.heap.size (.int .i64 k) (.int .u64 (q : Int)) (.slice A' n' c') (.slice none 0 0) (.slice none 0 0)) A') := fun k => by
        have hz := HB1.out.2.1
        have hs5 := (set5_below (W := wr) (B := w.heap.size) (Nat.le_refl w.heap.size) (.int .i64 k) (.int .u64 (q : Int)) (.slice A' n' c') (.slice none 0 0) (.slice none 0 0))
        refine ⟨set5_row r2 _ _ _ _ _, bw.trans hs5, hm.out.2.1.kept (F := fun b => b ≠ w.heap.size) (fun a e => ⟨?_, (hm.out.2.2 a e).2⟩) (fun b hb _ => set5_other b hb _ _ _ _ _), fun a e => ⟨?_, Nat.lt_of_lt_of_le (hm.out.2.2 a e).2 hs5.size⟩⟩
        · have := (hm.out.2.2 a e).1
          show a.block ≠ w.heap.size
          omega
        · have := (hm.out.2.2 a e).1
          show w.heap.size ≤ a.block
          omega
      clear r2 hbel hm bw
      by_cases h1 : n' = 1
      · have hfl := HC.out.2.2.2.1 A' c'
        rw [if_pos h1] at hfl
        have hc1 := HC.out.2.2.2.2.1 h1
        have HFL := Lib.hid (And.intro hfl hc1); clear hfl hc1
        subst h1
        go_wp2_with fail
        refine bodyPost_ret (results_cell_row rfl _ _ w.heap.size 33 _ (0, 0) _ rfl (HS.out 1).1 Tryz.underlying33 rfl (by kernel_rfl)) rfl ?_
        rw [HFL.out.1]
        exact ⟨⟨A', c', none, 0, none, 0⟩, rfl, ⟨by rw [← HFL.out.2]; exact (HS.out 1).2.2.1, (HS.out 1).2.2.2⟩, (HS.out 1).2.1⟩
      · have hfl := HC.out.2.2.2.1 A' c'
        rw [if_neg h1] at hfl
        have HFL := Lib.hid hfl; clear hfl
        have h1' : ((n' : Int) == 1) = false := by simp; omega
        go_wp2_with fail
        refine bodyPost_ret (results_cell_row rfl _ _ w.heap.size 33 _ (0, 0) _ rfl (HS.out 2).1 Tryz.underlying33 rfl (by kernel_rfl)) rfl ?_
        rw [HFL.out]
        refine ⟨⟨A', c', none, 0, none, 0⟩, ?_, ⟨(HS.out 2).2.2.1, (HS.out 2).2.2.2⟩, (HS.out 2).2.1⟩
        show _ = Ending.returned (.agg #[.int .i64 2, .int .u64 (q : Int), .slice A' (C n').length c', .slice none 0 0, .slice none 0 0])
        rw [HC.out.2.2.2.2.2]
end Go.Proofs.YtngfbkkfnooobaaGreatDoor
