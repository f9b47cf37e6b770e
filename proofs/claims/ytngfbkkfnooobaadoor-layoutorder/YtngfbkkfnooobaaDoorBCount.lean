/-
  Contracts of OnesCount32, Count, Place.
-/
import Derived.Test.YtngfbkkfnooobaaDoorBOnes
import Derived.Lib.BitFns
namespace Go.Proofs.YtngfbkkfnooobaaDoor.Bt
open Go.RowKit
set_option maxHeartbeats 400000
set_option maxRecDepth 100000
theorem fold_pop : ({ data := (([0, 1, 1, 2, 1, 2, 2, 3, 1, 2, 2, 3, 2, 3, 3, 4, 1, 2, 2, 3, 2, 3, 3, 4, 2, 3, 3, 4, 3, 4, 4, 5, 1, 2, 2, 3, 2, 3, 3, 4, 2, 3, 3, 4, 3, 4, 4, 5, 2, 3, 3, 4, 3, 4, 4, 5, 3, 4, 4, 5, 4, 5, 5, 6].append [1, 2, 2, 3, 2, 3, 3, 4, 2, 3, 3, 4, 3, 4, 4, 5, 2, 3, 3, 4, 3, 4, 4, 5, 3, 4, 4, 5, 4, 5, 5, 6, 2, 3, 3, 4, 3, 4, 4, 5, 3, 4, 4, 5, 4, 5, 5, 6, 3, 4, 4, 5, 4, 5, 5, 6, 4, 5, 5, 6, 5, 6, 6, 7]).append ([1, 2, 2, 3, 2, 3, 3, 4, 2, 3, 3, 4, 3, 4, 4, 5, 2, 3, 3, 4, 3, 4, 4, 5, 3, 4, 4, 5, 4, 5, 5, 6, 2, 3, 3, 4, 3, 4, 4, 5, 3, 4, 4, 5, 4, 5, 5, 6, 3, 4, 4, 5, 4, 5, 5, 6, 4, 5, 5, 6, 5, 6, 6, 7].append [2, 3, 3, 4, 3, 4, 4, 5, 3, 4, 4, 5, 4, 5, 5, 6, 3, 4, 4, 5, 4, 5, 5, 6, 4, 5, 5, 6, 5, 6, 6, 7, 3, 4, 4, 5, 4, 5, 5, 6, 4, 5, 5, 6, 5, 6, 6, 7, 4, 5, 5, 6, 5, 6, 6, 7, 5, 6, 6, 7, 6, 7, 7, 8])).toArray } : ByteArray) = Lib.pop8tab := rfl
theorem pop_cnt : ∀ n : Fin 256, Lib.pop8 (n.val : Int) = (cnt n.val 8 : Int) := by decide +kernel
theorem run_pop (q : Nat) (hq : q < 256) (w : World) : (Instr.index 9 (.string Lib.pop8tab) (.int .u32 (q : Int))).run Tryd.prog w = .ok (.int .u8 ((cnt q 8 : Nat) : Int)) w := by
  rw [Lib.run_index_pop8tab _ 9 .u32 (q : Int) Tryd.underlying9 (by omega) (by omega), pop_cnt ⟨q, hq⟩]
theorem byte_and {a : Nat} (ha : a < 4294967296) : bits .and .u32 (a : Int) 255 = ((a % 256 : Nat) : Int) := by
  have h := and32 ha (show 255 < 4294967296 by decide)
  rw [Nat.and_two_pow_sub_one_eq_mod (n := 8)] at h
  exact h
theorem ones_any (m : Nat) (w : World) (hm : m < 4294967296) :
    Calls Tryd.prog 24 #[.int .u32 m] w fun e w' => e = .returned (.int .i64 (cnt m 32 : Nat)) ∧ ∃ n, w' = w.drewN n := by
  have hb := cnt_bytes m
  have e1 : (m : Int) / 16777216 = ((m / 16777216 : Nat) : Int) := by omega
  have e2 : bits .and .u32 ((m : Int) / 65536) 255 = ((m / 65536 % 256 : Nat) : Int) := byte_and (a := m / 65536) (by omega)
  have e3 : bits .and .u32 ((m : Int) / 256) 255 = ((m / 256 % 256 : Nat) : Int) := byte_and (a := m / 256) (by omega)
  have e4 : bits .and .u32 (m : Int) 255 = ((m % 256 : Nat) : Int) := byte_and hm
  have r1 := fun W => run_pop (m / 16777216) (by omega) W
  have r2 := fun W => run_pop (m / 65536 % 256) (by omega) W
  have r3 := fun W => run_pop (m / 256 % 256) (by omega) W
  have r4 := fun W => run_pop (m % 256) (by omega) W
  have l1 := cnt_le (m / 16777216) 8
  have l2 := cnt_le (m / 65536 % 256) 8
  have l3 := cnt_le (m / 256 % 256) 8
  have l4 := cnt_le (m % 256) 8
  obtain ⟨q1, h1⟩ : ∃ q, q = m / 16777216 := ⟨_, rfl⟩
  obtain ⟨q2, h2⟩ : ∃ q, q = m / 65536 % 256 := ⟨_, rfl⟩
  obtain ⟨q3, h3⟩ : ∃ q, q = m / 256 % 256 := ⟨_, rfl⟩
  obtain ⟨q4, h4⟩ : ∃ q, q = m % 256 := ⟨_, rfl⟩
  rw [← h1, ← h2, ← h3, ← h4] at hb
  rw [← h1] at e1 l1
  rw [← h2] at e2 l2
  rw [← h3] at e3 l3
  rw [← h4] at e4 l4
  simp only [← h1] at r1
  simp only [← h2] at r2
  simp only [← h3] at r3
  simp only [← h4] at r4
  clear h1 h2 h3 h4
  obtain ⟨c1, g1⟩ : ∃ c, c = cnt q1 8 := ⟨_, rfl⟩
  obtain ⟨c2, g2⟩ : ∃ c, c = cnt q2 8 := ⟨_, rfl⟩
  obtain ⟨c3, g3⟩ : ∃ c, c = cnt q3 8 := ⟨_, rfl⟩
  obtain ⟨c4, g4⟩ : ∃ c, c = cnt q4 8 := ⟨_, rfl⟩
  simp only [← g1] at r1 l1
  simp only [← g2] at r2 l2
  simp only [← g3] at r3 l3
  simp only [← g4] at r4 l4
  rw [← g1, ← g2, ← g3, ← g4] at hb
  clear g1 g2 g3 g4
  have HB := Lib.hid hb; clear hb
  go_enter Tryd.func24, Tryd.ntmps24
  go_wp2
  simp only [fold_pop]
  go_quiet (fail)
  go_wp2
  go_ret
  refine ⟨ret_int ?_, _, rfl⟩
  rw [HB.out]
  omega
theorem count_any (m : Nat) (w : World) (hm : m < 4294967296) :
    Calls Tryd.prog 14 #[.int .u32 m] w fun e w' => e = .returned (.int .i64 (cnt m 32 : Nat)) ∧ ∃ n, w' = w.drewN n := by
  have h := ones_any m w hm
  obtain ⟨c, hc⟩ : ∃ c, c = cnt m 32 := ⟨_, rfl⟩
  rw [← hc] at h ⊢
  have H := Lib.hid h; clear h hc
  go_enter Tryd.func14, Tryd.ntmps14
  go_wp2_with fail
  refine H.out.mono ?_
  rintro e w' ⟨rfl, n, rfl⟩
  go_wp2_with fail
  go_ret
  exact ⟨rfl, n, rfl⟩
/-- Place: how many of its numbers are less -/
theorem place_any (m : Nat) (z : Int) (w : World) (hm : m < 4294967296) :
    Calls Tryd.prog 61 #[.int .u32 m, .int .i64 z] w fun e w' => e = .returned (.int .i64 (less (lst m 32) z : Nat)) ∧ ∃ n, w' = w.drewN n := by
  have hb := below_any z w
  have hl := bel_lt z
  have ha := and32 hm hl
  have h := count_any (m &&& bel z) w (and_lt hm)
  rw [cnt_bel m z 32 (Nat.le_refl _)] at h
  obtain ⟨c, hc⟩ : ∃ c, c = less (lst m 32) z := ⟨_, rfl⟩
  obtain ⟨b, hbb⟩ : ∃ b, b = bel z := ⟨_, rfl⟩
  rw [← hc] at h ⊢
  rw [← hbb] at h hb hl ha
  obtain ⟨x, hx⟩ : ∃ x, x = m &&& b := ⟨_, rfl⟩
  rw [← hx] at h ha
  have H := Lib.hid h; clear h hc
  have HB := Lib.hid hb; clear hb hbb hx
  go_enter Tryd.func61, Tryd.ntmps61
  go_wp2_with fail
  refine HB.out.mono ?_
  rintro e w' ⟨rfl, rfl⟩
  go_wp2_with fail
  refine H.out.mono ?_
  rintro e w' ⟨rfl, n, rfl⟩
  go_wp2_with fail
  go_ret
  exact ⟨rfl, n, rfl⟩
end Go.Proofs.YtngfbkkfnooobaaDoor.Bt
