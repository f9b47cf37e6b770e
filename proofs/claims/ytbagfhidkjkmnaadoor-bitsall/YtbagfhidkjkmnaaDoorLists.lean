/-
  Lists of numbers; contracts of Has and Less (the reference's), Number, Of, awake.
-/
import Derived.Test.YtbagfhidkjkmnaaDoorCount
namespace Go.Proofs.YtbagfhidkjkmnaaDoor
open Go.RowKit
set_option maxHeartbeats 400000
set_option maxRecDepth 100000
/-- the slice at A reads as the numbers L, in blocks that are there -/
def Ints (w : World) (A : Option Addr) (L : List Int) : Prop :=
  L = [] ∨ ∃ b off, A = some ⟨b, off, none⟩ ∧ b < w.heap.size ∧ ∀ i (h : i < L.length), w.cell? ⟨b, off + i, none⟩ = some (.int .i64 L[i])
theorem Ints.below {w w' : World} {A : Option Addr} {l : List Int} (h : Ints w A l) (hb : Below w.heap.size w w') : Ints w' A l := by
  rcases h with h | ⟨b, off, rfl, hlt, hc⟩
  · exact .inl h
  · exact .inr ⟨b, off, rfl, Nat.lt_of_lt_of_le hlt hb.size, fun i hi => (hb.cell (p := ⟨b, off + i, none⟩) hlt).trans (hc i hi)⟩
theorem Ints.at_ {w : World} {A : Option Addr} {l : List Int} (h : Ints w A l) (k : Nat) (hk : k < l.length) :
    ∃ b off, A = some ⟨b, off, none⟩ ∧ w.cell? ⟨b, off + k, none⟩ = some (.int .i64 l[k]) := by
  rcases h with h | ⟨b, off, rfl, _, hc⟩
  · subst h; simp at hk
  · exact ⟨b, off, rfl, hc k hk⟩
theorem ofL_take_succ {L : List Int} {j : Nat} (hj : j < L.length) : ofL (L.take (j + 1)) = ofL (L.take j) ||| one L[j] := by
  rw [List.take_succ_eq_append_getElem hj, ofL_snoc]
theorem of_any (L : List Int) (A : Option Addr) (c : Nat) (w : World) (hb : Ints w A L) (hL : L.length < 1000000000000) (x : Nat) (hx : x = ofL L) :
    Calls Tryd.prog 10 #[.slice A L.length c] w fun e w' => e = .returned (.int .u32 (x : Nat)) ∧ w = w' := by
  have HB := Lib.hid hb; clear hb
  have HX := Lib.hid hx; clear hx
  go_enter Tryd.func10, Tryd.ntmps10
  go_wp2_with fail
  go_loop [3, 8] (fun a i => ∃ j n : Nat, i = .int .i64 j ∧ j ≤ L.length ∧ a = .int .u32 (n : Int) ∧ n < 4294967296 ∧ Hid (n = ofL (L.take j))) (fun _ i => L.length - (intOf i).toNat)
  case atStart => exact ⟨0, 0, rfl, by omega, rfl, by omega, by show _ = _; simp [ofL]⟩
  case round =>
    obtain ⟨j, n, rfl, hj, rfl, hn, hle⟩ := hrel
    by_cases hlt : j < L.length
    · obtain ⟨b, off, rfl, hcell⟩ := HB.out.at_ j hlt
      have hm := ofL_take_succ hlt
      rw [← hle.out] at hm
      obtain ⟨y, hy⟩ : ∃ y, y = L[j] := ⟨_, rfl⟩
      rw [← hy] at hcell hm
      have hw := with_any n y w hn
      have hlt2 := or_lt hn (one_lt y)
      obtain ⟨n2, hn2⟩ : ∃ n2, n2 = n ||| one y := ⟨_, rfl⟩
      rw [← hn2] at hw hm hlt2
      have HM := Lib.hid hm; clear hm
      have HW := Lib.hid hw; clear hw
      clear hy hle hn2
      go_wp2_with fail
      refine HW.out.mono ?_
      rintro e w' ⟨rfl, rfl⟩
      go_wp2_with fail
      go_round
      case rel => exact ⟨j + 1, n2, by go_num, by omega, rfl, hlt2, HM.out.symm⟩
      case measure => simp [intOf]; omega
    · obtain rfl : j = L.length := by omega
      have hnn := hle.out
      rw [List.take_length, ← HX.out] at hnn
      subst hnn
      clear hle HX
      go_wp2_with fail
      go_ret
      exact ⟨rfl, rfl⟩
theorem three_ints (w : World) : Ints (w.alloc (.cells #[.int .i64 3, .int .i64 5, .int .i64 40] 3)) (some ⟨w.heap.size, 0, none⟩) [3, 5, 40] := by
  refine .inr ⟨_, _, rfl, by simp, fun i hi => ?_⟩
  rw [Nat.zero_add, cell_of_row _ _ _ _ _ _ (heap_alloc_new w _)]
  have hi2 : i < 3 := hi
  match i, hi2 with
  | 0, _ => rfl
  | 1, _ => rfl
  | 2, _ => rfl
theorem three_of (w : World) : Calls Tryd.prog 10 #[.slice (some ⟨w.heap.size, 0, none⟩) 3 3] (w.alloc (.cells #[.int .i64 3, .int .i64 5, .int .i64 40] 3)) fun e w' => e = .returned (.int .u32 40) ∧ w.alloc (.cells #[.int .i64 3, .int .i64 5, .int .i64 40] 3) = w' :=
  of_any [3, 5, 40] _ 3 _ (three_ints w) (by decide) 40 (by decide)
theorem forty_count (W : World) : Calls Tryd.prog 11 #[.int .u32 40] W fun e w' => e = .returned (.int .i64 2) ∧ ∃ n, w' = W.drewN n := by
  have h := count_any 40 W (by decide)
  rw [show cnt 40 32 = 2 by decide] at h
  exact h
theorem forty_place (W : World) : Calls Tryd.prog 8 #[.int .u32 40, .int .i64 5] W fun e w' => e = .returned (.int .i64 1) ∧ ∃ n, w' = W.drewN n := by
  have h := place_any 40 5 W (by decide)
  rw [show less (lst 40 32) 5 = 1 by decide] at h
  exact h
theorem three_at (w : World) (g : Nat) (hg : w.heap.size = g) : Calls Tryd.prog 10 #[.slice (some ⟨g, 0, none⟩) 3 3] (w.alloc (.cells #[.int .i64 3, .int .i64 5, .int .i64 40] 3)) fun e w' => e = .returned (.int .u32 40) ∧ w.alloc (.cells #[.int .i64 3, .int .i64 5, .int .i64 40] 3) = w' := by
  subst hg
  exact three_of w
theorem awake_any (w : World) : Calls Tryd.prog 7 #[] w fun e w' => e = .returned (.bool true) ∧ Below w.heap.size w w' := by
  have HC := Lib.hid forty_count
  have HP := Lib.hid forty_place
  go_enter Tryd.func7, Tryd.ntmps7
  go_wp2_with fail
  refine (three_at _ _ rfl).mono ?_
  rintro e w1 ⟨rfl, rfl⟩
  go_wp2_with fail
  refine (HC.out _).mono ?_
  rintro e w2 ⟨rfl, n, rfl⟩
  go_wp2_with fail
  refine (three_at _ _ (by simp)).mono ?_
  rintro e w3 ⟨rfl, rfl⟩
  go_wp2_with fail
  refine (HP.out _).mono ?_
  rintro e w4 ⟨rfl, n2, rfl⟩
  go_wp2_with fail
  go_ret
  exact ⟨rfl, below_drewN ((below_drewN ((Below.refl _ _).alloc (Nat.le_refl _) _) _).alloc (by simp) _) _⟩
end Go.Proofs.YtbagfhidkjkmnaaDoor
