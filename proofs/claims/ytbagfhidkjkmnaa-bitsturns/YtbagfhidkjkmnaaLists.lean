/-
  Lists of numbers; contracts of Has and Less (the reference's), Number, Of, awake.
-/
import Derived.Test.YtbagfhidkjkmnaaCount
namespace Go.Proofs.Ytbagfhidkjkmnaa
open Go.RowKit
set_option maxHeartbeats 400000
set_option maxRecDepth 100000
/-- the slice at A reads as the numbers L, in blocks that are there -/
def Ints (w : World) (A : Option Addr) (L : List Int) : Prop :=
  L = [] ∨ ∃ b off, A = some ⟨b, off, none⟩ ∧ b < w.heap.size ∧ ∀ i (h : i < L.length), w.cell? ⟨b, off + i, none⟩ = some (.int .i64 L[i])
theorem Ints.below {w w' : World} {A : Option Addr} {l : List Int} (h : Ints w A l) (hb : Below w.heap.size w w') : Ints w' A l := by
  rcases h with h | ⟨b, off, rfl, hlt, hc⟩
  · exact .inl h
  · exact .inr ⟨b, off, rfl, Nat.lt_of_lt_of_le hlt hb.size, fun i hi => (hb.cell (p := ⟨b, off + i, none⟩) hlt).trans (hc i hi)⟩
theorem Ints.at_ {w : World} {A : Option Addr} {l : List Int} (h : Ints w A l) (k : Nat) (hk : k < l.length) :
    ∃ b off, A = some ⟨b, off, none⟩ ∧ w.cell? ⟨b, off + k, none⟩ = some (.int .i64 l[k]) := by
  rcases h with h | ⟨b, off, rfl, _, hc⟩
  · subst h; simp at hk
  · exact ⟨b, off, rfl, hc k hk⟩
theorem mem_take_succ {L : List Int} {j : Nat} (hj : j < L.length) (z : Int) : z ∈ L.take (j + 1) ↔ z ∈ L.take j ∨ z = L[j] := by
  rw [List.take_succ_eq_append_getElem hj, List.mem_append, List.mem_singleton]
theorem refHas_any (L : List Int) (A : Option Addr) (c : Nat) (z : Int) (w : World) (hb : Ints w A L) (hL : L.length < 1000000000000) :
    Calls Try.prog 11 #[.slice A L.length c, .int .i64 z] w fun e w' => e = .returned (.bool (decide (z ∈ L))) ∧ w = w' := by
  have HB := Lib.hid hb; clear hb
  go_enter Try.func11, Try.ntmps11
  go_wp2_with fail
  go_loop [5] (fun i => ∃ j : Nat, i = .int .i64 j ∧ j ≤ L.length ∧ Hid (¬ z ∈ L.take j)) (fun i => L.length - (intOf i).toNat)
  case atStart => exact ⟨0, rfl, by omega, by show ¬ _; simp⟩
  case round =>
    obtain ⟨j, rfl, hj, hno⟩ := hrel
    by_cases hlt : j < L.length
    · obtain ⟨b, off, rfl, hcell⟩ := HB.out.at_ j hlt
      have hm := mem_take_succ hlt z
      have hmem : L[j] ∈ L := List.getElem_mem hlt
      obtain ⟨y, hy⟩ : ∃ y, y = L[j] := ⟨_, rfl⟩
      rw [← hy] at hcell hm hmem
      have HM := Lib.hid hm; clear hm
      have HMM := Lib.hid hmem; clear hmem
      clear hy
      by_cases he : y = z
      · subst he
        go_wp2_with fail
        change bodyPost Try.prog Try.f11 (fun e w' => _) Exit.ret _ _
        go_ret
        exact ⟨ret_bool (decide_eq_true HMM.out).symm, rfl⟩
      · have hne : ((y : Int) == z) = false := by simpa using he
        go_wp2_with fail
        go_round
        case rel =>
          refine ⟨j + 1, by go_num, by omega, ?_⟩
          show ¬ _
          rw [HM.out]
          rintro (h | h)
          · exact hno.out h
          · exact he h.symm
        case measure => simp [intOf]; omega
    · obtain rfl : j = L.length := by omega
      have hn := hno.out
      rw [List.take_length] at hn
      have HN := Lib.hid hn; clear hn hno
      go_wp2_with fail
      go_ret
      exact ⟨ret_bool (decide_eq_false HN.out).symm, rfl⟩
theorem less_take_succ {L : List Int} {j : Nat} (hj : j < L.length) (z : Int) : less (L.take (j + 1)) z = less (L.take j) z + (if L[j] < z then 1 else 0) := by
  rw [List.take_succ_eq_append_getElem hj, less_append]
  congr 1
  by_cases h : L[j] < z <;> simp [less, h]
theorem refLess_any (L : List Int) (A : Option Addr) (c : Nat) (z : Int) (w : World) (hb : Ints w A L) (hL : L.length < 1000000000000) :
    Calls Try.prog 14 #[.slice A L.length c, .int .i64 z] w fun e w' => e = .returned (.int .i64 (less L z : Nat)) ∧ w = w' := by
  have HB := Lib.hid hb; clear hb
  go_enter Try.func14, Try.ntmps14
  go_wp2_with fail
  go_loop [5, 6] (fun a i => ∃ j n : Nat, i = .int .i64 j ∧ j ≤ L.length ∧ a = .int .i64 n ∧ n ≤ j ∧ Hid (n = less (L.take j) z)) (fun _ i => L.length - (intOf i).toNat)
  case atStart => exact ⟨0, 0, rfl, by omega, rfl, by omega, by show _ = _; simp [less]⟩
  case round =>
    obtain ⟨j, n, rfl, hj, rfl, hn, hle⟩ := hrel
    by_cases hlt : j < L.length
    · obtain ⟨b, off, rfl, hcell⟩ := HB.out.at_ j hlt
      have hm := less_take_succ hlt z
      obtain ⟨y, hy⟩ : ∃ y, y = L[j] := ⟨_, rfl⟩
      rw [← hy] at hcell hm
      rw [← hle.out] at hm
      have HM := Lib.hid hm; clear hm
      clear hy hle
      rcases Int.lt_or_le y z with he | he
      · go_wp2_with fail
        go_round
        case rel => exact ⟨j + 1, n + 1, by go_num, by omega, by go_num, by omega, by show _ = _; rw [HM.out, if_pos he]⟩
        case measure => simp [intOf]; omega
      · go_wp2_with fail
        go_round
        case rel => exact ⟨j + 1, n, by go_num, by omega, rfl, by omega, by show _ = _; rw [HM.out, if_neg (by omega), Nat.add_zero]⟩
        case measure => simp [intOf]; omega
    · obtain rfl : j = L.length := by omega
      have hnn := hle.out
      rw [List.take_length] at hnn
      have HN := Lib.hid hnn; clear hnn hle
      go_wp2_with fail
      go_ret
      exact ⟨ret_int (by rw [HN.out]), rfl⟩
theorem number_any (L : List Int) (A : Option Addr) (c : Nat) (w : World) (hb : Ints w A L) (hL : L.length < 1000000000000) (x : Nat) (hx : x = num L 32) :
    Calls Try.prog 8 #[.slice A L.length c] w fun e w' => e = .returned (.int .u32 (x : Nat)) ∧ w = w' := by
  have hh := fun z => refHas_any L A c z w hb hL
  have HH := Lib.hid hh; clear hh hb
  have HX := Lib.hid hx; clear hx
  go_enter Try.func8, Try.ntmps8
  go_wp2_with fail
  go_loop [3, 4] (fun a i => ∃ k n : Nat, k ≤ 32 ∧ i = .int .i64 (31 - (k : Int)) ∧ a = .int .u32 (n : Int) ∧ n < 4294967296 ∧ Hid (n = num L k)) (fun _ i => ((intOf i) + 1).toNat)
  case atStart => exact ⟨0, 0, by omega, rfl, rfl, by omega, by show _ = _; simp [num]⟩
  case round =>
    obtain ⟨k, n, hk, rfl, rfl, hn, hnum⟩ := hrel
    by_cases hlt : k < 32
    · have hp : n < 2 ^ k := by rw [hnum.out]; exact num_lt L k
      have hp2 : 2 ^ k ≤ 2 ^ 31 := Nat.pow_le_pow_right (by decide) (by omega)
      have hn31 : n < 2147483648 := by omega
      clear hp hp2 hn
      have hst : num L (k + 1) = n * 2 + (if ((31 - k : Nat) : Int) ∈ L then 1 else 0) := by rw [num, ← hnum.out]
      have h1 := HH.out ((31 - k : Nat) : Int)
      have ez : ((31 - k : Nat) : Int) = 31 - (k : Int) := by omega
      rw [ez] at h1 hst
      by_cases hm : (31 - (k : Int)) ∈ L
      · rw [decide_eq_true hm] at h1
        rw [if_pos hm] at hst
        have H1 := Lib.hid h1; clear h1
        have HS := Lib.hid hst; clear hst
        clear hm ez hnum
        go_wp2_with fail
        refine H1.out.mono ?_
        rintro e w' ⟨rfl, rfl⟩
        go_wp2_with fail
        go_round
        case rel => exact ⟨k + 1, n * 2 + 1, by omega, by congr 1; omega, by congr 1, by omega, HS.out.symm⟩
        case measure => simp [intOf]; omega
      · rw [decide_eq_false hm] at h1
        rw [if_neg hm] at hst
        have H1 := Lib.hid h1; clear h1
        have HS := Lib.hid hst; clear hst
        clear hm ez hnum
        go_wp2_with fail
        refine H1.out.mono ?_
        rintro e w' ⟨rfl, rfl⟩
        go_wp2_with fail
        go_round
        case rel => exact ⟨k + 1, n * 2, by omega, by congr 1; omega, by congr 1, by omega, HS.out.symm⟩
        case measure => simp [intOf]; omega
    · obtain rfl : k = 32 := by omega
      have e : n = x := hnum.out.trans HX.out.symm
      subst e
      clear hnum HX
      go_wp2_with fail
      go_ret
      exact ⟨rfl, rfl⟩
theorem ofL_take_succ {L : List Int} {j : Nat} (hj : j < L.length) : ofL (L.take (j + 1)) = ofL (L.take j) ||| one L[j] := by
  rw [List.take_succ_eq_append_getElem hj, ofL_snoc]
theorem of_any (L : List Int) (A : Option Addr) (c : Nat) (w : World) (hb : Ints w A L) (hL : L.length < 1000000000000) (x : Nat) (hx : x = ofL L) :
    Calls Try.prog 7 #[.slice A L.length c] w fun e w' => e = .returned (.int .u32 (x : Nat)) ∧ w = w' := by
  have HB := Lib.hid hb; clear hb
  have HX := Lib.hid hx; clear hx
  go_enter Try.func7, Try.ntmps7
  go_wp2_with fail
  go_loop [3, 8] (fun a i => ∃ j n : Nat, i = .int .i64 j ∧ j ≤ L.length ∧ a = .int .u32 (n : Int) ∧ n < 4294967296 ∧ Hid (n = ofL (L.take j))) (fun _ i => L.length - (intOf i).toNat)
  case atStart => exact ⟨0, 0, rfl, by omega, rfl, by omega, by show _ = _; simp [ofL]⟩
  case round =>
    obtain ⟨j, n, rfl, hj, rfl, hn, hle⟩ := hrel
    by_cases hlt : j < L.length
    · obtain ⟨b, off, rfl, hcell⟩ := HB.out.at_ j hlt
      have hm := ofL_take_succ hlt
      rw [← hle.out] at hm
      obtain ⟨y, hy⟩ : ∃ y, y = L[j] := ⟨_, rfl⟩
      rw [← hy] at hcell hm
      have hw := with_any n y w hn
      have hlt2 := or_lt hn (one_lt y)
      obtain ⟨n2, hn2⟩ : ∃ n2, n2 = n ||| one y := ⟨_, rfl⟩
      rw [← hn2] at hw hm hlt2
      have HM := Lib.hid hm; clear hm
      have HW := Lib.hid hw; clear hw
      clear hy hle hn2
      go_wp2_with fail
      refine HW.out.mono ?_
      rintro e w' ⟨rfl, rfl⟩
      go_wp2_with fail
      go_round
      case rel => exact ⟨j + 1, n2, by go_num, by omega, rfl, hlt2, HM.out.symm⟩
      case measure => simp [intOf]; omega
    · obtain rfl : j = L.length := by omega
      have hnn := hle.out
      rw [List.take_length, ← HX.out] at hnn
      subst hnn
      clear hle HX
      go_wp2_with fail
      go_ret
      exact ⟨rfl, rfl⟩
theorem three_ints (w : World) : Ints (w.alloc (.cells #[.int .i64 3, .int .i64 5, .int .i64 40] 3)) (some ⟨w.heap.size, 0, none⟩) [3, 5, 40] := by
  refine .inr ⟨_, _, rfl, by simp, fun i hi => ?_⟩
  rw [Nat.zero_add, cell_of_row _ _ _ _ _ _ (heap_alloc_new w _)]
  have hi2 : i < 3 := hi
  match i, hi2 with
  | 0, _ => rfl
  | 1, _ => rfl
  | 2, _ => rfl
theorem three_of (w : World) : Calls Try.prog 7 #[.slice (some ⟨w.heap.size, 0, none⟩) 3 3] (w.alloc (.cells #[.int .i64 3, .int .i64 5, .int .i64 40] 3)) fun e w' => e = .returned (.int .u32 40) ∧ w.alloc (.cells #[.int .i64 3, .int .i64 5, .int .i64 40] 3) = w' :=
  of_any [3, 5, 40] _ 3 _ (three_ints w) (by decide) 40 (by decide)
theorem forty_count (W : World) : Calls Try.prog 12 #[.int .u32 40] W fun e w' => e = .returned (.int .i64 2) ∧ ∃ n, w' = W.drewN n := by
  have h := count_any 40 W (by decide)
  rw [show cnt 40 32 = 2 by decide] at h
  exact h
theorem forty_place (W : World) : Calls Try.prog 13 #[.int .u32 40, .int .i64 5] W fun e w' => e = .returned (.int .i64 1) ∧ ∃ n, w' = W.drewN n := by
  have h := place_any 40 5 W (by decide)
  rw [show less (lst 40 32) 5 = 1 by decide] at h
  exact h
theorem three_at (w : World) (g : Nat) (hg : w.heap.size = g) : Calls Try.prog 7 #[.slice (some ⟨g, 0, none⟩) 3 3] (w.alloc (.cells #[.int .i64 3, .int .i64 5, .int .i64 40] 3)) fun e w' => e = .returned (.int .u32 40) ∧ w.alloc (.cells #[.int .i64 3, .int .i64 5, .int .i64 40] 3) = w' := by
  subst hg
  exact three_of w
theorem awake_any (w : World) : Calls Try.prog 6 #[] w fun e w' => e = .returned (.bool true) ∧ Below w.heap.size w w' := by
  have HC := Lib.hid forty_count
  have HP := Lib.hid forty_place
  go_enter Try.func6, Try.ntmps6
  go_wp2_with fail
  refine (three_at _ _ rfl).mono ?_
  rintro e w1 ⟨rfl, rfl⟩
  go_wp2_with fail
  refine (HC.out _).mono ?_
  rintro e w2 ⟨rfl, n, rfl⟩
  go_wp2_with fail
  refine (three_at _ _ (by simp)).mono ?_
  rintro e w3 ⟨rfl, rfl⟩
  go_wp2_with fail
  refine (HP.out _).mono ?_
  rintro e w4 ⟨rfl, n2, rfl⟩
  go_wp2_with fail
  go_ret
  exact ⟨rfl, below_drewN ((below_drewN ((Below.refl _ _).alloc (Nat.le_refl _) _) _).alloc (by simp) _) _⟩
end Go.Proofs.Ytbagfhidkjkmnaa
