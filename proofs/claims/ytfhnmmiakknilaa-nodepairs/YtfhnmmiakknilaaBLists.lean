/-
  Lists of numbers; contracts of Has and Less (the reference's), Number, Of, awake.
-/
import Derived.Test.YtfhnmmiakknilaaBCount
namespace Go.Proofs.Ytfhnmmiakknilaa.Bt
open Go.RowKit
set_option maxHeartbeats 400000
set_option maxRecDepth 100000
/-- the slice at A reads as the numbers L, in blocks that are there -/
def Ints (w : World) (A : Option Addr) (L : List Int) : Prop :=
  L = [] ∨ ∃ b off, A = some ⟨b, off, none⟩ ∧ b < w.heap.size ∧ ∀ i (h : i < L.length), w.cell? ⟨b, off + i, none⟩ = some (.int .i64 L[i])
theorem Ints.below {w w' : World} {A : Option Addr} {l : List Int} (h : Ints w A l) (hb : Below w.heap.size w w') : Ints w' A l := by
  rcases h with h | ⟨b, off, rfl, hlt, hc⟩
  · exact .inl h
  · exact .inr ⟨b, off, rfl, Nat.lt_of_lt_of_le hlt hb.size, fun i hi => (hb.cell (p := ⟨b, off + i, none⟩) hlt).trans (hc i hi)⟩
theorem Ints.at_ {w : World} {A : Option Addr} {l : List Int} (h : Ints w A l) (k : Nat) (hk : k < l.length) :
    ∃ b off, A = some ⟨b, off, none⟩ ∧ w.cell? ⟨b, off + k, none⟩ = some (.int .i64 l[k]) := by
  rcases h with h | ⟨b, off, rfl, _, hc⟩
  · subst h; simp at hk
  · exact ⟨b, off, rfl, hc k hk⟩
theorem mem_take_succ {L : List Int} {j : Nat} (hj : j < L.length) (z : Int) : z ∈ L.take (j + 1) ↔ z ∈ L.take j ∨ z = L[j] := by
  rw [List.take_succ_eq_append_getElem hj, List.mem_append, List.mem_singleton]
theorem refHas_any (L : List Int) (A : Option Addr) (c : Nat) (z : Int) (w : World) (hb : Ints w A L) (hL : L.length < 1000000000000) :
    Calls Try.prog 55 #[.slice A L.length c, .int .i64 z] w fun e w' => e = .returned (.bool (decide (z ∈ L))) ∧ w = w' := by
  have HB := Lib.hid hb; clear hb
  go_enter Try.func55, Try.ntmps55
  go_wp2_with fail
  go_loop [5] (fun i => ∃ j : Nat, i = .int .i64 j ∧ j ≤ L.length ∧ Hid (¬ z ∈ L.take j)) (fun i => L.length - (intOf i).toNat)
  case atStart => exact ⟨0, rfl, by omega, by show ¬ _; simp⟩
  case round =>
    obtain ⟨j, rfl, hj, hno⟩ := hrel
    by_cases hlt : j < L.length
    · obtain ⟨b, off, rfl, hcell⟩ := HB.out.at_ j hlt
      have hm := mem_take_succ hlt z
      have hmem : L[j] ∈ L := List.getElem_mem hlt
      obtain ⟨y, hy⟩ : ∃ y, y = L[j] := ⟨_, rfl⟩
      rw [← hy] at hcell hm hmem
      have HM := Lib.hid hm; clear hm
      have HMM := Lib.hid hmem; clear hmem
      clear hy
      by_cases he : y = z
      · subst he
        go_wp2_with fail
        change bodyPost Try.prog Try.f55 (fun e w' => _) Exit.ret _ _
        go_ret
        exact ⟨ret_bool (decide_eq_true HMM.out).symm, rfl⟩
      · have hne : ((y : Int) == z) = false := by simpa using he
        go_wp2_with fail
        go_round
        case rel =>
          refine ⟨j + 1, by go_num, by omega, ?_⟩
          show ¬ _
          rw [HM.out]
          rintro (h | h)
          · exact hno.out h
          · exact he h.symm
        case measure => simp [intOf]; omega
    · obtain rfl : j = L.length := by omega
      have hn := hno.out
      rw [List.take_length] at hn
      have HN := Lib.hid hn; clear hn hno
      go_wp2_with fail
      go_ret
      exact ⟨ret_bool (decide_eq_false HN.out).symm, rfl⟩
theorem number_any (L : List Int) (A : Option Addr) (c : Nat) (w : World) (hb : Ints w A L) (hL : L.length < 1000000000000) (x : Nat) (hx : x = num L 32) :
    Calls Try.prog 31 #[.slice A L.length c] w fun e w' => e = .returned (.int .u32 (x : Nat)) ∧ w = w' := by
  have hh := fun z => refHas_any L A c z w hb hL
  have HH := Lib.hid hh; clear hh hb
  have HX := Lib.hid hx; clear hx
  go_enter Try.func31, Try.ntmps31
  go_wp2_with fail
  go_loop [3, 4] (fun a i => ∃ k n : Nat, k ≤ 32 ∧ i = .int .i64 (31 - (k : Int)) ∧ a = .int .u32 (n : Int) ∧ n < 4294967296 ∧ Hid (n = num L k)) (fun _ i => ((intOf i) + 1).toNat)
  case atStart => exact ⟨0, 0, by omega, rfl, rfl, by omega, by show _ = _; simp [num]⟩
  case round =>
    obtain ⟨k, n, hk, rfl, rfl, hn, hnum⟩ := hrel
    by_cases hlt : k < 32
    · have hp : n < 2 ^ k := by rw [hnum.out]; exact num_lt L k
      have hp2 : 2 ^ k ≤ 2 ^ 31 := Nat.pow_le_pow_right (by decide) (by omega)
      have hn31 : n < 2147483648 := by omega
      clear hp hp2 hn
      have hst : num L (k + 1) = n * 2 + (if ((31 - k : Nat) : Int) ∈ L then 1 else 0) := by rw [num, ← hnum.out]
      have h1 := HH.out ((31 - k : Nat) : Int)
      have ez : ((31 - k : Nat) : Int) = 31 - (k : Int) := by omega
      rw [ez] at h1 hst
      by_cases hm : (31 - (k : Int)) ∈ L
      · rw [decide_eq_true hm] at h1
        rw [if_pos hm] at hst
        have H1 := Lib.hid h1; clear h1
        have HS := Lib.hid hst; clear hst
        clear hm ez hnum
        go_wp2_with fail
        refine H1.out.mono ?_
        rintro e w' ⟨rfl, rfl⟩
        go_wp2_with fail
        go_round
        case rel => exact ⟨k + 1, n * 2 + 1, by omega, by congr 1; omega, by congr 1, by omega, HS.out.symm⟩
        case measure => simp [intOf]; omega
      · rw [decide_eq_false hm] at h1
        rw [if_neg hm] at hst
        have H1 := Lib.hid h1; clear h1
        have HS := Lib.hid hst; clear hst
        clear hm ez hnum
        go_wp2_with fail
        refine H1.out.mono ?_
        rintro e w' ⟨rfl, rfl⟩
        go_wp2_with fail
        go_round
        case rel => exact ⟨k + 1, n * 2, by omega, by congr 1; omega, by congr 1, by omega, HS.out.symm⟩
        case measure => simp [intOf]; omega
    · obtain rfl : k = 32 := by omega
      have e : n = x := hnum.out.trans HX.out.symm
      subst e
      clear hnum HX
      go_wp2_with fail
      go_ret
      exact ⟨rfl, rfl⟩
theorem ofL_take_succ {L : List Int} {j : Nat} (hj : j < L.length) : ofL (L.take (j + 1)) = ofL (L.take j) ||| one L[j] := by
  rw [List.take_succ_eq_append_getElem hj, ofL_snoc]
end Go.Proofs.Ytfhnmmiakknilaa.Bt
