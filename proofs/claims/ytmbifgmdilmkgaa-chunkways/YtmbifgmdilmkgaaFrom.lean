/-
  Contract of From.
-/
import Derived.Test.YtmbifgmdilmkgaaRef
namespace Go.Proofs.Ytmbifgmdilmkgaa
open Go.RowKit
set_option maxHeartbeats 400000
set_option maxRecDepth 100000
/-- the slice at A reads as the numbers L, in blocks that are there -/
def Ints (w : World) (A : Option Addr) (L : List Int) : Prop :=
  L = [] ∨ ∃ b off, A = some ⟨b, off, none⟩ ∧ b < w.heap.size ∧ ∀ i (h : i < L.length), w.cell? ⟨b, off + i, none⟩ = some (.int .i64 L[i])
theorem Ints.below {w w' : World} {A : Option Addr} {l : List Int} (h : Ints w A l) (hb : Below w.heap.size w w') : Ints w' A l := by
  rcases h with h | ⟨b, off, rfl, hlt, hc⟩
  · exact .inl h
  · exact .inr ⟨b, off, rfl, Nat.lt_of_lt_of_le hlt hb.size, fun i hi => (hb.cell (p := ⟨b, off + i, none⟩) hlt).trans (hc i hi)⟩
theorem Ints.at_ {w : World} {A : Option Addr} {l : List Int} (h : Ints w A l) (k : Nat) (hk : k < l.length) :
    ∃ b off, A = some ⟨b, off, none⟩ ∧ w.cell? ⟨b, off + k, none⟩ = some (.int .i64 l[k]) := by
  rcases h with h | ⟨b, off, rfl, _, hc⟩
  · subst h; simp at hk
  · exact ⟨b, off, rfl, hc k hk⟩
theorem way_ints (w : World) (h : Nat) : Ints (w.alloc (.cells (wayV h) 3)) (some ⟨w.heap.size, 0, none⟩) ((way h 13).map (fun n : Nat => (n : Int))) := by
  refine .inr ⟨_, _, rfl, by simp, fun i hi => ?_⟩
  have hi2 : i < 13 := by simpa [way_length] using hi
  rw [Nat.zero_add, cell_of_row _ _ _ _ _ _ (heap_alloc_new w _), wayV_get h i hi2]
  simp [way]
/-- the numbers as chunks -/
def nat (L : List Int) : List Nat := L.map Int.toNat
theorem nat_lt (L : List Int) (j : Nat) (hl : j ≤ L.length) (h : okTo L j) : val ((nat L).take j) < 32 ^ j := by
  have h1 := val_lt ((nat L).take j) (by
    intro a ha
    obtain ⟨i, hi, rfl⟩ := List.getElem_of_mem ha
    have hi1 : i < j := by simp at hi; omega
    have hi2 : i < L.length := by omega
    obtain ⟨k1, k2⟩ := h i hi1 hi2
    have hg : gr i < 32 := ch_lt _ _
    simp only [nat, List.getElem_take, List.getElem_map]
    omega)
  rw [List.length_take, show (nat L).length = L.length by simp [nat], Nat.min_eq_left hl] at h1
  exact h1
theorem from_arg (L : List Int) (A : Option Addr) (c : Nat) (w : World) (hl : L.length ≠ 13) :
    Calls Try.prog 11 #[.slice A L.length c] w fun e w' => e = .returned (.tuple #[.int .u64 0, .int .i64 1]) ∧ w = w' := by
  go_enter Try.func11, Try.ntmps11
  go_wp2_with fail
  go_ret2
  exact ⟨rfl, rfl⟩
theorem from_any (L : List Int) (A : Option Addr) (c : Nat) (w : World) (hl : L.length = 13) (hb : Ints w A L) :
    Calls Try.prog 11 #[.slice A 13 c] w fun e w' => (∃ v c : Nat, e = .returned (.tuple #[.int .u64 (v : Int), .int .i64 (c : Int)]) ∧ v < 18446744073709551616 ∧ ((okTo L 13 ∧ v = val (nat L) ∧ c = 0) ∨ (¬ okTo L 13 ∧ v = 0 ∧ c = 2))) ∧ w = w' := by
  have HL := Lib.hid hl; clear hl
  have HB := Lib.hid hb; clear hb
  have hgr := fun (j : Nat) (hj : j ≤ 12) => greatest_any j w hj
  have HGR := Lib.hid hgr; clear hgr
  go_enter Try.func11, Try.ntmps11
  go_wp2_with fail
  go_loop [4, 12] (fun a i => ∃ j m : Nat, j ≤ 13 ∧ i = .int .i64 j ∧ a = .int .u64 (m : Int) ∧ m < 18446744073709551616 ∧ Hid (m = val ((nat L).take j) ∧ okTo L j)) (fun _ i => 13 - (intOf i).toNat)
  case atStart => exact ⟨0, 0, by omega, rfl, by simp, by decide, by simp [val], fun i hi => by omega⟩
  case round =>
    obtain ⟨j, m, hj, rfl, rfl, hm64, hm⟩ := hrel
    by_cases hlt : j < 13
    · have hjl : j < L.length := by rw [HL.out]; exact hlt
      obtain ⟨b, off, rfl, hcell⟩ := HB.out.at_ j hjl
      obtain ⟨z, hz⟩ : ∃ z, z = L[j] := ⟨_, rfl⟩
      rw [← hz] at hcell
      have HZ := Lib.hid hz; clear hz
      have hg := HGR.out j (by omega)
      obtain ⟨g, hgg⟩ : ∃ g, g = gr j := ⟨_, rfl⟩
      rw [← hgg] at hg
      have hg32 : g < 32 := by rw [hgg]; exact ch_lt _ _
      have HG := Lib.hid hg; clear hg
      have HGG := Lib.hid hgg; clear hgg
      rcases Int.lt_or_le z 0 with h1 | h1
      · have hno : ¬ okTo L 13 := fun h => by have := (h j hlt hjl).1; rw [← HZ.out] at this; omega
        have HNO := Lib.hid hno; clear hno
        go_wp2_with fail
        change bodyPost Try.prog Try.f11 (fun e w' => _) Exit.ret _ _
        go_ret2
        exact ⟨⟨0, 2, rfl, by decide, .inr ⟨HNO.out, rfl, rfl⟩⟩, rfl⟩
      · rcases Int.lt_or_le (g : Int) z with h2 | h2
        · have hno : ¬ okTo L 13 := fun h => by have := (h j hlt hjl).2; rw [← HZ.out, ← HGG.out] at this; omega
          have HNO := Lib.hid hno; clear hno
          go_wp2_with fail
          refine HG.out.mono ?_
          rintro e w' ⟨rfl, rfl⟩
          go_wp2_with fail
          change bodyPost Try.prog Try.f11 (fun e w' => _) Exit.ret _ _
          go_ret2
          exact ⟨⟨0, 2, rfl, by decide, .inr ⟨HNO.out, rfl, rfl⟩⟩, rfl⟩
        · obtain ⟨n, rfl⟩ := Int.eq_ofNat_of_zero_le h1
          have hn : n ≤ g := by omega
          have hml : m < 32 ^ j := by rw [hm.out.1]; exact nat_lt L j (by omega) hm.out.2
          obtain ⟨hst, hst2⟩ := from_step m n j hml (by rw [← HGG.out]; exact hn) (by omega)
          have hval : m + n * 32 ^ j = val ((nat L).take (j + 1)) := by
            rw [val_take _ j (by simp [nat]; omega), ← hm.out.1]
            congr 2
            simp only [nat, List.getElem_map]
            rw [← HZ.out]; rfl
          have hok : okTo L (j + 1) := by
            intro i hi h3
            by_cases e : i = j
            · subst e
              unfold okAt
              rw [← HZ.out, ← HGG.out]
              exact ⟨by omega, by omega⟩
            · exact hm.out.2 i (by omega) h3
          obtain ⟨m2, hm2⟩ : ∃ m2, m2 = m + n * 32 ^ j := ⟨_, rfl⟩
          rw [← hm2] at hst hst2 hval
          have HST := Lib.hid hst; clear hst
          have HV := Lib.hid hval; clear hval
          have HO := Lib.hid hok; clear hok
          clear hm2 hml
          go_wp2_with fail
          refine HG.out.mono ?_
          rintro e w' ⟨rfl, rfl⟩
          go_wp2_with fail
          go_round
          case rel => exact ⟨j + 1, m2, by omega, by go_num, by congr 1, hst2, HV.out, HO.out⟩
          case measure => simp [intOf]; omega
    · obtain rfl : j = 13 := by omega
      go_wp2_with fail
      go_ret2
      refine ⟨⟨m, 0, rfl, hm64, .inl ⟨hm.out.2, ?_, rfl⟩⟩, rfl⟩
      rw [hm.out.1, List.take_of_length_le (by simp [nat, HL.out])]
theorem nat_way (h n : Nat) : nat ((way h n).map (fun n : Nat => (n : Int))) = way h n := by simp [nat, List.map_map, Function.comp_def]
theorem ok_way (h n : Nat) (hh : h < 18446744073709551616) (hn : n ≤ 13) : okTo ((way h n).map (fun n : Nat => (n : Int))) n := by
  intro i hi hl
  have := ch_gr h i hh (by omega)
  unfold okAt
  rw [List.getElem_map, way_get]
  omega
theorem from_list (L : List Int) (A : Option Addr) (c h : Nat) (W : World) (hl : L.length = 13) (hb : Ints W A L) (hok : okTo L 13) (hv : val (nat L) = h) :
    Calls Try.prog 11 #[.slice A 13 c] W fun e w' => e = .returned (.tuple #[.int .u64 (h : Int), .int .i64 0]) ∧ W = w' := by
  refine (from_any L A c W hl hb).mono ?_
  rintro e w' ⟨⟨v, k, rfl, _, hv2⟩, rfl⟩
  refine ⟨?_, rfl⟩
  rcases hv2 with ⟨_, e1, e2⟩ | ⟨hno, _⟩
  · rw [e1, e2, hv]; rfl
  · exact absurd hok hno
theorem from_way (h : Nat) (w : World) (hh : h < 18446744073709551616) :
    Calls Try.prog 11 #[.slice (some ⟨w.heap.size, 0, none⟩) 13 13] (w.alloc (.cells (wayV h) 3)) fun e w' => e = .returned (.tuple #[.int .u64 (h : Int), .int .i64 0]) ∧ w.alloc (.cells (wayV h) 3) = w' :=
  from_list _ _ 13 h _ (by rw [List.length_map, way_length]) (way_ints w h) (ok_way h 13 hh (Nat.le_refl _)) (by rw [nat_way]; exact val_way13 h hh)
end Go.Proofs.Ytmbifgmdilmkgaa
