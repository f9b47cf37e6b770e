/-
  Sources of noughts: what New and Feed make of a row of noughts just made; how many bytes are left.
-/
import Derived.Test.YtialpajnjbchgaaRef
namespace Go.Proofs.Ytialpajnjbchgaa
open Go.RowKit
set_option maxHeartbeats 400000
set_option maxRecDepth 100000
theorem made_eq (n : Nat) : madeCells (Value.int .u8 0).cells n = (Lib.byteCells (List.replicate n 0)).toArray := by
  apply Array.ext
  · simp [madeCells, Lib.byteCells]
  · intro i h1 h2
    have e : (Value.int .u8 0).cells = #[.int .u8 0] := rfl
    simp only [madeCells, Array.getElem_map, e, Lib.byteCells, List.getElem_toArray, List.getElem_map, List.getElem_replicate]
    simp [Nat.mod_one]
theorem run_make_key (w : World) (n : Nat) (hn : n ≤ 20000000) : (Instr.makeSlice 22 (.int .i64 (n : Int)) (.int .i64 (n : Int))).run Try.prog w = .ok (.slice (some ⟨w.heap.size, 0, none⟩) n n) (w.alloc (.cells (Lib.byteCells (List.replicate n 0)).toArray 5)) := by
  obtain ⟨i0, hi, hz0, hz1, hz2⟩ := info_parts Try.info5
  have h := run_make (P := Try.prog) w 22 5 i0 (.int .u8 0) Try.underlying22 hi hz0 .i64 .i64 (n : Int) (n : Int) (by omega) (by omega) (by rw [hz2]; omega) (by omega)
  rw [h, hz1]
  simp only [Int.toNat_natCast, Nat.mul_one]
  rw [made_eq]
theorem left_len {B s n : Nat} {w : World} {v : Value} {l : List UInt8} (h : Src B w s v l n) (j : Nat) (hj : l.length = j) :
    Calls Try.prog 11 #[.pointer (some ⟨s, 0, none⟩)] w fun e w' => e = .returned (.int .i64 (j : Int)) ∧ w' = w := by
  subst hj
  exact left_any h
theorem new_zeros (w : World) (k : Nat) : Calls Try.prog 7 #[.slice (some ⟨w.heap.size, 0, none⟩) k k] (w.alloc (.cells (Lib.byteCells (List.replicate k 0)).toArray 5)) fun e w' =>
    e = .returned (.pointer (some ⟨w.heap.size + 1, 0, none⟩)) ∧ ∃ v L, Hid (L.length = min k 16777216) ∧ Hid (Src w.heap.size w' (w.heap.size + 1) v L 0) ∧ Hid (Below w.heap.size w w') := by
  have hlen : (List.replicate k (0 : UInt8)).length = k := List.length_replicate
  obtain ⟨Z, hZ⟩ : ∃ Z : List UInt8, Z = List.replicate k 0 := ⟨_, rfl⟩
  rw [← hZ] at hlen ⊢
  clear hZ
  have hb : Below w.heap.size w (w.alloc (.cells (seedV Z) 5)) := (Below.refl _ _).alloc (Nat.le_refl _) _
  have hs : (w.alloc (.cells (seedV Z) 5)).heap.size = w.heap.size + 1 := by simp
  have h := new_any (w := w.alloc (.cells (seedV Z) 5)) (seed_bts (heap_alloc_new w _)) k (by omega)
  rw [hlen] at h
  refine h.mono ?_
  rintro e w' ⟨rfl, v, h1, h2⟩
  rw [hs] at h1 ⊢
  exact ⟨rfl, v, _, by show _ = _; rw [List.length_take, hlen, Nat.min_comm], h1.mono (by omega), below_then hb h2⟩
theorem feed_zeros {B s n : Nat} {w : World} {v : Value} {l : List UInt8} (h : Src B w s v l n) (y : Nat) (hl : l.length + y ≤ 16777216) :
    Calls Try.prog 8 #[.pointer (some ⟨s, 0, none⟩), .slice (some ⟨w.heap.size, 0, none⟩) y y] (w.alloc (.cells (Lib.byteCells (List.replicate y 0)).toArray 5)) fun e w' =>
      e = .returned (.int .i64 0) ∧ ∃ v' L, Hid (L.length = l.length + y) ∧ Hid (Src B w' s v' L n) ∧ Hid (Below B w w') := by
  have hlen : (List.replicate y (0 : UInt8)).length = y := List.length_replicate
  obtain ⟨Z, hZ⟩ : ∃ Z : List UInt8, Z = List.replicate y 0 := ⟨_, rfl⟩
  rw [← hZ] at hlen ⊢
  clear hZ
  have hb : Below w.heap.size w (w.alloc (.cells (seedV Z) 5)) := (Below.refl _ _).alloc (Nat.le_refl _) _
  have hB : B ≤ w.heap.size := Nat.le_trans h.1 (Nat.le_of_lt h.lt)
  have hf := feed_any (h.below hb) (seed_bts (heap_alloc_new w _)) y (by omega)
  rw [hlen] at hf
  refine hf.mono ?_
  rintro e w' ⟨rfl, v', h1, _, h3⟩
  refine ⟨rfl, v', _, by show _ = _; rw [List.length_append, hlen], h1, (hb.mono hB).trans (h3.below (Nat.le_trans hB hb.size) ?_)⟩
  rintro k hk (rfl | e)
  · exact absurd h.1 (by omega)
  · exact absurd (h.2.2.lt e).1 (by omega)
theorem feed_much {B s n : Nat} {w : World} {v : Value} {l : List UInt8} (h : Src B w s v l n) (y : Nat) (hl : l.length ≤ 16777216) (hy : 16777216 < l.length + y) :
    Calls Try.prog 8 #[.pointer (some ⟨s, 0, none⟩), .slice (some ⟨w.heap.size, 0, none⟩) y y] (w.alloc (.cells (Lib.byteCells (List.replicate y 0)).toArray 5)) fun e w' =>
      e = .returned (.int .i64 4) ∧ Hid (Src B w' s v l n) ∧ Hid (Below B w w') := by
  have hlen : (List.replicate y (0 : UInt8)).length = y := List.length_replicate
  obtain ⟨Z, hZ⟩ : ∃ Z : List UInt8, Z = List.replicate y 0 := ⟨_, rfl⟩
  rw [← hZ] at hlen ⊢
  clear hZ
  have hb : Below w.heap.size w (w.alloc (.cells (seedV Z) 5)) := (Below.refl _ _).alloc (Nat.le_refl _) _
  have hf := feed_big (h.below hb) (A := some ⟨w.heap.size, 0, none⟩) (m := Z) y hl (by omega)
  rw [hlen] at hf
  refine hf.mono ?_
  rintro e w' ⟨rfl, rfl⟩
  exact ⟨rfl, h.below hb, hb.mono (Nat.le_trans h.1 (Nat.le_of_lt h.lt))⟩
end Go.Proofs.Ytialpajnjbchgaa
