/-
  Worlds in which nothing but bytes of new rows has been written over: what stays so.
-/
import Derived.Test.YtngfbkkfnooobaaDoorComeE
import Derived.Laws.StructEq
namespace Go.Proofs.YtngfbkkfnooobaaDoor
open Go.RowKit
set_option maxHeartbeats 400000
set_option maxRecDepth 100000
/-- a row of bytes -/
def ByteRow (o : Option Obj) (n : Nat) : Prop := ∃ l : List UInt8, l.length = n ∧ o = some (.cells (Lib.byteCells l).toArray 5 (0, 0))
/-- all below B stands, and each block above is as it was, or is a row of as many bytes as before -/
def Mut (B : Nat) (w w' : World) : Prop := Below B w w' ∧ ∀ k, k < w.heap.size → w'.heap[k]? = w.heap[k]? ∨ ∃ n, ByteRow w.heap[k]? n ∧ ByteRow w'.heap[k]? n
theorem ByteRow.len {o : Option Obj} {n m : Nat} (h : ByteRow o n) (k : ByteRow o m) : n = m := by
  obtain ⟨l, hl, e⟩ := h
  obtain ⟨l', hl', e'⟩ := k
  rw [e] at e'
  injection e' with e'
  injection e' with e'
  have := congrArg Array.size e'
  simp [Lib.byteCells_length] at this
  omega
theorem Mut.refl (B : Nat) (w : World) : Mut B w w := ⟨Below.refl _ _, fun _ _ => .inl rfl⟩
theorem Mut.trans {B : Nat} {a b c : World} (h : Mut B a b) (k : Mut B b c) : Mut B a c := by
  refine ⟨h.1.trans k.1, fun i hi => ?_⟩
  rcases h.2 i hi with h1 | ⟨n, h1, h2⟩
  · rcases k.2 i (Nat.lt_of_lt_of_le hi h.1.size) with k1 | ⟨n, k1, k2⟩
    · exact .inl (k1.trans h1)
    · exact .inr ⟨n, by rw [← h1]; exact k1, k2⟩
  · rcases k.2 i (Nat.lt_of_lt_of_le hi h.1.size) with k1 | ⟨m, k1, k2⟩
    · exact .inr ⟨n, h1, by rw [k1]; exact h2⟩
    · have e := h2.len k1
      subst e
      exact .inr ⟨n, h1, k2⟩
theorem Mut.of_below {B : Nat} {w w' : World} (h : Below w.heap.size w w') (hB : B ≤ w.heap.size) : Mut B w w' := ⟨h.mono hB, fun k hk => .inl (h.block k hk)⟩
theorem byteRow_set {w : World} {b i n : Nat} (x : UInt8) (h : ByteRow w.heap[b]? n) : ByteRow (w.setCell ⟨b, i, none⟩ (.int .u8 ((x.toNat : Nat) : Int))).heap[b]? n := by
  obtain ⟨l, hl, e⟩ := h
  refine ⟨l.set i x, by simpa using hl, ?_⟩
  rw [heap_setCell_same w b i _ 5 _ e]
  simp [Lib.byteCells, List.map_set]
theorem Mut.set {B b i n : Nat} {w : World} (hb : B ≤ b) (h : ByteRow w.heap[b]? n) (x : UInt8) : Mut B w (w.setCell ⟨b, i, none⟩ (.int .u8 ((x.toNat : Nat) : Int))) := by
  refine ⟨(Below.refl B w).setCell (p := ⟨b, i, none⟩) hb _, fun k hk => ?_⟩
  by_cases e : k = b
  · subst e
    exact .inr ⟨n, h, byteRow_set x h⟩
  · exact .inl (heap_setCell_other w ⟨b, i, none⟩ k _ e)
theorem byteRow_cell {w : World} {b n i : Nat} (h : ByteRow w.heap[b]? n) (hi : i < n) : ∃ x : UInt8, w.cell? ⟨b, i, none⟩ = some (.int .u8 ((x.toNat : Nat) : Int)) ∧ w.frozen? ⟨b, i, none⟩ = false := by
  obtain ⟨l, hl, e⟩ := h
  refine ⟨l[i]'(by omega), ?_, ?_⟩
  · rw [cell_of_row w b i _ 5 (0, 0) e]
    simp [Lib.byteCells, hl, hi]
  · simp [World.frozen?, e]
theorem Mut.row {B b n : Nat} {w w' : World} (h : Mut B w w') (hr : ByteRow w.heap[b]? n) : ByteRow w'.heap[b]? n := by
  have hlt : b < w.heap.size := by
    obtain ⟨l, _, e⟩ := hr
    exact (Array.getElem?_eq_some_iff.1 e).1
  rcases h.2 b hlt with h1 | ⟨m, h1, h2⟩
  · rw [h1]; exact hr
  · have e := hr.len h1
    subst e
    exact h2
theorem Mut.cells {B b : Nat} {w w' : World} {C : Array Value} {t : TypeId} {fz : Nat × Nat} (h : Mut B w w') (hr : w.heap[b]? = some (.cells C t fz)) (ht : t ≠ 5) : w'.heap[b]? = some (.cells C t fz) := by
  rcases h.2 b (Array.getElem?_eq_some_iff.1 hr).1 with h1 | ⟨m, ⟨l, _, h1⟩, h2⟩
  · rw [h1]; exact hr
  · rw [hr] at h1
    injection h1 with h1
    injection h1 with _ h1
    exact absurd h1 ht
/-- the document's entries stand -/
theorem Mut.res {B : Nat} {w w' : World} {A : Option Addr} {L : List En} (h : Mut B w w') (hr : Res w A L) : Res w' A L := by
  rcases hr with rfl | ⟨b, rfl, hlt, hc⟩
  · exact .inl rfl
  · rcases h.2 b hlt with h1 | ⟨m, ⟨l, _, h1⟩, h2⟩
    · refine .inr ⟨b, rfl, Nat.lt_of_lt_of_le hlt h.1.size, fun i hi => ?_⟩
      exact ⟨(cell_kept h1).trans (hc i hi).1, (cell_kept h1).trans (hc i hi).2.1, (cell_kept h1).trans (hc i hi).2.2⟩
    · rcases Nat.eq_zero_or_pos L.length with h0 | h0
      · exact .inl (List.eq_nil_of_length_eq_zero h0)
      · have := (hc 0 h0).2.1
        rw [cell_of_row w b _ _ 5 (0, 0) h1] at this
        simp [Lib.byteCells] at this
/-- the entry at place i of a list in new memory, its bytes whatever they are -/
theorem NewTo.mut {B g : Nat} {w w' : World} {cur : Array Value} {M : List En} (h : NewTo B w g cur M M.length) (hm : Mut B w w') (i : Nat) (hi : i < M.length) : ∃ kb vb, w'.cell? ⟨g, i * 3, none⟩ = some (.int .u64 ((M[i]).1 : Int)) ∧
    w'.cell? ⟨g, i * 3 + 1, none⟩ = some (.slice (some ⟨kb, 0, none⟩) (M[i]).2.1.length (M[i]).2.1.length) ∧ w'.cell? ⟨g, i * 3 + 2, none⟩ = some (.slice (some ⟨vb, 0, none⟩) (M[i]).2.2.length (M[i]).2.2.length) ∧ B ≤ kb ∧ B ≤ vb ∧ ByteRow w'.heap[kb]? (M[i]).2.1.length ∧ ByteRow w'.heap[vb]? (M[i]).2.2.length := by
  obtain ⟨kb, vb, g1, g2, g3, g4⟩ := h.done i hi hi
  have h4 := hm.cells h.row (by decide)
  refine ⟨kb, vb, ?_, ?_, ?_, g3.1, g4.1, hm.row ⟨_, rfl, g3.2⟩, hm.row ⟨_, rfl, g4.2⟩⟩
  · rw [cell_of_row w' g _ _ 38 (0, 0) h4, h.hash i hi]
  · rw [cell_of_row w' g _ _ 38 (0, 0) h4, g1]
  · rw [cell_of_row w' g _ _ 38 (0, 0) h4, g2]
theorem byte_more (x : UInt8) : IntKind.u8.wrap (((x.toNat : Nat) : Int) + 1) = (((x + 1 : UInt8).toNat : Nat) : Int) := by
  have h := x.toNat_lt
  rw [UInt8.toNat_add]
  have h3 : (1 : UInt8).toNat = 1 := rfl
  rw [h3]
  simp only [IntKind.wrap_u8]
  omega
theorem entry_box {w : World} {x1 x2 x3 : Value} {B : Nat} {w' : World} (h : Mut B (w.alloc (.cells #[x1, x2, x3] 38)) w') : w'.cell? ⟨w.heap.size, 0, none⟩ = some x1 ∧ w'.cell? ⟨w.heap.size, 1, none⟩ = some x2 ∧ w'.cell? ⟨w.heap.size, 2, none⟩ = some x3 := by
  have h1 := h.cells (heap_alloc_new w (.cells #[x1, x2, x3] 38)) (by decide)
  exact ⟨by rw [cell_of_row w' _ 0 _ 38 (0, 0) h1]; rfl, by rw [cell_of_row w' _ 1 _ 38 (0, 0) h1]; rfl, by rw [cell_of_row w' _ 2 _ 38 (0, 0) h1]; rfl⟩
theorem run_neq_entry (q : Int) (s t : ByteArray) (W : World) : (binOp .neq 33 (.agg #[.int .u64 q, .string s, .string t]) (.agg #[.int .u64 q, .string s, .string t])).run Tryd.prog W = .ok (.bool false) W := by
  have ss31 : Tryd.prog.underlying 31 = some (.struct (Tryd.prog.fieldsOf 31)) := by kernel_rfl
  have ss33 : Tryd.prog.underlying 33 = some (.struct (Tryd.prog.fieldsOf 33)) := by kernel_rfl
  have hh33 : Tryd.prog.stoodInHeld 33 = false := by kernel_rfl
  have hh31 : Tryd.prog.stoodInHeld 31 = false := by kernel_rfl
  have u9 := Tryd.underlying9
  have a9 := Tryd.isAgg9
  have z9 := Tryd.sizeOf9
  have u29 := Tryd.underlying29
  have a29 := Tryd.isAgg29
  have z29 := Tryd.sizeOf29
  have a31 := Tryd.isAgg31
  have z31 := Tryd.sizeOf31
  have e31 := fun W => run_equalIn_agg (P := Tryd.prog) W 9998 31 #[.string s, .string t] #[.string s, .string t] ss31 hh31
  rw [run_neq_struct, show (10000 : Nat) = 9999 + 1 from rfl, run_equalIn_agg W 9999 33 _ _ ss33 hh33]
  simp only [Program.fieldsOf, Tryd.underlying33, Tryd.underlying31] at e31 ⊢
  go_simp
theorem run_guard_entry (w : World) (x y : Operand) (xs ys : Array Value) : (eqGuard .neq 33 x y (.agg xs) (.agg ys)).run Tryd.prog w = .ok () w :=
  run_eqGuard_agg w .neq 33 x y _ _ (by kernel_rfl)
end Go.Proofs.YtngfbkkfnooobaaDoor
