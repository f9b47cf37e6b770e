/-
  Bytes of a row written over one by one; a row made by append onto nothing; what of a source and of other blocks stays so.
-/
import Derived.Test.YtialpajnjbchgaaSame
namespace Go.Proofs.Ytialpajnjbchgaa
open Go.RowKit
set_option maxHeartbeats 400000
set_option maxRecDepth 100000
theorem byte_more (x : UInt8) : IntKind.u8.wrap (((x.toNat : Nat) : Int) + 1) = (((x + 1 : UInt8).toNat : Nat) : Int) := by
  have h := x.toNat_lt
  rw [UInt8.toNat_add]
  have h3 : (1 : UInt8).toNat = 1 := rfl
  rw [h3]
  simp only [IntKind.wrap_u8]
  omega
theorem Lies.reads {B n c : Nat} {A : Option Addr} {w : World} {l : List UInt8} (h : Lies B w (.slice A n c) l) : n = l.length ∧ l.length ≤ c ∧ Bts w A l := by
  obtain ⟨A', c', e, h1, h2⟩ := h.bts
  injection e with e1 e2 e3
  subst e1 e2 e3
  exact ⟨rfl, h1, h2⟩
theorem Lies.at_lt {B n c g off : Nat} {w : World} {l : List UInt8} (h : Lies B w (.slice (some ⟨g, off, none⟩) n c) l) : B ≤ g ∧ g < w.heap.size := ⟨(h.lt rfl).1, (h.lt rfl).2.1⟩
/-- where a row's byte lies -/
theorem Lies.byte {B n cap : Nat} {A : Option Addr} {w : World} {m : List UInt8} (h : Lies B w (.slice A n cap) m) (i : Nat) (hi : i < m.length) : ∃ g off, A = some ⟨g, off, none⟩ ∧ w.cell? ⟨g, off + i, none⟩ = some (.int .u8 (m[i].toNat : Int)) ∧ w.frozen? ⟨g, off + i, none⟩ = false ∧
    ∀ x : UInt8, Lies B (w.setCell ⟨g, off + i, none⟩ (.int .u8 (x.toNat : Int))) (.slice A n cap) (m.set i x) := by
  rcases h with ⟨_, rfl⟩ | ⟨g, off, cap', cur, hv, hB, hg, hc, hm, hs, hcell⟩
  · simp at hi
  · injection hv with h1 h2 h3
    subst h1 h2 h3
    refine ⟨g, off, rfl, by rw [cell_of_row w g _ cur 5 (0, 0) hg]; exact hcell i hi, by simp [World.frozen?, hg], fun x => .inr ⟨g, off, cap, cur.setIfInBounds (off + i) (.int .u8 (x.toNat : Int)), by rw [List.length_set], hB, heap_setCell_same w g (off + i) _ 5 _ hg, by rw [List.length_set]; exact hc, hm, by rw [Array.size_setIfInBounds]; exact hs, fun j hj => ?_⟩⟩
    rw [List.length_set] at hj
    by_cases e : i = j
    · subst e
      rw [Array.getElem?_setIfInBounds_self_of_lt (by omega), List.getElem_set_self]
    · rw [Array.getElem?_setIfInBounds_ne (by omega), hcell j hj, List.getElem_set_ne e]
/-- a source stands where another block is written -/
theorem Src.other {B s n g i : Nat} {w : World} {v u : Value} {l : List UInt8} (h : Src B w s v l n) (hs : g ≠ s) (hv : v.ownBlock ≠ some g) : Src B (w.setCell ⟨g, i, none⟩ u) s v l n :=
  h.keep (heap_setCell_other w ⟨g, i, none⟩ s _ (Ne.symm hs)) (fun k hk => heap_setCell_other w ⟨g, i, none⟩ k _ (fun e => hv (by rw [hk]; exact congrArg some e)))
theorem row_other {w : World} {g i k : Nat} {u : Value} {o : Obj} (h : w.heap[k]? = some o) (hk : k ≠ g) : (w.setCell ⟨g, i, none⟩ u).heap[k]? = some o :=
  (heap_setCell_other w ⟨g, i, none⟩ k _ hk).trans h
theorem row_below {w w' : World} {g : Nat} {o : Obj} (h : w.heap[g]? = some o) (hb : Below w.heap.size w w') : w'.heap[g]? = some o := by
  rw [hb.block g (Array.getElem?_eq_some_iff.1 h).1]; exact h
theorem below_drewN {B : Nat} {a w : World} (h : Below B a w) (n : Nat) : Below B a (w.drewN n) := h.trans ⟨rfl, rfl, rfl, Nat.le_refl _, fun _ _ => rfl⟩
/-- a row of another kind is neither a source nor what a source has left -/
theorem Src.apart {B s n g : Nat} {w : World} {v : Value} {l : List UInt8} {C : Array Value} {t : TypeId} {fz : Nat × Nat} (h : Src B w s v l n) (hg : w.heap[g]? = some (.cells C t fz)) (h1 : t ≠ 45) (h2 : t ≠ 5) : g ≠ s ∧ v.ownBlock ≠ some g := by
  constructor
  · rintro rfl
    have hh := h.2.1
    rw [hg] at hh
    injection hh with hh
    injection hh with _ hh
    exact h1 hh
  · intro e
    obtain ⟨_, _, cur, hh⟩ := h.2.2.lt e
    rw [hg] at hh
    injection hh with hh
    injection hh with _ hh
    exact h2 hh
/-- a row of no bytes, just made -/
theorem lies_empty (w : World) : Lies w.heap.size (w.alloc (.cells #[] 5)) (.slice (some ⟨w.heap.size, 0, none⟩) 0 0) [] :=
  .inr ⟨w.heap.size, 0, 0, #[], rfl, Nat.le_refl _, heap_alloc_new w _, Nat.le_refl _, Nat.zero_le _, Nat.le_refl _, fun i h => by simp at h⟩
/-- append onto nothing, at the operation -/
theorem list_app_new {w : World} {ops : Array Oper} {rest : List Oper} {o : Oper} {a : Act} {Q : Exit → Act → World → Prop} (hgd : o.guard = none) (s x : Operand) (ho : o.op = .call { callee := .builtin .append, args := #[s, x], argTypes := #[22, 22] })
    (m : List UInt8) (A : Option Addr) (c : Nat) (hm : Bts (w.alloc (.cells #[] 5)) A m) (hs : a.eval s = .slice (some ⟨w.heap.size, 0, none⟩) 0 0) (hx : a.eval x = .slice A m.length c) (hlen : m.length ≤ 140737488355328)
    (hK : ∀ A' c' w', Lies w.heap.size w' (.slice A' m.length c') m → Below w.heap.size w w' → wpList Try.prog ops Q rest (a.put o.dst (.slice A' m.length c')) w') : wpList Try.prog ops Q (o :: rest) a (w.alloc (.cells #[] 5)) := by
  have hb : Below w.heap.size w (w.alloc (.cells #[] 5)) := (Below.refl _ _).alloc (Nat.le_refl _) _
  refine list_app (B := w.heap.size) hgd s x ho _ [] m A c (lies_empty w) hm hs hx (by simpa using hlen) (by simp) ?_
  intro v' w' h1 h2 _
  obtain ⟨A', c', rfl, _, _⟩ := h1.bts
  exact hK A' c' w' h1 (hb.grown h2 (by simp) (fun k hk => by simp only [Value.ownBlock, Option.some.injEq] at hk; omega))
end Go.Proofs.Ytialpajnjbchgaa
