/-
  Contracts of first, Pair and Join: a tree's first pair, two trees made one.
-/
import Derived.Test.YtmbdimonfdncpaaGreatDoorNode
namespace Go.Proofs.YtmbdimonfdncpaaGreatDoor
open Go.RowKit
set_option maxHeartbeats 4000000
set_option maxRecDepth 100000
theorem results_two {P : Program} {fn : Func} {p u : Tmp} {ty : TypeId} (h : fn.results = #[.cell p ty, .tmp u]) (tmps : Array Value) (w : World) (g : Nat) (t : TypeId) (cs : Array Value) (fr : Nat × Nat) (d : TypeDesc) (v : Value)
    (hp : tmps.getD p undef = .pointer (some ⟨g, 0, none⟩)) (hg : w.heap[g]? = some (.cells cs t fr)) (hv : tmps.getD u undef = v)
    (hu : P.underlying ty = some d) (hd : (match d with | .struct _ | .array _ _ => true | _ => false) = true) (hi : (P.info? ty).map (·.size) = some cs.size) :
    (results fn tmps).run P w = .ok (.tuple #[.agg cs, v]) w := by
  have hp' : tmps[p]?.getD undef = .pointer (some ⟨g, 0, none⟩) := by simpa using hp
  have hv' : tmps[u]?.getD undef = v := by simpa using hv
  simp [results, h, hp', hv', asAddr, run_loadVar_row w g t ty cs fr d hg hu hd hi]
/-- a new block of two slices stays where a call counts -/
theorem new_stays {m : Option Addr} {w w1 : World} {v c : Nat} {a b : Value} {t : TypeId} (ha : ∀ z : Int, a ≠ .int .i64 z) (hm : Met w m v c) (ho : Only m (w.alloc (.cells #[a, b] t)) w1) :
    w1.heap[w.heap.size]? = some (.cells #[a, b] t (0, 0)) := by
  have r0 : (w.alloc (.cells #[a, b] t)).heap[w.heap.size]? = some (.cells #[a, b] t (0, 0)) := heap_alloc_new w _
  have c0 : (w.alloc (.cells #[a, b] t)).cell? ⟨w.heap.size, 0, none⟩ = some a := by rw [cell_of_row _ _ 0 _ t (0, 0) r0]; rfl
  have e := ho.cell (hm.below ((Below.refl _ _).alloc (Nat.le_refl _) _)) c0 ha (by simp)
  exact e.trans r0
theorem row2 {w : World} {g : Nat} {a b : Value} {t : TypeId} (h : w.heap[g]? = some (.cells #[a, b] t (0, 0))) : w.cell? ⟨g, 0, none⟩ = some a ∧ w.cell? ⟨g, 1, none⟩ = some b ∧ w.frozen? ⟨g, 0, none⟩ = false ∧ w.frozen? ⟨g, 1, none⟩ = false := by
  refine ⟨?_, ?_, ?_, ?_⟩
  · rw [cell_of_row w g _ _ t (0, 0) h]; rfl
  · rw [cell_of_row w g _ _ t (0, 0) h]; rfl
  · simp [World.frozen?, h]
  · simp [World.frozen?, h]
theorem set2 {w : World} {g : Nat} {a b : Value} {t : TypeId} (h : w.heap[g]? = some (.cells #[a, b] t (0, 0))) (x y : Value) :
    ((w.setCell ⟨g, 0, none⟩ x).setCell ⟨g, 1, none⟩ y).heap[g]? = some (.cells #[x, y] t (0, 0)) ∧ ∀ k, k ≠ g → ((w.setCell ⟨g, 0, none⟩ x).setCell ⟨g, 1, none⟩ y).heap[k]? = w.heap[k]? := by
  refine ⟨?_, fun k hk => ?_⟩
  · rw [heap_setCell_same _ g 1 _ t y (heap_setCell_same w g 0 _ t x h)]; rfl
  · rw [Below.heap_setCell _ ⟨g, 1, none⟩ y k hk, Below.heap_setCell _ ⟨g, 0, none⟩ x k hk]
theorem below_set2 {w : World} {g B : Nat} (x y : Value) (hg : B ≤ g) : Below B w ((w.setCell ⟨g, 0, none⟩ x).setCell ⟨g, 1, none⟩ y) :=
  ((Below.refl B w).setCell (p := ⟨g, 0, none⟩) hg _).setCell (p := ⟨g, 1, none⟩) hg _
theorem Only.then_below {m : Option Addr} {w w1 W : World} (h : Only m w w1) (k : Below w.heap.size w1 W) : Only m w W :=
  ⟨k.os.trans h.os, k.tape.trans h.tape, k.output.trans h.output, Nat.le_trans h.size k.size, fun i hi hm => (k.block i hi).trans (h.block i hi hm)⟩
theorem Met.then_below {m : Option Addr} {w w1 W : World} {v c v0 c0 : Nat} (h0 : Met w m v0 c0) (h : Met w1 m v c) (k : Below w.heap.size w1 W) : Met W m v c := by
  rcases h with rfl | ⟨g, rfl, h⟩
  · exact .inl rfl
  · rcases h0 with e | ⟨g', e, h0⟩
    · cases e
    · injection e with e
      injection e with e
      subst e
      exact .inr ⟨g, rfl, (k.block g (Array.getElem?_eq_some_iff.1 h0).1).trans h⟩
/-- block g holds a variable of two slices: no tree's node, no bytes, no meter -/
def Spare (w : World) (g : Nat) : Prop := ∃ a n c a' n' c', w.heap[g]? = some (.cells #[.slice a n c, .slice a' n' c'] 130 (0, 0))
theorem Byt.away {F : Nat → Prop} {w w' : World} {g : Nat} {A : Option Addr} {l : List UInt8} (h : Byt F w A l) (hg : Spare w g) (k : ∀ k, k ≠ g → w'.heap[k]? = w.heap[k]?) : Byt F w' A l := by
  rcases h with h | ⟨b, off, h1, hf, h2, h3⟩
  · exact .inl h
  · by_cases hl : l = []
    · exact .inl hl
    · have hb : b ≠ g := by
        rintro rfl
        obtain ⟨a, n, c, a', n', c', hg⟩ := hg
        have := h3 0 (List.length_pos_iff.2 hl)
        rw [cell_of_row w b _ _ 130 (0, 0) hg] at this
        match off + 0, this with
        | 0, hc => injection hc with hc; cases hc
        | 1, hc => injection hc with hc; cases hc
        | n + 2, hc => simp at hc
      exact .inr ⟨b, off, h1, hf, lt_kept (k b hb) h2, fun i hi => (cell_kept (k b hb)).trans (h3 i hi)⟩
theorem Tre.away {F : Nat → Prop} {w w' : World} {g : Nat} (hg : Spare w g) (k : ∀ k, k ≠ g → w'.heap[k]? = w.heap[k]?) : ∀ {t : Tr} {p : Option Addr}, Tre F w t p → Tre F w' t p
  | .nil, _, h => h
  | .node _ _ _, _, ⟨b, ka, kc, va, vc, pl, pr, h1, h2, h3, h4⟩ => by
    have hb : b ≠ g := by
      rintro rfl
      obtain ⟨a, n, c, a', n', c', hg⟩ := hg
      have := h2.2.1
      rw [hg] at this
      injection this with this
      injection this with this
      simp at this
    exact ⟨b, ka, kc, va, vc, pl, pr, h1, ⟨h2.1, (k b hb).trans h2.2.1, h2.2.2.1.away hg k, h2.2.2.2.away hg k⟩, h3.away hg k, h4.away hg k⟩
theorem Met.away {m : Option Addr} {w w' : World} {g v c : Nat} (h : Met w m v c) (hg : Spare w g) (k : ∀ k, k ≠ g → w'.heap[k]? = w.heap[k]?) : Met w' m v c := by
  rcases h with h | ⟨b, h1, h2⟩
  · exact .inl h
  · refine .inr ⟨b, h1, (k b ?_).trans h2⟩
    rintro rfl
    obtain ⟨a, n, c, a', n', c', hg⟩ := hg
    rw [hg] at h2
    injection h2 with h2
    injection h2 with h2
    simp at h2
end Go.Proofs.YtmbdimonfdncpaaGreatDoor
