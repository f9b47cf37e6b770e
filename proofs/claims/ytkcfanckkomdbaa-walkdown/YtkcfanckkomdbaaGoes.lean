/-
  A cursor and its tree, as one thing that goes from call to call; a pair's variable in memory.
-/
import Derived.Test.YtkcfanckkomdbaaDocs
namespace Go.Proofs.Ytkcfanckkomdbaa
open Go.RowKit
set_option maxHeartbeats 4000000
set_option maxRecDepth 100000
/-- a cursor at block g, of the tree at p, which has just the pairs L, at the place k -/
structure Goes (w : World) (g : Nat) (p : Option Addr) (k : Nat) (L : List Pr) : Prop where
  cur : Cur w g p k
  wood : Wood w p L
  le : k ≤ L.length
abbrev Onl (g : Nat) (w w' : World) : Prop := Only (some ⟨g, 0, none⟩) w w'
theorem Goes.below {w w' : World} {g k : Nat} {p : Option Addr} {L : List Pr} (h : Goes w g p k L) (hb : Below w.heap.size w w') : Goes w' g p k L := ⟨h.cur.later hb, h.wood.below hb, h.le⟩
theorem Goes.next {w : World} {g k k' : Nat} {p : Option Addr} {L : List Pr} {o : Option Pr} (h : Goes w g p k L) (ho : nth L (k : Int) = o) (hk : min (k + 1) L.length = k') :
    Calls Try.prog 12 #[.pointer (some ⟨g, 0, none⟩)] w fun e w' => Gt o e w' ∧ Goes w' g p k' L ∧ Onl g w w' := by
  subst ho
  subst hk
  refine (next_any h.cur h.wood h.le).mono ?_
  rintro e w' ⟨h1, h2, h3⟩
  exact ⟨h1, ⟨h2, h.wood.curs h.cur h3, by omega⟩, h3⟩
theorem Goes.back {w : World} {g k k' : Nat} {p : Option Addr} {L : List Pr} {o : Option Pr} (h : Goes w g p k L) (ho : nth L ((k : Int) - 1) = o) (hk : k - 1 = k') :
    Calls Try.prog 14 #[.pointer (some ⟨g, 0, none⟩)] w fun e w' => Gt o e w' ∧ Goes w' g p k' L ∧ Onl g w w' := by
  subst ho
  subst hk
  refine (back_any h.cur h.wood h.le).mono ?_
  rintro e w' ⟨h1, h2, h3⟩
  have := h.le
  exact ⟨h1, ⟨h2, h.wood.curs h.cur h3, by omega⟩, h3⟩
theorem Goes.seek {w : World} {g k k' x : Nat} {p A : Option Addr} {L : List Pr} {key : List UInt8} (h : Goes w g p k L) (c : Nat) (hA : Bts w A key) (hx : x = key.length) (hk : rank L key = k') :
    Calls Try.prog 15 #[.pointer (some ⟨g, 0, none⟩), .slice A x c] w fun e w' => e = .returned (.tuple #[]) ∧ Goes w' g p k' L ∧ Onl g w w' := by
  subst hk
  refine (seek_any c h.cur h.wood hA hx).mono ?_
  rintro e w' ⟨h1, h2, h3⟩
  exact ⟨h1, ⟨h2, h.wood.curs h.cur h3, rank_le L key⟩, h3⟩
theorem Goes.place {w : World} {g k : Nat} {p : Option Addr} {L : List Pr} (h : Goes w g p k L) : Calls Try.prog 18 #[.pointer (some ⟨g, 0, none⟩)] w fun e w' => e = .returned (.int .i64 (k : Int)) ∧ w = w' := place_any h.cur
theorem Goes.left {w : World} {g k n : Nat} {p : Option Addr} {L : List Pr} (h : Goes w g p k L) (hn : n = L.length) :
    Calls Try.prog 19 #[.pointer (some ⟨g, 0, none⟩)] w fun e w' => e = .returned (.int .i64 ((n : Int) - (k : Int))) ∧ Below w.heap.size w w' := left_cur h.cur h.wood hn (by rw [hn]; exact h.le)
theorem Wood.cursor {w : World} {p : Option Addr} {L : List Pr} {k : Nat} (z : Int) (h : Wood w p L) (z1 : -9223372036854775808 ≤ z) (z2 : z < 9223372036854775808) (hk : hold z L.length = k) :
    Calls Try.prog 10 #[.pointer p, .int .i64 z] w fun e w' => ∃ g, e = .returned (.pointer (some ⟨g, 0, none⟩)) ∧ g = w.heap.size ∧ Goes w' g p k L ∧ Below w.heap.size w w' := by
  subst hk
  refine (curAt_any z h z1 z2).mono ?_
  rintro e w' ⟨h1, h2, h3, _⟩
  exact ⟨_, h1, rfl, ⟨h2, h.below h3, hold_le _ _⟩, h3⟩
theorem Rcs.curs {g k : Nat} {q : Option Addr} {w w' : World} {A : Option Addr} {M : List Pr} (h : Rcs w A M) (hm : Cur w g q k) (ho : Onl g w w') : Rcs w' A M := by
  rcases h with h | ⟨b, h1, h2, h3⟩
  · exact .inl h
  · by_cases hl : M = []
    · exact .inl hl
    · have e := ho.curs hm (h3 0 (List.length_pos_iff.2 hl)).1 (by intro z e; cases e) (by intro q e; cases e) h2
      exact .inr ⟨b, h1, lt_kept e h2, fun i hi => ⟨(cell_kept e).trans (h3 i hi).1, (cell_kept e).trans (h3 i hi).2⟩⟩
/-- a pair's variable at block b -/
def Box (w : World) (b : Nat) (ka : Option Addr) (x1 kc : Nat) (va : Option Addr) (x2 vc : Nat) : Prop := w.heap[b]? = some (.cells #[.slice ka x1 kc, .slice va x2 vc] 37 (0, 0))
theorem Box.below {w w' : World} {b x1 kc x2 vc : Nat} {ka va : Option Addr} (h : Box w b ka x1 kc va x2 vc) (hb : Below w.heap.size w w') : Box w' b ka x1 kc va x2 vc := (hb.block b (Array.getElem?_eq_some_iff.1 h).1).trans h
theorem Box.cells {w : World} {b x1 kc x2 vc : Nat} {ka va : Option Addr} (h : Box w b ka x1 kc va x2 vc) : w.cell? ⟨b, 0, none⟩ = some (.slice ka x1 kc) ∧ w.cell? ⟨b, 1, none⟩ = some (.slice va x2 vc) := ⟨(row2 h).1, (row2 h).2.1⟩
theorem Box.curs {g k : Nat} {q : Option Addr} {w w' : World} {b x1 kc x2 vc : Nat} {ka va : Option Addr} (h : Box w b ka x1 kc va x2 vc) (hm : Cur w g q k) (ho : Onl g w w') : Box w' b ka x1 kc va x2 vc :=
  (ho.curs hm h.cells.1 (by intro z e; cases e) (by intro q e; cases e) (Array.getElem?_eq_some_iff.1 h).1).trans h
theorem box_var (w : World) (ka : Option Addr) (x1 kc : Nat) (va : Option Addr) (x2 vc : Nat) : ∃ w1, w1 = w.alloc (.cells #[.slice ka x1 kc, .slice va x2 vc] 37) ∧ Below w.heap.size w w1 ∧ Box w1 w.heap.size ka x1 kc va x2 vc :=
  ⟨_, rfl, (Below.refl _ _).alloc (Nat.le_refl _) _, heap_alloc_new w _⟩
end Go.Proofs.Ytkcfanckkomdbaa
