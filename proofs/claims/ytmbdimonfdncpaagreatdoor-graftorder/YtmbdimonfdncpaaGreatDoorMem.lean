/-
  Trees in memory: what a pointer reads as, in which blocks; a meter, or none; what calls leave as it was.
-/
import Derived.Test.YtmbdimonfdncpaaGreatDoorPlain
import Derived.Test.YtmbdimonfdncpaaGreatDoorWalks
import Derived.Test.YtmbdimonfdncpaaGreatDoorMade
namespace Go.Proofs.YtmbdimonfdncpaaGreatDoor
open Go.RowKit
set_option maxHeartbeats 400000
set_option maxRecDepth 100000
/-- the slice at A reads as the bytes l, in blocks of F -/
def Byt (F : Nat → Prop) (w : World) (A : Option Addr) (l : List UInt8) : Prop :=
  l = [] ∨ ∃ b off, A = some ⟨b, off, none⟩ ∧ F b ∧ b < w.heap.size ∧ ∀ i (h : i < l.length), w.cell? ⟨b, off + i, none⟩ = some (.int .u8 (l[i].toNat : Int))
theorem Byt.bts {F : Nat → Prop} {w : World} {A : Option Addr} {l : List UInt8} (h : Byt F w A l) : Bts w A l := by
  rcases h with h | ⟨b, off, h1, _, h2, h3⟩
  · exact .inl h
  · exact .inr ⟨b, off, h1, h2, h3⟩
/-- w' has what w has in the blocks of F -/
def Kept (F : Nat → Prop) (w w' : World) : Prop := ∀ b, F b → b < w.heap.size → w'.heap[b]? = w.heap[b]?
theorem cell_kept {w w' : World} {b i : Nat} (h : w'.heap[b]? = w.heap[b]?) : w'.cell? ⟨b, i, none⟩ = w.cell? ⟨b, i, none⟩ := by simp [World.cell?, h]
theorem lt_kept {w w' : World} {b : Nat} (h : w'.heap[b]? = w.heap[b]?) (hb : b < w.heap.size) : b < w'.heap.size := by
  rcases Nat.lt_or_ge b w'.heap.size with g | g
  · exact g
  · rw [Array.getElem?_eq_none g, Array.getElem?_eq_getElem hb] at h
    cases h
theorem Byt.kept {F : Nat → Prop} {w w' : World} {A : Option Addr} {l : List UInt8} (h : Byt F w A l) (k : Kept F w w') : Byt F w' A l := by
  rcases h with h | ⟨b, off, h1, hf, h2, h3⟩
  · exact .inl h
  · exact .inr ⟨b, off, h1, hf, lt_kept (k b hf h2) h2, fun i hi => (cell_kept (k b hf h2)).trans (h3 i hi)⟩
theorem Byt.mono {F G : Nat → Prop} {w : World} {A : Option Addr} {l : List UInt8} (h : Byt F w A l) (k : ∀ b, b < w.heap.size → F b → G b) : Byt G w A l := by
  rcases h with h | ⟨b, off, h1, hf, h2, h3⟩
  · exact .inl h
  · exact .inr ⟨b, off, h1, k b h2 hf, h2, h3⟩
/-- the node at block b -/
def Nod (F : Nat → Prop) (w : World) (b : Nat) (ka : Option Addr) (kc : Nat) (va : Option Addr) (vc : Nat) (q : Pr) (pl pr : Option Addr) (n : Nat) : Prop :=
  F b ∧ w.heap[b]? = some (.cells #[.slice ka q.1.length kc, .slice va q.2.length vc, .pointer pl, .pointer pr, .int .i64 (n : Int)] 134 (0, 0)) ∧ Byt F w ka q.1 ∧ Byt F w va q.2
/-- the pointer p reads as the tree t, in blocks of F -/
def Tre (F : Nat → Prop) (w : World) : Tr → Option Addr → Prop
  | .nil, p => p = none
  | .node l q r, p => ∃ b ka kc va vc pl pr, p = some ⟨b, 0, none⟩ ∧ Nod F w b ka kc va vc q pl pr (l.size + r.size) ∧ Tre F w l pl ∧ Tre F w r pr
theorem Nod.lt {F : Nat → Prop} {w : World} {b kc vc n : Nat} {ka va pl pr : Option Addr} {q : Pr} (h : Nod F w b ka kc va vc q pl pr n) : b < w.heap.size := (Array.getElem?_eq_some_iff.1 h.2.1).1
theorem Nod.kept {F : Nat → Prop} {w w' : World} {b kc vc n : Nat} {ka va pl pr : Option Addr} {q : Pr} (h : Nod F w b ka kc va vc q pl pr n) (k : Kept F w w') : Nod F w' b ka kc va vc q pl pr n :=
  ⟨h.1, (k b h.1 h.lt).trans h.2.1, h.2.2.1.kept k, h.2.2.2.kept k⟩
theorem Tre.kept {F : Nat → Prop} {w w' : World} (k : Kept F w w') : ∀ {t : Tr} {p : Option Addr}, Tre F w t p → Tre F w' t p
  | .nil, _, h => h
  | .node _ _ _, _, ⟨b, ka, kc, va, vc, pl, pr, h1, h2, h3, h4⟩ => ⟨b, ka, kc, va, vc, pl, pr, h1, h2.kept k, h3.kept k, h4.kept k⟩
theorem Tre.mono {F G : Nat → Prop} {w : World} (k : ∀ b, b < w.heap.size → F b → G b) : ∀ {t : Tr} {p : Option Addr}, Tre F w t p → Tre G w t p
  | .nil, _, h => h
  | .node _ _ _, _, ⟨b, ka, kc, va, vc, pl, pr, h1, h2, h3, h4⟩ => ⟨b, ka, kc, va, vc, pl, pr, h1, ⟨k b h2.lt h2.1, h2.2.1, h2.2.2.1.mono k, h2.2.2.2.mono k⟩, h3.mono k, h4.mono k⟩
theorem Nod.cells {F : Nat → Prop} {w : World} {b kc vc n : Nat} {ka va pl pr : Option Addr} {q : Pr} (h : Nod F w b ka kc va vc q pl pr n) :
    w.cell? ⟨b, 0, none⟩ = some (.slice ka q.1.length kc) ∧ w.cell? ⟨b, 1, none⟩ = some (.slice va q.2.length vc) ∧ w.cell? ⟨b, 2, none⟩ = some (.pointer pl) ∧ w.cell? ⟨b, 3, none⟩ = some (.pointer pr) ∧ w.cell? ⟨b, 4, none⟩ = some (.int .i64 (n : Int)) := by
  have e := h.2.1
  refine ⟨?_, ?_, ?_, ?_, ?_⟩ <;> · rw [cell_of_row w b _ _ 134 (0, 0) e]; rfl
theorem kept_below {F : Nat → Prop} {w w' : World} (h : Below w.heap.size w w') : Kept F w w' := fun b _ hb => h.block b hb
theorem Byt.below {F : Nat → Prop} {w w' : World} {A : Option Addr} {l : List UInt8} (h : Byt F w A l) (hb : Below w.heap.size w w') : Byt F w' A l := h.kept (kept_below hb)
theorem Tre.below {F : Nat → Prop} {w w' : World} {t : Tr} {p : Option Addr} (h : Tre F w t p) (hb : Below w.heap.size w w') : Tre F w' t p := h.kept (kept_below hb)
theorem Nod.below {F : Nat → Prop} {w w' : World} {b kc vc n : Nat} {ka va pl pr : Option Addr} {q : Pr} (h : Nod F w b ka kc va vc q pl pr n) (hb : Below w.heap.size w w') : Nod F w' b ka kc va vc q pl pr n := h.kept (kept_below hb)
/-- all that is made from here on is in F -/
def Fut (F : Nat → Prop) (w : World) : Prop := ∀ b, w.heap.size ≤ b → F b
theorem Fut.later {F : Nat → Prop} {w w' : World} (h : Fut F w) (k : w.heap.size ≤ w'.heap.size) : Fut F w' := fun b hb => h b (Nat.le_trans k hb)
theorem byt_row {F : Nat → Prop} {w : World} {g : Nat} {l : List UInt8} {fz : Nat × Nat} (hf : F g) (h : w.heap[g]? = some (.cells (Lib.byteCells l).toArray 5 fz)) : Byt F w (some ⟨g, 0, none⟩) l := by
  rcases bts_row h with e | ⟨b, off, e, h2, h3⟩
  · exact .inl e
  · obtain ⟨rfl, rfl⟩ : g = b ∧ 0 = off := by
      injection e with e
      injection e with e1 e2
      exact ⟨e1, e2⟩
    exact .inr ⟨g, 0, rfl, hf, h2, h3⟩
/-- the meter at m, if there is one, has v visits and c compares -/
def Met (w : World) (m : Option Addr) (v c : Nat) : Prop := m = none ∨ ∃ g, m = some ⟨g, 0, none⟩ ∧ w.heap[g]? = some (.cells #[.int .i64 (v : Int), .int .i64 (c : Int)] 51 (0, 0))
theorem Met.below {w w' : World} {m : Option Addr} {v c : Nat} (h : Met w m v c) (hb : Below w.heap.size w w') : Met w' m v c := by
  rcases h with h | ⟨g, h1, h2⟩
  · exact .inl h
  · exact .inr ⟨g, h1, (hb.block g (Array.getElem?_eq_some_iff.1 h2).1).trans h2⟩
/-- what a call that counts leaves: all blocks but the meter's -/
structure Only (m : Option Addr) (w w' : World) : Prop where
  os : w'.os = w.os
  tape : w'.tape = w.tape
  output : w'.output = w.output
  size : w.heap.size ≤ w'.heap.size
  block : ∀ k, k < w.heap.size → (∀ a, m = some a → k ≠ a.block) → w'.heap[k]? = w.heap[k]?
theorem Only.refl (m : Option Addr) (w : World) : Only m w w := ⟨rfl, rfl, rfl, Nat.le_refl _, fun _ _ _ => rfl⟩
theorem Only.trans {m : Option Addr} {a b c : World} (h : Only m a b) (k : Only m b c) : Only m a c :=
  ⟨k.os.trans h.os, k.tape.trans h.tape, k.output.trans h.output, Nat.le_trans h.size k.size, fun i hi hm => (k.block i (Nat.lt_of_lt_of_le hi h.size) hm).trans (h.block i hi hm)⟩
theorem Only.of {m : Option Addr} {w w' : World} (h : Below w.heap.size w w') : Only m w w' := ⟨h.os, h.tape, h.output, h.size, fun k hk _ => h.block k hk⟩
theorem Only.nil {w w' : World} (h : Only none w w') : Below w.heap.size w w' := ⟨h.os, h.tape, h.output, h.size, fun k hk => h.block k hk (fun a e => by cases e)⟩
/-- what is there below the meter stays -/
theorem Only.below {B g : Nat} {w w' : World} (h : Only (some ⟨g, 0, none⟩) w w') (hB : B ≤ w.heap.size) (hg : B ≤ g) : Below B w w' :=
  ⟨h.os, h.tape, h.output, h.size, fun k hk => h.block k (Nat.lt_of_lt_of_le hk hB) (fun a e => by injection e with e; subst e; show k ≠ g; omega)⟩
theorem Only.cell {m : Option Addr} {w w' : World} {v c b i : Nat} {x : Value} (h : Only m w w') (hm : Met w m v c) (hc : w.cell? ⟨b, i, none⟩ = some x) (hx : ∀ z : Int, x ≠ .int .i64 z) (hb : b < w.heap.size) : w'.heap[b]? = w.heap[b]? := by
  refine h.block b hb fun a e => ?_
  rcases hm with rfl | ⟨g, rfl, hg⟩
  · cases e
  · injection e with e
    subst e
    rintro (rfl : b = g)
    rw [cell_of_row w b i _ 51 (0, 0) hg] at hc
    match i, hc with
    | 0, hc => injection hc with hc; exact hx _ hc.symm
    | 1, hc => injection hc with hc; exact hx _ hc.symm
    | n + 2, hc => simp at hc
theorem Bts.only {m : Option Addr} {w w' : World} {v c : Nat} {A : Option Addr} {l : List UInt8} (h : Bts w A l) (hm : Met w m v c) (ho : Only m w w') : Bts w' A l := by
  rcases h with h | ⟨b, off, h1, h2, h3⟩
  · exact .inl h
  · by_cases hl : l = []
    · exact .inl hl
    · have e := ho.cell hm (h3 0 (List.length_pos_iff.2 hl)) (by intro z e; injection e with e; cases e) h2
      exact .inr ⟨b, off, h1, lt_kept e h2, fun i hi => (cell_kept e).trans (h3 i hi)⟩
theorem Byt.only {F : Nat → Prop} {m : Option Addr} {w w' : World} {v c : Nat} {A : Option Addr} {l : List UInt8} (h : Byt F w A l) (hm : Met w m v c) (ho : Only m w w') : Byt F w' A l := by
  rcases h with h | ⟨b, off, h1, hf, h2, h3⟩
  · exact .inl h
  · by_cases hl : l = []
    · exact .inl hl
    · have e := ho.cell hm (h3 0 (List.length_pos_iff.2 hl)) (by intro z e; injection e with e; cases e) h2
      exact .inr ⟨b, off, h1, hf, lt_kept e h2, fun i hi => (cell_kept e).trans (h3 i hi)⟩
theorem Nod.only {F : Nat → Prop} {m : Option Addr} {w w' : World} {v c : Nat} {b kc vc n : Nat} {ka va pl pr : Option Addr} {q : Pr} (h : Nod F w b ka kc va vc q pl pr n) (hm : Met w m v c) (ho : Only m w w') : Nod F w' b ka kc va vc q pl pr n := by
  have e := ho.cell hm h.cells.1 (by intro z e; cases e) h.lt
  exact ⟨h.1, e.trans h.2.1, h.2.2.1.only hm ho, h.2.2.2.only hm ho⟩
theorem Tre.only {F : Nat → Prop} {m : Option Addr} {w w' : World} {v c : Nat} (hm : Met w m v c) (ho : Only m w w') : ∀ {t : Tr} {p : Option Addr}, Tre F w t p → Tre F w' t p
  | .nil, _, h => h
  | .node _ _ _, _, ⟨b, ka, kc, va, vc, pl, pr, h1, h2, h3, h4⟩ => ⟨b, ka, kc, va, vc, pl, pr, h1, h2.only hm ho, h3.only hm ho, h4.only hm ho⟩
theorem Only.set (w : World) (g i : Nat) (v : Value) : Only (some ⟨g, 0, none⟩) w (w.setCell ⟨g, i, none⟩ v) :=
  ⟨rfl, rfl, rfl, by simp, fun k _ hk => Below.heap_setCell w ⟨g, i, none⟩ v k (hk ⟨g, 0, none⟩ rfl)⟩
end Go.Proofs.YtmbdimonfdncpaaGreatDoor
