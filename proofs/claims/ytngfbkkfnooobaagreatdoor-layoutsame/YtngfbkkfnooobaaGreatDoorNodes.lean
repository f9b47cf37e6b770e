/-
  Nodes of a trie: plain ones; how the program's and the document's lie in memory.
-/
import Derived.Test.YtngfbkkfnooobaaGreatDoorMath3
import Derived.Test.YtngfbkkfnooobaaGreatDoorFromz
import Derived.Test.YtngfbkkfnooobaaGreatDoorRefz
import Derived.Deep.RegionLaw
import Derived.Test.YtngfbkkfnooobaaGreatDoorBitz
namespace Go.Proofs.YtngfbkkfnooobaaGreatDoor
open Go.RowKit
set_option maxHeartbeats 400000
set_option maxRecDepth 100000
/-- a node: none; a leaf; a bucket; a branch of a set and so many children -/
inductive Nd where
  | none
  | leaf (h : Nat) (p : Pr)
  | buck (h : Nat) (L : List Pr)
  | bran (m k : Nat) (kid : Nat → Nd)
def Nd.kind : Nd → Nat
  | .none => 0
  | .leaf _ _ => 1
  | .buck _ _ => 2
  | .bran _ _ _ => 3
def Nd.hash : Nd → Nat
  | .leaf h _ => h
  | .buck h _ => h
  | _ => 0
/-- the pairs of its own -/
def Nd.prs : Nd → List Pr
  | .leaf _ p => [p]
  | .buck _ L => L
  | _ => []
def Nd.set : Nd → List Int
  | .bran m _ _ => Bt.lst m 32
  | _ => []
/-- how many children -/
def Nd.num : Nd → Nat
  | .bran _ k _ => k
  | _ => 0
def sumTo (f : Nat → Nat) : Nat → Nat
  | 0 => 0
  | n + 1 => sumTo f n + f n
theorem sumTo_le (f : Nat → Nat) {j k : Nat} (h : j ≤ k) : sumTo f j ≤ sumTo f k := by
  induction k with
  | zero => obtain rfl : j = 0 := by omega
            exact Nat.le_refl _
  | succ k ih =>
    rcases Nat.eq_or_lt_of_le h with rfl | h
    · exact Nat.le_refl _
    · exact Nat.le_trans (ih (by omega)) (Nat.le_add_right _ _)
theorem sumTo_bound (f : Nat → Nat) (B : Nat) : ∀ k, (∀ i, i < k → f i ≤ B) → sumTo f k ≤ k * B
  | 0, _ => by simp [sumTo]
  | k + 1, h => by
    have := sumTo_bound f B k (fun i hi => h i (by omega))
    have := h k (by omega)
    rw [sumTo, Nat.add_mul, Nat.one_mul]
    omega
theorem le_sumTo (f : Nat → Nat) : ∀ k i, i < k → f i ≤ sumTo f k
  | k + 1, i, h => by
    rw [sumTo]
    rcases Nat.eq_or_lt_of_le (Nat.lt_succ_iff.1 h) with rfl | h
    · exact Nat.le_add_left _ _
    · exact Nat.le_trans (le_sumTo f k i h) (Nat.le_add_right _ _)
/-- how many pairs are in it -/
def Nd.cnt : Nd → Nat
  | .none => 0
  | .leaf _ _ => 1
  | .buck _ L => L.length
  | .bran _ k kid => sumTo (fun i => (kid i).cnt) k
/-- what may be -/
def Nd.ok : Nd → Prop
  | .none => True
  | .leaf h p => h < 18446744073709551616 ∧ p.1.length ≤ 1000 ∧ p.2.length ≤ 1000
  | .buck h L => h < 18446744073709551616 ∧ 2 ≤ L.length ∧ L.length ≤ 100 ∧ srt L ∧ Fits L
  | .bran m k kid => m < 4294967296 ∧ 0 < k ∧ (Bt.lst m 32).length = k ∧ ∀ i, i < k → kid i ≠ .none ∧ (kid i).ok
theorem fits_nil : Fits [] := fun q hq => by cases hq
theorem Nd.ok_prs {x : Nd} (h : x.ok) : srt x.prs ∧ Fits x.prs ∧ x.prs.length ≤ 100 := by
  cases x with
  | none => exact ⟨List.Pairwise.nil, fits_nil, Nat.zero_le _⟩
  | leaf h' p =>
    refine ⟨List.pairwise_singleton _ _, (fun q hq => ?_ : Fits [p]), by simp [Nd.prs]⟩
    obtain rfl : q = p := by simpa using hq
    exact h.2
  | buck h' L => exact ⟨h.2.2.2.1, h.2.2.2.2, h.2.2.1⟩
  | bran m k kid => exact ⟨List.Pairwise.nil, fits_nil, Nat.zero_le _⟩
theorem Nd.ok_hash {x : Nd} (h : x.ok) : x.hash < 18446744073709551616 := by
  cases x with
  | none => exact (by decide : 0 < 18446744073709551616)
  | leaf h' p => exact h.1
  | buck h' L => exact h.1
  | bran m k kid => exact (by decide : 0 < 18446744073709551616)
/-- the node's value v reads as x, in blocks of F -/
def Nde (F : Nat → Prop) (w : World) : Nd → Value → Prop
  | .none, v => v = .nilIface
  | .leaf h p, v => ∃ b ka kc va vc, v = .iface 103 (.pointer (some ⟨b, 0, none⟩)) ∧ F b ∧ w.heap[b]? = some (.cells #[.int .u64 (h : Int), .slice ka p.1.length kc, .slice va p.2.length vc] 107 (0, 0)) ∧ Byt F w ka p.1 ∧ Byt F w va p.2
  | .buck h L, v => ∃ b p t, v = .iface 108 (.pointer (some ⟨b, 0, none⟩)) ∧ F b ∧ w.heap[b]? = some (.cells #[.int .u64 (h : Int), .pointer p] 110 (0, 0)) ∧ Tre F w t p ∧ t.even ∧ t.list = L
  | .bran m k kid, v => ∃ b g c, v = .iface 114 (.pointer (some ⟨b, 0, none⟩)) ∧ F b ∧ w.heap[b]? = some (.cells #[.int .u32 (m : Int), .slice (some ⟨g, 0, none⟩) k c, .int .i64 ((sumTo (fun i => (kid i).cnt) k : Nat) : Int)] 118 (0, 0)) ∧ F g ∧ g < w.heap.size ∧
      ∀ i, i < k → ∃ vi, w.cell? ⟨g, i, none⟩ = some vi ∧ Nde F w (kid i) vi
theorem Nde.kept {F : Nat → Prop} {w w' : World} (K : Kept F w w') : ∀ {x : Nd} {v : Value}, Nde F w x v → Nde F w' x v
  | .none, _, h => h
  | .leaf _ _, _, ⟨b, ka, kc, va, vc, h1, h2, h3, h4, h5⟩ => ⟨b, ka, kc, va, vc, h1, h2, (K b h2 (Array.getElem?_eq_some_iff.1 h3).1).trans h3, h4.kept K, h5.kept K⟩
  | .buck _ _, _, ⟨b, p, t, h1, h2, h3, h4, h5, h6⟩ => ⟨b, p, t, h1, h2, (K b h2 (Array.getElem?_eq_some_iff.1 h3).1).trans h3, h4.kept K, h5, h6⟩
  | .bran _ k kid, _, ⟨b, g, c, h1, h2, h3, h4, h5, h6⟩ => ⟨b, g, c, h1, h2, (K b h2 (Array.getElem?_eq_some_iff.1 h3).1).trans h3, h4, lt_kept (K g h4 h5) h5, fun i hi => by
      obtain ⟨vi, h7, h8⟩ := h6 i hi
      exact ⟨vi, (cell_kept (K g h4 h5)).trans h7, Nde.kept K h8⟩⟩
theorem Nde.below {F : Nat → Prop} {w w' : World} {x : Nd} {v : Value} (h : Nde F w x v) (hb : Below w.heap.size w w') : Nde F w' x v := h.kept (kept_below hb)
theorem Nde.mono {F G : Nat → Prop} {w : World} (K : ∀ b, b < w.heap.size → F b → G b) : ∀ {x : Nd} {v : Value}, Nde F w x v → Nde G w x v
  | .none, _, h => h
  | .leaf _ _, _, ⟨b, ka, kc, va, vc, h1, h2, h3, h4, h5⟩ => ⟨b, ka, kc, va, vc, h1, K b (Array.getElem?_eq_some_iff.1 h3).1 h2, h3, h4.mono K, h5.mono K⟩
  | .buck _ _, _, ⟨b, p, t, h1, h2, h3, h4, h5, h6⟩ => ⟨b, p, t, h1, K b (Array.getElem?_eq_some_iff.1 h3).1 h2, h3, h4.mono K, h5, h6⟩
  | .bran _ k kid, _, ⟨b, g, c, h1, h2, h3, h4, h5, h6⟩ => ⟨b, g, c, h1, K b (Array.getElem?_eq_some_iff.1 h3).1 h2, h3, K g h5 h4, h5, fun i hi => by
      obtain ⟨vi, h7, h8⟩ := h6 i hi
      exact ⟨vi, h7, Nde.mono K h8⟩⟩
/-- a node's value is nil just if there is none -/
theorem Nde.nil_iff {F : Nat → Prop} {w : World} {x : Nd} {v : Value} (h : Nde F w x v) : (x = .none ∧ v = .nilIface) ∨ (x ≠ .none ∧ ∃ t b, v = .iface t (.pointer (some ⟨b, 0, none⟩))) := by
  cases x with
  | none => exact .inl ⟨rfl, h⟩
  | leaf h' p => obtain ⟨b, _, _, _, _, h1, _⟩ := h; exact .inr ⟨(by intro e; cases e), _, _, h1⟩
  | buck h' L => obtain ⟨b, _, _, h1, _⟩ := h; exact .inr ⟨(by intro e; cases e), _, _, h1⟩
  | bran m k kid => obtain ⟨b, _, _, h1, _⟩ := h; exact .inr ⟨(by intro e; cases e), _, _, h1⟩
/-- where the document's node lies: its pairs, its numbers, its children -/
structure RN where
  pa : Option Addr
  pc : Nat
  sa : Option Addr
  sc : Nat
  ka : Option Addr
  kc : Nat
/-- its cells -/
def RN.cells (r : RN) (x : Nd) : List Value := [.int .i64 (x.kind : Int), .int .u64 (x.hash : Int), .slice r.pa x.prs.length r.pc, .slice r.sa x.set.length r.sc, .slice r.ka x.num r.kc]
/-- its value -/
def RN.agg (r : RN) (x : Nd) : Value := .agg #[.int .i64 (x.kind : Int), .int .u64 (x.hash : Int), .slice r.pa x.prs.length r.pc, .slice r.sa x.set.length r.sc, .slice r.ka x.num r.kc]
/-- the node of five cells at place i of block g -/
def RN.at (r : RN) (x : Nd) (w : World) (g i : Nat) : Prop :=
  w.cell? ⟨g, i * 5, none⟩ = some (.int .i64 (x.kind : Int)) ∧ w.cell? ⟨g, i * 5 + 1, none⟩ = some (.int .u64 (x.hash : Int)) ∧ w.cell? ⟨g, i * 5 + 2, none⟩ = some (.slice r.pa x.prs.length r.pc) ∧
    w.cell? ⟨g, i * 5 + 3, none⟩ = some (.slice r.sa x.set.length r.sc) ∧ w.cell? ⟨g, i * 5 + 4, none⟩ = some (.slice r.ka x.num r.kc)
/-- the slice at A lies in a block of F -/
def Inb (F : Nat → Prop) (w : World) (A : Option Addr) : Prop := ∀ a, A = some a → F a.block ∧ a.block < w.heap.size
theorem Inb.later {F : Nat → Prop} {w w' : World} {A : Option Addr} (h : Inb F w A) (k : w.heap.size ≤ w'.heap.size) : Inb F w' A := fun a e => ⟨(h a e).1, Nat.lt_of_lt_of_le (h a e).2 k⟩
theorem Inb.mono {F G : Nat → Prop} {w : World} {A : Option Addr} (h : Inb F w A) (K : ∀ b, b < w.heap.size → F b → G b) : Inb G w A := fun a e => ⟨K _ (h a e).2 (h a e).1, (h a e).2⟩
theorem Rcs.kept {F : Nat → Prop} {w w' : World} {A : Option Addr} {L : List Pr} (h : Rcs w A L) (hi : Inb F w A) (K : Kept F w w') : Rcs w' A L := by
  rcases h with h | ⟨b, rfl, h2, h3⟩
  · exact .inl h
  · have e := K b (hi _ rfl).1 h2
    exact .inr ⟨b, rfl, lt_kept e h2, fun i hi => ⟨(cell_kept e).trans (h3 i hi).1, (cell_kept e).trans (h3 i hi).2⟩⟩
theorem ints_kept {F : Nat → Prop} {w w' : World} {A : Option Addr} {L : List Int} (h : Bt.Ints w A L) (hi : Inb F w A) (K : Kept F w w') : Bt.Ints w' A L := by
  rcases h with h | ⟨b, off, rfl, h2, h3⟩
  · exact .inl h
  · have e := K b (hi _ rfl).1 h2
    exact .inr ⟨b, off, rfl, lt_kept e h2, fun i hi => (cell_kept e).trans (h3 i hi)⟩
/-- the document's node, in memory -/
def Mde (F : Nat → Prop) (w : World) : Nd → RN → Prop
  | .none, _ => True
  | .leaf _ p, r => Rcs w r.pa [p] ∧ Inb F w r.pa
  | .buck _ L, r => Rcs w r.pa L ∧ Inb F w r.pa
  | .bran m k kid, r => Bt.Ints w r.sa (Bt.lst m 32) ∧ Inb F w r.sa ∧ ∃ g, r.ka = some ⟨g, 0, none⟩ ∧ F g ∧ g < w.heap.size ∧ ∀ i, i < k → ∃ ri : RN, ri.at (kid i) w g i ∧ Mde F w (kid i) ri
theorem RN.at.kept {r : RN} {x : Nd} {w w' : World} {g i : Nat} (h : r.at x w g i) (e : w'.heap[g]? = w.heap[g]?) : r.at x w' g i :=
  ⟨(cell_kept e).trans h.1, (cell_kept e).trans h.2.1, (cell_kept e).trans h.2.2.1, (cell_kept e).trans h.2.2.2.1, (cell_kept e).trans h.2.2.2.2⟩
theorem Mde.kept {F : Nat → Prop} {w w' : World} (K : Kept F w w') (hs : w.heap.size ≤ w'.heap.size) : ∀ {x : Nd} {r : RN}, Mde F w x r → Mde F w' x r
  | .none, _, h => h
  | .leaf _ _, _, h => ⟨h.1.kept h.2 K, h.2.later hs⟩
  | .buck _ _, _, h => ⟨h.1.kept h.2 K, h.2.later hs⟩
  | .bran _ k kid, r, ⟨h1, h0, g, h2, hf, h3, h4⟩ => ⟨ints_kept h1 h0 K, h0.later hs, g, h2, hf, Nat.lt_of_lt_of_le h3 hs, fun i hi => by
      obtain ⟨ri, h5, h6⟩ := h4 i hi
      exact ⟨ri, h5.kept (K g hf h3), Mde.kept K hs h6⟩⟩
theorem Mde.below {F : Nat → Prop} {w w' : World} (hb : Below w.heap.size w w') {x : Nd} {r : RN} (h : Mde F w x r) : Mde F w' x r := h.kept (kept_below hb) hb.size
theorem Mde.mono {F G : Nat → Prop} {w : World} (K : ∀ b, b < w.heap.size → F b → G b) : ∀ {x : Nd} {r : RN}, Mde F w x r → Mde G w x r
  | .none, _, h => h
  | .leaf _ _, _, h => ⟨h.1, h.2.mono K⟩
  | .buck _ _, _, h => ⟨h.1, h.2.mono K⟩
  | .bran _ k kid, r, ⟨h1, h0, g, h2, hf, h3, h4⟩ => ⟨h1, h0.mono K, g, h2, K g h3 hf, h3, fun i hi => by
      obtain ⟨ri, h5, h6⟩ := h4 i hi
      exact ⟨ri, h5, Mde.mono K h6⟩⟩
/-- its own pairs, wherever they lie -/
theorem Mde.prs {F : Nat → Prop} {w : World} {x : Nd} {r : RN} (h : Mde F w x r) : Rcs w r.pa x.prs := by
  cases x with
  | none => exact .inl rfl
  | leaf h' p => exact h.1
  | buck h' L => exact h.1
  | bran m k kid => exact .inl rfl
theorem Mde.set {F : Nat → Prop} {w : World} {x : Nd} {r : RN} (h : Mde F w x r) : Bt.Ints w r.sa x.set := by
  cases x with
  | none => exact .inl rfl
  | leaf h' p => exact .inl rfl
  | buck h' L => exact .inl rfl
  | bran m k kid => exact h.1
def Nd.kid : Nd → Nat → Nd
  | .bran _ _ kid, i => kid i
  | _, _ => .none
/-- its child at a place -/
theorem Mde.child {F : Nat → Prop} {w : World} {x : Nd} {r : RN} (h : Mde F w x r) {i : Nat} (hi : i < x.num) : ∃ g, r.ka = some ⟨g, 0, none⟩ ∧ g < w.heap.size ∧ ∃ ri : RN, ri.at (x.kid i) w g i ∧ Mde F w (x.kid i) ri := by
  cases x with
  | none => exact absurd hi (Nat.not_lt_zero _)
  | leaf h' p => exact absurd hi (Nat.not_lt_zero _)
  | buck h' L => exact absurd hi (Nat.not_lt_zero _)
  | bran m k kid =>
    obtain ⟨_, _, g, h2, _, h3, h4⟩ := h
    exact ⟨g, h2, h3, h4 i hi⟩
theorem Nd.ok_kid {x : Nd} (h : x.ok) {i : Nat} (hi : i < x.num) : x.kid i ≠ .none ∧ (x.kid i).ok := by
  cases x with
  | none => exact absurd hi (Nat.not_lt_zero _)
  | leaf h' p => exact absurd hi (Nat.not_lt_zero _)
  | buck h' L => exact absurd hi (Nat.not_lt_zero _)
  | bran m k kid => exact h.2.2.2 i hi
theorem Nd.cnt_eq (x : Nd) : x.cnt = x.prs.length + sumTo (fun i => (x.kid i).cnt) x.num := by
  cases x <;> simp [Nd.cnt, Nd.prs, Nd.kid, Nd.num, sumTo]
theorem Nd.cnt_kid (x : Nd) {i : Nat} (hi : i < x.num) : (x.kid i).cnt ≤ x.cnt := by
  rw [Nd.cnt_eq x]
  exact Nat.le_trans (le_sumTo (fun i => (x.kid i).cnt) _ i hi) (Nat.le_add_left _ _)
/-- of whatever each child has, each node has -/
theorem Nd.by_kids {P : Nd → Prop} (h : ∀ x : Nd, (∀ i, i < x.num → P (x.kid i)) → P x) : ∀ x, P x
  | .none => h _ fun _ hi => absurd hi (Nat.not_lt_zero _)
  | .leaf _ _ => h _ fun _ hi => absurd hi (Nat.not_lt_zero _)
  | .buck _ _ => h _ fun _ hi => absurd hi (Nat.not_lt_zero _)
  | .bran _ _ kid => h _ fun i _ => Nd.by_kids h (kid i)
end Go.Proofs.YtngfbkkfnooobaaGreatDoor
