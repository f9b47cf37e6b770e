/-
  Trees in memory by their lists: what is cut, joined, counted.
-/
import Derived.Test.YtnniojlofhbioaaSplit
import Derived.Test.YtnniojlofhbioaaSets
namespace Go.Proofs.Ytnniojlofhbioaa
open Go.RowKit
set_option maxHeartbeats 4000000
set_option maxRecDepth 100000
/-- a tree in memory, with just these pairs -/
def Is (F : Nat → Prop) (w : World) (L : List Pr) (p : Option Addr) : Prop := ∃ t : Tr, Tre F w t p ∧ t.even ∧ t.list = L
theorem Is.below {F : Nat → Prop} {w w' : World} {L : List Pr} {p : Option Addr} (h : Is F w L p) (hb : Below w.heap.size w w') : Is F w' L p := by
  obtain ⟨t, h1, h2, h3⟩ := h
  exact ⟨t, h1.below hb, h2, h3⟩
/-- what a list must be, to be cut -/
structure Fine (L : List Pr) : Prop where
  sorted : srt L
  few : L.length < 1500
  fits : ∀ x ∈ L, x.1.length ≤ 100000 ∧ x.2.length ≤ 100000
theorem Fine.part {L : List Pr} (h : Fine L) (P : Pr → Bool) : Fine (L.filter P) := ⟨h.sorted.filter _, Nat.lt_of_le_of_lt (List.length_filter_le _ _) h.few, fun x hx => h.fits x (mem_part hx)⟩
theorem Fine.lts {L : List Pr} (h : Fine L) (k : List UInt8) : Fine (lts L k) := h.part _
theorem Fine.oth {L : List Pr} (h : Fine L) (k : List UInt8) : Fine (oth L k) := h.part _
theorem split_any {F : Nat → Prop} {w : World} {L : List Pr} {p K : Option Addr} {key : List UInt8} (kc : Nat) (hF : Fut F w) (h : Is F w L p) (hf : Fine L) (hK : Bts w K key) : Calls Try.prog 27 #[.pointer p, .slice K key.length kc] w (CutP F L key w) := by
  obtain ⟨t, h1, h2, rfl⟩ := h
  exact at_any kc t w p hF h1 h2 hf.sorted (by rw [← Tr.length]; exact hf.few) hf.fits hK
theorem run_key (a b : Value) (W : World) : (Instr.field 48 (.agg #[a, b]) 0).run Try.prog W = .ok a W := by
  have u31 := Try.underlying48
  simp [Instr.field, run_underlying u31, Go.sizeOf, part, Try.isAgg42, asAgg, go_sem]
theorem pair_list {F : Nat → Prop} {w : World} {L M : List Pr} {pl pr : Option Addr} (hF : Fut F w) (hl : Is F w L pl) (hr : Is F w M pr) (hn : (L ++ M).length < 1500) :
    Calls Try.prog 33 #[.pointer pl, .pointer pr, .pointer none] w fun e w' => ∃ p, e = .returned (.pointer p) ∧ Is F w' (L ++ M) p ∧ Below w.heap.size w w' := by
  obtain ⟨a, h1, h2, rfl⟩ := hl
  obtain ⟨b, h3, h4, rfl⟩ := hr
  have hz : a.size + b.size < 1500 := by rw [← Tr.length, ← Tr.length, ← List.length_append]; exact hn
  have hh : ∀ t : Tr, t.high ≤ t.size := by
    intro t
    induction t with
    | nil => exact Nat.le_refl _
    | node l q r i1 i2 => simp only [Tr.high, Tr.size]; omega
  refine (pair_any (m := none) (v := 0) (c := 0) hF h1 h3 (.inl rfl) h2 h4 (by omega) (by have := hh b; omega)).mono ?_
  rintro e w' ⟨p, t, v', rfl, g1, g2, g3, _, _, _, g7⟩
  exact ⟨p, rfl, ⟨t, g1, g2, g3⟩, g7.nil⟩
theorem is_nil (F : Nat → Prop) (w : World) : Is F w [] none := ⟨.nil, rfl, trivial, rfl⟩
theorem Fine.gts {L : List Pr} (h : Fine L) (k : List UInt8) : Fine (gts L k) := h.part _
/-- a tree is told that has just these pairs; what was there stays -/
def Tell (F : Nat → Prop) (L : List Pr) (w : World) (e : Ending) (w' : World) : Prop := ∃ p, e = .returned (.pointer p) ∧ Is F w' L p ∧ Below w.heap.size w w'
theorem Is.some {F : Nat → Prop} {w : World} {L : List Pr} {p : Option Addr} (h : Is F w L p) (hn : L ≠ []) : ∃ b, p = some ⟨b, 0, none⟩ := by
  obtain ⟨t, h1, _, rfl⟩ := h
  obtain ⟨b, rfl, _⟩ := tre_some h1 (by rintro rfl; exact hn rfl)
  exact ⟨b, rfl⟩
theorem Is.none {F : Nat → Prop} {w : World} {p : Option Addr} (h : Is F w [] p) : p = none := by
  obtain ⟨t, h1, _, h3⟩ := h
  cases t with
  | nil => exact h1
  | node l q r => exact absurd (show l.list ++ q :: r.list = [] from h3) (by simp)
theorem is_size {F : Nat → Prop} {w : World} {L : List Pr} {p : Option Addr} (h : Is F w L p) (hn : L.length ≤ 10000) : Calls Try.prog 20 #[.pointer p] w fun e w' => e = .returned (.int .i64 (L.length : Int)) ∧ w = w' := by
  obtain ⟨t, h1, _, rfl⟩ := h
  have h := size_any h1 (by rw [← Tr.length]; exact hn)
  rw [← Tr.length] at h
  exact h
theorem Cutd.left {F : Nat → Prop} {L : List Pr} {k : List UInt8} {w : World} {pl pr va : Option Addr} {x : Nat} {is : Bool} (h : Cutd F L k w pl pr va x is) : Is F w (Go.Proofs.Ytnniojlofhbioaa.lts L k) pl := by
  obtain ⟨_, _, _, l, r, h4, h5, h6, h7, h8, h9⟩ := h
  exact ⟨l, h4, h6, h8⟩
theorem Cutd.right {F : Nat → Prop} {L : List Pr} {k : List UInt8} {w : World} {pl pr va : Option Addr} {x : Nat} {is : Bool} (h : Cutd F L k w pl pr va x is) : Is F w (Go.Proofs.Ytnniojlofhbioaa.gts L k) pr := by
  obtain ⟨_, _, _, l, r, h4, h5, h6, h7, h8, h9⟩ := h
  exact ⟨r, h5, h7, h9⟩
theorem join_list {F : Nat → Prop} {w : World} {L M : List Pr} {q : Pr} {pl pr ka va : Option Addr} (kc vc : Nat) (hF : Fut F w) (hl : Is F w L pl) (hr : Is F w M pr) (hk : Bts w ka q.1) (hv : Bts w va q.2) (hq : q.1.length ≤ 100000 ∧ q.2.length ≤ 100000) (hn : L.length + M.length < 1500) :
    Calls Try.prog 28 #[.pointer pl, .agg #[.slice ka q.1.length kc, .slice va q.2.length vc], .pointer pr] w (Tell F (L ++ q :: M) w) := by
  obtain ⟨a, h1, h2, rfl⟩ := hl
  obtain ⟨b, h3, h4, rfl⟩ := hr
  rw [Tr.length, Tr.length] at hn
  refine (joinP_any kc vc hF h1 h3 hk hv hq h2 h4 (by omega)).mono ?_
  rintro e w' ⟨p, t, rfl, g1, g2, g3, g4⟩
  exact ⟨p, rfl, ⟨t, g1, g2, g3⟩, g4⟩
end Go.Proofs.Ytnniojlofhbioaa
