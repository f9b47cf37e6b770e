/-
  Contracts of Pair, Join, Height, Left, Right, Root.
-/
import Derived.Test.YtmbdimonfdncpaaGreatDoorFirst
namespace Go.Proofs.YtmbdimonfdncpaaGreatDoor
open Go.RowKit
set_option maxHeartbeats 4000000
set_option maxRecDepth 100000
theorem tre_some {F : Nat → Prop} {w : World} {t : Tr} {p : Option Addr} (h : Tre F w t p) (hn : t ≠ .nil) : ∃ b, p = some ⟨b, 0, none⟩ ∧ b < w.heap.size := by
  cases t with
  | nil => exact absurd rfl hn
  | node a k c => obtain ⟨b, _, _, _, _, _, _, rfl, h, _⟩ := h; exact ⟨_, rfl, h.lt⟩
theorem byt_new {F : Nat → Prop} {w w' : World} {g : Nat} {l : List UInt8} (h : NewRow w.heap.size w' g l) (hF : Fut F w) : Byt F w' (some ⟨g, 0, none⟩) l := byt_row (hF g h.1) h.2
/-- keep, as a tree's own pair -/
theorem kept_any {F : Nat → Prop} {w : World} {ka va : Option Addr} {q : Pr} (kc vc : Nat) (hF : Fut F w) (hk : Bts w ka q.1) (hv : Bts w va q.2) (hn : q.1.length ≤ 100000 ∧ q.2.length ≤ 100000) :
    Calls Tryz.prog 69 #[.agg #[.slice ka q.1.length kc, .slice va q.2.length vc]] w fun e w' => ∃ ja jc ua uc, e = .returned (.agg #[.slice ja q.1.length jc, .slice ua q.2.length uc]) ∧ Byt F w' ja q.1 ∧ Byt F w' ua q.2 ∧ Below w.heap.size w w' := by
  refine (keep_any kc vc hk hv hn).mono ?_
  rintro e w' ⟨g1, g2, rfl, h1, h2, _, h4⟩
  exact ⟨_, _, _, _, rfl, byt_new h1 hF, byt_new h2 hF, h4⟩
theorem box_pair (w : World) (ka va : Option Addr) (x kc y vc : Nat) : ∃ w1, w1 = w.alloc (.cells #[.slice ka x kc, .slice va y vc] 29) ∧ Below w.heap.size w w1 ∧ w1.heap.size = w.heap.size + 1 ∧
    ∀ W, Below w1.heap.size w1 W → W.cell? ⟨w.heap.size, 0, none⟩ = some (.slice ka x kc) ∧ W.cell? ⟨w.heap.size, 1, none⟩ = some (.slice va y vc) := by
  refine ⟨_, rfl, (Below.refl _ _).alloc (Nat.le_refl _) _, by simp, fun W hW => ?_⟩
  have r0 : W.heap[w.heap.size]? = some (.cells #[.slice ka x kc, .slice va y vc] 29 (0, 0)) := (hW.block _ (by simp)).trans (heap_alloc_new w _)
  constructor
  · rw [cell_of_row W _ _ _ 29 (0, 0) r0]; rfl
  · rw [cell_of_row W _ _ _ 29 (0, 0) r0]; rfl
def Tr.left : Tr → Tr
  | .nil => .nil
  | .node l _ _ => l
def Tr.right : Tr → Tr
  | .nil => .nil
  | .node _ _ r => r
theorem root_nil (w : World) : Calls Tryz.prog 70 #[.pointer none] w fun e w' => e = .returned (.agg #[.slice none 0 0, .slice none 0 0]) ∧ Below w.heap.size w w' := by
  have hb : Below w.heap.size w (w.alloc (.cells #[.slice none 0 0, .slice none 0 0] 29)) := (Below.refl _ _).alloc (Nat.le_refl _) _
  have r0 : (w.alloc (.cells #[.slice none 0 0, .slice none 0 0] 29)).heap[w.heap.size]? = some (.cells #[.slice none 0 0, .slice none 0 0] 29 (0, 0)) := heap_alloc_new w _
  obtain ⟨w1, hw1⟩ : ∃ w1, w1 = w.alloc (.cells #[.slice none 0 0, .slice none 0 0] 29) := ⟨_, rfl⟩
  rw [← hw1] at hb r0
  obtain ⟨d0, d1, f0, f1⟩ := row2 r0
  have s2 := set2 r0 (.slice none 0 0) (.slice none 0 0)
  have b2 := below_set2 (w := w1) (g := w.heap.size) (.slice none 0 0) (.slice none 0 0) (Nat.le_refl _)
  have HB := Lib.hid hb; clear hb
  have HS := Lib.hid s2; clear s2
  have HB2 := Lib.hid b2; clear b2
  have HW := Lib.hid hw1; clear hw1
  clear r0
  go_enter Tryz.func70, Tryz.ntmps70
  go_wp2_with (rw [← HW.out])
  refine bodyPost_ret (results_cell_row rfl _ _ w.heap.size 29 _ (0, 0) _ rfl HS.out.1 Tryz.underlying29 rfl (by kernel_rfl)) rfl ?_
  exact ⟨rfl, HB.out.trans HB2.out⟩
theorem root_any {F : Nat → Prop} {w : World} {l r : Tr} {q : Pr} {p : Option Addr} (h : Tre F w (.node l q r) p) (hn : q.1.length ≤ 100000 ∧ q.2.length ≤ 100000) :
    Calls Tryz.prog 70 #[.pointer p] w fun e w' => ∃ g1 g2, e = .returned (.agg #[.slice (some ⟨g1, 0, none⟩) q.1.length q.1.length, .slice (some ⟨g2, 0, none⟩) q.2.length q.2.length]) ∧ NewRow w.heap.size w' g1 q.1 ∧ NewRow w.heap.size w' g2 q.2 ∧ Below w.heap.size w w' := by
  obtain ⟨b, ka, kc, va, vc, pl, pr, rfl, h, hl, hr⟩ := h
  have hb : Below w.heap.size w (w.alloc (.cells #[.slice none 0 0, .slice none 0 0] 29)) := (Below.refl _ _).alloc (Nat.le_refl _) _
  have r0 : (w.alloc (.cells #[.slice none 0 0, .slice none 0 0] 29)).heap[w.heap.size]? = some (.cells #[.slice none 0 0, .slice none 0 0] 29 (0, 0)) := heap_alloc_new w _
  obtain ⟨w1, hw1⟩ : ∃ w1, w1 = w.alloc (.cells #[.slice none 0 0, .slice none 0 0] 29) := ⟨_, rfl⟩
  have hsz : w1.heap.size = w.heap.size + 1 := by rw [hw1]; simp
  rw [← hw1] at hb r0
  obtain ⟨c0, c1, _, _, _⟩ := (h.below hb).cells
  have ht := told_any kc vc ((h.below hb).2.2.1).bts ((h.below hb).2.2.2).bts hn
  obtain ⟨x1, hx1⟩ : ∃ k, k = q.1.length := ⟨_, rfl⟩
  obtain ⟨x2, hx2⟩ : ∃ k, k = q.2.length := ⟨_, rfl⟩
  simp only [← hx1, ← hx2] at c0 c1 ht ⊢
  have HT := Lib.hid ht; clear ht
  have HB := Lib.hid hb; clear hb
  have HR := Lib.hid r0; clear r0
  have HW := Lib.hid hw1; clear hw1
  have HSZ := Lib.hid hsz; clear hsz
  clear h hl hr hn hx1 hx2
  go_enter Tryz.func70, Tryz.ntmps70
  go_wp2_with (rw [← HW.out])
  refine HT.out.mono ?_
  rintro e w2 ⟨g1, g2, rfl, h1, h2, h3, h4⟩
  have r2 := (h4.block w.heap.size (by have := HSZ.out; omega)).trans HR.out
  obtain ⟨d0, d1, f0, f1⟩ := row2 r2
  have HS := Lib.hid (set2 r2 (.slice (some ⟨g1, 0, none⟩) x1 x1) (.slice (some ⟨g2, 0, none⟩) x2 x2))
  have HB2 := Lib.hid (below_set2 (w := w2) (g := w.heap.size) (.slice (some ⟨g1, 0, none⟩) x1 x1) (.slice (some ⟨g2, 0, none⟩) x2 x2) (Nat.le_refl _))
  have H1 := Lib.hid h1; clear h1
  have H2 := Lib.hid h2; clear h2
  have H4 := Lib.hid h4; clear h4
  clear c0 c1 r2
  go_wp2_with fail
  refine bodyPost_ret (results_cell_row rfl _ _ w.heap.size 29 _ (0, 0) _ rfl HS.out.1 Tryz.underlying29 rfl (by kernel_rfl)) rfl ?_
  have hz := HSZ.out
  have a1 := H1.out.1
  have a2 := H2.out.1
  refine ⟨g1, g2, rfl, ⟨by omega, (HS.out.2 g1 (by omega)).trans H1.out.2⟩, ⟨by omega, (HS.out.2 g2 (by omega)).trans H2.out.2⟩, ?_⟩
  exact (below_then HB.out H4.out).trans HB2.out
end Go.Proofs.YtmbdimonfdncpaaGreatDoor
