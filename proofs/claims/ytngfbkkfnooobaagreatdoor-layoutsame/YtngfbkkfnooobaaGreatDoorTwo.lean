/-
  Contracts of Hash, Pair, Tree, Map, Kid.
-/
import Derived.Test.YtngfbkkfnooobaaGreatDoorPartz
namespace Go.Proofs.YtngfbkkfnooobaaGreatDoor
open Go.RowKit
set_option maxHeartbeats 4000000
set_option maxRecDepth 100000
theorem tree_any {F : Nat → Prop} {w : World} {x : Nd} {v : Value} (h : Nde F w x v) : Calls Tryz.prog 23 #[v] w fun e w' => (∃ p, e = .returned (.tuple #[.pointer p, .bool (x.kind == 2)]) ∧
    ((x.kind ≠ 2 ∧ p = none) ∨ ∃ t, Tre F w t p ∧ t.even ∧ t.list = x.prs ∧ x.kind = 2)) ∧ w = w' := by
  have nope : ∀ v, x.kind ≠ 2 → (∀ w, (Instr.typeAssert v 26 108 true).run Tryz.prog w = .ok (.tuple #[.pointer none, .bool false]) w) → Calls Tryz.prog 23 #[v] w fun e w' => (∃ p, e = .returned (.tuple #[.pointer p, .bool (x.kind == 2)]) ∧
      ((x.kind ≠ 2 ∧ p = none) ∨ ∃ t, Tre F w t p ∧ t.even ∧ t.list = x.prs ∧ x.kind = 2)) ∧ w = w' := by
    intro v hk h1
    have hb : (x.kind == 2) = false := by simpa using hk
    rw [hb]
    have HK := Lib.hid hk; clear hk hb h
    go_enter Tryz.func23, Tryz.ntmps23
    go_wp2
    go_ret2
    exact ⟨⟨none, rfl, .inl ⟨HK.out, rfl⟩⟩, rfl⟩
  cases x with
  | none => obtain rfl : v = .nilIface := h; exact nope _ (by simp [Nd.kind]) ta91_nil
  | leaf h' p => obtain ⟨b, _, _, _, _, rfl, _⟩ := h; exact nope _ (by simp [Nd.kind]) (ta91_84 _)
  | bran m k kid => obtain ⟨b, _, _, rfl, _⟩ := h; exact nope _ (by simp [Nd.kind]) (ta91_100 _)
  | buck h' L =>
    obtain ⟨b, p, t, rfl, _, hr, ht, he, hl⟩ := h
    have c1 := row_cell (i := 1) hr rfl
    have h1 := ta91_91 (.pointer (some ⟨b, 0, none⟩))
    have HT := Lib.hid (And.intro ht (And.intro he hl))
    clear hr nope ht he hl
    go_enter Tryz.func23, Tryz.ntmps23
    go_wp2
    go_ret2
    exact ⟨⟨p, rfl, .inr ⟨t, HT.out.1, HT.out.2.1, HT.out.2.2, rfl⟩⟩, rfl⟩
theorem pair_any {F : Nat → Prop} {w : World} {x : Nd} {v : Value} (h : Nde F w x v) (ho : x.ok) : Calls Tryz.prog 22 #[v] w fun e w' => ∃ A B c d, e = .returned (.tuple #[.agg #[.slice A x.pr.1.length c, .slice B x.pr.2.length d], .bool (x.kind == 1)]) ∧
    Bts w' A x.pr.1 ∧ Bts w' B x.pr.2 ∧ Below w.heap.size w w' := by
  have r0 : (w.alloc (.cells #[.slice none 0 0, .slice none 0 0] 48)).heap[w.heap.size]? = some (.cells #[.slice none 0 0, .slice none 0 0] 48 (0, 0)) := heap_alloc_new w _
  have hb0 : Below w.heap.size w (w.alloc (.cells #[.slice none 0 0, .slice none 0 0] 48)) := (Below.refl _ _).alloc (Nat.le_refl _) _
  have nope : ∀ v, x.kind ≠ 1 → x.pr = ([], []) → (∀ w, (Instr.typeAssert v 26 103 true).run Tryz.prog w = .ok (.tuple #[.pointer none, .bool false]) w) → Calls Tryz.prog 22 #[v] w fun e w' => ∃ A B c d, e = .returned (.tuple #[.agg #[.slice A x.pr.1.length c, .slice B x.pr.2.length d], .bool (x.kind == 1)]) ∧
      Bts w' A x.pr.1 ∧ Bts w' B x.pr.2 ∧ Below w.heap.size w w' := by
    intro v hk hp h1
    have hb : (x.kind == 1) = false := by simpa using hk
    rw [hb, hp]
    obtain ⟨e0, e1, f0, f1⟩ := row2 r0
    have HS := Lib.hid r0
    have HB := Lib.hid hb0
    clear hk hb h hp r0 hb0 ho
    go_enter Tryz.func22, Tryz.ntmps22
    go_wp2
    refine bodyPost_ret (results_two rfl _ _ w.heap.size 48 _ (0, 0) _ _ rfl HS.out rfl Tryz.underlying48 rfl (by kernel_rfl)) rfl ?_
    exact ⟨none, none, 0, 0, rfl, .inl rfl, .inl rfl, HB.out⟩
  cases x with
  | none => obtain rfl : v = .nilIface := h; exact nope _ (by simp [Nd.kind]) rfl ta84_nil
  | buck h' L => obtain ⟨b, _, _, rfl, _⟩ := h; exact nope _ (by simp [Nd.kind]) rfl (ta84_91 _)
  | bran m k kid => obtain ⟨b, _, _, rfl, _⟩ := h; exact nope _ (by simp [Nd.kind]) rfl (ta84_100 _)
  | leaf h' p =>
    clear nope
    obtain ⟨b, ka, kc, va, vc, rfl, _, hr, hk, hv⟩ := h
    obtain ⟨w1, hw1⟩ : ∃ w1, w1 = w.alloc (.cells #[.slice none 0 0, .slice none 0 0] 48) := ⟨_, rfl⟩
    have hsz : w1.heap.size = w.heap.size + 1 := by rw [hw1]; simp
    rw [← hw1] at r0 hb0
    have hr1 := (hb0.block b (Array.getElem?_eq_some_iff.1 hr).1).trans hr
    have c1 := row_cell (i := 1) hr1 rfl
    have c2 := row_cell (i := 2) hr1 rfl
    have h1 := ta84_84 (.pointer (some ⟨b, 0, none⟩))
    have own := owned_any kc vc (hk.below hb0).bts (hv.below hb0).bts (by have := ho.2; omega)
    simp only [Nd.pr]
    obtain ⟨n1, hn1⟩ : ∃ k, k = p.1.length := ⟨_, rfl⟩
    obtain ⟨n2, hn2⟩ : ∃ k, k = p.2.length := ⟨_, rfl⟩
    rw [← hn1] at c1
    rw [← hn2] at c2
    simp only [← hn1, ← hn2] at own ⊢
    have OWN := Lib.hid own; clear own
    have R0 := Lib.hid r0; clear r0
    have HB0 := Lib.hid hb0; clear hb0
    have HW := Lib.hid hw1; clear hw1
    have HSZ := Lib.hid hsz; clear hsz
    clear hr hr1 hk hv ho hn1 hn2
    go_enter Tryz.func22, Tryz.ntmps22
    go_wp2_with (rw [← HW.out])
    refine OWN.out.mono ?_
    rintro e w2 ⟨g1, g2, rfl, k1, k2, hb⟩
    have r2 := (hb.block w.heap.size (by have := HSZ.out; omega)).trans R0.out
    obtain ⟨d0, d1, f0, f1⟩ := row2 r2
    have HS := Lib.hid (set2 r2 (.slice (some ⟨g1, 0, none⟩) n1 n1) (.slice (some ⟨g2, 0, none⟩) n2 n2))
    have HB2 := Lib.hid (below_set2 (w := w2) (g := w.heap.size) (.slice (some ⟨g1, 0, none⟩) n1 n1) (.slice (some ⟨g2, 0, none⟩) n2 n2) (Nat.le_refl _))
    have K1 := Lib.hid k1; clear k1
    have K2 := Lib.hid k2; clear k2
    have HB3 := Lib.hid hb; clear hb
    clear c1 c2 r2
    go_wp2_with fail
    refine bodyPost_ret (results_two rfl _ _ w.heap.size 48 _ (0, 0) _ _ rfl HS.out.1 rfl Tryz.underlying48 rfl (by kernel_rfl)) rfl ?_
    have hz := HSZ.out
    have a1 := K1.out.1
    have a2 := K2.out.1
    refine ⟨_, _, _, _, rfl, bts_row ((HS.out.2 g1 (by omega)).trans K1.out.2), bts_row ((HS.out.2 g2 (by omega)).trans K2.out.2), ?_⟩
    exact (below_then HB0.out HB3.out).trans HB2.out
end Go.Proofs.YtngfbkkfnooobaaGreatDoor
