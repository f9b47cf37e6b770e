/-
  The contract of awake: the document's example; a tree's list.
-/
import Derived.Test.YtnniojlofhbioaaMinus
import Derived.Test.YtnniojlofhbioaaList
import Derived.Test.YtnniojlofhbioaaOne
namespace Go.Proofs.Ytnniojlofhbioaa
open Go.RowKit
set_option maxHeartbeats 4000000
set_option maxRecDepth 100000
/-- a list in memory, of just these pairs -/
def ListP (L : List Pr) (w : World) (e : Ending) (w' : World) : Prop := ∃ A c n, e = .returned (.slice A n c) ∧ n = L.length ∧ Pcs w' A L ∧ Below w.heap.size w w'
theorem list_is {F : Nat → Prop} {w : World} {L : List Pr} {p : Option Addr} (h : Is F w L p) (hn : L.length ≤ 800) (hf : Fits L) : Calls Try.prog 18 #[.pointer p] w (ListP L w) := by
  obtain ⟨t, h1, _, rfl⟩ := h
  refine (list_any h1 (by rw [← Tr.length]; exact hn) hf).mono ?_
  rintro e w' ⟨A, c, rfl, hfr, hb⟩
  exact ⟨A, c, _, rfl, rfl, hfr.pcs, hb⟩
abbrev ta : ByteArray := ⟨#[97]⟩
abbrev tb : ByteArray := ⟨#[98]⟩
abbrev tc : ByteArray := ⟨#[99]⟩
abbrev t1 : ByteArray := ⟨#[49]⟩
abbrev t2 : ByteArray := ⟨#[50]⟩
theorem box4 (w : World) (a b c d : Value) : ∃ w1, w1 = w.alloc (.cells #[a, b, c, d] 9) ∧ Below w.heap.size w w1 ∧ w.heap.size < w1.heap.size ∧ w1.cell? ⟨w.heap.size, 0, none⟩ = some a ∧ w1.cell? ⟨w.heap.size, 1, none⟩ = some b ∧ w1.cell? ⟨w.heap.size, 2, none⟩ = some c ∧ w1.cell? ⟨w.heap.size, 3, none⟩ = some d := by
  have r0 : (w.alloc (.cells #[a, b, c, d] 9)).heap[w.heap.size]? = some (.cells #[a, b, c, d] 9 (0, 0)) := heap_alloc_new w _
  refine ⟨_, rfl, (Below.refl _ _).alloc (Nat.le_refl _) _, by simp, ?_, ?_, ?_, ?_⟩
  · rw [cell_of_row _ _ _ _ 9 (0, 0) r0]; rfl
  · rw [cell_of_row _ _ _ _ 9 (0, 0) r0]; rfl
  · rw [cell_of_row _ _ _ _ 9 (0, 0) r0]; rfl
  · rw [cell_of_row _ _ _ _ 9 (0, 0) r0]; rfl
theorem ex_all : come (two ta t1 tb t1) = [([97], [49]), ([98], [49])] ∧ come (two tb t2 tc t2) = [([98], [50]), ([99], [50])] ∧ uni [([97], [49]), ([98], [49])] [([98], [50]), ([99], [50])] = [([97], [49]), ([98], [50]), ([99], [50])] := by decide
theorem ex_fit (a b c d : ByteArray) (ha : a.data.size ≤ 100000) (hb : b.data.size ≤ 100000) (hc : c.data.size ≤ 100000) (hd : d.data.size ≤ 100000) : ∀ x ∈ two a b c d, x.1.length ≤ 100000 ∧ x.2.length ≤ 100000 := by
  intro x hx
  simp only [two, List.mem_cons, List.not_mem_nil, or_false] at hx
  rcases hx with rfl | rfl
  · exact ⟨ha, hb⟩
  · exact ⟨hc, hd⟩
theorem awake_any (w : World) : Calls Try.prog 8 #[] w fun e w' => e = .returned (.bool true) ∧ Below w.heap.size w w' := by
  obtain ⟨w1, hw1, b1, z1, a0, a1, a2, a3⟩ := box4 w (.string ta) (.string t1) (.string tb) (.string t1)
  have h1 := one_any z1 a0 a1 a2 a3 (ex_fit ta t1 tb t1 (by decide) (by decide) (by decide) (by decide))
  rw [ex_all.1] at h1
  have HW1 := Lib.hid hw1; clear hw1
  have H1 := Lib.hid h1; clear h1
  have B1 := Lib.hid b1; clear b1
  clear z1 a0 a1 a2 a3
  go_enter Try.func8, Try.ntmps8
  go_wp2_with (rw [← HW1.out])
  refine H1.out.mono ?_
  rintro e w2 ⟨pA, rfl, hA, b2⟩
  obtain ⟨w3, hw3, b3, z3, c0, c1, c2, c3⟩ := box4 w2 (.string tb) (.string t2) (.string tc) (.string t2)
  have h3 := one_any z3 c0 c1 c2 c3 (ex_fit tb t2 tc t2 (by decide) (by decide) (by decide) (by decide))
  rw [ex_all.2.1] at h3
  have HW3 := Lib.hid hw3; clear hw3
  have H3 := Lib.hid h3; clear h3
  have B3 := Lib.hid (below_then (below_then B1.out b2) b3)
  have HA := Lib.hid (hA.below b3)
  clear z3 c0 c1 c2 c3 hA b2 b3 H1 HW1 B1
  go_wp2_with (rw [← HW3.out])
  refine H3.out.mono ?_
  rintro e w4 ⟨pB, rfl, hB, b4⟩
  have hu := union_is (fut w4) (HA.out.below b4) hB ⟨by unfold srt; decide, by decide, by decide⟩ ⟨by unfold srt; decide, by decide, by decide⟩ (by decide)
  rw [ex_all.2.2] at hu
  have HU := Lib.hid hu; clear hu
  have B4 := Lib.hid (below_then B3.out b4); clear b4
  clear hB HA H3 HW3 B3
  go_wp2_with fail
  refine HU.out.mono ?_
  rintro e w5 ⟨p, rfl, hp, b5⟩
  have hl := list_is hp (by decide) (by unfold Fits; decide)
  have HL := Lib.hid hl; clear hl
  have B5 := Lib.hid (below_then B4.out b5); clear b5
  clear hp HU B4
  go_wp2_with fail
  refine HL.out.mono ?_
  rintro e w6 ⟨A, c, n, rfl, en, hpc, b6⟩
  replace en : n = 3 := en
  subst en
  have B6 := Lib.hid (below_then B5.out b6); clear b6
  obtain ⟨b, off, ka, kc, va, vc, rfl, hbl, d0, d1, d2, d3⟩ := hpc.at (j := 0) (by decide)
  obtain ⟨b', off', ka', kc', va', vc', e', _, f0, f1, f2, f3⟩ := hpc.at (j := 1) (by decide)
  obtain ⟨b'', off'', ka'', kc'', va'', vc'', e'', _, g0, g1, g2, g3⟩ := hpc.at (j := 2) (by decide)
  obtain ⟨rfl, rfl⟩ : b' = b ∧ off' = off := by injection e' with e'; injection e' with e1 e2; exact ⟨e1.symm, e2.symm⟩
  obtain ⟨rfl, rfl⟩ : b'' = b' ∧ off'' = off' := by injection e'' with e''; injection e'' with e1 e2; exact ⟨e1.symm, e2.symm⟩
  have cv0 := conv_any d3 vc
  have cv1 := conv_any f3 vc'
  have cv2 := conv_any g2 kc''
  clear d0 d2 d3 f0 f2 f3 g1 g2 g3 e' e'' hpc HL B5
  simp only [List.getElem_cons_zero, List.getElem_cons_succ, List.length_cons, List.length_nil, Nat.zero_add] at d1 f1 g0 cv0 cv1 cv2
  go_wp2_with fail
  go_ret
  exact ⟨rfl, B6.out⟩
end Go.Proofs.Ytnniojlofhbioaa
