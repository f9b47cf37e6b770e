/-
  The contract of awake: the document's example.
-/
import Derived.Test.YthkecgafdjpddaaSpans
import Derived.Test.YthkecgafdjpddaaFrom
import Derived.Lib.ConvBytes
namespace Go.Proofs.Ythkecgafdjpddaa
open Go.RowKit
set_option maxHeartbeats 4000000
set_option maxRecDepth 100000
theorem conv_const (w : World) (C : Array Value) (n c : Nat) : (convert 23 23 (.slice (some ⟨w.heap.size, 0, none⟩) n c)).run Try.prog (w.alloc (.cells C 5)) = .ok (.slice (some ⟨w.heap.size, 0, none⟩) n c) (w.alloc (.cells C 5 (C.size, C.size + 1))) :=
  Lib.run_convert_bytes_const (P := Try.prog) w 23 5 C n c Try.underlying23 Try.underlying5
theorem letter (w : World) (x : UInt8) : Bts (w.alloc (.cells #[.int .u8 (x.toNat : Int)] 5 (1, 2))) (some ⟨w.heap.size, 0, none⟩) [x] := by
  refine .inr ⟨_, 0, rfl, by simp, fun i hi => ?_⟩
  obtain rfl : i = 0 := by simp at hi; omega
  rw [cell_of_row _ _ _ _ 5 (1, 2) (heap_alloc_new w _)]
  rfl
def exL : List Pr := [([97], []), ([98], [118]), ([99], [])]
theorem exL_srt : srt exL := by unfold srt exL; decide
theorem exL_fits : ∀ x ∈ exL, x.1.length ≤ 100000 ∧ x.2.length ≤ 100000 := by
  intro x hx
  simp only [exL, List.mem_cons, List.not_mem_nil, or_false] at hx
  rcases hx with rfl | rfl | rfl <;> simp
theorem exL_cut : lts exL [98] = [([97], [])] ∧ gts exL [98] = [([99], [])] ∧ has exL [98] = true ∧ val exL [98] = [118] := by decide
theorem ex_pcs {w : World} {b a1 a2 a3 a4 : Nat} (h : w.heap[b]? = some (.cells #[.slice (some ⟨a1, 0, none⟩) 1 1, .slice none 0 0, .slice (some ⟨a2, 0, none⟩) 1 1, .slice (some ⟨a3, 0, none⟩) 1 1, .slice (some ⟨a4, 0, none⟩) 1 1, .slice none 0 0] 49 (0, 0))) (h1 : Bts w (some ⟨a1, 0, none⟩) [97]) (h2 : Bts w (some ⟨a2, 0, none⟩) [98]) (h3 : Bts w (some ⟨a3, 0, none⟩) [118]) (h4 : Bts w (some ⟨a4, 0, none⟩) [99]) : Pcs w (some ⟨b, 0, none⟩) exL := by
  refine .inr ⟨b, 0, rfl, (Array.getElem?_eq_some_iff.1 h).1, fun i hi => ?_⟩
  have hi : i < 3 := hi
  obtain rfl | rfl | rfl : i = 0 ∨ i = 1 ∨ i = 2 := by omega
  · refine ⟨_, 1, none, 0, ?_, ?_, h1, .inl rfl⟩
    · rw [cell_of_row w b _ _ 49 (0, 0) h]; rfl
    · rw [cell_of_row w b _ _ 49 (0, 0) h]; rfl
  · refine ⟨_, 1, _, 1, ?_, ?_, h2, h3⟩
    · rw [cell_of_row w b _ _ 49 (0, 0) h]; rfl
    · rw [cell_of_row w b _ _ 49 (0, 0) h]; rfl
  · refine ⟨_, 1, none, 0, ?_, ?_, h4, .inl rfl⟩
    · rw [cell_of_row w b _ _ 49 (0, 0) h]; rfl
    · rw [cell_of_row w b _ _ 49 (0, 0) h]; rfl
theorem one_node {t : Tr} {q : Pr} (h : t.list = [q]) : ∃ l r, t = .node l q r := by
  cases t with
  | nil => cases h
  | node l k r =>
    have h' : l.list ++ k :: r.list = [q] := h
    have hl := congrArg List.length h'
    simp only [List.length_append, List.length_cons, List.length_nil] at hl
    have e : l.list = [] := List.eq_nil_of_length_eq_zero (by omega)
    rw [e, List.nil_append] at h'
    injection h' with h1 _
    exact ⟨l, r, by rw [h1]⟩
theorem awake_any (w : World) : Calls Try.prog 8 #[] w fun e w' => e = .returned (.bool true) ∧ Below w.heap.size w w' := by
  have cc1 := conv_const w #[.int .u8 97] 1 1
  obtain ⟨w1, hw1⟩ : ∃ w1, w1 = w.alloc (.cells #[.int .u8 97] 5 (1, 2)) := ⟨_, rfl⟩
  have b1 : Below w.heap.size w w1 := by rw [hw1]; exact (Below.refl _ _).alloc (Nat.le_refl _) _
  have s1 : w1.heap.size = w.heap.size + 1 := by rw [hw1]; simp
  have l1 : Bts w1 (some ⟨w.heap.size, 0, none⟩) [97] := by rw [hw1]; exact letter w 97
  have cc2 := conv_const w1 #[.int .u8 98] 1 1
  obtain ⟨w2, hw2⟩ : ∃ w2, w2 = w1.alloc (.cells #[.int .u8 98] 5 (1, 2)) := ⟨_, rfl⟩
  have s2 : w2.heap.size = w.heap.size + 1 + 1 := by rw [hw2, ← s1]; simp
  have b2 : Below w1.heap.size w1 w2 := by rw [hw2]; exact (Below.refl _ _).alloc (Nat.le_refl _) _
  have l2 : Bts w2 (some ⟨w1.heap.size, 0, none⟩) [98] := by rw [hw2]; exact letter w1 98
  have cc3 := conv_const w2 #[.int .u8 118] 1 1
  obtain ⟨w3, hw3⟩ : ∃ w3, w3 = w2.alloc (.cells #[.int .u8 118] 5 (1, 2)) := ⟨_, rfl⟩
  have s3 : w3.heap.size = w.heap.size + 1 + 1 + 1 := by rw [hw3, ← s2]; simp
  have b3 : Below w2.heap.size w2 w3 := by rw [hw3]; exact (Below.refl _ _).alloc (Nat.le_refl _) _
  have l3 : Bts w3 (some ⟨w2.heap.size, 0, none⟩) [118] := by rw [hw3]; exact letter w2 118
  have cc4 := conv_const w3 #[.int .u8 99] 1 1
  obtain ⟨w4, hw4⟩ : ∃ w4, w4 = w3.alloc (.cells #[.int .u8 99] 5 (1, 2)) := ⟨_, rfl⟩
  have s4 : w4.heap.size = w.heap.size + 1 + 1 + 1 + 1 := by rw [hw4, ← s3]; simp
  have b4 : Below w3.heap.size w3 w4 := by rw [hw4]; exact (Below.refl _ _).alloc (Nat.le_refl _) _
  have l4 : Bts w4 (some ⟨w3.heap.size, 0, none⟩) [99] := by rw [hw4]; exact letter w3 99
  rw [s1] at l2 cc2
  rw [s2] at l3 cc3
  rw [s3] at l4 cc4
  obtain ⟨w5, hw5⟩ : ∃ w5, w5 = w4.alloc (.cells #[.slice (some ⟨w.heap.size, 0, none⟩) 1 1, .slice none 0 0, .slice (some ⟨w.heap.size + 1, 0, none⟩) 1 1, .slice (some ⟨w.heap.size + 1 + 1, 0, none⟩) 1 1, .slice (some ⟨w.heap.size + 1 + 1 + 1, 0, none⟩) 1 1, .slice none 0 0] 49) := ⟨_, rfl⟩
  have b5 : Below w4.heap.size w4 w5 := by rw [hw5]; exact (Below.refl _ _).alloc (Nat.le_refl _) _
  have hp : Pcs w5 (some ⟨w4.heap.size, 0, none⟩) exL := ex_pcs (by rw [hw5]; exact heap_alloc_new w4 _) ((((l1.below b2).below b3).below b4).below b5) (((l2.below b3).below b4).below b5) ((l3.below b4).below b5) (l4.below b5)
  have hfr := from_any (F := fun _ => True) (c := 3) (fun _ _ => trivial) hp (Nat.le_refl _) (by decide) exL_fits
  rw [show exL.length = 3 from rfl, s4] at hfr
  have HFR := Lib.hid hfr; clear hfr
  have HB := Lib.hid (below_then (below_then (below_then (below_then b1 b2) b3) b4) b5)
  rw [hw3, hw2, hw1] at cc4
  rw [hw2, hw1] at cc3
  rw [hw1] at cc2
  have HW1 := Lib.hid hw1
  have HW2 := Lib.hid hw2
  have HW3 := Lib.hid hw3
  have HW4 := Lib.hid hw4
  have HW5 := Lib.hid hw5
  clear b1 b2 b3 b4 b5 l1 l2 l3 l4 hp hw1 hw2 hw3 hw4 hw5 s1 s2 s3 s4
  go_enter Try.func8, Try.ntmps8
  go_wp2_with fail
  rw [← HW1.out, ← HW2.out, ← HW3.out, ← HW4.out, ← HW5.out]
  refine HFR.out.mono ?_
  rintro e w6 ⟨p, t, rfl, ht, hev, hli, hb6⟩
  have hat := fun W A (h : Below w6.heap.size w6 W) (hA : Bts W A [98]) => split_any 1 (fun _ _ => trivial) (Is.below ⟨t, ht, hev, hli⟩ h) ⟨exL_srt, by decide, exL_fits⟩ hA
  simp only [List.length_cons, List.length_nil, Nat.zero_add] at hat
  have HB6 := Lib.hid (below_then HB.out hb6)
  have cc5 := conv_const w6 #[.int .u8 98] 1 1
  obtain ⟨w7, hw7⟩ : ∃ w7, w7 = w6.alloc (.cells #[.int .u8 98] 5 (1, 2)) := ⟨_, rfl⟩
  have b7 : Below w6.heap.size w6 w7 := by rw [hw7]; exact (Below.refl _ _).alloc (Nat.le_refl _) _
  have F7 := Lib.hid (hat w7 _ b7 (by rw [hw7]; exact letter w6 98))
  have HW7 := Lib.hid hw7; clear hw7
  have B7 := Lib.hid (below_then HB6.out b7); clear b7
  clear ht hli hb6 hev hat HFR cc1 cc2 cc3 cc4 HW1 HW2 HW3 HW4 HW5 HB HB6
  go_wp2_with fail
  rw [← HW7.out]
  refine F7.out.mono ?_
  rintro e w8 ⟨pl, pr, va, vc, x, is, rfl, ⟨e1, e2, e3, l, r, hl, hr, _, _, ll, lr⟩, hb8⟩
  rw [exL_cut.2.2.2] at e1 e3
  rw [exL_cut.2.2.1] at e2
  rw [exL_cut.1] at ll
  rw [exL_cut.2.1] at lr
  replace e1 : x = 1 := e1
  subst e1 e2
  have z1 := size_any hl (by rw [← Tr.length, ll]; decide)
  have z2 := size_any hr (by rw [← Tr.length, lr]; decide)
  rw [← Tr.length, ll] at z1
  rw [← Tr.length, lr] at z2
  obtain ⟨l', r', rfl⟩ := one_node lr
  have hroot := root_any hr (by decide)
  have cv := conv_any e3 vc
  simp only [List.length_cons, List.length_nil, Nat.zero_add] at z1 z2 hroot cv
  have Z1 := Lib.hid z1; clear z1
  have Z2 := Lib.hid z2; clear z2
  have HR := Lib.hid hroot; clear hroot
  have B8 := Lib.hid (below_then B7.out hb8)
  clear e3 hl hr ll lr hb8 F7 HW7 B7 cc5
  go_wp2_with fail
  refine Z1.out.mono ?_
  rintro e w' ⟨rfl, rfl⟩
  go_wp2_with fail
  refine Z2.out.mono ?_
  rintro e w' ⟨rfl, rfl⟩
  go_wp2_with fail
  refine HR.out.mono ?_
  rintro e w9 ⟨g1, g2, rfl, h1, _, hb9⟩
  have hfd := run_key (.slice (some ⟨g1, 0, none⟩) 1 1) (.slice (some ⟨g2, 0, none⟩) 0 0)
  have ck := conv_any (bts_row h1.2) 1
  simp only [List.length_cons, List.length_nil, Nat.zero_add] at ck
  have B9 := Lib.hid (below_then B8.out hb9)
  clear h1 hb9 Z1 Z2 HR B8 cv
  go_wp2_with fail
  go_ret
  exact ⟨rfl, B9.out⟩
end Go.Proofs.Ythkecgafdjpddaa
