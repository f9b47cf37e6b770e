/-
  The contract of awake: the document's example.
-/
import Derived.Test.YtkcfanckkomdbaaGoes
import Derived.Test.YtkcfanckkomdbaaFrom
import Derived.Lib.ConvBytes
namespace Go.Proofs.Ytkcfanckkomdbaa
open Go.RowKit
set_option maxHeartbeats 4000000
set_option maxRecDepth 100000
theorem conv_const (w : World) (C : Array Value) (n c : Nat) : (convert 33 33 (.slice (some ⟨w.heap.size, 0, none⟩) n c)).run Try.prog (w.alloc (.cells C 5)) = .ok (.slice (some ⟨w.heap.size, 0, none⟩) n c) (w.alloc (.cells C 5 (C.size, C.size + 1))) :=
  Lib.run_convert_bytes_const (P := Try.prog) w 33 5 C n c Try.underlying33 Try.underlying5
theorem letter (w : World) (x : UInt8) : Bts (w.alloc (.cells #[.int .u8 (x.toNat : Int)] 5 (1, 2))) (some ⟨w.heap.size, 0, none⟩) [x] := by
  refine .inr ⟨_, 0, rfl, by simp, fun i hi => ?_⟩
  obtain rfl : i = 0 := by simp at hi; omega
  rw [cell_of_row _ _ _ _ 5 (1, 2) (heap_alloc_new w _)]
  rfl
def exL : List Pr := [([97], []), ([98], [])]
theorem exL_srt : srt exL := by unfold srt exL; decide
theorem exL_fits : ∀ x ∈ exL, x.1.length ≤ 100000 ∧ x.2.length ≤ 100000 := by
  intro x hx
  simp only [exL, List.mem_cons, List.not_mem_nil, or_false] at hx
  rcases hx with rfl | rfl <;> simp
theorem ex_pcs {w : World} {b a1 a2 : Nat} (h : w.heap[b]? = some (.cells #[.slice (some ⟨a1, 0, none⟩) 1 1, .slice none 0 0, .slice (some ⟨a2, 0, none⟩) 1 1, .slice none 0 0] 37 (0, 0))) (h1 : Bts w (some ⟨a1, 0, none⟩) [97]) (h2 : Bts w (some ⟨a2, 0, none⟩) [98]) : Pcs w (some ⟨b, 0, none⟩) exL := by
  refine .inr ⟨b, 0, rfl, (Array.getElem?_eq_some_iff.1 h).1, fun i hi => ?_⟩
  have hi : i < 2 := hi
  obtain rfl | rfl : i = 0 ∨ i = 1 := by omega
  · refine ⟨_, 1, none, 0, ?_, ?_, h1, .inl rfl⟩
    · rw [cell_of_row w b _ _ 37 (0, 0) h]; rfl
    · rw [cell_of_row w b _ _ 37 (0, 0) h]; rfl
  · refine ⟨_, 1, none, 0, ?_, ?_, h2, .inl rfl⟩
    · rw [cell_of_row w b _ _ 37 (0, 0) h]; rfl
    · rw [cell_of_row w b _ _ 37 (0, 0) h]; rfl
theorem awake_any (w : World) : Calls Try.prog 8 #[] w fun e w' => e = .returned (.bool true) ∧ Below w.heap.size w w' := by
  have cc1 := conv_const w #[.int .u8 97] 1 1
  obtain ⟨w1, hw1⟩ : ∃ w1, w1 = w.alloc (.cells #[.int .u8 97] 5 (1, 2)) := ⟨_, rfl⟩
  have b1 : Below w.heap.size w w1 := by rw [hw1]; exact (Below.refl _ _).alloc (Nat.le_refl _) _
  have s1 : w1.heap.size = w.heap.size + 1 := by rw [hw1]; simp
  have l1 : Bts w1 (some ⟨w.heap.size, 0, none⟩) [97] := by rw [hw1]; exact letter w 97
  have cc2 := conv_const w1 #[.int .u8 98] 1 1
  obtain ⟨w2, hw2⟩ : ∃ w2, w2 = w1.alloc (.cells #[.int .u8 98] 5 (1, 2)) := ⟨_, rfl⟩
  have s2 : w2.heap.size = w.heap.size + 1 + 1 := by rw [hw2, ← s1]; simp
  have b2 : Below w1.heap.size w1 w2 := by rw [hw2]; exact (Below.refl _ _).alloc (Nat.le_refl _) _
  have l2 : Bts w2 (some ⟨w1.heap.size, 0, none⟩) [98] := by rw [hw2]; exact letter w1 98
  rw [s1] at l2 cc2
  obtain ⟨w3, hw3⟩ : ∃ w3, w3 = w2.alloc (.cells #[.slice (some ⟨w.heap.size, 0, none⟩) 1 1, .slice none 0 0, .slice (some ⟨w.heap.size + 1, 0, none⟩) 1 1, .slice none 0 0] 37) := ⟨_, rfl⟩
  have b3 : Below w2.heap.size w2 w3 := by rw [hw3]; exact (Below.refl _ _).alloc (Nat.le_refl _) _
  have hp : Pcs w3 (some ⟨w2.heap.size, 0, none⟩) exL := ex_pcs (by rw [hw3]; exact heap_alloc_new w2 _) ((l1.below b2).below b3) (l2.below b3)
  have hfr := from_any (F := fun _ => True) (c := 2) (fun _ _ => trivial) hp (Nat.le_refl _) (by decide) exL_fits
  rw [show exL.length = 2 from rfl, s2] at hfr
  have HFR := Lib.hid hfr; clear hfr
  have HB := Lib.hid (below_then (below_then b1 b2) b3)
  rw [hw1] at cc2
  have cc2' := cc2
  have HW1 := Lib.hid hw1
  have HW2 := Lib.hid hw2
  have HW3 := Lib.hid hw3
  clear b1 b2 b3 l1 l2 hp hw1 hw2 hw3 s1 s2 cc2'
  go_enter Try.func8, Try.ntmps8
  go_wp2_with fail
  rw [← HW1.out, ← HW2.out, ← HW3.out]
  refine HFR.out.mono ?_
  rintro e w4 ⟨p, t, rfl, ht, hev, hli, hb4⟩
  have hW : Wood w4 p exL := ⟨⟨t, ht, hev, hli⟩, by decide, exL_fits, exL_srt⟩
  have HAT := Lib.hid (hW.cursor (k := 0) 0 (by omega) (by omega) rfl)
  have HB4 := Lib.hid (below_then HB.out hb4)
  clear ht hev hli hb4 hW HFR HW1 HW2 HW3 HB cc1 cc2
  go_wp2_with fail
  refine HAT.out.mono ?_
  rintro e w5 ⟨g, rfl, hg, hG, hb5⟩
  have N5 := Lib.hid (hG.next (o := some ([97], [])) (k' := 1) rfl rfl)
  have HB5 := Lib.hid (And.intro hg (And.intro HB4.out hb5))
  have HG := Lib.hid hG.cur
  clear hG hb5 hg HAT HB4
  go_wp2_with fail
  refine N5.out.mono ?_
  rintro e w6 ⟨⟨ka, kc, va, vc, x1, x2, is, rfl, rfl, rfl, rfl, hK, _⟩, hG6, hO6⟩
  simp only [od, Option.getD_some, List.length_cons, List.length_nil, Nat.zero_add, Option.isSome_some] at hK ⊢
  obtain ⟨w7, hw7, hb7, hX7⟩ := box_var w6 ka 1 kc va 0 vc
  have N7 := Lib.hid ((hG6.below hb7).next (o := some ([98], [])) (k' := 2) rfl rfl)
  have C7 := Lib.hid (hG6.below hb7).cur
  have HK := Lib.hid (hK.below hb7); clear hK
  have HX := Lib.hid hX7; clear hX7
  have HW7 := Lib.hid hw7; clear hw7
  have HO := Lib.hid (hO6.trans (Only.of hb7)); clear hO6
  obtain ⟨bx, hbx⟩ : ∃ b, b = w6.heap.size := ⟨_, rfl⟩
  rw [← hbx] at HX
  have HBX := Lib.hid hbx; clear hbx
  clear hG6 hb7 N5 HG
  go_wp2_with (rw [← HW7.out])
  rw [← HBX.out]
  refine N7.out.mono ?_
  rintro e w8 ⟨⟨_, _, _, _, _, _, _, rfl, _⟩, hG8, hO8⟩
  have N8 := Lib.hid (hG8.next (o := none) (k' := 2) rfl rfl)
  have C8 := Lib.hid hG8.cur
  replace HK := Lib.hid (HK.out.curs C7.out hO8)
  replace HX := Lib.hid (HX.out.curs C7.out hO8)
  replace HO := Lib.hid (HO.out.trans hO8)
  clear hG8 hO8 N7 C7 HW7 HBX
  go_wp2_with fail
  refine N8.out.mono ?_
  rintro e w9 ⟨⟨ka2, kc2, va2, vc2, x1, x2, is, rfl, rfl, rfl, rfl, _, _⟩, hG9, hO9⟩
  simp only [od, Option.getD_none, List.length_nil, Option.isSome_none]
  obtain ⟨w10, hw10, hb10, hX10⟩ := box_var w9 ka2 0 kc2 va2 0 vc2
  have N10 := Lib.hid ((hG9.below hb10).back (o := some ([98], [])) (k' := 1) rfl rfl)
  have C10 := Lib.hid (hG9.below hb10).cur
  replace HK := Lib.hid ((HK.out.curs C8.out hO9).below hb10)
  replace HX := Lib.hid ((HX.out.curs C8.out hO9).below hb10)
  replace HO := Lib.hid ((HO.out.trans hO9).trans (Only.of hb10))
  have HW10 := Lib.hid hw10; clear hw10
  clear hG9 hO9 hb10 hX10 N8 C8
  go_wp2_with (rw [← HW10.out])
  refine N10.out.mono ?_
  rintro e w11 ⟨⟨ka3, kc3, va3, vc3, x1, x2, is, rfl, rfl, rfl, rfl, hK3, _⟩, hG11, hO11⟩
  simp only [od, Option.getD_some, List.length_cons, List.length_nil, Nat.zero_add, Option.isSome_some] at hK3 ⊢
  obtain ⟨w12, hw12, hb12, hX12⟩ := box_var w11 ka3 1 kc3 va3 0 vc3
  have P12 := Lib.hid (hG11.below hb12).place
  have hKa := (HK.out.curs C10.out hO11).below hb12
  have hXa := (HX.out.curs C10.out hO11).below hb12
  replace HO := Lib.hid ((HO.out.trans hO11).trans (Only.of hb12))
  have HW12 := Lib.hid hw12; clear hw12
  have c1 := conv_any hKa kc
  have c2 := conv_any (hK3.below hb12) kc3
  obtain ⟨d0, d1⟩ := hXa.cells
  obtain ⟨e0, e1⟩ := hX12.cells
  obtain ⟨by_, hby⟩ : ∃ b, b = w11.heap.size := ⟨_, rfl⟩
  rw [← hby] at e0 e1
  have HBY := Lib.hid hby; clear hby
  simp only [List.length_cons, List.length_nil, Nat.zero_add] at c1 c2
  clear hKa hXa hG11 hO11 hb12 hX12 hK3 N10 C10 HW10 HK HX
  go_wp2_with (rw [← HW12.out, ← HBY.out])
  refine P12.out.mono ?_
  rintro e w' ⟨rfl, rfl⟩
  go_wp2_with fail
  go_ret
  obtain ⟨q1, q2, q3⟩ := HB5.out
  exact ⟨rfl, (below_then q2 q3).trans (HO.out.below (Nat.le_trans q2.size q3.size) (by rw [q1]; exact q2.size))⟩
end Go.Proofs.Ytkcfanckkomdbaa
