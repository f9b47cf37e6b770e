/-
  The contract of awake: the document's example.
-/
import Derived.Test.YtdjbcminppomdaaAround
import Derived.Test.YtdjbcminppomdaaFrom
import Derived.Lib.ConvBytes
namespace Go.Proofs.Ytdjbcminppomdaa
open Go.RowKit
set_option maxHeartbeats 4000000
set_option maxRecDepth 100000
theorem conv_const (w : World) (C : Array Value) (n c : Nat) : (convert 23 23 (.slice (some ⟨w.heap.size, 0, none⟩) n c)).run Try.prog (w.alloc (.cells C 5)) = .ok (.slice (some ⟨w.heap.size, 0, none⟩) n c) (w.alloc (.cells C 5 (C.size, C.size + 1))) :=
  Lib.run_convert_bytes_const (P := Try.prog) w 23 5 C n c Try.underlying23 Try.underlying5
theorem letter (w : World) (x : UInt8) : Bts (w.alloc (.cells #[.int .u8 (x.toNat : Int)] 5 (1, 2))) (some ⟨w.heap.size, 0, none⟩) [x] := by
  refine .inr ⟨_, 0, rfl, by simp, fun i hi => ?_⟩
  obtain rfl : i = 0 := by simp at hi; omega
  rw [cell_of_row _ _ _ _ 5 (1, 2) (heap_alloc_new w _)]
  rfl
def exL : List Pr := [([97], []), ([99], [])]
theorem exL_srt : srt exL := by unfold srt exL; decide
theorem exL_up : upTo exL [98] = 1 := by decide
theorem exL_rank : rank exL [98] = 1 := by decide
theorem exL_fits : ∀ x ∈ exL, x.1.length ≤ 100000 ∧ x.2.length ≤ 100000 := by
  intro x hx
  simp only [exL, List.mem_cons, List.not_mem_nil, or_false] at hx
  rcases hx with rfl | rfl <;> simp
theorem ex_pcs {w : World} {b a1 a2 : Nat} (h : w.heap[b]? = some (.cells #[.slice (some ⟨a1, 0, none⟩) 1 1, .slice none 0 0, .slice (some ⟨a2, 0, none⟩) 1 1, .slice none 0 0] 31 (0, 0))) (h1 : Bts w (some ⟨a1, 0, none⟩) [97]) (h2 : Bts w (some ⟨a2, 0, none⟩) [99]) : Pcs w (some ⟨b, 0, none⟩) exL := by
  refine .inr ⟨b, 0, rfl, (Array.getElem?_eq_some_iff.1 h).1, fun i hi => ?_⟩
  have hi : i < 2 := hi
  obtain rfl | rfl : i = 0 ∨ i = 1 := by omega
  · refine ⟨_, 1, none, 0, ?_, ?_, h1, .inl rfl⟩
    · rw [cell_of_row w b _ _ 31 (0, 0) h]; rfl
    · rw [cell_of_row w b _ _ 31 (0, 0) h]; rfl
  · refine ⟨_, 1, none, 0, ?_, ?_, h2, .inl rfl⟩
    · rw [cell_of_row w b _ _ 31 (0, 0) h]; rfl
    · rw [cell_of_row w b _ _ 31 (0, 0) h]; rfl
theorem awake_any (w : World) : Calls Try.prog 8 #[] w fun e w' => e = .returned (.bool true) ∧ Below w.heap.size w w' := by
  have cc1 := conv_const w #[.int .u8 97] 1 1
  obtain ⟨w1, hw1⟩ : ∃ w1, w1 = w.alloc (.cells #[.int .u8 97] 5 (1, 2)) := ⟨_, rfl⟩
  have b1 : Below w.heap.size w w1 := by rw [hw1]; exact (Below.refl _ _).alloc (Nat.le_refl _) _
  have s1 : w1.heap.size = w.heap.size + 1 := by rw [hw1]; simp
  have l1 : Bts w1 (some ⟨w.heap.size, 0, none⟩) [97] := by rw [hw1]; exact letter w 97
  have cc2 := conv_const w1 #[.int .u8 99] 1 1
  obtain ⟨w2, hw2⟩ : ∃ w2, w2 = w1.alloc (.cells #[.int .u8 99] 5 (1, 2)) := ⟨_, rfl⟩
  have s2 : w2.heap.size = w.heap.size + 1 + 1 := by rw [hw2, ← s1]; simp
  have b2 : Below w1.heap.size w1 w2 := by rw [hw2]; exact (Below.refl _ _).alloc (Nat.le_refl _) _
  have l2 : Bts w2 (some ⟨w1.heap.size, 0, none⟩) [99] := by rw [hw2]; exact letter w1 99
  rw [s1] at l2 cc2
  obtain ⟨w3, hw3⟩ : ∃ w3, w3 = w2.alloc (.cells #[.slice (some ⟨w.heap.size, 0, none⟩) 1 1, .slice none 0 0, .slice (some ⟨w.heap.size + 1, 0, none⟩) 1 1, .slice none 0 0] 31) := ⟨_, rfl⟩
  have b3 : Below w2.heap.size w2 w3 := by rw [hw3]; exact (Below.refl _ _).alloc (Nat.le_refl _) _
  have hp : Pcs w3 (some ⟨w2.heap.size, 0, none⟩) exL := ex_pcs (by rw [hw3]; exact heap_alloc_new w2 _) ((l1.below b2).below b3) (l2.below b3)
  have hfr := from_any (F := fun _ => True) (c := 2) (fun _ _ => trivial) hp (Nat.le_refl _) (by decide) exL_fits
  rw [show exL.length = 2 from rfl, s2] at hfr
  have HFR := Lib.hid hfr; clear hfr
  have HB := Lib.hid (below_then (below_then b1 b2) b3)
  rw [hw1] at cc2
  have cc2' := cc2
  have HW1 := Lib.hid hw1
  have HW2 := Lib.hid hw2
  have HW3 := Lib.hid hw3
  clear b1 b2 b3 l1 l2 hp hw1 hw2 hw3 s1 s2 cc2'
  go_enter Try.func8, Try.ntmps8
  go_wp2_with fail
  rw [← HW1.out, ← HW2.out, ← HW3.out]
  refine HFR.out.mono ?_
  rintro e w4 ⟨p, t, rfl, ht, _, hli, hb4⟩
  have hsz : t.size = 2 := by rw [← Tr.length, hli]; rfl
  have hall : ∀ W, Below w4.heap.size w4 W → Tre (fun _ => True) W t p := fun W h => ht.below h
  have hsr : srt t.list := by rw [hli]; exact exL_srt
  have hfi : ∀ x ∈ t.list, x.1.length ≤ 100000 ∧ x.2.length ≤ 100000 := by rw [hli]; exact exL_fits
  have fl := fun W A (h : Below w4.heap.size w4 W) (hA : Bts W A [98]) => floor_any 1 (hall W h) (by omega) hfi hsr hA
  have ce := fun W A (h : Below w4.heap.size w4 W) (hA : Bts W A [98]) => ceil_any 1 (hall W h) (by omega) hfi hsr hA
  have rk := fun W A (h : Below w4.heap.size w4 W) (hA : Bts W A [98]) => rank_any 1 (hall W h) hsr (by omega) hfi hA
  rw [hli] at fl ce rk
  rw [exL_up, show nth exL (((1 : Nat) : Int) - 1) = some ([97], []) from rfl] at fl
  rw [exL_rank] at ce rk
  rw [show nth exL ((1 : Nat) : Int) = some ([99], []) from rfl] at ce
  simp only [List.length_cons, List.length_nil, Nat.zero_add] at fl ce rk
  have HFL := Lib.hid fl; clear fl
  have HCE := Lib.hid ce; clear ce
  have HRK := Lib.hid rk; clear rk
  have HB4 := Lib.hid (below_then HB.out hb4)
  have cc3 := conv_const w4 #[.int .u8 98] 1 1
  obtain ⟨w5, hw5⟩ : ∃ w5, w5 = w4.alloc (.cells #[.int .u8 98] 5 (1, 2)) := ⟨_, rfl⟩
  have b5 : Below w4.heap.size w4 w5 := by rw [hw5]; exact (Below.refl _ _).alloc (Nat.le_refl _) _
  have F5 := Lib.hid (HFL.out w5 _ b5 (by rw [hw5]; exact letter w4 98))
  have HW5 := Lib.hid hw5; clear hw5
  have B5 := Lib.hid b5; clear b5
  clear ht hli hb4 hall hsr hfi hsz HFR HFL cc1 cc2 HW1 HW2 HW3 HB
  go_wp2_with fail
  rw [← HW5.out]
  refine F5.out.mono ?_
  rintro e w6 ⟨⟨ka, kc, va, vc, rfl, h1, h2⟩, hb6⟩
  simp only [od, Option.getD_some, List.length_cons, List.length_nil, Nat.zero_add, Option.isSome_some] at h1 h2 ⊢
  obtain ⟨w7, hw7, b7, z7, k7⟩ := box_pair w6 ka va 1 kc 0 vc
  have cc4 := conv_const w7 #[.int .u8 98] 1 1
  rw [z7] at cc4
  obtain ⟨w8, hw8⟩ : ∃ w8, w8 = w7.alloc (.cells #[.int .u8 98] 5 (1, 2)) := ⟨_, rfl⟩
  have b8 : Below w7.heap.size w7 w8 := by rw [hw8]; exact (Below.refl _ _).alloc (Nat.le_refl _) _
  have b48 := below_then (below_then B5.out hb6) (below_then b7 b8)
  have C8 := HCE.out w8 (some ⟨w7.heap.size, 0, none⟩) b48 (by rw [hw8]; exact letter w7 98)
  rw [z7] at C8
  rw [hw7] at cc4
  have HC8 := Lib.hid C8; clear C8
  have HW7 := Lib.hid hw7; clear hw7
  have HW8 := Lib.hid hw8; clear hw8
  have B48 := Lib.hid b48; clear b48
  have H1 := Lib.hid (fun W (h : Below w8.heap.size w8 W) => ((h1.below b7).below b8).below h); clear h1
  have K7 := Lib.hid (fun W (h : Below w8.heap.size w8 W) => k7 W (below_then b8 h)); clear k7
  clear h2 hb6 b7 b8 z7 F5 HW5 B5 HCE cc3
  go_wp2_with fail
  rw [← HW7.out, ← HW8.out]
  refine HC8.out.mono ?_
  rintro e w9 ⟨⟨ja, jc, ua, uc, rfl, h1, h2⟩, hb9⟩
  simp only [od, Option.getD_some, List.length_cons, List.length_nil, Nat.zero_add, Option.isSome_some] at h1 h2 ⊢
  obtain ⟨w10, hw10, b10, z10, k10⟩ := box_pair w9 ja ua 1 jc 0 uc
  have cc5 := conv_const w10 #[.int .u8 98] 1 1
  rw [z10] at cc5
  obtain ⟨w11, hw11⟩ : ∃ w11, w11 = w10.alloc (.cells #[.int .u8 98] 5 (1, 2)) := ⟨_, rfl⟩
  have b11 : Below w10.heap.size w10 w11 := by rw [hw11]; exact (Below.refl _ _).alloc (Nat.le_refl _) _
  have b811 := below_then hb9 (below_then b10 b11)
  have C11 := HRK.out w11 (some ⟨w10.heap.size, 0, none⟩) (below_then B48.out b811) (by rw [hw11]; exact letter w10 98)
  rw [z10] at C11
  rw [hw10] at cc5
  have HC11 := Lib.hid C11; clear C11
  have HW10 := Lib.hid hw10; clear hw10
  have HW11 := Lib.hid hw11; clear hw11
  have HA := Lib.hid (fun W (h : Below w11.heap.size w11 W) => conv_any (H1.out W (below_then b811 h)) kc)
  have HC := Lib.hid (fun W (h : Below w11.heap.size w11 W) => conv_any (((h1.below b10).below b11).below h) jc)
  have KA := Lib.hid (fun W (h : Below w11.heap.size w11 W) => K7.out W (below_then b811 h))
  have KC := Lib.hid (fun W (h : Below w11.heap.size w11 W) => k10 W (below_then b11 h)); clear k10
  have B11 := Lib.hid (below_then (below_then HB4.out B48.out) b811)
  clear h1 h2 hb9 b10 b11 z10 b811 HC8 HW7 HW8 B48 HRK cc4 H1 K7 HB4
  go_wp2_with fail
  rw [← HW10.out, ← HW11.out]
  refine HC11.out.mono ?_
  rintro e w12 ⟨rfl, hb12⟩
  have c1 := HA.out w12 hb12
  have c2 := HC.out w12 hb12
  obtain ⟨d0, d1⟩ := KA.out w12 hb12
  obtain ⟨f0, f1⟩ := KC.out w12 hb12
  simp only [List.length_cons, List.length_nil, Nat.zero_add] at c1 c2
  have HB12 := Lib.hid (below_then B11.out hb12)
  clear hb12 HA HC KA KC B11 HC11 HW10 HW11 cc5
  go_wp2_with fail
  go_ret
  exact ⟨rfl, HB12.out⟩
end Go.Proofs.Ytdjbcminppomdaa
