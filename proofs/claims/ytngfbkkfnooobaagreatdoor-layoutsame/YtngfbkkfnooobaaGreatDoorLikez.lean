/-
  Contract of the law's Same of layer 16: is a node just what the document has? Nodes of unlike kinds, leaves, buckets.
-/
import Derived.Test.YtngfbkkfnooobaaGreatDoorSames
import Derived.Test.YtngfbkkfnooobaaGreatDoorDown
import Derived.Laws.StructEq
namespace Go.Proofs.YtngfbkkfnooobaaGreatDoor
open Go.RowKit
set_option maxHeartbeats 8000000
set_option maxRecDepth 100000
/-- is a node just what the document has? -/
def Nd.like : Nd → Nd → Bool
  | .none, .none => true
  | .leaf h p, .leaf h' p' => decide (h = h') && (decide (p.1 = p'.1) && decide (p.2 = p'.2))
  | .buck h L, .buck h' L' => decide (h = h') && decide (L = L')
  | .bran m _ kid, .bran m' k' kid' => decide (m = m') && allTo (fun i => (kid i).like (kid' i)) k'
  | _, _ => false
theorem like_kinds {y x : Nd} (h : ¬ y.kind = x.kind) : y.like x = false := by
  cases y <;> cases x <;> first | rfl | exact absurd rfl h
def Likes (w : World) (y x : Nd) (v : Value) (r : RN) : Prop := Calls Tryz.prog 11 #[v, RN.agg r x] w fun e w' => e = .returned (.bool (y.like x)) ∧ Below w.heap.size w w'
theorem off_none {F : Nat → Prop} {w : World} {v : Value} (hn : Nde F w .none v) (ho : Nd.ok .none) (xk xh np ns nk : Nat) (pa sa ka : Option Addr) (pc sc kc : Nat) (hk : xk ≠ 0) :
    Calls Tryz.prog 11 #[v, .agg #[.int .i64 (xk : Int), .int .u64 (xh : Int), .slice pa np pc, .slice sa ns sc, .slice ka nk kc]] w fun e w' => e = .returned (.bool false) ∧ Below w.heap.size w w' := by
  have hh : ∀ W, Below w.heap.size w W → Calls Tryz.prog 21 #[v] W fun e w' => e = .returned (.tuple #[.int .u64 0, .bool false]) ∧ W = w' := fun W hW => hash_any (hn.below hW)
  have hp : ∀ W, Below w.heap.size w W → Calls Tryz.prog 22 #[v] W fun e w' => ∃ A B c d, e = .returned (.tuple #[.agg #[.slice A 0 c, .slice B 0 d], .bool false]) ∧ Bts w' A [] ∧ Bts w' B [] ∧ Below W.heap.size W w' := fun W hW => pair_any (hn.below hW) ho
  have htr : ∀ W, Below w.heap.size w W → Calls Tryz.prog 23 #[v] W fun e w' => (∃ p, e = .returned (.tuple #[.pointer p, .bool false]) ∧ p = none) ∧ W = w' := fun W hW => (tree_any (hn.below hW)).mono fun e w' ⟨⟨p, h1, h2⟩, h3⟩ => ⟨⟨p, h1, by
    rcases h2 with ⟨k1, k2⟩ | ⟨t, k1, k2, k3, k4⟩
    · first | exact k2 | exact absurd rfl k1
    · first | exact ⟨t, k1, k2, k3⟩ | cases k4⟩, h3⟩
  have hmp : ∀ W, Below w.heap.size w W → Calls Tryz.prog 24 #[v] W fun e w' => e = .returned (.tuple #[.int .u32 0, .bool false]) ∧ W = w' := fun W hW => map_any (hn.below hW)
  obtain ⟨gb, hgb⟩ : ∃ gb, gb = w.heap.size := ⟨_, rfl⟩
  obtain ⟨w1, hw1⟩ : ∃ w1, w1 = w.alloc (.cells #[.int .i64 (xk : Int), .int .u64 (xh : Int), .slice pa np pc, .slice sa ns sc, .slice ka nk kc] 33) := ⟨_, rfl⟩
  have hb1 : Below w.heap.size w w1 := by rw [hw1]; exact (Below.refl _ _).alloc (Nat.le_refl _) _
  have hs1 : w1.heap.size = gb + 1 := by rw [hw1, hgb]; simp
  have r1 : w1.heap[gb]? = some (.cells #[.int .i64 (xk : Int), .int .u64 (xh : Int), .slice pa np pc, .slice sa ns sc, .slice ka nk kc] 33 (0, 0)) := by rw [hw1, hgb]; exact heap_alloc_new w _
  have hrow : ∀ W, Below w1.heap.size w1 W → W.cell? ⟨gb, 0, none⟩ = some (.int .i64 (xk : Int)) ∧ W.cell? ⟨gb, 1, none⟩ = some (.int .u64 (xh : Int)) ∧ W.cell? ⟨gb, 2, none⟩ = some (.slice pa np pc) ∧ W.cell? ⟨gb, 3, none⟩ = some (.slice sa ns sc) ∧ W.cell? ⟨gb, 4, none⟩ = some (.slice ka nk kc) := fun W hW => (row5 ((hW.block gb (by omega)).trans r1)).1
  have HH := Lib.hid hh; clear hh
  have HP := Lib.hid hp; clear hp
  have HT := Lib.hid htr; clear htr
  have HM := Lib.hid hmp; clear hmp
  have HR := Lib.hid hrow; clear hrow
  have HB1 := Lib.hid hb1; clear hb1
  have HW := Lib.hid hw1; clear hw1
  have HS1 := Lib.hid hs1; clear hs1
  have HGB := Lib.hid hgb; clear hgb
  clear r1
  obtain rfl : v = .nilIface := hn
  have e1 := eq_none
  have e2 := eq58_none
  clear ho
  have t0 : ((xk : Int) == 0) = false := by simp; omega
  clear hk
  go_enter Tryz.func11, Tryz.ntmps11
  go_wp2_with fail
  simp only [← HGB.out] at HW ⊢
  rw [← HW.out]
  refine (HH.out w1 HB1.out).mono ?_
  rintro e w' ⟨rfl, rfl⟩
  go_wp2_with fail
  refine (HP.out w1 HB1.out).mono ?_
  rintro e w2 ⟨A, B, c, d, rfl, hA, hB, b2⟩
  obtain ⟨gp, hgp⟩ : ∃ gp, gp = w2.heap.size := ⟨_, rfl⟩
  obtain ⟨w3, hw3⟩ : ∃ w3, w3 = w2.alloc (.cells #[.slice A 0 c, .slice B 0 d] 48) := ⟨_, rfl⟩
  have b23 : Below w2.heap.size w2 w3 := by rw [hw3]; exact (Below.refl _ _).alloc (Nat.le_refl _) _
  have hs3 : w3.heap.size = gp + 1 := by rw [hw3, hgp]; simp
  have r3 : w3.heap[gp]? = some (.cells #[.slice A 0 c, .slice B 0 d] 48 (0, 0)) := by rw [hw3, hgp]; exact heap_alloc_new w2 _
  have b13 := below_then b2 b23
  have B03 := Lib.hid (below_then HB1.out b13)
  have B13 := Lib.hid b13
  have HAB := Lib.hid (And.intro (hA.below b23) (hB.below b23))
  have HR3 : Hid (∀ W, Below w3.heap.size w3 W → W.cell? ⟨gp, 0, none⟩ = some (.slice A 0 c) ∧ W.cell? ⟨gp, 1, none⟩ = some (.slice B 0 d)) := fun W hW => by
    obtain ⟨k1, k2, _, _⟩ := row2 ((hW.block gp (by omega)).trans r3)
    exact ⟨k1, k2⟩
  have HW3 := Lib.hid hw3; clear hw3
  have HGP := Lib.hid hgp; clear hgp
  clear hA hB b2 b23 b13 r3
  go_wp2_with fail
  simp only [← HGP.out] at HW3 ⊢
  rw [← HW3.out]
  refine (HT.out w3 B03.out).mono ?_
  rintro e w' ⟨⟨tp, rfl, htr⟩, rfl⟩
  subst htr
  go_wp2_with fail
  refine (HM.out w3 B03.out).mono ?_
  rintro e w' ⟨rfl, rfl⟩
  obtain ⟨c0, c1, c2, c3, c4⟩ := HR.out w3 B13.out
  obtain ⟨d0, d1⟩ := HR3.out w3 (Below.refl _ _)
  go_wp2_with fail
  go_quiet (fail)
  go_wp2_with fail
  go_ret
  exact ⟨rfl, by first | exact B03.out | exact below_drewN B03.out _⟩
theorem offz_leaf {F : Nat → Prop} {w : World} (h : Nat) (p : Pr) {v : Value} (hn : Nde F w (.leaf h p) v) (ho : Nd.ok (.leaf h p)) (xh np ns nk : Nat) (pa sa ka : Option Addr) (pc sc kc : Nat) :
    Calls Tryz.prog 11 #[v, .agg #[.int .i64 0, .int .u64 (xh : Int), .slice pa np pc, .slice sa ns sc, .slice ka nk kc]] w fun e w' => e = .returned (.bool false) ∧ Below w.heap.size w w' := by
  have hh : ∀ W, Below w.heap.size w W → Calls Tryz.prog 21 #[v] W fun e w' => e = .returned (.tuple #[.int .u64 (h : Int), .bool true]) ∧ W = w' := fun W hW => hash_any (hn.below hW)
  have hp : ∀ W, Below w.heap.size w W → Calls Tryz.prog 22 #[v] W fun e w' => ∃ A B c d, e = .returned (.tuple #[.agg #[.slice A p.1.length c, .slice B p.2.length d], .bool true]) ∧ Bts w' A p.1 ∧ Bts w' B p.2 ∧ Below W.heap.size W w' := fun W hW => pair_any (hn.below hW) ho
  have htr : ∀ W, Below w.heap.size w W → Calls Tryz.prog 23 #[v] W fun e w' => (∃ p, e = .returned (.tuple #[.pointer p, .bool false]) ∧ p = none) ∧ W = w' := fun W hW => (tree_any (hn.below hW)).mono fun e w' ⟨⟨p, h1, h2⟩, h3⟩ => ⟨⟨p, h1, by
    rcases h2 with ⟨k1, k2⟩ | ⟨t, k1, k2, k3, k4⟩
    · first | exact k2 | exact absurd rfl k1
    · first | exact ⟨t, k1, k2, k3⟩ | cases k4⟩, h3⟩
  have hmp : ∀ W, Below w.heap.size w W → Calls Tryz.prog 24 #[v] W fun e w' => e = .returned (.tuple #[.int .u32 0, .bool false]) ∧ W = w' := fun W hW => map_any (hn.below hW)
  obtain ⟨x1, hx1⟩ : ∃ x : Nat, x = p.1.length := ⟨_, rfl⟩
  obtain ⟨x2, hx2⟩ : ∃ x : Nat, x = p.2.length := ⟨_, rfl⟩
  rw [← hx1, ← hx2] at hp
  have HX := Lib.hid (And.intro hx1 hx2); clear hx1 hx2
  obtain ⟨gb, hgb⟩ : ∃ gb, gb = w.heap.size := ⟨_, rfl⟩
  obtain ⟨w1, hw1⟩ : ∃ w1, w1 = w.alloc (.cells #[.int .i64 0, .int .u64 (xh : Int), .slice pa np pc, .slice sa ns sc, .slice ka nk kc] 33) := ⟨_, rfl⟩
  have hb1 : Below w.heap.size w w1 := by rw [hw1]; exact (Below.refl _ _).alloc (Nat.le_refl _) _
  have hs1 : w1.heap.size = gb + 1 := by rw [hw1, hgb]; simp
  have r1 : w1.heap[gb]? = some (.cells #[.int .i64 0, .int .u64 (xh : Int), .slice pa np pc, .slice sa ns sc, .slice ka nk kc] 33 (0, 0)) := by rw [hw1, hgb]; exact heap_alloc_new w _
  have hrow : ∀ W, Below w1.heap.size w1 W → W.cell? ⟨gb, 0, none⟩ = some (.int .i64 0) ∧ W.cell? ⟨gb, 1, none⟩ = some (.int .u64 (xh : Int)) ∧ W.cell? ⟨gb, 2, none⟩ = some (.slice pa np pc) ∧ W.cell? ⟨gb, 3, none⟩ = some (.slice sa ns sc) ∧ W.cell? ⟨gb, 4, none⟩ = some (.slice ka nk kc) := fun W hW => (row5 ((hW.block gb (by omega)).trans r1)).1
  have HH := Lib.hid hh; clear hh
  have HP := Lib.hid hp; clear hp
  have HT := Lib.hid htr; clear htr
  have HM := Lib.hid hmp; clear hmp
  have HR := Lib.hid hrow; clear hrow
  have HB1 := Lib.hid hb1; clear hb1
  have HW := Lib.hid hw1; clear hw1
  have HS1 := Lib.hid hs1; clear hs1
  have HGB := Lib.hid hgb; clear hgb
  clear r1
  obtain ⟨b, _, _, _, _, hv, _⟩ := hn
  subst hv
  have e1 := eq_some 103 (.pointer (some ⟨b, 0, none⟩))
  have m1 := kind84 (some ⟨b, 0, none⟩)
  have hk := fun W => turned (kindOf84 (some ⟨b, 0, none⟩) W)
  have HK := Lib.hid hk; clear hk
  clear ho m1 HK
  go_enter Tryz.func11, Tryz.ntmps11
  go_wp2_with fail
  simp only [← HGB.out] at HW ⊢
  rw [← HW.out]
  refine (HH.out w1 HB1.out).mono ?_
  rintro e w' ⟨rfl, rfl⟩
  go_wp2_with fail
  refine (HP.out w1 HB1.out).mono ?_
  rintro e w2 ⟨A, B, c, d, rfl, hA, hB, b2⟩
  obtain ⟨gp, hgp⟩ : ∃ gp, gp = w2.heap.size := ⟨_, rfl⟩
  obtain ⟨w3, hw3⟩ : ∃ w3, w3 = w2.alloc (.cells #[.slice A x1 c, .slice B x2 d] 48) := ⟨_, rfl⟩
  have b23 : Below w2.heap.size w2 w3 := by rw [hw3]; exact (Below.refl _ _).alloc (Nat.le_refl _) _
  have hs3 : w3.heap.size = gp + 1 := by rw [hw3, hgp]; simp
  have r3 : w3.heap[gp]? = some (.cells #[.slice A x1 c, .slice B x2 d] 48 (0, 0)) := by rw [hw3, hgp]; exact heap_alloc_new w2 _
  have b13 := below_then b2 b23
  have B03 := Lib.hid (below_then HB1.out b13)
  have B13 := Lib.hid b13
  have HAB := Lib.hid (And.intro (hA.below b23) (hB.below b23))
  have HR3 : Hid (∀ W, Below w3.heap.size w3 W → W.cell? ⟨gp, 0, none⟩ = some (.slice A x1 c) ∧ W.cell? ⟨gp, 1, none⟩ = some (.slice B x2 d)) := fun W hW => by
    obtain ⟨k1, k2, _, _⟩ := row2 ((hW.block gp (by omega)).trans r3)
    exact ⟨k1, k2⟩
  have HW3 := Lib.hid hw3; clear hw3
  have HGP := Lib.hid hgp; clear hgp
  clear hA hB b2 b23 b13 r3
  go_wp2_with fail
  simp only [← HGP.out] at HW3 ⊢
  rw [← HW3.out]
  refine (HT.out w3 B03.out).mono ?_
  rintro e w' ⟨⟨tp, rfl, htr⟩, rfl⟩
  subst htr
  go_wp2_with fail
  refine (HM.out w3 B03.out).mono ?_
  rintro e w' ⟨rfl, rfl⟩
  obtain ⟨c0, c1, c2, c3, c4⟩ := HR.out w3 B13.out
  obtain ⟨d0, d1⟩ := HR3.out w3 (Below.refl _ _)
  go_wp2_with fail
  go_ret
  exact ⟨rfl, by first | exact B03.out | exact below_drewN B03.out _⟩
theorem off_leaf {F : Nat → Prop} {w : World} (h : Nat) (p : Pr) {v : Value} (hn : Nde F w (.leaf h p) v) (ho : Nd.ok (.leaf h p)) (xk xh np ns nk : Nat) (pa sa ka : Option Addr) (pc sc kc : Nat) (hk : xk ≠ 1) (h0 : xk ≠ 0) :
    Calls Tryz.prog 11 #[v, .agg #[.int .i64 (xk : Int), .int .u64 (xh : Int), .slice pa np pc, .slice sa ns sc, .slice ka nk kc]] w fun e w' => e = .returned (.bool false) ∧ Below w.heap.size w w' := by
  have hh : ∀ W, Below w.heap.size w W → Calls Tryz.prog 21 #[v] W fun e w' => e = .returned (.tuple #[.int .u64 (h : Int), .bool true]) ∧ W = w' := fun W hW => hash_any (hn.below hW)
  have hp : ∀ W, Below w.heap.size w W → Calls Tryz.prog 22 #[v] W fun e w' => ∃ A B c d, e = .returned (.tuple #[.agg #[.slice A p.1.length c, .slice B p.2.length d], .bool true]) ∧ Bts w' A p.1 ∧ Bts w' B p.2 ∧ Below W.heap.size W w' := fun W hW => pair_any (hn.below hW) ho
  have htr : ∀ W, Below w.heap.size w W → Calls Tryz.prog 23 #[v] W fun e w' => (∃ p, e = .returned (.tuple #[.pointer p, .bool false]) ∧ p = none) ∧ W = w' := fun W hW => (tree_any (hn.below hW)).mono fun e w' ⟨⟨p, h1, h2⟩, h3⟩ => ⟨⟨p, h1, by
    rcases h2 with ⟨k1, k2⟩ | ⟨t, k1, k2, k3, k4⟩
    · first | exact k2 | exact absurd rfl k1
    · first | exact ⟨t, k1, k2, k3⟩ | cases k4⟩, h3⟩
  have hmp : ∀ W, Below w.heap.size w W → Calls Tryz.prog 24 #[v] W fun e w' => e = .returned (.tuple #[.int .u32 0, .bool false]) ∧ W = w' := fun W hW => map_any (hn.below hW)
  obtain ⟨x1, hx1⟩ : ∃ x : Nat, x = p.1.length := ⟨_, rfl⟩
  obtain ⟨x2, hx2⟩ : ∃ x : Nat, x = p.2.length := ⟨_, rfl⟩
  rw [← hx1, ← hx2] at hp
  have HX := Lib.hid (And.intro hx1 hx2); clear hx1 hx2
  obtain ⟨gb, hgb⟩ : ∃ gb, gb = w.heap.size := ⟨_, rfl⟩
  obtain ⟨w1, hw1⟩ : ∃ w1, w1 = w.alloc (.cells #[.int .i64 (xk : Int), .int .u64 (xh : Int), .slice pa np pc, .slice sa ns sc, .slice ka nk kc] 33) := ⟨_, rfl⟩
  have hb1 : Below w.heap.size w w1 := by rw [hw1]; exact (Below.refl _ _).alloc (Nat.le_refl _) _
  have hs1 : w1.heap.size = gb + 1 := by rw [hw1, hgb]; simp
  have r1 : w1.heap[gb]? = some (.cells #[.int .i64 (xk : Int), .int .u64 (xh : Int), .slice pa np pc, .slice sa ns sc, .slice ka nk kc] 33 (0, 0)) := by rw [hw1, hgb]; exact heap_alloc_new w _
  have hrow : ∀ W, Below w1.heap.size w1 W → W.cell? ⟨gb, 0, none⟩ = some (.int .i64 (xk : Int)) ∧ W.cell? ⟨gb, 1, none⟩ = some (.int .u64 (xh : Int)) ∧ W.cell? ⟨gb, 2, none⟩ = some (.slice pa np pc) ∧ W.cell? ⟨gb, 3, none⟩ = some (.slice sa ns sc) ∧ W.cell? ⟨gb, 4, none⟩ = some (.slice ka nk kc) := fun W hW => (row5 ((hW.block gb (by omega)).trans r1)).1
  have HH := Lib.hid hh; clear hh
  have HP := Lib.hid hp; clear hp
  have HT := Lib.hid htr; clear htr
  have HM := Lib.hid hmp; clear hmp
  have HR := Lib.hid hrow; clear hrow
  have HB1 := Lib.hid hb1; clear hb1
  have HW := Lib.hid hw1; clear hw1
  have HS1 := Lib.hid hs1; clear hs1
  have HGB := Lib.hid hgb; clear hgb
  clear r1
  obtain ⟨b, _, _, _, _, hv, _⟩ := hn
  subst hv
  have e1 := eq_some 103 (.pointer (some ⟨b, 0, none⟩))
  have m1 := kind84 (some ⟨b, 0, none⟩)
  have hk := fun W => turned (kindOf84 (some ⟨b, 0, none⟩) W)
  have HK := Lib.hid hk; clear hk
  clear ho
  have t1 : ((1 : Int) != (xk : Int)) = true := by simp; omega
  have t0 : ((xk : Int) == 0) = false := by simp; omega
  clear hk h0
  go_enter Tryz.func11, Tryz.ntmps11
  go_wp2_with fail
  simp only [← HGB.out] at HW ⊢
  rw [← HW.out]
  refine (HH.out w1 HB1.out).mono ?_
  rintro e w' ⟨rfl, rfl⟩
  go_wp2_with fail
  refine (HP.out w1 HB1.out).mono ?_
  rintro e w2 ⟨A, B, c, d, rfl, hA, hB, b2⟩
  obtain ⟨gp, hgp⟩ : ∃ gp, gp = w2.heap.size := ⟨_, rfl⟩
  obtain ⟨w3, hw3⟩ : ∃ w3, w3 = w2.alloc (.cells #[.slice A x1 c, .slice B x2 d] 48) := ⟨_, rfl⟩
  have b23 : Below w2.heap.size w2 w3 := by rw [hw3]; exact (Below.refl _ _).alloc (Nat.le_refl _) _
  have hs3 : w3.heap.size = gp + 1 := by rw [hw3, hgp]; simp
  have r3 : w3.heap[gp]? = some (.cells #[.slice A x1 c, .slice B x2 d] 48 (0, 0)) := by rw [hw3, hgp]; exact heap_alloc_new w2 _
  have b13 := below_then b2 b23
  have B03 := Lib.hid (below_then HB1.out b13)
  have B13 := Lib.hid b13
  have HAB := Lib.hid (And.intro (hA.below b23) (hB.below b23))
  have HR3 : Hid (∀ W, Below w3.heap.size w3 W → W.cell? ⟨gp, 0, none⟩ = some (.slice A x1 c) ∧ W.cell? ⟨gp, 1, none⟩ = some (.slice B x2 d)) := fun W hW => by
    obtain ⟨k1, k2, _, _⟩ := row2 ((hW.block gp (by omega)).trans r3)
    exact ⟨k1, k2⟩
  have HW3 := Lib.hid hw3; clear hw3
  have HGP := Lib.hid hgp; clear hgp
  clear hA hB b2 b23 b13 r3
  go_wp2_with fail
  simp only [← HGP.out] at HW3 ⊢
  rw [← HW3.out]
  refine (HT.out w3 B03.out).mono ?_
  rintro e w' ⟨⟨tp, rfl, htr⟩, rfl⟩
  subst htr
  go_wp2_with fail
  refine (HM.out w3 B03.out).mono ?_
  rintro e w' ⟨rfl, rfl⟩
  obtain ⟨c0, c1, c2, c3, c4⟩ := HR.out w3 B13.out
  obtain ⟨d0, d1⟩ := HR3.out w3 (Below.refl _ _)
  go_wp2_with fail
  go_quiet (first | (go_at_call 141; refine Calls.quiet_of_same (HK.out _)))
  go_wp2_with fail
  go_ret
  exact ⟨rfl, by first | exact B03.out | exact below_drewN B03.out _⟩
theorem offz_buck {F : Nat → Prop} {w : World} (h : Nat) (L : List Pr) {v : Value} (hn : Nde F w (.buck h L) v) (ho : Nd.ok (.buck h L)) (xh np ns nk : Nat) (pa sa ka : Option Addr) (pc sc kc : Nat) :
    Calls Tryz.prog 11 #[v, .agg #[.int .i64 0, .int .u64 (xh : Int), .slice pa np pc, .slice sa ns sc, .slice ka nk kc]] w fun e w' => e = .returned (.bool false) ∧ Below w.heap.size w w' := by
  have hh : ∀ W, Below w.heap.size w W → Calls Tryz.prog 21 #[v] W fun e w' => e = .returned (.tuple #[.int .u64 (h : Int), .bool true]) ∧ W = w' := fun W hW => hash_any (hn.below hW)
  have hp : ∀ W, Below w.heap.size w W → Calls Tryz.prog 22 #[v] W fun e w' => ∃ A B c d, e = .returned (.tuple #[.agg #[.slice A 0 c, .slice B 0 d], .bool false]) ∧ Bts w' A [] ∧ Bts w' B [] ∧ Below W.heap.size W w' := fun W hW => pair_any (hn.below hW) ho
  have htr : ∀ W, Below w.heap.size w W → Calls Tryz.prog 23 #[v] W fun e w' => (∃ p, e = .returned (.tuple #[.pointer p, .bool true]) ∧ ∃ t, Tre F W t p ∧ t.even ∧ t.list = L) ∧ W = w' := fun W hW => (tree_any (hn.below hW)).mono fun e w' ⟨⟨p, h1, h2⟩, h3⟩ => ⟨⟨p, h1, by
    rcases h2 with ⟨k1, k2⟩ | ⟨t, k1, k2, k3, k4⟩
    · first | exact k2 | exact absurd rfl k1
    · first | exact ⟨t, k1, k2, k3⟩ | cases k4⟩, h3⟩
  have hmp : ∀ W, Below w.heap.size w W → Calls Tryz.prog 24 #[v] W fun e w' => e = .returned (.tuple #[.int .u32 0, .bool false]) ∧ W = w' := fun W hW => map_any (hn.below hW)
  obtain ⟨gb, hgb⟩ : ∃ gb, gb = w.heap.size := ⟨_, rfl⟩
  obtain ⟨w1, hw1⟩ : ∃ w1, w1 = w.alloc (.cells #[.int .i64 0, .int .u64 (xh : Int), .slice pa np pc, .slice sa ns sc, .slice ka nk kc] 33) := ⟨_, rfl⟩
  have hb1 : Below w.heap.size w w1 := by rw [hw1]; exact (Below.refl _ _).alloc (Nat.le_refl _) _
  have hs1 : w1.heap.size = gb + 1 := by rw [hw1, hgb]; simp
  have r1 : w1.heap[gb]? = some (.cells #[.int .i64 0, .int .u64 (xh : Int), .slice pa np pc, .slice sa ns sc, .slice ka nk kc] 33 (0, 0)) := by rw [hw1, hgb]; exact heap_alloc_new w _
  have hrow : ∀ W, Below w1.heap.size w1 W → W.cell? ⟨gb, 0, none⟩ = some (.int .i64 0) ∧ W.cell? ⟨gb, 1, none⟩ = some (.int .u64 (xh : Int)) ∧ W.cell? ⟨gb, 2, none⟩ = some (.slice pa np pc) ∧ W.cell? ⟨gb, 3, none⟩ = some (.slice sa ns sc) ∧ W.cell? ⟨gb, 4, none⟩ = some (.slice ka nk kc) := fun W hW => (row5 ((hW.block gb (by omega)).trans r1)).1
  have HH := Lib.hid hh; clear hh
  have HP := Lib.hid hp; clear hp
  have HT := Lib.hid htr; clear htr
  have HM := Lib.hid hmp; clear hmp
  have HR := Lib.hid hrow; clear hrow
  have HB1 := Lib.hid hb1; clear hb1
  have HW := Lib.hid hw1; clear hw1
  have HS1 := Lib.hid hs1; clear hs1
  have HGB := Lib.hid hgb; clear hgb
  clear r1
  obtain ⟨b, _, _, hv, _⟩ := hn
  subst hv
  have e1 := eq_some 108 (.pointer (some ⟨b, 0, none⟩))
  have m1 := kind91 (some ⟨b, 0, none⟩)
  have hk := fun W => turned (kindOf91 (some ⟨b, 0, none⟩) W)
  have HK := Lib.hid hk; clear hk
  clear ho m1 HK
  go_enter Tryz.func11, Tryz.ntmps11
  go_wp2_with fail
  simp only [← HGB.out] at HW ⊢
  rw [← HW.out]
  refine (HH.out w1 HB1.out).mono ?_
  rintro e w' ⟨rfl, rfl⟩
  go_wp2_with fail
  refine (HP.out w1 HB1.out).mono ?_
  rintro e w2 ⟨A, B, c, d, rfl, hA, hB, b2⟩
  obtain ⟨gp, hgp⟩ : ∃ gp, gp = w2.heap.size := ⟨_, rfl⟩
  obtain ⟨w3, hw3⟩ : ∃ w3, w3 = w2.alloc (.cells #[.slice A 0 c, .slice B 0 d] 48) := ⟨_, rfl⟩
  have b23 : Below w2.heap.size w2 w3 := by rw [hw3]; exact (Below.refl _ _).alloc (Nat.le_refl _) _
  have hs3 : w3.heap.size = gp + 1 := by rw [hw3, hgp]; simp
  have r3 : w3.heap[gp]? = some (.cells #[.slice A 0 c, .slice B 0 d] 48 (0, 0)) := by rw [hw3, hgp]; exact heap_alloc_new w2 _
  have b13 := below_then b2 b23
  have B03 := Lib.hid (below_then HB1.out b13)
  have B13 := Lib.hid b13
  have HAB := Lib.hid (And.intro (hA.below b23) (hB.below b23))
  have HR3 : Hid (∀ W, Below w3.heap.size w3 W → W.cell? ⟨gp, 0, none⟩ = some (.slice A 0 c) ∧ W.cell? ⟨gp, 1, none⟩ = some (.slice B 0 d)) := fun W hW => by
    obtain ⟨k1, k2, _, _⟩ := row2 ((hW.block gp (by omega)).trans r3)
    exact ⟨k1, k2⟩
  have HW3 := Lib.hid hw3; clear hw3
  have HGP := Lib.hid hgp; clear hgp
  clear hA hB b2 b23 b13 r3
  go_wp2_with fail
  simp only [← HGP.out] at HW3 ⊢
  rw [← HW3.out]
  refine (HT.out w3 B03.out).mono ?_
  rintro e w' ⟨⟨tp, rfl, htr⟩, rfl⟩
  clear htr
  go_wp2_with fail
  refine (HM.out w3 B03.out).mono ?_
  rintro e w' ⟨rfl, rfl⟩
  obtain ⟨c0, c1, c2, c3, c4⟩ := HR.out w3 B13.out
  obtain ⟨d0, d1⟩ := HR3.out w3 (Below.refl _ _)
  go_wp2_with fail
  go_ret
  exact ⟨rfl, by first | exact B03.out | exact below_drewN B03.out _⟩
theorem off_buck {F : Nat → Prop} {w : World} (h : Nat) (L : List Pr) {v : Value} (hn : Nde F w (.buck h L) v) (ho : Nd.ok (.buck h L)) (xk xh np ns nk : Nat) (pa sa ka : Option Addr) (pc sc kc : Nat) (hk : xk ≠ 2) (h0 : xk ≠ 0) :
    Calls Tryz.prog 11 #[v, .agg #[.int .i64 (xk : Int), .int .u64 (xh : Int), .slice pa np pc, .slice sa ns sc, .slice ka nk kc]] w fun e w' => e = .returned (.bool false) ∧ Below w.heap.size w w' := by
  have hh : ∀ W, Below w.heap.size w W → Calls Tryz.prog 21 #[v] W fun e w' => e = .returned (.tuple #[.int .u64 (h : Int), .bool true]) ∧ W = w' := fun W hW => hash_any (hn.below hW)
  have hp : ∀ W, Below w.heap.size w W → Calls Tryz.prog 22 #[v] W fun e w' => ∃ A B c d, e = .returned (.tuple #[.agg #[.slice A 0 c, .slice B 0 d], .bool false]) ∧ Bts w' A [] ∧ Bts w' B [] ∧ Below W.heap.size W w' := fun W hW => pair_any (hn.below hW) ho
  have htr : ∀ W, Below w.heap.size w W → Calls Tryz.prog 23 #[v] W fun e w' => (∃ p, e = .returned (.tuple #[.pointer p, .bool true]) ∧ ∃ t, Tre F W t p ∧ t.even ∧ t.list = L) ∧ W = w' := fun W hW => (tree_any (hn.below hW)).mono fun e w' ⟨⟨p, h1, h2⟩, h3⟩ => ⟨⟨p, h1, by
    rcases h2 with ⟨k1, k2⟩ | ⟨t, k1, k2, k3, k4⟩
    · first | exact k2 | exact absurd rfl k1
    · first | exact ⟨t, k1, k2, k3⟩ | cases k4⟩, h3⟩
  have hmp : ∀ W, Below w.heap.size w W → Calls Tryz.prog 24 #[v] W fun e w' => e = .returned (.tuple #[.int .u32 0, .bool false]) ∧ W = w' := fun W hW => map_any (hn.below hW)
  obtain ⟨gb, hgb⟩ : ∃ gb, gb = w.heap.size := ⟨_, rfl⟩
  obtain ⟨w1, hw1⟩ : ∃ w1, w1 = w.alloc (.cells #[.int .i64 (xk : Int), .int .u64 (xh : Int), .slice pa np pc, .slice sa ns sc, .slice ka nk kc] 33) := ⟨_, rfl⟩
  have hb1 : Below w.heap.size w w1 := by rw [hw1]; exact (Below.refl _ _).alloc (Nat.le_refl _) _
  have hs1 : w1.heap.size = gb + 1 := by rw [hw1, hgb]; simp
  have r1 : w1.heap[gb]? = some (.cells #[.int .i64 (xk : Int), .int .u64 (xh : Int), .slice pa np pc, .slice sa ns sc, .slice ka nk kc] 33 (0, 0)) := by rw [hw1, hgb]; exact heap_alloc_new w _
  have hrow : ∀ W, Below w1.heap.size w1 W → W.cell? ⟨gb, 0, none⟩ = some (.int .i64 (xk : Int)) ∧ W.cell? ⟨gb, 1, none⟩ = some (.int .u64 (xh : Int)) ∧ W.cell? ⟨gb, 2, none⟩ = some (.slice pa np pc) ∧ W.cell? ⟨gb, 3, none⟩ = some (.slice sa ns sc) ∧ W.cell? ⟨gb, 4, none⟩ = some (.slice ka nk kc) := fun W hW => (row5 ((hW.block gb (by omega)).trans r1)).1
  have HH := Lib.hid hh; clear hh
  have HP := Lib.hid hp; clear hp
  have HT := Lib.hid htr; clear htr
  have HM := Lib.hid hmp; clear hmp
  have HR := Lib.hid hrow; clear hrow
  have HB1 := Lib.hid hb1; clear hb1
  have HW := Lib.hid hw1; clear hw1
  have HS1 := Lib.hid hs1; clear hs1
  have HGB := Lib.hid hgb; clear hgb
  clear r1
  obtain ⟨b, _, _, hv, _⟩ := hn
  subst hv
  have e1 := eq_some 108 (.pointer (some ⟨b, 0, none⟩))
  have m1 := kind91 (some ⟨b, 0, none⟩)
  have hk := fun W => turned (kindOf91 (some ⟨b, 0, none⟩) W)
  have HK := Lib.hid hk; clear hk
  clear ho
  have t1 : ((2 : Int) != (xk : Int)) = true := by simp; omega
  have t0 : ((xk : Int) == 0) = false := by simp; omega
  clear hk h0
  go_enter Tryz.func11, Tryz.ntmps11
  go_wp2_with fail
  simp only [← HGB.out] at HW ⊢
  rw [← HW.out]
  refine (HH.out w1 HB1.out).mono ?_
  rintro e w' ⟨rfl, rfl⟩
  go_wp2_with fail
  refine (HP.out w1 HB1.out).mono ?_
  rintro e w2 ⟨A, B, c, d, rfl, hA, hB, b2⟩
  obtain ⟨gp, hgp⟩ : ∃ gp, gp = w2.heap.size := ⟨_, rfl⟩
  obtain ⟨w3, hw3⟩ : ∃ w3, w3 = w2.alloc (.cells #[.slice A 0 c, .slice B 0 d] 48) := ⟨_, rfl⟩
  have b23 : Below w2.heap.size w2 w3 := by rw [hw3]; exact (Below.refl _ _).alloc (Nat.le_refl _) _
  have hs3 : w3.heap.size = gp + 1 := by rw [hw3, hgp]; simp
  have r3 : w3.heap[gp]? = some (.cells #[.slice A 0 c, .slice B 0 d] 48 (0, 0)) := by rw [hw3, hgp]; exact heap_alloc_new w2 _
  have b13 := below_then b2 b23
  have B03 := Lib.hid (below_then HB1.out b13)
  have B13 := Lib.hid b13
  have HAB := Lib.hid (And.intro (hA.below b23) (hB.below b23))
  have HR3 : Hid (∀ W, Below w3.heap.size w3 W → W.cell? ⟨gp, 0, none⟩ = some (.slice A 0 c) ∧ W.cell? ⟨gp, 1, none⟩ = some (.slice B 0 d)) := fun W hW => by
    obtain ⟨k1, k2, _, _⟩ := row2 ((hW.block gp (by omega)).trans r3)
    exact ⟨k1, k2⟩
  have HW3 := Lib.hid hw3; clear hw3
  have HGP := Lib.hid hgp; clear hgp
  clear hA hB b2 b23 b13 r3
  go_wp2_with fail
  simp only [← HGP.out] at HW3 ⊢
  rw [← HW3.out]
  refine (HT.out w3 B03.out).mono ?_
  rintro e w' ⟨⟨tp, rfl, htr⟩, rfl⟩
  clear htr
  go_wp2_with fail
  refine (HM.out w3 B03.out).mono ?_
  rintro e w' ⟨rfl, rfl⟩
  obtain ⟨c0, c1, c2, c3, c4⟩ := HR.out w3 B13.out
  obtain ⟨d0, d1⟩ := HR3.out w3 (Below.refl _ _)
  go_wp2_with fail
  go_quiet (first | (go_at_call 143; refine Calls.quiet_of_same (HK.out _)))
  go_wp2_with fail
  go_ret
  exact ⟨rfl, by first | exact B03.out | exact below_drewN B03.out _⟩
theorem offz_bran {F : Nat → Prop} {w : World} (m k : Nat) (kid : Nat → Nd) {v : Value} (hn : Nde F w (.bran m k kid) v) (ho : Nd.ok (.bran m k kid)) (xh np ns nk : Nat) (pa sa ka : Option Addr) (pc sc kc : Nat) :
    Calls Tryz.prog 11 #[v, .agg #[.int .i64 0, .int .u64 (xh : Int), .slice pa np pc, .slice sa ns sc, .slice ka nk kc]] w fun e w' => e = .returned (.bool false) ∧ Below w.heap.size w w' := by
  have hh : ∀ W, Below w.heap.size w W → Calls Tryz.prog 21 #[v] W fun e w' => e = .returned (.tuple #[.int .u64 0, .bool false]) ∧ W = w' := fun W hW => hash_any (hn.below hW)
  have hp : ∀ W, Below w.heap.size w W → Calls Tryz.prog 22 #[v] W fun e w' => ∃ A B c d, e = .returned (.tuple #[.agg #[.slice A 0 c, .slice B 0 d], .bool false]) ∧ Bts w' A [] ∧ Bts w' B [] ∧ Below W.heap.size W w' := fun W hW => pair_any (hn.below hW) ho
  have htr : ∀ W, Below w.heap.size w W → Calls Tryz.prog 23 #[v] W fun e w' => (∃ p, e = .returned (.tuple #[.pointer p, .bool false]) ∧ p = none) ∧ W = w' := fun W hW => (tree_any (hn.below hW)).mono fun e w' ⟨⟨p, h1, h2⟩, h3⟩ => ⟨⟨p, h1, by
    rcases h2 with ⟨k1, k2⟩ | ⟨t, k1, k2, k3, k4⟩
    · first | exact k2 | exact absurd rfl k1
    · first | exact ⟨t, k1, k2, k3⟩ | cases k4⟩, h3⟩
  have hmp : ∀ W, Below w.heap.size w W → Calls Tryz.prog 24 #[v] W fun e w' => e = .returned (.tuple #[.int .u32 (m : Int), .bool true]) ∧ W = w' := fun W hW => map_any (hn.below hW)
  obtain ⟨gb, hgb⟩ : ∃ gb, gb = w.heap.size := ⟨_, rfl⟩
  obtain ⟨w1, hw1⟩ : ∃ w1, w1 = w.alloc (.cells #[.int .i64 0, .int .u64 (xh : Int), .slice pa np pc, .slice sa ns sc, .slice ka nk kc] 33) := ⟨_, rfl⟩
  have hb1 : Below w.heap.size w w1 := by rw [hw1]; exact (Below.refl _ _).alloc (Nat.le_refl _) _
  have hs1 : w1.heap.size = gb + 1 := by rw [hw1, hgb]; simp
  have r1 : w1.heap[gb]? = some (.cells #[.int .i64 0, .int .u64 (xh : Int), .slice pa np pc, .slice sa ns sc, .slice ka nk kc] 33 (0, 0)) := by rw [hw1, hgb]; exact heap_alloc_new w _
  have hrow : ∀ W, Below w1.heap.size w1 W → W.cell? ⟨gb, 0, none⟩ = some (.int .i64 0) ∧ W.cell? ⟨gb, 1, none⟩ = some (.int .u64 (xh : Int)) ∧ W.cell? ⟨gb, 2, none⟩ = some (.slice pa np pc) ∧ W.cell? ⟨gb, 3, none⟩ = some (.slice sa ns sc) ∧ W.cell? ⟨gb, 4, none⟩ = some (.slice ka nk kc) := fun W hW => (row5 ((hW.block gb (by omega)).trans r1)).1
  have HH := Lib.hid hh; clear hh
  have HP := Lib.hid hp; clear hp
  have HT := Lib.hid htr; clear htr
  have HM := Lib.hid hmp; clear hmp
  have HR := Lib.hid hrow; clear hrow
  have HB1 := Lib.hid hb1; clear hb1
  have HW := Lib.hid hw1; clear hw1
  have HS1 := Lib.hid hs1; clear hs1
  have HGB := Lib.hid hgb; clear hgb
  clear r1
  obtain ⟨b, _, _, hv, _⟩ := hn
  subst hv
  have e1 := eq_some 114 (.pointer (some ⟨b, 0, none⟩))
  have m1 := kind100 (some ⟨b, 0, none⟩)
  have hk := fun W => turned (kindOf100 (some ⟨b, 0, none⟩) W)
  have HK := Lib.hid hk; clear hk
  clear ho m1 HK
  go_enter Tryz.func11, Tryz.ntmps11
  go_wp2_with fail
  simp only [← HGB.out] at HW ⊢
  rw [← HW.out]
  refine (HH.out w1 HB1.out).mono ?_
  rintro e w' ⟨rfl, rfl⟩
  go_wp2_with fail
  refine (HP.out w1 HB1.out).mono ?_
  rintro e w2 ⟨A, B, c, d, rfl, hA, hB, b2⟩
  obtain ⟨gp, hgp⟩ : ∃ gp, gp = w2.heap.size := ⟨_, rfl⟩
  obtain ⟨w3, hw3⟩ : ∃ w3, w3 = w2.alloc (.cells #[.slice A 0 c, .slice B 0 d] 48) := ⟨_, rfl⟩
  have b23 : Below w2.heap.size w2 w3 := by rw [hw3]; exact (Below.refl _ _).alloc (Nat.le_refl _) _
  have hs3 : w3.heap.size = gp + 1 := by rw [hw3, hgp]; simp
  have r3 : w3.heap[gp]? = some (.cells #[.slice A 0 c, .slice B 0 d] 48 (0, 0)) := by rw [hw3, hgp]; exact heap_alloc_new w2 _
  have b13 := below_then b2 b23
  have B03 := Lib.hid (below_then HB1.out b13)
  have B13 := Lib.hid b13
  have HAB := Lib.hid (And.intro (hA.below b23) (hB.below b23))
  have HR3 : Hid (∀ W, Below w3.heap.size w3 W → W.cell? ⟨gp, 0, none⟩ = some (.slice A 0 c) ∧ W.cell? ⟨gp, 1, none⟩ = some (.slice B 0 d)) := fun W hW => by
    obtain ⟨k1, k2, _, _⟩ := row2 ((hW.block gp (by omega)).trans r3)
    exact ⟨k1, k2⟩
  have HW3 := Lib.hid hw3; clear hw3
  have HGP := Lib.hid hgp; clear hgp
  clear hA hB b2 b23 b13 r3
  go_wp2_with fail
  simp only [← HGP.out] at HW3 ⊢
  rw [← HW3.out]
  refine (HT.out w3 B03.out).mono ?_
  rintro e w' ⟨⟨tp, rfl, htr⟩, rfl⟩
  subst htr
  go_wp2_with fail
  refine (HM.out w3 B03.out).mono ?_
  rintro e w' ⟨rfl, rfl⟩
  obtain ⟨c0, c1, c2, c3, c4⟩ := HR.out w3 B13.out
  obtain ⟨d0, d1⟩ := HR3.out w3 (Below.refl _ _)
  go_wp2_with fail
  go_ret
  exact ⟨rfl, by first | exact B03.out | exact below_drewN B03.out _⟩
theorem off_bran {F : Nat → Prop} {w : World} (m k : Nat) (kid : Nat → Nd) {v : Value} (hn : Nde F w (.bran m k kid) v) (ho : Nd.ok (.bran m k kid)) (xk xh np ns nk : Nat) (pa sa ka : Option Addr) (pc sc kc : Nat) (hk : xk ≠ 3) (h0 : xk ≠ 0) :
    Calls Tryz.prog 11 #[v, .agg #[.int .i64 (xk : Int), .int .u64 (xh : Int), .slice pa np pc, .slice sa ns sc, .slice ka nk kc]] w fun e w' => e = .returned (.bool false) ∧ Below w.heap.size w w' := by
  have hh : ∀ W, Below w.heap.size w W → Calls Tryz.prog 21 #[v] W fun e w' => e = .returned (.tuple #[.int .u64 0, .bool false]) ∧ W = w' := fun W hW => hash_any (hn.below hW)
  have hp : ∀ W, Below w.heap.size w W → Calls Tryz.prog 22 #[v] W fun e w' => ∃ A B c d, e = .returned (.tuple #[.agg #[.slice A 0 c, .slice B 0 d], .bool false]) ∧ Bts w' A [] ∧ Bts w' B [] ∧ Below W.heap.size W w' := fun W hW => pair_any (hn.below hW) ho
  have htr : ∀ W, Below w.heap.size w W → Calls Tryz.prog 23 #[v] W fun e w' => (∃ p, e = .returned (.tuple #[.pointer p, .bool false]) ∧ p = none) ∧ W = w' := fun W hW => (tree_any (hn.below hW)).mono fun e w' ⟨⟨p, h1, h2⟩, h3⟩ => ⟨⟨p, h1, by
    rcases h2 with ⟨k1, k2⟩ | ⟨t, k1, k2, k3, k4⟩
    · first | exact k2 | exact absurd rfl k1
    · first | exact ⟨t, k1, k2, k3⟩ | cases k4⟩, h3⟩
  have hmp : ∀ W, Below w.heap.size w W → Calls Tryz.prog 24 #[v] W fun e w' => e = .returned (.tuple #[.int .u32 (m : Int), .bool true]) ∧ W = w' := fun W hW => map_any (hn.below hW)
  obtain ⟨gb, hgb⟩ : ∃ gb, gb = w.heap.size := ⟨_, rfl⟩
  obtain ⟨w1, hw1⟩ : ∃ w1, w1 = w.alloc (.cells #[.int .i64 (xk : Int), .int .u64 (xh : Int), .slice pa np pc, .slice sa ns sc, .slice ka nk kc] 33) := ⟨_, rfl⟩
  have hb1 : Below w.heap.size w w1 := by rw [hw1]; exact (Below.refl _ _).alloc (Nat.le_refl _) _
  have hs1 : w1.heap.size = gb + 1 := by rw [hw1, hgb]; simp
  have r1 : w1.heap[gb]? = some (.cells #[.int .i64 (xk : Int), .int .u64 (xh : Int), .slice pa np pc, .slice sa ns sc, .slice ka nk kc] 33 (0, 0)) := by rw [hw1, hgb]; exact heap_alloc_new w _
  have hrow : ∀ W, Below w1.heap.size w1 W → W.cell? ⟨gb, 0, none⟩ = some (.int .i64 (xk : Int)) ∧ W.cell? ⟨gb, 1, none⟩ = some (.int .u64 (xh : Int)) ∧ W.cell? ⟨gb, 2, none⟩ = some (.slice pa np pc) ∧ W.cell? ⟨gb, 3, none⟩ = some (.slice sa ns sc) ∧ W.cell? ⟨gb, 4, none⟩ = some (.slice ka nk kc) := fun W hW => (row5 ((hW.block gb (by omega)).trans r1)).1
  have HH := Lib.hid hh; clear hh
  have HP := Lib.hid hp; clear hp
  have HT := Lib.hid htr; clear htr
  have HM := Lib.hid hmp; clear hmp
  have HR := Lib.hid hrow; clear hrow
  have HB1 := Lib.hid hb1; clear hb1
  have HW := Lib.hid hw1; clear hw1
  have HS1 := Lib.hid hs1; clear hs1
  have HGB := Lib.hid hgb; clear hgb
  clear r1
  obtain ⟨b, _, _, hv, _⟩ := hn
  subst hv
  have e1 := eq_some 114 (.pointer (some ⟨b, 0, none⟩))
  have m1 := kind100 (some ⟨b, 0, none⟩)
  have hk := fun W => turned (kindOf100 (some ⟨b, 0, none⟩) W)
  have HK := Lib.hid hk; clear hk
  clear ho
  have t1 : ((3 : Int) != (xk : Int)) = true := by simp; omega
  have t0 : ((xk : Int) == 0) = false := by simp; omega
  clear hk h0
  go_enter Tryz.func11, Tryz.ntmps11
  go_wp2_with fail
  simp only [← HGB.out] at HW ⊢
  rw [← HW.out]
  refine (HH.out w1 HB1.out).mono ?_
  rintro e w' ⟨rfl, rfl⟩
  go_wp2_with fail
  refine (HP.out w1 HB1.out).mono ?_
  rintro e w2 ⟨A, B, c, d, rfl, hA, hB, b2⟩
  obtain ⟨gp, hgp⟩ : ∃ gp, gp = w2.heap.size := ⟨_, rfl⟩
  obtain ⟨w3, hw3⟩ : ∃ w3, w3 = w2.alloc (.cells #[.slice A 0 c, .slice B 0 d] 48) := ⟨_, rfl⟩
  have b23 : Below w2.heap.size w2 w3 := by rw [hw3]; exact (Below.refl _ _).alloc (Nat.le_refl _) _
  have hs3 : w3.heap.size = gp + 1 := by rw [hw3, hgp]; simp
  have r3 : w3.heap[gp]? = some (.cells #[.slice A 0 c, .slice B 0 d] 48 (0, 0)) := by rw [hw3, hgp]; exact heap_alloc_new w2 _
  have b13 := below_then b2 b23
  have B03 := Lib.hid (below_then HB1.out b13)
  have B13 := Lib.hid b13
  have HAB := Lib.hid (And.intro (hA.below b23) (hB.below b23))
  have HR3 : Hid (∀ W, Below w3.heap.size w3 W → W.cell? ⟨gp, 0, none⟩ = some (.slice A 0 c) ∧ W.cell? ⟨gp, 1, none⟩ = some (.slice B 0 d)) := fun W hW => by
    obtain ⟨k1, k2, _, _⟩ := row2 ((hW.block gp (by omega)).trans r3)
    exact ⟨k1, k2⟩
  have HW3 := Lib.hid hw3; clear hw3
  have HGP := Lib.hid hgp; clear hgp
  clear hA hB b2 b23 b13 r3
  go_wp2_with fail
  simp only [← HGP.out] at HW3 ⊢
  rw [← HW3.out]
  refine (HT.out w3 B03.out).mono ?_
  rintro e w' ⟨⟨tp, rfl, htr⟩, rfl⟩
  subst htr
  go_wp2_with fail
  refine (HM.out w3 B03.out).mono ?_
  rintro e w' ⟨rfl, rfl⟩
  obtain ⟨c0, c1, c2, c3, c4⟩ := HR.out w3 B13.out
  obtain ⟨d0, d1⟩ := HR3.out w3 (Below.refl _ _)
  go_wp2_with fail
  go_quiet (first | (go_at_call 145; refine Calls.quiet_of_same (HK.out _)))
  go_wp2_with fail
  go_ret
  exact ⟨rfl, by first | exact B03.out | exact below_drewN B03.out _⟩
theorem offhash_leaf {F : Nat → Prop} {w : World} (h : Nat) (p : Pr) {v : Value} (hn : Nde F w (.leaf h p) v) (ho : Nd.ok (.leaf h p)) (xh np ns nk : Nat) (pa sa ka : Option Addr) (pc sc kc : Nat) (hk : ¬ h = xh) :
    Calls Tryz.prog 11 #[v, .agg #[.int .i64 1, .int .u64 (xh : Int), .slice pa np pc, .slice sa ns sc, .slice ka nk kc]] w fun e w' => e = .returned (.bool false) ∧ Below w.heap.size w w' := by
  have hh : ∀ W, Below w.heap.size w W → Calls Tryz.prog 21 #[v] W fun e w' => e = .returned (.tuple #[.int .u64 (h : Int), .bool true]) ∧ W = w' := fun W hW => hash_any (hn.below hW)
  have hp : ∀ W, Below w.heap.size w W → Calls Tryz.prog 22 #[v] W fun e w' => ∃ A B c d, e = .returned (.tuple #[.agg #[.slice A p.1.length c, .slice B p.2.length d], .bool true]) ∧ Bts w' A p.1 ∧ Bts w' B p.2 ∧ Below W.heap.size W w' := fun W hW => pair_any (hn.below hW) ho
  have htr : ∀ W, Below w.heap.size w W → Calls Tryz.prog 23 #[v] W fun e w' => (∃ p, e = .returned (.tuple #[.pointer p, .bool false]) ∧ p = none) ∧ W = w' := fun W hW => (tree_any (hn.below hW)).mono fun e w' ⟨⟨p, h1, h2⟩, h3⟩ => ⟨⟨p, h1, by
    rcases h2 with ⟨k1, k2⟩ | ⟨t, k1, k2, k3, k4⟩
    · first | exact k2 | exact absurd rfl k1
    · first | exact ⟨t, k1, k2, k3⟩ | cases k4⟩, h3⟩
  have hmp : ∀ W, Below w.heap.size w W → Calls Tryz.prog 24 #[v] W fun e w' => e = .returned (.tuple #[.int .u32 0, .bool false]) ∧ W = w' := fun W hW => map_any (hn.below hW)
  obtain ⟨x1, hx1⟩ : ∃ x : Nat, x = p.1.length := ⟨_, rfl⟩
  obtain ⟨x2, hx2⟩ : ∃ x : Nat, x = p.2.length := ⟨_, rfl⟩
  rw [← hx1, ← hx2] at hp
  have HX := Lib.hid (And.intro hx1 hx2); clear hx1 hx2
  obtain ⟨gb, hgb⟩ : ∃ gb, gb = w.heap.size := ⟨_, rfl⟩
  obtain ⟨w1, hw1⟩ : ∃ w1, w1 = w.alloc (.cells #[.int .i64 1, .int .u64 (xh : Int), .slice pa np pc, .slice sa ns sc, .slice ka nk kc] 33) := ⟨_, rfl⟩
  have hb1 : Below w.heap.size w w1 := by rw [hw1]; exact (Below.refl _ _).alloc (Nat.le_refl _) _
  have hs1 : w1.heap.size = gb + 1 := by rw [hw1, hgb]; simp
  have r1 : w1.heap[gb]? = some (.cells #[.int .i64 1, .int .u64 (xh : Int), .slice pa np pc, .slice sa ns sc, .slice ka nk kc] 33 (0, 0)) := by rw [hw1, hgb]; exact heap_alloc_new w _
  have hrow : ∀ W, Below w1.heap.size w1 W → W.cell? ⟨gb, 0, none⟩ = some (.int .i64 1) ∧ W.cell? ⟨gb, 1, none⟩ = some (.int .u64 (xh : Int)) ∧ W.cell? ⟨gb, 2, none⟩ = some (.slice pa np pc) ∧ W.cell? ⟨gb, 3, none⟩ = some (.slice sa ns sc) ∧ W.cell? ⟨gb, 4, none⟩ = some (.slice ka nk kc) := fun W hW => (row5 ((hW.block gb (by omega)).trans r1)).1
  have HH := Lib.hid hh; clear hh
  have HP := Lib.hid hp; clear hp
  have HT := Lib.hid htr; clear htr
  have HM := Lib.hid hmp; clear hmp
  have HR := Lib.hid hrow; clear hrow
  have HB1 := Lib.hid hb1; clear hb1
  have HW := Lib.hid hw1; clear hw1
  have HS1 := Lib.hid hs1; clear hs1
  have HGB := Lib.hid hgb; clear hgb
  clear r1
  obtain ⟨b, _, _, _, _, hv, _⟩ := hn
  subst hv
  have e1 := eq_some 103 (.pointer (some ⟨b, 0, none⟩))
  have m1 := kind84 (some ⟨b, 0, none⟩)
  have hk := fun W => turned (kindOf84 (some ⟨b, 0, none⟩) W)
  have HK := Lib.hid hk; clear hk
  clear ho
  have t1 : ((h : Int) != (xh : Int)) = true := by simp; omega
  clear hk
  go_enter Tryz.func11, Tryz.ntmps11
  go_wp2_with fail
  simp only [← HGB.out] at HW ⊢
  rw [← HW.out]
  refine (HH.out w1 HB1.out).mono ?_
  rintro e w' ⟨rfl, rfl⟩
  go_wp2_with fail
  refine (HP.out w1 HB1.out).mono ?_
  rintro e w2 ⟨A, B, c, d, rfl, hA, hB, b2⟩
  obtain ⟨gp, hgp⟩ : ∃ gp, gp = w2.heap.size := ⟨_, rfl⟩
  obtain ⟨w3, hw3⟩ : ∃ w3, w3 = w2.alloc (.cells #[.slice A x1 c, .slice B x2 d] 48) := ⟨_, rfl⟩
  have b23 : Below w2.heap.size w2 w3 := by rw [hw3]; exact (Below.refl _ _).alloc (Nat.le_refl _) _
  have hs3 : w3.heap.size = gp + 1 := by rw [hw3, hgp]; simp
  have r3 : w3.heap[gp]? = some (.cells #[.slice A x1 c, .slice B x2 d] 48 (0, 0)) := by rw [hw3, hgp]; exact heap_alloc_new w2 _
  have b13 := below_then b2 b23
  have B03 := Lib.hid (below_then HB1.out b13)
  have B13 := Lib.hid b13
  have HAB := Lib.hid (And.intro (hA.below b23) (hB.below b23))
  have HR3 : Hid (∀ W, Below w3.heap.size w3 W → W.cell? ⟨gp, 0, none⟩ = some (.slice A x1 c) ∧ W.cell? ⟨gp, 1, none⟩ = some (.slice B x2 d)) := fun W hW => by
    obtain ⟨k1, k2, _, _⟩ := row2 ((hW.block gp (by omega)).trans r3)
    exact ⟨k1, k2⟩
  have HW3 := Lib.hid hw3; clear hw3
  have HGP := Lib.hid hgp; clear hgp
  clear hA hB b2 b23 b13 r3
  go_wp2_with fail
  simp only [← HGP.out] at HW3 ⊢
  rw [← HW3.out]
  refine (HT.out w3 B03.out).mono ?_
  rintro e w' ⟨⟨tp, rfl, htr⟩, rfl⟩
  subst htr
  go_wp2_with fail
  refine (HM.out w3 B03.out).mono ?_
  rintro e w' ⟨rfl, rfl⟩
  obtain ⟨c0, c1, c2, c3, c4⟩ := HR.out w3 B13.out
  obtain ⟨d0, d1⟩ := HR3.out w3 (Below.refl _ _)
  go_wp2_with fail
  go_quiet (first | (go_at_call 141; refine Calls.quiet_of_same (HK.out _)))
  go_wp2_with fail
  go_ret
  exact ⟨rfl, by first | exact B03.out | exact below_drewN B03.out _⟩
theorem offhash_buck {F : Nat → Prop} {w : World} (h : Nat) (L : List Pr) {v : Value} (hn : Nde F w (.buck h L) v) (ho : Nd.ok (.buck h L)) (xh np ns nk : Nat) (pa sa ka : Option Addr) (pc sc kc : Nat) (hk : ¬ h = xh) :
    Calls Tryz.prog 11 #[v, .agg #[.int .i64 2, .int .u64 (xh : Int), .slice pa np pc, .slice sa ns sc, .slice ka nk kc]] w fun e w' => e = .returned (.bool false) ∧ Below w.heap.size w w' := by
  have hh : ∀ W, Below w.heap.size w W → Calls Tryz.prog 21 #[v] W fun e w' => e = .returned (.tuple #[.int .u64 (h : Int), .bool true]) ∧ W = w' := fun W hW => hash_any (hn.below hW)
  have hp : ∀ W, Below w.heap.size w W → Calls Tryz.prog 22 #[v] W fun e w' => ∃ A B c d, e = .returned (.tuple #[.agg #[.slice A 0 c, .slice B 0 d], .bool false]) ∧ Bts w' A [] ∧ Bts w' B [] ∧ Below W.heap.size W w' := fun W hW => pair_any (hn.below hW) ho
  have htr : ∀ W, Below w.heap.size w W → Calls Tryz.prog 23 #[v] W fun e w' => (∃ p, e = .returned (.tuple #[.pointer p, .bool true]) ∧ ∃ t, Tre F W t p ∧ t.even ∧ t.list = L) ∧ W = w' := fun W hW => (tree_any (hn.below hW)).mono fun e w' ⟨⟨p, h1, h2⟩, h3⟩ => ⟨⟨p, h1, by
    rcases h2 with ⟨k1, k2⟩ | ⟨t, k1, k2, k3, k4⟩
    · first | exact k2 | exact absurd rfl k1
    · first | exact ⟨t, k1, k2, k3⟩ | cases k4⟩, h3⟩
  have hmp : ∀ W, Below w.heap.size w W → Calls Tryz.prog 24 #[v] W fun e w' => e = .returned (.tuple #[.int .u32 0, .bool false]) ∧ W = w' := fun W hW => map_any (hn.below hW)
  obtain ⟨gb, hgb⟩ : ∃ gb, gb = w.heap.size := ⟨_, rfl⟩
  obtain ⟨w1, hw1⟩ : ∃ w1, w1 = w.alloc (.cells #[.int .i64 2, .int .u64 (xh : Int), .slice pa np pc, .slice sa ns sc, .slice ka nk kc] 33) := ⟨_, rfl⟩
  have hb1 : Below w.heap.size w w1 := by rw [hw1]; exact (Below.refl _ _).alloc (Nat.le_refl _) _
  have hs1 : w1.heap.size = gb + 1 := by rw [hw1, hgb]; simp
  have r1 : w1.heap[gb]? = some (.cells #[.int .i64 2, .int .u64 (xh : Int), .slice pa np pc, .slice sa ns sc, .slice ka nk kc] 33 (0, 0)) := by rw [hw1, hgb]; exact heap_alloc_new w _
  have hrow : ∀ W, Below w1.heap.size w1 W → W.cell? ⟨gb, 0, none⟩ = some (.int .i64 2) ∧ W.cell? ⟨gb, 1, none⟩ = some (.int .u64 (xh : Int)) ∧ W.cell? ⟨gb, 2, none⟩ = some (.slice pa np pc) ∧ W.cell? ⟨gb, 3, none⟩ = some (.slice sa ns sc) ∧ W.cell? ⟨gb, 4, none⟩ = some (.slice ka nk kc) := fun W hW => (row5 ((hW.block gb (by omega)).trans r1)).1
  have HH := Lib.hid hh; clear hh
  have HP := Lib.hid hp; clear hp
  have HT := Lib.hid htr; clear htr
  have HM := Lib.hid hmp; clear hmp
  have HR := Lib.hid hrow; clear hrow
  have HB1 := Lib.hid hb1; clear hb1
  have HW := Lib.hid hw1; clear hw1
  have HS1 := Lib.hid hs1; clear hs1
  have HGB := Lib.hid hgb; clear hgb
  clear r1
  obtain ⟨b, _, _, hv, _⟩ := hn
  subst hv
  have e1 := eq_some 108 (.pointer (some ⟨b, 0, none⟩))
  have m1 := kind91 (some ⟨b, 0, none⟩)
  have hk := fun W => turned (kindOf91 (some ⟨b, 0, none⟩) W)
  have HK := Lib.hid hk; clear hk
  clear ho
  have t1 : ((h : Int) != (xh : Int)) = true := by simp; omega
  clear hk
  go_enter Tryz.func11, Tryz.ntmps11
  go_wp2_with fail
  simp only [← HGB.out] at HW ⊢
  rw [← HW.out]
  refine (HH.out w1 HB1.out).mono ?_
  rintro e w' ⟨rfl, rfl⟩
  go_wp2_with fail
  refine (HP.out w1 HB1.out).mono ?_
  rintro e w2 ⟨A, B, c, d, rfl, hA, hB, b2⟩
  obtain ⟨gp, hgp⟩ : ∃ gp, gp = w2.heap.size := ⟨_, rfl⟩
  obtain ⟨w3, hw3⟩ : ∃ w3, w3 = w2.alloc (.cells #[.slice A 0 c, .slice B 0 d] 48) := ⟨_, rfl⟩
  have b23 : Below w2.heap.size w2 w3 := by rw [hw3]; exact (Below.refl _ _).alloc (Nat.le_refl _) _
  have hs3 : w3.heap.size = gp + 1 := by rw [hw3, hgp]; simp
  have r3 : w3.heap[gp]? = some (.cells #[.slice A 0 c, .slice B 0 d] 48 (0, 0)) := by rw [hw3, hgp]; exact heap_alloc_new w2 _
  have b13 := below_then b2 b23
  have B03 := Lib.hid (below_then HB1.out b13)
  have B13 := Lib.hid b13
  have HAB := Lib.hid (And.intro (hA.below b23) (hB.below b23))
  have HR3 : Hid (∀ W, Below w3.heap.size w3 W → W.cell? ⟨gp, 0, none⟩ = some (.slice A 0 c) ∧ W.cell? ⟨gp, 1, none⟩ = some (.slice B 0 d)) := fun W hW => by
    obtain ⟨k1, k2, _, _⟩ := row2 ((hW.block gp (by omega)).trans r3)
    exact ⟨k1, k2⟩
  have HW3 := Lib.hid hw3; clear hw3
  have HGP := Lib.hid hgp; clear hgp
  clear hA hB b2 b23 b13 r3
  go_wp2_with fail
  simp only [← HGP.out] at HW3 ⊢
  rw [← HW3.out]
  refine (HT.out w3 B03.out).mono ?_
  rintro e w' ⟨⟨tp, rfl, htr⟩, rfl⟩
  clear htr
  go_wp2_with fail
  refine (HM.out w3 B03.out).mono ?_
  rintro e w' ⟨rfl, rfl⟩
  obtain ⟨c0, c1, c2, c3, c4⟩ := HR.out w3 B13.out
  obtain ⟨d0, d1⟩ := HR3.out w3 (Below.refl _ _)
  go_wp2_with fail
  go_quiet (first | (go_at_call 143; refine Calls.quiet_of_same (HK.out _)))
  go_wp2_with fail
  go_ret
  exact ⟨rfl, by first | exact B03.out | exact below_drewN B03.out _⟩
end Go.Proofs.YtngfbkkfnooobaaGreatDoor
/-
  Contract of the law's Same of layer 16, unlike nodes too: leaves and buckets of one hash, branches.
-/
namespace Go.Proofs.YtngfbkkfnooobaaGreatDoor
open Go.RowKit
set_option maxHeartbeats 8000000
set_option maxRecDepth 100000
theorem likes_leaf {F G : Nat → Prop} {w : World} (h : Nat) (p p' : Pr) {v : Value} {r : RN} (hn : Nde F w (.leaf h p) v) (ho : Nd.ok (.leaf h p)) (hm : Mde G w (.leaf h p') r) : Likes w (.leaf h p) (.leaf h p') v r := by
  unfold Likes
  have hrc := hm.1
  have hv0 : (Nd.leaf h p).like (.leaf h p') = (decide (p.1 = p'.1) && decide (p.2 = p'.2)) := by rw [Nd.like, decide_eq_true rfl, Bool.true_and]
  rw [hv0]
  clear hv0
  obtain ⟨vv, hvv⟩ : ∃ b, b = (decide (p.1 = p'.1) && decide (p.2 = p'.2)) := ⟨_, rfl⟩
  rw [← hvv]
  have HVV := Lib.hid hvv; clear hvv
  obtain ⟨pa, pc, sa, sc, ka, kc⟩ := r
  show Calls Tryz.prog 11 #[v, .agg #[.int .i64 1, .int .u64 (h : Int), .slice pa 1 pc, .slice sa 0 sc, .slice ka 0 kc]] w _
  have hh : ∀ W, Below w.heap.size w W → Calls Tryz.prog 21 #[v] W fun e w' => e = .returned (.tuple #[.int .u64 (h : Int), .bool true]) ∧ W = w' := fun W hW => hash_any (hn.below hW)
  have hp : ∀ W, Below w.heap.size w W → Calls Tryz.prog 22 #[v] W fun e w' => ∃ A B c d, e = .returned (.tuple #[.agg #[.slice A p.1.length c, .slice B p.2.length d], .bool true]) ∧ Bts w' A p.1 ∧ Bts w' B p.2 ∧ Below W.heap.size W w' := fun W hW => pair_any (hn.below hW) ho
  have htr : ∀ W, Below w.heap.size w W → Calls Tryz.prog 23 #[v] W fun e w' => (∃ p, e = .returned (.tuple #[.pointer p, .bool false]) ∧ p = none) ∧ W = w' := fun W hW => (tree_any (hn.below hW)).mono fun e w' ⟨⟨p, h1, h2⟩, h3⟩ => ⟨⟨p, h1, by
    rcases h2 with ⟨k1, k2⟩ | ⟨t, k1, k2, k3, k4⟩
    · first | exact k2 | exact absurd rfl k1
    · first | exact ⟨t, k1, k2, k3⟩ | cases k4⟩, h3⟩
  have hmp : ∀ W, Below w.heap.size w W → Calls Tryz.prog 24 #[v] W fun e w' => e = .returned (.tuple #[.int .u32 0, .bool false]) ∧ W = w' := fun W hW => map_any (hn.below hW)
  obtain ⟨x1, hx1⟩ : ∃ x : Nat, x = p.1.length := ⟨_, rfl⟩
  obtain ⟨x2, hx2⟩ : ∃ x : Nat, x = p.2.length := ⟨_, rfl⟩
  rw [← hx1, ← hx2] at hp
  have HX := Lib.hid (And.intro hx1 hx2); clear hx1 hx2
  obtain ⟨gb, hgb⟩ : ∃ gb, gb = w.heap.size := ⟨_, rfl⟩
  obtain ⟨w1, hw1⟩ : ∃ w1, w1 = w.alloc (.cells #[.int .i64 1, .int .u64 (h : Int), .slice pa 1 pc, .slice sa 0 sc, .slice ka 0 kc] 33) := ⟨_, rfl⟩
  have hb1 : Below w.heap.size w w1 := by rw [hw1]; exact (Below.refl _ _).alloc (Nat.le_refl _) _
  have hs1 : w1.heap.size = gb + 1 := by rw [hw1, hgb]; simp
  have r1 : w1.heap[gb]? = some (.cells #[.int .i64 1, .int .u64 (h : Int), .slice pa 1 pc, .slice sa 0 sc, .slice ka 0 kc] 33 (0, 0)) := by rw [hw1, hgb]; exact heap_alloc_new w _
  have hrow : ∀ W, Below w1.heap.size w1 W → W.cell? ⟨gb, 0, none⟩ = some (.int .i64 1) ∧ W.cell? ⟨gb, 1, none⟩ = some (.int .u64 (h : Int)) ∧ W.cell? ⟨gb, 2, none⟩ = some (.slice pa 1 pc) ∧ W.cell? ⟨gb, 3, none⟩ = some (.slice sa 0 sc) ∧ W.cell? ⟨gb, 4, none⟩ = some (.slice ka 0 kc) := fun W hW => (row5 ((hW.block gb (by omega)).trans r1)).1
  have HH := Lib.hid hh; clear hh
  have HP := Lib.hid hp; clear hp
  have HT := Lib.hid htr; clear htr
  have HM := Lib.hid hmp; clear hmp
  have HR := Lib.hid hrow; clear hrow
  have HB1 := Lib.hid hb1; clear hb1
  have HW := Lib.hid hw1; clear hw1
  have HS1 := Lib.hid hs1; clear hs1
  have HGB := Lib.hid hgb; clear hgb
  clear r1
  obtain ⟨b, _, _, _, _, hv, _⟩ := hn
  subst hv
  have e1 := eq_some 103 (.pointer (some ⟨b, 0, none⟩))
  have m1 := kind84 (some ⟨b, 0, none⟩)
  have hk := fun W => turned (kindOf84 (some ⟨b, 0, none⟩) W)
  have HK := Lib.hid hk; clear hk
  have hu : ((h : Int) != (h : Int)) = false := by simp
  have HRC := Lib.hid hrc; clear hrc
  clear hm ho
  go_enter Tryz.func11, Tryz.ntmps11
  go_wp2_with fail
  simp only [← HGB.out] at HW ⊢
  rw [← HW.out]
  refine (HH.out w1 HB1.out).mono ?_
  rintro e w' ⟨rfl, rfl⟩
  go_wp2_with fail
  refine (HP.out w1 HB1.out).mono ?_
  rintro e w2 ⟨A, B, c, d, rfl, hA, hB, b2⟩
  obtain ⟨gp, hgp⟩ : ∃ gp, gp = w2.heap.size := ⟨_, rfl⟩
  obtain ⟨w3, hw3⟩ : ∃ w3, w3 = w2.alloc (.cells #[.slice A x1 c, .slice B x2 d] 48) := ⟨_, rfl⟩
  have b23 : Below w2.heap.size w2 w3 := by rw [hw3]; exact (Below.refl _ _).alloc (Nat.le_refl _) _
  have hs3 : w3.heap.size = gp + 1 := by rw [hw3, hgp]; simp
  have r3 : w3.heap[gp]? = some (.cells #[.slice A x1 c, .slice B x2 d] 48 (0, 0)) := by rw [hw3, hgp]; exact heap_alloc_new w2 _
  have b13 := below_then b2 b23
  have B03 := Lib.hid (below_then HB1.out b13)
  have B13 := Lib.hid b13
  have HAB := Lib.hid (And.intro (hA.below b23) (hB.below b23))
  have HR3 : Hid (∀ W, Below w3.heap.size w3 W → W.cell? ⟨gp, 0, none⟩ = some (.slice A x1 c) ∧ W.cell? ⟨gp, 1, none⟩ = some (.slice B x2 d)) := fun W hW => by
    obtain ⟨k1, k2, _, _⟩ := row2 ((hW.block gp (by omega)).trans r3)
    exact ⟨k1, k2⟩
  have HW3 := Lib.hid hw3; clear hw3
  have HGP := Lib.hid hgp; clear hgp
  clear hA hB b2 b23 b13 r3
  go_wp2_with fail
  simp only [← HGP.out] at HW3 ⊢
  rw [← HW3.out]
  refine (HT.out w3 B03.out).mono ?_
  rintro e w' ⟨⟨tp, rfl, htr⟩, rfl⟩
  subst htr
  go_wp2_with fail
  refine (HM.out w3 B03.out).mono ?_
  rintro e w' ⟨rfl, rfl⟩
  obtain ⟨c0, c1, c2, c3, c4⟩ := HR.out w3 B13.out
  obtain ⟨d0, d1⟩ := HR3.out w3 (Below.refl _ _)
  go_wp2_with fail
  go_quiet (first | (go_at_call 141; refine Calls.quiet_of_same (HK.out _)))
  obtain ⟨bp, hpa, hbp, hq0, hq1⟩ := (HRC.out.below B03.out).at (j := 0) (by simp)
  subst hpa
  have hq0' : w3.cell? ⟨bp, 0, none⟩ = some (.string ⟨p'.1.toArray⟩) := by simpa using hq0
  have hq1' : w3.cell? ⟨bp, 1, none⟩ = some (.string ⟨p'.2.toArray⟩) := by simpa using hq1
  have cv1 : ∀ n, (convert 46 9 (.slice A x1 c)).run Tryz.prog (w3.drewN n) = .ok (.string ⟨p.1.toArray⟩) (w3.drewN n) := fun n => by
    rw [HX.out.1]
    exact conv_any (HAB.out.1.below (below_drewN (Below.refl _ _) n)) c
  have cv2 : ∀ n, (convert 46 9 (.slice B x2 d)).run Tryz.prog (w3.drewN n) = .ok (.string ⟨p.2.toArray⟩) (w3.drewN n) := fun n => by
    rw [HX.out.2]
    exact conv_any (HAB.out.2.below (below_drewN (Below.refl _ _) n)) d
  have cv3 := fun n => cv1 (nq + n)
  have cv4 := fun n => cv2 (nq + n)
  simp only [← World.drewN_drewN] at cv3 cv4
  obtain ⟨s1, hs1⟩ : ∃ s : ByteArray, s = ⟨p.1.toArray⟩ := ⟨_, rfl⟩
  obtain ⟨s2, hs2⟩ : ∃ s : ByteArray, s = ⟨p.2.toArray⟩ := ⟨_, rfl⟩
  obtain ⟨z1, hz1⟩ : ∃ s : ByteArray, s = ⟨p'.1.toArray⟩ := ⟨_, rfl⟩
  obtain ⟨z2, hz2⟩ : ∃ s : ByteArray, s = ⟨p'.2.toArray⟩ := ⟨_, rfl⟩
  rw [← hz1] at hq0'
  rw [← hz2] at hq1'
  simp only [← hs1] at cv1 cv3
  simp only [← hs2] at cv2 cv4
  have g1 : (s1.toList == z1.toList) = decide (p.1 = p'.1) := by
    rw [hs1, hz1]
    by_cases e : p.1 = p'.1
    · rw [e, decide_eq_true rfl]; simp
    · rw [decide_eq_false e]; exact bs_ne e
  have g2 : (s2.toList == z2.toList) = decide (p.2 = p'.2) := by
    rw [hs2, hz2]
    by_cases e : p.2 = p'.2
    · rw [e, decide_eq_true rfl]; simp
    · rw [decide_eq_false e]; exact bs_ne e
  have hvv := HVV.out
  clear HVV
  generalize decide (p.1 = p'.1) = d1 at g1 hvv
  generalize decide (p.2 = p'.2) = d2 at g2 hvv
  have HVV := Lib.hid hvv; clear hvv
  clear hq0 hq1 hs1 hs2 hz1 hz2 HRC
  cases d1 with
  | false =>
    go_wp2_with fail
    go_quiet (fail)
    go_wp2_with fail
    go_ret
    exact ⟨by rw [HVV.out]; rfl, below_drewN (below_drewN B03.out _) _⟩
  | true =>
    cases d2 with
    | false =>
      go_wp2_with fail
      go_quiet (fail)
      go_wp2_with fail
      go_ret
      exact ⟨by rw [HVV.out]; rfl, below_drewN (below_drewN B03.out _) _⟩
    | true =>
      go_wp2_with fail
      go_quiet (fail)
      go_wp2_with fail
      go_ret
      exact ⟨by rw [HVV.out]; rfl, below_drewN (below_drewN B03.out _) _⟩
theorem likes_buck {F G : Nat → Prop} {w : World} (h : Nat) (L M : List Pr) {v : Value} {r : RN} (hn : Nde F w (.buck h L) v) (ho : Nd.ok (.buck h L)) (hM : M.length ≤ 1000) (hm : Mde G w (.buck h M) r) : Likes w (.buck h L) (.buck h M) v r := by
  unfold Likes
  have hrc := hm.1
  have hL := ho
  have hv0 : (Nd.buck h L).like (.buck h M) = decide (L = M) := by rw [Nd.like, decide_eq_true rfl, Bool.true_and]
  rw [hv0]
  clear hv0
  obtain ⟨vv, hvv⟩ : ∃ b, b = decide (L = M) := ⟨_, rfl⟩
  rw [← hvv]
  have HVV := Lib.hid hvv; clear hvv
  obtain ⟨pa, pc, sa, sc, ka, kc⟩ := r
  show Calls Tryz.prog 11 #[v, .agg #[.int .i64 2, .int .u64 (h : Int), .slice pa M.length pc, .slice sa 0 sc, .slice ka 0 kc]] w _
  obtain ⟨nl, hnl⟩ : ∃ x : Nat, x = L.length := ⟨_, rfl⟩
  obtain ⟨nm, hnm⟩ : ∃ x : Nat, x = M.length := ⟨_, rfl⟩
  rw [← hnm]
  have HNL := Lib.hid hnl; clear hnl
  have HNM := Lib.hid (And.intro hnm hM); clear hnm hM
  have hh : ∀ W, Below w.heap.size w W → Calls Tryz.prog 21 #[v] W fun e w' => e = .returned (.tuple #[.int .u64 (h : Int), .bool true]) ∧ W = w' := fun W hW => hash_any (hn.below hW)
  have hp : ∀ W, Below w.heap.size w W → Calls Tryz.prog 22 #[v] W fun e w' => ∃ A B c d, e = .returned (.tuple #[.agg #[.slice A 0 c, .slice B 0 d], .bool false]) ∧ Bts w' A [] ∧ Bts w' B [] ∧ Below W.heap.size W w' := fun W hW => pair_any (hn.below hW) ho
  have htr : ∀ W, Below w.heap.size w W → Calls Tryz.prog 23 #[v] W fun e w' => (∃ p, e = .returned (.tuple #[.pointer p, .bool true]) ∧ ∃ t, Tre F W t p ∧ t.even ∧ t.list = L) ∧ W = w' := fun W hW => (tree_any (hn.below hW)).mono fun e w' ⟨⟨p, h1, h2⟩, h3⟩ => ⟨⟨p, h1, by
    rcases h2 with ⟨k1, k2⟩ | ⟨t, k1, k2, k3, k4⟩
    · first | exact k2 | exact absurd rfl k1
    · first | exact ⟨t, k1, k2, k3⟩ | cases k4⟩, h3⟩
  have hmp : ∀ W, Below w.heap.size w W → Calls Tryz.prog 24 #[v] W fun e w' => e = .returned (.tuple #[.int .u32 0, .bool false]) ∧ W = w' := fun W hW => map_any (hn.below hW)
  obtain ⟨gb, hgb⟩ : ∃ gb, gb = w.heap.size := ⟨_, rfl⟩
  obtain ⟨w1, hw1⟩ : ∃ w1, w1 = w.alloc (.cells #[.int .i64 2, .int .u64 (h : Int), .slice pa nm pc, .slice sa 0 sc, .slice ka 0 kc] 33) := ⟨_, rfl⟩
  have hb1 : Below w.heap.size w w1 := by rw [hw1]; exact (Below.refl _ _).alloc (Nat.le_refl _) _
  have hs1 : w1.heap.size = gb + 1 := by rw [hw1, hgb]; simp
  have r1 : w1.heap[gb]? = some (.cells #[.int .i64 2, .int .u64 (h : Int), .slice pa nm pc, .slice sa 0 sc, .slice ka 0 kc] 33 (0, 0)) := by rw [hw1, hgb]; exact heap_alloc_new w _
  have hrow : ∀ W, Below w1.heap.size w1 W → W.cell? ⟨gb, 0, none⟩ = some (.int .i64 2) ∧ W.cell? ⟨gb, 1, none⟩ = some (.int .u64 (h : Int)) ∧ W.cell? ⟨gb, 2, none⟩ = some (.slice pa nm pc) ∧ W.cell? ⟨gb, 3, none⟩ = some (.slice sa 0 sc) ∧ W.cell? ⟨gb, 4, none⟩ = some (.slice ka 0 kc) := fun W hW => (row5 ((hW.block gb (by omega)).trans r1)).1
  have HH := Lib.hid hh; clear hh
  have HP := Lib.hid hp; clear hp
  have HT := Lib.hid htr; clear htr
  have HM := Lib.hid hmp; clear hmp
  have HR := Lib.hid hrow; clear hrow
  have HB1 := Lib.hid hb1; clear hb1
  have HW := Lib.hid hw1; clear hw1
  have HS1 := Lib.hid hs1; clear hs1
  have HGB := Lib.hid hgb; clear hgb
  clear r1
  obtain ⟨b, _, _, hv, _⟩ := hn
  subst hv
  have e1 := eq_some 108 (.pointer (some ⟨b, 0, none⟩))
  have m1 := kind91 (some ⟨b, 0, none⟩)
  have hk := fun W => turned (kindOf91 (some ⟨b, 0, none⟩) W)
  have HK := Lib.hid hk; clear hk
  have hu : ((h : Int) != (h : Int)) = false := by simp
  have HRC := Lib.hid hrc; clear hrc
  have HL := Lib.hid hL; clear hL
  clear hm ho
  go_enter Tryz.func11, Tryz.ntmps11
  go_wp2_with fail
  simp only [← HGB.out] at HW ⊢
  rw [← HW.out]
  refine (HH.out w1 HB1.out).mono ?_
  rintro e w' ⟨rfl, rfl⟩
  go_wp2_with fail
  refine (HP.out w1 HB1.out).mono ?_
  rintro e w2 ⟨A, B, c, d, rfl, hA, hB, b2⟩
  obtain ⟨gp, hgp⟩ : ∃ gp, gp = w2.heap.size := ⟨_, rfl⟩
  obtain ⟨w3, hw3⟩ : ∃ w3, w3 = w2.alloc (.cells #[.slice A 0 c, .slice B 0 d] 48) := ⟨_, rfl⟩
  have b23 : Below w2.heap.size w2 w3 := by rw [hw3]; exact (Below.refl _ _).alloc (Nat.le_refl _) _
  have hs3 : w3.heap.size = gp + 1 := by rw [hw3, hgp]; simp
  have r3 : w3.heap[gp]? = some (.cells #[.slice A 0 c, .slice B 0 d] 48 (0, 0)) := by rw [hw3, hgp]; exact heap_alloc_new w2 _
  have b13 := below_then b2 b23
  have B03 := Lib.hid (below_then HB1.out b13)
  have B13 := Lib.hid b13
  have HAB := Lib.hid (And.intro (hA.below b23) (hB.below b23))
  have HR3 : Hid (∀ W, Below w3.heap.size w3 W → W.cell? ⟨gp, 0, none⟩ = some (.slice A 0 c) ∧ W.cell? ⟨gp, 1, none⟩ = some (.slice B 0 d)) := fun W hW => by
    obtain ⟨k1, k2, _, _⟩ := row2 ((hW.block gp (by omega)).trans r3)
    exact ⟨k1, k2⟩
  have HW3 := Lib.hid hw3; clear hw3
  have HGP := Lib.hid hgp; clear hgp
  clear hA hB b2 b23 b13 r3
  go_wp2_with fail
  simp only [← HGP.out] at HW3 ⊢
  rw [← HW3.out]
  refine (HT.out w3 B03.out).mono ?_
  rintro e w' ⟨⟨tp, rfl, htr⟩, rfl⟩
  obtain ⟨t, t1, t2, t3⟩ := htr
  subst t3
  have hq := HL.out
  have hsz : t.size ≤ 100 := by rw [← Tr.length]; exact hq.2.2.1
  have k1 := fun W (hW : Below w3.heap.size w3 W) => sound_any (t1.below hW) (by omega) t2 hq.2.2.2.1
  have k2 := fun W (hW : Below w3.heap.size w3 W) => list_any (t1.below hW) (by omega) hq.2.2.2.2
  have k3 : ∀ W (A' : Option Addr) (c' : Nat), Below w3.heap.size w3 W → Pcs W A' t.list → Calls Tryz.prog 26 #[.slice A' nl c', .slice pa nm pc] W fun e w' => e = .returned (.bool vv) ∧ Below W.heap.size W w' := fun W A' c' hW hA => by
    have := refIs_any hA ((HRC.out.below B03.out).below hW) c' pc HNM.out.2
    rw [← HNL.out, ← HNM.out.1, ← HVV.out] at this
    exact this
  simp only [← HNL.out] at k2
  have K1 := Lib.hid k1; clear k1
  have K2 := Lib.hid k2; clear k2
  have K3 := Lib.hid k3; clear k3
  clear t1 t2 hq hsz
  go_wp2_with fail
  refine (HM.out w3 B03.out).mono ?_
  rintro e w' ⟨rfl, rfl⟩
  obtain ⟨c0, c1, c2, c3, c4⟩ := HR.out w3 B13.out
  obtain ⟨d0, d1⟩ := HR3.out w3 (Below.refl _ _)
  go_wp2_with fail
  go_quiet (first | (go_at_call 143; refine Calls.quiet_of_same (HK.out _)))
  have hbq : Below w3.heap.size w3 (w3.drewN nq) := below_drewN (Below.refl _ _) nq
  have HBQ := Lib.hid hbq; clear hbq
  clear d0 d1 c1 c3 c4
  go_wp2_with fail
  have hz0 : Below w3.heap.size w3 (w3.drewN nq).drew := HBQ.out.drew
  have hcel : ∀ W, Below w3.heap.size w3 W → W.cell? ⟨gb, 2, none⟩ = some (.slice pa nm pc) := fun W hW => (HR.out W (B13.out.trans (hW.mono B13.out.size))).2.2.1
  have HCEL := Lib.hid hcel; clear hcel
  go_region_held3 (fun W => W.cell? ⟨gb, 2, none⟩ = some (.slice pa nm pc)) (first | (exact HCEL.out _ hz0) | (with_reducible exact HCEL.out _ hzA) | (with_reducible exact HCEL.out _ hzB) | (with_reducible exact HCEL.out _ hzC)) (first
    | (go_at_call 25; refine (K1.out _ hz0).mono ?_; rintro e wA ⟨rfl, hA⟩; have hzA := hz0.trans (hA.mono hz0.size))
    | (go_at_call 27; refine (K2.out _ hzA).mono ?_; rintro e wB ⟨Ab, cb, rfl, hfr, hB⟩; have hzB := hzA.trans (hB.mono hzA.size))
    | (go_at_call 26; refine (K3.out _ _ _ hzB hfr.pcs).mono ?_; rintro e wC ⟨rfl, hC⟩; have hzC := hzB.trans (hC.mono hzB.size)))
  all_goals
    go_wp2_with fail
    go_ret
    exact ⟨rfl, below_then B03.out hzC⟩
attribute [local irreducible] Bt.lst
theorem likes_bran {F G : Nat → Prop} {w : World} (m k : Nat) (kid kid' : Nat → Nd) {v : Value} {r : RN} (hn : Nde F w (.bran m k kid) v) (ho : Nd.ok (.bran m k kid)) (hm : Mde G w (.bran m k kid') r)
    (ih : ∀ i, i < k → ∀ (W : World) (u : Value) (q : RN), Nde F W (kid i) u → Mde G W (kid' i) q → Likes W (kid i) (kid' i) u q) : Likes w (.bran m k kid) (.bran m k kid') v r := by
  unfold Likes
  have hv0 : (Nd.bran m k kid).like (.bran m k kid') = allTo (fun i => (kid i).like (kid' i)) k := by rw [Nd.like, decide_eq_true rfl, Bool.true_and]
  rw [hv0]
  clear hv0
  obtain ⟨al, hal⟩ : ∃ al, al = allTo (fun i => (kid i).like (kid' i)) k := ⟨_, rfl⟩
  rw [← hal]
  obtain ⟨L, hL⟩ : ∃ L, L = Bt.lst m 32 := ⟨_, rfl⟩
  have hin : ∀ W, Below w.heap.size w W → ∀ z : Int, z ∈ L → Calls Tryz.prog 29 #[v, .int .i64 z] W fun e w' => (∃ vk, e = .returned (.tuple #[vk, .bool true]) ∧ Nde F W (kid (Bt.less L z)) vk) ∧ ∃ n, w' = W.drewN n := fun W hW z hz => by
    have := kid_any z (hn.below hW) ho
    have hz' : z ∈ (Nd.bran m k kid).set := by rw [hL] at hz; exact hz
    rw [decide_eq_true hz', if_pos hz'] at this
    rw [hL]
    exact this
  have hout : ∀ W, Below w.heap.size w W → ∀ z : Int, ¬ z ∈ L → Calls Tryz.prog 29 #[v, .int .i64 z] W fun e w' => e = .returned (.tuple #[.nilIface, .bool false]) ∧ ∃ n, w' = W.drewN n := fun W hW z hz => by
    have := kid_any z (hn.below hW) ho
    have hz' : ¬ z ∈ (Nd.bran m k kid).set := by rw [hL] at hz; exact hz
    rw [decide_eq_false hz', if_neg hz'] at this
    exact this.mono fun e w' ⟨⟨vk, h1, h2⟩, h3⟩ => ⟨by rw [h1, show vk = .nilIface from h2], h3⟩
  have hset := hm.set
  have hch := fun W (hW : Below w.heap.size w W) (i : Nat) (hi : i < k) => (Mde.below hW hm).child (i := i) hi
  have hlen : L.length = k := by rw [hL]; exact ho.2.2.1
  have hk32 : k ≤ 32 := by have := Bt.list_le m 32; have := ho.2.2.1; omega
  have hok := fun i (hi : i < k) => (ho.2.2.2 i hi).2
  have hnum : Bt.num L 32 = m := by rw [hL]; exact Bt.num_lst m ho.1
  have hlg : ∀ j (hj : j < L.length), Bt.less L L[j] = j := fun j hj => by subst hL; exact Bt.less_get m 32 j hj
  have hlm : ∀ z, z ∈ L → Bt.less L z < k := fun z hz => by
    obtain ⟨j, hj, rfl⟩ := List.getElem_of_mem hz
    rw [hlg j hj]; omega
  have hset' : Bt.Ints w r.sa L := by rw [hL]; exact hset
  obtain ⟨nl, hnl⟩ : ∃ x : Nat, x = L.length := ⟨_, rfl⟩
  have ho0 := ho
  obtain ⟨pa, pc, sa, sc, ka, kc⟩ := r
  have hh : ∀ W, Below w.heap.size w W → Calls Tryz.prog 21 #[v] W fun e w' => e = .returned (.tuple #[.int .u64 0, .bool false]) ∧ W = w' := fun W hW => hash_any (hn.below hW)
  have hp : ∀ W, Below w.heap.size w W → Calls Tryz.prog 22 #[v] W fun e w' => ∃ A B c d, e = .returned (.tuple #[.agg #[.slice A 0 c, .slice B 0 d], .bool false]) ∧ Bts w' A [] ∧ Bts w' B [] ∧ Below W.heap.size W w' := fun W hW => pair_any (hn.below hW) ho
  have htr : ∀ W, Below w.heap.size w W → Calls Tryz.prog 23 #[v] W fun e w' => (∃ p, e = .returned (.tuple #[.pointer p, .bool false]) ∧ p = none) ∧ W = w' := fun W hW => (tree_any (hn.below hW)).mono fun e w' ⟨⟨p, h1, h2⟩, h3⟩ => ⟨⟨p, h1, by
    rcases h2 with ⟨k1, k2⟩ | ⟨t, k1, k2, k3, k4⟩
    · first | exact k2 | exact absurd rfl k1
    · first | exact ⟨t, k1, k2, k3⟩ | cases k4⟩, h3⟩
  have hmp : ∀ W, Below w.heap.size w W → Calls Tryz.prog 24 #[v] W fun e w' => e = .returned (.tuple #[.int .u32 (m : Int), .bool true]) ∧ W = w' := fun W hW => map_any (hn.below hW)
  have hall : (∀ i, (hi : i < L.length) → L[i] < 33 → (kid i).like (kid' i) = true) → al = true := fun h => by
    rw [hal, allTo_iff]
    intro i hi
    refine h i (by omega) ?_
    have := Bt.lst_lt m 32 (L[i]'(by omega)) (by subst hL; exact List.getElem_mem _)
    omega
  have hone : ∀ i, i < k → (kid i).like (kid' i) = false → al = false := fun i hi h => by rw [hal]; exact allTo_false hi h
  have hat : ∀ z i (hi : i < L.length), L[i] < z + 1 → L[i] < z ∨ i = Bt.less L z := fun z i hi h => by
    by_cases e : L[i] < z
    · exact .inl e
    · have e2 : L[i] = z := by omega
      exact .inr (by rw [← e2, hlg i hi])
  rw [show RN.agg ⟨pa, pc, sa, sc, ka, kc⟩ (.bran m k kid') = .agg #[.int .i64 3, .int .u64 0, .slice pa 0 pc, .slice sa nl sc, .slice ka k kc] by rw [hnl, hL]; rfl]
  obtain ⟨gb, hgb⟩ : ∃ gb, gb = w.heap.size := ⟨_, rfl⟩
  obtain ⟨w1, hw1⟩ : ∃ w1, w1 = w.alloc (.cells #[.int .i64 3, .int .u64 0, .slice pa 0 pc, .slice sa nl sc, .slice ka k kc] 33) := ⟨_, rfl⟩
  have hb1 : Below w.heap.size w w1 := by rw [hw1]; exact (Below.refl _ _).alloc (Nat.le_refl _) _
  have hs1 : w1.heap.size = gb + 1 := by rw [hw1, hgb]; simp
  have r1 : w1.heap[gb]? = some (.cells #[.int .i64 3, .int .u64 0, .slice pa 0 pc, .slice sa nl sc, .slice ka k kc] 33 (0, 0)) := by rw [hw1, hgb]; exact heap_alloc_new w _
  have hrow : ∀ W, Below w1.heap.size w1 W → W.cell? ⟨gb, 0, none⟩ = some (.int .i64 3) ∧ W.cell? ⟨gb, 1, none⟩ = some (.int .u64 0) ∧ W.cell? ⟨gb, 2, none⟩ = some (.slice pa 0 pc) ∧ W.cell? ⟨gb, 3, none⟩ = some (.slice sa nl sc) ∧ W.cell? ⟨gb, 4, none⟩ = some (.slice ka k kc) := fun W hW => (row5 ((hW.block gb (by omega)).trans r1)).1
  have HH := Lib.hid hh; clear hh
  have HP := Lib.hid hp; clear hp
  have HT := Lib.hid htr; clear htr
  have HM := Lib.hid hmp; clear hmp
  have HR := Lib.hid hrow; clear hrow
  have HB1 := Lib.hid hb1; clear hb1
  have HW := Lib.hid hw1; clear hw1
  have HS1 := Lib.hid hs1; clear hs1
  have HGB := Lib.hid hgb; clear hgb
  clear r1
  have HNL := Lib.hid hnl; clear hnl
  have HLK := Lib.hid hlen; clear hlen
  obtain ⟨b, _, _, hv, _⟩ := hn
  subst hv
  have e1 := eq_some 114 (.pointer (some ⟨b, 0, none⟩))
  have e2 := ne_none
  have m1 := kind100 (some ⟨b, 0, none⟩)
  have hk := fun W => turned (kindOf100 (some ⟨b, 0, none⟩) W)
  have HK := Lib.hid hk; clear hk
  have hu : ((m : Int) != (m : Int)) = false := by simp
  have hnb := fun W (hW : Below w.heap.size w W) => Bt.number_any L sa sc W (hset'.below hW) (by have := HLK.out; omega) m hnum.symm
  simp only [← HNL.out] at hnb
  have HNB := Lib.hid hnb; clear hnb
  have HIN := Lib.hid hin; clear hin
  have HOUT := Lib.hid hout; clear hout
  have HCH := Lib.hid hch; clear hch
  have HOK := Lib.hid hok; clear hok
  have HLG := Lib.hid hlg; clear hlg
  have HLM := Lib.hid hlm; clear hlm
  have HIH := Lib.hid ih; clear ih
  have HSET := Lib.hid hset'; clear hset' hset
  have HK32 := Lib.hid hk32; clear hk32
  have HLZ : Hid (∀ i, (hi : i < L.length) → 0 ≤ L[i]) := fun i hi => (Bt.lst_lt m 32 L[i] (by subst hL; exact List.getElem_mem _)).1
  have HALL := Lib.hid (And.intro hall (And.intro hone hat)); clear hall hone hat hal
  clear hm ho ho0 hnum hL
  go_enter Tryz.func11, Tryz.ntmps11
  go_wp2_with fail
  simp only [← HGB.out] at HW ⊢
  rw [← HW.out]
  refine (HH.out w1 HB1.out).mono ?_
  rintro e w' ⟨rfl, rfl⟩
  go_wp2_with fail
  refine (HP.out w1 HB1.out).mono ?_
  rintro e w2 ⟨A, B, c, d, rfl, hA, hB, b2⟩
  obtain ⟨gp, hgp⟩ : ∃ gp, gp = w2.heap.size := ⟨_, rfl⟩
  obtain ⟨w3, hw3⟩ : ∃ w3, w3 = w2.alloc (.cells #[.slice A 0 c, .slice B 0 d] 48) := ⟨_, rfl⟩
  have b23 : Below w2.heap.size w2 w3 := by rw [hw3]; exact (Below.refl _ _).alloc (Nat.le_refl _) _
  have hs3 : w3.heap.size = gp + 1 := by rw [hw3, hgp]; simp
  have r3 : w3.heap[gp]? = some (.cells #[.slice A 0 c, .slice B 0 d] 48 (0, 0)) := by rw [hw3, hgp]; exact heap_alloc_new w2 _
  have b13 := below_then b2 b23
  have B03 := Lib.hid (below_then HB1.out b13)
  have B13 := Lib.hid b13
  have HAB := Lib.hid (And.intro (hA.below b23) (hB.below b23))
  have HR3 : Hid (∀ W, Below w3.heap.size w3 W → W.cell? ⟨gp, 0, none⟩ = some (.slice A 0 c) ∧ W.cell? ⟨gp, 1, none⟩ = some (.slice B 0 d)) := fun W hW => by
    obtain ⟨k1, k2, _, _⟩ := row2 ((hW.block gp (by omega)).trans r3)
    exact ⟨k1, k2⟩
  have HW3 := Lib.hid hw3; clear hw3
  have HGP := Lib.hid hgp; clear hgp
  clear hA hB b2 b23 b13 r3
  go_wp2_with fail
  simp only [← HGP.out] at HW3 ⊢
  rw [← HW3.out]
  refine (HT.out w3 B03.out).mono ?_
  rintro e w' ⟨⟨tp, rfl, htr⟩, rfl⟩
  subst htr
  go_wp2_with fail
  refine (HM.out w3 B03.out).mono ?_
  rintro e w' ⟨rfl, rfl⟩
  obtain ⟨c0, c1, c2, c3, c4⟩ := HR.out w3 B13.out
  obtain ⟨d0, d1⟩ := HR3.out w3 (Below.refl _ _)
  go_wp2_with fail
  go_quiet (first | (go_at_call 145; refine Calls.quiet_of_same (HK.out _)))
  have hbq : Below w.heap.size w (w3.drewN nq) := below_drewN B03.out nq
  have hbq1 : Below w1.heap.size w1 (w3.drewN nq) := below_drewN B13.out nq
  obtain ⟨w4, hw4⟩ : ∃ w4, w4 = w3.drewN nq := ⟨_, rfl⟩
  rw [← hw4] at hbq hbq1 ⊢
  obtain ⟨c0', c1', c2', c3', c4'⟩ := HR.out w4 hbq1
  have HBQ := Lib.hid (And.intro hbq hbq1); clear hbq hbq1
  clear c0 c1 c2 c3 c4 d0 d1 hw4
  go_wp2_with fail
  refine (HNB.out w4 HBQ.out.1).mono ?_
  rintro e w' ⟨rfl, rfl⟩
  go_wp2_with fail
  go_loopw [13] (fun u wr => ∃ z : Int, u = .int .i64 z ∧ -1 ≤ z ∧ z ≤ 33 ∧ Hid (∀ i, (hi : i < L.length) → L[i] < z → (kid i).like (kid' i) = true) ∧ Hid (Below w4.heap.size w4 wr)) (fun u _ => (33 - intOf u).toNat)
  case atStart => exact ⟨-1, rfl, by omega, by omega, fun i hi h => absurd (HLZ.out i hi) (by omega), Below.refl _ _⟩
  case round =>
    obtain ⟨z, rfl, hz1, hz2, hlk, hbel⟩ := hrel
    clear c0' c1' c2' c3' c4'
    by_cases hlt : z < 33
    · have hb0 := below_then HBQ.out.1 hbel.out
      have hb1 := HBQ.out.2.trans (hbel.out.mono HBQ.out.2.size)
      by_cases hmem : z ∈ L
      · have J := Lib.hid (HIN.out wr hb0 z hmem)
        have HB0 := Lib.hid hb0; clear hb0
        have HBR := Lib.hid hb1; clear hb1
        have HMEM := Lib.hid hmem; clear hmem
        go_wp2_with fail
        refine J.out.mono ?_
        rintro e w5 ⟨⟨vk, rfl, hvk⟩, n5, hw5⟩
        have h05 : Below wr.heap.size wr w5 := by rw [hw5]; exact below_drewN (Below.refl _ _) n5
        have h5 := below_then HB0.out h05
        have h51 := HBR.out.trans (h05.mono HBR.out.size)
        obtain ⟨c0, c1, c2, c3, c4⟩ := HR.out w5 h51
        have HV := Lib.hid (hvk.below h05)
        have H5 := Lib.hid h5
        have H45 := Lib.hid (hbel.out.trans (h05.mono hbel.out.size))
        clear hvk h05 h51 J hw5 c0 c1 c2
        have hn32 : nl ≤ 32 := by have := HK32.out; have := HLK.out; have := HNL.out; omega
        go_wp2_with fail
        go_loop [16, 177] (fun a i => ∃ (j : Nat) (ps : Int), i = .int .i64 (j : Int) ∧ a = .int .i64 ps ∧ j ≤ nl ∧ -1 ≤ ps ∧ ps ≤ 32 ∧ Hid (ps = if z ∈ L.take j then (Bt.less L z : Int) else -1)) (fun _ i => nl - (intOf i).toNat)
        case atStart => exact ⟨0, -1, rfl, rfl, by omega, by omega, by omega, by simp [Hid]⟩
        case round =>
          obtain ⟨j, ps, rfl, rfl, hj, hp1, hp2, hpv⟩ := hrel
          by_cases hjl : j < nl
          · have hjL : j < L.length := by have := HNL.out; omega
            obtain ⟨bs, os, hsa, hcs⟩ := (HSET.out.below H5.out).at_ j hjL
            have hlg := HLG.out j hjL
            have htk : z ∈ L.take (j + 1) ↔ z ∈ L.take j ∨ z = L[j] := Bt.mem_take_succ hjL z
            obtain ⟨y, hy⟩ : ∃ y, y = L[j] := ⟨_, rfl⟩
            rw [← hy] at hcs hlg htk
            subst hsa
            have HLJ := Lib.hid hlg; clear hlg
            have HTK := Lib.hid htk; clear htk
            clear hy
            by_cases hyz : y = z
            · subst hyz
              go_wp2_with fail
              go_round
              case rel => exact ⟨j + 1, (j : Int), by go_num, rfl, by omega, by omega, by have := HK32.out; have := HLK.out; have := HNL.out; omega, by show _ = _; rw [if_pos (HTK.out.2 (.inr rfl)), HLJ.out]⟩
              case measure => simp [intOf]; omega
            · have hne : ((y : Int) == z) = false := by simpa using hyz
              have HYZ := Lib.hid hyz; clear hyz
              go_wp2_with fail
              go_round
              case rel => exact ⟨j + 1, ps, by go_num, rfl, by omega, hp1, hp2, by
                show _ = _
                rw [hpv.out]
                by_cases e : z ∈ L.take j
                · rw [if_pos e, if_pos (HTK.out.2 (.inl e))]
                · rw [if_neg e, if_neg fun e2 => (HTK.out.1 e2).elim e fun e3 => HYZ.out e3.symm]⟩
              case measure => simp [intOf]; omega
          · obtain rfl : nl = j := by omega
            have hlm := HLM.out z HMEM.out
            have hps : ps = (Bt.less L z : Int) := by rw [hpv.out, List.take_of_length_le (by have := HNL.out; omega), if_pos HMEM.out]
            obtain ⟨a, ha⟩ : ∃ a, a = Bt.less L z := ⟨_, rfl⟩
            rw [← ha] at hps hlm
            subst hps
            obtain ⟨g, hka, hg, ⟨pa5, pc5, sa5, sc5, ka5, kc5⟩, ⟨q0, q1, q2, q3, q4⟩, hm5⟩ := HCH.out w5 H5.out a hlm
            subst hka
            have K := HIH.out a hlm w5 vk ⟨pa5, pc5, sa5, sc5, ka5, kc5⟩ (by rw [ha]; exact HV.out) hm5
            unfold Likes at K
            have ekid : (Nd.bran m k kid').kid a = kid' a := rfl
            rw [ekid] at q0 q1 q2 q3 q4
            simp only [RN.agg] at K
            obtain ⟨k0, hk0⟩ : ∃ k, k = (kid' a).kind := ⟨_, rfl⟩
            obtain ⟨k1, hk1⟩ : ∃ k, k = (kid' a).hash := ⟨_, rfl⟩
            obtain ⟨k2, hk2⟩ : ∃ k, k = (kid' a).prs.length := ⟨_, rfl⟩
            obtain ⟨k3, hk3⟩ : ∃ k, k = (kid' a).set.length := ⟨_, rfl⟩
            obtain ⟨k4, hk4⟩ : ∃ k, k = (kid' a).num := ⟨_, rfl⟩
            simp only [← hk0, ← hk1, ← hk2, ← hk3, ← hk4] at K
            rw [← hk0] at q0
            rw [← hk1] at q1
            rw [← hk2] at q2
            rw [← hk3] at q3
            rw [← hk4] at q4
            obtain ⟨lk, hlke⟩ : ∃ b, b = (kid a).like (kid' a) := ⟨_, rfl⟩
            rw [← hlke] at K
            have HKK := Lib.hid K; clear K
            have HA := Lib.hid ha
            have HLK2 := Lib.hid (And.intro hlm hlke)
            clear hk0 hk1 hk2 hk3 hk4 hm5 ha ekid hpv hlke
            cases lk with
            | true =>
              go_wp2_with fail
              refine HKK.out.mono ?_
              rintro e w6 ⟨rfl, hb6⟩
              have HB6 := Lib.hid (H45.out.trans (hb6.mono H45.out.size)); clear hb6
              go_wp2_with fail
              go_roundw
              case rel =>
                refine ⟨z + 1, by go_num, by omega, by omega, fun i hi h => ?_, HB6.out⟩
                rcases HALL.out.2.2 z i hi h with e | e
                · exact hlk.out i hi e
                · rw [e, ← HA.out]; exact HLK2.out.2.symm
              case measure => simp [intOf]; omega
            | false =>
              have hal : al = false := HALL.out.2.1 a HLK2.out.1 HLK2.out.2.symm
              have HAL := Lib.hid hal; clear hal
              go_wp2_with fail
              refine HKK.out.mono ?_
              rintro e w6 ⟨rfl, hb6⟩
              have HB6 := Lib.hid (H45.out.trans (hb6.mono H45.out.size)); clear hb6
              go_wp2_with fail
              go_ret
              exact ⟨by rw [HAL.out]; rfl, below_then HBQ.out.1 HB6.out⟩
      · have J := Lib.hid (HOUT.out wr hb0 z hmem)
        have HB0 := Lib.hid hb0; clear hb0
        have HBR := Lib.hid hb1; clear hb1
        have HMEM := Lib.hid hmem; clear hmem
        go_wp2_with fail
        refine J.out.mono ?_
        rintro e w5 ⟨rfl, n5, hw5⟩
        have h05 : Below wr.heap.size wr w5 := by rw [hw5]; exact below_drewN (Below.refl _ _) n5
        have h5 := below_then HB0.out h05
        have h51 := HBR.out.trans (h05.mono HBR.out.size)
        obtain ⟨c0, c1, c2, c3, c4⟩ := HR.out w5 h51
        have H5 := Lib.hid h5
        have H45 := Lib.hid (hbel.out.trans (h05.mono hbel.out.size))
        clear h05 h51 J hw5 c0 c1 c2
        have hn32 : nl ≤ 32 := by have := HK32.out; have := HLK.out; have := HNL.out; omega
        go_wp2_with fail
        go_loop [16, 177] (fun a i => ∃ (j : Nat) (ps : Int), i = .int .i64 (j : Int) ∧ a = .int .i64 ps ∧ j ≤ nl ∧ -1 ≤ ps ∧ ps ≤ 32 ∧ Hid (ps = if z ∈ L.take j then (Bt.less L z : Int) else -1)) (fun _ i => nl - (intOf i).toNat)
        case atStart => exact ⟨0, -1, rfl, rfl, by omega, by omega, by omega, by simp [Hid]⟩
        case round =>
          obtain ⟨j, ps, rfl, rfl, hj, hp1, hp2, hpv⟩ := hrel
          by_cases hjl : j < nl
          · have hjL : j < L.length := by have := HNL.out; omega
            obtain ⟨bs, os, hsa, hcs⟩ := (HSET.out.below H5.out).at_ j hjL
            have hlg := HLG.out j hjL
            have htk : z ∈ L.take (j + 1) ↔ z ∈ L.take j ∨ z = L[j] := Bt.mem_take_succ hjL z
            obtain ⟨y, hy⟩ : ∃ y, y = L[j] := ⟨_, rfl⟩
            rw [← hy] at hcs hlg htk
            subst hsa
            have HLJ := Lib.hid hlg; clear hlg
            have HTK := Lib.hid htk; clear htk
            clear hy
            by_cases hyz : y = z
            · subst hyz
              go_wp2_with fail
              go_round
              case rel => exact ⟨j + 1, (j : Int), by go_num, rfl, by omega, by omega, by have := HK32.out; have := HLK.out; have := HNL.out; omega, by show _ = _; rw [if_pos (HTK.out.2 (.inr rfl)), HLJ.out]⟩
              case measure => simp [intOf]; omega
            · have hne : ((y : Int) == z) = false := by simpa using hyz
              have HYZ := Lib.hid hyz; clear hyz
              go_wp2_with fail
              go_round
              case rel => exact ⟨j + 1, ps, by go_num, rfl, by omega, hp1, hp2, by
                show _ = _
                rw [hpv.out]
                by_cases e : z ∈ L.take j
                · rw [if_pos e, if_pos (HTK.out.2 (.inl e))]
                · rw [if_neg e, if_neg fun e2 => (HTK.out.1 e2).elim e fun e3 => HYZ.out e3.symm]⟩
              case measure => simp [intOf]; omega
          · obtain rfl : nl = j := by omega
            have hps : ps = -1 := by rw [hpv.out, List.take_of_length_le (by have := HNL.out; omega), if_neg HMEM.out]
            subst hps
            clear hpv
            go_wp2_with fail
            go_roundw
            case rel =>
              refine ⟨z + 1, by go_num, by omega, by omega, fun i hi h => ?_, H45.out⟩
              by_cases e : L[i] < z
              · exact hlk.out i hi e
              · exact absurd (by have e2 : L[i] = z := by omega
                                 rw [← e2]; exact List.getElem_mem hi) HMEM.out
            case measure => simp [intOf]; omega
    · obtain rfl : z = 33 := by omega
      have hal : al = true := HALL.out.1 hlk.out
      have HAL := Lib.hid hal; clear hal
      go_wp2_with fail
      go_ret
      exact ⟨by rw [HAL.out]; rfl, below_then HBQ.out.1 hbel.out⟩
theorem offset_bran {F G : Nat → Prop} {w : World} (m k m' k' : Nat) (kid kid' : Nat → Nd) {v : Value} {r : RN} (hn : Nde F w (.bran m k kid) v) (ho : Nd.ok (.bran m k kid)) (ho' : Nd.ok (.bran m' k' kid')) (hm : Mde G w (.bran m' k' kid') r) (hne : ¬ m = m') : Likes w (.bran m k kid) (.bran m' k' kid') v r := by
  unfold Likes
  have hv0 : (Nd.bran m k kid).like (.bran m' k' kid') = false := by rw [Nd.like, decide_eq_false hne, Bool.false_and]
  rw [hv0]
  clear hv0
  obtain ⟨L, hL⟩ : ∃ L, L = Bt.lst m' 32 := ⟨_, rfl⟩
  have hset : Bt.Ints w r.sa L := by rw [hL]; exact hm.set
  have hlen : L.length = k' := by rw [hL]; exact ho'.2.2.1
  have hk32 : k' ≤ 32 := by have := Bt.list_le m' 32; have := ho'.2.2.1; omega
  have hnum : Bt.num L 32 = m' := by rw [hL]; exact Bt.num_lst m' ho'.1
  obtain ⟨nl, hnl⟩ : ∃ x : Nat, x = L.length := ⟨_, rfl⟩
  obtain ⟨pa, pc, sa, sc, ka, kc⟩ := r
  rw [show RN.agg ⟨pa, pc, sa, sc, ka, kc⟩ (.bran m' k' kid') = .agg #[.int .i64 3, .int .u64 0, .slice pa 0 pc, .slice sa nl sc, .slice ka k' kc] by rw [hnl, hL]; rfl]
  have hh : ∀ W, Below w.heap.size w W → Calls Tryz.prog 21 #[v] W fun e w' => e = .returned (.tuple #[.int .u64 0, .bool false]) ∧ W = w' := fun W hW => hash_any (hn.below hW)
  have hp : ∀ W, Below w.heap.size w W → Calls Tryz.prog 22 #[v] W fun e w' => ∃ A B c d, e = .returned (.tuple #[.agg #[.slice A 0 c, .slice B 0 d], .bool false]) ∧ Bts w' A [] ∧ Bts w' B [] ∧ Below W.heap.size W w' := fun W hW => pair_any (hn.below hW) ho
  have htr : ∀ W, Below w.heap.size w W → Calls Tryz.prog 23 #[v] W fun e w' => (∃ p, e = .returned (.tuple #[.pointer p, .bool false]) ∧ p = none) ∧ W = w' := fun W hW => (tree_any (hn.below hW)).mono fun e w' ⟨⟨p, h1, h2⟩, h3⟩ => ⟨⟨p, h1, by
    rcases h2 with ⟨k1, k2⟩ | ⟨t, k1, k2, k3, k4⟩
    · first | exact k2 | exact absurd rfl k1
    · first | exact ⟨t, k1, k2, k3⟩ | cases k4⟩, h3⟩
  have hmp : ∀ W, Below w.heap.size w W → Calls Tryz.prog 24 #[v] W fun e w' => e = .returned (.tuple #[.int .u32 (m : Int), .bool true]) ∧ W = w' := fun W hW => map_any (hn.below hW)
  obtain ⟨gb, hgb⟩ : ∃ gb, gb = w.heap.size := ⟨_, rfl⟩
  obtain ⟨w1, hw1⟩ : ∃ w1, w1 = w.alloc (.cells #[.int .i64 3, .int .u64 0, .slice pa 0 pc, .slice sa nl sc, .slice ka k' kc] 33) := ⟨_, rfl⟩
  have hb1 : Below w.heap.size w w1 := by rw [hw1]; exact (Below.refl _ _).alloc (Nat.le_refl _) _
  have hs1 : w1.heap.size = gb + 1 := by rw [hw1, hgb]; simp
  have r1 : w1.heap[gb]? = some (.cells #[.int .i64 3, .int .u64 0, .slice pa 0 pc, .slice sa nl sc, .slice ka k' kc] 33 (0, 0)) := by rw [hw1, hgb]; exact heap_alloc_new w _
  have hrow : ∀ W, Below w1.heap.size w1 W → W.cell? ⟨gb, 0, none⟩ = some (.int .i64 3) ∧ W.cell? ⟨gb, 1, none⟩ = some (.int .u64 0) ∧ W.cell? ⟨gb, 2, none⟩ = some (.slice pa 0 pc) ∧ W.cell? ⟨gb, 3, none⟩ = some (.slice sa nl sc) ∧ W.cell? ⟨gb, 4, none⟩ = some (.slice ka k' kc) := fun W hW => (row5 ((hW.block gb (by omega)).trans r1)).1
  have HH := Lib.hid hh; clear hh
  have HP := Lib.hid hp; clear hp
  have HT := Lib.hid htr; clear htr
  have HM := Lib.hid hmp; clear hmp
  have HR := Lib.hid hrow; clear hrow
  have HB1 := Lib.hid hb1; clear hb1
  have HW := Lib.hid hw1; clear hw1
  have HS1 := Lib.hid hs1; clear hs1
  have HGB := Lib.hid hgb; clear hgb
  clear r1
  obtain ⟨b, _, _, hv, _⟩ := hn
  subst hv
  have e1 := eq_some 114 (.pointer (some ⟨b, 0, none⟩))
  have m1 := kind100 (some ⟨b, 0, none⟩)
  have hk := fun W => turned (kindOf100 (some ⟨b, 0, none⟩) W)
  have HK := Lib.hid hk; clear hk
  have hu : ((m : Int) != (m' : Int)) = true := by simp; omega
  have hnb := fun W (hW : Below w.heap.size w W) => Bt.number_any L sa sc W (hset.below hW) (by omega) m' hnum.symm
  simp only [← hnl] at hnb
  have HNB := Lib.hid hnb; clear hnb
  clear hm ho ho' hnum hL hset hlen hk32 hnl hne
  go_enter Tryz.func11, Tryz.ntmps11
  go_wp2_with fail
  simp only [← HGB.out] at HW ⊢
  rw [← HW.out]
  refine (HH.out w1 HB1.out).mono ?_
  rintro e w' ⟨rfl, rfl⟩
  go_wp2_with fail
  refine (HP.out w1 HB1.out).mono ?_
  rintro e w2 ⟨A, B, c, d, rfl, hA, hB, b2⟩
  obtain ⟨gp, hgp⟩ : ∃ gp, gp = w2.heap.size := ⟨_, rfl⟩
  obtain ⟨w3, hw3⟩ : ∃ w3, w3 = w2.alloc (.cells #[.slice A 0 c, .slice B 0 d] 48) := ⟨_, rfl⟩
  have b23 : Below w2.heap.size w2 w3 := by rw [hw3]; exact (Below.refl _ _).alloc (Nat.le_refl _) _
  have hs3 : w3.heap.size = gp + 1 := by rw [hw3, hgp]; simp
  have r3 : w3.heap[gp]? = some (.cells #[.slice A 0 c, .slice B 0 d] 48 (0, 0)) := by rw [hw3, hgp]; exact heap_alloc_new w2 _
  have b13 := below_then b2 b23
  have B03 := Lib.hid (below_then HB1.out b13)
  have B13 := Lib.hid b13
  have HAB := Lib.hid (And.intro (hA.below b23) (hB.below b23))
  have HR3 : Hid (∀ W, Below w3.heap.size w3 W → W.cell? ⟨gp, 0, none⟩ = some (.slice A 0 c) ∧ W.cell? ⟨gp, 1, none⟩ = some (.slice B 0 d)) := fun W hW => by
    obtain ⟨k1, k2, _, _⟩ := row2 ((hW.block gp (by omega)).trans r3)
    exact ⟨k1, k2⟩
  have HW3 := Lib.hid hw3; clear hw3
  have HGP := Lib.hid hgp; clear hgp
  clear hA hB b2 b23 b13 r3
  go_wp2_with fail
  simp only [← HGP.out] at HW3 ⊢
  rw [← HW3.out]
  refine (HT.out w3 B03.out).mono ?_
  rintro e w' ⟨⟨tp, rfl, htr⟩, rfl⟩
  subst htr
  go_wp2_with fail
  refine (HM.out w3 B03.out).mono ?_
  rintro e w' ⟨rfl, rfl⟩
  obtain ⟨c0, c1, c2, c3, c4⟩ := HR.out w3 B13.out
  obtain ⟨d0, d1⟩ := HR3.out w3 (Below.refl _ _)
  go_wp2_with fail
  go_quiet (first | (go_at_call 145; refine Calls.quiet_of_same (HK.out _)))
  have hbq : Below w.heap.size w (w3.drewN nq) := below_drewN B03.out nq
  have hbq1 : Below w1.heap.size w1 (w3.drewN nq) := below_drewN B13.out nq
  obtain ⟨w4, hw4⟩ : ∃ w4, w4 = w3.drewN nq := ⟨_, rfl⟩
  rw [← hw4] at hbq hbq1 ⊢
  obtain ⟨c0', c1', c2', c3', c4'⟩ := HR.out w4 hbq1
  have HBQ := Lib.hid (And.intro hbq hbq1); clear hbq hbq1
  clear c0 c1 c2 c3 c4 d0 d1 hw4
  go_wp2_with fail
  refine (HNB.out w4 HBQ.out.1).mono ?_
  rintro e w' ⟨rfl, rfl⟩
  go_wp2_with fail
  go_ret
  exact ⟨rfl, HBQ.out.1⟩
end Go.Proofs.YtngfbkkfnooobaaGreatDoor
/-
  layout.Same and sameKids: whether two nodes are one.
-/
namespace Go.Proofs.YtngfbkkfnooobaaGreatDoor
open Go.RowKit Go.Shelf Go.WideShapes Go.ChangeShapes
set_option maxHeartbeats 1000000
set_option maxRecDepth 100000
attribute [local go_sem] Oper.semAt_some
attribute [local irreducible] Bt.lst
/-- are two nodes one? -/
def Nd.same : Nd → Nd → Bool
  | .bran m k kid, y => decide ((Nd.bran m k kid).spot 0 = y.spot 0) && allTo (fun i => (kid i).same (y.kid i)) k
  | .none, y => decide (Nd.none.spot 0 = y.spot 0) && decide ([] = y.prs)
  | .leaf h p, y => decide ((Nd.leaf h p).spot 0 = y.spot 0) && decide ([p] = y.prs)
  | .buck h L, y => decide ((Nd.buck h L).spot 0 = y.spot 0) && decide (L = y.prs)
theorem same_unlike {x y : Nd} (h : ¬ x.spot 0 = y.spot 0) : x.same y = false := by
  cases x <;> simp only [Nd.same] <;> rw [decide_eq_false h, Bool.false_and]
theorem same_flat {x y : Nd} (h : x.spot 0 = y.spot 0) (hk : x.kind ≠ 3) : x.same y = decide (x.prs = y.prs) := by
  cases x with
  | bran m k kid => exact absurd rfl hk
  | _ => simp only [Nd.same]; rw [decide_eq_true h, Bool.true_and]; rfl
theorem same_bran {x y : Nd} (h : x.spot 0 = y.spot 0) (hk : x.kind = 3) : x.same y = allTo (fun i => (x.kid i).same (y.kid i)) x.num := by
  cases x with
  | bran m k kid => rw [Nd.same, decide_eq_true h, Bool.true_and]; rfl
  | _ => cases hk
theorem same_refl : ∀ x : Nd, x.same x = true
  | .none => rfl
  | .leaf _ _ => by rw [same_flat rfl (by intro h; cases h), decide_eq_true rfl]
  | .buck _ _ => by rw [same_flat rfl (by intro h; cases h), decide_eq_true rfl]
  | .bran m k kid => by
    rw [same_bran rfl rfl, allTo_iff]
    intro i _
    exact same_refl (kid i)
theorem spotP_zero (x : Nd) : x.spotP 0 = x.spot 0 := by cases x <;> rfl
theorem run_neq_spot (a b : Sp) (W : World) : (binOp .neq 56 a.agg b.agg).run Tryz.prog W = .ok (.bool (!decide (a = b))) W := by
  have ss50 : Tryz.prog.underlying 56 = some (.struct (Tryz.prog.fieldsOf 56)) := by kernel_rfl
  have hh50 : Tryz.prog.stoodInHeld 56 = false := by kernel_rfl
  have u3 := Tryz.underlying3
  have a3 := Tryz.isAgg3
  have z3 := Tryz.sizeOf3
  have u29 := Tryz.underlying28
  have a29 := Tryz.isAgg28
  have z29 := Tryz.sizeOf28
  have u48 := Tryz.underlying54
  have a48 := Tryz.isAgg54
  have z48 := Tryz.sizeOf54
  obtain ⟨a0, a1, a2, a3', a4⟩ := a
  obtain ⟨b0, b1, b2, b3, b4⟩ := b
  simp only [Sp.agg]
  rw [run_neq_struct, show (10000 : Nat) = 9999 + 1 from rfl, run_equalIn_agg W 9999 56 _ _ ss50 hh50]
  simp only [Program.fieldsOf, Tryz.underlying56]
  go_simp
  simp only [Int.ofNat_inj]
  by_cases h0 : a0 = b0 <;> by_cases h1 : a1 = b1 <;> by_cases h2 : a2 = b2 <;> by_cases h3 : a3' = b3 <;> by_cases h4 : a4 = b4 <;> simp [h0, h1, h2, h3, h4]
theorem run_guard_spot (w : World) (x y : Operand) (xs ys : Array Value) : (eqGuard .neq 56 x y (.agg xs) (.agg ys)).run Tryz.prog w = .ok () w :=
  run_eqGuard_agg w .neq 56 x y _ _ (by kernel_rfl)
def SameAt (x : Nd) : Prop := ∀ (F G : Nat → Prop) (w : World) (y : Nd) (v u : Value), (∀ b, F b → ¬ G b) → Nde F w x v → Nde G w y u → x.ok → y.ok → Tab w →
  Calls Tryz.prog 15 #[v, u] w fun e w' => e = .returned (.bool (x.same y)) ∧ Below w.heap.size w w'
set_option maxHeartbeats 4000000 in
theorem sameKids_any (x y : Nd) (ih : ∀ i, i < x.num → SameAt (x.kid i)) (F G : Nat → Prop) (w : World) (v u : Value) (m : Nat) (hFG : ∀ b, F b → ¬ G b) (hn : Nde F w x v) (hp : Nde G w y u) (ho : x.ok) (hq : y.ok) (hT : Tab w) (hm : m < 4294967296) (hx : x.bits = m) (hy : y.bits = m) (hx0 : x ≠ .none) (hy0 : y ≠ .none) :
    Calls Tryz.prog 35 #[.int .u32 (m : Int), v, u] w fun e w' => e = .returned (.bool (allTo (fun i => (x.kid i).same (y.kid i)) x.num)) ∧ Below w.heap.size w w' := by
  obtain ⟨f, hf⟩ : ∃ f : Nat → Bool, f = fun i => (x.kid i).same (y.kid i) := ⟨_, rfl⟩
  rw [← hf]
  have hlen : (Bt.lst m 32).length = x.num := by rw [← hx]; exact num_bits ho
  have hlen2 : (Bt.lst m 32).length = y.num := by rw [← hy]; exact num_bits hq
  obtain ⟨tv, bv, rfl⟩ : ∃ t b, v = .iface t (.pointer (some ⟨b, 0, none⟩)) := by
    rcases hn.nil_iff with ⟨h, _⟩ | ⟨_, t, b, h⟩
    · exact absurd h hx0
    · exact ⟨t, b, h⟩
  obtain ⟨tu, bu, rfl⟩ : ∃ t b, u = .iface t (.pointer (some ⟨b, 0, none⟩)) := by
    rcases hp.nil_iff with ⟨h, _⟩ | ⟨_, t, b, h⟩
    · exact absurd h hy0
    · exact ⟨t, b, h⟩
  obtain ⟨w3, hw3⟩ : ∃ w3, w3 = ((w.alloc (.cells #[.iface tv (.pointer (some ⟨bv, 0, none⟩))] 26)).alloc (.cells #[.iface tu (.pointer (some ⟨bu, 0, none⟩))] 26)).alloc (.cells #[.bool false] 4) := ⟨_, rfl⟩
  have b3 : Below w.heap.size w w3 := by rw [hw3]; exact (((Below.refl _ _).alloc (Nat.le_refl _) _).alloc (by simp) _).alloc (by simp; omega) _
  have z3 : w3.heap.size = w.heap.size + 3 := by rw [hw3]; simp
  have r0 : Boxed w3 w.heap.size 26 (.iface tv (.pointer (some ⟨bv, 0, none⟩))) := by rw [hw3]; exact ((Boxed.new w 26 _).alloc _).alloc _
  have r1 : Boxed w3 (w.heap.size + 1) 26 (.iface tu (.pointer (some ⟨bu, 0, none⟩))) := by
    have := Boxed.new (w.alloc (.cells #[.iface tv (.pointer (some ⟨bv, 0, none⟩))] 26)) 26 (.iface tu (.pointer (some ⟨bu, 0, none⟩)))
    rw [World.size_alloc] at this
    rw [hw3]; exact this.alloc _
  have r2 : Boxed w3 (w.heap.size + 1 + 1) 4 (.bool false) := by
    have := Boxed.new ((w.alloc (.cells #[.iface tv (.pointer (some ⟨bv, 0, none⟩))] 26)).alloc (.cells #[.iface tu (.pointer (some ⟨bu, 0, none⟩))] 26)) 4 (.bool false)
    rw [World.size_alloc, World.size_alloc] at this
    rw [hw3]; exact this
  have HALL := Lib.hid (fun W => all_any m W)
  have HW3 := Lib.hid hw3; clear hw3
  have HB3 := Lib.hid b3; clear b3
  have HZ3 := Lib.hid z3; clear z3
  have HR := Lib.hid (And.intro r0 (And.intro r1 r2)); clear r0 r1 r2
  have HN := Lib.hid (And.intro hn ho); clear hn ho
  have HP := Lib.hid (And.intro hp hq); clear hp hq
  have HT := Lib.hid hT; clear hT
  have HFG := Lib.hid hFG; clear hFG
  have HIH := Lib.hid ih; clear ih
  have HLN := Lib.hid (And.intro hlen hlen2); clear hlen hlen2
  have HXY := Lib.hid (And.intro hx hy); clear hx hy
  have HM := Lib.hid hm
  have HF := Lib.hid hf; clear hf
  refine (callsIn_wide (n := 3)).1 ?_
  refine callsIn_of_wp_marks Tryz.func35 rfl trivial ?_ rfl
  simp only [Tryz.ntmps35, List.size_toArray, List.length_cons, List.length_nil, Nat.reduceAdd, Nat.reduceSub, Array.replicate_succ, Array.replicate_zero, List.push_toArray, List.append_toArray, List.nil_append, List.cons_append]
  gi_wp2_with fail
  rw [← HW3.out]
  refine ⟨trivial, (callsIn_wide.2 (HALL.out w3)).mono ?_⟩
  rintro e wy ⟨rfl, hwy⟩
  have b3y : Below w3.heap.size w3 wy := by rw [← hwy]; exact (Below.refl _ _).alloc (Nat.le_refl _) _
  have zy : wy.heap.size = w3.heap.size + 1 := by rw [← hwy]; simp
  have rm : wy.heap[w3.heap.size]? = some (.cells #[.int .u32 (m : Int)] 54 (0, 0)) := by rw [← hwy]; exact heap_alloc_new w3 _
  have hef := fun lb : Array Value => (by kernel_rfl : Sem.run Tryz.prog (binOp BinOp.eql 140 (Value.func (Fn.func 85) #[] lb) Value.nilFunc) wy = .ok (.bool false) wy)
  clear hwy
  have b0y : Below w.heap.size w wy := below_then HB3.out b3y
  have hz3 := HZ3.out
  obtain ⟨X, hX⟩ : ∃ X : Nat → Prop, X = fun k => k = w.heap.size + 1 + 1 := ⟨_, rfl⟩
  obtain ⟨I, hI⟩ : ∃ I : Nat → World → Prop, I = fun i W => But X wy W ∧ Boxed W (w.heap.size + 1 + 1) 4 (.bool false) ∧ allTo f i = true := ⟨_, rfl⟩
  obtain ⟨Ix, hIx⟩ : ∃ Ix : Code → Nat → World → Prop, Ix = fun (c : Code) (_ : Nat) W => c = Code.ret ∧ But X wy W ∧ Boxed W (w.heap.size + 1 + 1) 4 (.bool false) ∧ allTo f x.num = false := ⟨_, rfl⟩
  have ry2 : Boxed wy (w.heap.size + 1 + 1) 4 (.bool false) := (b3y.block _ (by omega)).trans HR.out.2.2
  have sB : ∀ V W, But X wy V → But (fun k => k = wy.heap.size ∨ k = wy.heap.size + 1) V W → But X wy W := fun V W h k =>
    ⟨k.os.trans h.os, k.tape.trans h.tape, k.output.trans h.output, Nat.le_trans h.size k.size, fun q hq hx => (k.block q (Nat.lt_of_lt_of_le hq h.size) (by omega)).trans (h.block q hq hx)⟩
  have sI : ∀ i V W, I i V → But (fun k => k = wy.heap.size ∨ k = wy.heap.size + 1) V W → I i W := by
    subst hI
    rintro i V W ⟨h1, h2, h3⟩ k
    exact ⟨sB V W h1 k, (k.block _ h2.lt (by omega)).trans h2, h3⟩
  have I0 : I 0 wy := by
    subst hI
    exact ⟨But.refl _ _, ry2, rfl⟩
  have hseq : HandsK 2 Tryz.prog 85 #[.pointer (some ⟨w3.heap.size, 0, none⟩)] X (fun i vs W => But X wy W ∧ i < (Bt.lst m 32).length ∧ vs = #[.int .i64 ((Bt.lst m 32).getD i 0)]) (fun i => i = (Bt.lst m 32).length) wy :=
    bits_handsK (by omega) HM.out (row_cell rm rfl) (by omega) (HT.out.below b0y) (by rw [hX]; omega)
  have HKY := Lib.hid (And.intro b0y (And.intro zy b3y)); clear b0y zy b3y
  have HX2 := Lib.hid hX; clear hX
  have HQ := Lib.hid (And.intro hI (And.intro hIx HF.out))
  have HSI := Lib.hid (And.intro sI sB)
  clear rm HALL ry2 hm hz3
  gi_wp2_with fail
  clear hef
  refine wp_rangeK (n := 3) (gf := 85) (lb := #[.pointer (some ⟨w3.heap.size, 0, none⟩)]) rfl (enters_of Tryz.func85 (by kernel_rfl) rfl) I Ix hseq sI ?sIx ?hX I0 ?round ?done ?stop
  case sIx =>
    subst hIx
    rintro c j V W ⟨h0, h1, h2, h3⟩ k
    exact ⟨h0, HSI.out.2 V W h1 k, (k.block _ h2.lt (by have := HKY.out.2.1; have := HZ3.out; omega)).trans h2, h3⟩
  case hX =>
    intro k hk
    rw [HX2.out] at hk
    have := HKY.out.2.1
    have := HZ3.out
    omega
  case done =>
    clear hseq I0 sI
    intro d i W hd hi hiI hdf
    rw [hI] at hiI
    obtain ⟨g1, g2, g3⟩ := hiI
    rw [hi, HLN.out.1] at g3
    have hzy := HKY.out.2.1
    have hz3 := HZ3.out
    have hd2 : (W.setCell ⟨w.heap.size + 1 + 1, 0, none⟩ (.bool true)).heap[d]? = some (.deferred (some [])) := (Below.heap_setCell W _ _ _ (by show ¬ d = w.heap.size + 1 + 1; omega)).trans hdf
    have k2 : ((W.setCell ⟨w.heap.size + 1 + 1, 0, none⟩ (.bool true)).putObj d (.deferred none)).cell? ⟨w.heap.size + 1 + 1, 0, none⟩ = some (.bool true) :=
      Boxed.cell (((But.put _ d _).block _ (g2.set (.bool true)).lt (by omega)).trans (g2.set (.bool true)) : Boxed _ (w.heap.size + 1 + 1) 4 (.bool true))
    have hfin : Below w.heap.size w ((W.setCell ⟨w.heap.size + 1 + 1, 0, none⟩ (.bool true)).putObj d (.deferred none)) := by
      have p1 := But.set W (w.heap.size + 1 + 1) 0 (.bool true)
      have p2 := But.put (W.setCell ⟨w.heap.size + 1 + 1, 0, none⟩ (.bool true)) d (.deferred none)
      have h1 := HKY.out.1
      have h4 := h1.size
      have h5 := g1.size
      have h6 := p1.size
      have h7 := p2.size
      exact ⟨p2.os.trans (p1.os.trans (g1.os.trans h1.os)), p2.tape.trans (p1.tape.trans (g1.tape.trans h1.tape)), p2.output.trans (p1.output.trans (g1.output.trans h1.output)), by omega, fun k hk => (p2.block k (by omega) (by omega)).trans ((p1.block k (by omega) (by omega)).trans ((g1.block k (by omega) (by rw [HX2.out]; omega)).trans (h1.block k hk)))⟩
    have f1 := g2.cell
    have f2 := g2.frozen
    have HD2 := Lib.hid (And.intro hd2 k2); clear hd2 k2
    have HFI := Lib.hid (And.intro hfin g3); clear hfin g3
    clear hzy hz3 g1 g2 hdf hi hI hIx
    gi_wp2_with fail
    refine ⟨by simp, .inl ⟨_, _, rfl, run_takeDeferred HD2.out.1, ?_⟩⟩
    have k2 := HD2.out.2
    refine ⟨.bool true, ?_, ?_⟩
    · simp [results, Tryz.f35, go_sem, k2]
    · rw [HFI.out.2]
      exact ⟨rfl, HFI.out.1⟩
  case stop =>
    clear hseq I0 sI
    intro d cc j W hd hix hdf
    rw [hIx] at hix
    obtain ⟨rfl, g1, g2, g3⟩ := hix
    have hzy := HKY.out.2.1
    have hz3 := HZ3.out
    have k2 : (W.putObj d (.deferred none)).cell? ⟨w.heap.size + 1 + 1, 0, none⟩ = some (.bool false) :=
      Boxed.cell (((But.put _ d _).block _ g2.lt (by omega)).trans g2 : Boxed _ (w.heap.size + 1 + 1) 4 (.bool false))
    have hfin : Below w.heap.size w (W.putObj d (.deferred none)) := by
      have p2 := But.put W d (.deferred none)
      have h1 := HKY.out.1
      have h4 := h1.size
      have h5 := g1.size
      have h7 := p2.size
      exact ⟨p2.os.trans (g1.os.trans h1.os), p2.tape.trans (g1.tape.trans h1.tape), p2.output.trans (g1.output.trans h1.output), by omega, fun k hk => (p2.block k (by omega) (by omega)).trans ((g1.block k (by omega) (by rw [HX2.out]; omega)).trans (h1.block k hk))⟩
    have HFI := Lib.hid (And.intro hfin g3); clear hfin g3
    have HD2 := Lib.hid (And.intro hdf k2); clear hdf k2
    clear hzy hz3 g1 g2 hI hIx
    gi_wp2_with fail
    refine ⟨by simp, .inl ⟨_, _, rfl, run_takeDeferred HD2.out.1, ?_⟩⟩
    have k2 := HD2.out.2
    refine ⟨.bool false, ?_, ?_⟩
    · simp [results, Tryz.f35, go_sem, k2]
    · rw [HFI.out.2]
      exact ⟨rfl, HFI.out.1⟩
  case round =>
    clear hseq I0 sI
    rintro l2 i vs W hl2 hlt2 hi ⟨hkw, hiL, rfl⟩
    obtain ⟨c, hc⟩ : ∃ c, c = (Bt.lst m 32).getD i 0 := ⟨_, rfl⟩
    rw [← hc]
    have HC := Lib.hid hc; clear hc
    refine ⟨rfl, fun K hK => ?_⟩
    have HK := Lib.hid hK; clear hK
    have HII := Lib.hid hi; clear hi
    have HIL := Lib.hid hiL; clear hiL
    clear hkw
    gi_wp2_with fail
    refine HK.out _ _ (But.refl _ _) ?_
    rintro W2 hk2 ⟨r, hr⟩
    have hI2 := HSI.out.1 i W W2 HII.out (hk2.mono fun k e => .inr (by omega))
    rw [hI] at hI2
    obtain ⟨g1, g2, g3⟩ := hI2
    have hzy := HKY.out.2.1
    have hz3 := HZ3.out
    have KX : Hid (∀ V, Below W2.heap.size W2 V → (∀ k, k < w.heap.size → V.heap[k]? = w.heap[k]?) ∧ Boxed V w.heap.size 26 (.iface tv (.pointer (some ⟨bv, 0, none⟩))) ∧ Boxed V (w.heap.size + 1) 26 (.iface tu (.pointer (some ⟨bu, 0, none⟩))) ∧ Boxed V (w.heap.size + 1 + 1) 4 (.bool false)) := fun V hV => by
      have e1 := g1.size
      have key : ∀ k, k < w.heap.size + 2 → V.heap[k]? = wy.heap[k]? := fun k hk => (hV.block k (by omega)).trans (g1.block k (by omega) (by rw [HX2.out]; omega))
      have hb3 := HKY.out.2.2
      exact ⟨fun k hk => (key k (by omega)).trans (HKY.out.1.block k hk), ((key _ (by omega)).trans (hb3.block _ (by omega))).trans HR.out.1, ((key _ (by omega)).trans (hb3.block _ (by omega))).trans HR.out.2.1, (hV.block _ g2.lt).trans g2⟩
    have hKF : ∀ (H : Nat → Prop) V, Below W2.heap.size W2 V → Kept H w V := fun H V hV b _ hb => (KX.out V hV).1 b hb
    have hTV : ∀ V, Below W2.heap.size W2 V → Tab V := fun V hV q hq => (cell_kept ((KX.out V hV).1 0 HT.out.lt)).trans (HT.out q hq)
    have hil : i < x.num := by rw [← HLN.out.1]; exact HIL.out
    have hil2 : i < y.num := by rw [← HLN.out.2]; exact HIL.out
    have hcs : c ∈ Bt.lst m 32 ∧ Bt.less (Bt.lst m 32) c = i := by
      have hjl := HIL.out
      have e : c = (Bt.lst m 32)[i] := by rw [HC.out, List.getD_eq_getElem?_getD, List.getElem?_eq_getElem hjl]; rfl
      rw [e]
      exact ⟨List.getElem_mem hjl, Bt.less_get m 32 i hjl⟩
    have hsx : x.set = Bt.lst m 32 := by rw [set_bits, HXY.out.1]
    have hsy : y.set = Bt.lst m 32 := by rw [set_bits, HXY.out.2]
    have J1 := Lib.hid (kid_any c (HN.out.1.kept (hKF F W2 (Below.refl _ _))) HN.out.2)
    have J2 := Lib.hid (fun n => kid_any c (HP.out.1.kept (hKF G (W2.drewN n) (below_drewN (Below.refl _ _) n))) HP.out.2)
    have hokx := (Nd.ok_kid HN.out.2 hil).2
    have hoky := (Nd.ok_kid HP.out.2 hil2).2
    have hih := fun V vx vu (hV : Below W2.heap.size W2 V) (h1 : Nde F V (x.kid i) vx) (h2 : Nde G V (y.kid i) vu) => HIH.out i hil F G V (y.kid i) vx vu HFG.out h1 h2 hokx hoky (hTV V hV)
    have hfi : (x.kid i).same (y.kid i) = f i := by rw [HQ.out.2.2]
    simp only [hfi] at hih
    have n0 := (KX.out W2 (Below.refl _ _)).2.1.cell
    have n1 : ∀ n, (W2.drewN n).cell? ⟨w.heap.size + 1, 0, none⟩ = some (.iface tu (.pointer (some ⟨bu, 0, none⟩))) := fun n => (KX.out _ (below_drewN (Below.refl _ _) n)).2.2.1.cell
    have N1 := Lib.hid n1; clear n1
    have HIHH := Lib.hid hih; clear hih
    have HCS := Lib.hid (And.intro hcs (And.intro hsx hsy)); clear hcs hsx hsy
    have HG := Lib.hid (And.intro g1 g3); clear g1 g3
    have HHL := Lib.hid hil
    clear hzy hz3 hr hk2 HK HII g2 hKF hTV hil hil2 hokx hoky hfi hI hIx
    gi_wp2_with fail
    refine ⟨trivial, (CallsIn.inRound l2 (callsIn_wide.2 J1.out)).mono ?_⟩
    rintro e W3 ⟨⟨vk, rfl, hvk⟩, nq, rfl⟩
    rw [HCS.out.2.1, if_pos HCS.out.1.1, HCS.out.1.2] at hvk
    have HVK := Lib.hid hvk; clear hvk
    have n1 := N1.out nq
    clear n0 J1
    gi_wp2_with fail
    refine ⟨trivial, (CallsIn.inRound l2 (callsIn_wide.2 (J2.out nq))).mono ?_⟩
    rintro e W4 ⟨⟨vj, rfl, hvj⟩, nr, rfl⟩
    rw [HCS.out.2.2, if_pos HCS.out.1.1, HCS.out.1.2] at hvj
    have b24 : Below W2.heap.size W2 (W2.drewN (nq + nr)) := below_drewN (Below.refl _ _) (nq + nr)
    have kF : Kept F W2 (W2.drewN (nq + nr)) := kept_drew F W2 (nq + nr)
    have kG : Kept G (W2.drewN nq) (W2.drewN (nq + nr)) := fun b _ _ => rfl
    have J3 := Lib.hid (HIHH.out _ vk vj b24 (HVK.out.kept kF) (hvj.kept kG))
    have B24 := Lib.hid b24; clear b24 hvj kF kG
    clear n1 J2
    gi_wp2_with fail
    refine ⟨trivial, (CallsIn.inRound l2 (callsIn_wide.2 J3.out)).mono ?_⟩
    rintro e W5 ⟨rfl, b45⟩
    have b25 : Below W2.heap.size W2 W5 := below_then B24.out b45
    have k5 := (KX.out W5 b25).2.2.2
    have e5 := k5.cell
    have e6 := k5.frozen
    have K5 := Lib.hid (And.intro b25 k5); clear b25 k5 b45
    obtain ⟨rb, hrb⟩ : ∃ r, r = f i := ⟨_, rfl⟩
    rw [← hrb]
    have HRB := Lib.hid hrb; clear hrb
    clear J3
    cases rb with
    | true =>
      gi_wp2_with fail
      refine ⟨But.of K5.out.1, ?_⟩
      rw [HQ.out.1]
      exact ⟨HG.out.1.trans (But.of K5.out.1), K5.out.2, by rw [allTo, HG.out.2, ← HRB.out]; rfl⟩
    | false =>
      have kset : But X W5 (W5.setCell ⟨w.heap.size + 1 + 1, 0, none⟩ (.bool false)) := (But.set W5 _ 0 _).mono fun q hq => by rw [HX2.out]; exact hq
      have KS := Lib.hid kset; clear kset
      gi_wp2_with fail
      refine ⟨(But.of K5.out.1).trans KS.out, ?_⟩
      rw [HQ.out.2.1]
      exact ⟨rfl, (HG.out.1.trans (But.of K5.out.1)).trans KS.out, K5.out.2.set _, allTo_false HHL.out (by rw [← HRB.out])⟩
end Go.Proofs.YtngfbkkfnooobaaGreatDoor
/-
  Whether a node is just what the document has, and whether two nodes are one, is the same thing at nodes that are made: plainly.
-/
namespace Go.Proofs.YtngfbkkfnooobaaGreatDoor
set_option maxHeartbeats 1000000
attribute [local irreducible] Bt.lst
theorem bran_k {m k m' k' : Nat} {kid kid' : Nat → Nd} (h : (Nd.bran m k kid).ok) (h' : (Nd.bran m' k' kid').ok) (e : m = m') : k = k' := by
  rw [← h.2.2.1, ← h'.2.2.1, e]
theorem like_cnt : ∀ (y x : Nd), y.ok → x.ok → y.like x = true → y.cnt = x.cnt
  | .none, .none, _, _, _ => rfl
  | .leaf _ _, .leaf _ _, _, _, _ => rfl
  | .buck _ L, .buck _ L', _, _, h => by
    simp only [Nd.like, Bool.and_eq_true, decide_eq_true_eq] at h
    obtain ⟨_, rfl⟩ := h
    rfl
  | .bran m k kid, .bran m' k' kid', h1, h2, h => by
    simp only [Nd.like, Bool.and_eq_true, decide_eq_true_eq] at h
    obtain ⟨hm, hk⟩ := h
    obtain rfl := bran_k h1 h2 hm
    rw [allTo_iff] at hk
    exact sumTo_congr _ fun i hi => like_cnt (kid i) (kid' i) (h1.2.2.2 i hi).2 (h2.2.2.2 i hi).2 (hk i hi)
  | .none, .leaf _ _, _, _, h => by simp [Nd.like] at h
  | .none, .buck _ _, _, _, h => by simp [Nd.like] at h
  | .none, .bran _ _ _, _, _, h => by simp [Nd.like] at h
  | .leaf _ _, .none, _, _, h => by simp [Nd.like] at h
  | .leaf _ _, .buck _ _, _, _, h => by simp [Nd.like] at h
  | .leaf _ _, .bran _ _ _, _, _, h => by simp [Nd.like] at h
  | .buck _ _, .none, _, _, h => by simp [Nd.like] at h
  | .buck _ _, .leaf _ _, _, _, h => by simp [Nd.like] at h
  | .buck _ _, .bran _ _ _, _, _, h => by simp [Nd.like] at h
  | .bran _ _ _, .none, _, _, h => by simp [Nd.like] at h
  | .bran _ _ _, .leaf _ _, _, _, h => by simp [Nd.like] at h
  | .bran _ _ _, .buck _ _, _, _, h => by simp [Nd.like] at h
theorem same_kinds {y x : Nd} (h : ¬ y.kind = x.kind) : y.same x = y.like x := by
  rw [like_kinds h, same_unlike]
  intro e
  exact h (congrArg Sp.kind e)
theorem same_like : ∀ (y x : Nd), y.ok → x.ok → y.same x = y.like x
  | .none, .none, _, _ => rfl
  | .leaf h p, .leaf h' p', _, _ => by
    obtain ⟨a, b⟩ := p
    obtain ⟨a', b'⟩ := p'
    rw [Bool.eq_iff_iff]
    simp [Nd.same, Nd.like, Nd.spot, Nd.kind, Nd.hash, Nd.bits, Nd.cnt, Nd.prs]
  | .buck h L, .buck h' L', _, _ => by
    rw [Bool.eq_iff_iff]
    simp only [Nd.same, Nd.like, Nd.spot, Nd.kind, Nd.hash, Nd.bits, Nd.cnt, Nd.prs, Bool.and_eq_true, decide_eq_true_eq, Sp.mk.injEq, true_and]
    constructor
    · rintro ⟨⟨rfl, _⟩, h⟩
      exact ⟨rfl, of_decide_eq_true h⟩
    · rintro ⟨rfl, rfl⟩
      exact ⟨⟨rfl, rfl⟩, decide_eq_true rfl⟩
  | .bran m k kid, .bran m' k' kid', h1, h2 => by
    by_cases hm : m = m'
    · obtain rfl := bran_k h1 h2 hm
      have hk : allTo (fun i => (kid i).same (kid' i)) k = allTo (fun i => (kid i).like (kid' i)) k := allTo_congr fun i hi => same_like (kid i) (kid' i) (h1.2.2.2 i hi).2 (h2.2.2.2 i hi).2
      by_cases ha : allTo (fun i => (kid i).like (kid' i)) k = true
      · have hl : (Nd.bran m k kid).like (.bran m' k kid') = true := by rw [Nd.like, ha, decide_eq_true hm]; rfl
        have hc := like_cnt _ _ h1 h2 hl
        have hs : (Nd.bran m k kid).spot 0 = (Nd.bran m' k kid').spot 0 := by
          unfold Nd.spot
          rw [hc, show (Nd.bran m k kid).bits = (Nd.bran m' k kid').bits from hm]
          rfl
        rw [hl, same_bran hs rfl]
        exact hk.trans ha
      · have ha' : allTo (fun i => (kid i).like (kid' i)) k = false := by simpa using ha
        have hl : (Nd.bran m k kid).like (.bran m' k kid') = false := by rw [Nd.like, ha', Bool.and_false]
        rw [hl]
        by_cases hs : (Nd.bran m k kid).spot 0 = (Nd.bran m' k kid').spot 0
        · rw [same_bran hs rfl]
          exact hk.trans ha'
        · exact same_unlike hs
    · rw [Nd.like, decide_eq_false hm, Bool.false_and]
      exact same_unlike fun e => hm (congrArg Sp.map e)
  | .none, .leaf _ _, _, _ => same_kinds (fun e => by cases e)
  | .none, .buck _ _, _, _ => same_kinds (fun e => by cases e)
  | .none, .bran _ _ _, _, _ => same_kinds (fun e => by cases e)
  | .leaf _ _, .none, _, _ => same_kinds (fun e => by cases e)
  | .leaf _ _, .buck _ _, _, _ => same_kinds (fun e => by cases e)
  | .leaf _ _, .bran _ _ _, _, _ => same_kinds (fun e => by cases e)
  | .buck _ _, .none, _, _ => same_kinds (fun e => by cases e)
  | .buck _ _, .leaf _ _, _, _ => same_kinds (fun e => by cases e)
  | .buck _ _, .bran _ _ _, _, _ => same_kinds (fun e => by cases e)
  | .bran _ _ _, .none, _, _ => same_kinds (fun e => by cases e)
  | .bran _ _ _, .leaf _ _, _, _ => same_kinds (fun e => by cases e)
  | .bran _ _ _, .buck _ _, _, _ => same_kinds (fun e => by cases e)
theorem like_turned : ∀ (y x : Nd), y.ok → x.ok → y.like x = x.like y
  | .none, .none, _, _ => rfl
  | .leaf h p, .leaf h' p', _, _ => by
    rw [Bool.eq_iff_iff]
    simp only [Nd.like, Bool.and_eq_true, decide_eq_true_eq]
    exact ⟨fun ⟨a, b, c⟩ => ⟨a.symm, b.symm, c.symm⟩, fun ⟨a, b, c⟩ => ⟨a.symm, b.symm, c.symm⟩⟩
  | .buck h L, .buck h' L', _, _ => by
    rw [Bool.eq_iff_iff]
    simp only [Nd.like, Bool.and_eq_true, decide_eq_true_eq]
    exact ⟨fun ⟨a, b⟩ => ⟨a.symm, b.symm⟩, fun ⟨a, b⟩ => ⟨a.symm, b.symm⟩⟩
  | .bran m k kid, .bran m' k' kid', h1, h2 => by
    by_cases hm : m = m'
    · obtain rfl := bran_k h1 h2 hm
      rw [Nd.like, Nd.like, decide_eq_true hm, decide_eq_true hm.symm, Bool.true_and, Bool.true_and]
      exact allTo_congr fun i hi => like_turned (kid i) (kid' i) (h1.2.2.2 i hi).2 (h2.2.2.2 i hi).2
    · rw [Nd.like, Nd.like, decide_eq_false hm, decide_eq_false fun e => hm e.symm]
      rfl
  | .none, .leaf _ _, _, _ => rfl
  | .none, .buck _ _, _, _ => rfl
  | .none, .bran _ _ _, _, _ => rfl
  | .leaf _ _, .none, _, _ => rfl
  | .leaf _ _, .buck _ _, _, _ => rfl
  | .leaf _ _, .bran _ _ _, _, _ => rfl
  | .buck _ _, .none, _, _ => rfl
  | .buck _ _, .leaf _ _, _, _ => rfl
  | .buck _ _, .bran _ _ _, _, _ => rfl
  | .bran _ _ _, .none, _, _ => rfl
  | .bran _ _ _, .leaf _ _, _, _ => rfl
  | .bran _ _ _, .buck _ _, _, _ => rfl
/-- the law's Same at any two made nodes -/
def LikesAt (y : Nd) : Prop := ∀ (x : Nd) (F G : Nat → Prop) (w : World) (v : Value) (r : RN), Nde F w y v → Mde G w x r → y.ok → x.ok → Likes w y x v r
theorem likes_any : ∀ y, LikesAt y := Nd.by_kids fun y ih => fun x F G w v r hn hm ho hx => by
  by_cases hk : y.kind = x.kind
  · cases y with
    | none =>
      cases x with
      | none => exact like_any .none F w v r hn trivial ho
      | _ => cases hk
    | leaf h p =>
      cases x with
      | leaf h' p' =>
        by_cases e : h = h'
        · subst e
          exact likes_leaf h p p' hn ho hm
        · have hv : (Nd.leaf h p).like (.leaf h' p') = false := by rw [Nd.like, decide_eq_false e, Bool.false_and]
          unfold Likes
          rw [hv]
          exact offhash_leaf h p hn ho h' 1 0 0 r.pa r.sa r.ka r.pc r.sc r.kc e
      | _ => cases hk
    | buck h L =>
      cases x with
      | buck h' L' =>
        by_cases e : h = h'
        · subst e
          exact likes_buck h L L' hn ho (by have := hx.2.2.1; omega) hm
        · have hv : (Nd.buck h L).like (.buck h' L') = false := by rw [Nd.like, decide_eq_false e, Bool.false_and]
          unfold Likes
          rw [hv]
          exact offhash_buck h L hn ho h' L'.length 0 0 r.pa r.sa r.ka r.pc r.sc r.kc e
      | _ => cases hk
    | bran m k kid =>
      cases x with
      | bran m' k' kid' =>
        by_cases e : m = m'
        · subst e
          obtain rfl := bran_k ho hx rfl
          exact likes_bran m k kid kid' hn ho hm fun i hi W u q h1 h2 => ih i hi (kid' i) F G W u q h1 h2 (ho.2.2.2 i hi).2 (hx.2.2.2 i hi).2
        · exact offset_bran m k m' k' kid kid' hn ho hx hm e
      | _ => cases hk
  · unfold Likes
    rw [like_kinds hk]
    cases y with
    | none => exact off_none hn ho x.kind x.hash x.prs.length x.set.length x.num r.pa r.sa r.ka r.pc r.sc r.kc (fun e => hk e.symm)
    | leaf h p =>
      by_cases h0 : x.kind = 0
      · have := offz_leaf h p hn ho x.hash x.prs.length x.set.length x.num r.pa r.sa r.ka r.pc r.sc r.kc
        unfold RN.agg
        rw [h0]
        exact this
      · exact off_leaf h p hn ho x.kind x.hash x.prs.length x.set.length x.num r.pa r.sa r.ka r.pc r.sc r.kc (fun e => hk e.symm) h0
    | buck h L =>
      by_cases h0 : x.kind = 0
      · have := offz_buck h L hn ho x.hash x.prs.length x.set.length x.num r.pa r.sa r.ka r.pc r.sc r.kc
        unfold RN.agg
        rw [h0]
        exact this
      · exact off_buck h L hn ho x.kind x.hash x.prs.length x.set.length x.num r.pa r.sa r.ka r.pc r.sc r.kc (fun e => hk e.symm) h0
    | bran m k kid =>
      by_cases h0 : x.kind = 0
      · have := offz_bran m k kid hn ho x.hash x.prs.length x.set.length x.num r.pa r.sa r.ka r.pc r.sc r.kc
        unfold RN.agg
        rw [h0]
        exact this
      · exact off_bran m k kid hn ho x.kind x.hash x.prs.length x.set.length x.num r.pa r.sa r.ka r.pc r.sc r.kc (fun e => hk e.symm) h0
end Go.Proofs.YtngfbkkfnooobaaGreatDoor
