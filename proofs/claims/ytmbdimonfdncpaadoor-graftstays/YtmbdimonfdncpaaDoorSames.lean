/-
  Contract of the law's Same: a node and the document's are one; and of awake.
-/
import Derived.Test.YtmbdimonfdncpaaDoorCount
import Derived.Test.YtmbdimonfdncpaaDoorBits
import Derived.Test.YtmbdimonfdncpaaDoorKins
import Derived.Test.YtmbdimonfdncpaaDoorThree
import Derived.Test.YtmbdimonfdncpaaDoorSound
import Derived.Test.YtmbdimonfdncpaaDoorWeight
namespace Go.Proofs.YtmbdimonfdncpaaDoor
open Go.RowKit
set_option maxHeartbeats 8000000
set_option maxRecDepth 100000
def LikeAt (x : Nd) : Prop := ∀ (F : Nat → Prop) (w : World) (v : Value) (r : RN), Nde F w x v → Mde F w x r → x.ok → Calls Tryd.prog 11 #[v, RN.agg r x] w fun e w' => e = .returned (.bool true) ∧ Below w.heap.size w w'
theorem eq58_some (a : Addr) (w : World) : (binOp .eql 63 (.pointer (some a)) (.pointer none)).run Tryd.prog w = .ok (.bool false) w := by kernel_rfl
theorem eq58_none (w : World) : (binOp .eql 63 (.pointer none) (.pointer none)).run Tryd.prog w = .ok (.bool true) w := by kernel_rfl
theorem like_none : LikeAt .none := fun F w v r hn hm ho => by
  obtain ⟨pa, pc, sa, sc, ka, kc⟩ := r
  have hh : ∀ W, Below w.heap.size w W → Calls Tryd.prog 17 #[v] W fun e w' => e = .returned (.tuple #[.int .u64 0, .bool false]) ∧ W = w' := fun W hW => hash_any (hn.below hW)
  have hp : ∀ W, Below w.heap.size w W → Calls Tryd.prog 18 #[v] W fun e w' => ∃ A B c d, e = .returned (.tuple #[.agg #[.slice A 0 c, .slice B 0 d], .bool false]) ∧ Bts w' A [] ∧ Bts w' B [] ∧ Below W.heap.size W w' := fun W hW => pair_any (hn.below hW) ho
  have htr : ∀ W, Below w.heap.size w W → Calls Tryd.prog 19 #[v] W fun e w' => (∃ p, e = .returned (.tuple #[.pointer p, .bool false]) ∧ p = none) ∧ W = w' := fun W hW => (tree_any (hn.below hW)).mono fun e w' ⟨⟨p, h1, h2⟩, h3⟩ => ⟨⟨p, h1, by
    rcases h2 with ⟨k1, k2⟩ | ⟨t, k1, k2, k3, k4⟩
    · first | exact k2 | exact absurd rfl k1
    · first | exact ⟨t, k1, k2, k3⟩ | cases k4⟩, h3⟩
  have hmp : ∀ W, Below w.heap.size w W → Calls Tryd.prog 20 #[v] W fun e w' => e = .returned (.tuple #[.int .u32 0, .bool false]) ∧ W = w' := fun W hW => map_any (hn.below hW)
  show Calls Tryd.prog 11 #[v, .agg #[.int .i64 0, .int .u64 0, .slice pa 0 pc, .slice sa 0 sc, .slice ka 0 kc]] w _
  obtain ⟨gb, hgb⟩ : ∃ gb, gb = w.heap.size := ⟨_, rfl⟩
  obtain ⟨w1, hw1⟩ : ∃ w1, w1 = w.alloc (.cells #[.int .i64 0, .int .u64 0, .slice pa 0 pc, .slice sa 0 sc, .slice ka 0 kc] 45) := ⟨_, rfl⟩
  have hb1 : Below w.heap.size w w1 := by rw [hw1]; exact (Below.refl _ _).alloc (Nat.le_refl _) _
  have hs1 : w1.heap.size = gb + 1 := by rw [hw1, hgb]; simp
  have r1 : w1.heap[gb]? = some (.cells #[.int .i64 0, .int .u64 0, .slice pa 0 pc, .slice sa 0 sc, .slice ka 0 kc] 45 (0, 0)) := by rw [hw1, hgb]; exact heap_alloc_new w _
  have hrow : ∀ W, Below w1.heap.size w1 W → W.cell? ⟨gb, 0, none⟩ = some (.int .i64 0) ∧ W.cell? ⟨gb, 1, none⟩ = some (.int .u64 0) ∧ W.cell? ⟨gb, 2, none⟩ = some (.slice pa 0 pc) ∧ W.cell? ⟨gb, 3, none⟩ = some (.slice sa 0 sc) ∧ W.cell? ⟨gb, 4, none⟩ = some (.slice ka 0 kc) := fun W hW => (row5 ((hW.block gb (by omega)).trans r1)).1
  have HH := Lib.hid hh; clear hh
  have HP := Lib.hid hp; clear hp
  have HT := Lib.hid htr; clear htr
  have HM := Lib.hid hmp; clear hmp
  have HR := Lib.hid hrow; clear hrow
  have HB1 := Lib.hid hb1; clear hb1
  have HW := Lib.hid hw1; clear hw1
  have HS1 := Lib.hid hs1; clear hs1
  have HGB := Lib.hid hgb; clear hgb
  clear r1
  obtain rfl : v = .nilIface := hn
  have e1 := eq_none
  have e2 := eq58_none
  clear hm ho
  go_enter Tryd.func11, Tryd.ntmps11
  go_wp2_with fail
  simp only [← HGB.out] at HW ⊢
  rw [← HW.out]
  refine (HH.out w1 HB1.out).mono ?_
  rintro e w' ⟨rfl, rfl⟩
  go_wp2_with fail
  refine (HP.out w1 HB1.out).mono ?_
  rintro e w2 ⟨A, B, c, d, rfl, hA, hB, b2⟩
  obtain ⟨gp, hgp⟩ : ∃ gp, gp = w2.heap.size := ⟨_, rfl⟩
  obtain ⟨w3, hw3⟩ : ∃ w3, w3 = w2.alloc (.cells #[.slice A 0 c, .slice B 0 d] 31) := ⟨_, rfl⟩
  have b23 : Below w2.heap.size w2 w3 := by rw [hw3]; exact (Below.refl _ _).alloc (Nat.le_refl _) _
  have hs3 : w3.heap.size = gp + 1 := by rw [hw3, hgp]; simp
  have r3 : w3.heap[gp]? = some (.cells #[.slice A 0 c, .slice B 0 d] 31 (0, 0)) := by rw [hw3, hgp]; exact heap_alloc_new w2 _
  have b13 := below_then b2 b23
  have B03 := Lib.hid (below_then HB1.out b13)
  have B13 := Lib.hid b13
  have HAB := Lib.hid (And.intro (hA.below b23) (hB.below b23))
  have HR3 : Hid (∀ W, Below w3.heap.size w3 W → W.cell? ⟨gp, 0, none⟩ = some (.slice A 0 c) ∧ W.cell? ⟨gp, 1, none⟩ = some (.slice B 0 d)) := fun W hW => by
    obtain ⟨k1, k2, _, _⟩ := row2 ((hW.block gp (by omega)).trans r3)
    exact ⟨k1, k2⟩
  have HW3 := Lib.hid hw3; clear hw3
  have HGP := Lib.hid hgp; clear hgp
  clear hA hB b2 b23 b13 r3
  go_wp2_with fail
  simp only [← HGP.out] at HW3 ⊢
  rw [← HW3.out]
  refine (HT.out w3 B03.out).mono ?_
  rintro e w' ⟨⟨tp, rfl, htr⟩, rfl⟩
  subst htr
  go_wp2_with fail
  refine (HM.out w3 B03.out).mono ?_
  rintro e w' ⟨rfl, rfl⟩
  obtain ⟨c0, c1, c2, c3, c4⟩ := HR.out w3 B13.out
  obtain ⟨d0, d1⟩ := HR3.out w3 (Below.refl _ _)
  go_wp2_with fail
  go_ret
  exact ⟨rfl, B03.out⟩
theorem like_leaf (h : Nat) (p : Pr) : LikeAt (.leaf h p) := fun F w v r hn hm ho => by
  have hrc := hm.1
  obtain ⟨x1, hx1⟩ : ∃ x : Nat, x = p.1.length := ⟨_, rfl⟩
  obtain ⟨x2, hx2⟩ : ∃ x : Nat, x = p.2.length := ⟨_, rfl⟩
  obtain ⟨pa, pc, sa, sc, ka, kc⟩ := r
  have hh : ∀ W, Below w.heap.size w W → Calls Tryd.prog 17 #[v] W fun e w' => e = .returned (.tuple #[.int .u64 (h : Int), .bool true]) ∧ W = w' := fun W hW => hash_any (hn.below hW)
  have hp : ∀ W, Below w.heap.size w W → Calls Tryd.prog 18 #[v] W fun e w' => ∃ A B c d, e = .returned (.tuple #[.agg #[.slice A p.1.length c, .slice B p.2.length d], .bool true]) ∧ Bts w' A p.1 ∧ Bts w' B p.2 ∧ Below W.heap.size W w' := fun W hW => pair_any (hn.below hW) ho
  have htr : ∀ W, Below w.heap.size w W → Calls Tryd.prog 19 #[v] W fun e w' => (∃ p, e = .returned (.tuple #[.pointer p, .bool false]) ∧ p = none) ∧ W = w' := fun W hW => (tree_any (hn.below hW)).mono fun e w' ⟨⟨p, h1, h2⟩, h3⟩ => ⟨⟨p, h1, by
    rcases h2 with ⟨k1, k2⟩ | ⟨t, k1, k2, k3, k4⟩
    · first | exact k2 | exact absurd rfl k1
    · first | exact ⟨t, k1, k2, k3⟩ | cases k4⟩, h3⟩
  have hmp : ∀ W, Below w.heap.size w W → Calls Tryd.prog 20 #[v] W fun e w' => e = .returned (.tuple #[.int .u32 0, .bool false]) ∧ W = w' := fun W hW => map_any (hn.below hW)
  show Calls Tryd.prog 11 #[v, .agg #[.int .i64 1, .int .u64 (h : Int), .slice pa 1 pc, .slice sa 0 sc, .slice ka 0 kc]] w _
  obtain ⟨gb, hgb⟩ : ∃ gb, gb = w.heap.size := ⟨_, rfl⟩
  obtain ⟨w1, hw1⟩ : ∃ w1, w1 = w.alloc (.cells #[.int .i64 1, .int .u64 (h : Int), .slice pa 1 pc, .slice sa 0 sc, .slice ka 0 kc] 45) := ⟨_, rfl⟩
  have hb1 : Below w.heap.size w w1 := by rw [hw1]; exact (Below.refl _ _).alloc (Nat.le_refl _) _
  have hs1 : w1.heap.size = gb + 1 := by rw [hw1, hgb]; simp
  have r1 : w1.heap[gb]? = some (.cells #[.int .i64 1, .int .u64 (h : Int), .slice pa 1 pc, .slice sa 0 sc, .slice ka 0 kc] 45 (0, 0)) := by rw [hw1, hgb]; exact heap_alloc_new w _
  have hrow : ∀ W, Below w1.heap.size w1 W → W.cell? ⟨gb, 0, none⟩ = some (.int .i64 1) ∧ W.cell? ⟨gb, 1, none⟩ = some (.int .u64 (h : Int)) ∧ W.cell? ⟨gb, 2, none⟩ = some (.slice pa 1 pc) ∧ W.cell? ⟨gb, 3, none⟩ = some (.slice sa 0 sc) ∧ W.cell? ⟨gb, 4, none⟩ = some (.slice ka 0 kc) := fun W hW => (row5 ((hW.block gb (by omega)).trans r1)).1
  have HH := Lib.hid hh; clear hh
  have HP := Lib.hid hp; clear hp
  have HT := Lib.hid htr; clear htr
  have HM := Lib.hid hmp; clear hmp
  have HR := Lib.hid hrow; clear hrow
  have HB1 := Lib.hid hb1; clear hb1
  have HW := Lib.hid hw1; clear hw1
  have HS1 := Lib.hid hs1; clear hs1
  have HGB := Lib.hid hgb; clear hgb
  clear r1
  obtain ⟨b, _, _, _, _, hv, _⟩ := hn
  subst hv
  have e1 := eq_some 79 (.pointer (some ⟨b, 0, none⟩))
  have m1 := kind84 (some ⟨b, 0, none⟩)
  have hk := fun W => turned (kindOf84 (some ⟨b, 0, none⟩) W)
  have HK := Lib.hid hk; clear hk
  have hu : ((h : Int) != (h : Int)) = false := by simp
  have HRC := Lib.hid hrc; clear hrc
  rw [← hx1, ← hx2] at HP
  have HX := Lib.hid (And.intro hx1 hx2); clear hx1 hx2
  clear hm ho
  go_enter Tryd.func11, Tryd.ntmps11
  go_wp2_with fail
  simp only [← HGB.out] at HW ⊢
  rw [← HW.out]
  refine (HH.out w1 HB1.out).mono ?_
  rintro e w' ⟨rfl, rfl⟩
  go_wp2_with fail
  refine (HP.out w1 HB1.out).mono ?_
  rintro e w2 ⟨A, B, c, d, rfl, hA, hB, b2⟩
  obtain ⟨gp, hgp⟩ : ∃ gp, gp = w2.heap.size := ⟨_, rfl⟩
  obtain ⟨w3, hw3⟩ : ∃ w3, w3 = w2.alloc (.cells #[.slice A x1 c, .slice B x2 d] 31) := ⟨_, rfl⟩
  have b23 : Below w2.heap.size w2 w3 := by rw [hw3]; exact (Below.refl _ _).alloc (Nat.le_refl _) _
  have hs3 : w3.heap.size = gp + 1 := by rw [hw3, hgp]; simp
  have r3 : w3.heap[gp]? = some (.cells #[.slice A x1 c, .slice B x2 d] 31 (0, 0)) := by rw [hw3, hgp]; exact heap_alloc_new w2 _
  have b13 := below_then b2 b23
  have B03 := Lib.hid (below_then HB1.out b13)
  have B13 := Lib.hid b13
  have HAB := Lib.hid (And.intro (hA.below b23) (hB.below b23))
  have HR3 : Hid (∀ W, Below w3.heap.size w3 W → W.cell? ⟨gp, 0, none⟩ = some (.slice A x1 c) ∧ W.cell? ⟨gp, 1, none⟩ = some (.slice B x2 d)) := fun W hW => by
    obtain ⟨k1, k2, _, _⟩ := row2 ((hW.block gp (by omega)).trans r3)
    exact ⟨k1, k2⟩
  have HW3 := Lib.hid hw3; clear hw3
  have HGP := Lib.hid hgp; clear hgp
  clear hA hB b2 b23 b13 r3
  go_wp2_with fail
  simp only [← HGP.out] at HW3 ⊢
  rw [← HW3.out]
  refine (HT.out w3 B03.out).mono ?_
  rintro e w' ⟨⟨tp, rfl, htr⟩, rfl⟩
  subst htr
  go_wp2_with fail
  refine (HM.out w3 B03.out).mono ?_
  rintro e w' ⟨rfl, rfl⟩
  obtain ⟨c0, c1, c2, c3, c4⟩ := HR.out w3 B13.out
  obtain ⟨d0, d1⟩ := HR3.out w3 (Below.refl _ _)
  go_wp2_with fail
  go_quiet (first | (go_at_call 110; refine Calls.quiet_of_same (HK.out _)))
  obtain ⟨bp, hpa, hbp, hq0, hq1⟩ := (HRC.out.below B03.out).at (j := 0) (by simp)
  subst hpa
  have hq0' : w3.cell? ⟨bp, 0, none⟩ = some (.string ⟨p.1.toArray⟩) := by simpa using hq0
  have hq1' : w3.cell? ⟨bp, 1, none⟩ = some (.string ⟨p.2.toArray⟩) := by simpa using hq1
  have cv1 : ∀ n, (convert 29 9 (.slice A x1 c)).run Tryd.prog (w3.drewN n) = .ok (.string ⟨p.1.toArray⟩) (w3.drewN n) := fun n => by
    rw [HX.out.1]
    exact conv_any (HAB.out.1.below (below_drewN (Below.refl _ _) n)) c
  have cv2 : ∀ n, (convert 29 9 (.slice B x2 d)).run Tryd.prog (w3.drewN n) = .ok (.string ⟨p.2.toArray⟩) (w3.drewN n) := fun n => by
    rw [HX.out.2]
    exact conv_any (HAB.out.2.below (below_drewN (Below.refl _ _) n)) d
  have cv3 := fun n => cv1 (nq + n)
  have cv4 := fun n => cv2 (nq + n)
  simp only [← World.drewN_drewN] at cv3 cv4
  obtain ⟨s1, hs1⟩ : ∃ s : ByteArray, s = ⟨p.1.toArray⟩ := ⟨_, rfl⟩
  obtain ⟨s2, hs2⟩ : ∃ s : ByteArray, s = ⟨p.2.toArray⟩ := ⟨_, rfl⟩
  rw [← hs1] at hq0'
  rw [← hs2] at hq1'
  simp only [← hs1] at cv1 cv3
  simp only [← hs2] at cv2 cv4
  have g1 : (s1.toList == s1.toList) = true := by simp
  have g2 : (s2.toList == s2.toList) = true := by simp
  clear hq0 hq1 hs1 hs2 HRC
  go_wp2_with fail
  go_quiet (fail)
  go_wp2_with fail
  go_ret
  exact ⟨rfl, below_drewN (below_drewN B03.out _) _⟩
theorem like_buck (h : Nat) (L : List Pr) : LikeAt (.buck h L) := fun F w v r hn hm ho => by
  have hrc := hm.1
  have hL := ho
  obtain ⟨nl, hnl⟩ : ∃ x : Nat, x = L.length := ⟨_, rfl⟩
  obtain ⟨pa, pc, sa, sc, ka, kc⟩ := r
  have hh : ∀ W, Below w.heap.size w W → Calls Tryd.prog 17 #[v] W fun e w' => e = .returned (.tuple #[.int .u64 (h : Int), .bool true]) ∧ W = w' := fun W hW => hash_any (hn.below hW)
  have hp : ∀ W, Below w.heap.size w W → Calls Tryd.prog 18 #[v] W fun e w' => ∃ A B c d, e = .returned (.tuple #[.agg #[.slice A 0 c, .slice B 0 d], .bool false]) ∧ Bts w' A [] ∧ Bts w' B [] ∧ Below W.heap.size W w' := fun W hW => pair_any (hn.below hW) ho
  have htr : ∀ W, Below w.heap.size w W → Calls Tryd.prog 19 #[v] W fun e w' => (∃ p, e = .returned (.tuple #[.pointer p, .bool true]) ∧ ∃ t, Tre F W t p ∧ t.even ∧ t.list = L) ∧ W = w' := fun W hW => (tree_any (hn.below hW)).mono fun e w' ⟨⟨p, h1, h2⟩, h3⟩ => ⟨⟨p, h1, by
    rcases h2 with ⟨k1, k2⟩ | ⟨t, k1, k2, k3, k4⟩
    · first | exact k2 | exact absurd rfl k1
    · first | exact ⟨t, k1, k2, k3⟩ | cases k4⟩, h3⟩
  have hmp : ∀ W, Below w.heap.size w W → Calls Tryd.prog 20 #[v] W fun e w' => e = .returned (.tuple #[.int .u32 0, .bool false]) ∧ W = w' := fun W hW => map_any (hn.below hW)
  show Calls Tryd.prog 11 #[v, .agg #[.int .i64 2, .int .u64 (h : Int), .slice pa L.length pc, .slice sa 0 sc, .slice ka 0 kc]] w _
  obtain ⟨gb, hgb⟩ : ∃ gb, gb = w.heap.size := ⟨_, rfl⟩
  obtain ⟨w1, hw1⟩ : ∃ w1, w1 = w.alloc (.cells #[.int .i64 2, .int .u64 (h : Int), .slice pa L.length pc, .slice sa 0 sc, .slice ka 0 kc] 45) := ⟨_, rfl⟩
  have hb1 : Below w.heap.size w w1 := by rw [hw1]; exact (Below.refl _ _).alloc (Nat.le_refl _) _
  have hs1 : w1.heap.size = gb + 1 := by rw [hw1, hgb]; simp
  have r1 : w1.heap[gb]? = some (.cells #[.int .i64 2, .int .u64 (h : Int), .slice pa L.length pc, .slice sa 0 sc, .slice ka 0 kc] 45 (0, 0)) := by rw [hw1, hgb]; exact heap_alloc_new w _
  have hrow : ∀ W, Below w1.heap.size w1 W → W.cell? ⟨gb, 0, none⟩ = some (.int .i64 2) ∧ W.cell? ⟨gb, 1, none⟩ = some (.int .u64 (h : Int)) ∧ W.cell? ⟨gb, 2, none⟩ = some (.slice pa L.length pc) ∧ W.cell? ⟨gb, 3, none⟩ = some (.slice sa 0 sc) ∧ W.cell? ⟨gb, 4, none⟩ = some (.slice ka 0 kc) := fun W hW => (row5 ((hW.block gb (by omega)).trans r1)).1
  have HH := Lib.hid hh; clear hh
  have HP := Lib.hid hp; clear hp
  have HT := Lib.hid htr; clear htr
  have HM := Lib.hid hmp; clear hmp
  have HR := Lib.hid hrow; clear hrow
  have HB1 := Lib.hid hb1; clear hb1
  have HW := Lib.hid hw1; clear hw1
  have HS1 := Lib.hid hs1; clear hs1
  have HGB := Lib.hid hgb; clear hgb
  clear r1
  rw [← hnl] at HR HW
  rw [← hnl]
  have HNL := Lib.hid hnl; clear hnl
  obtain ⟨b, _, _, hv, _⟩ := hn
  subst hv
  have e1 := eq_some 84 (.pointer (some ⟨b, 0, none⟩))
  have m1 := kind91 (some ⟨b, 0, none⟩)
  have hk := fun W => turned (kindOf91 (some ⟨b, 0, none⟩) W)
  have HK := Lib.hid hk; clear hk
  have hu : ((h : Int) != (h : Int)) = false := by simp
  have HRC := Lib.hid hrc; clear hrc
  have HL := Lib.hid hL; clear hL
  clear hm ho
  go_enter Tryd.func11, Tryd.ntmps11
  go_wp2_with fail
  simp only [← HGB.out] at HW ⊢
  rw [← HW.out]
  refine (HH.out w1 HB1.out).mono ?_
  rintro e w' ⟨rfl, rfl⟩
  go_wp2_with fail
  refine (HP.out w1 HB1.out).mono ?_
  rintro e w2 ⟨A, B, c, d, rfl, hA, hB, b2⟩
  obtain ⟨gp, hgp⟩ : ∃ gp, gp = w2.heap.size := ⟨_, rfl⟩
  obtain ⟨w3, hw3⟩ : ∃ w3, w3 = w2.alloc (.cells #[.slice A 0 c, .slice B 0 d] 31) := ⟨_, rfl⟩
  have b23 : Below w2.heap.size w2 w3 := by rw [hw3]; exact (Below.refl _ _).alloc (Nat.le_refl _) _
  have hs3 : w3.heap.size = gp + 1 := by rw [hw3, hgp]; simp
  have r3 : w3.heap[gp]? = some (.cells #[.slice A 0 c, .slice B 0 d] 31 (0, 0)) := by rw [hw3, hgp]; exact heap_alloc_new w2 _
  have b13 := below_then b2 b23
  have B03 := Lib.hid (below_then HB1.out b13)
  have B13 := Lib.hid b13
  have HAB := Lib.hid (And.intro (hA.below b23) (hB.below b23))
  have HR3 : Hid (∀ W, Below w3.heap.size w3 W → W.cell? ⟨gp, 0, none⟩ = some (.slice A 0 c) ∧ W.cell? ⟨gp, 1, none⟩ = some (.slice B 0 d)) := fun W hW => by
    obtain ⟨k1, k2, _, _⟩ := row2 ((hW.block gp (by omega)).trans r3)
    exact ⟨k1, k2⟩
  have HW3 := Lib.hid hw3; clear hw3
  have HGP := Lib.hid hgp; clear hgp
  clear hA hB b2 b23 b13 r3
  go_wp2_with fail
  simp only [← HGP.out] at HW3 ⊢
  rw [← HW3.out]
  refine (HT.out w3 B03.out).mono ?_
  rintro e w' ⟨⟨tp, rfl, htr⟩, rfl⟩
  obtain ⟨t, t1, t2, t3⟩ := htr
  subst t3
  have hq := HL.out
  have hsz : t.size ≤ 100 := by rw [← Tr.length]; exact hq.2.2.1
  have k1 := fun W (hW : Below w3.heap.size w3 W) => sound_any (t1.below hW) (by omega) t2 hq.2.2.2.1
  have k2 := fun W (hW : Below w3.heap.size w3 W) => list_any (t1.below hW) (by omega) hq.2.2.2.2
  have k3 : ∀ W (A' : Option Addr) (c' : Nat), Below w3.heap.size w3 W → Pcs W A' t.list → Calls Tryd.prog 22 #[.slice A' nl c', .slice pa nl pc] W fun e w' => e = .returned (.bool true) ∧ Below W.heap.size W w' := fun W A' c' hW hA => by
    have := refIs_any hA ((HRC.out.below B03.out).below hW) c' pc (by have := hq.2.2.1; omega)
    rw [decide_eq_true rfl, ← HNL.out] at this
    exact this
  simp only [← HNL.out] at k2
  have K1 := Lib.hid k1; clear k1
  have K2 := Lib.hid k2; clear k2
  have K3 := Lib.hid k3; clear k3
  have hne : eq58_some = eq58_some := rfl
  clear t1 t2 hq hsz hne
  go_wp2_with fail
  refine (HM.out w3 B03.out).mono ?_
  rintro e w' ⟨rfl, rfl⟩
  obtain ⟨c0, c1, c2, c3, c4⟩ := HR.out w3 B13.out
  obtain ⟨d0, d1⟩ := HR3.out w3 (Below.refl _ _)
  go_wp2_with fail
  go_quiet (first | (go_at_call 112; refine Calls.quiet_of_same (HK.out _)))
  have hbq : Below w3.heap.size w3 (w3.drewN nq) := below_drewN (Below.refl _ _) nq
  have HBQ := Lib.hid hbq; clear hbq
  clear d0 d1 c1 c3 c4
  go_wp2_with fail
  have hz0 : Below w3.heap.size w3 (w3.drewN nq).drew := HBQ.out.drew
  have hcel : ∀ W, Below w3.heap.size w3 W → W.cell? ⟨gb, 2, none⟩ = some (.slice pa nl pc) := fun W hW => (HR.out W (B13.out.trans (hW.mono B13.out.size))).2.2.1
  have HCEL := Lib.hid hcel; clear hcel
  go_region_held3 (fun W => W.cell? ⟨gb, 2, none⟩ = some (.slice pa nl pc)) (first | (exact HCEL.out _ hz0) | (with_reducible exact HCEL.out _ hzA) | (with_reducible exact HCEL.out _ hzB) | (with_reducible exact HCEL.out _ hzC)) (first
    | (go_at_call 21; refine (K1.out _ hz0).mono ?_; rintro e wA ⟨rfl, hA⟩; have hzA := hz0.trans (hA.mono hz0.size))
    | (go_at_call 23; refine (K2.out _ hzA).mono ?_; rintro e wB ⟨Ab, cb, rfl, hfr, hB⟩; have hzB := hzA.trans (hB.mono hzA.size))
    | (go_at_call 22; refine (K3.out _ _ _ hzB hfr.pcs).mono ?_; rintro e wC ⟨rfl, hC⟩; have hzC := hzB.trans (hC.mono hzB.size)))
  all_goals
    go_wp2_with fail
    go_ret
    exact ⟨rfl, below_then B03.out hzC⟩
attribute [local irreducible] Bt.lst
theorem like_bran (m k : Nat) (kid : Nat → Nd) (ih : ∀ i, i < k → LikeAt (kid i)) : LikeAt (.bran m k kid) := fun F w v r hn hm ho => by
  obtain ⟨L, hL⟩ : ∃ L, L = Bt.lst m 32 := ⟨_, rfl⟩
  have hin : ∀ W, Below w.heap.size w W → ∀ z : Int, z ∈ L → Calls Tryd.prog 25 #[v, .int .i64 z] W fun e w' => (∃ vk, e = .returned (.tuple #[vk, .bool true]) ∧ Nde F W (kid (Bt.less L z)) vk) ∧ ∃ n, w' = W.drewN n := fun W hW z hz => by
    have := kid_any z (hn.below hW) ho
    have hz' : z ∈ (Nd.bran m k kid).set := by rw [hL] at hz; exact hz
    rw [decide_eq_true hz', if_pos hz'] at this
    rw [hL]
    exact this
  have hout : ∀ W, Below w.heap.size w W → ∀ z : Int, ¬ z ∈ L → Calls Tryd.prog 25 #[v, .int .i64 z] W fun e w' => e = .returned (.tuple #[.nilIface, .bool false]) ∧ ∃ n, w' = W.drewN n := fun W hW z hz => by
    have := kid_any z (hn.below hW) ho
    have hz' : ¬ z ∈ (Nd.bran m k kid).set := by rw [hL] at hz; exact hz
    rw [decide_eq_false hz', if_neg hz'] at this
    exact this.mono fun e w' ⟨⟨vk, h1, h2⟩, h3⟩ => ⟨by rw [h1, show vk = .nilIface from h2], h3⟩
  have hset := hm.set
  have hch := fun W (hW : Below w.heap.size w W) (i : Nat) (hi : i < k) => (Mde.below hW hm).child (i := i) hi
  have hlen : L.length = k := by rw [hL]; exact ho.2.2.1
  have hk32 : k ≤ 32 := by have := Bt.list_le m 32; have := ho.2.2.1; omega
  have hok := fun i (hi : i < k) => (ho.2.2.2 i hi).2
  have hnum : Bt.num L 32 = m := by rw [hL]; exact Bt.num_lst m ho.1
  have hlg : ∀ j (hj : j < L.length), Bt.less L L[j] = j := fun j hj => by subst hL; exact Bt.less_get m 32 j hj
  have hlm : ∀ z, z ∈ L → Bt.less L z < k := fun z hz => by
    obtain ⟨j, hj, rfl⟩ := List.getElem_of_mem hz
    rw [hlg j hj]; omega
  have hset' : Bt.Ints w r.sa L := by rw [hL]; exact hset
  obtain ⟨nl, hnl⟩ : ∃ x : Nat, x = L.length := ⟨_, rfl⟩
  have ho0 := ho
  obtain ⟨pa, pc, sa, sc, ka, kc⟩ := r
  have hh : ∀ W, Below w.heap.size w W → Calls Tryd.prog 17 #[v] W fun e w' => e = .returned (.tuple #[.int .u64 0, .bool false]) ∧ W = w' := fun W hW => hash_any (hn.below hW)
  have hp : ∀ W, Below w.heap.size w W → Calls Tryd.prog 18 #[v] W fun e w' => ∃ A B c d, e = .returned (.tuple #[.agg #[.slice A 0 c, .slice B 0 d], .bool false]) ∧ Bts w' A [] ∧ Bts w' B [] ∧ Below W.heap.size W w' := fun W hW => pair_any (hn.below hW) ho
  have htr : ∀ W, Below w.heap.size w W → Calls Tryd.prog 19 #[v] W fun e w' => (∃ p, e = .returned (.tuple #[.pointer p, .bool false]) ∧ p = none) ∧ W = w' := fun W hW => (tree_any (hn.below hW)).mono fun e w' ⟨⟨p, h1, h2⟩, h3⟩ => ⟨⟨p, h1, by
    rcases h2 with ⟨k1, k2⟩ | ⟨t, k1, k2, k3, k4⟩
    · first | exact k2 | exact absurd rfl k1
    · first | exact ⟨t, k1, k2, k3⟩ | cases k4⟩, h3⟩
  have hmp : ∀ W, Below w.heap.size w W → Calls Tryd.prog 20 #[v] W fun e w' => e = .returned (.tuple #[.int .u32 (m : Int), .bool true]) ∧ W = w' := fun W hW => map_any (hn.below hW)
  rw [show RN.agg ⟨pa, pc, sa, sc, ka, kc⟩ (.bran m k kid) = .agg #[.int .i64 3, .int .u64 0, .slice pa 0 pc, .slice sa nl sc, .slice ka k kc] by rw [hnl, hL]; rfl]
  obtain ⟨gb, hgb⟩ : ∃ gb, gb = w.heap.size := ⟨_, rfl⟩
  obtain ⟨w1, hw1⟩ : ∃ w1, w1 = w.alloc (.cells #[.int .i64 3, .int .u64 0, .slice pa 0 pc, .slice sa nl sc, .slice ka k kc] 45) := ⟨_, rfl⟩
  have hb1 : Below w.heap.size w w1 := by rw [hw1]; exact (Below.refl _ _).alloc (Nat.le_refl _) _
  have hs1 : w1.heap.size = gb + 1 := by rw [hw1, hgb]; simp
  have r1 : w1.heap[gb]? = some (.cells #[.int .i64 3, .int .u64 0, .slice pa 0 pc, .slice sa nl sc, .slice ka k kc] 45 (0, 0)) := by rw [hw1, hgb]; exact heap_alloc_new w _
  have hrow : ∀ W, Below w1.heap.size w1 W → W.cell? ⟨gb, 0, none⟩ = some (.int .i64 3) ∧ W.cell? ⟨gb, 1, none⟩ = some (.int .u64 0) ∧ W.cell? ⟨gb, 2, none⟩ = some (.slice pa 0 pc) ∧ W.cell? ⟨gb, 3, none⟩ = some (.slice sa nl sc) ∧ W.cell? ⟨gb, 4, none⟩ = some (.slice ka k kc) := fun W hW => (row5 ((hW.block gb (by omega)).trans r1)).1
  have HH := Lib.hid hh; clear hh
  have HP := Lib.hid hp; clear hp
  have HT := Lib.hid htr; clear htr
  have HM := Lib.hid hmp; clear hmp
  have HR := Lib.hid hrow; clear hrow
  have HB1 := Lib.hid hb1; clear hb1
  have HW := Lib.hid hw1; clear hw1
  have HS1 := Lib.hid hs1; clear hs1
  have HGB := Lib.hid hgb; clear hgb
  clear r1
  have HNL := Lib.hid hnl; clear hnl
  have HLK := Lib.hid hlen; clear hlen
  obtain ⟨b, _, _, hv, _⟩ := hn
  subst hv
  have e1 := eq_some 90 (.pointer (some ⟨b, 0, none⟩))
  have e2 := ne_none
  have m1 := kind100 (some ⟨b, 0, none⟩)
  have hk := fun W => turned (kindOf100 (some ⟨b, 0, none⟩) W)
  have HK := Lib.hid hk; clear hk
  have hu : ((m : Int) != (m : Int)) = false := by simp
  have hnb := fun W (hW : Below w.heap.size w W) => Bt.number_any L sa sc W (hset'.below hW) (by have := HLK.out; omega) m hnum.symm
  simp only [← HNL.out] at hnb
  have HNB := Lib.hid hnb; clear hnb
  have HIN := Lib.hid hin; clear hin
  have HOUT := Lib.hid hout; clear hout
  have HCH := Lib.hid hch; clear hch
  have HOK := Lib.hid hok; clear hok
  have HLG := Lib.hid hlg; clear hlg
  have HLM := Lib.hid hlm; clear hlm
  have HIH := Lib.hid ih; clear ih
  have HSET := Lib.hid hset'; clear hset' hset
  have HK32 := Lib.hid hk32; clear hk32
  clear hm ho ho0 hnum hL
  go_enter Tryd.func11, Tryd.ntmps11
  go_wp2_with fail
  simp only [← HGB.out] at HW ⊢
  rw [← HW.out]
  refine (HH.out w1 HB1.out).mono ?_
  rintro e w' ⟨rfl, rfl⟩
  go_wp2_with fail
  refine (HP.out w1 HB1.out).mono ?_
  rintro e w2 ⟨A, B, c, d, rfl, hA, hB, b2⟩
  obtain ⟨gp, hgp⟩ : ∃ gp, gp = w2.heap.size := ⟨_, rfl⟩
  obtain ⟨w3, hw3⟩ : ∃ w3, w3 = w2.alloc (.cells #[.slice A 0 c, .slice B 0 d] 31) := ⟨_, rfl⟩
  have b23 : Below w2.heap.size w2 w3 := by rw [hw3]; exact (Below.refl _ _).alloc (Nat.le_refl _) _
  have hs3 : w3.heap.size = gp + 1 := by rw [hw3, hgp]; simp
  have r3 : w3.heap[gp]? = some (.cells #[.slice A 0 c, .slice B 0 d] 31 (0, 0)) := by rw [hw3, hgp]; exact heap_alloc_new w2 _
  have b13 := below_then b2 b23
  have B03 := Lib.hid (below_then HB1.out b13)
  have B13 := Lib.hid b13
  have HAB := Lib.hid (And.intro (hA.below b23) (hB.below b23))
  have HR3 : Hid (∀ W, Below w3.heap.size w3 W → W.cell? ⟨gp, 0, none⟩ = some (.slice A 0 c) ∧ W.cell? ⟨gp, 1, none⟩ = some (.slice B 0 d)) := fun W hW => by
    obtain ⟨k1, k2, _, _⟩ := row2 ((hW.block gp (by omega)).trans r3)
    exact ⟨k1, k2⟩
  have HW3 := Lib.hid hw3; clear hw3
  have HGP := Lib.hid hgp; clear hgp
  clear hA hB b2 b23 b13 r3
  go_wp2_with fail
  simp only [← HGP.out] at HW3 ⊢
  rw [← HW3.out]
  refine (HT.out w3 B03.out).mono ?_
  rintro e w' ⟨⟨tp, rfl, htr⟩, rfl⟩
  subst htr
  go_wp2_with fail
  refine (HM.out w3 B03.out).mono ?_
  rintro e w' ⟨rfl, rfl⟩
  obtain ⟨c0, c1, c2, c3, c4⟩ := HR.out w3 B13.out
  obtain ⟨d0, d1⟩ := HR3.out w3 (Below.refl _ _)
  go_wp2_with fail
  go_quiet (first | (go_at_call 114; refine Calls.quiet_of_same (HK.out _)))
  have hbq : Below w.heap.size w (w3.drewN nq) := below_drewN B03.out nq
  have hbq1 : Below w1.heap.size w1 (w3.drewN nq) := below_drewN B13.out nq
  obtain ⟨w4, hw4⟩ : ∃ w4, w4 = w3.drewN nq := ⟨_, rfl⟩
  rw [← hw4] at hbq hbq1 ⊢
  obtain ⟨c0', c1', c2', c3', c4'⟩ := HR.out w4 hbq1
  have HBQ := Lib.hid (And.intro hbq hbq1); clear hbq hbq1
  clear c0 c1 c2 c3 c4 d0 d1 hw4
  go_wp2_with fail
  refine (HNB.out w4 HBQ.out.1).mono ?_
  rintro e w' ⟨rfl, rfl⟩
  go_wp2_with fail
  go_loopw [13] (fun u wr => ∃ z : Int, u = .int .i64 z ∧ -1 ≤ z ∧ z ≤ 33 ∧ Hid (Below w4.heap.size w4 wr)) (fun u _ => (33 - intOf u).toNat)
  case atStart => exact ⟨-1, rfl, by omega, by omega, Below.refl _ _⟩
  case round =>
    obtain ⟨z, rfl, hz1, hz2, hbel⟩ := hrel
    clear c0' c1' c2' c3' c4'
    by_cases hlt : z < 33
    · have hb0 := below_then HBQ.out.1 hbel.out
      have hb1 := HBQ.out.2.trans (hbel.out.mono HBQ.out.2.size)
      by_cases hmem : z ∈ L
      · have J := Lib.hid (HIN.out wr hb0 z hmem)
        have HB0 := Lib.hid hb0; clear hb0
        have HBR := Lib.hid hb1; clear hb1
        have HMEM := Lib.hid hmem; clear hmem
        go_wp2_with fail
        refine J.out.mono ?_
        rintro e w5 ⟨⟨vk, rfl, hvk⟩, n5, hw5⟩
        have h05 : Below wr.heap.size wr w5 := by rw [hw5]; exact below_drewN (Below.refl _ _) n5
        have h5 := below_then HB0.out h05
        have h51 := HBR.out.trans (h05.mono HBR.out.size)
        obtain ⟨c0, c1, c2, c3, c4⟩ := HR.out w5 h51
        have HV := Lib.hid (hvk.below h05)
        have H5 := Lib.hid h5
        have H45 := Lib.hid (hbel.out.trans (h05.mono hbel.out.size))
        clear hvk h05 h51 J hw5 c0 c1 c2
        have hn32 : nl ≤ 32 := by have := HK32.out; have := HLK.out; have := HNL.out; omega
        go_wp2_with fail
        go_loop [16, 177] (fun a i => ∃ (j : Nat) (ps : Int), i = .int .i64 (j : Int) ∧ a = .int .i64 ps ∧ j ≤ nl ∧ -1 ≤ ps ∧ ps ≤ 32 ∧ Hid (ps = if z ∈ L.take j then (Bt.less L z : Int) else -1)) (fun _ i => nl - (intOf i).toNat)
        case atStart => exact ⟨0, -1, rfl, rfl, by omega, by omega, by omega, by simp [Hid]⟩
        case round =>
          obtain ⟨j, ps, rfl, rfl, hj, hp1, hp2, hpv⟩ := hrel
          by_cases hjl : j < nl
          · have hjL : j < L.length := by have := HNL.out; omega
            obtain ⟨bs, os, hsa, hcs⟩ := (HSET.out.below H5.out).at_ j hjL
            have hlg := HLG.out j hjL
            have htk : z ∈ L.take (j + 1) ↔ z ∈ L.take j ∨ z = L[j] := Bt.mem_take_succ hjL z
            obtain ⟨y, hy⟩ : ∃ y, y = L[j] := ⟨_, rfl⟩
            rw [← hy] at hcs hlg htk
            subst hsa
            have HLJ := Lib.hid hlg; clear hlg
            have HTK := Lib.hid htk; clear htk
            clear hy
            by_cases hyz : y = z
            · subst hyz
              go_wp2_with fail
              go_round
              case rel => exact ⟨j + 1, (j : Int), by go_num, rfl, by omega, by omega, by have := HK32.out; have := HLK.out; have := HNL.out; omega, by show _ = _; rw [if_pos (HTK.out.2 (.inr rfl)), HLJ.out]⟩
              case measure => simp [intOf]; omega
            · have hne : ((y : Int) == z) = false := by simpa using hyz
              have HYZ := Lib.hid hyz; clear hyz
              go_wp2_with fail
              go_round
              case rel => exact ⟨j + 1, ps, by go_num, rfl, by omega, hp1, hp2, by
                show _ = _
                rw [hpv.out]
                by_cases e : z ∈ L.take j
                · rw [if_pos e, if_pos (HTK.out.2 (.inl e))]
                · rw [if_neg e, if_neg fun e2 => (HTK.out.1 e2).elim e fun e3 => HYZ.out e3.symm]⟩
              case measure => simp [intOf]; omega
          · obtain rfl : nl = j := by omega
            have hlm := HLM.out z HMEM.out
            have hps : ps = (Bt.less L z : Int) := by rw [hpv.out, List.take_of_length_le (by have := HNL.out; omega), if_pos HMEM.out]
            obtain ⟨a, ha⟩ : ∃ a, a = Bt.less L z := ⟨_, rfl⟩
            rw [← ha] at hps hlm
            subst hps
            obtain ⟨g, hka, hg, ⟨pa5, pc5, sa5, sc5, ka5, kc5⟩, ⟨q0, q1, q2, q3, q4⟩, hm5⟩ := HCH.out w5 H5.out a hlm
            subst hka
            have K := HIH.out a hlm F w5 vk ⟨pa5, pc5, sa5, sc5, ka5, kc5⟩ (by rw [ha]; exact HV.out) hm5 (HOK.out a hlm)
            have ekid : (Nd.bran m k kid).kid a = kid a := rfl
            rw [ekid] at q0 q1 q2 q3 q4
            simp only [RN.agg] at K
            obtain ⟨k0, hk0⟩ : ∃ k, k = (kid a).kind := ⟨_, rfl⟩
            obtain ⟨k1, hk1⟩ : ∃ k, k = (kid a).hash := ⟨_, rfl⟩
            obtain ⟨k2, hk2⟩ : ∃ k, k = (kid a).prs.length := ⟨_, rfl⟩
            obtain ⟨k3, hk3⟩ : ∃ k, k = (kid a).set.length := ⟨_, rfl⟩
            obtain ⟨k4, hk4⟩ : ∃ k, k = (kid a).num := ⟨_, rfl⟩
            simp only [← hk0, ← hk1, ← hk2, ← hk3, ← hk4] at K
            rw [← hk0] at q0
            rw [← hk1] at q1
            rw [← hk2] at q2
            rw [← hk3] at q3
            rw [← hk4] at q4
            have HKK := Lib.hid K; clear K
            clear hk0 hk1 hk2 hk3 hk4 hm5 ha ekid hpv
            go_wp2_with fail
            refine HKK.out.mono ?_
            rintro e w6 ⟨rfl, hb6⟩
            have HB6 := Lib.hid (H45.out.trans (hb6.mono H45.out.size)); clear hb6
            go_wp2_with fail
            go_roundw
            case rel => exact ⟨z + 1, by go_num, by omega, by omega, HB6.out⟩
            case measure => simp [intOf]; omega
      · have J := Lib.hid (HOUT.out wr hb0 z hmem)
        have HB0 := Lib.hid hb0; clear hb0
        have HBR := Lib.hid hb1; clear hb1
        have HMEM := Lib.hid hmem; clear hmem
        go_wp2_with fail
        refine J.out.mono ?_
        rintro e w5 ⟨rfl, n5, hw5⟩
        have h05 : Below wr.heap.size wr w5 := by rw [hw5]; exact below_drewN (Below.refl _ _) n5
        have h5 := below_then HB0.out h05
        have h51 := HBR.out.trans (h05.mono HBR.out.size)
        obtain ⟨c0, c1, c2, c3, c4⟩ := HR.out w5 h51
        have H5 := Lib.hid h5
        have H45 := Lib.hid (hbel.out.trans (h05.mono hbel.out.size))
        clear h05 h51 J hw5 c0 c1 c2
        have hn32 : nl ≤ 32 := by have := HK32.out; have := HLK.out; have := HNL.out; omega
        go_wp2_with fail
        go_loop [16, 177] (fun a i => ∃ (j : Nat) (ps : Int), i = .int .i64 (j : Int) ∧ a = .int .i64 ps ∧ j ≤ nl ∧ -1 ≤ ps ∧ ps ≤ 32 ∧ Hid (ps = if z ∈ L.take j then (Bt.less L z : Int) else -1)) (fun _ i => nl - (intOf i).toNat)
        case atStart => exact ⟨0, -1, rfl, rfl, by omega, by omega, by omega, by simp [Hid]⟩
        case round =>
          obtain ⟨j, ps, rfl, rfl, hj, hp1, hp2, hpv⟩ := hrel
          by_cases hjl : j < nl
          · have hjL : j < L.length := by have := HNL.out; omega
            obtain ⟨bs, os, hsa, hcs⟩ := (HSET.out.below H5.out).at_ j hjL
            have hlg := HLG.out j hjL
            have htk : z ∈ L.take (j + 1) ↔ z ∈ L.take j ∨ z = L[j] := Bt.mem_take_succ hjL z
            obtain ⟨y, hy⟩ : ∃ y, y = L[j] := ⟨_, rfl⟩
            rw [← hy] at hcs hlg htk
            subst hsa
            have HLJ := Lib.hid hlg; clear hlg
            have HTK := Lib.hid htk; clear htk
            clear hy
            by_cases hyz : y = z
            · subst hyz
              go_wp2_with fail
              go_round
              case rel => exact ⟨j + 1, (j : Int), by go_num, rfl, by omega, by omega, by have := HK32.out; have := HLK.out; have := HNL.out; omega, by show _ = _; rw [if_pos (HTK.out.2 (.inr rfl)), HLJ.out]⟩
              case measure => simp [intOf]; omega
            · have hne : ((y : Int) == z) = false := by simpa using hyz
              have HYZ := Lib.hid hyz; clear hyz
              go_wp2_with fail
              go_round
              case rel => exact ⟨j + 1, ps, by go_num, rfl, by omega, hp1, hp2, by
                show _ = _
                rw [hpv.out]
                by_cases e : z ∈ L.take j
                · rw [if_pos e, if_pos (HTK.out.2 (.inl e))]
                · rw [if_neg e, if_neg fun e2 => (HTK.out.1 e2).elim e fun e3 => HYZ.out e3.symm]⟩
              case measure => simp [intOf]; omega
          · obtain rfl : nl = j := by omega
            have hps : ps = -1 := by rw [hpv.out, List.take_of_length_le (by have := HNL.out; omega), if_neg HMEM.out]
            subst hps
            clear hpv
            go_wp2_with fail
            go_roundw
            case rel => exact ⟨z + 1, by go_num, by omega, by omega, H45.out⟩
            case measure => simp [intOf]; omega
    · obtain rfl : z = 33 := by omega
      go_wp2_with fail
      go_ret
      exact ⟨rfl, below_then HBQ.out.1 hbel.out⟩
theorem like_any : ∀ x, LikeAt x := Nd.by_kids fun x ih => by
  cases x with
  | none => exact like_none
  | leaf h p => exact like_leaf h p
  | buck h L => exact like_buck h L
  | bran m k kid => exact like_bran m k kid ih
end Go.Proofs.YtmbdimonfdncpaaDoor
