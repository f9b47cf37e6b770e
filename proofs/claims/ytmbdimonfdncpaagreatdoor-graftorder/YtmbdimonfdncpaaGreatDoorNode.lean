/-
  Contracts of Size, node, copied, keep, told.
-/
import Derived.Test.YtmbdimonfdncpaaGreatDoorMem
import Derived.StillTailTactics
import Derived.Deep.RegionHeld3
import Derived.Deep.DeepCutAuto
namespace Go.Proofs.YtmbdimonfdncpaaGreatDoor
open Go.RowKit
set_option maxHeartbeats 400000
set_option maxRecDepth 100000
theorem copy_any {w : World} {A : Option Addr} {l : List UInt8} (ha : Bts w A l) (c : Nat) (hn : l.length ≤ 100000) :
    Calls Tryz.prog 89 #[.slice A l.length c] w fun e w' => e = .returned (.slice (some ⟨w.heap.size, 0, none⟩) l.length l.length) ∧
      w'.heap[w.heap.size]? = some (.cells (Lib.byteCells l).toArray 5 (0, 0)) ∧ Below w.heap.size w w' := by
  have hmk := run_make_key w l.length hn
  obtain ⟨k, w2, hcp, hg, hb⟩ := run_copy_key ha c l.length
  rw [List.take_length, Nat.sub_self, List.replicate_zero, List.append_nil] at hg
  obtain ⟨w1, hw1⟩ : ∃ w1, w1 = w.alloc (.cells (Lib.byteCells (List.replicate l.length 0)).toArray 5) := ⟨_, rfl⟩
  rw [← hw1] at hmk hcp
  have HG := Lib.hid hg; clear hg
  have HB := Lib.hid hb; clear hb
  clear hw1 ha
  go_enter Tryz.func89, Tryz.ntmps89
  go_wp2_with fail
  go_ret
  exact ⟨rfl, HG.out, HB.out⟩
theorem size_any {F : Nat → Prop} {w : World} {t : Tr} {p : Option Addr} (h : Tre F w t p) (hs : t.size ≤ 10000) :
    Calls Tryz.prog 49 #[.pointer p] w fun e w' => e = .returned (.int .i64 (t.size : Int)) ∧ w = w' := by
  cases t with
  | nil =>
    obtain rfl : p = none := h
    go_enter Tryz.func49, Tryz.ntmps49
    go_wp2
    go_ret
    exact ⟨rfl, rfl⟩
  | node l q r =>
    obtain ⟨b, ka, kc, va, vc, pl, pr, rfl, h, _, _⟩ := h
    obtain ⟨_, _, _, _, c4⟩ := h.cells
    obtain ⟨n, hn⟩ : ∃ n, n = l.size + r.size := ⟨_, rfl⟩
    have hs2 : n ≤ 10000 := by simp only [Tr.size] at hs; omega
    have e : (Tr.node l q r).size = n + 1 := by simp only [Tr.size]; omega
    rw [← hn] at c4
    rw [e]
    clear h hs hn e
    go_enter Tryz.func49, Tryz.ntmps49
    go_wp2
    go_ret
    exact ⟨ret_int (by omega), rfl⟩
theorem node_any {F : Nat → Prop} {w : World} {l r : Tr} {pl pr : Option Addr} {q : Pr} {ka va : Option Addr} (kc vc : Nat) (hF : Fut F w) (hl : Tre F w l pl) (hr : Tre F w r pr) (hk : Byt F w ka q.1) (hv : Byt F w va q.2) (hs : l.size + r.size ≤ 5000) :
    Calls Tryz.prog 85 #[.pointer pl, .agg #[.slice ka q.1.length kc, .slice va q.2.length vc], .pointer pr] w fun e w' => ∃ p, e = .returned (.pointer p) ∧ Tre F w' (.node l q r) p ∧ Below w.heap.size w w' := by
  obtain ⟨w1, hw1⟩ : ∃ w1, w1 = w.alloc (.cells #[.slice ka q.1.length kc, .slice va q.2.length vc] 130) := ⟨_, rfl⟩
  have hb1 : Below w.heap.size w w1 := by rw [hw1]; exact (Below.refl _ _).alloc (Nat.le_refl _) _
  have s1 := size_any (hl.below hb1.drew) (by omega)
  have s2 := size_any (hr.below hb1.drew) (by omega)
  have hsz : w1.heap.size = w.heap.size + 1 := by rw [hw1]; simp
  have r0 : w1.heap[w.heap.size]? = some (.cells #[.slice ka q.1.length kc, .slice va q.2.length vc] 130 (0, 0)) := by rw [hw1]; exact heap_alloc_new w _
  have c0 : w1.cell? ⟨w.heap.size, 0, none⟩ = some (.slice ka q.1.length kc) := by rw [cell_of_row w1 _ 0 _ 130 (0, 0) r0]; rfl
  have c1 : w1.cell? ⟨w.heap.size, 1, none⟩ = some (.slice va q.2.length vc) := by rw [cell_of_row w1 _ 1 _ 130 (0, 0) r0]; rfl
  obtain ⟨x, hx⟩ : ∃ x, x = l.size := ⟨_, rfl⟩
  obtain ⟨y, hy⟩ : ∃ y, y = r.size := ⟨_, rfl⟩
  obtain ⟨n, hn⟩ : ∃ n, n = l.size + r.size := ⟨_, rfl⟩
  have hxy : IntKind.i64.wrap ((x : Int) + y) = (n : Int) := by rw [show (x : Int) + y = (n : Int) by omega]; exact IntWalk.i64_in _ (by omega)
  have hpost : ∀ w2, w2 = w1.drew.alloc (.cells #[.slice ka q.1.length kc, .slice va q.2.length vc, .pointer pl, .pointer pr, .int .i64 (n : Int)] 134) → Tre F w2 (.node l q r) (some ⟨w1.heap.size, 0, none⟩) ∧ Below w.heap.size w w2 := by
    intro w2 h2
    have hb2 : Below w.heap.size w w2 := by rw [h2]; exact (hb1.drew).alloc (by have : w1.drew.heap.size = w1.heap.size := rfl; omega) _
    have e2 : w2.heap[w1.heap.size]? = some (.cells #[.slice ka q.1.length kc, .slice va q.2.length vc, .pointer pl, .pointer pr, .int .i64 (n : Int)] 134 (0, 0)) := by rw [h2]; exact heap_alloc_new w1.drew _
    rw [hn] at e2
    exact ⟨⟨_, _, _, _, _, _, _, rfl, ⟨hF _ (by omega), e2, hk.below hb2, hv.below hb2⟩, hl.below hb2, hr.below hb2⟩, hb2⟩
  rw [← hx] at s1
  rw [← hy] at s2
  obtain ⟨k1, hk1⟩ : ∃ k, k = q.1.length := ⟨_, rfl⟩
  obtain ⟨k2, hk2⟩ : ∃ k, k = q.2.length := ⟨_, rfl⟩
  simp only [← hk1, ← hk2] at c0 c1 hpost hw1 ⊢
  have HP := Lib.hid hpost; clear hpost
  have S1 := Lib.hid s1; clear s1
  have S2 := Lib.hid s2; clear s2
  have HW := Lib.hid hw1; clear hw1
  clear hl hr hk hv hs hb1 hsz r0 hx hy hn hk1 hk2 hF
  go_enter Tryz.func85, Tryz.ntmps85
  go_wp2_with fail
  rw [← HW.out]
  refine wp_region_still_tail 8 (by kernel_rfl) (by kernel_rfl) ?_
  simp only [List.take_succ_cons, List.take_zero, List.drop_succ_cons, List.drop_zero]
  still_step
  still_step
  still_step
  still_step
  still_call (S1.out.mono (fun e w' h => ⟨h.1, h.2.symm⟩))
  still_step
  still_call (S2.out.mono (fun e w' h => ⟨h.1, h.2.symm⟩))
  still_step
  refine wpStill_nil ?_
  change wpList _ _ _ _ _ w1.drew
  go_wp2_with fail
  go_ret
  exact ⟨_, rfl, HP.out _ rfl⟩
theorem keep_any {w : World} {ka va : Option Addr} {q : Pr} (kc vc : Nat) (hk : Bts w ka q.1) (hv : Bts w va q.2) (hn : q.1.length ≤ 100000 ∧ q.2.length ≤ 100000) :
    Calls Tryz.prog 69 #[.agg #[.slice ka q.1.length kc, .slice va q.2.length vc]] w fun e w' => ∃ g1 g2, e = .returned (.agg #[.slice (some ⟨g1, 0, none⟩) q.1.length q.1.length, .slice (some ⟨g2, 0, none⟩) q.2.length q.2.length]) ∧ NewRow w.heap.size w' g1 q.1 ∧ NewRow w.heap.size w' g2 q.2 ∧ g1 < g2 ∧ Below w.heap.size w w' := by
  obtain ⟨g, hg⟩ : ∃ g, g = w.heap.size := ⟨_, rfl⟩
  obtain ⟨w1, hw1⟩ : ∃ w1, w1 = (w.alloc (.cells #[.slice ka q.1.length kc, .slice va q.2.length vc] 29)).alloc (.cells #[.slice none 0 0, .slice none 0 0] 130) := ⟨_, rfl⟩
  have hb1 : Below w.heap.size w w1 := by rw [hw1]; exact ((Below.refl _ _).alloc (Nat.le_refl _) _).alloc (by simp) _
  have hsz : w1.heap.size = g + 2 := by rw [hw1, hg]; simp
  have r0 : w1.heap[g]? = some (.cells #[.slice ka q.1.length kc, .slice va q.2.length vc] 29 (0, 0)) := by
    rw [hw1, hg, Below.heap_alloc _ _ _ (by simp)]
    exact heap_alloc_new w _
  have r1 : w1.heap[g + 1]? = some (.cells #[.slice none 0 0, .slice none 0 0] 130 (0, 0)) := by
    have := heap_alloc_new (w.alloc (.cells #[.slice ka q.1.length kc, .slice va q.2.length vc] 29)) (.cells #[.slice none 0 0, .slice none 0 0] 130)
    rw [hw1, hg]
    simpa using this
  have ek := fun W (hW : Below w1.heap.size w1 W) => copy_any ((hk.below hb1).below hW) kc hn.1
  have ev := fun W (hW : Below w1.heap.size w1 W) => copy_any ((hv.below hb1).below hW) vc hn.2
  obtain ⟨x, hx⟩ : ∃ x : Nat, x = q.1.length := ⟨_, rfl⟩
  obtain ⟨y, hy⟩ : ∃ y : Nat, y = q.2.length := ⟨_, rfl⟩
  simp only [← hx, ← hy] at r0 ek ev hw1 ⊢
  have hkeep : ∀ W, Below w1.heap.size w1 W → W.cell? ⟨g, 0, none⟩ = some (.slice ka x kc) ∧ W.cell? ⟨g, 1, none⟩ = some (.slice va y vc) ∧ W.cell? ⟨g + 1, 0, none⟩ = some (.slice none 0 0) ∧ W.cell? ⟨g + 1, 1, none⟩ = some (.slice none 0 0) ∧ W.frozen? ⟨g + 1, 0, none⟩ = false ∧ W.frozen? ⟨g + 1, 1, none⟩ = false := by
    intro W hW
    have q0 := (hW.block g (by omega)).trans r0
    have q1 := (hW.block (g + 1) (by omega)).trans r1
    refine ⟨?_, ?_, ?_, ?_, ?_, ?_⟩
    · rw [cell_of_row W _ _ _ 29 (0, 0) q0]; rfl
    · rw [cell_of_row W _ _ _ 29 (0, 0) q0]; rfl
    · rw [cell_of_row W _ _ _ 130 (0, 0) q1]; rfl
    · rw [cell_of_row W _ _ _ 130 (0, 0) q1]; rfl
    · simp [World.frozen?, q1]
    · simp [World.frozen?, q1]
  have hkeep2 : ∀ (W : World) (v1 v2 : Value), W.cell? ⟨g, 0, none⟩ = some (.slice ka x kc) ∧ W.cell? ⟨g, 1, none⟩ = some (.slice va y vc) →
      ((W.setCell ⟨g + 1, 0, none⟩ v1).setCell ⟨g + 1, 1, none⟩ v2).cell? ⟨g, 0, none⟩ = some (.slice ka x kc) ∧ ((W.setCell ⟨g + 1, 0, none⟩ v1).setCell ⟨g + 1, 1, none⟩ v2).cell? ⟨g, 1, none⟩ = some (.slice va y vc) := by
    intro W v1 v2 h
    have hne : g + 1 ≠ g := by omega
    constructor
    · rw [World.cell?_setCell_other _ _ _ _ (fun e => hne (by injection e)), World.cell?_setCell_other _ _ _ _ (fun e => hne (by injection e))]; exact h.1
    · rw [World.cell?_setCell_other _ _ _ _ (fun e => hne (by injection e)), World.cell?_setCell_other _ _ _ _ (fun e => hne (by injection e))]; exact h.2
  have hpost : ∀ (wA wB : World) (hA : Below w1.drew.heap.size w1.drew wA) (hB : Below wA.heap.size wA wB) (hrA : wA.heap[w1.drew.heap.size]? = some (.cells (Lib.byteCells q.1).toArray 5 (0, 0))) (hrB : wB.heap[wA.heap.size]? = some (.cells (Lib.byteCells q.2).toArray 5 (0, 0))) (v1 v2 : Value),
      NewRow w.heap.size ((wB.setCell ⟨g + 1, 0, none⟩ v1).setCell ⟨g + 1, 1, none⟩ v2) w1.drew.heap.size q.1 ∧ NewRow w.heap.size ((wB.setCell ⟨g + 1, 0, none⟩ v1).setCell ⟨g + 1, 1, none⟩ v2) wA.heap.size q.2 ∧ w1.drew.heap.size < wA.heap.size ∧ Below w.heap.size w ((wB.setCell ⟨g + 1, 0, none⟩ v1).setCell ⟨g + 1, 1, none⟩ v2) ∧
      ((wB.setCell ⟨g + 1, 0, none⟩ v1).setCell ⟨g + 1, 1, none⟩ v2).heap[g + 1]? = some (.cells ((#[Value.slice none 0 0, Value.slice none 0 0].setIfInBounds 0 v1).setIfInBounds 1 v2) 130 (0, 0)) := by
    intro wA wB hA hB hrA hrB v1 v2
    have e0 : w1.drew.heap.size = w1.heap.size := rfl
    have ltA : w1.drew.heap.size < wA.heap.size := (Array.getElem?_eq_some_iff.1 hrA).1
    have q1 : wB.heap[g + 1]? = some (.cells #[.slice none 0 0, .slice none 0 0] 130 (0, 0)) := by
      rw [hB.block _ (by omega), hA.block _ (by omega)]
      exact r1
    have q2 := heap_setCell_same wB (g + 1) 0 _ 130 v1 q1
    have q3 := heap_setCell_same _ (g + 1) 1 _ 130 v2 q2
    have other : ∀ k, k ≠ g + 1 → ((wB.setCell ⟨g + 1, 0, none⟩ v1).setCell ⟨g + 1, 1, none⟩ v2).heap[k]? = wB.heap[k]? := fun k hk => by
      rw [Below.heap_setCell _ ⟨g + 1, 1, none⟩ v2 k hk, Below.heap_setCell _ ⟨g + 1, 0, none⟩ v1 k hk]
    refine ⟨⟨by omega, ?_⟩, ⟨by omega, ?_⟩, ltA, ?_, q3⟩
    · rw [other _ (by omega), hB.block _ ltA]; exact hrA
    · rw [other _ (by omega)]; exact hrB
    · have hbB : Below g w wB := by
        refine ⟨(hB.os.trans hA.os).trans hb1.os, (hB.tape.trans hA.tape).trans hb1.tape, (hB.output.trans hA.output).trans hb1.output, by have := hA.size; have := hB.size; have := hb1.size; omega, fun k hk => ?_⟩
        rw [hB.block k (by omega), hA.block k (by omega)]
        exact hb1.block k (by omega)
      exact hg ▸ (hbB.setCell (p := ⟨g + 1, 0, none⟩) (by show g ≤ g + 1; omega) _).setCell (p := ⟨g + 1, 1, none⟩) (by show g ≤ g + 1; omega) _
  have HP := Lib.hid hpost; clear hpost
  have EK := Lib.hid ek; clear ek
  have EV := Lib.hid ev; clear ev
  have KEEP := Lib.hid hkeep; clear hkeep
  have KEEP2 := Lib.hid hkeep2; clear hkeep2
  have HW := Lib.hid hw1; clear hw1
  have HX := Lib.hid hx; clear hx
  have HY := Lib.hid hy; clear hy
  have HG := Lib.hid hg; clear hg
  clear hk hv hn hb1 hsz r0 r1
  go_enter Tryz.func69, Tryz.ntmps69
  go_wp2_with fail
  simp only [← HG.out] at HW ⊢
  rw [← HW.out]
  have hz0 : Below w1.heap.size w1 w1.drew := (Below.refl _ _).drew
  go_region_held3 (fun W => W.cell? ⟨g, 0, none⟩ = some (.slice ka x kc) ∧ W.cell? ⟨g, 1, none⟩ = some (.slice va y vc)) (first | exact ⟨(KEEP.out _ hz0).1, (KEEP.out _ hz0).2.1⟩ | exact ⟨(KEEP.out _ hzA).1, (KEEP.out _ hzA).2.1⟩ | exact ⟨(KEEP.out _ hzB).1, (KEEP.out _ hzB).2.1⟩ | exact KEEP2.out _ _ _ ⟨(KEEP.out _ hzB).1, (KEEP.out _ hzB).2.1⟩) (first
    | (go_at_call 89; (with_reducible refine (EK.out _ hz0).mono ?_); rintro e wA ⟨rfl, hrA, hA⟩; have hzA := below_then hz0 hA)
    | (go_at_call 89; (with_reducible refine (EV.out _ hzA).mono ?_); rintro e wB ⟨rfl, hrB, hB⟩; have hzB := below_then hzA hB; obtain ⟨_, _, s1, s2, s3, s4⟩ := KEEP.out _ hzB))
  all_goals
    go_wp2_with fail
    obtain ⟨p1, p2, p3, p4, p5⟩ := HP.out wA wB hA hB hrA hrB _ _
    refine bodyPost_ret (results_cell_row rfl _ _ (g + 1) 130 _ (0, 0) _ rfl p5 Tryz.underlying130 rfl (by kernel_rfl)) rfl ?_
    exact ⟨_, _, rfl, HG.out ▸ p1, HG.out ▸ p2, p3, HG.out ▸ p4⟩
theorem told_any {w : World} {ka va : Option Addr} {q : Pr} (kc vc : Nat) (hk : Bts w ka q.1) (hv : Bts w va q.2) (hn : q.1.length ≤ 100000 ∧ q.2.length ≤ 100000) :
    Calls Tryz.prog 80 #[.agg #[.slice ka q.1.length kc, .slice va q.2.length vc]] w fun e w' => ∃ g1 g2, e = .returned (.agg #[.slice (some ⟨g1, 0, none⟩) q.1.length q.1.length, .slice (some ⟨g2, 0, none⟩) q.2.length q.2.length]) ∧ NewRow w.heap.size w' g1 q.1 ∧ NewRow w.heap.size w' g2 q.2 ∧ g1 < g2 ∧ Below w.heap.size w w' := by
  obtain ⟨g, hg⟩ : ∃ g, g = w.heap.size := ⟨_, rfl⟩
  obtain ⟨w1, hw1⟩ : ∃ w1, w1 = (w.alloc (.cells #[.slice ka q.1.length kc, .slice va q.2.length vc] 130)).alloc (.cells #[.slice none 0 0, .slice none 0 0] 29) := ⟨_, rfl⟩
  have hb1 : Below w.heap.size w w1 := by rw [hw1]; exact ((Below.refl _ _).alloc (Nat.le_refl _) _).alloc (by simp) _
  have hsz : w1.heap.size = g + 2 := by rw [hw1, hg]; simp
  have r0 : w1.heap[g]? = some (.cells #[.slice ka q.1.length kc, .slice va q.2.length vc] 130 (0, 0)) := by
    rw [hw1, hg, Below.heap_alloc _ _ _ (by simp)]
    exact heap_alloc_new w _
  have r1 : w1.heap[g + 1]? = some (.cells #[.slice none 0 0, .slice none 0 0] 29 (0, 0)) := by
    have := heap_alloc_new (w.alloc (.cells #[.slice ka q.1.length kc, .slice va q.2.length vc] 130)) (.cells #[.slice none 0 0, .slice none 0 0] 29)
    rw [hw1, hg]
    simpa using this
  have ek := fun W (hW : Below w1.heap.size w1 W) => copy_any ((hk.below hb1).below hW) kc hn.1
  have ev := fun W (hW : Below w1.heap.size w1 W) => copy_any ((hv.below hb1).below hW) vc hn.2
  obtain ⟨x, hx⟩ : ∃ x : Nat, x = q.1.length := ⟨_, rfl⟩
  obtain ⟨y, hy⟩ : ∃ y : Nat, y = q.2.length := ⟨_, rfl⟩
  simp only [← hx, ← hy] at r0 ek ev hw1 ⊢
  have hkeep : ∀ W, Below w1.heap.size w1 W → W.cell? ⟨g, 0, none⟩ = some (.slice ka x kc) ∧ W.cell? ⟨g, 1, none⟩ = some (.slice va y vc) ∧ W.cell? ⟨g + 1, 0, none⟩ = some (.slice none 0 0) ∧ W.cell? ⟨g + 1, 1, none⟩ = some (.slice none 0 0) ∧ W.frozen? ⟨g + 1, 0, none⟩ = false ∧ W.frozen? ⟨g + 1, 1, none⟩ = false := by
    intro W hW
    have q0 := (hW.block g (by omega)).trans r0
    have q1 := (hW.block (g + 1) (by omega)).trans r1
    refine ⟨?_, ?_, ?_, ?_, ?_, ?_⟩
    · rw [cell_of_row W _ _ _ 130 (0, 0) q0]; rfl
    · rw [cell_of_row W _ _ _ 130 (0, 0) q0]; rfl
    · rw [cell_of_row W _ _ _ 29 (0, 0) q1]; rfl
    · rw [cell_of_row W _ _ _ 29 (0, 0) q1]; rfl
    · simp [World.frozen?, q1]
    · simp [World.frozen?, q1]
  have hkeep2 : ∀ (W : World) (v1 v2 : Value), W.cell? ⟨g, 0, none⟩ = some (.slice ka x kc) ∧ W.cell? ⟨g, 1, none⟩ = some (.slice va y vc) →
      ((W.setCell ⟨g + 1, 0, none⟩ v1).setCell ⟨g + 1, 1, none⟩ v2).cell? ⟨g, 0, none⟩ = some (.slice ka x kc) ∧ ((W.setCell ⟨g + 1, 0, none⟩ v1).setCell ⟨g + 1, 1, none⟩ v2).cell? ⟨g, 1, none⟩ = some (.slice va y vc) := by
    intro W v1 v2 h
    have hne : g + 1 ≠ g := by omega
    constructor
    · rw [World.cell?_setCell_other _ _ _ _ (fun e => hne (by injection e)), World.cell?_setCell_other _ _ _ _ (fun e => hne (by injection e))]; exact h.1
    · rw [World.cell?_setCell_other _ _ _ _ (fun e => hne (by injection e)), World.cell?_setCell_other _ _ _ _ (fun e => hne (by injection e))]; exact h.2
  have hpost : ∀ (wA wB : World) (hA : Below w1.drew.heap.size w1.drew wA) (hB : Below wA.heap.size wA wB) (hrA : wA.heap[w1.drew.heap.size]? = some (.cells (Lib.byteCells q.1).toArray 5 (0, 0))) (hrB : wB.heap[wA.heap.size]? = some (.cells (Lib.byteCells q.2).toArray 5 (0, 0))) (v1 v2 : Value),
      NewRow w.heap.size ((wB.setCell ⟨g + 1, 0, none⟩ v1).setCell ⟨g + 1, 1, none⟩ v2) w1.drew.heap.size q.1 ∧ NewRow w.heap.size ((wB.setCell ⟨g + 1, 0, none⟩ v1).setCell ⟨g + 1, 1, none⟩ v2) wA.heap.size q.2 ∧ w1.drew.heap.size < wA.heap.size ∧ Below w.heap.size w ((wB.setCell ⟨g + 1, 0, none⟩ v1).setCell ⟨g + 1, 1, none⟩ v2) ∧
      ((wB.setCell ⟨g + 1, 0, none⟩ v1).setCell ⟨g + 1, 1, none⟩ v2).heap[g + 1]? = some (.cells ((#[Value.slice none 0 0, Value.slice none 0 0].setIfInBounds 0 v1).setIfInBounds 1 v2) 29 (0, 0)) := by
    intro wA wB hA hB hrA hrB v1 v2
    have e0 : w1.drew.heap.size = w1.heap.size := rfl
    have ltA : w1.drew.heap.size < wA.heap.size := (Array.getElem?_eq_some_iff.1 hrA).1
    have q1 : wB.heap[g + 1]? = some (.cells #[.slice none 0 0, .slice none 0 0] 29 (0, 0)) := by
      rw [hB.block _ (by omega), hA.block _ (by omega)]
      exact r1
    have q2 := heap_setCell_same wB (g + 1) 0 _ 29 v1 q1
    have q3 := heap_setCell_same _ (g + 1) 1 _ 29 v2 q2
    have other : ∀ k, k ≠ g + 1 → ((wB.setCell ⟨g + 1, 0, none⟩ v1).setCell ⟨g + 1, 1, none⟩ v2).heap[k]? = wB.heap[k]? := fun k hk => by
      rw [Below.heap_setCell _ ⟨g + 1, 1, none⟩ v2 k hk, Below.heap_setCell _ ⟨g + 1, 0, none⟩ v1 k hk]
    refine ⟨⟨by omega, ?_⟩, ⟨by omega, ?_⟩, ltA, ?_, q3⟩
    · rw [other _ (by omega), hB.block _ ltA]; exact hrA
    · rw [other _ (by omega)]; exact hrB
    · have hbB : Below g w wB := by
        refine ⟨(hB.os.trans hA.os).trans hb1.os, (hB.tape.trans hA.tape).trans hb1.tape, (hB.output.trans hA.output).trans hb1.output, by have := hA.size; have := hB.size; have := hb1.size; omega, fun k hk => ?_⟩
        rw [hB.block k (by omega), hA.block k (by omega)]
        exact hb1.block k (by omega)
      exact hg ▸ (hbB.setCell (p := ⟨g + 1, 0, none⟩) (by show g ≤ g + 1; omega) _).setCell (p := ⟨g + 1, 1, none⟩) (by show g ≤ g + 1; omega) _
  have HP := Lib.hid hpost; clear hpost
  have EK := Lib.hid ek; clear ek
  have EV := Lib.hid ev; clear ev
  have KEEP := Lib.hid hkeep; clear hkeep
  have KEEP2 := Lib.hid hkeep2; clear hkeep2
  have HW := Lib.hid hw1; clear hw1
  have HX := Lib.hid hx; clear hx
  have HY := Lib.hid hy; clear hy
  have HG := Lib.hid hg; clear hg
  clear hk hv hn hb1 hsz r0 r1
  go_enter Tryz.func80, Tryz.ntmps80
  go_wp2_with fail
  simp only [← HG.out] at HW ⊢
  rw [← HW.out]
  have hz0 : Below w1.heap.size w1 w1.drew := (Below.refl _ _).drew
  go_region_held3 (fun W => W.cell? ⟨g, 0, none⟩ = some (.slice ka x kc) ∧ W.cell? ⟨g, 1, none⟩ = some (.slice va y vc)) (first | exact ⟨(KEEP.out _ hz0).1, (KEEP.out _ hz0).2.1⟩ | exact ⟨(KEEP.out _ hzA).1, (KEEP.out _ hzA).2.1⟩ | exact ⟨(KEEP.out _ hzB).1, (KEEP.out _ hzB).2.1⟩ | exact KEEP2.out _ _ _ ⟨(KEEP.out _ hzB).1, (KEEP.out _ hzB).2.1⟩) (first
    | (go_at_call 89; (with_reducible refine (EK.out _ hz0).mono ?_); rintro e wA ⟨rfl, hrA, hA⟩; have hzA := below_then hz0 hA)
    | (go_at_call 89; (with_reducible refine (EV.out _ hzA).mono ?_); rintro e wB ⟨rfl, hrB, hB⟩; have hzB := below_then hzA hB; obtain ⟨_, _, s1, s2, s3, s4⟩ := KEEP.out _ hzB))
  all_goals
    go_wp2_with fail
    obtain ⟨p1, p2, p3, p4, p5⟩ := HP.out wA wB hA hB hrA hrB _ _
    refine bodyPost_ret (results_cell_row rfl _ _ (g + 1) 29 _ (0, 0) _ rfl p5 Tryz.underlying29 rfl (by kernel_rfl)) rfl ?_
    exact ⟨_, _, rfl, HG.out ▸ p1, HG.out ▸ p2, p3, HG.out ▸ p4⟩
end Go.Proofs.YtmbdimonfdncpaaGreatDoor
