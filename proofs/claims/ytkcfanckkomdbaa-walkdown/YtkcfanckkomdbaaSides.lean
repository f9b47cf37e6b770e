/-
  Contracts of against, side, turned: a key held against a node's own; a tree with another one at a side.
-/
import Derived.Test.YtkcfanckkomdbaaPairs
import Derived.Test.YtkcfanckkomdbaaLists
namespace Go.Proofs.Ytkcfanckkomdbaa
open Go.RowKit
set_option maxHeartbeats 4000000
set_option maxRecDepth 100000
theorem against_any {F : Nat → Prop} {w : World} {l r : Tr} {q : Pr} {p m A : Option Addr} {v c : Nat} {k : List UInt8} (kc' : Nat) (ht : Tre F w (.node l q r) p) (hm : Met w m v c) (hk : Bts w A k) (hv : v ≤ 1000000) (hc : c ≤ 1000000) :
    Calls Try.prog 30 #[.pointer p, .slice A k.length kc', .pointer m] w fun e w' => e = .returned (.int .i64 (cmp k q.1)) ∧ Met w' m (v + 1) (c + 1) ∧ Only m w w' := by
  obtain ⟨b, ka, kc, va, vc, pl, pr, rfl, nd, hl, hr⟩ := ht
  have hvis := visit_any hm hv
  have hcm := fun w1 (h1 : Met w1 m (v + 1) c) (ho : Only m w w1) => mcompare_any h1 hc kc' kc (hk.only hm ho) (nd.only hm ho).2.2.1.bts
  obtain ⟨x, hx⟩ : ∃ x, x = k.length := ⟨_, rfl⟩
  obtain ⟨y, hy⟩ : ∃ y, y = q.1.length := ⟨_, rfl⟩
  obtain ⟨z, hz⟩ : ∃ z, z = cmp k q.1 := ⟨_, rfl⟩
  simp only [← hx, ← hy, ← hz] at hcm ⊢
  have HV := Lib.hid hvis; clear hvis
  have HC := Lib.hid hcm; clear hcm
  have HND := Lib.hid nd; clear nd
  have HM := Lib.hid hm; clear hm
  have HY := Lib.hid hy; clear hy
  clear hx hz hl hr hk
  go_enter Try.func30, Try.ntmps30
  go_wp2_with fail
  refine HV.out.mono ?_
  rintro e w1 ⟨rfl, h1, h2⟩
  have hcm := HC.out w1 h1 h2
  obtain ⟨c0, _⟩ := (HND.out.only HM.out h2).cells
  rw [← HY.out] at c0
  have HC2 := Lib.hid hcm; clear hcm
  have H2 := Lib.hid h2; clear h2
  clear h1 HC HV
  go_wp2_with fail
  refine HC2.out.mono ?_
  rintro e w2 ⟨rfl, h1, h3⟩
  have H1 := Lib.hid h1; clear h1
  have H3 := Lib.hid h3; clear h3
  go_wp2_with fail
  go_ret
  exact ⟨rfl, H1.out, H2.out.trans H3.out⟩
theorem side_any {F : Nat → Prop} {w : World} {l r : Tr} {q : Pr} {p : Option Addr} (z : Int) (ht : Tre F w (.node l q r) p) :
    Calls Try.prog 32 #[.pointer p, .int .i64 z] w fun e w' => (∃ p', e = .returned (.pointer p') ∧ Tre F w (if z < 0 then l else r) p') ∧ w = w' := by
  obtain ⟨b, ka, kc, va, vc, pl, pr, rfl, nd, hl, hr⟩ := ht
  obtain ⟨_, _, c2, c3, _⟩ := nd.cells
  have HL := Lib.hid hl; clear hl
  have HR := Lib.hid hr; clear hr
  clear nd
  by_cases hz : z < 0
  · rw [if_pos hz]
    go_enter Try.func32, Try.ntmps32
    go_wp2
    go_ret
    exact ⟨⟨pl, rfl, HL.out⟩, rfl⟩
  · rw [if_neg hz]
    go_enter Try.func32, Try.ntmps32
    go_wp2
    go_ret
    exact ⟨⟨pr, rfl, HR.out⟩, rfl⟩
theorem turned_any {F : Nat → Prop} {w : World} {l r o : Tr} {q : Pr} {p po : Option Addr} (z : Int) (hF : Fut F w) (ht : Tre F w (.node l q r) p) (ho : Tre F w o po) (el : l.even) (er : r.even) (eo : o.even) (hs : l.size + r.size + o.size < 3000) :
    Calls Try.prog 33 #[.pointer p, .int .i64 z, .pointer po] w fun e w' => ∃ p' t, e = .returned (.pointer p') ∧ Tre F w' t p' ∧ t.even ∧ (t.list = if z < 0 then o.list ++ q :: r.list else l.list ++ q :: o.list) ∧ Below w.heap.size w w' := by
  obtain ⟨b, ka, kc, va, vc, pl, pr, rfl, nd, hl, hr⟩ := ht
  have hnod := fun W (hW : Below w.heap.size w W) => (nd.below hW).cells
  have hz0 : Below w.heap.size w w.drew := (Below.refl _ _).drew
  obtain ⟨k1, hk1⟩ : ∃ k, k = q.1.length := ⟨_, rfl⟩
  obtain ⟨k2, hk2⟩ : ∃ k, k = q.2.length := ⟨_, rfl⟩
  simp only [← hk1, ← hk2] at hnod
  by_cases hz : z < 0
  · simp only [if_pos hz]
    have hj := fun W (hW : Below w.heap.size w W) => join_any kc vc (hF.later hW.size) (ho.below hW) (hr.below hW) (nd.below hW).2.2.1 (nd.below hW).2.2.2 (by omega) eo er
    have hkeep : ∀ W, Below w.heap.size w W → W.cell? ⟨b, 0, none⟩ = some (.slice ka k1 kc) ∧ W.cell? ⟨b, 1, none⟩ = some (.slice va k2 vc) ∧ W.cell? ⟨b, 3, none⟩ = some (.pointer pr) := fun W hW => ⟨(hnod W hW).1, (hnod W hW).2.1, (hnod W hW).2.2.2.1⟩
    simp only [← hk1, ← hk2] at hj
    have HJ := Lib.hid hj; clear hj
    have KEEP := Lib.hid hkeep; clear hkeep
    clear hnod nd hl hr ho el er eo hs hF hk1 hk2
    go_enter Try.func33, Try.ntmps33
    go_wp2_with fail
    go_region_held3 (fun W => W.cell? ⟨b, 0, none⟩ = some (.slice ka k1 kc) ∧ W.cell? ⟨b, 1, none⟩ = some (.slice va k2 vc) ∧ W.cell? ⟨b, 3, none⟩ = some (.pointer pr)) (first | exact KEEP.out _ hz0 | exact KEEP.out _ hzA | fail) (first
      | (go_at_call 55; (with_reducible refine (HJ.out _ hz0).mono ?_); rintro e wA ⟨pA, tA, rfl, hA, hev, hli, hbA⟩; have hzA := below_then hz0 hbA)
      | fail)
    all_goals
      go_wp2_with fail
      go_ret
      exact ⟨pA, tA, rfl, hA, hev, hli, hzA⟩
  · simp only [if_neg hz]
    have hj := fun W (hW : Below w.heap.size w W) => join_any kc vc (hF.later hW.size) (hl.below hW) (ho.below hW) (nd.below hW).2.2.1 (nd.below hW).2.2.2 (by omega) el eo
    have hkeep : ∀ W, Below w.heap.size w W → W.cell? ⟨b, 0, none⟩ = some (.slice ka k1 kc) ∧ W.cell? ⟨b, 1, none⟩ = some (.slice va k2 vc) ∧ W.cell? ⟨b, 2, none⟩ = some (.pointer pl) := fun W hW => ⟨(hnod W hW).1, (hnod W hW).2.1, (hnod W hW).2.2.1⟩
    simp only [← hk1, ← hk2] at hj
    have HJ := Lib.hid hj; clear hj
    have KEEP := Lib.hid hkeep; clear hkeep
    clear hnod nd hl hr ho el er eo hs hF hk1 hk2
    go_enter Try.func33, Try.ntmps33
    go_wp2_with fail
    go_region_held3 (fun W => W.cell? ⟨b, 0, none⟩ = some (.slice ka k1 kc) ∧ W.cell? ⟨b, 1, none⟩ = some (.slice va k2 vc) ∧ W.cell? ⟨b, 2, none⟩ = some (.pointer pl)) (first | exact KEEP.out _ hz0 | exact KEEP.out _ hzA | fail) (first
      | (go_at_call 55; (with_reducible refine (HJ.out _ hz0).mono ?_); rintro e wA ⟨pA, tA, rfl, hA, hev, hli, hbA⟩; have hzA := below_then hz0 hbA)
      | fail)
    all_goals
      go_wp2_with fail
      go_ret
      exact ⟨pA, tA, rfl, hA, hev, hli, hzA⟩
end Go.Proofs.Ytkcfanckkomdbaa
