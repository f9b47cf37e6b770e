/-
  The contracts of a cursor's Next and Back.
-/
import Derived.Test.YtkcfanckkomdbaaCurs
namespace Go.Proofs.Ytkcfanckkomdbaa
open Go.RowKit
set_option maxHeartbeats 4000000
set_option maxRecDepth 100000
theorem var_new (w : World) : ∃ w1, w1 = w.alloc (.cells #[.slice none 0 0, .slice none 0 0] 37) ∧ Below w.heap.size w w1 ∧ ∀ W, Below w1.heap.size w1 W → W.heap[w.heap.size]? = some (.cells #[.slice none 0 0, .slice none 0 0] 37 (0, 0)) :=
  ⟨_, rfl, (Below.refl _ _).alloc (Nat.le_refl _) _, fun W hW => (hW.block _ (by simp)).trans (heap_alloc_new w _)⟩
theorem Bts.set2 {w : World} {g : Nat} {a b : Value} {t : TypeId} {A : Option Addr} {l : List UInt8} (h : w.heap[g]? = some (.cells #[a, b] t (0, 0))) (ha : ∀ k z, a ≠ .int k z) (hb : ∀ k z, b ≠ .int k z) (x y : Value) (hA : Bts w A l) : Bts ((w.setCell ⟨g, 0, none⟩ x).setCell ⟨g, 1, none⟩ y) A l := by
  rcases hA with rfl | ⟨c, off, rfl, hlt, hcl⟩
  · exact .inl rfl
  · by_cases hl : l = []
    · exact .inl hl
    · have h0 := hcl 0 (List.length_pos_iff.2 hl)
      have hne : c ≠ g := by
        rintro rfl
        rw [cell_of_row w c _ _ t (0, 0) h] at h0
        rcases off with _ | _ | off
        · injection h0 with h0; exact ha _ _ h0
        · injection h0 with h0; exact hb _ _ h0
        · simp at h0
      have e := (Go.Proofs.Ytkcfanckkomdbaa.set2 h x y).2 c hne
      exact .inr ⟨c, off, rfl, lt_kept e hlt, fun i hi => (cell_kept e).trans (hcl i hi)⟩
/-- a pair's variable, made and set -/
theorem row_new {o : Option Pr} {w1 : World} {B : Nat} {ka va : Option Addr} {x1 x2 : Nat} {is : Bool} (wA : World) (a b : Value) (hz : Below B w1 wA) (hp : Pt o wA ka va x1 x2 is) (hB : B = w1.heap.size := by rfl) :
    ∃ q wB, q = wA.heap.size ∧ wB = wA.alloc (.cells #[a, b] 37) ∧ w1.heap.size ≤ q ∧ wB.heap[q]? = some (.cells #[a, b] 37 (0, 0)) ∧ Below w1.heap.size w1 wB ∧ Pt o wB ka va x1 x2 is := by
  subst hB
  exact ⟨_, _, rfl, rfl, hz.size, heap_alloc_new wA _, hz.alloc hz.size _, hp.below ((Below.refl _ _).alloc (Nat.le_refl _) _)⟩
theorem row_set {o : Option Pr} {w1 wA : World} {B : Nat} {ka va : Option Addr} {x1 x2 : Nat} {is : Bool} (h : wA.heap[w1.heap.size]? = some (.cells #[.slice none 0 0, .slice none 0 0] 37 (0, 0))) (a b : Value) (hz : Below B w1 wA) (hp : Pt o wA ka va x1 x2 is) (hB : B = w1.heap.size := by rfl) :
    ∃ q wB, q = w1.heap.size ∧ wB = (wA.setCell ⟨w1.heap.size, 0, none⟩ a).setCell ⟨w1.heap.size, 1, none⟩ b ∧ w1.heap.size ≤ q ∧ wB.heap[q]? = some (.cells #[a, b] 37 (0, 0)) ∧ Below w1.heap.size w1 wB ∧ Pt o wB ka va x1 x2 is := by
  subst hB
  exact ⟨_, _, rfl, rfl, Nat.le_refl _, (set2 h a b).1, hz.trans (below_set2 a b (Nat.le_refl _)), hp.1, hp.2.1, hp.2.2.1, hp.2.2.2.1.set2 h (by intro k z e; cases e) (by intro k z e; cases e) _ _, hp.2.2.2.2.set2 h (by intro k z e; cases e) (by intro k z e; cases e) _ _⟩
theorem next_any_yes {L : List Pr} {k : Nat} (_ : k ≤ L.length) (h : (nth L (k : Int)).isSome = true) : k + 1 = min (k + 1) L.length := by
  rcases Nat.lt_or_ge k L.length with g | g
  · omega
  · rw [nth_out (by omega)] at h
    cases h
theorem next_any_no {L : List Pr} {k : Nat} (_ : k ≤ L.length) (h : (nth L (k : Int)).isSome = false) : k = min (k + 1) L.length := by
  rcases Nat.lt_or_ge k L.length with g | g
  · rw [nth_at g] at h
    cases h
  · omega
theorem back_any_yes {L : List Pr} {k : Nat} (_ : k ≤ L.length) (h : (nth L ((k : Int) - 1)).isSome = true) : 1 ≤ k ∧ k - 1 = k - 1 := by
  rcases Nat.eq_zero_or_pos k with rfl | g
  · rw [nth_neg _ (by omega)] at h
    cases h
  · exact ⟨g, rfl⟩
theorem back_any_no {L : List Pr} {k : Nat} (hk : k ≤ L.length) (h : (nth L ((k : Int) - 1)).isSome = false) : k = k - 1 := by
  rcases Nat.eq_zero_or_pos k with rfl | g
  · rfl
  · rw [show (k : Int) - 1 = ((k - 1 : Nat) : Int) by omega, nth_at (by omega)] at h
    cases h
/-- what is told lies in the variable of the answer -/
theorem ret_row {o : Option Pr} {w wC : World} {g k x1 x2 : Nat} {p ka va : Option Addr} {is : Bool} (kc vc : Nat) (hr : wC.heap[w.heap.size]? = some (.cells #[.slice none 0 0, .slice none 0 0] 37 (0, 0))) (hC : Cur wC g p k) (hg : g < w.heap.size) (hp : Pt o wC ka va x1 x2 is) (hO : Only (some ⟨g, 0, none⟩) w wC) :
    ∃ wZ, wZ = (wC.setCell ⟨w.heap.size, 0, none⟩ (.slice ka x1 kc)).setCell ⟨w.heap.size, 1, none⟩ (.slice va x2 vc) ∧ wZ.heap[w.heap.size]? = some (.cells #[.slice ka x1 kc, .slice va x2 vc] 37 (0, 0)) ∧
      Gt o (.returned (.tuple #[.agg #[.slice ka x1 kc, .slice va x2 vc], .bool is])) wZ ∧ Cur wZ g p k ∧ Only (some ⟨g, 0, none⟩) w wZ := by
  obtain ⟨s1, s2⟩ := set2 hr (.slice ka x1 kc) (.slice va x2 vc)
  refine ⟨_, rfl, s1, ⟨ka, kc, va, vc, x1, x2, is, rfl, hp.1, hp.2.1, hp.2.2.1, ?_, ?_⟩, (s2 g (by omega)).trans hC, hO.then_below (below_set2 _ _ (Nat.le_refl _))⟩
  · exact hp.2.2.2.1.set2 hr (by intro k z e; cases e) (by intro k z e; cases e) _ _
  · exact hp.2.2.2.2.set2 hr (by intro k z e; cases e) (by intro k z e; cases e) _ _
theorem next_any {w : World} {g k : Nat} {p : Option Addr} {L : List Pr} (hc : Cur w g p k) (h : Wood w p L) (hk : k ≤ L.length) :
    Calls Try.prog 12 #[.pointer (some ⟨g, 0, none⟩)] w fun e w' => Gt (nth L ((k : Int))) e w' ∧ Cur w' g p (min (k + 1) L.length) ∧ Only (some ⟨g, 0, none⟩) w w' := by
  have h9 := h.few
  have hgl := hc.lt
  obtain ⟨w1, hw1, hb1, hv⟩ := var_new w
  have ha := fun W (hW : Below w1.heap.size w1 W) => ((h.below hb1).below hW).at ((k : Int)) (by omega) (by omega)
  have hcs : ∀ W, Below w1.heap.size w1 W → W.cell? ⟨g, 0, none⟩ = some (.pointer p) ∧ W.cell? ⟨g, 1, none⟩ = some (.int .i64 (k : Int)) := fun W hW => ⟨((hc.later hb1).later hW).cells.1, ((hc.later hb1).later hW).cells.2.1⟩
  have hcu : ∀ W, Below w1.heap.size w1 W → Cur W g p k := fun W hW => (hc.later hb1).later hW
  have hz : Below w1.heap.size w1 w1.drew := (Below.refl _ _).drew
  have hzP : Below w1.heap.size w1 (w1.alloc (.cells #[.slice none 0 0, .slice none 0 0] 37)).drew := ((Below.refl _ _).alloc (Nat.le_refl _) _).drew
  have hnew : ∀ W, Below (w1.alloc (.cells #[.slice none 0 0, .slice none 0 0] 37)).drew.heap.size (w1.alloc (.cells #[.slice none 0 0, .slice none 0 0] 37)).drew W → W.heap[w1.heap.size]? = some (.cells #[.slice none 0 0, .slice none 0 0] 37 (0, 0)) := fun W hW => (hW.block _ (by simp [World.drew])).trans (heap_alloc_new w1 _)
  have hs1 : w1.heap.size = w.heap.size + 1 := by rw [hw1]; simp
  obtain ⟨o, ho⟩ : ∃ o, o = nth L ((k : Int)) := ⟨_, rfl⟩
  have hyes : ∀ (is : Bool), is = o.isSome → is = true → k + 1 = min (k + 1) L.length := by
    intro is h1 h2
    rw [h2, ho] at h1
    exact next_any_yes hk h1.symm
  have hno : ∀ (is : Bool), is = o.isSome → is = false → k = (min (k + 1) L.length) := by
    intro is h1 h2
    rw [h2, ho] at h1
    exact next_any_no hk h1.symm
  rw [← ho]
  simp only [← ho] at ha
  obtain ⟨k', hk'⟩ : ∃ k', k' = (min (k + 1) L.length) := ⟨_, rfl⟩
  rw [← hk'] at hno hyes ⊢
  have YES := Lib.hid hyes; clear hyes
  have NO := Lib.hid hno; clear hno
  have NEW := Lib.hid hnew; clear hnew
  have HA := Lib.hid ha; clear ha
  have HC := Lib.hid hcs; clear hcs
  have HCU := Lib.hid hcu; clear hcu
  have HV := Lib.hid hv; clear hv
  have HW := Lib.hid hw1; clear hw1
  have HB1 := Lib.hid hb1; clear hb1
  have HS1 := Lib.hid hs1; clear hs1
  have HGL := Lib.hid hgl; clear hgl
  have hkz : k ≤ 900 := by omega
  have HKP := Lib.hid hk'; clear hk'
  clear hc h ho hk h9
  go_enter Try.func12, Try.ntmps12
  go_wp2_with (rw [← HW.out])
  go_region_held3 (fun W => W.cell? ⟨g, 0, none⟩ = some (.pointer p) ∧ W.cell? ⟨g, 1, none⟩ = some (.int .i64 (k : Int))) (first | exact HC.out _ hz | exact HC.out _ hzP | exact HC.out _ hzA | exact HC.out _ (hzA.alloc hzA.size _) | exact HC.out _ (((hzA.alloc hzA.size _).setCell (p := ⟨wA.heap.size, 0, none⟩) hzA.size _).setCell (p := ⟨wA.heap.size, 1, none⟩) hzA.size _) | exact HC.out _ ((hzA.setCell (p := ⟨w1.heap.size, 0, none⟩) (Nat.le_refl _) _).setCell (p := ⟨w1.heap.size, 1, none⟩) (Nat.le_refl _) _) | fail) (first
    | (go_at_call 27; (with_reducible refine (HA.out _ hz).mono ?_); rintro e wA ⟨⟨ka, kc, va, vc, x1, x2, is, rfl, hpt⟩, hA⟩; have hzA := below_then hz hA; have ROW := Lib.hid (row_new wA (.slice ka x1 kc) (.slice va x2 vc) hzA hpt); clear hpt)
    | (go_at_call 27; (with_reducible refine (HA.out _ hzP).mono ?_); rintro e wA ⟨⟨ka, kc, va, vc, x1, x2, is, rfl, hpt⟩, hA⟩; have hzA := below_then hzP hA; have ROW := Lib.hid (row_set (NEW.out wA hA) (.slice ka x1 kc) (.slice va x2 vc) hzA hpt); clear hpt; obtain ⟨d0, d1, f0, f1⟩ := row2 (NEW.out wA hA))
    | fail)
  all_goals
    obtain ⟨q, wB, hq, hwB, hq1, hrow, hBB, hpB⟩ := ROW.out
    rw [← hwB, ← hq]
    clear ROW hA hzA hq hwB
    have hcB := HCU.out wB hBB
    have hrB := HV.out wB hBB
    have hgl := HGL.out
    have hs1 := HS1.out
    have hO : Only (some ⟨g, 0, none⟩) w wB := Only.of (below_then HB1.out hBB)
    cases is with
    | true =>
      have e1 := YES.out true hpB.2.2.1 rfl
      have hk1 : k + 1 = k' := by have := HKP.out; omega
      have hcC := hcB.set (k + 1)
      rw [show ((k + 1 : Nat) : Int) = (k : Int) + 1 by omega] at hcC
      obtain ⟨wC, hwC⟩ : ∃ wC, wC = wB.setCell ⟨g, 1, none⟩ (.int .i64 ((k : Int) + 1)) := ⟨_, rfl⟩
      have hOC : Only (some ⟨g, 0, none⟩) wB wC := by rw [hwC]; exact Only.set _ _ _ _
      have hrC : wC.heap[w.heap.size]? = _ := (by rw [hwC]; exact Below.heap_setCell wB ⟨g, 1, none⟩ _ _ (by show _ ≠ g; omega) : wC.heap[w.heap.size]? = wB.heap[w.heap.size]?).trans hrB
      have hqC : wC.heap[q]? = _ := (by rw [hwC]; exact Below.heap_setCell wB ⟨g, 1, none⟩ _ _ (by show _ ≠ g; omega) : wC.heap[q]? = wB.heap[q]?).trans hrow
      rw [← hwC] at hcC
      obtain ⟨_, c1, f1⟩ := hcB.cells
      obtain ⟨wZ, hwZ, hZr, hfin⟩ := ret_row kc vc hrC hcC hgl (hpB.curs hcB hOC) (hO.trans hOC)
      rw [hk1] at hfin
      obtain ⟨d0, d1, _, _⟩ := row2 hqC
      obtain ⟨r0, r1, s0, s1⟩ := row2 hrC
      have HWC := Lib.hid hwC; clear hwC
      have HWZ := Lib.hid hwZ; clear hwZ
      have HZR := Lib.hid hZr; clear hZr
      have FIN := Lib.hid hfin; clear hfin
      have n1 : ¬ q = w.heap.size := by omega
      have n2 : ¬ w.heap.size = q := by omega
      have H1 := Lib.hid e1; clear e1
      clear hrC hqC hOC hcC hO hrB hrow hcB hBB hpB HGL HS1 hgl hs1 hq1 hk1
      go_wp2_with (rw [← HWC.out])
      rw [← HWZ.out]
      refine bodyPost_ret (results_two rfl _ _ w.heap.size 37 _ (0, 0) _ (.bool true) rfl HZR.out rfl Try.underlying37 rfl (by kernel_rfl)) rfl ?_
      exact FIN.out
    | false =>
      have e1 := NO.out false hpB.2.2.1 rfl
      obtain ⟨wZ, hwZ, hZr, hfin⟩ := ret_row kc vc hrB hcB hgl hpB hO
      rw [e1] at hfin
      obtain ⟨d0, d1, _, _⟩ := row2 hrow
      obtain ⟨r0, r1, s0, s1⟩ := row2 hrB
      have HWZ := Lib.hid hwZ; clear hwZ
      have HZR := Lib.hid hZr; clear hZr
      have FIN := Lib.hid hfin; clear hfin
      have n1 : ¬ q = w.heap.size := by omega
      have n2 : ¬ w.heap.size = q := by omega
      have H1 := Lib.hid e1; clear e1
      clear hO hrB hrow hcB hBB hpB HGL HS1 hgl hs1 hq1
      go_wp2_with fail
      rw [← HWZ.out]
      refine bodyPost_ret (results_two rfl _ _ w.heap.size 37 _ (0, 0) _ (.bool false) rfl HZR.out rfl Try.underlying37 rfl (by kernel_rfl)) rfl ?_
      exact FIN.out
theorem back_any {w : World} {g k : Nat} {p : Option Addr} {L : List Pr} (hc : Cur w g p k) (h : Wood w p L) (hk : k ≤ L.length) :
    Calls Try.prog 14 #[.pointer (some ⟨g, 0, none⟩)] w fun e w' => Gt (nth L ((k : Int) - 1)) e w' ∧ Cur w' g p (k - 1) ∧ Only (some ⟨g, 0, none⟩) w w' := by
  have h9 := h.few
  have hgl := hc.lt
  obtain ⟨w1, hw1, hb1, hv⟩ := var_new w
  have ha := fun W (hW : Below w1.heap.size w1 W) => ((h.below hb1).below hW).at ((k : Int) - 1) (by omega) (by omega)
  have hcs : ∀ W, Below w1.heap.size w1 W → W.cell? ⟨g, 0, none⟩ = some (.pointer p) ∧ W.cell? ⟨g, 1, none⟩ = some (.int .i64 (k : Int)) := fun W hW => ⟨((hc.later hb1).later hW).cells.1, ((hc.later hb1).later hW).cells.2.1⟩
  have hcu : ∀ W, Below w1.heap.size w1 W → Cur W g p k := fun W hW => (hc.later hb1).later hW
  have hz : Below w1.heap.size w1 w1.drew := (Below.refl _ _).drew
  have hzP : Below w1.heap.size w1 (w1.alloc (.cells #[.slice none 0 0, .slice none 0 0] 37)).drew := ((Below.refl _ _).alloc (Nat.le_refl _) _).drew
  have hnew : ∀ W, Below (w1.alloc (.cells #[.slice none 0 0, .slice none 0 0] 37)).drew.heap.size (w1.alloc (.cells #[.slice none 0 0, .slice none 0 0] 37)).drew W → W.heap[w1.heap.size]? = some (.cells #[.slice none 0 0, .slice none 0 0] 37 (0, 0)) := fun W hW => (hW.block _ (by simp [World.drew])).trans (heap_alloc_new w1 _)
  have hs1 : w1.heap.size = w.heap.size + 1 := by rw [hw1]; simp
  obtain ⟨o, ho⟩ : ∃ o, o = nth L ((k : Int) - 1) := ⟨_, rfl⟩
  have hyes : ∀ (is : Bool), is = o.isSome → is = true → 1 ≤ k ∧ k - 1 = k - 1 := by
    intro is h1 h2
    rw [h2, ho] at h1
    exact back_any_yes hk h1.symm
  have hno : ∀ (is : Bool), is = o.isSome → is = false → k = (k - 1) := by
    intro is h1 h2
    rw [h2, ho] at h1
    exact back_any_no hk h1.symm
  rw [← ho]
  simp only [← ho] at ha
  obtain ⟨k', hk'⟩ : ∃ k', k' = (k - 1) := ⟨_, rfl⟩
  rw [← hk'] at hno hyes ⊢
  have YES := Lib.hid hyes; clear hyes
  have NO := Lib.hid hno; clear hno
  have NEW := Lib.hid hnew; clear hnew
  have HA := Lib.hid ha; clear ha
  have HC := Lib.hid hcs; clear hcs
  have HCU := Lib.hid hcu; clear hcu
  have HV := Lib.hid hv; clear hv
  have HW := Lib.hid hw1; clear hw1
  have HB1 := Lib.hid hb1; clear hb1
  have HS1 := Lib.hid hs1; clear hs1
  have HGL := Lib.hid hgl; clear hgl
  have hkz : k ≤ 900 := by omega
  have HKP := Lib.hid hk'; clear hk'
  clear hc h ho hk h9
  have hwr : IntKind.i64.wrap ((k : Int) - 1) = (k : Int) - 1 := IntWalk.i64_in _ (by omega)
  go_enter Try.func14, Try.ntmps14
  go_wp2_with (rw [← HW.out])
  go_region_held3 (fun W => W.cell? ⟨g, 0, none⟩ = some (.pointer p) ∧ W.cell? ⟨g, 1, none⟩ = some (.int .i64 (k : Int))) (first | exact HC.out _ hz | exact HC.out _ hzP | exact HC.out _ hzA | exact HC.out _ (hzA.alloc hzA.size _) | exact HC.out _ (((hzA.alloc hzA.size _).setCell (p := ⟨wA.heap.size, 0, none⟩) hzA.size _).setCell (p := ⟨wA.heap.size, 1, none⟩) hzA.size _) | exact HC.out _ ((hzA.setCell (p := ⟨w1.heap.size, 0, none⟩) (Nat.le_refl _) _).setCell (p := ⟨w1.heap.size, 1, none⟩) (Nat.le_refl _) _) | fail) (first
    | (go_at_call 27; (with_reducible refine (HA.out _ hz).mono ?_); rintro e wA ⟨⟨ka, kc, va, vc, x1, x2, is, rfl, hpt⟩, hA⟩; have hzA := below_then hz hA; have ROW := Lib.hid (row_new wA (.slice ka x1 kc) (.slice va x2 vc) hzA hpt); clear hpt)
    | (go_at_call 27; (with_reducible refine (HA.out _ hzP).mono ?_); rintro e wA ⟨⟨ka, kc, va, vc, x1, x2, is, rfl, hpt⟩, hA⟩; have hzA := below_then hzP hA; have ROW := Lib.hid (row_set (NEW.out wA hA) (.slice ka x1 kc) (.slice va x2 vc) hzA hpt); clear hpt; obtain ⟨d0, d1, f0, f1⟩ := row2 (NEW.out wA hA))
    | fail)
  all_goals
    obtain ⟨q, wB, hq, hwB, hq1, hrow, hBB, hpB⟩ := ROW.out
    rw [← hwB, ← hq]
    clear ROW hA hzA hq hwB
    have hcB := HCU.out wB hBB
    have hrB := HV.out wB hBB
    have hgl := HGL.out
    have hs1 := HS1.out
    have hO : Only (some ⟨g, 0, none⟩) w wB := Only.of (below_then HB1.out hBB)
    cases is with
    | true =>
      have e1 := YES.out true hpB.2.2.1 rfl
      have hk1 : k - 1 = k' := by have := HKP.out; omega
      have hcC := hcB.set (k - 1)
      rw [show ((k - 1 : Nat) : Int) = (k : Int) - 1 by omega] at hcC
      obtain ⟨wC, hwC⟩ : ∃ wC, wC = wB.setCell ⟨g, 1, none⟩ (.int .i64 ((k : Int) - 1)) := ⟨_, rfl⟩
      have hOC : Only (some ⟨g, 0, none⟩) wB wC := by rw [hwC]; exact Only.set _ _ _ _
      have hrC : wC.heap[w.heap.size]? = _ := (by rw [hwC]; exact Below.heap_setCell wB ⟨g, 1, none⟩ _ _ (by show _ ≠ g; omega) : wC.heap[w.heap.size]? = wB.heap[w.heap.size]?).trans hrB
      have hqC : wC.heap[q]? = _ := (by rw [hwC]; exact Below.heap_setCell wB ⟨g, 1, none⟩ _ _ (by show _ ≠ g; omega) : wC.heap[q]? = wB.heap[q]?).trans hrow
      rw [← hwC] at hcC
      obtain ⟨_, c1, f1⟩ := hcB.cells
      obtain ⟨wZ, hwZ, hZr, hfin⟩ := ret_row kc vc hrC hcC hgl (hpB.curs hcB hOC) (hO.trans hOC)
      rw [hk1] at hfin
      obtain ⟨d0, d1, _, _⟩ := row2 hqC
      obtain ⟨r0, r1, s0, s1⟩ := row2 hrC
      have HWC := Lib.hid hwC; clear hwC
      have HWZ := Lib.hid hwZ; clear hwZ
      have HZR := Lib.hid hZr; clear hZr
      have FIN := Lib.hid hfin; clear hfin
      have n1 : ¬ q = w.heap.size := by omega
      have n2 : ¬ w.heap.size = q := by omega
      have H1 := Lib.hid e1; clear e1
      clear hrC hqC hOC hcC hO hrB hrow hcB hBB hpB HGL HS1 hgl hs1 hq1 hk1
      go_wp2_with (rw [← HWC.out])
      rw [← HWZ.out]
      refine bodyPost_ret (results_two rfl _ _ w.heap.size 37 _ (0, 0) _ (.bool true) rfl HZR.out rfl Try.underlying37 rfl (by kernel_rfl)) rfl ?_
      exact FIN.out
    | false =>
      have e1 := NO.out false hpB.2.2.1 rfl
      obtain ⟨wZ, hwZ, hZr, hfin⟩ := ret_row kc vc hrB hcB hgl hpB hO
      rw [e1] at hfin
      obtain ⟨d0, d1, _, _⟩ := row2 hrow
      obtain ⟨r0, r1, s0, s1⟩ := row2 hrB
      have HWZ := Lib.hid hwZ; clear hwZ
      have HZR := Lib.hid hZr; clear hZr
      have FIN := Lib.hid hfin; clear hfin
      have n1 : ¬ q = w.heap.size := by omega
      have n2 : ¬ w.heap.size = q := by omega
      have H1 := Lib.hid e1; clear e1
      clear hO hrB hrow hcB hBB hpB HGL HS1 hgl hs1 hq1
      go_wp2_with fail
      rw [← HWZ.out]
      refine bodyPost_ret (results_two rfl _ _ w.heap.size 37 _ (0, 0) _ (.bool false) rfl HZR.out rfl Try.underlying37 rfl (by kernel_rfl)) rfl ?_
      exact FIN.out
end Go.Proofs.Ytkcfanckkomdbaa
