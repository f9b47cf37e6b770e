/-
  Contracts of At, Min, Max, Floor, Ceil: the pair at a place, or nothing.
-/
import Derived.Test.YtkcfanckkomdbaaBelow
namespace Go.Proofs.Ytkcfanckkomdbaa
open Go.RowKit
set_option maxHeartbeats 4000000
set_option maxRecDepth 100000
/-- what is told of a pair, or of nothing -/
def Got (o : Option Pr) (e : Ending) (w' : World) : Prop := ∃ ka kc va vc, e = .returned (.tuple #[.agg #[.slice ka (od o).1.length kc, .slice va (od o).2.length vc], .bool o.isSome]) ∧ Bts w' ka (od o).1 ∧ Bts w' va (od o).2
/-- where a way down to a place has come to -/
structure Seek (F : Nat → Prop) (w : World) (o : Option Pr) (z : Int) (p' : Option Addr) (wr : World) (t' : Tr) : Prop where
  tre : Tre F wr t' p'
  it : nth t'.list z = o
  fits : ∀ x ∈ t'.list, x.1.length ≤ 100000 ∧ x.2.length ≤ 100000
  size : t'.size ≤ 1000
  low : -9223372036854775808 ≤ z
  high : z < 9223372036854775808
  row : wr.heap[w.heap.size]? = some (.cells #[.slice none 0 0, .slice none 0 0] 37 (0, 0))
  bel : Below w.heap.size w wr
theorem at_any {F : Nat → Prop} {w : World} {t : Tr} {p : Option Addr} (z : Int) (h1 : -9223372036854775808 ≤ z) (h2 : z < 9223372036854775808) (ht : Tre F w t p) (hn : t.size ≤ 1000) (hf : ∀ x ∈ t.list, x.1.length ≤ 100000 ∧ x.2.length ≤ 100000) :
    Calls Try.prog 27 #[.pointer p, .int .i64 z] w fun e w' => Got (nth t.list z) e w' ∧ Below w.heap.size w w' := by
  obtain ⟨o, ho⟩ : ∃ o, o = nth t.list z := ⟨_, rfl⟩
  rw [← ho]
  have hb : Below w.heap.size w (w.alloc (.cells #[.slice none 0 0, .slice none 0 0] 37)) := (Below.refl _ _).alloc (Nat.le_refl _) _
  have S0 : Hid (Seek F w o z p (w.alloc (.cells #[.slice none 0 0, .slice none 0 0] 37)) t) := ⟨ht.below hb, ho.symm, hf, hn, h1, h2, heap_alloc_new w _, hb⟩
  clear hb ht ho hf hn h1 h2
  go_enter Try.func27, Try.ntmps27
  go_wp2_with fail
  go_loopw [0, 1] (fun x u wr => ∃ (z : Int) (p' : Option Addr), x = .pointer p' ∧ u = .int .i64 z ∧ Hid (∃ t', Seek F w o z p' wr t')) (fun x _ wr => sizeAt wr x)
  case atStart => exact ⟨z, p, rfl, rfl, t, S0.out⟩
  case round =>
    obtain ⟨z, p', rfl, rfl, t', hat⟩ := hrel
    clear S0
    cases t' with
    | nil =>
      obtain rfl : p' = none := hat.tre
      obtain rfl : none = o := by have := hat.it; rw [show Tr.nil.list = [] from rfl, nth_nil] at this; exact this
      obtain ⟨d0, d1, f0, f1⟩ := row2 hat.row
      have HS := Lib.hid (set2 hat.row (.slice none 0 0) (.slice none 0 0))
      have HB2 := Lib.hid (below_set2 (w := wr) (g := w.heap.size) (.slice none 0 0) (.slice none 0 0) (Nat.le_refl _))
      have HB := Lib.hid hat.bel
      clear hat
      go_wp2_with fail
      refine bodyPost_ret (results_two rfl _ _ w.heap.size 37 _ (0, 0) _ (.bool false) rfl HS.out.1 rfl Try.underlying37 rfl (by kernel_rfl)) rfl ?_
      exact ⟨⟨none, 0, none, 0, rfl, .inl rfl, .inl rfl⟩, HB.out.trans HB2.out⟩
    | node l q r =>
      have hm : l.size + r.size + 1 ≤ 1000 := by have h1 := hat.size; simp only [Tr.size] at h1; omega
      have hfit : ∀ x ∈ l.list ++ q :: r.list, x.1.length ≤ 100000 ∧ x.2.length ≤ 100000 := hat.fits
      have hit : nth (l.list ++ q :: r.list) z = o := hat.it
      have hll : l.list.length = l.size := Tr.length l
      have hme := sizeAt_eq hat.tre
      have hroot := root_any hat.tre (hfit q (by simp))
      have hl := left_any hat.tre
      have hr := right_any hat.tre
      have hls := fun pl (h : Tre F wr l pl) => size_any h (show l.size ≤ 10000 by omega)
      have z1 := hat.low
      have z2 := hat.high
      obtain ⟨b, _, _, _, _, _, _, rfl, _⟩ := hat.tre
      obtain ⟨n, hn⟩ : ∃ n, n = l.size := ⟨_, rfl⟩
      have HL : ∀ z' pl, Tre F wr l pl → -9223372036854775808 ≤ z' → z' < 9223372036854775808 → nth l.list z' = o → Seek F w o z' pl wr l := fun z' pl h1 h2 h3 h4 => ⟨h1, h4, fun x hx => hfit x (by simp [hx]), by omega, h2, h3, hat.row, hat.bel⟩
      have HR : ∀ z' pr, Tre F wr r pr → -9223372036854775808 ≤ z' → z' < 9223372036854775808 → nth r.list z' = o → Seek F w o z' pr wr r := fun z' pl h1 h2 h3 h4 => ⟨h1, h4, fun x hx => hfit x (by simp [hx]), by omega, h2, h3, hat.row, hat.bel⟩
      have HROW := Lib.hid hat.row
      have HB := Lib.hid hat.bel
      rw [← hn] at hls
      have hnl : l.list.length = n := by omega
      have hmz : l.size < (Tr.node l q r).size ∧ r.size < (Tr.node l q r).size := by simp only [Tr.size]; omega
      have HME := Lib.hid hme; clear hme
      have HMZ := Lib.hid hmz; clear hmz
      have KL := Lib.hid hl; clear hl
      have KR := Lib.hid hr; clear hr
      have KS := Lib.hid hls; clear hls
      have KO := Lib.hid hroot; clear hroot
      have HL' := Lib.hid HL; clear HL
      have HR' := Lib.hid HR; clear HR
      have hnb : n ≤ 1000 := by omega
      clear hat hfit hll hn hm
      rcases Int.lt_trichotomy z (n : Int) with g | g | g
      · rw [nth_left (by omega)] at hit
        have HIT := Lib.hid hit; clear hit
        have t1 : (z == (n : Int)) = false := by simpa using (show ¬ z = (n : Int) by omega)
        have t2 : decide (z < (n : Int)) = true := decide_eq_true g
        have HZ := Lib.hid (show -9223372036854775808 ≤ z ∧ z < 9223372036854775808 from ⟨z1, z2⟩)
        clear hnl HR' KR KO
        go_wp2_with fail
        refine KL.out.mono ?_
        rintro e w' ⟨pl, rfl, hpl, rfl⟩
        have KZ := Lib.hid (KS.out pl hpl)
        have HPL := Lib.hid hpl; clear hpl
        clear KS
        go_wp2_with fail
        refine KZ.out.mono ?_
        rintro e w' ⟨rfl, rfl⟩
        go_wp2_with fail
        refine KL.out.mono ?_
        rintro e w' ⟨pl2, rfl, hpl2, rfl⟩
        have HPR := Lib.hid hpl2; clear hpl2
        go_wp2_with fail
        go_roundw
        case rel => exact ⟨z, pl2, rfl, rfl, l, HL'.out z pl2 HPR.out HZ.out.1 HZ.out.2 HIT.out⟩
        case measure =>
          rw [sizeAt_eq (t := l) HPR.out, HME.out]
          exact HMZ.out.1
      · subst g
        have e : o = some q := by rw [← hit, ← hnl, nth_here]
        have HE := Lib.hid e; clear e
        obtain ⟨x1, hx1⟩ : ∃ k, k = q.1.length := ⟨_, rfl⟩
        obtain ⟨x2, hx2⟩ : ∃ k, k = q.2.length := ⟨_, rfl⟩
        rw [← hx1, ← hx2] at KO
        have HX := Lib.hid (And.intro hx1 hx2); clear hx1 hx2
        have hgl : w.heap.size < wr.heap.size := (Array.getElem?_eq_some_iff.1 HROW.out).1
        have HGL := Lib.hid hgl; clear hgl
        clear hit hnl HL' HR' KR HMZ HME z1 z2
        go_wp2_with fail
        refine KL.out.mono ?_
        rintro e w' ⟨pl, rfl, hpl, rfl⟩
        have KZ := Lib.hid (KS.out pl hpl)
        clear hpl KS
        go_wp2_with fail
        refine KZ.out.mono ?_
        rintro e w' ⟨rfl, rfl⟩
        go_wp2_with fail
        refine KO.out.mono ?_
        rintro e w2 ⟨g1, g2, rfl, h1, h2, hb2⟩
        have r2 := (hb2.block _ HGL.out).trans HROW.out
        obtain ⟨d0, d1, f0, f1⟩ := row2 r2
        have HS := Lib.hid (set2 r2 (.slice (some ⟨g1, 0, none⟩) x1 x1) (.slice (some ⟨g2, 0, none⟩) x2 x2))
        have HB3 := Lib.hid (below_set2 (w := w2) (g := w.heap.size) (.slice (some ⟨g1, 0, none⟩) x1 x1) (.slice (some ⟨g2, 0, none⟩) x2 x2) (Nat.le_refl _))
        have H1 := Lib.hid h1; clear h1
        have H2 := Lib.hid h2; clear h2
        have HB2 := Lib.hid hb2; clear hb2
        clear r2
        go_wp2_with fail
        refine bodyPost_ret (results_two rfl _ _ w.heap.size 37 _ (0, 0) _ (.bool true) rfl HS.out.1 rfl Try.underlying37 rfl (by kernel_rfl)) rfl ?_
        have a1 := H1.out.1
        have a2 := H2.out.1
        have hg := HGL.out
        obtain ⟨y1, y2⟩ := HX.out
        rw [HE.out]
        refine ⟨⟨some ⟨g1, 0, none⟩, x1, some ⟨g2, 0, none⟩, x2, ?_, bts_row ((HS.out.2 g1 (by omega)).trans H1.out.2), bts_row ((HS.out.2 g2 (by omega)).trans H2.out.2)⟩, (below_then HB.out HB2.out).trans HB3.out⟩
        rw [y1, y2]
        rfl
      · rw [nth_right (by omega), hnl] at hit
        have t1 : (z == (n : Int)) = false := by simpa using (show ¬ z = (n : Int) by omega)
        have t2 : decide (z < (n : Int)) = false := decide_eq_false (by omega)
        obtain ⟨z', hz'⟩ : ∃ z', z' = z - ((n : Int) + 1) := ⟨_, rfl⟩
        have t3 : IntKind.i64.wrap (z - ((n : Int) + 1)) = z' := by rw [hz']; exact IntWalk.i64_in _ (by omega)
        rw [← hz'] at hit
        have HZ := Lib.hid (show -9223372036854775808 ≤ z' ∧ z' < 9223372036854775808 by omega)
        have HIT := Lib.hid hit; clear hit
        clear hz' hnl HL' KO z1 z2
        go_wp2_with fail
        refine KL.out.mono ?_
        rintro e w' ⟨pl, rfl, hpl, rfl⟩
        have KZ := Lib.hid (KS.out pl hpl)
        clear hpl KS
        go_wp2_with fail
        refine KZ.out.mono ?_
        rintro e w' ⟨rfl, rfl⟩
        go_wp2_with fail
        refine KR.out.mono ?_
        rintro e w' ⟨pr, rfl, hpr, rfl⟩
        have HPR := Lib.hid hpr; clear hpr
        go_wp2_with fail
        go_roundw
        case rel => exact ⟨z', pr, rfl, rfl, r, HR'.out z' pr HPR.out HZ.out.1 HZ.out.2 HIT.out⟩
        case measure =>
          rw [sizeAt_eq (t := r) HPR.out, HME.out]
          exact HMZ.out.2
end Go.Proofs.Ytkcfanckkomdbaa
