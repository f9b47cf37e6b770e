/-
  Contracts of Min, Max, Floor, Ceil: the pairs about a place or a key.
-/
import Derived.Test.YtdjbcminppomdaaAts
namespace Go.Proofs.Ytdjbcminppomdaa
open Go.RowKit
set_option maxHeartbeats 4000000
set_option maxRecDepth 100000
theorem Bts.set2 {w : World} {g : Nat} {a b : Value} {t : TypeId} {A : Option Addr} {l : List UInt8} (h : w.heap[g]? = some (.cells #[a, b] t (0, 0))) (ha : ∀ k z, a ≠ .int k z) (hb : ∀ k z, b ≠ .int k z) (x y : Value) (hA : Bts w A l) : Bts ((w.setCell ⟨g, 0, none⟩ x).setCell ⟨g, 1, none⟩ y) A l := by
  rcases hA with rfl | ⟨c, off, rfl, hlt, hcl⟩
  · exact .inl rfl
  · by_cases hl : l = []
    · exact .inl hl
    · have h0 := hcl 0 (List.length_pos_iff.2 hl)
      have hne : c ≠ g := by
        rintro rfl
        rw [cell_of_row w c _ _ t (0, 0) h] at h0
        rcases off with _ | _ | off
        · injection h0 with h0; exact ha _ _ h0
        · injection h0 with h0; exact hb _ _ h0
        · simp at h0
      have e := (Go.Proofs.Ytdjbcminppomdaa.set2 h x y).2 c hne
      exact .inr ⟨c, off, rfl, lt_kept e hlt, fun i hi => (cell_kept e).trans (hcl i hi)⟩
theorem got_set {o : Option Pr} {w : World} {g x1 x2 : Nat} {ka va : Option Addr} (kc vc : Nat) (h : w.heap[g]? = some (.cells #[.slice none 0 0, .slice none 0 0] 31 (0, 0))) (h1 : Bts w ka (od o).1) (h2 : Bts w va (od o).2) (e1 : x1 = (od o).1.length) (e2 : x2 = (od o).2.length) :
    Got o (.returned (.tuple #[.agg #[.slice ka x1 kc, .slice va x2 vc], .bool o.isSome])) ((w.setCell ⟨g, 0, none⟩ (.slice ka x1 kc)).setCell ⟨g, 1, none⟩ (.slice va x2 vc)) := by
  subst e1
  subst e2
  exact ⟨ka, kc, va, vc, rfl, h1.set2 h (by intro k z e; cases e) (by intro k z e; cases e) _ _, h2.set2 h (by intro k z e; cases e) (by intro k z e; cases e) _ _⟩
/-- the pair's variable, made -/
theorem var_new (w : World) : ∃ w1, w1 = w.alloc (.cells #[.slice none 0 0, .slice none 0 0] 31) ∧ Below w.heap.size w w1 ∧ ∀ W, Below w1.heap.size w1 W → W.heap[w.heap.size]? = some (.cells #[.slice none 0 0, .slice none 0 0] 31 (0, 0)) :=
  ⟨_, rfl, (Below.refl _ _).alloc (Nat.le_refl _) _, fun W hW => (hW.block _ (by simp)).trans (heap_alloc_new w _)⟩
theorem min_any {F : Nat → Prop} {w : World} {t : Tr} {p : Option Addr} (ht : Tre F w t p) (hn : t.size ≤ 1000) (hf : ∀ x ∈ t.list, x.1.length ≤ 100000 ∧ x.2.length ≤ 100000) :
    Calls Try.prog 18 #[.pointer p] w fun e w' => Got (nth t.list 0) e w' ∧ Below w.heap.size w w' := by
  obtain ⟨w1, hw1, hb1, hv⟩ := var_new w
  have h := at_any 0 (by omega) (by omega) (ht.below hb1) hn hf
  obtain ⟨o, ho⟩ : ∃ o, o = nth t.list 0 := ⟨_, rfl⟩
  rw [← ho] at h ⊢
  have HA := Lib.hid h; clear h
  have HW := Lib.hid hw1; clear hw1
  have HB := Lib.hid hb1; clear hb1
  have HV := Lib.hid hv; clear hv
  clear ht hn hf ho
  go_enter Try.func18, Try.ntmps18
  go_wp2_with fail
  rw [← HW.out]
  refine HA.out.mono ?_
  rintro e w2 ⟨⟨ka, kc, va, vc, rfl, h1, h2⟩, hb2⟩
  have r2 := HV.out w2 hb2
  obtain ⟨d0, d1, f0, f1⟩ := row2 r2
  obtain ⟨x1, hx1⟩ : ∃ k, k = (od o).1.length := ⟨_, rfl⟩
  obtain ⟨x2, hx2⟩ : ∃ k, k = (od o).2.length := ⟨_, rfl⟩
  obtain ⟨is, his⟩ : ∃ k, k = o.isSome := ⟨_, rfl⟩
  have hgot := got_set kc vc r2 h1 h2 hx1 hx2
  rw [← his] at hgot
  rw [← hx1, ← hx2, ← his]
  have HG := Lib.hid hgot; clear hgot
  have HS := Lib.hid (set2 r2 (.slice ka x1 kc) (.slice va x2 vc))
  have HB3 := Lib.hid (below_set2 (w := w2) (g := w.heap.size) (.slice ka x1 kc) (.slice va x2 vc) (Nat.le_refl _))
  have HB2 := Lib.hid (below_then HB.out hb2); clear hb2
  clear r2 h1 h2 hx1 hx2 his HA
  go_wp2_with fail
  refine bodyPost_ret (results_two rfl _ _ w.heap.size 31 _ (0, 0) _ (.bool is) rfl HS.out.1 rfl Try.underlying31 rfl (by kernel_rfl)) rfl ?_
  exact ⟨HG.out, HB2.out.trans HB3.out⟩
theorem max_any {F : Nat → Prop} {w : World} {t : Tr} {p : Option Addr} (ht : Tre F w t p) (hn : t.size ≤ 1000) (hf : ∀ x ∈ t.list, x.1.length ≤ 100000 ∧ x.2.length ≤ 100000) :
    Calls Try.prog 19 #[.pointer p] w fun e w' => Got (nth t.list ((t.size : Int) - 1)) e w' ∧ Below w.heap.size w w' := by
  obtain ⟨w1, hw1, hb1, hv⟩ := var_new w
  have h := at_any ((t.size : Int) - 1) (by omega) (by omega) (ht.below hb1) hn hf
  have hs := size_any (ht.below hb1) (by omega)
  obtain ⟨o, ho⟩ : ∃ o, o = nth t.list ((t.size : Int) - 1) := ⟨_, rfl⟩
  obtain ⟨n, hnn⟩ : ∃ n, n = t.size := ⟨_, rfl⟩
  rw [← ho] at h ⊢
  rw [← hnn] at h hs hn
  have HA := Lib.hid h; clear h
  have HZ := Lib.hid hs; clear hs
  have HW := Lib.hid hw1; clear hw1
  have HB := Lib.hid hb1; clear hb1
  have HV := Lib.hid hv; clear hv
  clear ht hf ho hnn
  go_enter Try.func19, Try.ntmps19
  go_wp2_with fail
  rw [← HW.out]
  refine HZ.out.mono ?_
  rintro e w' ⟨rfl, rfl⟩
  go_wp2_with fail
  refine HA.out.mono ?_
  rintro e w2 ⟨⟨ka, kc, va, vc, rfl, h1, h2⟩, hb2⟩
  have r2 := HV.out w2 hb2
  obtain ⟨d0, d1, f0, f1⟩ := row2 r2
  obtain ⟨x1, hx1⟩ : ∃ k, k = (od o).1.length := ⟨_, rfl⟩
  obtain ⟨x2, hx2⟩ : ∃ k, k = (od o).2.length := ⟨_, rfl⟩
  obtain ⟨is, his⟩ : ∃ k, k = o.isSome := ⟨_, rfl⟩
  have hgot := got_set kc vc r2 h1 h2 hx1 hx2
  rw [← his] at hgot
  rw [← hx1, ← hx2, ← his]
  have HG := Lib.hid hgot; clear hgot
  have HS := Lib.hid (set2 r2 (.slice ka x1 kc) (.slice va x2 vc))
  have HB3 := Lib.hid (below_set2 (w := w2) (g := w.heap.size) (.slice ka x1 kc) (.slice va x2 vc) (Nat.le_refl _))
  have HB2 := Lib.hid (below_then HB.out hb2); clear hb2
  clear r2 h1 h2 hx1 hx2 his HA
  go_wp2_with fail
  refine bodyPost_ret (results_two rfl _ _ w.heap.size 31 _ (0, 0) _ (.bool is) rfl HS.out.1 rfl Try.underlying31 rfl (by kernel_rfl)) rfl ?_
  exact ⟨HG.out, HB2.out.trans HB3.out⟩
theorem ceil_any {F : Nat → Prop} {w : World} {t : Tr} {p A : Option Addr} {key : List UInt8} (c : Nat) (ht : Tre F w t p) (hn : t.size ≤ 1000) (hf : ∀ x ∈ t.list, x.1.length ≤ 100000 ∧ x.2.length ≤ 100000) (hs : srt t.list) (hA : Bts w A key) :
    Calls Try.prog 11 #[.pointer p, .slice A key.length c] w fun e w' => Got (nth t.list (rank t.list key : Int)) e w' ∧ Below w.heap.size w w' := by
  obtain ⟨w1, hw1, hb1, hv⟩ := var_new w
  have hrk := rank_any c (ht.below hb1) hs hn hf (hA.below hb1)
  have hle := rank_le t.list key
  rw [Tr.length] at hle
  have h := fun W (hW : Below w1.heap.size w1 W) => at_any (rank t.list key : Int) (by omega) (by omega) ((ht.below hb1).below hW) hn hf
  obtain ⟨o, ho⟩ : ∃ o, o = nth t.list (rank t.list key : Int) := ⟨_, rfl⟩
  rw [← ho] at h ⊢
  obtain ⟨k, hk⟩ : ∃ k, k = rank t.list key := ⟨_, rfl⟩
  obtain ⟨x, hx⟩ : ∃ k, k = key.length := ⟨_, rfl⟩
  rw [← hk] at h hrk
  rw [← hx] at hrk ⊢
  have HAT := Lib.hid h; clear h
  have HRK := Lib.hid hrk; clear hrk
  have HW := Lib.hid hw1; clear hw1
  have HB := Lib.hid hb1; clear hb1
  have HV := Lib.hid hv; clear hv
  clear ht hn hf ho hk hx hs hA hle
  go_enter Try.func11, Try.ntmps11
  go_wp2_with fail
  rw [← HW.out]
  refine HRK.out.mono ?_
  rintro e w3 ⟨rfl, hb3⟩
  have HA := Lib.hid (HAT.out w3 hb3)
  have HB0 := Lib.hid hb3; clear hb3
  clear HAT HRK
  go_wp2_with fail
  refine HA.out.mono ?_
  rintro e w2 ⟨⟨ka, kc, va, vc, rfl, h1, h2⟩, hb2⟩
  have r2 := HV.out w2 (below_then HB0.out hb2)
  obtain ⟨d0, d1, f0, f1⟩ := row2 r2
  obtain ⟨x1, hx1⟩ : ∃ k, k = (od o).1.length := ⟨_, rfl⟩
  obtain ⟨x2, hx2⟩ : ∃ k, k = (od o).2.length := ⟨_, rfl⟩
  obtain ⟨is, his⟩ : ∃ k, k = o.isSome := ⟨_, rfl⟩
  have hgot := got_set kc vc r2 h1 h2 hx1 hx2
  rw [← his] at hgot
  rw [← hx1, ← hx2, ← his]
  have HG := Lib.hid hgot; clear hgot
  have HS := Lib.hid (set2 r2 (.slice ka x1 kc) (.slice va x2 vc))
  have HB3 := Lib.hid (below_set2 (w := w2) (g := w.heap.size) (.slice ka x1 kc) (.slice va x2 vc) (Nat.le_refl _))
  have HB2 := Lib.hid (below_then (below_then HB.out HB0.out) hb2); clear hb2
  clear r2 h1 h2 hx1 hx2 his HA
  go_wp2_with fail
  refine bodyPost_ret (results_two rfl _ _ w.heap.size 31 _ (0, 0) _ (.bool is) rfl HS.out.1 rfl Try.underlying31 rfl (by kernel_rfl)) rfl ?_
  exact ⟨HG.out, HB2.out.trans HB3.out⟩
theorem floor_any {F : Nat → Prop} {w : World} {t : Tr} {p A : Option Addr} {key : List UInt8} (c : Nat) (ht : Tre F w t p) (hn : t.size ≤ 1000) (hf : ∀ x ∈ t.list, x.1.length ≤ 100000 ∧ x.2.length ≤ 100000) (hs : srt t.list) (hA : Bts w A key) :
    Calls Try.prog 10 #[.pointer p, .slice A key.length c] w fun e w' => Got (nth t.list ((upTo t.list key : Int) - 1)) e w' ∧ Below w.heap.size w w' := by
  obtain ⟨w0, hw0⟩ : ∃ w0, w0 = w.alloc (.cells #[.slice A key.length c] 23) := ⟨_, rfl⟩
  have hb0 : Below w.heap.size w w0 := by rw [hw0]; exact (Below.refl _ _).alloc (Nat.le_refl _) _
  have r0 : w0.heap[w.heap.size]? = some (.cells #[.slice A key.length c] 23 (0, 0)) := by rw [hw0]; exact heap_alloc_new w _
  have hz : w.heap.size < w0.heap.size := (Array.getElem?_eq_some_iff.1 r0).1
  have hsz : w0.heap.size = w.heap.size + 1 := by rw [hw0]; simp
  obtain ⟨w1, hw1, hb1, hv⟩ := var_new w0
  have hb01 := below_then hb0 hb1
  have eg : ∀ args w, (callFunc 24 args).run Try.prog w = .ok (.enter 24 args) w := enters_of Try.func24 (by kernel_rfl) rfl
  have hrk := below_any (g := w.heap.size) (ht.below hb01) hs hn hf (down_le key) eg fun W B d k hW hB => le1_any d hB ((hA.below hb01).below hW) (by rw [cell_of_row W _ 0 _ 23 (0, 0) ((hW.block _ (Nat.lt_of_lt_of_le hz hb1.size)).trans ((hb1.block _ hz).trans r0))]; rfl)
  rw [← upTo_below] at hrk
  have hle := upTo_le t.list key
  rw [Tr.length] at hle
  have h := fun W (hW : Below w1.heap.size w1 W) => at_any ((upTo t.list key : Int) - 1) (by omega) (by omega) ((ht.below hb01).below hW) hn hf
  obtain ⟨o, ho⟩ : ∃ o, o = nth t.list ((upTo t.list key : Int) - 1) := ⟨_, rfl⟩
  rw [← ho] at h ⊢
  obtain ⟨k, hk⟩ : ∃ k, k = upTo t.list key := ⟨_, rfl⟩
  obtain ⟨x, hx⟩ : ∃ k, k = key.length := ⟨_, rfl⟩
  rw [← hk] at h hrk hle
  rw [← hx] at hw0 ⊢
  have hk1 : k ≤ 1000 := by omega
  have HAT := Lib.hid h; clear h
  have HRK := Lib.hid hrk; clear hrk
  have HW0 := Lib.hid hw0; clear hw0
  have HW := Lib.hid hw1; clear hw1
  have HB := Lib.hid hb01; clear hb01
  simp only [hsz] at hv
  have HV := Lib.hid hv; clear hv
  clear ht hn hf ho hk hx hs hA hle r0 hz hb0 hb1 eg hsz
  go_enter Try.func10, Try.ntmps10
  go_wp2_with fail
  rw [← HW0.out, ← HW.out]
  refine HRK.out.mono ?_
  rintro e w3 ⟨rfl, hb3⟩
  have HA := Lib.hid (HAT.out w3 hb3)
  have HB0 := Lib.hid hb3; clear hb3
  clear HAT HRK
  go_wp2_with fail
  refine HA.out.mono ?_
  rintro e w2 ⟨⟨ka, kc, va, vc, rfl, h1, h2⟩, hb2⟩
  have r2 := HV.out w2 (below_then HB0.out hb2)
  obtain ⟨d0, d1, f0, f1⟩ := row2 r2
  obtain ⟨x1, hx1⟩ : ∃ k, k = (od o).1.length := ⟨_, rfl⟩
  obtain ⟨x2, hx2⟩ : ∃ k, k = (od o).2.length := ⟨_, rfl⟩
  obtain ⟨is, his⟩ : ∃ k, k = o.isSome := ⟨_, rfl⟩
  have hgot := got_set kc vc r2 h1 h2 hx1 hx2
  rw [← his] at hgot
  rw [← hx1, ← hx2, ← his]
  have HG := Lib.hid hgot; clear hgot
  have HS := Lib.hid (set2 r2 (.slice ka x1 kc) (.slice va x2 vc))
  have HB3 := Lib.hid (below_set2 (w := w2) (g := w.heap.size + 1) (.slice ka x1 kc) (.slice va x2 vc) (Nat.le_succ _))
  have HB2 := Lib.hid (below_then (below_then HB.out HB0.out) hb2); clear hb2
  clear r2 h1 h2 hx1 hx2 his HA
  go_wp2_with fail
  refine bodyPost_ret (results_two rfl _ _ (w.heap.size + 1) 31 _ (0, 0) _ (.bool is) rfl HS.out.1 rfl Try.underlying31 rfl (by kernel_rfl)) rfl ?_
  exact ⟨HG.out, HB2.out.trans HB3.out⟩
end Go.Proofs.Ytdjbcminppomdaa
