/-
  Contracts of owned, Leaf, Bucket.
-/
import Derived.Test.YtngfbkkfnooobaaDoorKinds
namespace Go.Proofs.YtngfbkkfnooobaaDoor
open Go.RowKit
set_option maxHeartbeats 4000000
set_option maxRecDepth 100000
theorem pcs_one {w : World} {g : Nat} {ka va : Option Addr} {q : Pr} {kc vc : Nat} (hr : w.heap[g]? = some (.cells #[.slice ka q.1.length kc, .slice va q.2.length vc] 36 (0, 0))) (hk : Bts w ka q.1) (hv : Bts w va q.2) : Pcs w (some ⟨g, 0, none⟩) [q] := by
  refine .inr ⟨g, 0, rfl, (Array.getElem?_eq_some_iff.1 hr).1, fun i hi => ?_⟩
  obtain rfl : i = 0 := by simpa using hi
  exact ⟨ka, kc, va, vc, row_cell hr rfl, row_cell hr rfl, hk, hv⟩
theorem owned_any {w : World} {ka va : Option Addr} {q : Pr} (kc vc : Nat) (hk : Bts w ka q.1) (hv : Bts w va q.2) (hn : q.1.length ≤ 100000 ∧ q.2.length ≤ 100000) :
    Calls Tryd.prog 45 #[.agg #[.slice ka q.1.length kc, .slice va q.2.length vc]] w fun e w' => ∃ g1 g2, e = .returned (.agg #[.slice (some ⟨g1, 0, none⟩) q.1.length q.1.length, .slice (some ⟨g2, 0, none⟩) q.2.length q.2.length]) ∧ NewRow w.heap.size w' g1 q.1 ∧ NewRow w.heap.size w' g2 q.2 ∧ Below w.heap.size w w' := by
  obtain ⟨g, hg⟩ : ∃ g, g = w.heap.size := ⟨_, rfl⟩
  obtain ⟨w1, hw1⟩ : ∃ w1, w1 = ((w.alloc (.cells #[.slice ka q.1.length kc, .slice va q.2.length vc] 36)).alloc (.cells #[.slice none 0 0, .slice none 0 0] 36)).alloc (.cells #[.slice ka q.1.length kc, .slice va q.2.length vc] 36) := ⟨_, rfl⟩
  have hb1 : Below w.heap.size w w1 := by rw [hw1]; exact (((Below.refl _ _).alloc (Nat.le_refl _) _).alloc (by simp) _).alloc (by simp; omega) _
  have hsz : w1.heap.size = g + 3 := by rw [hw1, hg]; simp
  have r2 : w1.heap[g + 2]? = some (.cells #[.slice ka q.1.length kc, .slice va q.2.length vc] 36 (0, 0)) := by
    have := heap_alloc_new ((w.alloc (.cells #[.slice ka q.1.length kc, .slice va q.2.length vc] 36)).alloc (.cells #[.slice none 0 0, .slice none 0 0] 36)) (.cells #[.slice ka q.1.length kc, .slice va q.2.length vc] 36)
    rw [hw1, hg]
    simpa using this
  have r1 : w1.heap[g + 1]? = some (.cells #[.slice none 0 0, .slice none 0 0] 36 (0, 0)) := by
    have := heap_alloc_new (w.alloc (.cells #[.slice ka q.1.length kc, .slice va q.2.length vc] 36)) (.cells #[.slice none 0 0, .slice none 0 0] 36)
    rw [hw1, hg, Below.heap_alloc _ _ _ (by simp)]
    simpa using this
  have own := own_any (pcs_one r2 (hk.below hb1) (hv.below hb1)) 1 (by simp) (by simpa using hn)
  obtain ⟨x, hx⟩ : ∃ x : Nat, x = q.1.length := ⟨_, rfl⟩
  obtain ⟨y, hy⟩ : ∃ y : Nat, y = q.2.length := ⟨_, rfl⟩
  simp only [← hx, ← hy, List.length_cons, List.length_nil, Nat.zero_add] at hw1 own ⊢
  have OWN := Lib.hid own; clear own
  have HW := Lib.hid hw1; clear hw1
  have HB := Lib.hid hb1; clear hb1
  have HSZ := Lib.hid hsz; clear hsz
  have R1 := Lib.hid r1; clear r1
  have HX := Lib.hid hx; clear hx
  have HY := Lib.hid hy; clear hy
  have HG := Lib.hid hg; clear hg
  clear r2 hk hv hn
  have c0 : ∀ a b : Value, (w.alloc (.cells #[a, b] 36)).heap[w.heap.size]? = some (.cells #[a, b] 36 (0, 0)) := fun a b => heap_alloc_new w _
  go_enter Tryd.func45, Tryd.ntmps45
  go_wp2_with fail
  simp only [← HG.out] at HW ⊢
  rw [← HW.out]
  refine OWN.out.mono ?_
  rintro e w2 ⟨rfl, hn, hb⟩
  obtain ⟨hgl, cur, hcur, hsz, hat⟩ := hn
  obtain ⟨kb, vb, k0, k1, k2, k3⟩ := hat 0 (by simp)
  simp only [Nat.zero_mul, Nat.zero_add] at k0 k1
  have d0 := row_cell hcur k0
  have d1 := row_cell hcur k1
  have q1 := (hb.block (g + 1) (by have := HSZ.out; omega)).trans R1.out
  obtain ⟨e0, e1, f0, f1⟩ := row2 q1
  have e2 : ([q][0]'(by simp)).1.length = x := HX.out.symm
  have e3 : ([q][0]'(by simp)).2.length = y := HY.out.symm
  rw [e2] at d0
  rw [e3] at d1
  have HS := Lib.hid (set2 q1 (.slice (some ⟨kb, 0, none⟩) x x) (.slice (some ⟨vb, 0, none⟩) y y))
  have HB2 := Lib.hid (below_set2 (w := w2) (g := g + 1) (B := w.heap.size) (.slice (some ⟨kb, 0, none⟩) x x) (.slice (some ⟨vb, 0, none⟩) y y) (by have := HG.out; omega))
  have K2 := Lib.hid k2; clear k2
  have K3 := Lib.hid k3; clear k3
  have HB3 := Lib.hid hb; clear hb
  clear hcur hsz hat k0 k1 q1 e2 e3 hgl
  go_wp2_with fail
  refine bodyPost_ret (results_cell_row rfl _ _ (g + 1) 36 _ (0, 0) _ rfl HS.out.1 Tryd.underlying36 rfl (by kernel_rfl)) rfl ?_
  have a0 := HG.out
  have a1 := K2.out.1
  have a2 := K3.out.1
  have a3 := HSZ.out
  refine ⟨kb, vb, rfl, ⟨by omega, (HS.out.2 kb (by omega)).trans K2.out.2⟩, ⟨by omega, (HS.out.2 vb (by omega)).trans K3.out.2⟩, ?_⟩
  exact (below_then HB.out HB3.out).trans HB2.out
theorem leaf_any {F : Nat → Prop} {w : World} {ka va : Option Addr} {q : Pr} (h : Nat) (kc vc : Nat) (hF : Fut F w) (hk : Bts w ka q.1) (hv : Bts w va q.2) (hn : q.1.length ≤ 100000 ∧ q.2.length ≤ 100000) :
    Calls Tryd.prog 30 #[.int .u64 (h : Int), .agg #[.slice ka q.1.length kc, .slice va q.2.length vc]] w fun e w' => ∃ v, e = .returned v ∧ Nde F w' (.leaf h q) v ∧ Below w.heap.size w w' := by
  obtain ⟨w1, hw1⟩ : ∃ w1, w1 = w.alloc (.cells #[.slice ka q.1.length kc, .slice va q.2.length vc] 36) := ⟨_, rfl⟩
  have hb1 : Below w.heap.size w w1 := by rw [hw1]; exact (Below.refl _ _).alloc (Nat.le_refl _) _
  have ho := owned_any kc vc (hk.below hb1) (hv.below hb1) hn
  have hF1 := hF.later hb1.size
  obtain ⟨x, hx⟩ : ∃ x : Nat, x = q.1.length := ⟨_, rfl⟩
  obtain ⟨y, hy⟩ : ∃ y : Nat, y = q.2.length := ⟨_, rfl⟩
  simp only [← hx, ← hy] at hw1 ho ⊢
  have HO := Lib.hid ho; clear ho
  have HW := Lib.hid hw1; clear hw1
  have HB := Lib.hid hb1; clear hb1
  have HX := Lib.hid hx; clear hx
  have HY := Lib.hid hy; clear hy
  have HF := Lib.hid hF1; clear hF1 hF
  clear hk hv hn
  go_enter Tryd.func30, Tryd.ntmps30
  go_wp2_with fail
  rw [← HW.out]
  refine HO.out.mono ?_
  rintro e w2 ⟨g1, g2, rfl, h1, h2, hb⟩
  have H1 := Lib.hid h1; clear h1
  have H2 := Lib.hid h2; clear h2
  have HB2 := Lib.hid hb; clear hb
  go_wp2_with fail
  go_ret
  have hb3 : Below w2.heap.size w2 (w2.alloc (.cells #[.int .u64 (h : Int), .slice (some ⟨g1, 0, none⟩) x x, .slice (some ⟨g2, 0, none⟩) y y] 95)) := (Below.refl _ _).alloc (Nat.le_refl _) _
  refine ⟨_, rfl, ⟨w2.heap.size, some ⟨g1, 0, none⟩, x, some ⟨g2, 0, none⟩, y, rfl, HF.out _ (by have := HB2.out.size; omega), ?_, ?_, ?_⟩, below_then (below_then HB.out HB2.out) hb3⟩
  · rw [← HX.out, ← HY.out]
    exact heap_alloc_new w2 _
  · exact (byt_new H1.out HF.out).below hb3
  · exact (byt_new H2.out HF.out).below hb3
theorem bucket_any {F : Nat → Prop} {w : World} {t : Tr} {p : Option Addr} (h : Nat) (hF : Fut F w) (ht : Tre F w t p) (he : t.even) (hs : t.size ≤ 800) (hf : Fits t.list) :
    Calls Tryd.prog 32 #[.int .u64 (h : Int), .pointer p] w fun e w' => ∃ v, e = .returned v ∧ Nde F w' (if t.list.length = 0 then .none else if t.list.length = 1 then .leaf h (t.list.getD 0 ([], [])) else .buck h t.list) v ∧ Below w.heap.size w w' := by
  have hl : t.list.length = t.size := Tr.length t
  rw [hl]
  have hsz := size_any ht (by omega)
  obtain ⟨n, hn⟩ : ∃ n, n = t.size := ⟨_, rfl⟩
  rw [← hn] at hsz ⊢
  have HSZ := Lib.hid hsz; clear hsz
  rcases Nat.lt_or_ge n 1 with h0 | h0
  · obtain rfl : n = 0 := by omega
    rw [if_pos rfl]
    clear ht he hs hf hl hn
    go_enter Tryd.func32, Tryd.ntmps32
    go_wp2_with fail
    refine HSZ.out.mono ?_
    rintro e w' ⟨rfl, rfl⟩
    go_wp2_with fail
    go_ret
    exact ⟨_, rfl, rfl, Below.refl _ _⟩
  · rcases Nat.lt_or_ge n 2 with h1 | h1
    · obtain rfl : n = 1 := by omega
      cases t with
      | nil => cases hn
      | node l q r =>
        have el : l = .nil ∧ r = .nil := by
          have e1 : l.size + r.size = 0 := by simp only [Tr.size] at hn; omega
          constructor
          · cases l with
            | nil => rfl
            | node _ _ _ => simp only [Tr.size] at e1; omega
          · cases r with
            | nil => rfl
            | node _ _ _ => simp only [Tr.size] at e1; omega
        obtain ⟨rfl, rfl⟩ := el
        rw [if_neg (by decide), if_pos rfl]
        simp only [Tr.list, List.nil_append, List.getD_cons_zero] at hf ⊢
        have hq := hf q (by simp)
        have hr := root_any ht (by omega)
        have hlf := fun (W : World) (hW : Below w.heap.size w W) (g1 g2 : Nat) (n1 : NewRow w.heap.size W g1 q.1) (n2 : NewRow w.heap.size W g2 q.2) =>
          leaf_any (F := F) (w := W) (ka := some ⟨g1, 0, none⟩) (va := some ⟨g2, 0, none⟩) (q := q) h q.1.length q.2.length (hF.later hW.size) (bts_row n1.2) (bts_row n2.2) (by omega)
        have HR := Lib.hid hr; clear hr
        have HLF := Lib.hid hlf; clear hlf
        clear ht he hs hf hl hn hq hF
        go_enter Tryd.func32, Tryd.ntmps32
        go_wp2_with fail
        refine HSZ.out.mono ?_
        rintro e w' ⟨rfl, rfl⟩
        go_wp2_with fail
        refine HR.out.mono ?_
        rintro e w2 ⟨g1, g2, rfl, n1, n2, hb⟩
        have J := Lib.hid (HLF.out w2 hb g1 g2 n1 n2)
        have HB := Lib.hid hb; clear hb n1 n2
        go_wp2_with fail
        refine J.out.mono ?_
        rintro e w3 ⟨v, rfl, hv, hb⟩
        have HV := Lib.hid hv; clear hv
        have HB3 := Lib.hid hb; clear hb
        go_wp2_with fail
        go_ret
        exact ⟨_, rfl, HV.out, below_then HB.out HB3.out⟩
    · have d0 : ((n : Int) == 0) = false := by simpa using (show ¬ (n : Int) = 0 by omega)
      have d1 : ((n : Int) == 1) = false := by simpa using (show ¬ (n : Int) = 1 by omega)
      rw [if_neg (by omega), if_neg (by omega)]
      have HT := Lib.hid (And.intro ht (And.intro he (hF w.heap.size (Nat.le_refl _))))
      clear ht he hs hf hl hn h0 h1 hF
      go_enter Tryd.func32, Tryd.ntmps32
      go_wp2_with fail
      refine HSZ.out.mono ?_
      rintro e w' ⟨rfl, rfl⟩
      go_wp2_with fail
      go_ret
      refine ⟨_, rfl, ?_, (Below.refl _ _).alloc (Nat.le_refl _) _⟩
      exact ⟨w.heap.size, p, t, rfl, HT.out.2.2, heap_alloc_new w _, HT.out.1.below ((Below.refl _ _).alloc (Nat.le_refl _) _), HT.out.2.1, rfl⟩
end Go.Proofs.YtngfbkkfnooobaaDoor
