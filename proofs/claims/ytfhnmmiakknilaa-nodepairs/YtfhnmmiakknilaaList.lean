/-
  The contract of List: a tree's pairs, in memory of their own.
-/
import Derived.Test.YtfhnmmiakknilaaEach
namespace Go.Proofs.Ytfhnmmiakknilaa
open Go.RowKit
set_option maxHeartbeats 4000000
set_option maxRecDepth 100000
/-- keys and values are short -/
def Fits (L : List Pr) : Prop := ∀ x ∈ L, x.1.length ≤ 1000 ∧ x.2.length ≤ 1000
theorem kept_of {B : Nat} {w w' : World} (h : Below B w w') : Kept (fun b => b < B) w w' := fun b hb _ => h.block b hb
theorem each_told {B g : Nat} : ∀ (t : Tr) (p : Option Addr) (w : World) (L : List Pr), Tre (fun b => b < B) w t p → Told B g w L → L.length + t.size ≤ 800 → B ≤ w.heap.size → Fits t.list →
    Calls Try.prog 50 #[.pointer p, .func (.func 53) #[] #[.pointer (some ⟨g, 0, none⟩)]] w fun e w' => e = .returned (.bool true) ∧ Told B g w' (L ++ t.list) ∧ Below B w w'
  | .nil, p, w, L, ht, hL, _, _, _ => by
    obtain rfl : p = none := ht
    have HL := Lib.hid hL; clear hL
    go_enter Try.func50, Try.ntmps50
    go_wp2
    go_ret
    exact ⟨rfl, by simpa [Tr.list] using HL.out, Below.refl _ _⟩
  | .node l q r, p, w, L, ht, hL, hn, hB, hf => by
    have hf1 : Fits l.list := fun x hx => hf x (by simp [Tr.list, hx])
    have hf2 : Fits r.list := fun x hx => hf x (by simp [Tr.list, hx])
    have hq := hf q (by simp [Tr.list])
    obtain ⟨b, ka, kc, va, vc, pl, pr, rfl, nd, hl, hr⟩ := ht
    have hsz : L.length + l.size + r.size + 1 ≤ 800 := by simp only [Tr.size] at hn; omega
    have i1 := each_told l pl w L hl hL (by omega) hB hf1
    have i2 := fun w1 (h1 : Told B g w1 (L ++ l.list)) (hb : Below B w w1) => list1_any (nd.kept (kept_of hb)) h1 (by rw [List.length_append, Tr.length]; omega) (by omega) (Nat.le_trans hB hb.size)
    have i3 := fun w1 (h1 : Told B g w1 (L ++ l.list ++ [q])) (hb : Below B w w1) => each_told r pr w1 _ (hr.kept (kept_of hb)) h1 (by simp only [List.length_append, List.length_cons, List.length_nil, Tr.length]; omega) (Nat.le_trans hB hb.size) hf2
    have hc := fun w1 (hb : Below B w w1) => (nd.kept (kept_of hb)).cells.2.2.2.1
    obtain ⟨_, _, c2, c3, _⟩ := nd.cells
    have eg : ∀ args w, (callFunc 53 args).run Try.prog w = .ok (.enter 53 args) w := enters_of Try.func53 (by kernel_rfl) rfl
    have I1 := Lib.hid i1; clear i1
    have I2 := Lib.hid i2; clear i2
    have I3 := Lib.hid i3; clear i3
    have HC := Lib.hid hc; clear hc
    clear nd hl hr hf hf1 hf2 hq hn hsz hL hB
    go_enter Try.func50, Try.ntmps50
    go_wp2_with fail
    refine I1.out.mono ?_
    rintro e w1 ⟨rfl, h1, hb1⟩
    have J2 := Lib.hid (I2.out w1 h1 hb1)
    have HB1 := Lib.hid hb1; clear hb1
    clear h1 I1 I2 c2 c3
    go_wp2_with fail
    refine J2.out.mono ?_
    rintro e w2 ⟨rfl, h2, hb2⟩
    have hb := HB1.out.trans hb2
    have J3 := Lib.hid (I3.out w2 h2 hb)
    have c3 := HC.out w2 hb
    have HB2 := Lib.hid hb; clear hb
    clear h2 hb2 I3 J2 HC HB1
    go_wp2_with fail
    refine J3.out.mono ?_
    rintro e w3 ⟨rfl, h3, hb3⟩
    have H3 := Lib.hid h3; clear h3
    have HB3 := Lib.hid hb3; clear hb3
    go_wp2_with fail
    go_ret
    exact ⟨rfl, by simpa [Tr.list] using H3.out, HB2.out.trans HB3.out⟩
/-- what List hands back: pairs in memory of their own, from B on -/
def Fresh (B : Nat) (w : World) (A : Option Addr) (c : Nat) (L : List Pr) : Prop := ∃ xs, w.ownsRow B 54 2 (.slice A L.length c) L.length xs ∧ Mrow B w xs L
theorem Fresh.pcs {B : Nat} {w : World} {A : Option Addr} {c : Nat} {L : List Pr} (h : Fresh B w A c L) : Pcs w A L := by
  obtain ⟨xs, ho, hm⟩ := h
  obtain ⟨A', c', e, hr⟩ := row_reads ho
  injection e with e1 _ _
  subst e1
  rcases Nat.eq_zero_or_pos L.length with h0 | h0
  · exact .inl (List.eq_nil_of_length_eq_zero h0)
  · obtain ⟨g, rfl, _, hg, hc⟩ := hr h0
    refine .inr ⟨g, 0, rfl, hg, fun i hi => ?_⟩
    obtain ⟨kb, vb, h1, h2, h3, h4⟩ := hm.2 i hi
    rw [Nat.zero_add, hc _ (by omega), hc _ (by omega)]
    exact ⟨_, _, _, _, h1, h2, bts_row h3.2, bts_row h4.2⟩
theorem list_any {F : Nat → Prop} {w : World} {t : Tr} {p : Option Addr} (ht : Tre F w t p) (hn : t.size ≤ 800) (hf : Fits t.list) :
    Calls Try.prog 30 #[.pointer p] w fun e w' => ∃ A c, e = .returned (.slice A t.list.length c) ∧ Fresh w.heap.size w' A c t.list ∧ Below w.heap.size w w' := by
  by_cases hnil : t = .nil
  · subst hnil
    obtain rfl : p = none := ht
    go_enter Try.func30, Try.ntmps30
    go_wp2
    go_ret
    exact ⟨none, 0, rfl, ⟨[], ⟨rfl, .inl ⟨rfl, rfl⟩⟩, Mrow.nil _ _⟩, Below.refl _ _⟩
  · obtain ⟨b, rfl, _⟩ := tre_some ht hnil
    have s1 := size_any ht (by omega)
    obtain ⟨i0, hi, hz0, hz1, hz2⟩ := info_parts Try.info54
    obtain ⟨w1, hmk, hown, hgr⟩ := run_make_own (P := Try.prog) w w.heap.size 44 54 i0 _ 2 Try.underlying44 hi hz0 hz1 .i64 .i64 t.size (by rw [hz2]; omega) (by unfold maxLen; omega) (Nat.le_refl _)
    have hb1 : Below w.heap.size w w1 := ⟨hgr.os, hgr.tape, hgr.output, hgr.size, fun k hk => hgr.block k hk (by simp)⟩
    obtain ⟨v0, hv0⟩ : ∃ v, v = Value.slice (some ⟨w.heap.size, 0, none⟩) 0 t.size := ⟨_, rfl⟩
    obtain ⟨w2, hw2⟩ : ∃ w2, w2 = w1.alloc (.cells #[v0] 44) := ⟨_, rfl⟩
    have hb2 : Below w.heap.size w w2 := by rw [hw2]; exact hb1.alloc hb1.size _
    have hb12 : Below w1.heap.size w1 w2 := by rw [hw2]; exact (Below.refl _ _).alloc (Nat.le_refl _) _
    have htold : Told w.heap.size w1.heap.size w2 [] := by
      refine ⟨hb1.size, v0, [], by rw [hw2]; exact heap_alloc_new w1 _, ?_, Mrow.nil _ _⟩
      rw [hv0]
      exact own_keep hown hb12
    have he := each_told t (some ⟨b, 0, none⟩) w2 [] ((ht.mono (G := fun b => b < w.heap.size) (fun _ h _ => h)).below hb2) htold (by simp; omega) hb2.size hf
    rw [hv0] at hw2
    obtain ⟨n, hn2⟩ : ∃ n, n = t.size := ⟨_, rfl⟩
    rw [← hn2] at s1 hmk hw2
    have S1 := Lib.hid s1; clear s1
    have HE := Lib.hid he; clear he
    have HB1 := Lib.hid hb2; clear hb2
    have HW := Lib.hid hw2; clear hw2
    clear ht hn hf hnil hown hgr hb1 hb12 htold hi hz0 hz1 hz2 hn2 hv0
    go_enter Try.func30, Try.ntmps30
    go_wp2_with fail
    refine S1.out.mono ?_
    rintro e w' ⟨rfl, rfl⟩
    go_wp2_with fail
    rw [← HW.out]
    refine HE.out.mono ?_
    rintro e w3 ⟨rfl, ⟨_, v, xs, h1, h2, h3⟩, hb3⟩
    have cg : w3.cell? ⟨w1.heap.size, 0, none⟩ = some v := by rw [cell_of_row w3 _ 0 _ 44 (0, 0) h1]; rfl
    obtain ⟨A, c, rfl, _⟩ := row_reads h2
    have H2 := Lib.hid h2; clear h2
    have H3 := Lib.hid h3; clear h3
    have HB3 := Lib.hid hb3; clear hb3
    clear h1
    go_wp2_with fail
    go_ret
    exact ⟨A, c, rfl, ⟨xs, H2.out, H3.out⟩, HB1.out.trans HB3.out⟩
end Go.Proofs.Ytfhnmmiakknilaa
