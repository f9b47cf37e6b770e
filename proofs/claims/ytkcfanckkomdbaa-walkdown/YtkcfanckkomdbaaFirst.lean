/-
  Contracts of first, Pair and Join: a tree's first pair, two trees made one.
-/
import Derived.Test.YtkcfanckkomdbaaJoin
namespace Go.Proofs.Ytkcfanckkomdbaa
open Go.RowKit
set_option maxHeartbeats 4000000
set_option maxRecDepth 100000
theorem results_two {P : Program} {fn : Func} {p u : Tmp} {ty : TypeId} (h : fn.results = #[.cell p ty, .tmp u]) (tmps : Array Value) (w : World) (g : Nat) (t : TypeId) (cs : Array Value) (fr : Nat × Nat) (d : TypeDesc) (v : Value)
    (hp : tmps.getD p undef = .pointer (some ⟨g, 0, none⟩)) (hg : w.heap[g]? = some (.cells cs t fr)) (hv : tmps.getD u undef = v)
    (hu : P.underlying ty = some d) (hd : (match d with | .struct _ | .array _ _ => true | _ => false) = true) (hi : (P.info? ty).map (·.size) = some cs.size) :
    (results fn tmps).run P w = .ok (.tuple #[.agg cs, v]) w := by
  have hp' : tmps[p]?.getD undef = .pointer (some ⟨g, 0, none⟩) := by simpa using hp
  have hv' : tmps[u]?.getD undef = v := by simpa using hv
  simp [results, h, hp', hv', asAddr, run_loadVar_row w g t ty cs fr d hg hu hd hi]
/-- a new block of two slices stays where a call counts -/
theorem new_stays {m : Option Addr} {w w1 : World} {v c : Nat} {a b : Value} {t : TypeId} (ha : ∀ z : Int, a ≠ .int .i64 z) (hm : Met w m v c) (ho : Only m (w.alloc (.cells #[a, b] t)) w1) :
    w1.heap[w.heap.size]? = some (.cells #[a, b] t (0, 0)) := by
  have r0 : (w.alloc (.cells #[a, b] t)).heap[w.heap.size]? = some (.cells #[a, b] t (0, 0)) := heap_alloc_new w _
  have c0 : (w.alloc (.cells #[a, b] t)).cell? ⟨w.heap.size, 0, none⟩ = some a := by rw [cell_of_row _ _ 0 _ t (0, 0) r0]; rfl
  have e := ho.cell (hm.below ((Below.refl _ _).alloc (Nat.le_refl _) _)) c0 ha (by simp)
  exact e.trans r0
theorem row2 {w : World} {g : Nat} {a b : Value} {t : TypeId} (h : w.heap[g]? = some (.cells #[a, b] t (0, 0))) : w.cell? ⟨g, 0, none⟩ = some a ∧ w.cell? ⟨g, 1, none⟩ = some b ∧ w.frozen? ⟨g, 0, none⟩ = false ∧ w.frozen? ⟨g, 1, none⟩ = false := by
  refine ⟨?_, ?_, ?_, ?_⟩
  · rw [cell_of_row w g _ _ t (0, 0) h]; rfl
  · rw [cell_of_row w g _ _ t (0, 0) h]; rfl
  · simp [World.frozen?, h]
  · simp [World.frozen?, h]
theorem set2 {w : World} {g : Nat} {a b : Value} {t : TypeId} (h : w.heap[g]? = some (.cells #[a, b] t (0, 0))) (x y : Value) :
    ((w.setCell ⟨g, 0, none⟩ x).setCell ⟨g, 1, none⟩ y).heap[g]? = some (.cells #[x, y] t (0, 0)) ∧ ∀ k, k ≠ g → ((w.setCell ⟨g, 0, none⟩ x).setCell ⟨g, 1, none⟩ y).heap[k]? = w.heap[k]? := by
  refine ⟨?_, fun k hk => ?_⟩
  · rw [heap_setCell_same _ g 1 _ t y (heap_setCell_same w g 0 _ t x h)]; rfl
  · rw [Below.heap_setCell _ ⟨g, 1, none⟩ y k hk, Below.heap_setCell _ ⟨g, 0, none⟩ x k hk]
theorem below_set2 {w : World} {g B : Nat} (x y : Value) (hg : B ≤ g) : Below B w ((w.setCell ⟨g, 0, none⟩ x).setCell ⟨g, 1, none⟩ y) :=
  ((Below.refl B w).setCell (p := ⟨g, 0, none⟩) hg _).setCell (p := ⟨g, 1, none⟩) hg _
theorem Only.then_below {m : Option Addr} {w w1 W : World} (h : Only m w w1) (k : Below w.heap.size w1 W) : Only m w W :=
  ⟨k.os.trans h.os, k.tape.trans h.tape, k.output.trans h.output, Nat.le_trans h.size k.size, fun i hi hm => (k.block i hi).trans (h.block i hi hm)⟩
theorem Met.then_below {m : Option Addr} {w w1 W : World} {v c v0 c0 : Nat} (h0 : Met w m v0 c0) (h : Met w1 m v c) (k : Below w.heap.size w1 W) : Met W m v c := by
  rcases h with rfl | ⟨g, rfl, h⟩
  · exact .inl rfl
  · rcases h0 with e | ⟨g', e, h0⟩
    · cases e
    · injection e with e
      injection e with e
      subst e
      exact .inr ⟨g, rfl, (k.block g (Array.getElem?_eq_some_iff.1 h0).1).trans h⟩
/-- block g holds a variable of two slices: no tree's node, no bytes, no meter -/
def Spare (w : World) (g : Nat) : Prop := ∃ a n c a' n' c', w.heap[g]? = some (.cells #[.slice a n c, .slice a' n' c'] 75 (0, 0))
theorem Byt.away {F : Nat → Prop} {w w' : World} {g : Nat} {A : Option Addr} {l : List UInt8} (h : Byt F w A l) (hg : Spare w g) (k : ∀ k, k ≠ g → w'.heap[k]? = w.heap[k]?) : Byt F w' A l := by
  rcases h with h | ⟨b, off, h1, hf, h2, h3⟩
  · exact .inl h
  · by_cases hl : l = []
    · exact .inl hl
    · have hb : b ≠ g := by
        rintro rfl
        obtain ⟨a, n, c, a', n', c', hg⟩ := hg
        have := h3 0 (List.length_pos_iff.2 hl)
        rw [cell_of_row w b _ _ 75 (0, 0) hg] at this
        match off + 0, this with
        | 0, hc => injection hc with hc; cases hc
        | 1, hc => injection hc with hc; cases hc
        | n + 2, hc => simp at hc
      exact .inr ⟨b, off, h1, hf, lt_kept (k b hb) h2, fun i hi => (cell_kept (k b hb)).trans (h3 i hi)⟩
theorem Tre.away {F : Nat → Prop} {w w' : World} {g : Nat} (hg : Spare w g) (k : ∀ k, k ≠ g → w'.heap[k]? = w.heap[k]?) : ∀ {t : Tr} {p : Option Addr}, Tre F w t p → Tre F w' t p
  | .nil, _, h => h
  | .node _ _ _, _, ⟨b, ka, kc, va, vc, pl, pr, h1, h2, h3, h4⟩ => by
    have hb : b ≠ g := by
      rintro rfl
      obtain ⟨a, n, c, a', n', c', hg⟩ := hg
      have := h2.2.1
      rw [hg] at this
      injection this with this
      injection this with this
      simp at this
    exact ⟨b, ka, kc, va, vc, pl, pr, h1, ⟨h2.1, (k b hb).trans h2.2.1, h2.2.2.1.away hg k, h2.2.2.2.away hg k⟩, h3.away hg k, h4.away hg k⟩
theorem Met.away {m : Option Addr} {w w' : World} {g v c : Nat} (h : Met w m v c) (hg : Spare w g) (k : ∀ k, k ≠ g → w'.heap[k]? = w.heap[k]?) : Met w' m v c := by
  rcases h with h | ⟨b, h1, h2⟩
  · exact .inl h
  · refine .inr ⟨b, h1, (k b ?_).trans h2⟩
    rintro rfl
    obtain ⟨a, n, c, a', n', c', hg⟩ := hg
    rw [hg] at h2
    injection h2 with h2
    injection h2 with h2
    simp at h2
theorem first_end {F : Nat → Prop} {w : World} {q : Pr} {r : Tr} {p m : Option Addr} {v c : Nat} (ht : Tre F w (.node .nil q r) p) (hm : Met w m v c) (hv : v ≤ 1000000) :
    Calls Try.prog 54 #[.pointer p, .pointer m] w fun e w' => ∃ ka kc va vc p', e = .returned (.tuple #[.agg #[.slice ka q.1.length kc, .slice va q.2.length vc], .pointer p']) ∧ Byt F w' ka q.1 ∧ Byt F w' va q.2 ∧ Tre F w' r p' ∧ Met w' m (v + 1) c ∧ Only m w w' := by
  obtain ⟨b, ka, kc, va, vc, pl, pr, rfl, nd, hl, hr⟩ := ht
  obtain rfl : pl = none := hl
  obtain ⟨w0, hw0⟩ : ∃ w0, w0 = w.alloc (.cells #[.slice none 0 0, .slice none 0 0] 75) := ⟨_, rfl⟩
  have hb0 : Below w.heap.size w w0 := by rw [hw0]; exact (Below.refl _ _).alloc (Nat.le_refl _) _
  have hvis := visit_any (hm.below hb0) hv
  have hst := fun w1 (ho : Only m w0 w1) => new_stays (a := .slice none 0 0) (b := .slice none 0 0) (t := 75) (by intro z e; cases e) hm (hw0 ▸ ho)
  have hnd := fun w1 (ho : Only m w0 w1) => (nd.below hb0).only (hm.below hb0) ho
  have hrr := fun w1 (ho : Only m w0 w1) => (hr.below hb0).only (hm.below hb0) ho
  obtain ⟨k1, hk1⟩ : ∃ k, k = q.1.length := ⟨_, rfl⟩
  obtain ⟨k2, hk2⟩ : ∃ k, k = q.2.length := ⟨_, rfl⟩
  simp only [← hk1, ← hk2]
  have HV := Lib.hid hvis; clear hvis
  have HS := Lib.hid hst; clear hst
  have HN := Lib.hid hnd; clear hnd
  have HR := Lib.hid hrr; clear hrr
  have HW := Lib.hid hw0; clear hw0
  have HB := Lib.hid hb0; clear hb0
  have HK1 := Lib.hid hk1; clear hk1
  have HK2 := Lib.hid hk2; clear hk2
  have HM := Lib.hid hm; clear hm
  have HR0 := Lib.hid hr; clear hr
  have HND := Lib.hid nd; clear nd
  go_enter Try.func54, Try.ntmps54
  go_wp2_with fail
  rw [← HW.out]
  refine HV.out.mono ?_
  rintro e w1 ⟨rfl, hm1, ho1⟩
  obtain ⟨c0, c1, c2, c3, _⟩ := (HN.out _ ho1).cells
  obtain ⟨d0, d1, f0, f1⟩ := row2 (HS.out _ ho1)
  rw [← HK1.out] at c0
  rw [← HK2.out] at c1
  have HM1 := Lib.hid hm1; clear hm1
  have HO1 := Lib.hid ho1; clear ho1
  go_wp2_with fail
  have HS2 := Lib.hid (set2 (w := w1.drew) (show w1.drew.heap[w.heap.size]? = some (.cells #[.slice none 0 0, .slice none 0 0] 75 (0, 0)) from (HS.out w1 HO1.out : w1.heap[w.heap.size]? = _)) (.slice ka k1 kc) (.slice va k2 vc))
  have HB2 := Lib.hid (below_set2 (w := w1.drew) (g := w.heap.size) (B := w.heap.size) (.slice ka k1 kc) (.slice va k2 vc) (Nat.le_refl _))
  have hne := Nat.ne_of_lt HND.out.lt
  have kp : w1.drew.cell? ⟨b, 0, none⟩ = some (.slice ka k1 kc) ∧ w1.drew.cell? ⟨b, 1, none⟩ = some (.slice va k2 vc) ∧ w1.drew.cell? ⟨b, 3, none⟩ = some (.pointer pr) := ⟨c0, c1, c3⟩
  have kq : ((w1.drew.setCell ⟨w.heap.size, 0, none⟩ (.slice ka k1 kc)).setCell ⟨w.heap.size, 1, none⟩ (.slice va k2 vc)).cell? ⟨b, 0, none⟩ = some (.slice ka k1 kc) ∧ ((w1.drew.setCell ⟨w.heap.size, 0, none⟩ (.slice ka k1 kc)).setCell ⟨w.heap.size, 1, none⟩ (.slice va k2 vc)).cell? ⟨b, 1, none⟩ = some (.slice va k2 vc) ∧ ((w1.drew.setCell ⟨w.heap.size, 0, none⟩ (.slice ka k1 kc)).setCell ⟨w.heap.size, 1, none⟩ (.slice va k2 vc)).cell? ⟨b, 3, none⟩ = some (.pointer pr) := by
    have e := HS2.out.2 b hne
    exact ⟨(cell_kept e).trans c0, (cell_kept e).trans c1, (cell_kept e).trans c3⟩
  have KP := Lib.hid kp; clear kp
  have KQ := Lib.hid kq; clear kq
  clear c0 c1 c2 c3
  go_region_held3 (fun W => W.cell? ⟨b, 0, none⟩ = some (.slice ka k1 kc) ∧ W.cell? ⟨b, 1, none⟩ = some (.slice va k2 vc) ∧ W.cell? ⟨b, 3, none⟩ = some (.pointer pr)) (first | exact KP.out | exact KQ.out | fail) (first | fail | fail)
  go_wp2_with fail
  refine bodyPost_ret (results_two rfl _ _ w.heap.size 75 _ (0, 0) _ (.pointer pr) rfl HS2.out.1 rfl Try.underlying75 rfl (by kernel_rfl)) rfl ?_
  have o1 : Only m w w1.drew := ((Only.of HB.out).trans HO1.out).then_below (Below.refl _ _).drew
  have o2 := o1.then_below HB2.out
  refine ⟨ka, kc, va, vc, pr, rfl, HND.out.2.2.1.only HM.out o2, HND.out.2.2.2.only HM.out o2, HR0.out.only HM.out o2, ?_, o2⟩
  exact HM.out.then_below (w1 := w1.drew) (HM.out.then_below HM1.out (Below.refl _ _).drew) HB2.out
/-- what first promises of a tree -/
def FirstAt (F : Nat → Prop) (t : Tr) : Prop := ∀ (w : World) (p m : Option Addr) (v c : Nat), Fut F w → Tre F w t p → Met w m v c → t.even → t.size < 2000 → v + t.high ≤ 1000000 →
  Calls Try.prog 54 #[.pointer p, .pointer m] w fun e w' => ∃ ka kc va vc q p' t' v', e = .returned (.tuple #[.agg #[.slice ka q.1.length kc, .slice va q.2.length vc], .pointer p']) ∧ Byt F w' ka q.1 ∧ Byt F w' va q.2 ∧ Tre F w' t' p' ∧ t'.even ∧ t.list = q :: t'.list ∧ Met w' m v' c ∧ v < v' ∧ v' ≤ v + t.high ∧ Only m w w'
theorem first_more {F : Nat → Prop} {w : World} {q : Pr} {l r : Tr} {p m : Option Addr} {v c : Nat} (ih : FirstAt F l) (hF : Fut F w) (ht : Tre F w (.node l q r) p) (hln : l ≠ .nil) (hm : Met w m v c) (he : (Tr.node l q r).even) (hs : (Tr.node l q r).size < 2000) (hv : v + (Tr.node l q r).high ≤ 1000000) :
    Calls Try.prog 54 #[.pointer p, .pointer m] w fun e w' => ∃ ka kc va vc q' p' t' v', e = .returned (.tuple #[.agg #[.slice ka q'.1.length kc, .slice va q'.2.length vc], .pointer p']) ∧ Byt F w' ka q'.1 ∧ Byt F w' va q'.2 ∧ Tre F w' t' p' ∧ t'.even ∧ (Tr.node l q r).list = q' :: t'.list ∧ Met w' m v' c ∧ v < v' ∧ v' ≤ v + (Tr.node l q r).high ∧ Only m w w' := by
  obtain ⟨b, ka, kc, va, vc, pl, pr, rfl, nd, hl, hr⟩ := ht
  obtain ⟨e1, e2, e3⟩ := he
  have hhi : l.high + 1 ≤ (Tr.node l q r).high := by simp only [Tr.high]; omega
  have hsl : l.size + r.size + 1 < 2000 := by simpa only [Tr.size] using hs
  obtain ⟨w0, hw0⟩ : ∃ w0, w0 = w.alloc (.cells #[.slice none 0 0, .slice none 0 0] 75) := ⟨_, rfl⟩
  have hb0 : Below w.heap.size w w0 := by rw [hw0]; exact (Below.refl _ _).alloc (Nat.le_refl _) _
  have hvis := visit_any (hm.below hb0) (by omega)
  have hst := fun w1 (ho : Only m w0 w1) => new_stays (a := .slice none 0 0) (b := .slice none 0 0) (t := 75) (by intro z e; cases e) hm (hw0 ▸ ho)
  have hpl : ∃ a, pl = some a := by
    cases l with
    | nil => exact absurd rfl hln
    | node a k c => obtain ⟨b', _, _, _, _, _, _, rfl, _⟩ := hl; exact ⟨_, rfl⟩
  obtain ⟨al, rfl⟩ := hpl
  have hrec := fun w1 (ho : Only m w0 w1) (hm1 : Met w1 m (v + 1) c) => ih w1 (some al) m (v + 1) c ((hF.later hb0.size).later ho.size) ((hl.below hb0).only (hm.below hb0) ho) hm1 e2 (by omega) (by omega)
  have HV := Lib.hid hvis; clear hvis
  have HS := Lib.hid hst; clear hst
  have HREC := Lib.hid hrec; clear hrec
  have HW := Lib.hid hw0; clear hw0
  have HB := Lib.hid hb0; clear hb0
  have HM := Lib.hid hm; clear hm
  have HR := Lib.hid hr; clear hr
  have HND := Lib.hid nd; clear nd
  have HF := Lib.hid hF; clear hF
  have E3 := Lib.hid e3; clear e3
  obtain ⟨k1, hk1⟩ : ∃ k, k = q.1.length := ⟨_, rfl⟩
  obtain ⟨k2, hk2⟩ : ∃ k, k = q.2.length := ⟨_, rfl⟩
  have HK1 := Lib.hid hk1; clear hk1
  have HK2 := Lib.hid hk2; clear hk2
  have HSL := Lib.hid hsl; clear hsl
  have HHI := Lib.hid hhi; clear hhi
  clear hl e1 e2 hs hv ih hln
  go_enter Try.func54, Try.ntmps54
  go_wp2_with fail
  rw [← HW.out]
  refine HV.out.mono ?_
  rintro e w1 ⟨rfl, hm1, ho1⟩
  have o1 := (Only.of (m := m) HB.out).trans ho1
  obtain ⟨c0, c1, c2, c3, _⟩ := (HND.out.only HM.out o1).cells
  have hrc := HREC.out _ ho1 hm1
  have HRC := Lib.hid hrc; clear hrc
  have HM1 := Lib.hid hm1; clear hm1
  have HO1 := Lib.hid o1; clear o1
  have HS1 := Lib.hid (HS.out _ ho1); clear HS
  clear ho1 HREC HV
  go_wp2_with fail
  refine HRC.out.mono ?_
  rintro e w2 ⟨ja, jc, ua, uc, q', p', t', v', rfl, hja, hua, ht', he', hli, hm2, hv1, hv2, ho2⟩
  clear c0 c1 c2 c3
  obtain ⟨x1, hx1⟩ : ∃ k, k = q'.1.length := ⟨_, rfl⟩
  obtain ⟨x2, hx2⟩ : ∃ k, k = q'.2.length := ⟨_, rfl⟩
  rw [← hx1, ← hx2]
  have r1 : w2.heap[w.heap.size]? = some (.cells #[.slice none 0 0, .slice none 0 0] 75 (0, 0)) := (ho2.cell HM1.out (row2 HS1.out).1 (by intro z e; cases e) (Array.getElem?_eq_some_iff.1 HS1.out).1).trans HS1.out
  have o2 := HO1.out.trans ho2
  obtain ⟨w3, hw3, hb3, hsz3, hbox⟩ := box_new w2 ja ua x1 jc x2 uc
  have hlt : w.heap.size < w2.heap.size := (Array.getElem?_eq_some_iff.1 r1).1
  have n3 : Nod F w3 b ka kc va vc q (some al) pr (l.size + r.size) := (HND.out.only HM.out o2).below hb3
  have hr3 : Tre F w3 r pr := (HR.out.only HM.out o2).below hb3
  have ht3 : Tre F w3 t' p' := ht'.below hb3
  have hF3 : Fut F w3 := HF.out.later (by have := hb3.size; omega)
  have hjn := fun W (hW : Below w3.heap.size w3 W) => join_any kc vc (hF3.later hW.size) (ht3.below hW) (hr3.below hW) (n3.2.2.1.below hW) (n3.2.2.2.below hW) (by have h := congrArg List.length hli; rw [List.length_cons, Tr.length, Tr.length] at h; have := HSL.out; omega) he' E3.out
  have hkeep : ∀ W, Below w3.heap.size w3 W → (W.cell? ⟨w2.heap.size, 0, none⟩ = some (.slice ja x1 jc) ∧ W.cell? ⟨w2.heap.size, 1, none⟩ = some (.slice ua x2 uc) ∧ W.cell? ⟨b, 0, none⟩ = some (.slice ka k1 kc) ∧ W.cell? ⟨b, 1, none⟩ = some (.slice va k2 vc) ∧ W.cell? ⟨b, 3, none⟩ = some (.pointer pr)) ∧ W.heap[w.heap.size]? = some (.cells #[.slice none 0 0, .slice none 0 0] 75 (0, 0)) := by
    intro W hW
    obtain ⟨g0, g1, g2, g3, _⟩ := (n3.below hW).cells
    rw [← HK1.out] at g0
    rw [← HK2.out] at g1
    exact ⟨⟨(hbox W hW).1, (hbox W hW).2, g0, g1, g3⟩, ((hW.block _ (by omega)).trans (hb3.block _ hlt)).trans r1⟩
  have hkeep2 : ∀ W (X Y : Value), Below w3.heap.size w3 W → (((W.setCell ⟨w.heap.size, 0, none⟩ X).setCell ⟨w.heap.size, 1, none⟩ Y).cell? ⟨w2.heap.size, 0, none⟩ = some (.slice ja x1 jc) ∧ ((W.setCell ⟨w.heap.size, 0, none⟩ X).setCell ⟨w.heap.size, 1, none⟩ Y).cell? ⟨w2.heap.size, 1, none⟩ = some (.slice ua x2 uc) ∧ ((W.setCell ⟨w.heap.size, 0, none⟩ X).setCell ⟨w.heap.size, 1, none⟩ Y).cell? ⟨b, 0, none⟩ = some (.slice ka k1 kc) ∧ ((W.setCell ⟨w.heap.size, 0, none⟩ X).setCell ⟨w.heap.size, 1, none⟩ Y).cell? ⟨b, 1, none⟩ = some (.slice va k2 vc) ∧ ((W.setCell ⟨w.heap.size, 0, none⟩ X).setCell ⟨w.heap.size, 1, none⟩ Y).cell? ⟨b, 3, none⟩ = some (.pointer pr)) := by
    intro W X Y hW
    obtain ⟨⟨g0, g1, g2, g3, g4⟩, g5⟩ := hkeep W hW
    have a1 := (set2 g5 X Y).2 w2.heap.size (by omega)
    have a2 := (set2 g5 X Y).2 b (Nat.ne_of_lt HND.out.lt)
    exact ⟨(cell_kept a1).trans g0, (cell_kept a1).trans g1, (cell_kept a2).trans g2, (cell_kept a2).trans g3, (cell_kept a2).trans g4⟩
  have hpost : ∀ wA pA tA, Below w3.heap.size w3 wA → Tre F wA tA pA → tA.even → tA.list = t'.list ++ q :: r.list → ∀ W, W = (wA.setCell ⟨w.heap.size, 0, none⟩ (.slice ja x1 jc)).setCell ⟨w.heap.size, 1, none⟩ (.slice ua x2 uc) → W.heap[w.heap.size]? = some (.cells #[.slice ja x1 jc, .slice ua x2 uc] 75 (0, 0)) ∧
      Byt F W ja q'.1 ∧ Byt F W ua q'.2 ∧ Tre F W tA pA ∧ tA.even ∧ (Tr.node l q r).list = q' :: tA.list ∧ Met W m v' c ∧ v < v' ∧ v' ≤ v + (Tr.node l q r).high ∧ Only m w W := by
    intro wA pA tA hA h1 h2 h3 W hW
    have g5 := (hkeep wA hA).2
    have a1 := set2 g5 (.slice ja x1 jc) (.slice ua x2 uc)
    rw [← hW] at a1
    have sp : Spare wA w.heap.size := ⟨_, _, _, _, _, _, g5⟩
    have hbW : Below w.heap.size wA W := by rw [hW]; exact below_set2 _ _ (Nat.le_refl _)
    refine ⟨a1.1, ((hja.below hb3).below hA).away sp a1.2, ((hua.below hb3).below hA).away sp a1.2, h1.away sp a1.2, h2, ?_, ((hm2.below hb3).below hA).away sp a1.2, by omega, by have := HHI.out; omega, ?_⟩
    · rw [h3]; simp only [Tr.list, hli, List.cons_append]
    · have b1 : Below w.heap.size w2 wA := (hb3.mono (by omega)).trans (hA.mono (by omega))
      exact o2.then_below (b1.trans hbW)
  rw [← HK1.out, ← HK2.out] at hjn
  have hz0 : Below w3.heap.size w3 w3.drew := (Below.refl _ _).drew
  have HP := Lib.hid hpost; clear hpost
  have KEEP := Lib.hid hkeep; clear hkeep
  have KEEP2 := Lib.hid hkeep2; clear hkeep2
  have HJ := Lib.hid hjn; clear hjn
  have HW3 := Lib.hid hw3; clear hw3
  have HX1 := Lib.hid hx1; clear hx1
  have HX2 := Lib.hid hx2; clear hx2
  clear hbox hF3 ht3 hr3 n3 hlt hsz3 o2 r1 ho2 hv1 hv2 hm2 hli he' ht' hua hja hb3 HRC HS1 HO1 HM1
  go_wp2_with fail
  rw [← HW3.out]
  go_region_held3 (fun W => W.cell? ⟨w2.heap.size, 0, none⟩ = some (.slice ja x1 jc) ∧ W.cell? ⟨w2.heap.size, 1, none⟩ = some (.slice ua x2 uc) ∧ W.cell? ⟨b, 0, none⟩ = some (.slice ka k1 kc) ∧ W.cell? ⟨b, 1, none⟩ = some (.slice va k2 vc) ∧ W.cell? ⟨b, 3, none⟩ = some (.pointer pr)) (first | exact (KEEP.out _ hz0).1 | exact (KEEP.out _ hzA).1 | exact KEEP2.out _ _ _ hzA | fail) (first
    | (go_at_call 55; (with_reducible refine (HJ.out _ hz0).mono ?_); rintro e wA ⟨pA, tA, rfl, hA, hev, hli, hbA⟩; have hzA := below_then hz0 hbA; obtain ⟨s1, s2, s3, s4⟩ := row2 (KEEP.out _ hzA).2)
    | fail)
  all_goals
    go_wp2_with fail
    obtain ⟨p0, p1, p2, p3, p4, p5, p6, p7, p8, p9⟩ := HP.out wA pA tA hzA hA hev hli _ rfl
    refine bodyPost_ret (results_two rfl _ _ w.heap.size 75 _ (0, 0) _ (.pointer pA) rfl p0 rfl Try.underlying75 rfl (by kernel_rfl)) rfl ?_
    exact ⟨ja, jc, ua, uc, q', pA, tA, v', by rw [HX1.out, HX2.out], p1, p2, p3, p4, p5, p6, p7, p8, p9⟩
theorem firstAt (F : Nat → Prop) : ∀ t : Tr, t ≠ .nil → FirstAt F t
  | .nil, h => absurd rfl h
  | .node l q r, _ => fun w p m v c hF ht hm he hs hv => by
    by_cases hl : l = .nil
    · subst hl
      have h1 : 1 ≤ (Tr.node .nil q r).high := by simp only [Tr.high]; omega
      refine (first_end ht hm (by omega)).mono ?_
      rintro e w' ⟨ka, kc, va, vc, p', rfl, h2, h3, h4, h5, h6⟩
      exact ⟨ka, kc, va, vc, q, p', r, v + 1, rfl, h2, h3, h4, he.2.2, rfl, h5, by omega, by omega, h6⟩
    · exact first_more (firstAt F l hl) hF ht hl hm he hs hv
end Go.Proofs.Ytkcfanckkomdbaa
