/-
  Contracts of with and Put: a tree with a pair, what is visited and compared on the way.
-/
import Derived.Test.YtkcfanckkomdbaaSides
namespace Go.Proofs.Ytkcfanckkomdbaa
open Go.RowKit
set_option maxHeartbeats 4000000
set_option maxRecDepth 100000
/-- how many visits and compares a way down a tree may have -/
def Count (t : Tr) (v c v' c' : Nat) : Prop := v ≤ v' ∧ v' ≤ v + t.high ∧ c ≤ c' ∧ c' + v ≤ c + v' ∧ (t ≠ .nil → v < v')
/-- what with promises of a tree -/
def WithAt (F : Nat → Prop) (t : Tr) : Prop := ∀ (w : World) (p m ka va : Option Addr) (q : Pr) (kc vc v c : Nat), Fut F w → Tre F w t p → Met w m v c → Byt F w ka q.1 → Byt F w va q.2 → t.even → srt t.list → t.size < 1400 → v + t.high ≤ 1000000 → c + t.high ≤ 1000000 →
  Calls Try.prog 57 #[.pointer p, .agg #[.slice ka q.1.length kc, .slice va q.2.length vc], .pointer m] w fun e w' => ∃ p' t' v' c', e = .returned (.pointer p') ∧ Tre F w' t' p' ∧ t'.even ∧ t'.list = put t.list q ∧ Met w' m v' c' ∧ Count t v c v' c' ∧ Only m w w'
/-- by a number's sign -/
def either (z : Int) (a b : List Pr) : List Pr := if z < 0 then a else b
theorem with_nil (F : Nat → Prop) : WithAt F .nil := fun w p m ka va q kc vc v c hF ht hm hk hv _ _ _ _ _ => by
  obtain rfl : p = none := ht
  obtain ⟨w1, hw1, hb1, hsz, hbox⟩ := box_new w ka va q.1.length kc q.2.length vc
  obtain ⟨b0, b1⟩ := hbox w1 (Below.refl _ _)
  have nd := node_any (l := .nil) (r := .nil) kc vc (hF.later (by omega)) (show Tre F w1 .nil none from rfl) (show Tre F w1 .nil none from rfl) (hk.below hb1) (hv.below hb1) (by simp only [Tr.size]; omega)
  obtain ⟨x1, hx1⟩ : ∃ k, k = q.1.length := ⟨_, rfl⟩
  obtain ⟨x2, hx2⟩ : ∃ k, k = q.2.length := ⟨_, rfl⟩
  simp only [← hx1, ← hx2] at nd hw1 b0 b1 ⊢
  have ND := Lib.hid nd; clear nd
  have HW := Lib.hid hw1; clear hw1
  have HB := Lib.hid hb1; clear hb1
  have HM := Lib.hid hm; clear hm
  clear hx1 hx2 hbox hk hv hsz hF
  go_enter Try.func57, Try.ntmps57
  go_wp2_with fail
  rw [← HW.out]
  refine ND.out.mono ?_
  rintro e w2 ⟨p', rfl, h1, h2⟩
  have H1 := Lib.hid h1; clear h1
  have H2 := Lib.hid h2; clear h2
  clear b0 b1
  go_wp2_with fail
  go_ret
  have hb := below_then HB.out H2.out
  refine ⟨p', _, v, c, rfl, H1.out, ⟨by decide, trivial, trivial⟩, rfl, HM.out.below hb, ⟨Nat.le_refl _, by omega, Nat.le_refl _, by omega, fun h => absurd rfl h⟩, Only.of hb⟩
theorem with_here {F : Nat → Prop} {l r : Tr} {q0 : Pr} (w : World) (p m ka va : Option Addr) (q : Pr) (kc vc v c : Nat) (hF : Fut F w) (ht : Tre F w (.node l q0 r) p) (hm : Met w m v c) (hk : Byt F w ka q.1) (hv : Byt F w va q.2) (hs : l.size + r.size < 1400) (hv1 : v ≤ 1000000) (hc1 : c ≤ 1000000) (hz : cmp q.1 q0.1 = 0) :
    Calls Try.prog 57 #[.pointer p, .agg #[.slice ka q.1.length kc, .slice va q.2.length vc], .pointer m] w fun e w' => ∃ p', e = .returned (.pointer p') ∧ Tre F w' (.node l q r) p' ∧ Met w' m (v + 1) (c + 1) ∧ Only m w w' := by
  obtain ⟨w1, hw1, hb1, hsz, hbox⟩ := box_new w ka va q.1.length kc q.2.length vc
  obtain ⟨b0, b1⟩ := hbox w1 (Below.refl _ _)
  have hag := against_any kc (ht.below hb1) (hm.below hb1) (hk.below hb1).bts hv1 hc1
  rw [hz] at hag
  have hst := fun w2 (ho : Only m w1 w2) => new_stays (a := .slice ka q.1.length kc) (b := .slice va q.2.length vc) (t := 75) (by intro z e; cases e) hm (hw1 ▸ ho)
  obtain ⟨b, rka, rkc, rva, rvc, pl, pr, rfl, nd, hl, hr⟩ := ht
  have hnn := fun w2 (ho : Only m w1 w2) W (hW : Below w2.heap.size w2 W) => node_any kc vc ((hF.later (by have := ho.size; omega)).later hW.size) (((hl.below hb1).only (hm.below hb1) ho).below hW) (((hr.below hb1).only (hm.below hb1) ho).below hW) (((hk.below hb1).only (hm.below hb1) ho).below hW) (((hv.below hb1).only (hm.below hb1) ho).below hW) (by omega)
  have hnod := fun w2 (ho : Only m w1 w2) W (hW : Below w2.heap.size w2 W) => (((nd.below hb1).only (hm.below hb1) ho).below hW).cells
  obtain ⟨x1, hx1⟩ : ∃ k, k = q.1.length := ⟨_, rfl⟩
  obtain ⟨x2, hx2⟩ : ∃ k, k = q.2.length := ⟨_, rfl⟩
  simp only [← hx1, ← hx2] at hnn hw1 b0 b1 hst hag ⊢
  have hkeep : ∀ w2, Only m w1 w2 → ∀ W, Below w2.heap.size w2 W → W.cell? ⟨w.heap.size, 0, none⟩ = some (.slice ka x1 kc) ∧ W.cell? ⟨w.heap.size, 1, none⟩ = some (.slice va x2 vc) ∧ W.cell? ⟨b, 2, none⟩ = some (.pointer pl) ∧ W.cell? ⟨b, 3, none⟩ = some (.pointer pr) := by
    intro w2 ho W hW
    have r0 := (hW.block w.heap.size (by have := ho.size; omega)).trans (hst w2 ho)
    exact ⟨(row2 r0).1, (row2 r0).2.1, (hnod w2 ho W hW).2.2.1, (hnod w2 ho W hW).2.2.2.1⟩
  have HA := Lib.hid hag; clear hag
  have HN := Lib.hid hnn; clear hnn
  have KEEP := Lib.hid hkeep; clear hkeep
  have HW := Lib.hid hw1; clear hw1
  have HB := Lib.hid hb1; clear hb1
  clear hx1 hx2 hbox hk hv hsz hF hnod hst nd hl hr hs hm hz
  go_enter Try.func57, Try.ntmps57
  go_wp2_with fail
  rw [← HW.out]
  refine HA.out.mono ?_
  rintro e w2 ⟨rfl, hm2, ho2⟩
  have hk2 := KEEP.out w2 ho2
  have hn2 := HN.out w2 ho2
  have KP := Lib.hid hk2; clear hk2
  have HN2 := Lib.hid hn2; clear hn2
  have HM2 := Lib.hid hm2; clear hm2
  have HO2 := Lib.hid ho2; clear ho2
  have hz0 : Below w2.heap.size w2 w2.drew := (Below.refl _ _).drew
  clear KEEP HN HA b0 b1
  go_wp2_with fail
  go_region_held3 (fun W => W.cell? ⟨w.heap.size, 0, none⟩ = some (.slice ka x1 kc) ∧ W.cell? ⟨w.heap.size, 1, none⟩ = some (.slice va x2 vc) ∧ W.cell? ⟨b, 2, none⟩ = some (.pointer pl) ∧ W.cell? ⟨b, 3, none⟩ = some (.pointer pr)) (first | exact KP.out _ hz0 | exact KP.out _ hzA | fail) (first
    | (go_at_call 38; (with_reducible refine (HN2.out _ hz0).mono ?_); rintro e wA ⟨pA, rfl, hA, hbA⟩; have hzA := below_then hz0 hbA)
    | fail)
  all_goals
    go_wp2_with fail
    go_ret
    exact ⟨pA, rfl, hA, HM2.out.below hzA, (Only.of HB.out).trans (HO2.out.trans (Only.of hzA))⟩
theorem with_side {F : Nat → Prop} {l r : Tr} {q0 : Pr} (z : Int) (s : Tr) (w : World) (p m ka va : Option Addr) (q : Pr) (kc vc v c : Nat) (ih : WithAt F s) (hF : Fut F w) (ht : Tre F w (.node l q0 r) p) (hm : Met w m v c) (hk : Byt F w ka q.1) (hv : Byt F w va q.2) (he : (Tr.node l q0 r).even) (hsr : srt (l.list ++ q0 :: r.list)) (hs : l.size + r.size < 1400) (hv1 : v + 1 + s.high ≤ 1000000) (hc1 : c + 1 + s.high ≤ 1000000) (hz : z = cmp q.1 q0.1) (hz0 : z ≠ 0) (hside : (if z < 0 then l else r) = s) :
    Calls Try.prog 57 #[.pointer p, .agg #[.slice ka q.1.length kc, .slice va q.2.length vc], .pointer m] w fun e w' => ∃ p' t' v' c', e = .returned (.pointer p') ∧ Tre F w' t' p' ∧ t'.even ∧ t'.list = either z (put l.list q ++ q0 :: r.list) (l.list ++ q0 :: put r.list q) ∧ Met w' m v' c' ∧ v + 1 ≤ v' ∧ v' ≤ v + 1 + s.high ∧ c + 1 ≤ c' ∧ c' + v ≤ c + v' ∧ Only m w w' := by
  obtain ⟨w1, hw1, hb1, hsz, hbox⟩ := box_new w ka va q.1.length kc q.2.length vc
  obtain ⟨b0, b1⟩ := hbox w1 (Below.refl _ _)
  have hag := against_any kc (ht.below hb1) (hm.below hb1) (hk.below hb1).bts (by omega) (by omega)
  rw [← hz] at hag
  have hst := fun w2 (ho : Only m w1 w2) => new_stays (a := .slice ka q.1.length kc) (b := .slice va q.2.length vc) (t := 75) (by intro z e; cases e) hm (hw1 ▸ ho)
  have hps := tre_some ht (by intro e; cases e)
  obtain ⟨bp, rfl, _⟩ := hps
  obtain ⟨p1, p2, p3, p4, p5⟩ := srt_parts hsr
  have es : s.even ∧ srt s.list ∧ s.size < 1400 := by
    rw [← hside]
    split
    · exact ⟨he.2.1, p1, by omega⟩
    · exact ⟨he.2.2, p2, by omega⟩
  have hsd := fun w2 (ho : Only m w1 w2) W (hW : Below w2.heap.size w2 W) => side_any z (((ht.below hb1).only (hm.below hb1) ho).below hW)
  rw [hside] at hsd
  have hwi := fun w2 (ho : Only m w1 w2) (hm2 : Met w2 m (v + 1) (c + 1)) W (hW : Below w2.heap.size w2 W) ps (hps : Tre F W s ps) => ih W ps m ka va q kc vc (v + 1) (c + 1) ((hF.later (by have := ho.size; omega)).later hW.size) hps (hm2.below hW) (((hk.below hb1).only (hm.below hb1) ho).below hW) (((hv.below hb1).only (hm.below hb1) ho).below hW) es.1 es.2.1 es.2.2 hv1 hc1
  have htu := fun w2 (ho : Only m w1 w2) (hm2 : Met w2 m (v + 1) (c + 1)) W (hW : Only m w2 W) o po (hpo : Tre F W o po) (eo : o.even) (hol : o.list = put s.list q) => turned_any z ((hF.later (by have := ho.size; omega)).later hW.size) (((ht.below hb1).only (hm.below hb1) ho).only hm2 hW) hpo he.2.1 he.2.2 eo (by have h := put_length s.list q; rw [← hol, Tr.length, Tr.length] at h; omega)
  have hlist : ∀ (o t : Tr), o.list = put s.list q → (t.list = if z < 0 then o.list ++ q0 :: r.list else l.list ++ q0 :: o.list) → t.list = either z (put l.list q ++ q0 :: r.list) (l.list ++ q0 :: put r.list q) := by
    intro o t h1 h2
    rw [h2, h1, ← hside]
    unfold either
    split <;> rfl
  obtain ⟨x1, hx1⟩ : ∃ k, k = q.1.length := ⟨_, rfl⟩
  obtain ⟨x2, hx2⟩ : ∃ k, k = q.2.length := ⟨_, rfl⟩
  simp only [← hx1, ← hx2] at hwi hw1 b0 b1 hst hag ⊢
  have hkeep : ∀ w2, Only m w1 w2 → Met w2 m (v + 1) (c + 1) → ∀ W, Only m w2 W → W.cell? ⟨w.heap.size, 0, none⟩ = some (.slice ka x1 kc) ∧ W.cell? ⟨w.heap.size, 1, none⟩ = some (.slice va x2 vc) := by
    intro w2 ho hm2 W hW
    have r0 := hst w2 ho
    have r1 := (hW.cell hm2 (row2 r0).1 (by intro z e; cases e) (Array.getElem?_eq_some_iff.1 r0).1).trans r0
    exact ⟨(row2 r1).1, (row2 r1).2.1⟩
  have d0 : (z == 0) = false := by simpa using hz0
  have HA := Lib.hid hag; clear hag
  have HS := Lib.hid hsd; clear hsd
  have HWI := Lib.hid hwi; clear hwi
  have HT := Lib.hid htu; clear htu
  have HL := Lib.hid hlist; clear hlist
  have KEEP := Lib.hid hkeep; clear hkeep
  have HW := Lib.hid hw1; clear hw1
  have HB := Lib.hid hb1; clear hb1
  have HZ := Lib.hid hz; clear hz
  clear hx1 hx2 hbox hk hv hsz hF hst ht he hs hm hv1 hc1 hside hsr p1 p2 p3 p4 p5 es ih
  go_enter Try.func57, Try.ntmps57
  go_wp2_with fail
  rw [← HW.out]
  refine HA.out.mono ?_
  rintro e w2 ⟨rfl, hm2, ho2⟩
  have KP := Lib.hid (KEEP.out w2 ho2 hm2)
  have HS2 := Lib.hid (HS.out w2 ho2)
  have HWI2 := Lib.hid (HWI.out w2 ho2 hm2)
  have HT2 := Lib.hid (HT.out w2 ho2 hm2)
  have HO2 := Lib.hid ho2; clear ho2
  clear hm2
  have hz1 : Below w2.heap.size w2 w2.drew := (Below.refl _ _).drew
  have oz : Only m w2 w2.drew := Only.of hz1
  clear KEEP HS HWI HT HA b0 b1
  go_wp2_with fail
  go_region_held3 (fun W => W.cell? ⟨w.heap.size, 0, none⟩ = some (.slice ka x1 kc) ∧ W.cell? ⟨w.heap.size, 1, none⟩ = some (.slice va x2 vc)) (first | exact KP.out _ oz | exact KP.out _ oA | exact KP.out _ oB | fail) (first
    | (go_at_call 32; (with_reducible refine (HS2.out _ hz1).mono ?_); rintro e wS ⟨⟨ps, rfl, hps⟩, rfl⟩)
    | (go_at_call 57; (with_reducible refine (HWI2.out _ hz1 _ hps).mono ?_); rintro e wA ⟨pA, tA, v', c', rfl, hA, hev, hli, hmA, hcnt, hoA⟩; have oA := oz.trans hoA)
    | (go_at_call 33; (with_reducible refine (HT2.out _ oA _ _ hA hev hli).mono ?_); rintro e wB ⟨pB, tB, rfl, hB, hevB, hliB, hbB⟩; have oB := oA.trans (Only.of hbB); have hmB := hmA.below hbB)
    | fail)
  all_goals
    go_wp2_with fail
    go_ret
    obtain ⟨n1, n2, n3, n4, n5⟩ := hcnt
    exact ⟨pB, tB, v', c', rfl, hB, hevB, HL.out _ _ hli hliB, hmB, n1, n2, n3, by omega, (Only.of HB.out).trans (HO2.out.trans oB)⟩
theorem withAt (F : Nat → Prop) : ∀ t : Tr, WithAt F t
  | .nil => with_nil F
  | .node l q0 r => fun w p m ka va q kc vc v c hF ht hm hk hv he hs hsz hv1 hc1 => by
    have hs' : srt (l.list ++ q0 :: r.list) := hs
    have hsz' : l.size + r.size < 1400 := by simp only [Tr.size] at hsz; omega
    have hh : l.high + 1 ≤ (Tr.node l q0 r).high ∧ r.high + 1 ≤ (Tr.node l q0 r).high := by simp only [Tr.high]; omega
    by_cases hz : cmp q.1 q0.1 = 0
    · refine (with_here w p m ka va q kc vc v c hF ht hm hk hv hsz' (by omega) (by omega) hz).mono ?_
      rintro e w' ⟨p', rfl, h1, h2, h3⟩
      exact ⟨p', _, v + 1, c + 1, rfl, h1, he, put_here hs' (cmp_zero _ _ hz), h2, ⟨by omega, by omega, by omega, by omega, fun _ => by omega⟩, h3⟩
    · by_cases hn : cmp q.1 q0.1 < 0
      · refine (with_side (cmp q.1 q0.1) l w p m ka va q kc vc v c (withAt F l) hF ht hm hk hv he hs' hsz' (by omega) (by omega) rfl hz (if_pos hn)).mono ?_
        rintro e w' ⟨p', t', v', c', rfl, h1, h2, h3, h4, h5, h6, h7, h8, h9⟩
        rw [either, if_pos hn] at h3
        exact ⟨p', t', v', c', rfl, h1, h2, h3.trans (put_left hs' hn), h4, ⟨by omega, by omega, by omega, h8, fun _ => by omega⟩, h9⟩
      · refine (with_side (cmp q.1 q0.1) r w p m ka va q kc vc v c (withAt F r) hF ht hm hk hv he hs' hsz' (by omega) (by omega) rfl hz (if_neg hn)).mono ?_
        rintro e w' ⟨p', t', v', c', rfl, h1, h2, h3, h4, h5, h6, h7, h8, h9⟩
        rw [either, if_neg hn] at h3
        exact ⟨p', t', v', c', rfl, h1, h2, h3.trans (put_right hs' (cmp_neg hn hz)), h4, ⟨by omega, by omega, by omega, h8, fun _ => by omega⟩, h9⟩
end Go.Proofs.Ytkcfanckkomdbaa
