/-
  Contracts of against, side, turned: a key held against a node's own; a tree with another one at a side.
-/
import Derived.Test.YtmbdimonfdncpaaGreatDoorPairs
import Derived.Test.YtmbdimonfdncpaaGreatDoorPlain
import Derived.Test.YtmbdimonfdncpaaGreatDoorWeight
import Derived.Test.YtmbdimonfdncpaaGreatDoorJoined
namespace Go.Proofs.YtmbdimonfdncpaaGreatDoor
open Go.RowKit
set_option maxHeartbeats 4000000
set_option maxRecDepth 100000
theorem against_any {F : Nat → Prop} {w : World} {l r : Tr} {q : Pr} {p m A : Option Addr} {v c : Nat} {k : List UInt8} (kc' : Nat) (ht : Tre F w (.node l q r) p) (hm : Met w m v c) (hk : Bts w A k) (hv : v ≤ 1000000) (hc : c ≤ 1000000) :
    Calls Tryz.prog 86 #[.pointer p, .slice A k.length kc', .pointer m] w fun e w' => e = .returned (.int .i64 (cmp k q.1)) ∧ Met w' m (v + 1) (c + 1) ∧ Only m w w' := by
  obtain ⟨b, ka, kc, va, vc, pl, pr, rfl, nd, hl, hr⟩ := ht
  have hvis := visit_any hm hv
  have hcm := fun w1 (h1 : Met w1 m (v + 1) c) (ho : Only m w w1) => mcompare_any h1 hc kc' kc (hk.only hm ho) (nd.only hm ho).2.2.1.bts
  obtain ⟨x, hx⟩ : ∃ x, x = k.length := ⟨_, rfl⟩
  obtain ⟨y, hy⟩ : ∃ y, y = q.1.length := ⟨_, rfl⟩
  obtain ⟨z, hz⟩ : ∃ z, z = cmp k q.1 := ⟨_, rfl⟩
  simp only [← hx, ← hy, ← hz] at hcm ⊢
  have HV := Lib.hid hvis; clear hvis
  have HC := Lib.hid hcm; clear hcm
  have HND := Lib.hid nd; clear nd
  have HM := Lib.hid hm; clear hm
  have HY := Lib.hid hy; clear hy
  clear hx hz hl hr hk
  go_enter Tryz.func86, Tryz.ntmps86
  go_wp2_with fail
  refine HV.out.mono ?_
  rintro e w1 ⟨rfl, h1, h2⟩
  have hcm := HC.out w1 h1 h2
  obtain ⟨c0, _⟩ := (HND.out.only HM.out h2).cells
  rw [← HY.out] at c0
  have HC2 := Lib.hid hcm; clear hcm
  have H2 := Lib.hid h2; clear h2
  clear h1 HC HV
  go_wp2_with fail
  refine HC2.out.mono ?_
  rintro e w2 ⟨rfl, h1, h3⟩
  have H1 := Lib.hid h1; clear h1
  have H3 := Lib.hid h3; clear h3
  go_wp2_with fail
  go_ret
  exact ⟨rfl, H1.out, H2.out.trans H3.out⟩
theorem side_any {F : Nat → Prop} {w : World} {l r : Tr} {q : Pr} {p : Option Addr} (z : Int) (ht : Tre F w (.node l q r) p) :
    Calls Tryz.prog 88 #[.pointer p, .int .i64 z] w fun e w' => (∃ p', e = .returned (.pointer p') ∧ Tre F w (if z < 0 then l else r) p') ∧ w = w' := by
  obtain ⟨b, ka, kc, va, vc, pl, pr, rfl, nd, hl, hr⟩ := ht
  obtain ⟨_, _, c2, c3, _⟩ := nd.cells
  have HL := Lib.hid hl; clear hl
  have HR := Lib.hid hr; clear hr
  clear nd
  by_cases hz : z < 0
  · rw [if_pos hz]
    go_enter Tryz.func88, Tryz.ntmps88
    go_wp2
    go_ret
    exact ⟨⟨pl, rfl, HL.out⟩, rfl⟩
  · rw [if_neg hz]
    go_enter Tryz.func88, Tryz.ntmps88
    go_wp2
    go_ret
    exact ⟨⟨pr, rfl, HR.out⟩, rfl⟩
theorem turned_any {F : Nat → Prop} {w : World} {l r o : Tr} {q : Pr} {p po : Option Addr} (z : Int) (hF : Fut F w) (ht : Tre F w (.node l q r) p) (ho : Tre F w o po) (el : l.even) (er : r.even) (eo : o.even) (hs : l.size + r.size + o.size < 3000) :
    Calls Tryz.prog 87 #[.pointer p, .int .i64 z, .pointer po] w fun e w' => ∃ p' t, e = .returned (.pointer p') ∧ Tre F w' t p' ∧ t.even ∧ (t.list = if z < 0 then o.list ++ q :: r.list else l.list ++ q :: o.list) ∧ Below w.heap.size w w' := by
  obtain ⟨b, ka, kc, va, vc, pl, pr, rfl, nd, hl, hr⟩ := ht
  have hnod := fun W (hW : Below w.heap.size w W) => (nd.below hW).cells
  have hz0 : Below w.heap.size w w.drew := (Below.refl _ _).drew
  obtain ⟨k1, hk1⟩ : ∃ k, k = q.1.length := ⟨_, rfl⟩
  obtain ⟨k2, hk2⟩ : ∃ k, k = q.2.length := ⟨_, rfl⟩
  simp only [← hk1, ← hk2] at hnod
  by_cases hz : z < 0
  · simp only [if_pos hz]
    have hj := fun W (hW : Below w.heap.size w W) => join_any kc vc (hF.later hW.size) (ho.below hW) (hr.below hW) (nd.below hW).2.2.1 (nd.below hW).2.2.2 (by omega) eo er
    have hkeep : ∀ W, Below w.heap.size w W → W.cell? ⟨b, 0, none⟩ = some (.slice ka k1 kc) ∧ W.cell? ⟨b, 1, none⟩ = some (.slice va k2 vc) ∧ W.cell? ⟨b, 3, none⟩ = some (.pointer pr) := fun W hW => ⟨(hnod W hW).1, (hnod W hW).2.1, (hnod W hW).2.2.2.1⟩
    simp only [← hk1, ← hk2] at hj
    have HJ := Lib.hid hj; clear hj
    have KEEP := Lib.hid hkeep; clear hkeep
    clear hnod nd hl hr ho el er eo hs hF hk1 hk2
    go_enter Tryz.func87, Tryz.ntmps87
    go_wp2_with fail
    go_region_held3 (fun W => W.cell? ⟨b, 0, none⟩ = some (.slice ka k1 kc) ∧ W.cell? ⟨b, 1, none⟩ = some (.slice va k2 vc) ∧ W.cell? ⟨b, 3, none⟩ = some (.pointer pr)) (first | exact KEEP.out _ hz0 | exact KEEP.out _ hzA | fail) (first
      | (go_at_call 94; (with_reducible refine (HJ.out _ hz0).mono ?_); rintro e wA ⟨pA, tA, rfl, hA, hev, hli, hbA⟩; have hzA := below_then hz0 hbA)
      | fail)
    all_goals
      go_wp2_with fail
      go_ret
      exact ⟨pA, tA, rfl, hA, hev, hli, hzA⟩
  · simp only [if_neg hz]
    have hj := fun W (hW : Below w.heap.size w W) => join_any kc vc (hF.later hW.size) (hl.below hW) (ho.below hW) (nd.below hW).2.2.1 (nd.below hW).2.2.2 (by omega) el eo
    have hkeep : ∀ W, Below w.heap.size w W → W.cell? ⟨b, 0, none⟩ = some (.slice ka k1 kc) ∧ W.cell? ⟨b, 1, none⟩ = some (.slice va k2 vc) ∧ W.cell? ⟨b, 2, none⟩ = some (.pointer pl) := fun W hW => ⟨(hnod W hW).1, (hnod W hW).2.1, (hnod W hW).2.2.1⟩
    simp only [← hk1, ← hk2] at hj
    have HJ := Lib.hid hj; clear hj
    have KEEP := Lib.hid hkeep; clear hkeep
    clear hnod nd hl hr ho el er eo hs hF hk1 hk2
    go_enter Tryz.func87, Tryz.ntmps87
    go_wp2_with fail
    go_region_held3 (fun W => W.cell? ⟨b, 0, none⟩ = some (.slice ka k1 kc) ∧ W.cell? ⟨b, 1, none⟩ = some (.slice va k2 vc) ∧ W.cell? ⟨b, 2, none⟩ = some (.pointer pl)) (first | exact KEEP.out _ hz0 | exact KEEP.out _ hzA | fail) (first
      | (go_at_call 94; (with_reducible refine (HJ.out _ hz0).mono ?_); rintro e wA ⟨pA, tA, rfl, hA, hev, hli, hbA⟩; have hzA := below_then hz0 hbA)
      | fail)
    all_goals
      go_wp2_with fail
      go_ret
      exact ⟨pA, tA, rfl, hA, hev, hli, hzA⟩
end Go.Proofs.YtmbdimonfdncpaaGreatDoor
/-
  Contract of Get: a look for a key in a tree, and what it counts.
-/
namespace Go.Proofs.YtmbdimonfdncpaaGreatDoor
open Go.RowKit
set_option maxHeartbeats 4000000
set_option maxRecDepth 100000
/-- what a look, a put, a delete of a tree counts -/
def Count (t : Tr) (v c v' c' : Nat) : Prop := v ≤ v' ∧ v' ≤ v + t.high ∧ c ≤ c' ∧ c' + v ≤ c + v' ∧ (t ≠ .nil → v < v')
/-- how many pairs the tree at a pointer has, by its own count -/
def szAt (x : Value) (w : World) : Nat := match x with
  | .pointer (some a) => (match w.cell? ⟨a.block, 4, none⟩ with
    | some (.int _ n) => n.toNat + 1
    | _ => 0)
  | _ => 0
theorem szAt_tre {F : Nat → Prop} {w : World} {t : Tr} {p : Option Addr} (h : Tre F w t p) : szAt (.pointer p) w = t.size := by
  cases t with
  | nil => obtain rfl : p = none := h; rfl
  | node l q r =>
    obtain ⟨b, _, _, _, _, _, _, rfl, h, _⟩ := h
    simp only [szAt, h.cells.2.2.2.2, Tr.size]
    omega
/-- where a look for a key has come to -/
structure GetAt (F : Nat → Prop) (m : Option Addr) (k : List UInt8) (t : Tr) (w : World) (v c : Nat) (s : Tr) (ps : Option Addr) (wr : World) (v' c' : Nat) : Prop where
  tre : Tre F wr s ps
  met : Met wr m v' c'
  only : Only m w wr
  hasEq : has s.list k = has t.list k
  valEq : val s.list k = val t.list k
  sorted : srt s.list
  sub : ∀ x ∈ s.list, x ∈ t.list
  high : v' + s.high ≤ v + t.high
  vis : v ≤ v'
  cmps : c ≤ c'
  less : c' + v ≤ c + v'
  new : v = v' → s = t
theorem GetAt.next {F : Nat → Prop} {m : Option Addr} {k : List UInt8} {t : Tr} {w wr w2 : World} {v c v' c' : Nat} {l r : Tr} {q : Pr} {ps p2 : Option Addr} (h : GetAt F m k t w v c (.node l q r) ps wr v' c') (hm : Met w2 m (v' + 1) (c' + 1)) (ho : Only m wr w2) (hz : cmp k q.1 ≠ 0) (h2 : Tre F w2 (if cmp k q.1 < 0 then l else r) p2) :
    GetAt F m k t w v c (if cmp k q.1 < 0 then l else r) p2 w2 (v' + 1) (c' + 1) := by
  have hs : srt (l.list ++ q :: r.list) := h.sorted
  obtain ⟨s1, s2, _⟩ := srt_parts hs
  have hsub : ∀ x ∈ l.list ++ q :: r.list, x ∈ t.list := h.sub
  have hh := h.high
  have hv := h.vis
  have hc := h.cmps
  have hl := h.less
  simp only [Tr.high] at hh
  by_cases hn : cmp k q.1 < 0
  · obtain ⟨_, o2, o3⟩ := out_left hs hn
    rw [if_pos hn] at h2 ⊢
    exact ⟨h2, hm, h.only.trans ho, o2.symm.trans h.hasEq, o3.symm.trans h.valEq, s1, fun x hx => hsub x (by simp [hx]), by omega, by omega, by omega, by omega, fun e => by omega⟩
  · obtain ⟨_, o2, o3⟩ := out_right hs (cmp_neg hn hz)
    rw [if_neg hn] at h2 ⊢
    exact ⟨h2, hm, h.only.trans ho, o2.symm.trans h.hasEq, o3.symm.trans h.valEq, s2, fun x hx => hsub x (by simp [hx]), by omega, by omega, by omega, by omega, fun e => by omega⟩
end Go.Proofs.YtmbdimonfdncpaaGreatDoor
/-
  Contracts of with and Put: a tree with a pair, what is visited and compared on the way.
-/
namespace Go.Proofs.YtmbdimonfdncpaaGreatDoor
open Go.RowKit
set_option maxHeartbeats 4000000
set_option maxRecDepth 100000
/-- what with promises of a tree -/
def WithAt (F : Nat → Prop) (t : Tr) : Prop := ∀ (w : World) (p m ka va : Option Addr) (q : Pr) (kc vc v c : Nat), Fut F w → Tre F w t p → Met w m v c → Byt F w ka q.1 → Byt F w va q.2 → t.even → srt t.list → t.size < 1400 → v + t.high ≤ 1000000 → c + t.high ≤ 1000000 →
  Calls Tryz.prog 68 #[.pointer p, .agg #[.slice ka q.1.length kc, .slice va q.2.length vc], .pointer m] w fun e w' => ∃ p' t' v' c', e = .returned (.pointer p') ∧ Tre F w' t' p' ∧ t'.even ∧ t'.list = put t.list q ∧ Met w' m v' c' ∧ Count t v c v' c' ∧ Only m w w'
/-- by a number's sign -/
def either (z : Int) (a b : List Pr) : List Pr := if z < 0 then a else b
theorem with_nil (F : Nat → Prop) : WithAt F .nil := fun w p m ka va q kc vc v c hF ht hm hk hv _ _ _ _ _ => by
  obtain rfl : p = none := ht
  obtain ⟨w1, hw1, hb1, hsz, hbox⟩ := box_new w ka va q.1.length kc q.2.length vc
  obtain ⟨b0, b1⟩ := hbox w1 (Below.refl _ _)
  have nd := node_any (l := .nil) (r := .nil) kc vc (hF.later (by omega)) (show Tre F w1 .nil none from rfl) (show Tre F w1 .nil none from rfl) (hk.below hb1) (hv.below hb1) (by simp only [Tr.size]; omega)
  obtain ⟨x1, hx1⟩ : ∃ k, k = q.1.length := ⟨_, rfl⟩
  obtain ⟨x2, hx2⟩ : ∃ k, k = q.2.length := ⟨_, rfl⟩
  simp only [← hx1, ← hx2] at nd hw1 b0 b1 ⊢
  have ND := Lib.hid nd; clear nd
  have HW := Lib.hid hw1; clear hw1
  have HB := Lib.hid hb1; clear hb1
  have HM := Lib.hid hm; clear hm
  clear hx1 hx2 hbox hk hv hsz hF
  go_enter Tryz.func68, Tryz.ntmps68
  go_wp2_with fail
  rw [← HW.out]
  refine ND.out.mono ?_
  rintro e w2 ⟨p', rfl, h1, h2⟩
  have H1 := Lib.hid h1; clear h1
  have H2 := Lib.hid h2; clear h2
  clear b0 b1
  go_wp2_with fail
  go_ret
  have hb := below_then HB.out H2.out
  refine ⟨p', _, v, c, rfl, H1.out, ⟨by decide, trivial, trivial⟩, rfl, HM.out.below hb, ⟨Nat.le_refl _, by omega, Nat.le_refl _, by omega, fun h => absurd rfl h⟩, Only.of hb⟩
theorem with_here {F : Nat → Prop} {l r : Tr} {q0 : Pr} (w : World) (p m ka va : Option Addr) (q : Pr) (kc vc v c : Nat) (hF : Fut F w) (ht : Tre F w (.node l q0 r) p) (hm : Met w m v c) (hk : Byt F w ka q.1) (hv : Byt F w va q.2) (hs : l.size + r.size < 1400) (hv1 : v ≤ 1000000) (hc1 : c ≤ 1000000) (hz : cmp q.1 q0.1 = 0) :
    Calls Tryz.prog 68 #[.pointer p, .agg #[.slice ka q.1.length kc, .slice va q.2.length vc], .pointer m] w fun e w' => ∃ p', e = .returned (.pointer p') ∧ Tre F w' (.node l q r) p' ∧ Met w' m (v + 1) (c + 1) ∧ Only m w w' := by
  obtain ⟨w1, hw1, hb1, hsz, hbox⟩ := box_new w ka va q.1.length kc q.2.length vc
  obtain ⟨b0, b1⟩ := hbox w1 (Below.refl _ _)
  have hag := against_any kc (ht.below hb1) (hm.below hb1) (hk.below hb1).bts hv1 hc1
  rw [hz] at hag
  have hst := fun w2 (ho : Only m w1 w2) => new_stays (a := .slice ka q.1.length kc) (b := .slice va q.2.length vc) (t := 130) (by intro z e; cases e) hm (hw1 ▸ ho)
  obtain ⟨b, rka, rkc, rva, rvc, pl, pr, rfl, nd, hl, hr⟩ := ht
  have hnn := fun w2 (ho : Only m w1 w2) W (hW : Below w2.heap.size w2 W) => node_any kc vc ((hF.later (by have := ho.size; omega)).later hW.size) (((hl.below hb1).only (hm.below hb1) ho).below hW) (((hr.below hb1).only (hm.below hb1) ho).below hW) (((hk.below hb1).only (hm.below hb1) ho).below hW) (((hv.below hb1).only (hm.below hb1) ho).below hW) (by omega)
  have hnod := fun w2 (ho : Only m w1 w2) W (hW : Below w2.heap.size w2 W) => (((nd.below hb1).only (hm.below hb1) ho).below hW).cells
  obtain ⟨x1, hx1⟩ : ∃ k, k = q.1.length := ⟨_, rfl⟩
  obtain ⟨x2, hx2⟩ : ∃ k, k = q.2.length := ⟨_, rfl⟩
  simp only [← hx1, ← hx2] at hnn hw1 b0 b1 hst hag ⊢
  have hkeep : ∀ w2, Only m w1 w2 → ∀ W, Below w2.heap.size w2 W → W.cell? ⟨w.heap.size, 0, none⟩ = some (.slice ka x1 kc) ∧ W.cell? ⟨w.heap.size, 1, none⟩ = some (.slice va x2 vc) ∧ W.cell? ⟨b, 2, none⟩ = some (.pointer pl) ∧ W.cell? ⟨b, 3, none⟩ = some (.pointer pr) := by
    intro w2 ho W hW
    have r0 := (hW.block w.heap.size (by have := ho.size; omega)).trans (hst w2 ho)
    exact ⟨(row2 r0).1, (row2 r0).2.1, (hnod w2 ho W hW).2.2.1, (hnod w2 ho W hW).2.2.2.1⟩
  have HA := Lib.hid hag; clear hag
  have HN := Lib.hid hnn; clear hnn
  have KEEP := Lib.hid hkeep; clear hkeep
  have HW := Lib.hid hw1; clear hw1
  have HB := Lib.hid hb1; clear hb1
  clear hx1 hx2 hbox hk hv hsz hF hnod hst nd hl hr hs hm hz
  go_enter Tryz.func68, Tryz.ntmps68
  go_wp2_with fail
  rw [← HW.out]
  refine HA.out.mono ?_
  rintro e w2 ⟨rfl, hm2, ho2⟩
  have hk2 := KEEP.out w2 ho2
  have hn2 := HN.out w2 ho2
  have KP := Lib.hid hk2; clear hk2
  have HN2 := Lib.hid hn2; clear hn2
  have HM2 := Lib.hid hm2; clear hm2
  have HO2 := Lib.hid ho2; clear ho2
  have hz0 : Below w2.heap.size w2 w2.drew := (Below.refl _ _).drew
  clear KEEP HN HA b0 b1
  go_wp2_with fail
  go_region_held3 (fun W => W.cell? ⟨w.heap.size, 0, none⟩ = some (.slice ka x1 kc) ∧ W.cell? ⟨w.heap.size, 1, none⟩ = some (.slice va x2 vc) ∧ W.cell? ⟨b, 2, none⟩ = some (.pointer pl) ∧ W.cell? ⟨b, 3, none⟩ = some (.pointer pr)) (first | exact KP.out _ hz0 | exact KP.out _ hzA | fail) (first
    | (go_at_call 85; (with_reducible refine (HN2.out _ hz0).mono ?_); rintro e wA ⟨pA, rfl, hA, hbA⟩; have hzA := below_then hz0 hbA)
    | fail)
  all_goals
    go_wp2_with fail
    go_ret
    exact ⟨pA, rfl, hA, HM2.out.below hzA, (Only.of HB.out).trans (HO2.out.trans (Only.of hzA))⟩
theorem with_side {F : Nat → Prop} {l r : Tr} {q0 : Pr} (z : Int) (s : Tr) (w : World) (p m ka va : Option Addr) (q : Pr) (kc vc v c : Nat) (ih : WithAt F s) (hF : Fut F w) (ht : Tre F w (.node l q0 r) p) (hm : Met w m v c) (hk : Byt F w ka q.1) (hv : Byt F w va q.2) (he : (Tr.node l q0 r).even) (hsr : srt (l.list ++ q0 :: r.list)) (hs : l.size + r.size < 1400) (hv1 : v + 1 + s.high ≤ 1000000) (hc1 : c + 1 + s.high ≤ 1000000) (hz : z = cmp q.1 q0.1) (hz0 : z ≠ 0) (hside : (if z < 0 then l else r) = s) :
    Calls Tryz.prog 68 #[.pointer p, .agg #[.slice ka q.1.length kc, .slice va q.2.length vc], .pointer m] w fun e w' => ∃ p' t' v' c', e = .returned (.pointer p') ∧ Tre F w' t' p' ∧ t'.even ∧ t'.list = either z (put l.list q ++ q0 :: r.list) (l.list ++ q0 :: put r.list q) ∧ Met w' m v' c' ∧ v + 1 ≤ v' ∧ v' ≤ v + 1 + s.high ∧ c + 1 ≤ c' ∧ c' + v ≤ c + v' ∧ Only m w w' := by
  obtain ⟨w1, hw1, hb1, hsz, hbox⟩ := box_new w ka va q.1.length kc q.2.length vc
  obtain ⟨b0, b1⟩ := hbox w1 (Below.refl _ _)
  have hag := against_any kc (ht.below hb1) (hm.below hb1) (hk.below hb1).bts (by omega) (by omega)
  rw [← hz] at hag
  have hst := fun w2 (ho : Only m w1 w2) => new_stays (a := .slice ka q.1.length kc) (b := .slice va q.2.length vc) (t := 130) (by intro z e; cases e) hm (hw1 ▸ ho)
  have hps := tre_some ht (by intro e; cases e)
  obtain ⟨bp, rfl, _⟩ := hps
  obtain ⟨p1, p2, p3, p4, p5⟩ := srt_parts hsr
  have es : s.even ∧ srt s.list ∧ s.size < 1400 := by
    rw [← hside]
    split
    · exact ⟨he.2.1, p1, by omega⟩
    · exact ⟨he.2.2, p2, by omega⟩
  have hsd := fun w2 (ho : Only m w1 w2) W (hW : Below w2.heap.size w2 W) => side_any z (((ht.below hb1).only (hm.below hb1) ho).below hW)
  rw [hside] at hsd
  have hwi := fun w2 (ho : Only m w1 w2) (hm2 : Met w2 m (v + 1) (c + 1)) W (hW : Below w2.heap.size w2 W) ps (hps : Tre F W s ps) => ih W ps m ka va q kc vc (v + 1) (c + 1) ((hF.later (by have := ho.size; omega)).later hW.size) hps (hm2.below hW) (((hk.below hb1).only (hm.below hb1) ho).below hW) (((hv.below hb1).only (hm.below hb1) ho).below hW) es.1 es.2.1 es.2.2 hv1 hc1
  have htu := fun w2 (ho : Only m w1 w2) (hm2 : Met w2 m (v + 1) (c + 1)) W (hW : Only m w2 W) o po (hpo : Tre F W o po) (eo : o.even) (hol : o.list = put s.list q) => turned_any z ((hF.later (by have := ho.size; omega)).later hW.size) (((ht.below hb1).only (hm.below hb1) ho).only hm2 hW) hpo he.2.1 he.2.2 eo (by have h := put_length s.list q; rw [← hol, Tr.length, Tr.length] at h; omega)
  have hlist : ∀ (o t : Tr), o.list = put s.list q → (t.list = if z < 0 then o.list ++ q0 :: r.list else l.list ++ q0 :: o.list) → t.list = either z (put l.list q ++ q0 :: r.list) (l.list ++ q0 :: put r.list q) := by
    intro o t h1 h2
    rw [h2, h1, ← hside]
    unfold either
    split <;> rfl
  obtain ⟨x1, hx1⟩ : ∃ k, k = q.1.length := ⟨_, rfl⟩
  obtain ⟨x2, hx2⟩ : ∃ k, k = q.2.length := ⟨_, rfl⟩
  simp only [← hx1, ← hx2] at hwi hw1 b0 b1 hst hag ⊢
  have hkeep : ∀ w2, Only m w1 w2 → Met w2 m (v + 1) (c + 1) → ∀ W, Only m w2 W → W.cell? ⟨w.heap.size, 0, none⟩ = some (.slice ka x1 kc) ∧ W.cell? ⟨w.heap.size, 1, none⟩ = some (.slice va x2 vc) := by
    intro w2 ho hm2 W hW
    have r0 := hst w2 ho
    have r1 := (hW.cell hm2 (row2 r0).1 (by intro z e; cases e) (Array.getElem?_eq_some_iff.1 r0).1).trans r0
    exact ⟨(row2 r1).1, (row2 r1).2.1⟩
  have d0 : (z == 0) = false := by simpa using hz0
  have HA := Lib.hid hag; clear hag
  have HS := Lib.hid hsd; clear hsd
  have HWI := Lib.hid hwi; clear hwi
  have HT := Lib.hid htu; clear htu
  have HL := Lib.hid hlist; clear hlist
  have KEEP := Lib.hid hkeep; clear hkeep
  have HW := Lib.hid hw1; clear hw1
  have HB := Lib.hid hb1; clear hb1
  have HZ := Lib.hid hz; clear hz
  clear hx1 hx2 hbox hk hv hsz hF hst ht he hs hm hv1 hc1 hside hsr p1 p2 p3 p4 p5 es ih
  go_enter Tryz.func68, Tryz.ntmps68
  go_wp2_with fail
  rw [← HW.out]
  refine HA.out.mono ?_
  rintro e w2 ⟨rfl, hm2, ho2⟩
  have KP := Lib.hid (KEEP.out w2 ho2 hm2)
  have HS2 := Lib.hid (HS.out w2 ho2)
  have HWI2 := Lib.hid (HWI.out w2 ho2 hm2)
  have HT2 := Lib.hid (HT.out w2 ho2 hm2)
  have HO2 := Lib.hid ho2; clear ho2
  clear hm2
  have hz1 : Below w2.heap.size w2 w2.drew := (Below.refl _ _).drew
  have oz : Only m w2 w2.drew := Only.of hz1
  clear KEEP HS HWI HT HA b0 b1
  go_wp2_with fail
  go_region_held3 (fun W => W.cell? ⟨w.heap.size, 0, none⟩ = some (.slice ka x1 kc) ∧ W.cell? ⟨w.heap.size, 1, none⟩ = some (.slice va x2 vc)) (first | exact KP.out _ oz | exact KP.out _ oA | exact KP.out _ oB | fail) (first
    | (go_at_call 88; (with_reducible refine (HS2.out _ hz1).mono ?_); rintro e wS ⟨⟨ps, rfl, hps⟩, rfl⟩)
    | (go_at_call 68; (with_reducible refine (HWI2.out _ hz1 _ hps).mono ?_); rintro e wA ⟨pA, tA, v', c', rfl, hA, hev, hli, hmA, hcnt, hoA⟩; have oA := oz.trans hoA)
    | (go_at_call 87; (with_reducible refine (HT2.out _ oA _ _ hA hev hli).mono ?_); rintro e wB ⟨pB, tB, rfl, hB, hevB, hliB, hbB⟩; have oB := oA.trans (Only.of hbB); have hmB := hmA.below hbB)
    | fail)
  all_goals
    go_wp2_with fail
    go_ret
    obtain ⟨n1, n2, n3, n4, n5⟩ := hcnt
    exact ⟨pB, tB, v', c', rfl, hB, hevB, HL.out _ _ hli hliB, hmB, n1, n2, n3, by omega, (Only.of HB.out).trans (HO2.out.trans oB)⟩
theorem withAt (F : Nat → Prop) : ∀ t : Tr, WithAt F t
  | .nil => with_nil F
  | .node l q0 r => fun w p m ka va q kc vc v c hF ht hm hk hv he hs hsz hv1 hc1 => by
    have hs' : srt (l.list ++ q0 :: r.list) := hs
    have hsz' : l.size + r.size < 1400 := by simp only [Tr.size] at hsz; omega
    have hh : l.high + 1 ≤ (Tr.node l q0 r).high ∧ r.high + 1 ≤ (Tr.node l q0 r).high := by simp only [Tr.high]; omega
    by_cases hz : cmp q.1 q0.1 = 0
    · refine (with_here w p m ka va q kc vc v c hF ht hm hk hv hsz' (by omega) (by omega) hz).mono ?_
      rintro e w' ⟨p', rfl, h1, h2, h3⟩
      exact ⟨p', _, v + 1, c + 1, rfl, h1, he, put_here hs' (cmp_zero _ _ hz), h2, ⟨by omega, by omega, by omega, by omega, fun _ => by omega⟩, h3⟩
    · by_cases hn : cmp q.1 q0.1 < 0
      · refine (with_side (cmp q.1 q0.1) l w p m ka va q kc vc v c (withAt F l) hF ht hm hk hv he hs' hsz' (by omega) (by omega) rfl hz (if_pos hn)).mono ?_
        rintro e w' ⟨p', t', v', c', rfl, h1, h2, h3, h4, h5, h6, h7, h8, h9⟩
        rw [either, if_pos hn] at h3
        exact ⟨p', t', v', c', rfl, h1, h2, h3.trans (put_left hs' hn), h4, ⟨by omega, by omega, by omega, h8, fun _ => by omega⟩, h9⟩
      · refine (with_side (cmp q.1 q0.1) r w p m ka va q kc vc v c (withAt F r) hF ht hm hk hv he hs' hsz' (by omega) (by omega) rfl hz (if_neg hn)).mono ?_
        rintro e w' ⟨p', t', v', c', rfl, h1, h2, h3, h4, h5, h6, h7, h8, h9⟩
        rw [either, if_neg hn] at h3
        exact ⟨p', t', v', c', rfl, h1, h2, h3.trans (put_right hs' (cmp_neg hn hz)), h4, ⟨by omega, by omega, by omega, h8, fun _ => by omega⟩, h9⟩
end Go.Proofs.YtmbdimonfdncpaaGreatDoor
/-
  Contracts of Put, Delete and Get.
-/
namespace Go.Proofs.YtmbdimonfdncpaaGreatDoor
open Go.RowKit
set_option maxHeartbeats 4000000
set_option maxRecDepth 100000
theorem put_any {F : Nat → Prop} {w : World} {t : Tr} {p m ka va : Option Addr} {q : Pr} {v c : Nat} (kc vc : Nat) (hF : Fut F w) (ht : Tre F w t p) (hm : Met w m v c) (hk : Bts w ka q.1) (hv : Bts w va q.2) (hn : q.1.length ≤ 100000 ∧ q.2.length ≤ 100000) (he : t.even) (hsr : srt t.list) (hs : t.size < 1400) (hv1 : v + t.high ≤ 1000000) (hc1 : c + t.high ≤ 1000000) :
    Calls Tryz.prog 47 #[.pointer p, .agg #[.slice ka q.1.length kc, .slice va q.2.length vc], .pointer m] w fun e w' => ∃ p' t' v' c', e = .returned (.pointer p') ∧ Tre F w' t' p' ∧ t'.even ∧ t'.list = put t.list q ∧ Met w' m v' c' ∧ Count t v c v' c' ∧ Only m w w' := by
  obtain ⟨w1, hw1, hb1, hsz, hbox⟩ := box_pair w ka va q.1.length kc q.2.length vc
  obtain ⟨b0, b1⟩ := hbox w1 (Below.refl _ _)
  have hkp := kept_any kc vc (hF.later (by omega)) (hk.below hb1) (hv.below hb1) hn
  have hj := fun w2 ja jc ua uc (h2 : Below w1.heap.size w1 w2) (h3 : Byt F w2 ja q.1) (h4 : Byt F w2 ua q.2) => withAt F t w2 p m ja ua q jc uc v c (hF.later (by have := h2.size; omega)) ((ht.below hb1).below h2) ((hm.below hb1).below h2) h3 h4 he hsr hs hv1 hc1
  obtain ⟨x1, hx1⟩ : ∃ k, k = q.1.length := ⟨_, rfl⟩
  obtain ⟨x2, hx2⟩ : ∃ k, k = q.2.length := ⟨_, rfl⟩
  simp only [← hx1, ← hx2] at hkp hj hw1 b0 b1 ⊢
  have HK := Lib.hid hkp; clear hkp
  have HJ := Lib.hid hj; clear hj
  have HW := Lib.hid hw1; clear hw1
  have HB := Lib.hid hb1; clear hb1
  clear hx1 hx2 hbox hF ht hm hk hv hn he hsr hs hsz hv1 hc1
  go_enter Tryz.func47, Tryz.ntmps47
  go_wp2_with fail
  rw [← HW.out]
  refine HK.out.mono ?_
  rintro e w2 ⟨ja, jc, ua, uc, rfl, h1, h2, h3⟩
  have HJ2 := Lib.hid (HJ.out w2 ja jc ua uc h3 h1 h2)
  have H3 := Lib.hid h3; clear h3
  clear h1 h2 HJ HK b0 b1
  go_wp2_with fail
  refine HJ2.out.mono ?_
  rintro e w3 ⟨p', t', v', c', rfl, h1, h2, h3, h4, h5, h6⟩
  have H1 := Lib.hid h1; clear h1
  have H4 := Lib.hid h4; clear h4
  have H3' := Lib.hid h3; clear h3
  have H5 := Lib.hid h5; clear h5
  have H6 := Lib.hid h6; clear h6
  go_wp2_with fail
  go_ret
  exact ⟨p', t', v', c', rfl, H1.out, h2, H3'.out, H4.out, H5.out, (Only.of (below_then HB.out H3.out)).trans H6.out⟩
end Go.Proofs.YtmbdimonfdncpaaGreatDoor
