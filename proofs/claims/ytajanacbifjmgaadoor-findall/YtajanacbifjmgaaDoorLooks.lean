/-
  Out of an elder text.
-/
import Derived.Test.YtajanacbifjmgaaDoorMem
import Derived.Test.YtajanacbifjmgaaDoorMade
import Derived.Test.YtajanacbifjmgaaDoorPairs
import Derived.Test.YtajanacbifjmgaaDoorPlain
namespace Go.Proofs.YtajanacbifjmgaaDoor
open Go.RowKit
set_option maxHeartbeats 400000
set_option maxRecDepth 100000
theorem more_any (z : Nat) (w : World) (hz : z ≤ 1000000) : Calls Tryd.prog 42 #[.int .i64 (z : Int)] w fun e w' => e = .returned (.int .i64 ((z + 1 : Nat) : Int)) ∧ w = w' := by
  go_enter Tryd.func42, Tryd.ntmps42
  go_wp2
  go_ret
  exact ⟨ret_int (by omega), rfl⟩
theorem visit_any {w : World} {m : Option Addr} {v c : Nat} (h : Met w m v c) (hv : v ≤ 1000000) :
    Calls Tryd.prog 25 #[.pointer m] w fun e w' => e = .returned (.tuple #[]) ∧ Met w' m (v + 1) c ∧ Only m w w' := by
  rcases h with rfl | ⟨g, rfl, h⟩
  · go_enter Tryd.func25, Tryd.ntmps25
    go_wp2_with fail
    go_end0
    exact ⟨rfl, .inl rfl, Only.refl _ _⟩
  · have c0 : w.cell? ⟨g, 0, none⟩ = some (.int .i64 (v : Int)) := by rw [cell_of_row w g 0 _ 54 (0, 0) h]; rfl
    have f0 : w.frozen? ⟨g, 0, none⟩ = false := by simp [World.frozen?, h]
    obtain ⟨x, hx⟩ : ∃ x, x = v + 1 := ⟨_, rfl⟩
    have k := more_any v w hv
    rw [← hx] at k ⊢
    have K := Lib.hid k; clear k
    have HM := Lib.hid h; clear h
    clear hx
    go_enter Tryd.func25, Tryd.ntmps25
    go_wp2_with fail
    refine K.out.mono ?_
    rintro e w' ⟨rfl, rfl⟩
    go_wp2_with fail
    go_end0
    refine ⟨rfl, .inr ⟨g, rfl, ?_⟩, Only.set _ _ _ _⟩
    rw [heap_setCell_same w g 0 _ 54 _ HM.out]
    rfl
theorem mcompare_any {w : World} {m : Option Addr} {v c : Nat} (h : Met w m v c) (hc : c ≤ 1000000) {A B : Option Addr} {k l : List UInt8} (x y : Nat) (ha : Bts w A k) (hb : Bts w B l) :
    Calls Tryd.prog 47 #[.pointer m, .slice A k.length x, .slice B l.length y] w fun e w' => e = .returned (.int .i64 (cmp k l)) ∧ Met w' m v (c + 1) ∧ Only m w w' := by
  rcases h with rfl | ⟨g, rfl, h⟩
  · have H := Lib.hid (compare_any ha hb x y)
    clear ha hb
    go_enter Tryd.func47, Tryd.ntmps47
    go_wp2_with fail
    refine H.out.mono ?_
    rintro e w' ⟨rfl, rfl⟩
    go_wp2_with fail
    go_ret
    exact ⟨rfl, .inl rfl, Only.refl _ _⟩
  · have c1 : w.cell? ⟨g, 1, none⟩ = some (.int .i64 (c : Int)) := by rw [cell_of_row w g 1 _ 54 (0, 0) h]; rfl
    have f1 : w.frozen? ⟨g, 1, none⟩ = false := by simp [World.frozen?, h]
    obtain ⟨z, hz⟩ : ∃ z, z = c + 1 := ⟨_, rfl⟩
    have q := more_any c w hc
    rw [← hz] at q ⊢
    have K := Lib.hid q; clear q
    have HO := Lib.hid (Only.set w g 1 (.int .i64 (z : Int)))
    have hm : Met w (some ⟨g, 0, none⟩) v c := .inr ⟨g, rfl, h⟩
    have H := Lib.hid (compare_any (ha.only hm HO.out) (hb.only hm HO.out) x y); clear ha hb hm
    have HM := Lib.hid h; clear h
    clear hz
    go_enter Tryd.func47, Tryd.ntmps47
    go_wp2_with fail
    refine K.out.mono ?_
    rintro e w' ⟨rfl, rfl⟩
    go_wp2_with fail
    refine H.out.mono ?_
    rintro e w' ⟨rfl, rfl⟩
    go_wp2_with fail
    go_ret
    refine ⟨rfl, .inr ⟨g, rfl, ?_⟩, HO.out⟩
    rw [heap_setCell_same w g 1 _ 54 _ HM.out]
    rfl
end Go.Proofs.YtajanacbifjmgaaDoor
/-
  Contracts of against, side, turned: a key held against a node's own; a tree with another one at a side.
-/
namespace Go.Proofs.YtajanacbifjmgaaDoor
open Go.RowKit
set_option maxHeartbeats 4000000
set_option maxRecDepth 100000
theorem against_any {F : Nat → Prop} {w : World} {l r : Tr} {q : Pr} {p m A : Option Addr} {v c : Nat} {k : List UInt8} (kc' : Nat) (ht : Tre F w (.node l q r) p) (hm : Met w m v c) (hk : Bts w A k) (hv : v ≤ 1000000) (hc : c ≤ 1000000) :
    Calls Tryd.prog 43 #[.pointer p, .slice A k.length kc', .pointer m] w fun e w' => e = .returned (.int .i64 (cmp k q.1)) ∧ Met w' m (v + 1) (c + 1) ∧ Only m w w' := by
  obtain ⟨b, ka, kc, va, vc, pl, pr, rfl, nd, hl, hr⟩ := ht
  have hvis := visit_any hm hv
  have hcm := fun w1 (h1 : Met w1 m (v + 1) c) (ho : Only m w w1) => mcompare_any h1 hc kc' kc (hk.only hm ho) (nd.only hm ho).2.2.1.bts
  obtain ⟨x, hx⟩ : ∃ x, x = k.length := ⟨_, rfl⟩
  obtain ⟨y, hy⟩ : ∃ y, y = q.1.length := ⟨_, rfl⟩
  obtain ⟨z, hz⟩ : ∃ z, z = cmp k q.1 := ⟨_, rfl⟩
  simp only [← hx, ← hy, ← hz] at hcm ⊢
  have HV := Lib.hid hvis; clear hvis
  have HC := Lib.hid hcm; clear hcm
  have HND := Lib.hid nd; clear nd
  have HM := Lib.hid hm; clear hm
  have HY := Lib.hid hy; clear hy
  clear hx hz hl hr hk
  go_enter Tryd.func43, Tryd.ntmps43
  go_wp2_with fail
  refine HV.out.mono ?_
  rintro e w1 ⟨rfl, h1, h2⟩
  have hcm := HC.out w1 h1 h2
  obtain ⟨c0, _⟩ := (HND.out.only HM.out h2).cells
  rw [← HY.out] at c0
  have HC2 := Lib.hid hcm; clear hcm
  have H2 := Lib.hid h2; clear h2
  clear h1 HC HV
  go_wp2_with fail
  refine HC2.out.mono ?_
  rintro e w2 ⟨rfl, h1, h3⟩
  have H1 := Lib.hid h1; clear h1
  have H3 := Lib.hid h3; clear h3
  go_wp2_with fail
  go_ret
  exact ⟨rfl, H1.out, H2.out.trans H3.out⟩
theorem side_any {F : Nat → Prop} {w : World} {l r : Tr} {q : Pr} {p : Option Addr} (z : Int) (ht : Tre F w (.node l q r) p) :
    Calls Tryd.prog 45 #[.pointer p, .int .i64 z] w fun e w' => (∃ p', e = .returned (.pointer p') ∧ Tre F w (if z < 0 then l else r) p') ∧ w = w' := by
  obtain ⟨b, ka, kc, va, vc, pl, pr, rfl, nd, hl, hr⟩ := ht
  obtain ⟨_, _, c2, c3, _⟩ := nd.cells
  have HL := Lib.hid hl; clear hl
  have HR := Lib.hid hr; clear hr
  clear nd
  by_cases hz : z < 0
  · rw [if_pos hz]
    go_enter Tryd.func45, Tryd.ntmps45
    go_wp2
    go_ret
    exact ⟨⟨pl, rfl, HL.out⟩, rfl⟩
  · rw [if_neg hz]
    go_enter Tryd.func45, Tryd.ntmps45
    go_wp2
    go_ret
    exact ⟨⟨pr, rfl, HR.out⟩, rfl⟩
end Go.Proofs.YtajanacbifjmgaaDoor
/-
  Contract of Get: a look for a key in a tree, and what it counts.
-/
namespace Go.Proofs.YtajanacbifjmgaaDoor
open Go.RowKit
set_option maxHeartbeats 4000000
set_option maxRecDepth 100000
/-- what a look, a put, a delete of a tree counts -/
def Count (t : Tr) (v c v' c' : Nat) : Prop := v ≤ v' ∧ v' ≤ v + t.high ∧ c ≤ c' ∧ c' + v ≤ c + v' ∧ (t ≠ .nil → v < v')
/-- how many pairs the tree at a pointer has, by its own count -/
def szAt (x : Value) (w : World) : Nat := match x with
  | .pointer (some a) => (match w.cell? ⟨a.block, 4, none⟩ with
    | some (.int _ n) => n.toNat + 1
    | _ => 0)
  | _ => 0
theorem szAt_tre {F : Nat → Prop} {w : World} {t : Tr} {p : Option Addr} (h : Tre F w t p) : szAt (.pointer p) w = t.size := by
  cases t with
  | nil => obtain rfl : p = none := h; rfl
  | node l q r =>
    obtain ⟨b, _, _, _, _, _, _, rfl, h, _⟩ := h
    simp only [szAt, h.cells.2.2.2.2, Tr.size]
    omega
/-- where a look for a key has come to -/
structure GetAt (F : Nat → Prop) (m : Option Addr) (k : List UInt8) (t : Tr) (w : World) (v c : Nat) (s : Tr) (ps : Option Addr) (wr : World) (v' c' : Nat) : Prop where
  tre : Tre F wr s ps
  met : Met wr m v' c'
  only : Only m w wr
  hasEq : has s.list k = has t.list k
  valEq : val s.list k = val t.list k
  sorted : srt s.list
  sub : ∀ x ∈ s.list, x ∈ t.list
  high : v' + s.high ≤ v + t.high
  vis : v ≤ v'
  cmps : c ≤ c'
  less : c' + v ≤ c + v'
  new : v = v' → s = t
theorem GetAt.next {F : Nat → Prop} {m : Option Addr} {k : List UInt8} {t : Tr} {w wr w2 : World} {v c v' c' : Nat} {l r : Tr} {q : Pr} {ps p2 : Option Addr} (h : GetAt F m k t w v c (.node l q r) ps wr v' c') (hm : Met w2 m (v' + 1) (c' + 1)) (ho : Only m wr w2) (hz : cmp k q.1 ≠ 0) (h2 : Tre F w2 (if cmp k q.1 < 0 then l else r) p2) :
    GetAt F m k t w v c (if cmp k q.1 < 0 then l else r) p2 w2 (v' + 1) (c' + 1) := by
  have hs : srt (l.list ++ q :: r.list) := h.sorted
  obtain ⟨s1, s2, _⟩ := srt_parts hs
  have hsub : ∀ x ∈ l.list ++ q :: r.list, x ∈ t.list := h.sub
  have hh := h.high
  have hv := h.vis
  have hc := h.cmps
  have hl := h.less
  simp only [Tr.high] at hh
  by_cases hn : cmp k q.1 < 0
  · obtain ⟨_, o2, o3⟩ := out_left hs hn
    rw [if_pos hn] at h2 ⊢
    exact ⟨h2, hm, h.only.trans ho, o2.symm.trans h.hasEq, o3.symm.trans h.valEq, s1, fun x hx => hsub x (by simp [hx]), by omega, by omega, by omega, by omega, fun e => by omega⟩
  · obtain ⟨_, o2, o3⟩ := out_right hs (cmp_neg hn hz)
    rw [if_neg hn] at h2 ⊢
    exact ⟨h2, hm, h.only.trans ho, o2.symm.trans h.hasEq, o3.symm.trans h.valEq, s2, fun x hx => hsub x (by simp [hx]), by omega, by omega, by omega, by omega, fun e => by omega⟩
theorem get_any {F : Nat → Prop} {w : World} {t : Tr} {p m A : Option Addr} {k : List UInt8} {v c : Nat} (kc : Nat) (ht : Tre F w t p) (hm : Met w m v c) (hk : Bts w A k) (hn : ∀ x ∈ t.list, x.2.length ≤ 100000) (hsr : srt t.list) (hv1 : v + t.high ≤ 1000000) (hc1 : c ≤ v) :
    Calls Tryd.prog 26 #[.pointer p, .slice A k.length kc, .pointer m] w fun e w' => ∃ A' cc v' c', e = .returned (.tuple #[.slice A' (val t.list k).length cc, .bool (has t.list k)]) ∧ Bts w' A' (val t.list k) ∧ Met w' m v' c' ∧ Count t v c v' c' ∧ Only m w w' := by
  have h0 : GetAt F m k t w v c t p w v c := ⟨ht, hm, Only.refl _ _, rfl, rfl, hsr, fun _ h => h, Nat.le_refl _, Nat.le_refl _, Nat.le_refl _, by omega, fun _ => rfl⟩
  have H0 := Lib.hid h0; clear h0
  have HK := Lib.hid hk; clear hk
  have HM := Lib.hid hm; clear hm
  have HN := Lib.hid hn; clear hn
  have HV := Lib.hid hv1; clear hv1
  have HC := Lib.hid hc1; clear hc1
  obtain ⟨x, hx⟩ : ∃ x, x = k.length := ⟨_, rfl⟩
  obtain ⟨vl, hvl⟩ : ∃ vl, vl = val t.list k := ⟨_, rfl⟩
  obtain ⟨hv, hhv⟩ : ∃ hv, hv = has t.list k := ⟨_, rfl⟩
  rw [← hx, ← hvl, ← hhv]
  have HX := Lib.hid hx; clear hx
  have HVL := Lib.hid hvl; clear hvl
  have HHV := Lib.hid hhv; clear hhv
  clear ht hsr
  go_enter Tryd.func26, Tryd.ntmps26
  go_wp2_with fail
  go_loopw [0] (fun y wr => ∃ (ps : Option Addr), y = .pointer ps ∧ Hid (∃ s v' c', GetAt F m k t w v c s ps wr v' c')) (fun y wr => szAt y wr)
  case atStart => exact ⟨p, rfl, t, v, c, H0.out⟩
  case round =>
    obtain ⟨ps, rfl, s, v', c', hg⟩ := hrel
    have hv2 : v' ≤ 1000000 ∧ c' ≤ 1000000 := by have := hg.high; have := hg.vis; have := hg.less; have := HV.out; have := HC.out; omega
    cases s with
    | nil =>
      obtain rfl : ps = none := hg.tre
      have HG := Lib.hid hg; clear hg
      clear hv2
      go_wp2_with fail
      go_ret2
      have e1 := HG.out.hasEq
      have e2 := HG.out.valEq
      have e3 := HG.out.vis
      have e4 := HG.out.high
      refine ⟨none, 0, v', c', ?_, .inl ?_, HG.out.met, ⟨e3, by omega, HG.out.cmps, HG.out.less, fun hne => ?_⟩, HG.out.only⟩
      · rw [HVL.out, HHV.out, ← e1, ← e2]; rfl
      · rw [HVL.out, ← e2]; rfl
      · rcases Nat.lt_or_eq_of_le e3 with h | h
        · exact h
        · exact absurd (HG.out.new h).symm hne
    | node l q r =>
      have hag := against_any kc hg.tre hg.met (HK.out.only HM.out hg.only) hv2.1 hv2.2
      obtain ⟨b, ka, kc0, va, vc, pl, pr, rfl, nd, hl, hr⟩ := hg.tre
      have hsz := szAt_tre hg.tre
      have HSZ := Lib.hid hsz; clear hsz
      by_cases hz : cmp k q.1 = 0
      · rw [hz, ← HX.out] at hag
        have hval : vl = q.2 ∧ hv = true := by
          obtain ⟨_, o2, o3⟩ := out_here (l := l.list) (r := r.list) hg.sorted (cmp_zero _ _ hz)
          exact ⟨by rw [HVL.out, ← hg.valEq]; exact o3, by rw [HHV.out, ← hg.hasEq]; exact o2⟩
        obtain ⟨hvq, rfl⟩ := hval
        have hlen : q.2.length ≤ 100000 := HN.out q (hg.sub q (by simp [Tr.list]))
        have hcp := fun w2 (ho : Only m wr w2) => copy_any (nd.only hg.met ho).2.2.2.bts vc hlen
        have hc1 := fun w2 (ho : Only m wr w2) => (nd.only hg.met ho).cells.2.1
        rw [← hvq] at hcp hc1
        obtain ⟨y, hy⟩ : ∃ y, y = vl.length := ⟨_, rfl⟩
        rw [← hy] at hcp hc1
        have HY := Lib.hid hy; clear hy
        have HA := Lib.hid hag; clear hag
        have HCP := Lib.hid hcp; clear hcp
        have HC1 := Lib.hid hc1; clear hc1
        have HG := Lib.hid hg; clear hg
        clear nd hl hr hvq hz hlen hv2 HSZ
        go_wp2_with fail
        refine HA.out.mono ?_
        rintro e w2 ⟨rfl, hm2, ho2⟩
        have HCP2 := Lib.hid (HCP.out w2 ho2)
        have c1 := HC1.out w2 ho2
        have HM2 := Lib.hid hm2; clear hm2
        have HO2 := Lib.hid ho2; clear ho2
        go_wp2_with fail
        refine HCP2.out.mono ?_
        rintro e w3 ⟨rfl, hrow, hb3⟩
        have HR := Lib.hid hrow; clear hrow
        have HB3 := Lib.hid hb3; clear hb3
        clear c1
        go_wp2_with fail
        go_ret2
        have e3 := HG.out.vis
        have e4 := HG.out.high
        have e5 := HG.out.cmps
        have e6 := HG.out.less
        simp only [Tr.high] at e4
        exact ⟨_, y, v' + 1, c' + 1, by rw [← HY.out]; rfl, bts_row HR.out, HM2.out.below HB3.out, ⟨by omega, by omega, by omega, by omega, fun _ => by omega⟩, (HG.out.only.trans HO2.out).trans (Only.of HB3.out)⟩
      · have hsd := fun w2 (ho : Only m wr w2) => side_any (cmp k q.1) (hg.tre.only hg.met ho)
        have hnx := fun w2 (hm2 : Met w2 m (v' + 1) (c' + 1)) (ho : Only m wr w2) p2 h2 => hg.next (p2 := p2) hm2 ho hz h2
        obtain ⟨z, hz1⟩ : ∃ z, z = cmp k q.1 := ⟨_, rfl⟩
        obtain ⟨sd, hsd1⟩ : ∃ sd, sd = if z < 0 then l else r := ⟨_, rfl⟩
        have hlt : sd.size < (Tr.node l q r).size := by rw [hsd1]; simp only [Tr.size]; split <;> omega
        simp only [← hz1, ← HX.out, ← hsd1] at hag hsd hnx hz
        have d0 : (z == 0) = false := by simpa using hz
        have HA := Lib.hid hag; clear hag
        have HS := Lib.hid hsd; clear hsd
        have HNX := Lib.hid hnx; clear hnx
        have HG := Lib.hid hg; clear hg
        have HLT := Lib.hid hlt; clear hlt
        clear nd hl hr hz1 hsd1 hv2
        go_wp2_with fail
        refine HA.out.mono ?_
        rintro e w2 ⟨rfl, hm2, ho2⟩
        have HS2 := Lib.hid (HS.out w2 ho2)
        have HNX2 := Lib.hid (HNX.out w2 hm2 ho2)
        clear hm2 ho2 HA HS HNX
        go_wp2_with fail
        refine HS2.out.mono ?_
        rintro e w3 ⟨⟨p2, rfl, h2⟩, rfl⟩
        have HN2 := Lib.hid (HNX2.out p2 h2)
        have HT2 := Lib.hid h2; clear h2
        clear HNX2 HS2
        go_wp2_with fail
        go_roundw
        case rel => exact ⟨p2, rfl, _, _, _, HN2.out⟩
        case measure => rw [szAt_tre HT2.out, HSZ.out]; exact HLT.out
end Go.Proofs.YtajanacbifjmgaaDoor
