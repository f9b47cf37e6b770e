/-
  Contracts of joinIf, Union, Minus, Both, Odd and Subset: two trees made one.
-/
import Derived.Test.YtnniojlofhbioaaSpans
import Derived.Deep.RegionHeld3
namespace Go.Proofs.Ytnniojlofhbioaa
open Go.RowKit
set_option maxHeartbeats 4000000
set_option maxRecDepth 100000
theorem joinIf_any {F : Nat → Prop} {w : World} {L M : List Pr} {q : Pr} {pl pr ka va : Option Addr} (c : Bool) (kc vc : Nat) (hF : Fut F w) (hl : Is F w L pl) (hr : Is F w M pr) (hk : Bts w ka q.1) (hv : Bts w va q.2) (hq : q.1.length ≤ 100000 ∧ q.2.length ≤ 100000) (hn : L.length + M.length < 1500) :
    Calls Try.prog 34 #[.bool c, .pointer pl, .agg #[.slice ka q.1.length kc, .slice va q.2.length vc], .pointer pr] w (Tell F (mid c L q M) w) := by
  obtain ⟨w1, hw1, hb1, _, hk1⟩ := box_pair w ka va q.1.length kc q.2.length vc
  obtain ⟨c0, c1⟩ := hk1 w1 (Below.refl _ _)
  have hj := join_list kc vc (hF.later hb1.size) (hl.below hb1) (hr.below hb1) (hk.below hb1) (hv.below hb1) hq hn
  have hp := pair_list (hF.later hb1.size) (hl.below hb1) (hr.below hb1) (by rw [List.length_append]; exact hn)
  obtain ⟨x1, hx1⟩ : ∃ k, k = q.1.length := ⟨_, rfl⟩
  obtain ⟨x2, hx2⟩ : ∃ k, k = q.2.length := ⟨_, rfl⟩
  rw [← hx1, ← hx2] at hj hw1 ⊢
  rw [← hx1] at c0
  rw [← hx2] at c1
  have HJ := Lib.hid hj; clear hj
  have HP := Lib.hid hp; clear hp
  have HW := Lib.hid hw1; clear hw1
  have HB := Lib.hid hb1; clear hb1
  clear hF hl hr hk hv hq hn hk1 hx1 hx2
  cases c with
  | true =>
    rw [mid_true]
    go_enter Try.func34, Try.ntmps34
    go_wp2_with (rw [← HW.out])
    refine HJ.out.mono ?_
    rintro e w2 ⟨p, rfl, h2, b2⟩
    have H2 := Lib.hid (And.intro h2 (below_then HB.out b2)); clear h2 b2
    clear HJ HP c0 c1
    go_wp2_with fail
    go_ret
    exact ⟨p, rfl, H2.out⟩
  | false =>
    rw [mid_false]
    go_enter Try.func34, Try.ntmps34
    go_wp2_with (rw [← HW.out])
    refine HP.out.mono ?_
    rintro e w2 ⟨p, rfl, h2, b2⟩
    have H2 := Lib.hid (And.intro h2 (below_then HB.out b2)); clear h2 b2
    clear HJ HP c0 c1
    go_wp2_with fail
    go_ret
    exact ⟨p, rfl, H2.out⟩
theorem union_node {F : Nat → Prop} {w : World} {l r : Tr} {q : Pr} {a : List Pr} {p pa : Option Addr} (hF : Fut F w) (ht : Tre F w (.node l q r) p) (hs : srt (l.list ++ q :: r.list)) (hq : q.1.length ≤ 100000 ∧ q.2.length ≤ 100000) (ha : Is F w a pa) (hf : Fine a) (hne : a ≠ []) (hn : a.length + (l.list.length + r.list.length) < 1400)
    (il : ∀ W b p1 p2, Below w.heap.size w W → Is F W b p1 → Fine b → b.length ≤ a.length → Tre F W l p2 → Calls Try.prog 11 #[.pointer p1, .pointer p2] W (Tell F (uni b l.list) W))
    (ir : ∀ W b p1 p2, Below w.heap.size w W → Is F W b p1 → Fine b → b.length ≤ a.length → Tre F W r p2 → Calls Try.prog 11 #[.pointer p1, .pointer p2] W (Tell F (uni b r.list) W)) :
    Calls Try.prog 11 #[.pointer pa, .pointer p] w (Tell F (uni a (l.list ++ q :: r.list)) w) := by
  have hlen : (uni (lts a q.1) l.list).length + (uni (gts a q.1) r.list).length < 1500 := by
    have h1 := uni_length l.list (lts a q.1)
    have h2 := uni_length r.list (gts a q.1)
    have h3 := cut_length (k := q.1) hf.sorted
    omega
  have hroot := root_any ht hq
  obtain ⟨pl, pr, hl, hr, cl, cr⟩ := sides_node ht
  obtain ⟨bp, rfl, _⟩ := tre_some ht (by intro e; cases e)
  obtain ⟨ba, rfl⟩ := ha.some hne
  have hsp := fun W (B : Option Addr) (hW : Below w.heap.size w W) (hB : Bts W B q.1) => split_any q.1.length (hF.later hW.size) (ha.below hW) hf hB
  have il' := fun W p1 (hW : Below w.heap.size w W) (h : Is F W (lts a q.1) p1) => il W (lts a q.1) p1 pl hW h (hf.lts _) (lts_length _ _) (hl.below hW)
  have ir' := fun W p1 (hW : Below w.heap.size w W) (h : Is F W (gts a q.1) p1) => ir W (gts a q.1) p1 pr hW h (hf.gts _) (gts_length _ _) (hr.below hW)
  have hj := fun W (p1 p2 ja ua : Option Addr) (hW : Below w.heap.size w W) (h1 : Is F W (uni (lts a q.1) l.list) p1) (h2 : Is F W (uni (gts a q.1) r.list) p2) (h3 : Bts W ja q.1) (h4 : Bts W ua q.2) => join_list q.1.length q.2.length (hF.later hW.size) h1 h2 h3 h4 hq hlen
  simp only [uni_cut hf.sorted hs] at hj
  obtain ⟨x1, hx1⟩ : ∃ k, k = q.1.length := ⟨_, rfl⟩
  obtain ⟨x2, hx2⟩ : ∃ k, k = q.2.length := ⟨_, rfl⟩
  obtain ⟨R, hR⟩ : ∃ R, R = uni a (l.list ++ q :: r.list) := ⟨_, rfl⟩
  obtain ⟨A1, hA1⟩ : ∃ R, R = (uni (lts a q.1) l.list) := ⟨_, rfl⟩
  obtain ⟨A2, hA2⟩ : ∃ R, R = (uni (gts a q.1) r.list) := ⟨_, rfl⟩
  obtain ⟨d, hd⟩ : ∃ d, d = has a q.1 := ⟨_, rfl⟩
  simp only [← hx1, ← hx2, ← hR, ← hA1, ← hA2] at hj
  simp only [← hx1, ← hx2] at hroot
  simp only [← hx1] at hsp
  simp only [← hA1] at il'
  simp only [← hA2] at ir'
  rw [← hR]
  have HROOT := Lib.hid hroot; clear hroot
  have HSP := Lib.hid hsp; clear hsp
  have CL := Lib.hid cl; clear cl
  have CR := Lib.hid cr; clear cr
  have IL := Lib.hid il'; clear il'
  have IR := Lib.hid ir'; clear ir'
  have HJ := Lib.hid hj; clear hj
  have HD := Lib.hid hd; clear hd
  clear ht hs hq ha hf hne hn il ir hlen hl hr hx1 hx2 hR hA1 hA2 hF
  go_enter Try.func11, Try.ntmps11
  go_wp2_with fail
  refine HROOT.out.mono ?_
  rintro e w2 ⟨g1, g2, rfl, r1, r2, hb2⟩
  obtain ⟨w3, hw3, b3, _, k3⟩ := box_pair w2 (some ⟨g1, 0, none⟩) (some ⟨g2, 0, none⟩) x1 x1 x2 x2
  obtain ⟨c0, c1⟩ := k3 w3 (Below.refl _ _)
  have hb23 := below_then hb2 b3
  have HC := Lib.hid (HSP.out w3 (some ⟨g1, 0, none⟩) hb23 ((bts_row r1.2).below b3))
  have V1 := Lib.hid ((bts_row r1.2).below b3)
  have V2 := Lib.hid ((bts_row r2.2).below b3)
  have HB3 := Lib.hid hb23; clear hb23
  have K3 := Lib.hid k3; clear k3
  have HW3 := Lib.hid hw3; clear hw3
  clear r1 r2 hb2 b3 HROOT HSP
  go_wp2_with (rw [← HW3.out])
  refine HC.out.mono ?_
  rintro e w4 ⟨p1, p2, va, vc, x, is, rfl, hcd, hb4⟩
  have i1 := hcd.left
  have i2 := hcd.right
  obtain rfl : is = d := by rw [HD.out]; exact hcd.2.1
  have GO := Lib.hid (fun W (h : Below w4.heap.size w4 W) => below_then (below_then HB3.out hb4) h)
  have KEEP := Lib.hid (fun W (h : Below w4.heap.size w4 W) => K3.out W (below_then hb4 h))
  have hz0 : Below w4.heap.size w4 w4.drew := (Below.refl _ _).drew
  have U1 := Lib.hid (IL.out _ p1 (GO.out _ hz0) (i1.below hz0))
  have U2 := Lib.hid (fun W (h : Below w4.heap.size w4 W) => IR.out W p2 (GO.out W h) (i2.below h))
  have JJ := Lib.hid (fun W u1 u2 (h : Below w4.heap.size w4 W) (h1 : Is F W A1 u1) (h2 : Is F W A2 u2) => HJ.out W u1 u2 (some ⟨g1, 0, none⟩) (some ⟨g2, 0, none⟩) (GO.out W h) h1 h2 ((V1.out.below hb4).below h) ((V2.out.below hb4).below h))
  clear HB3 K3 HJ V1 V2 HC c0 c1 HW3 hb4 hcd i1 i2 IL IR HD
  go_wp2_with fail
  go_region_held3 (fun W => W.cell? ⟨w2.heap.size, 0, none⟩ = some (.slice (some ⟨g1, 0, none⟩) x1 x1) ∧ W.cell? ⟨w2.heap.size, 1, none⟩ = some (.slice (some ⟨g2, 0, none⟩) x2 x2)) (first | exact KEEP.out _ hz0 | exact KEEP.out _ hzA | exact KEEP.out _ hzB | exact KEEP.out _ hzC | fail) (first
    | (go_at_call 29; (with_reducible refine (CL.out _ (GO.out _ hz0)).mono ?_); rintro e wS ⟨rfl, rfl⟩)
    | (go_at_call 11; (with_reducible refine U1.out.mono ?_); rintro e wA ⟨pA, rfl, hA, hbA⟩; have hzA := below_then hz0 hbA)
    | (go_at_call 30; (with_reducible refine (CR.out _ (GO.out _ hzA)).mono ?_); rintro e wT ⟨rfl, rfl⟩)
    | (go_at_call 11; (with_reducible refine (U2.out _ hzA).mono ?_); rintro e wB ⟨pB, rfl, hB, hbB⟩; have hzB := below_then hzA hbB)
    | (go_at_call 28; (with_reducible refine (JJ.out _ pA pB hzB (Is.below hA hbB) hB).mono ?_); rintro e wC ⟨pC, rfl, hC, hbC⟩; have hzC := below_then hzB hbC)
    | fail)
  all_goals
    go_wp2_with fail
    go_ret
    exact ⟨pC, rfl, hC, GO.out _ hzC⟩
theorem union_any {F : Nat → Prop} : ∀ (t : Tr) (w : World) (a : List Pr) (pa p : Option Addr), Fut F w → Is F w a pa → Fine a → Tre F w t p → t.even → Fine t.list → a.length + t.list.length < 1400 → Calls Try.prog 11 #[.pointer pa, .pointer p] w (Tell F (uni a t.list) w)
  | .nil, w, a, pa, p, _, ha, hf, h, _, _, _ => by
    obtain rfl : p = none := h
    rw [show Tr.nil.list = [] from rfl]
    by_cases hne : a = []
    · subst hne
      obtain rfl := ha.none
      go_enter Try.func11, Try.ntmps11
      go_wp2
      go_ret
      exact ⟨none, rfl, is_nil _ _, Below.refl _ _⟩
    · have ha' := ha
      obtain ⟨ba, rfl⟩ := ha.some hne
      clear ha hf hne
      go_enter Try.func11, Try.ntmps11
      go_wp2
      go_ret
      exact ⟨_, rfl, ha', Below.refl _ _⟩
  | .node l q r, w, a, pa, p, hF, ha, hf, h, he, hg, hn => by
    have hs' : srt (l.list ++ q :: r.list) := hg.sorted
    have hn' : a.length + (l.list ++ q :: r.list).length < 1400 := hn
    have hfit : ∀ x ∈ l.list ++ q :: r.list, x.1.length ≤ 100000 ∧ x.2.length ≤ 100000 := hg.fits
    obtain ⟨s1, s2, _⟩ := srt_parts hs'
    rw [List.length_append, List.length_cons] at hn'
    by_cases hne : a = []
    · subst hne
      obtain rfl := ha.none
      have hi : Is F w (Tr.node l q r).list p := ⟨_, h, he, rfl⟩
      obtain ⟨bp, rfl, _⟩ := tre_some h (by intro e; cases e)
      rw [nil_uni hg.sorted]
      clear h he hg hn ha hf hs' hn' hfit s1 s2
      go_enter Try.func11, Try.ntmps11
      go_wp2
      go_ret
      exact ⟨_, rfl, hi, Below.refl _ _⟩
    · exact union_node hF h hs' (hfit q (by simp)) ha hf hne (by omega)
        (fun W b p1 p2 hW h1 h2 h3 h4 => union_any l W b p1 p2 (hF.later hW.size) h1 h2 h4 he.2.1 ⟨s1, by omega, fun x hx => hfit x (by simp [hx])⟩ (by omega))
        (fun W b p1 p2 hW h1 h2 h3 h4 => union_any r W b p1 p2 (hF.later hW.size) h1 h2 h4 he.2.2 ⟨s2, by omega, fun x hx => hfit x (by simp [hx])⟩ (by omega))
theorem union_is {F : Nat → Prop} {w : World} {a b : List Pr} {pa pb : Option Addr} (hF : Fut F w) (ha : Is F w a pa) (hb : Is F w b pb) (fa : Fine a) (fb : Fine b) (hn : a.length + b.length < 1400) : Calls Try.prog 11 #[.pointer pa, .pointer pb] w (Tell F (uni a b) w) := by
  obtain ⟨t, h1, h2, rfl⟩ := hb
  exact union_any t w a pa pb hF ha fa h1 h2 fb hn
theorem both_node {F : Nat → Prop} {w : World} {l r : Tr} {q : Pr} {a : List Pr} {p pa : Option Addr} (hF : Fut F w) (ht : Tre F w (.node l q r) p) (hs : srt (l.list ++ q :: r.list)) (hq : q.1.length ≤ 100000 ∧ q.2.length ≤ 100000) (ha : Is F w a pa) (hf : Fine a) (hne : a ≠ []) (hn : a.length + (l.list.length + r.list.length) < 1400)
    (il : ∀ W b p1 p2, Below w.heap.size w W → Is F W b p1 → Fine b → b.length ≤ a.length → Tre F W l p2 → Calls Try.prog 15 #[.pointer p2, .pointer p1] W (Tell F (bth l.list b) W))
    (ir : ∀ W b p1 p2, Below w.heap.size w W → Is F W b p1 → Fine b → b.length ≤ a.length → Tre F W r p2 → Calls Try.prog 15 #[.pointer p2, .pointer p1] W (Tell F (bth r.list b) W)) :
    Calls Try.prog 15 #[.pointer p, .pointer pa] w (Tell F (bth (l.list ++ q :: r.list) a) w) := by
  have hlen : (bth l.list (lts a q.1)).length + (bth r.list (gts a q.1)).length < 1500 := by
    have h1 := bth_length l.list (lts a q.1)
    have h2 := bth_length r.list (gts a q.1)
    have h3 := cut_length (k := q.1) hf.sorted
    omega
  have hroot := root_any ht hq
  obtain ⟨pl, pr, hl, hr, cl, cr⟩ := sides_node ht
  obtain ⟨bp, rfl, _⟩ := tre_some ht (by intro e; cases e)
  obtain ⟨ba, rfl⟩ := ha.some hne
  have hsp := fun W (B : Option Addr) (hW : Below w.heap.size w W) (hB : Bts W B q.1) => split_any q.1.length (hF.later hW.size) (ha.below hW) hf hB
  have il' := fun W p1 (hW : Below w.heap.size w W) (h : Is F W (lts a q.1) p1) => il W (lts a q.1) p1 pl hW h (hf.lts _) (lts_length _ _) (hl.below hW)
  have ir' := fun W p1 (hW : Below w.heap.size w W) (h : Is F W (gts a q.1) p1) => ir W (gts a q.1) p1 pr hW h (hf.gts _) (gts_length _ _) (hr.below hW)
  have hj := fun W (p1 p2 ja ua : Option Addr) (hW : Below w.heap.size w W) (h1 : Is F W (bth l.list (lts a q.1)) p1) (h2 : Is F W (bth r.list (gts a q.1)) p2) (h3 : Bts W ja q.1) (h4 : Bts W ua q.2) => joinIf_any (has a q.1) q.1.length q.2.length (hF.later hW.size) h1 h2 h3 h4 hq hlen
  simp only [bth_cut hs] at hj
  obtain ⟨x1, hx1⟩ : ∃ k, k = q.1.length := ⟨_, rfl⟩
  obtain ⟨x2, hx2⟩ : ∃ k, k = q.2.length := ⟨_, rfl⟩
  obtain ⟨R, hR⟩ : ∃ R, R = bth (l.list ++ q :: r.list) a := ⟨_, rfl⟩
  obtain ⟨A1, hA1⟩ : ∃ R, R = (bth l.list (lts a q.1)) := ⟨_, rfl⟩
  obtain ⟨A2, hA2⟩ : ∃ R, R = (bth r.list (gts a q.1)) := ⟨_, rfl⟩
  obtain ⟨d, hd⟩ : ∃ d, d = has a q.1 := ⟨_, rfl⟩
  simp only [← hx1, ← hx2, ← hR, ← hA1, ← hA2, ← hd] at hj
  simp only [← hx1, ← hx2] at hroot
  simp only [← hx1] at hsp
  simp only [← hA1] at il'
  simp only [← hA2] at ir'
  rw [← hR]
  have HROOT := Lib.hid hroot; clear hroot
  have HSP := Lib.hid hsp; clear hsp
  have CL := Lib.hid cl; clear cl
  have CR := Lib.hid cr; clear cr
  have IL := Lib.hid il'; clear il'
  have IR := Lib.hid ir'; clear ir'
  have HJ := Lib.hid hj; clear hj
  have HD := Lib.hid hd; clear hd
  clear ht hs hq ha hf hne hn il ir hlen hl hr hx1 hx2 hR hA1 hA2 hF
  go_enter Try.func15, Try.ntmps15
  go_wp2_with fail
  refine HROOT.out.mono ?_
  rintro e w2 ⟨g1, g2, rfl, r1, r2, hb2⟩
  obtain ⟨w3, hw3, b3, _, k3⟩ := box_pair w2 (some ⟨g1, 0, none⟩) (some ⟨g2, 0, none⟩) x1 x1 x2 x2
  obtain ⟨c0, c1⟩ := k3 w3 (Below.refl _ _)
  have hb23 := below_then hb2 b3
  have HC := Lib.hid (HSP.out w3 (some ⟨g1, 0, none⟩) hb23 ((bts_row r1.2).below b3))
  have V1 := Lib.hid ((bts_row r1.2).below b3)
  have V2 := Lib.hid ((bts_row r2.2).below b3)
  have HB3 := Lib.hid hb23; clear hb23
  have K3 := Lib.hid k3; clear k3
  have HW3 := Lib.hid hw3; clear hw3
  clear r1 r2 hb2 b3 HROOT HSP
  go_wp2_with (rw [← HW3.out])
  refine HC.out.mono ?_
  rintro e w4 ⟨p1, p2, va, vc, x, is, rfl, hcd, hb4⟩
  have i1 := hcd.left
  have i2 := hcd.right
  obtain rfl : is = d := by rw [HD.out]; exact hcd.2.1
  have GO := Lib.hid (fun W (h : Below w4.heap.size w4 W) => below_then (below_then HB3.out hb4) h)
  have KEEP := Lib.hid (fun W (h : Below w4.heap.size w4 W) => K3.out W (below_then hb4 h))
  have hz0 : Below w4.heap.size w4 w4.drew := (Below.refl _ _).drew
  have U1 := Lib.hid (IL.out _ p1 (GO.out _ hz0) (i1.below hz0))
  have U2 := Lib.hid (fun W (h : Below w4.heap.size w4 W) => IR.out W p2 (GO.out W h) (i2.below h))
  have JJ := Lib.hid (fun W u1 u2 (h : Below w4.heap.size w4 W) (h1 : Is F W A1 u1) (h2 : Is F W A2 u2) => HJ.out W u1 u2 (some ⟨g1, 0, none⟩) (some ⟨g2, 0, none⟩) (GO.out W h) h1 h2 ((V1.out.below hb4).below h) ((V2.out.below hb4).below h))
  clear HB3 K3 HJ V1 V2 HC c0 c1 HW3 hb4 hcd i1 i2 IL IR HD
  go_wp2_with fail
  go_region_held3 (fun W => W.cell? ⟨w2.heap.size, 0, none⟩ = some (.slice (some ⟨g1, 0, none⟩) x1 x1) ∧ W.cell? ⟨w2.heap.size, 1, none⟩ = some (.slice (some ⟨g2, 0, none⟩) x2 x2)) (first | exact KEEP.out _ hz0 | exact KEEP.out _ hzA | exact KEEP.out _ hzB | exact KEEP.out _ hzC | fail) (first
    | (go_at_call 29; (with_reducible refine (CL.out _ (GO.out _ hz0)).mono ?_); rintro e wS ⟨rfl, rfl⟩)
    | (go_at_call 15; (with_reducible refine U1.out.mono ?_); rintro e wA ⟨pA, rfl, hA, hbA⟩; have hzA := below_then hz0 hbA)
    | (go_at_call 30; (with_reducible refine (CR.out _ (GO.out _ hzA)).mono ?_); rintro e wT ⟨rfl, rfl⟩)
    | (go_at_call 15; (with_reducible refine (U2.out _ hzA).mono ?_); rintro e wB ⟨pB, rfl, hB, hbB⟩; have hzB := below_then hzA hbB)
    | (go_at_call 34; (with_reducible refine (JJ.out _ pA pB hzB (Is.below hA hbB) hB).mono ?_); rintro e wC ⟨pC, rfl, hC, hbC⟩; have hzC := below_then hzB hbC)
    | fail)
  all_goals
    go_wp2_with fail
    go_ret
    exact ⟨pC, rfl, hC, GO.out _ hzC⟩
theorem both_any {F : Nat → Prop} : ∀ (t : Tr) (w : World) (a : List Pr) (pa p : Option Addr), Fut F w → Is F w a pa → Fine a → Tre F w t p → t.even → Fine t.list → a.length + t.list.length < 1400 → Calls Try.prog 15 #[.pointer p, .pointer pa] w (Tell F (bth t.list a) w)
  | .nil, w, a, pa, p, _, ha, hf, h, _, _, _ => by
    obtain rfl : p = none := h
    rw [show Tr.nil.list = [] from rfl]
    clear ha hf
    go_enter Try.func15, Try.ntmps15
    go_wp2
    go_ret
    exact ⟨none, rfl, is_nil _ _, Below.refl _ _⟩
  | .node l q r, w, a, pa, p, hF, ha, hf, h, he, hg, hn => by
    have hs' : srt (l.list ++ q :: r.list) := hg.sorted
    have hn' : a.length + (l.list ++ q :: r.list).length < 1400 := hn
    have hfit : ∀ x ∈ l.list ++ q :: r.list, x.1.length ≤ 100000 ∧ x.2.length ≤ 100000 := hg.fits
    obtain ⟨s1, s2, _⟩ := srt_parts hs'
    rw [List.length_append, List.length_cons] at hn'
    by_cases hne : a = []
    · subst hne
      obtain rfl := ha.none
      have hi : Is F w (Tr.node l q r).list p := ⟨_, h, he, rfl⟩
      obtain ⟨bp, rfl, _⟩ := tre_some h (by intro e; cases e)
      rw [bth_nil]
      clear h he hg hn ha hf hs' hn' hfit s1 s2
      go_enter Try.func15, Try.ntmps15
      go_wp2
      go_ret
      exact ⟨_, rfl, is_nil _ _, Below.refl _ _⟩
    · exact both_node hF h hs' (hfit q (by simp)) ha hf hne (by omega)
        (fun W b p1 p2 hW h1 h2 h3 h4 => both_any l W b p1 p2 (hF.later hW.size) h1 h2 h4 he.2.1 ⟨s1, by omega, fun x hx => hfit x (by simp [hx])⟩ (by omega))
        (fun W b p1 p2 hW h1 h2 h3 h4 => both_any r W b p1 p2 (hF.later hW.size) h1 h2 h4 he.2.2 ⟨s2, by omega, fun x hx => hfit x (by simp [hx])⟩ (by omega))
theorem both_is {F : Nat → Prop} {w : World} {a b : List Pr} {pa pb : Option Addr} (hF : Fut F w) (ha : Is F w a pa) (hb : Is F w b pb) (fa : Fine a) (fb : Fine b) (hn : a.length + b.length < 1400) : Calls Try.prog 15 #[.pointer pa, .pointer pb] w (Tell F (bth a b) w) := by
  obtain ⟨t, h1, h2, rfl⟩ := ha
  exact both_any t w b pb pa hF hb fb h1 h2 fa (by omega)
theorem odd_node {F : Nat → Prop} {w : World} {l r : Tr} {q : Pr} {a : List Pr} {p pa : Option Addr} (hF : Fut F w) (ht : Tre F w (.node l q r) p) (hs : srt (l.list ++ q :: r.list)) (hq : q.1.length ≤ 100000 ∧ q.2.length ≤ 100000) (ha : Is F w a pa) (hf : Fine a) (hne : a ≠ []) (hn : a.length + (l.list.length + r.list.length) < 1400)
    (il : ∀ W b p1 p2, Below w.heap.size w W → Is F W b p1 → Fine b → b.length ≤ a.length → Tre F W l p2 → Calls Try.prog 16 #[.pointer p2, .pointer p1] W (Tell F (odd l.list b) W))
    (ir : ∀ W b p1 p2, Below w.heap.size w W → Is F W b p1 → Fine b → b.length ≤ a.length → Tre F W r p2 → Calls Try.prog 16 #[.pointer p2, .pointer p1] W (Tell F (odd r.list b) W)) :
    Calls Try.prog 16 #[.pointer p, .pointer pa] w (Tell F (odd (l.list ++ q :: r.list) a) w) := by
  have hlen : (odd l.list (lts a q.1)).length + (odd r.list (gts a q.1)).length < 1500 := by
    have h1 := odd_length l.list (lts a q.1)
    have h2 := odd_length r.list (gts a q.1)
    have h3 := cut_length (k := q.1) hf.sorted
    omega
  have hroot := root_any ht hq
  obtain ⟨pl, pr, hl, hr, cl, cr⟩ := sides_node ht
  obtain ⟨bp, rfl, _⟩ := tre_some ht (by intro e; cases e)
  obtain ⟨ba, rfl⟩ := ha.some hne
  have hsp := fun W (B : Option Addr) (hW : Below w.heap.size w W) (hB : Bts W B q.1) => split_any q.1.length (hF.later hW.size) (ha.below hW) hf hB
  have il' := fun W p1 (hW : Below w.heap.size w W) (h : Is F W (lts a q.1) p1) => il W (lts a q.1) p1 pl hW h (hf.lts _) (lts_length _ _) (hl.below hW)
  have ir' := fun W p1 (hW : Below w.heap.size w W) (h : Is F W (gts a q.1) p1) => ir W (gts a q.1) p1 pr hW h (hf.gts _) (gts_length _ _) (hr.below hW)
  have hj := fun W (p1 p2 ja ua : Option Addr) (hW : Below w.heap.size w W) (h1 : Is F W (odd l.list (lts a q.1)) p1) (h2 : Is F W (odd r.list (gts a q.1)) p2) (h3 : Bts W ja q.1) (h4 : Bts W ua q.2) => joinIf_any (!has a q.1) q.1.length q.2.length (hF.later hW.size) h1 h2 h3 h4 hq hlen
  simp only [odd_cut hf.sorted hs] at hj
  obtain ⟨x1, hx1⟩ : ∃ k, k = q.1.length := ⟨_, rfl⟩
  obtain ⟨x2, hx2⟩ : ∃ k, k = q.2.length := ⟨_, rfl⟩
  obtain ⟨R, hR⟩ : ∃ R, R = odd (l.list ++ q :: r.list) a := ⟨_, rfl⟩
  obtain ⟨A1, hA1⟩ : ∃ R, R = (odd l.list (lts a q.1)) := ⟨_, rfl⟩
  obtain ⟨A2, hA2⟩ : ∃ R, R = (odd r.list (gts a q.1)) := ⟨_, rfl⟩
  obtain ⟨d, hd⟩ : ∃ d, d = has a q.1 := ⟨_, rfl⟩
  simp only [← hx1, ← hx2, ← hR, ← hA1, ← hA2, ← hd] at hj
  simp only [← hx1, ← hx2] at hroot
  simp only [← hx1] at hsp
  simp only [← hA1] at il'
  simp only [← hA2] at ir'
  rw [← hR]
  have HROOT := Lib.hid hroot; clear hroot
  have HSP := Lib.hid hsp; clear hsp
  have CL := Lib.hid cl; clear cl
  have CR := Lib.hid cr; clear cr
  have IL := Lib.hid il'; clear il'
  have IR := Lib.hid ir'; clear ir'
  have HJ := Lib.hid hj; clear hj
  have HD := Lib.hid hd; clear hd
  clear ht hs hq ha hf hne hn il ir hlen hl hr hx1 hx2 hR hA1 hA2 hF
  go_enter Try.func16, Try.ntmps16
  go_wp2_with fail
  refine HROOT.out.mono ?_
  rintro e w2 ⟨g1, g2, rfl, r1, r2, hb2⟩
  obtain ⟨w3, hw3, b3, _, k3⟩ := box_pair w2 (some ⟨g1, 0, none⟩) (some ⟨g2, 0, none⟩) x1 x1 x2 x2
  obtain ⟨c0, c1⟩ := k3 w3 (Below.refl _ _)
  have hb23 := below_then hb2 b3
  have HC := Lib.hid (HSP.out w3 (some ⟨g1, 0, none⟩) hb23 ((bts_row r1.2).below b3))
  have V1 := Lib.hid ((bts_row r1.2).below b3)
  have V2 := Lib.hid ((bts_row r2.2).below b3)
  have HB3 := Lib.hid hb23; clear hb23
  have K3 := Lib.hid k3; clear k3
  have HW3 := Lib.hid hw3; clear hw3
  clear r1 r2 hb2 b3 HROOT HSP
  go_wp2_with (rw [← HW3.out])
  refine HC.out.mono ?_
  rintro e w4 ⟨p1, p2, va, vc, x, is, rfl, hcd, hb4⟩
  have i1 := hcd.left
  have i2 := hcd.right
  obtain rfl : is = d := by rw [HD.out]; exact hcd.2.1
  have GO := Lib.hid (fun W (h : Below w4.heap.size w4 W) => below_then (below_then HB3.out hb4) h)
  have KEEP := Lib.hid (fun W (h : Below w4.heap.size w4 W) => K3.out W (below_then hb4 h))
  have hz0 : Below w4.heap.size w4 w4.drew := (Below.refl _ _).drew
  have U1 := Lib.hid (IL.out _ p1 (GO.out _ hz0) (i1.below hz0))
  have U2 := Lib.hid (fun W (h : Below w4.heap.size w4 W) => IR.out W p2 (GO.out W h) (i2.below h))
  have JJ := Lib.hid (fun W u1 u2 (h : Below w4.heap.size w4 W) (h1 : Is F W A1 u1) (h2 : Is F W A2 u2) => HJ.out W u1 u2 (some ⟨g1, 0, none⟩) (some ⟨g2, 0, none⟩) (GO.out W h) h1 h2 ((V1.out.below hb4).below h) ((V2.out.below hb4).below h))
  clear HB3 K3 HJ V1 V2 HC c0 c1 HW3 hb4 hcd i1 i2 IL IR HD
  go_wp2_with fail
  go_region_held3 (fun W => W.cell? ⟨w2.heap.size, 0, none⟩ = some (.slice (some ⟨g1, 0, none⟩) x1 x1) ∧ W.cell? ⟨w2.heap.size, 1, none⟩ = some (.slice (some ⟨g2, 0, none⟩) x2 x2)) (first | exact KEEP.out _ hz0 | exact KEEP.out _ hzA | exact KEEP.out _ hzB | exact KEEP.out _ hzC | fail) (first
    | (go_at_call 29; (with_reducible refine (CL.out _ (GO.out _ hz0)).mono ?_); rintro e wS ⟨rfl, rfl⟩)
    | (go_at_call 16; (with_reducible refine U1.out.mono ?_); rintro e wA ⟨pA, rfl, hA, hbA⟩; have hzA := below_then hz0 hbA)
    | (go_at_call 30; (with_reducible refine (CR.out _ (GO.out _ hzA)).mono ?_); rintro e wT ⟨rfl, rfl⟩)
    | (go_at_call 16; (with_reducible refine (U2.out _ hzA).mono ?_); rintro e wB ⟨pB, rfl, hB, hbB⟩; have hzB := below_then hzA hbB)
    | (go_at_call 34; (with_reducible refine (JJ.out _ pA pB hzB (Is.below hA hbB) hB).mono ?_); rintro e wC ⟨pC, rfl, hC, hbC⟩; have hzC := below_then hzB hbC)
    | fail)
  all_goals
    go_wp2_with fail
    go_ret
    exact ⟨pC, rfl, hC, GO.out _ hzC⟩
theorem odd_any {F : Nat → Prop} : ∀ (t : Tr) (w : World) (a : List Pr) (pa p : Option Addr), Fut F w → Is F w a pa → Fine a → Tre F w t p → t.even → Fine t.list → a.length + t.list.length < 1400 → Calls Try.prog 16 #[.pointer p, .pointer pa] w (Tell F (odd t.list a) w)
  | .nil, w, a, pa, p, _, ha, hf, h, _, _, _ => by
    obtain rfl : p = none := h
    rw [show Tr.nil.list = [] from rfl]
    rw [nil_odd hf.sorted]
    clear hf
    go_enter Try.func16, Try.ntmps16
    go_wp2
    go_ret
    exact ⟨pa, rfl, ha, Below.refl _ _⟩
  | .node l q r, w, a, pa, p, hF, ha, hf, h, he, hg, hn => by
    have hs' : srt (l.list ++ q :: r.list) := hg.sorted
    have hn' : a.length + (l.list ++ q :: r.list).length < 1400 := hn
    have hfit : ∀ x ∈ l.list ++ q :: r.list, x.1.length ≤ 100000 ∧ x.2.length ≤ 100000 := hg.fits
    obtain ⟨s1, s2, _⟩ := srt_parts hs'
    rw [List.length_append, List.length_cons] at hn'
    by_cases hne : a = []
    · subst hne
      obtain rfl := ha.none
      have hi : Is F w (Tr.node l q r).list p := ⟨_, h, he, rfl⟩
      obtain ⟨bp, rfl, _⟩ := tre_some h (by intro e; cases e)
      rw [odd_nil]
      clear h he hg hn ha hf hs' hn' hfit s1 s2
      go_enter Try.func16, Try.ntmps16
      go_wp2
      go_ret
      exact ⟨_, rfl, hi, Below.refl _ _⟩
    · exact odd_node hF h hs' (hfit q (by simp)) ha hf hne (by omega)
        (fun W b p1 p2 hW h1 h2 h3 h4 => odd_any l W b p1 p2 (hF.later hW.size) h1 h2 h4 he.2.1 ⟨s1, by omega, fun x hx => hfit x (by simp [hx])⟩ (by omega))
        (fun W b p1 p2 hW h1 h2 h3 h4 => odd_any r W b p1 p2 (hF.later hW.size) h1 h2 h4 he.2.2 ⟨s2, by omega, fun x hx => hfit x (by simp [hx])⟩ (by omega))
theorem odd_is {F : Nat → Prop} {w : World} {a b : List Pr} {pa pb : Option Addr} (hF : Fut F w) (ha : Is F w a pa) (hb : Is F w b pb) (fa : Fine a) (fb : Fine b) (hn : a.length + b.length < 1400) : Calls Try.prog 16 #[.pointer pa, .pointer pb] w (Tell F (odd a b) w) := by
  obtain ⟨t, h1, h2, rfl⟩ := ha
  exact odd_any t w b pb pa hF hb fb h1 h2 fa (by omega)
end Go.Proofs.Ytnniojlofhbioaa
