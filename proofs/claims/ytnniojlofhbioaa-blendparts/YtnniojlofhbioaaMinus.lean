/-
  Contracts of Minus and Subset.
-/
import Derived.Test.YtnniojlofhbioaaBlend
namespace Go.Proofs.Ytnniojlofhbioaa
open Go.RowKit
set_option maxHeartbeats 4000000
set_option maxRecDepth 100000
theorem minus_node {F : Nat → Prop} {w : World} {l r : Tr} {q : Pr} {a : List Pr} {p pa : Option Addr} (hF : Fut F w) (ht : Tre F w (.node l q r) p) (hs : srt (l.list ++ q :: r.list)) (hq : q.1.length ≤ 100000 ∧ q.2.length ≤ 100000) (ha : Is F w a pa) (hf : Fine a) (hne : a ≠ [])
    (il : ∀ W b p1 p2, Below w.heap.size w W → Is F W b p1 → Fine b → Tre F W l p2 → Calls Try.prog 14 #[.pointer p1, .pointer p2] W (Tell F (mns b l.list) W))
    (ir : ∀ W b p1 p2, Below w.heap.size w W → Is F W b p1 → Fine b → Tre F W r p2 → Calls Try.prog 14 #[.pointer p1, .pointer p2] W (Tell F (mns b r.list) W)) :
    Calls Try.prog 14 #[.pointer pa, .pointer p] w (Tell F (mns a (l.list ++ q :: r.list)) w) := by
  have hlen : (mns (lts a q.1) l.list ++ mns (gts a q.1) r.list).length < 1500 := by rw [mns_cut hf.sorted hs]; exact Nat.lt_of_le_of_lt (mns_length _ _) hf.few
  have hroot := root_any ht hq
  obtain ⟨pl, pr, hl, hr, cl, cr⟩ := sides_node ht
  obtain ⟨bp, rfl, _⟩ := tre_some ht (by intro e; cases e)
  obtain ⟨ba, rfl⟩ := ha.some hne
  have hsp := fun W (B : Option Addr) (hW : Below w.heap.size w W) (hB : Bts W B q.1) => split_any q.1.length (hF.later hW.size) (ha.below hW) hf hB
  have il' := fun W p1 (hW : Below w.heap.size w W) (h : Is F W (lts a q.1) p1) => il W (lts a q.1) p1 pl hW h (hf.lts _) (hl.below hW)
  have ir' := fun W p1 (hW : Below w.heap.size w W) (h : Is F W (gts a q.1) p1) => ir W (gts a q.1) p1 pr hW h (hf.gts _) (hr.below hW)
  have hj := fun W (p1 p2 : Option Addr) (hW : Below w.heap.size w W) (h1 : Is F W (mns (lts a q.1) l.list) p1) (h2 : Is F W (mns (gts a q.1) r.list) p2) => pair_list (hF.later hW.size) h1 h2 hlen
  simp only [mns_cut hf.sorted hs] at hj
  obtain ⟨x1, hx1⟩ : ∃ k, k = q.1.length := ⟨_, rfl⟩
  obtain ⟨x2, hx2⟩ : ∃ k, k = q.2.length := ⟨_, rfl⟩
  obtain ⟨R, hR⟩ : ∃ R, R = mns a (l.list ++ q :: r.list) := ⟨_, rfl⟩
  simp only [← hR] at hj
  simp only [← hx1, ← hx2] at hroot
  simp only [← hx1] at hsp
  rw [← hR]
  have HROOT := Lib.hid hroot; clear hroot
  have HSP := Lib.hid hsp; clear hsp
  have CL := Lib.hid cl; clear cl
  have CR := Lib.hid cr; clear cr
  have IL := Lib.hid il'; clear il'
  have IR := Lib.hid ir'; clear ir'
  have HJ := Lib.hid hj; clear hj
  clear ht hs hq ha hf hne il ir hlen hl hr hx1 hx2 hR hF
  go_enter Try.func14, Try.ntmps14
  go_wp2_with fail
  refine HROOT.out.mono ?_
  rintro e w2 ⟨g1, g2, rfl, r1, r2, hb2⟩
  have hfd := run_key (.slice (some ⟨g1, 0, none⟩) x1 x1) (.slice (some ⟨g2, 0, none⟩) x2 x2)
  have HC := Lib.hid (HSP.out w2 (some ⟨g1, 0, none⟩) hb2 (bts_row r1.2))
  have HB2 := Lib.hid hb2; clear hb2
  clear r1 r2 HROOT HSP
  go_wp2_with fail
  refine HC.out.mono ?_
  rintro e w4 ⟨p1, p2, va, vc, x, is, rfl, hcd, hb4⟩
  have b24 := below_then HB2.out hb4
  have C1 := Lib.hid (CL.out w4 b24)
  have U1 := Lib.hid (IL.out w4 p1 b24 hcd.left)
  have I2 := Lib.hid hcd.right
  have B4 := Lib.hid b24; clear b24 hb4
  clear HC hcd IL CL hfd HB2
  go_wp2_with fail
  refine C1.out.mono ?_
  rintro e w' ⟨rfl, rfl⟩
  go_wp2_with fail
  refine U1.out.mono ?_
  rintro e w5 ⟨pA, rfl, hA, b5⟩
  have b25 := below_then B4.out b5
  have C2 := Lib.hid (CR.out w5 b25)
  have U2 := Lib.hid (IR.out w5 p2 b25 (I2.out.below b5))
  have HA := Lib.hid hA; clear hA
  have B5 := Lib.hid b25; clear b25 b5
  clear C1 U1 I2 B4 IR CR
  go_wp2_with fail
  refine C2.out.mono ?_
  rintro e w' ⟨rfl, rfl⟩
  go_wp2_with fail
  refine U2.out.mono ?_
  rintro e w6 ⟨pB, rfl, hB, b6⟩
  have b26 := below_then B5.out b6
  have JJ := Lib.hid (HJ.out w6 pA pB b26 (HA.out.below b6) hB)
  have B6 := Lib.hid b26; clear b26 b6
  clear hB C2 U2 B5 HA HJ
  go_wp2_with fail
  refine JJ.out.mono ?_
  rintro e w7 ⟨pC, rfl, hC, b7⟩
  have H7 := Lib.hid (And.intro hC (below_then B6.out b7)); clear hC b7
  go_wp2_with fail
  go_ret
  exact ⟨pC, rfl, H7.out⟩
theorem minus_any {F : Nat → Prop} : ∀ (t : Tr) (w : World) (a : List Pr) (pa p : Option Addr), Fut F w → Is F w a pa → Fine a → Tre F w t p → t.even → Fine t.list → Calls Try.prog 14 #[.pointer pa, .pointer p] w (Tell F (mns a t.list) w)
  | .nil, w, a, pa, p, _, ha, hf, h, _, _ => by
    obtain rfl : p = none := h
    rw [show Tr.nil.list = [] from rfl, mns_nil]
    by_cases hne : a = []
    · subst hne
      obtain rfl := ha.none
      go_enter Try.func14, Try.ntmps14
      go_wp2
      go_ret
      exact ⟨none, rfl, is_nil _ _, Below.refl _ _⟩
    · have ha' := ha
      obtain ⟨ba, rfl⟩ := ha.some hne
      clear ha hf hne
      go_enter Try.func14, Try.ntmps14
      go_wp2
      go_ret
      exact ⟨_, rfl, ha', Below.refl _ _⟩
  | .node l q r, w, a, pa, p, hF, ha, hf, h, he, hg => by
    have hs' : srt (l.list ++ q :: r.list) := hg.sorted
    have hn' : (l.list ++ q :: r.list).length < 1500 := hg.few
    have hfit : ∀ x ∈ l.list ++ q :: r.list, x.1.length ≤ 100000 ∧ x.2.length ≤ 100000 := hg.fits
    obtain ⟨s1, s2, _⟩ := srt_parts hs'
    rw [List.length_append, List.length_cons] at hn'
    by_cases hne : a = []
    · subst hne
      obtain rfl := ha.none
      rw [nil_mns]
      clear h he hg ha hf hs' hn' hfit s1 s2
      go_enter Try.func14, Try.ntmps14
      go_wp2
      go_ret
      exact ⟨none, rfl, is_nil _ _, Below.refl _ _⟩
    · exact minus_node hF h hs' (hfit q (by simp)) ha hf hne
        (fun W b p1 p2 hW h1 h2 h4 => minus_any l W b p1 p2 (hF.later hW.size) h1 h2 h4 he.2.1 ⟨s1, by omega, fun x hx => hfit x (by simp [hx])⟩)
        (fun W b p1 p2 hW h1 h2 h4 => minus_any r W b p1 p2 (hF.later hW.size) h1 h2 h4 he.2.2 ⟨s2, by omega, fun x hx => hfit x (by simp [hx])⟩)
theorem minus_is {F : Nat → Prop} {w : World} {a b : List Pr} {pa pb : Option Addr} (hF : Fut F w) (ha : Is F w a pa) (hb : Is F w b pb) (fa : Fine a) (fb : Fine b) : Calls Try.prog 14 #[.pointer pa, .pointer pb] w (Tell F (mns a b) w) := by
  obtain ⟨t, h1, h2, rfl⟩ := hb
  exact minus_any t w a pa pb hF ha fa h1 h2 fb
def SubP (x : Bool) (w : World) (e : Ending) (w' : World) : Prop := e = .returned (.bool x) ∧ Below w.heap.size w w'
theorem subset_node {F : Nat → Prop} {w : World} {l r : Tr} {q : Pr} {a : List Pr} {p pa : Option Addr} (hF : Fut F w) (ht : Tre F w (.node l q r) p) (hs : srt (l.list ++ q :: r.list)) (hn : (l.list ++ q :: r.list).length < 1500) (hq : q.1.length ≤ 100000 ∧ q.2.length ≤ 100000) (ha : Is F w a pa) (hf : Fine a)
    (il : ∀ W b p1 p2, Below w.heap.size w W → Is F W b p1 → Fine b → Tre F W l p2 → Calls Try.prog 17 #[.pointer p2, .pointer p1] W (SubP (sub l.list b) W))
    (ir : ∀ W b p1 p2, Below w.heap.size w W → Is F W b p1 → Fine b → Tre F W r p2 → Calls Try.prog 17 #[.pointer p2, .pointer p1] W (SubP (sub r.list b) W)) :
    Calls Try.prog 17 #[.pointer p, .pointer pa] w (SubP (sub (l.list ++ q :: r.list) a) w) := by
  have z1 := size_any ht (by rw [← Tr.length]; exact Nat.le_trans (Nat.le_of_lt hn) (by decide))
  rw [← Tr.length] at z1
  have z2 := is_size ha (Nat.le_trans (Nat.le_of_lt hf.few) (by decide))
  have hroot := root_any ht hq
  obtain ⟨pl, pr, hl, hr, cl, cr⟩ := sides_node ht
  obtain ⟨bp, rfl, _⟩ := tre_some ht (by intro e; cases e)
  have hsp := fun W (B : Option Addr) (hW : Below w.heap.size w W) (hB : Bts W B q.1) => split_any q.1.length (hF.later hW.size) (ha.below hW) hf hB
  have il' := fun W p1 (hW : Below w.heap.size w W) (h : Is F W (lts a q.1) p1) => il W (lts a q.1) p1 pl hW h (hf.lts _) (hl.below hW)
  have ir' := fun W p1 (hW : Below w.heap.size w W) (h : Is F W (gts a q.1) p1) => ir W (gts a q.1) p1 pr hW h (hf.gts _) (hr.below hW)
  have few := sub_few (l.list ++ q :: r.list) a hs hf.sorted
  have cut := sub_cut (b := a) hs
  obtain ⟨n1, hn1⟩ : ∃ n, n = (l.list ++ q :: r.list).length := ⟨_, rfl⟩
  replace z1 : Calls Try.prog 20 #[.pointer (some ⟨bp, 0, none⟩)] w fun e w' => e = .returned (.int .i64 (n1 : Int)) ∧ w = w' := by rw [hn1]; exact z1
  obtain ⟨n2, hn2⟩ : ∃ n, n = a.length := ⟨_, rfl⟩
  obtain ⟨x1, hx1⟩ : ∃ k, k = q.1.length := ⟨_, rfl⟩
  obtain ⟨x2, hx2⟩ : ∃ k, k = q.2.length := ⟨_, rfl⟩
  rw [← hn2] at z2 few
  rw [← hn1] at few
  obtain ⟨R, hR⟩ : ∃ R, R = sub (l.list ++ q :: r.list) a := ⟨_, rfl⟩
  obtain ⟨d, hd⟩ : ∃ R, R = has a q.1 := ⟨_, rfl⟩
  obtain ⟨s1, hs1⟩ : ∃ R, R = sub l.list (lts a q.1) := ⟨_, rfl⟩
  obtain ⟨s2, hs2⟩ : ∃ R, R = sub r.list (gts a q.1) := ⟨_, rfl⟩
  rw [← hR, ← hd, ← hs1, ← hs2] at cut
  rw [← hR] at few ⊢
  simp only [← hs1] at il'
  simp only [← hs2] at ir'
  simp only [← hx1, ← hx2] at hroot
  simp only [← hx1] at hsp
  have HROOT := Lib.hid hroot; clear hroot
  have HSP := Lib.hid hsp; clear hsp
  have CL := Lib.hid cl; clear cl
  have CR := Lib.hid cr; clear cr
  have IL := Lib.hid il'; clear il'
  have IR := Lib.hid ir'; clear ir'
  have HD := Lib.hid hd; clear hd
  have Z1 := Lib.hid z1; clear z1
  have Z2 := Lib.hid z2; clear z2
  clear ht hs hq ha hf il ir hl hr hx1 hx2 hR hF hn hn1 hn2 hs1 hs2
  by_cases hlt : n2 < n1
  · have t1 : decide ((n2 : Int) < (n1 : Int)) = true := decide_eq_true (by omega)
    have t2 : decide (n2 < n1) = true := decide_eq_true hlt
    have e : R = false := by
      cases R with
      | false => rfl
      | true => have := few rfl; omega
    subst e
    clear few hlt cut IL IR HD CL CR HSP HROOT
    go_enter Try.func17, Try.ntmps17
    go_wp2_with fail
    refine Z1.out.mono ?_
    rintro e w' ⟨rfl, rfl⟩
    go_wp2_with fail
    refine Z2.out.mono ?_
    rintro e w' ⟨rfl, rfl⟩
    go_wp2_with fail
    go_ret
    exact ⟨rfl, Below.refl _ _⟩
  · have t1 : decide ((n2 : Int) < (n1 : Int)) = false := decide_eq_false (by omega)
    have t2 : decide (n2 < n1) = false := decide_eq_false hlt
    clear few hlt
    go_enter Try.func17, Try.ntmps17
    go_wp2_with fail
    refine Z1.out.mono ?_
    rintro e w' ⟨rfl, rfl⟩
    go_wp2_with fail
    refine Z2.out.mono ?_
    rintro e w' ⟨rfl, rfl⟩
    go_wp2_with fail
    refine HROOT.out.mono ?_
    rintro e w2 ⟨g1, g2, rfl, r1, r2, hb2⟩
    have hfd := run_key (.slice (some ⟨g1, 0, none⟩) x1 x1) (.slice (some ⟨g2, 0, none⟩) x2 x2)
    have HC := Lib.hid (HSP.out w2 (some ⟨g1, 0, none⟩) hb2 (bts_row r1.2))
    have HB2 := Lib.hid hb2; clear hb2
    clear r1 r2 HROOT HSP Z1 Z2 t1 t2
    go_wp2_with fail
    refine HC.out.mono ?_
    rintro e w4 ⟨p1, p2, va, vc, x, is, rfl, hcd, hb4⟩
    obtain rfl : is = d := by rw [HD.out]; exact hcd.2.1
    have b24 := below_then HB2.out hb4
    have C1 := Lib.hid (CL.out w4 b24)
    have U1 := Lib.hid (IL.out w4 p1 b24 hcd.left)
    have I2 := Lib.hid hcd.right
    have B4 := Lib.hid b24; clear b24 hb4
    clear HC hcd IL CL hfd HB2 HD
    cases is with
    | false =>
      obtain rfl : R = false := cut.symm
      clear cut U1 C1 I2 IR CR
      go_wp2_with fail
      go_ret
      exact ⟨rfl, B4.out⟩
    | true =>
      rw [Bool.true_and] at cut
      cases s1 with
      | false =>
        obtain rfl : R = false := cut.symm
        clear cut I2 IR CR
        go_wp2_with fail
        refine C1.out.mono ?_
        rintro e w' ⟨rfl, rfl⟩
        go_wp2_with fail
        refine U1.out.mono ?_
        rintro e w5 ⟨rfl, b5⟩
        have B5 := Lib.hid (below_then B4.out b5); clear b5
        go_wp2_with fail
        go_ret
        exact ⟨rfl, B5.out⟩
      | true =>
        obtain rfl : s2 = R := by rw [← cut, Bool.true_and]
        clear cut
        go_wp2_with fail
        refine C1.out.mono ?_
        rintro e w' ⟨rfl, rfl⟩
        go_wp2_with fail
        refine U1.out.mono ?_
        rintro e w5 ⟨rfl, b5⟩
        have b25 := below_then B4.out b5
        have C2 := Lib.hid (CR.out w5 b25)
        have U2 := Lib.hid (IR.out w5 p2 b25 (I2.out.below b5))
        have B5 := Lib.hid b25; clear b5 b25
        clear C1 U1 I2 B4 IR CR
        go_wp2_with fail
        refine C2.out.mono ?_
        rintro e w' ⟨rfl, rfl⟩
        go_wp2_with fail
        refine U2.out.mono ?_
        rintro e w6 ⟨rfl, b6⟩
        have B6 := Lib.hid (below_then B5.out b6); clear b6
        go_wp2_with fail
        go_ret
        exact ⟨rfl, B6.out⟩
theorem subset_any {F : Nat → Prop} : ∀ (t : Tr) (w : World) (a : List Pr) (pa p : Option Addr), Fut F w → Is F w a pa → Fine a → Tre F w t p → t.even → Fine t.list → Calls Try.prog 17 #[.pointer p, .pointer pa] w (SubP (sub t.list a) w)
  | .nil, w, a, pa, p, _, ha, hf, h, _, _ => by
    obtain rfl : p = none := h
    clear ha hf
    go_enter Try.func17, Try.ntmps17
    go_wp2
    go_ret
    exact ⟨rfl, Below.refl _ _⟩
  | .node l q r, w, a, pa, p, hF, ha, hf, h, he, hg => by
    have hs' : srt (l.list ++ q :: r.list) := hg.sorted
    have hn' : (l.list ++ q :: r.list).length < 1500 := hg.few
    have hn2 := hn'
    have hfit : ∀ x ∈ l.list ++ q :: r.list, x.1.length ≤ 100000 ∧ x.2.length ≤ 100000 := hg.fits
    obtain ⟨s1, s2, _⟩ := srt_parts hs'
    rw [List.length_append, List.length_cons] at hn'
    exact subset_node hF h hs' hn2 (hfit q (by simp)) ha hf
      (fun W b p1 p2 hW h1 h2 h4 => subset_any l W b p1 p2 (hF.later hW.size) h1 h2 h4 he.2.1 ⟨s1, by omega, fun x hx => hfit x (by simp [hx])⟩)
      (fun W b p1 p2 hW h1 h2 h4 => subset_any r W b p1 p2 (hF.later hW.size) h1 h2 h4 he.2.2 ⟨s2, by omega, fun x hx => hfit x (by simp [hx])⟩)
theorem subset_is {F : Nat → Prop} {w : World} {a b : List Pr} {pa pb : Option Addr} (hF : Fut F w) (ha : Is F w a pa) (hb : Is F w b pb) (fa : Fine a) (fb : Fine b) : Calls Try.prog 17 #[.pointer pa, .pointer pb] w (SubP (sub a b) w) := by
  obtain ⟨t, h1, h2, rfl⟩ := ha
  exact subset_any t w b pb pa hF hb fb h1 h2 fa
end Go.Proofs.Ytnniojlofhbioaa
