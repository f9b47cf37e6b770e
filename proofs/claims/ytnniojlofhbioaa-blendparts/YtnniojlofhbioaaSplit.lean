/-
  Contracts of At and halves: a tree cut at a key.
-/
import Derived.Test.YtnniojlofhbioaaPairs
import Derived.Test.YtnniojlofhbioaaCuts
namespace Go.Proofs.Ytnniojlofhbioaa
open Go.RowKit
set_option maxHeartbeats 4000000
set_option maxRecDepth 100000
/-- four results -/
theorem results_tmp4 {fn : Func} {t u v x : Tmp} (h : fn.results = #[.tmp t, .tmp u, .tmp v, .tmp x]) (tmps : Array Value) (P : Program) (w : World) :
    (results fn tmps).run P w = .ok (.tuple #[tmps.getD t undef, tmps.getD u undef, tmps.getD v undef, tmps.getD x undef]) w := by
  simp [results, h]
/-- two trees of what is less and what is more, and the value between -/
def Cutd (F : Nat → Prop) (L : List Pr) (k : List UInt8) (w : World) (pl pr va : Option Addr) (x : Nat) (is : Bool) : Prop :=
  x = (val L k).length ∧ is = has L k ∧ Bts w va (val L k) ∧ ∃ l r : Tr, Tre F w l pl ∧ Tre F w r pr ∧ l.even ∧ r.even ∧ l.list = lts L k ∧ r.list = gts L k
theorem Cutd.below {F : Nat → Prop} {L : List Pr} {k : List UInt8} {w w' : World} {pl pr va : Option Addr} {x : Nat} {is : Bool} (h : Cutd F L k w pl pr va x is) (hb : Below w.heap.size w w') : Cutd F L k w' pl pr va x is := by
  obtain ⟨h1, h2, h3, l, r, h4, h5, h6⟩ := h
  exact ⟨h1, h2, h3.below hb, l, r, h4.below hb, h5.below hb, h6⟩
def CutP (F : Nat → Prop) (L : List Pr) (k : List UInt8) (w : World) (e : Ending) (w' : World) : Prop :=
  ∃ pl pr va vc x is, e = .returned (.tuple #[.pointer pl, .pointer pr, .slice va x vc, .bool is]) ∧ Cutd F L k w' pl pr va x is ∧ Below w.heap.size w w'
/-- the two sides of a node, whatever was made since -/
theorem sides_node {F : Nat → Prop} {w : World} {l r : Tr} {q : Pr} {p : Option Addr} (h : Tre F w (.node l q r) p) : ∃ pl pr, Tre F w l pl ∧ Tre F w r pr ∧
    (∀ W, Below w.heap.size w W → Calls Try.prog 29 #[.pointer p] W fun e w' => e = .returned (.pointer pl) ∧ W = w') ∧ (∀ W, Below w.heap.size w W → Calls Try.prog 30 #[.pointer p] W fun e w' => e = .returned (.pointer pr) ∧ W = w') := by
  obtain ⟨b, ka, kc, va, vc, pl, pr, rfl, h, hl, hr⟩ := h
  refine ⟨pl, pr, hl, hr, fun W hW => ?_, fun W hW => ?_⟩
  · obtain ⟨_, _, c2, c3, _⟩ := (h.below hW).cells
    clear h hl hr hW
    go_enter Try.func29, Try.ntmps29
    go_wp2
    go_ret
    exact ⟨rfl, rfl⟩
  · obtain ⟨_, _, c2, c3, _⟩ := (h.below hW).cells
    clear h hl hr hW
    go_enter Try.func30, Try.ntmps30
    go_wp2
    go_ret
    exact ⟨rfl, rfl⟩
theorem at_nil {F : Nat → Prop} {w : World} (K : Option Addr) (k : List UInt8) (n kc : Nat) : Calls Try.prog 27 #[.pointer none, .slice K n kc] w (CutP F [] k w) := by
  go_enter Try.func27, Try.ntmps27
  go_wp2
  refine bodyPost_ret (results_tmp4 rfl _ _ _) rfl ?_
  exact ⟨none, none, none, 0, 0, false, rfl, ⟨rfl, rfl, .inl rfl, .nil, .nil, rfl, rfl, trivial, trivial, rfl, rfl⟩, Below.refl _ _⟩
theorem at_node {F : Nat → Prop} {w : World} {l r : Tr} {q : Pr} {p K : Option Addr} {key : List UInt8} (kc : Nat) (hF : Fut F w) (ht : Tre F w (.node l q r) p) (he : (Tr.node l q r).even) (hs : srt (l.list ++ q :: r.list)) (hn : l.size + r.size < 1500) (hq : q.1.length ≤ 100000 ∧ q.2.length ≤ 100000) (hK : Bts w K key)
    (il : ∀ W p, Below w.heap.size w W → Tre F W l p → Calls Try.prog 27 #[.pointer p, .slice K key.length kc] W (CutP F l.list key W))
    (ir : ∀ W p, Below w.heap.size w W → Tre F W r p → Calls Try.prog 27 #[.pointer p, .slice K key.length kc] W (CutP F r.list key W)) :
    Calls Try.prog 27 #[.pointer p, .slice K key.length kc] w (CutP F (l.list ++ q :: r.list) key w) := by
  have hroot := root_any ht hq
  obtain ⟨pl, pr, hl, hr, cl, cr⟩ := sides_node ht
  obtain ⟨bp, rfl, _⟩ := tre_some ht (by intro e; cases e)
  have il' := fun W (hW : Below w.heap.size w W) => il W pl hW (hl.below hW)
  have ir' := fun W (hW : Below w.heap.size w W) => ir W pr hW (hr.below hW)
  have hcmp := fun W (B : Option Addr) (hW : Below w.heap.size w W) (hB : Bts W B q.1) => compare_any (hK.below hW) hB kc q.1.length
  have hjl := fun W (ja ua p1 : Option Addr) (t1 : Tr) (hW : Below w.heap.size w W) (h1 : Bts W ja q.1) (h2 : Bts W ua q.2) (h3 : Tre F W t1 p1) (h4 : t1.even) (h5 : t1.size ≤ r.size) => joinP_any (q := q) q.1.length q.2.length (hF.later hW.size) (hl.below hW) h3 h1 h2 hq he.2.1 h4 (by have := hn; omega)
  have hjr := fun W (ja ua p1 : Option Addr) (t1 : Tr) (hW : Below w.heap.size w W) (h1 : Bts W ja q.1) (h2 : Bts W ua q.2) (h3 : Tre F W t1 p1) (h4 : t1.even) (h5 : t1.size ≤ l.size) => joinP_any (q := q) q.1.length q.2.length (hF.later hW.size) h3 (hr.below hW) h1 h2 hq h4 he.2.2 (by have := hn; omega)
  have hel := he.2.1
  have her := he.2.2
  obtain ⟨x1, hx1⟩ : ∃ k, k = q.1.length := ⟨_, rfl⟩
  obtain ⟨x2, hx2⟩ : ∃ k, k = q.2.length := ⟨_, rfl⟩
  obtain ⟨n, hn'⟩ : ∃ k, k = key.length := ⟨_, rfl⟩
  obtain ⟨z, hz⟩ : ∃ z, z = cmp key q.1 := ⟨_, rfl⟩
  simp only [← hx1, ← hx2] at hroot hcmp hjl hjr
  simp only [← hn', ← hz] at hcmp il' ir' ⊢
  have HROOT := Lib.hid hroot; clear hroot
  have HCMP := Lib.hid hcmp; clear hcmp
  have HS := Lib.hid hs; clear hs
  have CL := Lib.hid cl; clear cl
  have CR := Lib.hid cr; clear cr
  have HTL := Lib.hid hl; clear hl
  have HTR := Lib.hid hr; clear hr
  have HX2 := Lib.hid hx2; clear hx2
  clear ht he hn hq hK il ir hx1 hn' hF
  by_cases h0 : z = 0
  · have d0 : (z == 0) = true := by simpa using h0
    have hk : key = q.1 := cmp_zero _ _ (by rw [← hz]; exact h0)
    have HEQ := Lib.hid (And.intro (cut_here HS.out hk) (out_here HS.out hk))
    have HEL := Lib.hid (And.intro hel her); clear hel her
    clear hz h0 hk hjl hjr il' ir'
    go_enter Try.func27, Try.ntmps27
    go_wp2_with fail
    refine HROOT.out.mono ?_
    rintro e w2 ⟨g1, g2, rfl, h1, h2, hb2⟩
    obtain ⟨w3, hw3, b3, _, k3⟩ := box_pair w2 (some ⟨g1, 0, none⟩) (some ⟨g2, 0, none⟩) x1 x1 x2 x2
    obtain ⟨c0, c1⟩ := k3 w3 (Below.refl _ _)
    have hb23 := below_then hb2 b3
    have HC := Lib.hid (HCMP.out w3 (some ⟨g1, 0, none⟩) hb23 ((bts_row h1.2).below b3))
    have V2 := Lib.hid ((bts_row h2.2).below b3)
    have GO := Lib.hid (fun W (h : Below w3.heap.size w3 W) => below_then hb23 h)
    have K3 := Lib.hid k3; clear k3
    have HW3 := Lib.hid hw3; clear hw3
    have hz0 : Below w3.heap.size w3 w3.drew := (Below.refl _ _).drew
    clear h1 h2 hb2 b3 hb23 HROOT HCMP
    go_wp2_with (rw [← HW3.out])
    refine HC.out.mono ?_
    rintro e w' ⟨rfl, rfl⟩
    clear HC
    go_wp2_with fail
    go_region_held3 (fun W => W.cell? ⟨w2.heap.size, 0, none⟩ = some (.slice (some ⟨g1, 0, none⟩) x1 x1) ∧ W.cell? ⟨w2.heap.size, 1, none⟩ = some (.slice (some ⟨g2, 0, none⟩) x2 x2)) (first | exact K3.out _ hz0 | fail) (first
      | (go_at_call 29; (with_reducible refine (CL.out _ (GO.out _ hz0)).mono ?_); rintro e wS ⟨rfl, rfl⟩)
      | (go_at_call 30; (with_reducible refine (CR.out _ (GO.out _ hz0)).mono ?_); rintro e wS ⟨rfl, rfl⟩)
      | fail)
    all_goals
      go_wp2_with fail
      refine bodyPost_ret (results_tmp4 rfl _ _ _) rfl ?_
      have hg := GO.out _ hz0
      refine ⟨pl, pr, some ⟨g2, 0, none⟩, x2, x2, true, rfl, ⟨?_, HEQ.out.2.2.1.symm, ?_, l, r, HTL.out.below hg, HTR.out.below hg, HEL.out.1, HEL.out.2, HEQ.out.1.1.symm, HEQ.out.1.2.symm⟩, hg⟩
      · rw [HEQ.out.2.2.2]; exact HX2.out
      · rw [HEQ.out.2.2.2]; exact V2.out.below hz0
  · by_cases h1 : z < 0
    · have d0 : (z == 0) = false := by simpa using h0
      have hk : cmp key q.1 < 0 := by rw [← hz]; exact h1
      have HEQ := Lib.hid (And.intro (cut_left HS.out hk) (out_left HS.out hk))
      have IH := Lib.hid il'
      have HJ := Lib.hid hjr
      clear hz h0 hk hjl hjr il' ir' HTL HTR hel her HX2
      go_enter Try.func27, Try.ntmps27
      go_wp2_with fail
      refine HROOT.out.mono ?_
      rintro e w2 ⟨g1, g2, rfl, r1, r2, hb2⟩
      obtain ⟨w3, hw3, b3, _, k3⟩ := box_pair w2 (some ⟨g1, 0, none⟩) (some ⟨g2, 0, none⟩) x1 x1 x2 x2
      obtain ⟨c0, c1⟩ := k3 w3 (Below.refl _ _)
      have hb23 := below_then hb2 b3
      have HC := Lib.hid (HCMP.out w3 (some ⟨g1, 0, none⟩) hb23 ((bts_row r1.2).below b3))
      have V1 := Lib.hid ((bts_row r1.2).below b3)
      have V2 := Lib.hid ((bts_row r2.2).below b3)
      have C1 := Lib.hid (CL.out w3 hb23)
      have C2 := Lib.hid (IH.out w3 hb23)
      have HB3 := Lib.hid hb23; clear hb23
      have K3 := Lib.hid k3; clear k3
      have HW3 := Lib.hid hw3; clear hw3
      clear r1 r2 hb2 b3 HROOT HCMP IH CL
      go_wp2_with (rw [← HW3.out])
      refine HC.out.mono ?_
      rintro e w' ⟨rfl, rfl⟩
      clear HC
      go_wp2_with fail
      refine C1.out.mono ?_
      rintro e w' ⟨rfl, rfl⟩
      clear C1
      go_wp2_with fail
      refine C2.out.mono ?_
      rintro e w4 ⟨pa, pb, va, vc, x, is, rfl, hcd, hb4⟩
      obtain ⟨e1, e2, e3, a, b, ha, hbb, ea, eb, la, lb⟩ := hcd
      have hsz : b.size ≤ l.size := by rw [← Tr.length, ← Tr.length, lb]; exact List.length_filter_le _ _
      have GO := Lib.hid (fun W (h : Below w4.heap.size w4 W) => below_then (below_then HB3.out hb4) h)
      have KEEP := Lib.hid (fun W (h : Below w4.heap.size w4 W) => K3.out W (below_then hb4 h))
      have hz0 : Below w4.heap.size w4 w4.drew := (Below.refl _ _).drew
      have JJ := Lib.hid (HJ.out _ (some ⟨g1, 0, none⟩) (some ⟨g2, 0, none⟩) pb b (GO.out _ hz0) ((V1.out.below hb4).below hz0) ((V2.out.below hb4).below hz0) (hbb.below hz0) eb hsz)
      have CO := Lib.hid (CR.out _ (GO.out _ hz0))
      have E1 := Lib.hid e1; clear e1
      have E2 := Lib.hid e2; clear e2
      have E3 := Lib.hid e3; clear e3
      clear HB3 K3 HJ V1 V2 C2 CR c0 c1 HW3 hsz hb4
      go_wp2_with fail
      go_region_held3 (fun W => W.cell? ⟨w2.heap.size, 0, none⟩ = some (.slice (some ⟨g1, 0, none⟩) x1 x1) ∧ W.cell? ⟨w2.heap.size, 1, none⟩ = some (.slice (some ⟨g2, 0, none⟩) x2 x2)) (first | exact KEEP.out _ hz0 | exact KEEP.out _ hzA | fail) (first
        | (go_at_call 30; (with_reducible refine CO.out.mono ?_); rintro e wS ⟨rfl, rfl⟩)
        | (go_at_call 28; (with_reducible refine JJ.out.mono ?_); rintro e wA ⟨pA, tA, rfl, hA, hev, hli, hbA⟩; have hzA := below_then hz0 hbA)
        | fail)
      all_goals
        go_wp2_with fail
        refine bodyPost_ret (results_tmp4 rfl _ _ _) rfl ?_
        refine ⟨pa, pA, va, vc, x, is, rfl, ⟨?_, ?_, ?_, a, tA, ha.below hzA, hA, ea, hev, ?_, ?_⟩, ?_⟩
        · rw [HEQ.out.2.2.2]; exact E1.out
        · rw [HEQ.out.2.2.1]; exact E2.out
        · rw [HEQ.out.2.2.2]; exact E3.out.below hzA
        · rw [HEQ.out.1.1]; exact la
        · rw [HEQ.out.1.2, ← lb]; exact hli
        · exact GO.out _ hzA
    · have d0 : (z == 0) = false := by simpa using h0
      have hk : cmp q.1 key < 0 := cmp_neg (by rw [← hz]; exact h1) (by rw [← hz]; exact h0)
      have HEQ := Lib.hid (And.intro (cut_right HS.out hk) (out_right HS.out hk))
      have IH := Lib.hid ir'
      have HJ := Lib.hid hjl
      clear hz h0 hk hjl hjr il' ir' HTL HTR hel her HX2
      go_enter Try.func27, Try.ntmps27
      go_wp2_with fail
      refine HROOT.out.mono ?_
      rintro e w2 ⟨g1, g2, rfl, r1, r2, hb2⟩
      obtain ⟨w3, hw3, b3, _, k3⟩ := box_pair w2 (some ⟨g1, 0, none⟩) (some ⟨g2, 0, none⟩) x1 x1 x2 x2
      obtain ⟨c0, c1⟩ := k3 w3 (Below.refl _ _)
      have hb23 := below_then hb2 b3
      have HC := Lib.hid (HCMP.out w3 (some ⟨g1, 0, none⟩) hb23 ((bts_row r1.2).below b3))
      have V1 := Lib.hid ((bts_row r1.2).below b3)
      have V2 := Lib.hid ((bts_row r2.2).below b3)
      have C1 := Lib.hid (CR.out w3 hb23)
      have C2 := Lib.hid (IH.out w3 hb23)
      have HB3 := Lib.hid hb23; clear hb23
      have K3 := Lib.hid k3; clear k3
      have HW3 := Lib.hid hw3; clear hw3
      clear r1 r2 hb2 b3 HROOT HCMP IH CR
      go_wp2_with (rw [← HW3.out])
      refine HC.out.mono ?_
      rintro e w' ⟨rfl, rfl⟩
      clear HC
      go_wp2_with fail
      refine C1.out.mono ?_
      rintro e w' ⟨rfl, rfl⟩
      clear C1
      go_wp2_with fail
      refine C2.out.mono ?_
      rintro e w4 ⟨pa, pb, va, vc, x, is, rfl, hcd, hb4⟩
      obtain ⟨e1, e2, e3, a, b, ha, hbb, ea, eb, la, lb⟩ := hcd
      have hsz : a.size ≤ r.size := by rw [← Tr.length, ← Tr.length, la]; exact List.length_filter_le _ _
      have GO := Lib.hid (fun W (h : Below w4.heap.size w4 W) => below_then (below_then HB3.out hb4) h)
      have KEEP := Lib.hid (fun W (h : Below w4.heap.size w4 W) => K3.out W (below_then hb4 h))
      have hz0 : Below w4.heap.size w4 w4.drew := (Below.refl _ _).drew
      have JJ := Lib.hid (HJ.out _ (some ⟨g1, 0, none⟩) (some ⟨g2, 0, none⟩) pa a (GO.out _ hz0) ((V1.out.below hb4).below hz0) ((V2.out.below hb4).below hz0) (ha.below hz0) ea hsz)
      have CO := Lib.hid (CL.out _ (GO.out _ hz0))
      have E1 := Lib.hid e1; clear e1
      have E2 := Lib.hid e2; clear e2
      have E3 := Lib.hid e3; clear e3
      clear HB3 K3 HJ V1 V2 C2 CL c0 c1 HW3 hsz hb4
      go_wp2_with fail
      go_region_held3 (fun W => W.cell? ⟨w2.heap.size, 0, none⟩ = some (.slice (some ⟨g1, 0, none⟩) x1 x1) ∧ W.cell? ⟨w2.heap.size, 1, none⟩ = some (.slice (some ⟨g2, 0, none⟩) x2 x2)) (first | exact KEEP.out _ hz0 | exact KEEP.out _ hzA | fail) (first
        | (go_at_call 29; (with_reducible refine CO.out.mono ?_); rintro e wS ⟨rfl, rfl⟩)
        | (go_at_call 28; (with_reducible refine JJ.out.mono ?_); rintro e wA ⟨pA, tA, rfl, hA, hev, hli, hbA⟩; have hzA := below_then hz0 hbA)
        | fail)
      all_goals
        go_wp2_with fail
        refine bodyPost_ret (results_tmp4 rfl _ _ _) rfl ?_
        refine ⟨pA, pb, va, vc, x, is, rfl, ⟨?_, ?_, ?_, tA, b, hA, hbb.below hzA, hev, eb, ?_, ?_⟩, ?_⟩
        · rw [HEQ.out.2.2.2]; exact E1.out
        · rw [HEQ.out.2.2.1]; exact E2.out
        · rw [HEQ.out.2.2.2]; exact E3.out.below hzA
        · rw [HEQ.out.1.1, ← la]; exact hli
        · rw [HEQ.out.1.2]; exact lb
        · exact GO.out _ hzA

theorem at_any {F : Nat → Prop} {K : Option Addr} {key : List UInt8} (kc : Nat) : ∀ (t : Tr) (w : World) (p : Option Addr), Fut F w → Tre F w t p → t.even → srt t.list → t.size < 1500 → (∀ x ∈ t.list, x.1.length ≤ 100000 ∧ x.2.length ≤ 100000) → Bts w K key →
    Calls Try.prog 27 #[.pointer p, .slice K key.length kc] w (CutP F t.list key w)
  | .nil, w, p, _, h, _, _, _, _, _ => by
    obtain rfl : p = none := h
    exact at_nil K key _ kc
  | .node l q r, w, p, hF, h, he, hs, hn, hf, hK => by
    have hs' : srt (l.list ++ q :: r.list) := hs
    obtain ⟨s1, s2, _⟩ := srt_parts hs'
    have hn' : l.size + r.size + 1 < 1500 := by simp only [Tr.size] at hn; omega
    exact at_node kc hF h he hs' (by omega) (hf q (by simp [Tr.list])) hK
      (fun W p hW hp => at_any kc l W p (hF.later hW.size) hp he.2.1 s1 (by omega) (fun x hx => hf x (by simp [Tr.list, hx])) (hK.below hW))
      (fun W p hW hp => at_any kc r W p (hF.later hW.size) hp he.2.2 s2 (by omega) (fun x hx => hf x (by simp [Tr.list, hx])) (hK.below hW))
end Go.Proofs.Ytnniojlofhbioaa
