/-
  Contract of build at a plan of a branch, and of build.
-/
import Derived.Test.YtfhnmmiakknilaaBuildLeaf
import Derived.Test.YtfhnmmiakknilaaTwin
import Derived.Deep.DeepCutAuto
namespace Go.Proofs.Ytfhnmmiakknilaa
open Go.RowKit
set_option maxHeartbeats 8000000
set_option maxRecDepth 100000
theorem ints_in {g : Nat} {w w' : World} {A : Option Addr} {L : List Int} (h : Bt.Ints w A L) (hg : g = w.heap.size) (hb : Below g w w') : Bt.Ints w' A L := h.below (hg ▸ hb)
theorem pls_in {g : Nat} {w w' : World} {A : Option Addr} {L : List Pln} (h : Pls w A L) (hg : g = w.heap.size) (hb : Below g w w') : Pls w' A L := h.below (hg ▸ hb)
/-- one node laid into a block of its own is what is appended -/
theorem cell_one {w : World} {g : Nat} {v : Value} {t : TypeId} (h : w.heap[g]? = some (.cells #[v] t (0, 0))) : ∀ j u, [v][j]? = some u → w.cell? ((⟨g, 0, none⟩ : Addr).add j) = some u := by
  intro j u hj
  rw [Go.WideShapes.add_plain, Nat.zero_add, cell_of_row w g j _ t (0, 0) h, ← hj]
  simp
theorem cell_five {w : World} {g : Nat} {xs : List Value} {t : TypeId} (h : w.heap[g]? = some (.cells xs.toArray t (0, 0))) : ∀ j u, xs[j]? = some u → w.cell? ((⟨g, 0, none⟩ : Addr).add j) = some u := by
  intro j u hj
  rw [Go.WideShapes.add_plain, Nat.zero_add, cell_of_row w g j _ t (0, 0) h, ← hj]
  simp
theorem build_branch {F : Nat → Prop} {w : World} {A : Option Addr} {L : List Pln} {at' N : Nat} (c : Nat) (hF : Fut F w) (ha : Pls w A L) (hat : at' < L.length) (hbr : L[at'].br = true) (hok : okP L[at'] = true) (hN : N ≤ 100000000000)
    (ih : ∀ k, at' < k → k < L.length → ∀ (W : World) (G : Nat → Prop), Fut G W → Pls W A L → Calls Try.prog 8 #[.slice A L.length c, .int .i64 (k : Int)] W (Built G N W)) :
    Calls Try.prog 8 #[.slice A L.length c, .int .i64 (at' : Int)] w (Built F (6 * N) w) := by
  unfold Built
  have ha0 := ha
  obtain ⟨b, off, pa, pc, ka, kc, rfl, hbl, c0, c1, c2, c3, c4, hp, hk, h1, h2, h3, h4, h5⟩ := ha.at hat
  obtain ⟨p, hpp⟩ : ∃ p, p = L[at'] := ⟨_, rfl⟩
  simp only [← hpp] at c0 c1 c2 c3 c4 hp hk h1 h2 h3 h4 h5 hbr hok
  rw [hbr] at c0
  simp only [okP, Bool.and_eq_true, decide_eq_true_eq] at hok
  obtain ⟨⟨hp12, hty⟩, hk6⟩ := hok
  obtain ⟨kids, hkk⟩ : ∃ x, x = p.kids := ⟨_, rfl⟩
  rw [← hkk] at c4 hk hk6 h5 h3
  obtain ⟨hh, hhh⟩ : ∃ x, x = p.h := ⟨_, rfl⟩
  obtain ⟨m, hm⟩ : ∃ x, x = p.set := ⟨_, rfl⟩
  obtain ⟨n1, hn1⟩ : ∃ x, x = p.prs.length := ⟨_, rfl⟩
  obtain ⟨n2, hn2⟩ : ∃ x, x = kids.length := ⟨_, rfl⟩
  rw [← hhh] at c1
  rw [← hm] at c3 h2
  rw [← hn1] at c2
  rw [← hn2] at c4 hk6
  have hbz : Below w.heap.size w (w.alloc (.cells #[.int .i64 0, .int .u64 0, .slice none 0 0, .slice none 0 0, .slice none 0 0] 32)) := (Below.refl _ _).alloc (Nat.le_refl _) _
  replace c0 := (hbz.cell (p := ⟨b, off + at' * 5, none⟩) hbl).trans c0
  replace c1 := (hbz.cell (p := ⟨b, off + at' * 5 + 1, none⟩) hbl).trans c1
  replace c2 := (hbz.cell (p := ⟨b, off + at' * 5 + 2, none⟩) hbl).trans c2
  replace c3 := (hbz.cell (p := ⟨b, off + at' * 5 + 3, none⟩) hbl).trans c3
  replace c4 := (hbz.cell (p := ⟨b, off + at' * 5 + 4, none⟩) hbl).trans c4
  clear hbz
  obtain ⟨g0, hg0⟩ : ∃ g, g = w.heap.size := ⟨_, rfl⟩
  obtain ⟨w2, hw2⟩ : ∃ w2, w2 = (w.alloc (.cells #[.int .i64 0, .int .u64 0, .slice none 0 0, .slice none 0 0, .slice none 0 0] 32)).alloc (.cells #[.bool true, .int .u64 (hh : Int), .slice pa n1 pc, .int .u32 (m : Int), .slice ka n2 kc] 49) := ⟨_, rfl⟩
  have hb2 : Below w.heap.size w w2 := by rw [hw2]; exact ((Below.refl _ _).alloc (Nat.le_refl _) _).alloc (by simp) _
  have hs2 : w2.heap.size = g0 + 2 := by rw [hw2, hg0]; simp
  have r0 : w2.heap[g0]? = some (.cells #[.int .i64 0, .int .u64 0, .slice none 0 0, .slice none 0 0, .slice none 0 0] 32 (0, 0)) := by
    rw [hw2, hg0, Below.heap_alloc _ _ _ (by simp)]
    exact heap_alloc_new w _
  have r1 : w2.heap[g0 + 1]? = some (.cells #[.bool true, .int .u64 (hh : Int), .slice pa n1 pc, .int .u32 (m : Int), .slice ka n2 kc] 49 (0, 0)) := by
    have := heap_alloc_new (w.alloc (.cells #[.int .i64 0, .int .u64 0, .slice none 0 0, .slice none 0 0, .slice none 0 0] 32)) (.cells #[.bool true, .int .u64 (hh : Int), .slice pa n1 pc, .int .u32 (m : Int), .slice ka n2 kc] 49)
    rw [hw2, hg0]
    simpa using this
  have hli := Bt.list_any m w2 h2 _ rfl
  obtain ⟨l, hl⟩ : ∃ l, l = (Bt.lst m 32).length := ⟨_, rfl⟩
  simp only [← hl] at hli
  obtain ⟨t, ht⟩ : ∃ t, t = decide (n2 = l) := ⟨_, rfl⟩
  have dt : ((n2 : Int) == (l : Int)) = t := by rw [ht]; by_cases e : n2 = l <;> simp [e] <;> omega
  have HLI := Lib.hid hli; clear hli
  have HIH := Lib.hid ih; clear ih
  have HB2 := Lib.hid hb2; clear hb2
  have HS2 := Lib.hid hs2; clear hs2
  have R0 := Lib.hid r0; clear r0
  have R1 := Lib.hid r1; clear r1
  have HW := Lib.hid hw2; clear hw2
  have HF := Lib.hid hF; clear hF
  have HG0 := Lib.hid hg0; clear hg0
  have HL := Lib.hid (And.intro hl ht); clear hl ht
  have HN2 := Lib.hid (And.intro hn2 hk6); clear hn2
  have HM := Lib.hid h2; clear h2
  have H3 := Lib.hid h3; clear h3
  have HK2 := Lib.hid (hk.below HB2.out); clear hk
  have HA2 := Lib.hid (ha0.below HB2.out); clear ha0
  have HNN := Lib.hid hN; clear hN
  have hatL : (at' : Int) < (L.length : Int) := by omega
  clear ha hp h1 h4 h5 hbr hty hp12 hhh hm hn1 hpp hbl hkk
  rcases Nat.eq_zero_or_pos n2 with m0 | m0
  · subst m0
    have d0 : decide ((0 : Int) < ((0 : Nat) : Int)) = false := by decide
    go_enter Try.func8, Try.ntmps8
    go_wp2_with fail
    simp only [← HG0.out] at HW ⊢
    rw [← HW.out]
    obtain ⟨⟨p0, p1, p2, p3, p4⟩, _⟩ := row5 R1.out
    clear c0 c1 c2 c3 c4
    go_wp2_with fail
    refine HLI.out.mono ?_
    rintro e w3 ⟨⟨As, cs, rfl, _, his, hns⟩, b3⟩
    obtain ⟨gx, hgx⟩ : ∃ gx, gx = w3.heap.size := ⟨_, rfl⟩
    obtain ⟨w4, hw4⟩ : ∃ w4, w4 = w3.alloc (.cells #[.int .i64 3, .int .u64 0, .slice none 0 0, .slice As l cs, .slice none 0 0] 32) := ⟨_, rfl⟩
    have b34 : Below w3.heap.size w3 w4 := by rw [hw4]; exact (Below.refl _ _).alloc (Nat.le_refl _) _
    have r4 : w4.heap[gx]? = some (.cells #[.int .i64 3, .int .u64 0, .slice none 0 0, .slice As l cs, .slice none 0 0] 32 (0, 0)) := by rw [hw4, hgx]; exact heap_alloc_new w3 _
    have hs3 : g0 + 2 ≤ gx := by have := b3.size; have := HS2.out; omega
    have r03 := (b3.block g0 (by have := HS2.out; omega)).trans R0.out
    have r13 := (b3.block (g0 + 1) (by have := HS2.out; omega)).trans R1.out
    have r14 := (b34.block (g0 + 1) (by omega)).trans r13
    have hbld : Bld (fun b => g0 < b) gx w3 w4 l As cs (.slice none 0 0) (.slice none 0 0) 0 [] [] [] := ⟨hgx ▸ b34, r4, World.ownsRow_nil _ _ _ _, World.ownsRow_nil _ _ _ _, Nat.le_refl _, fun i hi => absurd hi (Nat.not_lt_zero _), fun _ => ⟨rfl, [], rfl, rfl, fun i hi => absurd hi (Nat.not_lt_zero _)⟩⟩
    obtain ⟨⟨q0, q1, q2, q3, q4⟩, _⟩ := row5 r14
    obtain ⟨⟨y0, y1, y2, y3, y4⟩, _⟩ := row5 r4
    have z4 := q4
    rw [hw4] at z4
    have HBLD := Lib.hid hbld; clear hbld
    have HIS := Lib.hid (And.intro his hns); clear his hns
    have HK3 := Lib.hid (HK2.out.below b3)
    have HA3 := Lib.hid (HA2.out.below b3)
    have HR3 := Lib.hid (And.intro r03 r13)
    have B3 := Lib.hid b3
    have B34 := Lib.hid b34
    have HGX := Lib.hid hgx; clear hgx
    have HW4 := Lib.hid hw4; clear hw4
    clear b3 b34 r4 r03 r13 r14 HLI
    go_wp2_with fail
    simp only [← HGX.out] at HW4 ⊢
    rw [← HW4.out]
    go_loopw [10, 11, 67] (fun vk wv i wr => ∃ (j q : Nat) (wh : Bool) (xk : Value) (vs xs : List Value) (ks : List Nd), i = .int .i64 (j : Int) ∧ wv = .bool wh ∧ j ≤ 0 ∧ Hid (ks.length = j) ∧ Hid (Bld (fun b => g0 < b) gx w3 wr l As cs vk xk q vs xs ks) ∧ Hid (wh = (false && someTo (kidOf ks) j)) ∧ Hid (∀ x ∈ ks, x.ok ∧ x.cnt ≤ N)) (fun _ _ i _ => 0 - (intOf i).toNat)
    case atStart => exact ⟨0, 0, false, .slice none 0 0, [], [], [], rfl, rfl, by omega, rfl, HBLD.out, by simp [Hid, someTo], fun x hx => by cases hx⟩
    case round =>
      obtain ⟨j, q, wh, xk, vs, xs, ks, rfl, rfl, hj, hkl, hbd, hwh, hks⟩ := hrel
      clear q0 q1 q2 q3 q4 y0 y1 y2 y3 y4 z4
      have hlt : ¬ j < 0 := Nat.not_lt_zero _
      obtain rfl : j = 0 := by omega
      obtain rfl : wh = false := by have := hwh.out; simpa using this
      have hFx : Nd.branch m 0 (kidOf ks) = .none := by
        unfold Nd.branch
        rw [decide_eq_false (Nat.lt_irrefl 0), Bool.false_and, Bool.false_and, if_neg (by decide)]
      obtain ⟨⟨z0, z1, z2, z3, z4⟩, f0, f1, f2, f3, f4⟩ := row5 hbd.out.row
      obtain ⟨rx, ro⟩ := set5 hbd.out.row (.int .i64 0) (.int .u64 0) (.slice none 0 0) (.slice none 0 0) (.slice none 0 0)
      have hszz : wr.heap.size ≤ (((((wr.setCell ⟨gx, 0, none⟩ (.int .i64 0)).setCell ⟨gx, 1, none⟩ (.int .u64 0)).setCell ⟨gx, 2, none⟩ (.slice none 0 0)).setCell ⟨gx, 3, none⟩ (.slice none 0 0)).setCell ⟨gx, 4, none⟩ (.slice none 0 0)).heap.size := by simp [World.setCell]
      have bz := hbd.out.bel.trans (below_set5 (w := wr) (g := gx) (B := gx) (.int .i64 0) (.int .u64 0) (.slice none 0 0) (.slice none 0 0) (.slice none 0 0) (Nat.le_refl _))
      obtain ⟨Ak, ck, hvk, hnd⟩ := hbd.out.nds (fun k hk _ => ro k (by omega)) hszz
      rw [hkl.out] at hvk hnd
      subst hvk
      obtain ⟨wz, hwz⟩ : ∃ wz, wz = (((((wr.setCell ⟨gx, 0, none⟩ (.int .i64 0)).setCell ⟨gx, 1, none⟩ (.int .u64 0)).setCell ⟨gx, 2, none⟩ (.slice none 0 0)).setCell ⟨gx, 3, none⟩ (.slice none 0 0)).setCell ⟨gx, 4, none⟩ (.slice none 0 0)) := ⟨_, rfl⟩
      rw [← hwz] at hnd rx bz
      have HX := Lib.hid hFx; clear hFx
      clear ro hszz
      have hsz : gx < wz.heap.size := (Array.getElem?_eq_some_iff.1 rx).1
      have q0' := (bz.block g0 (by omega)).trans HR3.out.1
      have q1' := (bz.block (g0 + 1) (by omega)).trans HR3.out.2
      have keep : ∀ W, Below wz.heap.size wz W → (W.cell? ⟨g0 + 1, 3, none⟩ = some (.int .u32 (m : Int)) ∧ W.cell? ⟨gx, 0, none⟩ = some (.int .i64 0) ∧ W.cell? ⟨gx, 1, none⟩ = some (.int .u64 0) ∧ W.cell? ⟨gx, 2, none⟩ = some (.slice none 0 0) ∧ W.cell? ⟨gx, 3, none⟩ = some (.slice none 0 0) ∧ W.cell? ⟨gx, 4, none⟩ = some (.slice none 0 0)) ∧ W.heap[g0]? = some (.cells #[.int .i64 0, .int .u64 0, .slice none 0 0, .slice none 0 0, .slice none 0 0] 32 (0, 0)) := by
        intro W hW
        obtain ⟨⟨_, _, _, k3, _⟩, _⟩ := row5 ((hW.block (g0 + 1) (by omega)).trans q1')
        obtain ⟨⟨y0', y1', y2', y3', y4'⟩, _⟩ := row5 ((hW.block gx hsz).trans rx)
        exact ⟨⟨k3, y0', y1', y2', y3', y4'⟩, (hW.block g0 (by omega)).trans q0'⟩
      have keep2 : ∀ (W : World) (x1 x2 x3 x4 x5 : Value), Below wz.heap.size wz W → ((((((W.setCell ⟨g0, 0, none⟩ x1).setCell ⟨g0, 1, none⟩ x2).setCell ⟨g0, 2, none⟩ x3).setCell ⟨g0, 3, none⟩ x4).setCell ⟨g0, 4, none⟩ x5).cell? ⟨g0 + 1, 3, none⟩ = some (.int .u32 (m : Int)) ∧ (((((W.setCell ⟨g0, 0, none⟩ x1).setCell ⟨g0, 1, none⟩ x2).setCell ⟨g0, 2, none⟩ x3).setCell ⟨g0, 3, none⟩ x4).setCell ⟨g0, 4, none⟩ x5).cell? ⟨gx, 0, none⟩ = some (.int .i64 0) ∧ (((((W.setCell ⟨g0, 0, none⟩ x1).setCell ⟨g0, 1, none⟩ x2).setCell ⟨g0, 2, none⟩ x3).setCell ⟨g0, 3, none⟩ x4).setCell ⟨g0, 4, none⟩ x5).cell? ⟨gx, 1, none⟩ = some (.int .u64 0) ∧ (((((W.setCell ⟨g0, 0, none⟩ x1).setCell ⟨g0, 1, none⟩ x2).setCell ⟨g0, 2, none⟩ x3).setCell ⟨g0, 3, none⟩ x4).setCell ⟨g0, 4, none⟩ x5).cell? ⟨gx, 2, none⟩ = some (.slice none 0 0) ∧ (((((W.setCell ⟨g0, 0, none⟩ x1).setCell ⟨g0, 1, none⟩ x2).setCell ⟨g0, 2, none⟩ x3).setCell ⟨g0, 3, none⟩ x4).setCell ⟨g0, 4, none⟩ x5).cell? ⟨gx, 3, none⟩ = some (.slice none 0 0) ∧ (((((W.setCell ⟨g0, 0, none⟩ x1).setCell ⟨g0, 1, none⟩ x2).setCell ⟨g0, 2, none⟩ x3).setCell ⟨g0, 3, none⟩ x4).setCell ⟨g0, 4, none⟩ x5).cell? ⟨gx, 4, none⟩ = some (.slice none 0 0)) := by
        intro W x1 x2 x3 x4 x5 hW
        obtain ⟨⟨k3, y0', y1', y2', y3', y4'⟩, hr⟩ := keep W hW
        have o := (set5 hr x1 x2 x3 x4 x5).2
        have e1 := o (g0 + 1) (by omega)
        have e2 := o gx (by omega)
        exact ⟨(cell_kept e1).trans k3, (cell_kept e2).trans y0', (cell_kept e2).trans y1', (cell_kept e2).trans y2', (cell_kept e2).trans y3', (cell_kept e2).trans y4'⟩
      have hbr := fun W (hW : Below wz.heap.size wz W) => branch_any (F := fun b' => g0 < b') (m := m) (kid := kidOf ks) ck (fun x hx => by have := hW.size; show g0 < x; omega) HM.out (hnd.below hW) (by omega) (fun i hi => by
        rw [kidOf_at (by have := hkl.out; omega)]
        exact (hks.out _ (List.getElem_mem _)).1) (by
        refine Nat.le_trans (sumTo_bound _ N 0 fun i hi => ?_) (Nat.le_trans (Nat.mul_le_mul HN2.out.2 HNN.out) (by decide))
        rw [kidOf_at (by have := hkl.out; omega)]
        exact (hks.out _ (List.getElem_mem _)).2)
      have KEEP := Lib.hid keep; clear keep
      have KEEP2 := Lib.hid keep2; clear keep2
      have BR := Lib.hid hbr; clear hbr
      have HWZ := Lib.hid hwz; clear hwz
      have BZ := Lib.hid bz; clear bz
      clear hnd rx q0' q1' hlt hj HK3 HA3 HIH HBLD
      go_wp2_with fail
      rw [← HWZ.out]
      clear z0 z1 z2 z3 z4 f0 f1 f2 f3 f4
      have hz0 : Below wz.heap.size wz wz.drew := (Below.refl _ _).drew
      go_region_held3 (fun W => W.cell? ⟨g0 + 1, 3, none⟩ = some (.int .u32 (m : Int)) ∧ W.cell? ⟨gx, 0, none⟩ = some (.int .i64 0) ∧ W.cell? ⟨gx, 1, none⟩ = some (.int .u64 0) ∧ W.cell? ⟨gx, 2, none⟩ = some (.slice none 0 0) ∧ W.cell? ⟨gx, 3, none⟩ = some (.slice none 0 0) ∧ W.cell? ⟨gx, 4, none⟩ = some (.slice none 0 0))
        (first | (with_reducible exact (KEEP.out _ hz0).1) | (with_reducible exact (KEEP.out _ hzC).1) | (with_reducible exact KEEP2.out _ _ _ _ _ _ hzC)) (first
        | (go_at_call 24; (with_reducible refine (BR.out _ hz0).mono ?_); rintro e wC ⟨vC, rfl, hvC, hC⟩; have hzC := below_then hz0 hC; obtain ⟨⟨k0, k1, k2, k3, k4⟩, f0, f1, f2, f3, f4⟩ := row5 (KEEP.out _ hzC).2))
      all_goals
        go_wp2_with fail
        have S5 := set5 (KEEP.out _ hzC).2 (.int .i64 0) (.int .u64 0) (.slice none 0 0) (.slice none 0 0) (.slice none 0 0)
        refine bodyPost_ret (results_tc rfl _ _ g0 32 _ (0, 0) _ _ rfl S5.1 rfl Try.underlying32 rfl (by kernel_rfl)) rfl ?_
        have hsC : wC.heap.size ≤ (((((wC.setCell ⟨g0, 0, none⟩ (.int .i64 0)).setCell ⟨g0, 1, none⟩ (.int .u64 0)).setCell ⟨g0, 2, none⟩ (.slice none 0 0)).setCell ⟨g0, 3, none⟩ (.slice none 0 0)).setCell ⟨g0, 4, none⟩ (.slice none 0 0)).heap.size := by simp [World.setCell]
        have b03 : Below w.heap.size w w3 := below_then HB2.out B3.out
        have b0z : Below w.heap.size w wz := b03.trans (BZ.out.mono (by have := HG0.out; omega))
        have b5 := (b0z.trans (hzC.mono b0z.size)).trans (below_set5 (.int .i64 0) (.int .u64 0) (.slice none 0 0) (.slice none 0 0) (.slice none 0 0) (show w.heap.size ≤ g0 by have := HG0.out; omega))
        obtain ⟨e1, e2⟩ := built_end (x := .none) (r := ⟨none, 0, none, 0, none, 0⟩) HF.out HG0.out (by rw [← HX.out]; exact hvC) trivial S5.2 hsC
        exact ⟨_, ⟨none, 0, none, 0, none, 0⟩, .none, rfl, e1, e2, trivial, Nat.zero_le _, b5⟩
  · have d0 : decide ((0 : Int) < (n2 : Int)) = true := decide_eq_true (by omega)
    have HM0 := Lib.hid m0; clear m0
    go_enter Try.func8, Try.ntmps8
    go_wp2_with fail
    simp only [← HG0.out] at HW ⊢
    rw [← HW.out]
    obtain ⟨⟨p0, p1, p2, p3, p4⟩, _⟩ := row5 R1.out
    clear c0 c1 c2 c3 c4
    go_wp2_with fail
    refine HLI.out.mono ?_
    rintro e w3 ⟨⟨As, cs, rfl, _, his, hns⟩, b3⟩
    obtain ⟨gx, hgx⟩ : ∃ gx, gx = w3.heap.size := ⟨_, rfl⟩
    obtain ⟨w4, hw4⟩ : ∃ w4, w4 = w3.alloc (.cells #[.int .i64 3, .int .u64 0, .slice none 0 0, .slice As l cs, .slice none 0 0] 32) := ⟨_, rfl⟩
    have b34 : Below w3.heap.size w3 w4 := by rw [hw4]; exact (Below.refl _ _).alloc (Nat.le_refl _) _
    have r4 : w4.heap[gx]? = some (.cells #[.int .i64 3, .int .u64 0, .slice none 0 0, .slice As l cs, .slice none 0 0] 32 (0, 0)) := by rw [hw4, hgx]; exact heap_alloc_new w3 _
    have hs3 : g0 + 2 ≤ gx := by have := b3.size; have := HS2.out; omega
    have r03 := (b3.block g0 (by have := HS2.out; omega)).trans R0.out
    have r13 := (b3.block (g0 + 1) (by have := HS2.out; omega)).trans R1.out
    have r14 := (b34.block (g0 + 1) (by omega)).trans r13
    have hbld : Bld (fun b => g0 < b) gx w3 w4 l As cs (.slice none 0 0) (.slice none 0 0) 0 [] [] [] := ⟨hgx ▸ b34, r4, World.ownsRow_nil _ _ _ _, World.ownsRow_nil _ _ _ _, Nat.le_refl _, fun i hi => absurd hi (Nat.not_lt_zero _), fun _ => ⟨rfl, [], rfl, rfl, fun i hi => absurd hi (Nat.not_lt_zero _)⟩⟩
    obtain ⟨⟨q0, q1, q2, q3, q4⟩, _⟩ := row5 r14
    obtain ⟨⟨y0, y1, y2, y3, y4⟩, _⟩ := row5 r4
    have z4 := q4
    rw [hw4] at z4
    have HBLD := Lib.hid hbld; clear hbld
    have HIS := Lib.hid (And.intro his hns); clear his hns
    have HK3 := Lib.hid (HK2.out.below b3)
    have HA3 := Lib.hid (HA2.out.below b3)
    have HR3 := Lib.hid (And.intro r03 r13)
    have B3 := Lib.hid b3
    have B34 := Lib.hid b34
    have HGX := Lib.hid hgx; clear hgx
    have HW4 := Lib.hid hw4; clear hw4
    clear b3 b34 r4 r03 r13 r14 HLI
    go_wp2_with fail
    simp only [← HGX.out] at HW4 ⊢
    rw [← HW4.out]
    go_loopw [10, 11, 67] (fun vk wv i wr => ∃ (j q : Nat) (wh : Bool) (xk : Value) (vs xs : List Value) (ks : List Nd), i = .int .i64 (j : Int) ∧ wv = .bool wh ∧ j ≤ n2 ∧ Hid (ks.length = j) ∧ Hid (Bld (fun b => g0 < b) gx w3 wr l As cs vk xk q vs xs ks) ∧ Hid (wh = (t && someTo (kidOf ks) j)) ∧ Hid (∀ x ∈ ks, x.ok ∧ x.cnt ≤ N)) (fun _ _ i _ => n2 - (intOf i).toNat)
    case atStart => exact ⟨0, 0, t, .slice none 0 0, [], [], [], rfl, rfl, by omega, rfl, HBLD.out, by simp [Hid, someTo], fun x hx => by cases hx⟩
    case round =>
      obtain ⟨j, q, wh, xk, vs, xs, ks, rfl, rfl, hj, hkl, hbd, hwh, hks⟩ := hrel
      clear q0 q1 q2 q3 q4 y0 y1 y2 y3 y4 z4
      by_cases hlt : j < n2
      · have hji : j < kids.length := by have := HN2.out.1; omega
        obtain ⟨bk, ok, hka, hc⟩ := (ints_in HK3.out HGX.out hbd.out.bel).at_ j hji
        have hz := H3.out _ (List.getElem_mem hji)
        obtain ⟨z, hzz⟩ : ∃ z, z = kids[j] := ⟨_, rfl⟩
        rw [← hzz] at hc hz
        subst hka
        clear hzz
        have hok1 : wr.ownsRow (gx + 1) 26 1 u10 j vs := hkl.out ▸ hbd.out.ownK
        by_cases hr : (at' : Int) < z ∧ z < (L.length : Int)
        · obtain ⟨k, rfl⟩ : ∃ k : Nat, z = (k : Int) := ⟨z.toNat, by omega⟩
          have d1 : decide ((k : Int) ≤ (at' : Int)) = false := decide_eq_false (by omega)
          have d2 : decide ((L.length : Int) ≤ (k : Int)) = false := decide_eq_false (by omega)
          have d3 : decide (k ≤ at') = false := decide_eq_false (by omega)
          have d4 : decide (L.length ≤ k) = false := decide_eq_false (by omega)
          have J := Lib.hid (HIH.out k (by omega) (by omega) wr (fun b => wr.heap.size ≤ b) (fun b hb => hb) (pls_in HA3.out HGX.out hbd.out.bel))
          have HO1 := Lib.hid hok1; clear hok1
          clear hr hz hji
          go_wp2_with fail
          refine J.out.mono ?_
          rintro e w5 ⟨v, ⟨pa5, pc5, sa5, sc5, ka5, kc5⟩, x, rfl, hN5, hM5, hok5, hcn5, hb5⟩
          simp only [RN.agg]
          obtain ⟨gy, hgy⟩ : ∃ gy, gy = w5.heap.size := ⟨_, rfl⟩
          obtain ⟨wy, hwy⟩ : ∃ wy, wy = w5.alloc (.cells #[.int .i64 (x.kind : Int), .int .u64 (x.hash : Int), .slice pa5 x.prs.length pc5, .slice sa5 x.set.length sc5, .slice ka5 x.num kc5] 32) := ⟨_, rfl⟩
          have b5y : Below w5.heap.size w5 wy := by rw [hwy]; exact (Below.refl _ _).alloc (Nat.le_refl _) _
          have hsy : wy.heap.size = gy + 1 := by rw [hwy, hgy]; simp
          have ry : wy.heap[gy]? = some (.cells #[.int .i64 (x.kind : Int), .int .u64 (x.hash : Int), .slice pa5 x.prs.length pc5, .slice sa5 x.set.length sc5, .slice ka5 x.num kc5] 32 (0, 0)) := by rw [hwy, hgy]; exact heap_alloc_new w5 _
          have hby := (hbd.out.below hb5).below b5y
          have hgr := hbd.out.gx
          have hK0 : ∀ b', u10.ownBlock = some b' → b' < wr.heap.size := fun b' hb' => (own_lt hbd.out.ownK hb').2.1
          have hX0 : ∀ b', xk.ownBlock = some b' → b' < wr.heap.size := fun b' hb' => (own_lt hbd.out.ownX hb').2.1
          have hK1 : ∀ b', u10.ownBlock = some b' → gx + 1 ≤ b' := fun b' hb' => (own_lt hbd.out.ownK hb').1
          have hX1 : ∀ b', xk.ownBlock = some b' → gx + 1 ≤ b' := fun b' hb' => (own_lt hbd.out.ownX hb').1
          have hg3 : g0 < gx := by omega
          have hNy : Nde (Gd (fun b => g0 < b) gx u10 xk) wy x v := (hN5.mono fun b' _ hb' => ⟨by omega, by omega, fun e => by have := hK0 b' e; omega, fun e => by have := hX0 b' e; omega⟩).below b5y
          have hMy : Mde (Gd (fun b => g0 < b) gx u10 xk) wy x ⟨pa5, pc5, sa5, sc5, ka5, kc5⟩ := (hM5.mono fun b' _ hb' => ⟨by omega, by omega, fun e => by have := hK0 b' e; omega, fun e => by have := hX0 b' e; omega⟩).below b5y
          have hgy5 : wr.heap.size ≤ gy := by have := hb5.size; omega
          have hcel : ∀ W, But (fun b' => u10.ownBlock = some b' ∨ xk.ownBlock = some b') wy W → W.cell? ⟨gx, 4, none⟩ = some xk ∧ W.frozen? ⟨gx, 4, none⟩ = false ∧ W.cell? ⟨gy, 0, none⟩ = some (.int .i64 (x.kind : Int)) ∧ W.cell? ⟨gy, 1, none⟩ = some (.int .u64 (x.hash : Int)) ∧ W.cell? ⟨gy, 2, none⟩ = some (.slice pa5 x.prs.length pc5) ∧ W.cell? ⟨gy, 3, none⟩ = some (.slice sa5 x.set.length sc5) ∧ W.cell? ⟨gy, 4, none⟩ = some (.slice ka5 x.num kc5) := by
            intro W hW
            have e1 := (hW.block gx (by omega) (fun e => by rcases e with e | e; · have := hK1 gx e; omega
                                                            · have := hX1 gx e; omega)).trans hby.row
            have e2 := (hW.block gy (by omega) (fun e => by rcases e with e | e; · have := hK0 gy e; omega
                                                            · have := hX0 gy e; omega)).trans ry
            obtain ⟨⟨_, _, _, _, z4⟩, _, _, _, _, f4⟩ := row5 e1
            obtain ⟨⟨z0', z1', z2', z3', z4'⟩, _⟩ := row5 e2
            exact ⟨z4, f4, z0', z1', z2', z3', z4'⟩
          have hone : (∀ u ∈ [v], u.oneCell' = true) ∧ v.oneCell' = true ∧ gx + 1 ≤ wy.heap.size := ⟨fun u hu => by rw [List.mem_singleton.1 hu]; exact hN5.one, hN5.one, by omega⟩
          have hoy : wy.ownsRow (gx + 1) 26 1 u10 j vs := hkl.out ▸ hby.ownK
          have HBY : Hid (Bld (fun b => g0 < b) gx w3 wy l As cs u10 xk q vs xs ks ∧ wy.ownsRow (gx + 1) 26 1 u10 j vs ∧ wy.ownsRow (gx + 1) 32 5 xk q xs ∧ q ≤ 6) := ⟨hby, hoy, hby.ownX, by have := hby.few; have := hkl.out; omega⟩
          have HNY := Lib.hid (And.intro hNy hMy)
          have HOK5 := Lib.hid (And.intro hok5 hcn5)
          have HCEL := Lib.hid hcel; clear hcel
          have HONE := Lib.hid hone; clear hone
          have HWY := Lib.hid hwy; clear hwy
          have HGY := Lib.hid hgy; clear hgy
          have HSY := Lib.hid (And.intro hsy (And.intro hgy5 hgr))
          clear hN5 hM5 hok5 hcn5 hb5 b5y hby hgr hK0 hX0 hK1 hX1 hNy hMy hoy J HO1 hc
          go_wp2_with fail
          simp only [← HGY.out] at HWY ⊢
          rw [← HWY.out]
          clear ry hsy hgy5
          refine wp_region_mix 9 (by kernel_rfl) (by kernel_rfl) (TI gx wy u10 xk vs xs j q) (TG wy.heap.size gx u10 xk v vs xs [.int .i64 (x.kind : Int), .int .u64 (x.hash : Int), .slice pa5 x.prs.length pc5, .slice sa5 x.set.length sc5, .slice ka5 x.num kc5] j q) ⟨⟨rfl, rfl, rfl, Nat.le_refl _, fun _ _ _ => rfl⟩, fun _ => own_below HBY.out.2.1 (Below.refl _ _).drew, fun _ => own_below HBY.out.2.2.1 (Below.refl _ _).drew⟩ ?_ ?_ ?_
          · intro i hi
            have hc : i = 0 ∨ i = 1 ∨ i = 2 ∨ i = 3 ∨ i = 4 ∨ i = 5 ∨ i = 6 ∨ i = 7 ∨ i = 8 := by omega
            rcases hc with rfl | rfl | rfl | rfl | rfl | rfl | rfl | rfl | rfl <;> exact ⟨_, rfl, by simp⟩
          · intro i hi listed a w' hls hag hdep hun
            have hc : i = 0 ∨ i = 1 ∨ i = 2 ∨ i = 3 ∨ i = 4 ∨ i = 5 ∨ i = 6 ∨ i = 7 ∨ i = 8 := by omega
            rcases hc with rfl | rfl | rfl | rfl | rfl | rfl | rfl | rfl | rfl
            · have he := hag.keeps 10 u10 (by kernel_rfl) rfl
              refine wpOp_of _ rfl rfl ?_
              unfold Oper.wp execOp
              go_simp
              first | exact ⟨_, rfl, hag.inv.same (by decide) (by decide), rfl, fun _ _ _ _ _ h => h⟩ | exact ⟨_, rfl, hag.inv.same (by decide) (by decide), rfl⟩
            · have he := hag.keeps 14 v (by kernel_rfl) rfl
              refine wpOp_of _ rfl rfl ?_
              unfold Oper.wp execOp
              go_simp
              first | exact ⟨_, rfl, hag.inv.same (by decide) (by decide), rfl, fun _ _ _ _ _ h => h⟩ | exact ⟨_, rfl, hag.inv.same (by decide) (by decide), rfl⟩
            · obtain ⟨v1, hv1, hg1⟩ := hag.slot 1 90 (by decide) (hdep 1 ⟨_, rfl, ⟨1, .data⟩, by simp, rfl, rfl⟩) rfl
              obtain rfl : v = v1 := (show v1 = v from hg1).symm
              have hev := eval_tmp hv1
              rcases HNY.out.1.nil_iff with ⟨_, hvv⟩ | ⟨_, tt, bb, hvv⟩ <;> subst hvv
              all_goals
                refine wpOp_of _ rfl rfl ?_
                unfold Oper.wp execOp
                go_simp
                exact ⟨_, rfl, hag.inv.alloc (by decide) (by decide) _, ⟨_, rfl, hag.inv.but.size, heap_alloc_new w' _⟩, fun _ _ _ _ _ h => h.below ((Below.refl _ _).alloc (Nat.le_refl _) _)⟩
            · obtain ⟨v0, hv0, hg0⟩ := hag.slot 0 89 (by decide) (hdep 0 ⟨_, rfl, ⟨0, .data⟩, by simp, rfl, rfl⟩) rfl
              obtain ⟨v2, hv2, hg2⟩ := hag.slot 2 91 (by decide) (hdep 2 ⟨_, rfl, ⟨2, .data⟩, by simp, rfl, rfl⟩) rfl
              obtain rfl : u10 = v0 := (show v0 = u10 from hg0).symm
              obtain ⟨g2, rfl, hn2, hr2⟩ := hg2
              obtain ⟨v', w'', q1, q2, q3, q4⟩ := app_at (ty := 62) (t := 62) (news := [v]) Try.underlying62 Try.info26 rfl (by decide) (by decide) (hag.inv.rowK hun) rfl hr2 HONE.out.1 (by omega) (Nat.le_trans HONE.out.2.2 hag.inv.but.size)
              obtain ⟨k1, k2, k3⟩ := hag.inv.appK (N := wy.heap.size) (nv := v) (five := [.int .i64 (x.kind : Int), .int .u64 (x.hash : Int), .slice pa5 x.prs.length pc5, .slice sa5 x.set.length sc5, .slice ka5 x.num kc5]) rfl hls hun HBY.out.2.1 q3 q2 q4
              exact wpOp_app _ rfl rfl rfl (eval_tmp hv0) (eval_tmp hv2) q1 ⟨_, rfl, k1, k2, fun i' v'' _ hi' _ h => k3 i' v'' hi' h⟩
            · have he := hag.keeps 9 (.pointer (some ⟨gx, 0, none⟩)) (by kernel_rfl) rfl
              refine wpOp_of _ rfl rfl ?_
              unfold Oper.wp execOp
              go_simp
              first | exact ⟨_, rfl, hag.inv.same (by decide) (by decide), rfl, fun _ _ _ _ _ h => h⟩ | exact ⟨_, rfl, hag.inv.same (by decide) (by decide), rfl⟩
            · obtain ⟨v4, hv4, hg4⟩ := hag.slot 4 93 (by decide) (hdep 4 ⟨_, rfl, ⟨4, .data⟩, by simp, rfl, rfl⟩) rfl
              obtain rfl : v4 = _ := hg4
              have hev := eval_tmp hv4
              have hcx := (HCEL.out w' hag.inv.but).1
              refine wpOp_of _ rfl rfl ?_
              unfold Oper.wp execOp
              go_simp
              first | exact ⟨_, rfl, hag.inv.same (by decide) (by decide), rfl, fun _ _ _ _ _ h => h⟩ | exact ⟨_, rfl, hag.inv.same (by decide) (by decide), rfl⟩
            · have he := hag.keeps 15 (.pointer (some ⟨gy, 0, none⟩)) (by kernel_rfl) rfl
              obtain ⟨_, _, hc0, hc1, hc2, hc3, hc4⟩ := HCEL.out w' hag.inv.but
              refine wpOp_of _ rfl rfl ?_
              unfold Oper.wp execOp
              go_simp
              first | exact ⟨_, rfl, hag.inv.same (by decide) (by decide), rfl, fun _ _ _ _ _ h => h⟩ | exact ⟨_, rfl, hag.inv.same (by decide) (by decide), rfl⟩
            · obtain ⟨v6, hv6, hg6⟩ := hag.slot 6 95 (by decide) (hdep 6 ⟨_, rfl, ⟨6, .data⟩, by simp, rfl, rfl⟩) rfl
              obtain rfl : v6 = _ := hg6
              have hev := eval_tmp hv6
              refine wpOp_of _ rfl rfl ?_
              unfold Oper.wp execOp
              go_simp
              exact ⟨_, rfl, hag.inv.alloc (by decide) (by decide) _, ⟨_, rfl, hag.inv.but.size, heap_alloc_new w' _⟩, fun _ _ _ _ _ h => h.below ((Below.refl _ _).alloc (Nat.le_refl _) _)⟩
            · obtain ⟨v5, hv5, hg5⟩ := hag.slot 5 94 (by decide) (hdep 5 ⟨_, rfl, ⟨5, .data⟩, by simp, rfl, rfl⟩) rfl
              obtain ⟨v7, hv7, hg7⟩ := hag.slot 7 96 (by decide) (hdep 7 ⟨_, rfl, ⟨7, .data⟩, by simp, rfl, rfl⟩) rfl
              obtain rfl : xk = v5 := (show v5 = xk from hg5).symm
              obtain ⟨g7, rfl, hn7, hr7⟩ := hg7
              obtain ⟨v', w'', q1, q2, q3, q4⟩ := app_at (ty := 30) (t := 30) (news := [.int .i64 (x.kind : Int), .int .u64 (x.hash : Int), .slice pa5 x.prs.length pc5, .slice sa5 x.set.length sc5, .slice ka5 x.num kc5]) Try.underlying30 Try.info32 rfl (by decide) (by decide) (hag.inv.rowX hun) rfl hr7 (cells_one ⟨pa5, pc5, sa5, sc5, ka5, kc5⟩ x) (by have := HBY.out.2.2.2; omega) (Nat.le_trans HONE.out.2.2 hag.inv.but.size)
              obtain ⟨k1, k2, k3⟩ := hag.inv.appX (N := wy.heap.size) (nv := v) (five := [.int .i64 (x.kind : Int), .int .u64 (x.hash : Int), .slice pa5 x.prs.length pc5, .slice sa5 x.set.length sc5, .slice ka5 x.num kc5]) rfl hls hun HBY.out.2.2.1 q3 q2 q4
              exact wpOp_app _ rfl rfl rfl (eval_tmp hv5) (eval_tmp hv7) q1 ⟨_, rfl, k1, k2, fun i' v'' _ hi' _ h => k3 i' v'' hi' h⟩
          · intro listed a w' hall hag
            obtain ⟨v0, s0, g0'⟩ := hag.slot 0 89 (by decide) (hall 0 (by decide)) rfl
            obtain ⟨v1, s1, g1'⟩ := hag.slot 1 90 (by decide) (hall 1 (by decide)) rfl
            obtain ⟨v2, s2, g2'⟩ := hag.slot 2 91 (by decide) (hall 2 (by decide)) rfl
            obtain ⟨v3, s3, g3'⟩ := hag.slot 3 92 (by decide) (hall 3 (by decide)) rfl
            obtain ⟨v4, s4, g4'⟩ := hag.slot 4 93 (by decide) (hall 4 (by decide)) rfl
            obtain ⟨v5, s5, g5'⟩ := hag.slot 5 94 (by decide) (hall 5 (by decide)) rfl
            obtain ⟨v6, s6, g6'⟩ := hag.slot 6 95 (by decide) (hall 6 (by decide)) rfl
            obtain ⟨v7, s7, g7'⟩ := hag.slot 7 96 (by decide) (hall 7 (by decide)) rfl
            obtain ⟨v8, s8, g8'⟩ := hag.slot 8 97 (by decide) (hall 8 (by decide)) rfl
            obtain rfl : u10 = v0 := (show v0 = u10 from g0').symm
            obtain rfl : v = v1 := (show v1 = v from g1').symm
            obtain rfl : v4 = _ := g4'
            obtain rfl : xk = v5 := (show v5 = xk from g5').symm
            obtain rfl : v6 = _ := g6'
            obtain ⟨b2, rfl, _, _⟩ := g2'
            obtain ⟨b7, rfl, _, _⟩ := g7'
            obtain ⟨Ax, cx, rfl, _⟩ := row_reads5 g8'.1
            have ha := hag.whole [(89, u10), (90, v), (91, .slice (some ⟨b2, 0, none⟩) 1 1), (92, v3), (93, .pointer (some ⟨gx, 4, none⟩)), (94, xk), (95, .agg #[.int .i64 (x.kind : Int), .int .u64 (x.hash : Int), .slice pa5 x.prs.length pc5, .slice sa5 x.set.length sc5, .slice ka5 x.num kc5]), (96, .slice (some ⟨b7, 0, none⟩) 1 1), (97, .slice Ax (q + 1) cx)] (by
              intro i hi
              have hc : i = 0 ∨ i = 1 ∨ i = 2 ∨ i = 3 ∨ i = 4 ∨ i = 5 ∨ i = 6 ∨ i = 7 ∨ i = 8 := by omega
              rcases hc with rfl | rfl | rfl | rfl | rfl | rfl | rfl | rfl | rfl <;> exact ⟨_, rfl, by simp⟩) (List.forall_mem_cons.2 ⟨s0, List.forall_mem_cons.2 ⟨s1, List.forall_mem_cons.2 ⟨s2, List.forall_mem_cons.2 ⟨s3, List.forall_mem_cons.2 ⟨s4, List.forall_mem_cons.2 ⟨s5, List.forall_mem_cons.2 ⟨s6, List.forall_mem_cons.2 ⟨s7, List.forall_mem_cons.2 ⟨s8, fun p hp => absurd hp (by simp)⟩⟩⟩⟩⟩⟩⟩⟩⟩)
            simp only [List.foldl_cons, List.foldl_nil, List.setIfInBounds_toArray, List.set_cons_succ, List.set_cons_zero] at ha
            obtain ⟨hcx, hfx, hc0, hc1, hc2, hc3, hc4⟩ := HCEL.out w' hag.inv.but
            have hadd := Bld.add (HBY.out.1) HNY.out.1 HNY.out.2 hag.inv.but (by rw [hkl.out]; exact g3'.1) g8'.1 g3'.2 g8'.2
            have hgk : (w'.setCell ⟨gx, 4, none⟩ (.slice Ax (q + 1) cx)).cell? ⟨gy, 0, none⟩ = some (.int .i64 (x.kind : Int)) := by
              rw [World.cell?_setCell_other _ _ _ _ (fun e => by injection e with e; have := HSY.out; omega)]; exact hc0
            have hsn := someTo_snoc ks x
            rw [hkl.out] at hsn
            have HADD := Lib.hid hadd; clear hadd
            have HSN := Lib.hid hsn; clear hsn
            obtain ⟨tk, htk⟩ : ∃ tk, tk = (x.kind != 0) := ⟨_, rfl⟩
            have hdk : ((x.kind : Int) != 0) = tk := by rw [htk]; cases x <;> rfl
            have HTK := Lib.hid htk; clear htk
            rw [ha]
            clear ha hag hall s0 s1 s2 s3 s4 s5 s6 s7 s8 g3' g8' hc0 hc1 hc2 hc3 hc4 HBY HNY HCEL a listed
            simp only [List.drop_succ_cons, List.drop_zero]
            cases wh with
            | false =>
              go_wp2_with fail
              go_roundw
              case rel => exact ⟨j + 1, q + 1, false, _, _, _, ks ++ [x], by go_num, rfl, by omega, by simp [Hid, hkl.out], HADD.out, by show _ = _; rw [HSN.out, ← Bool.and_assoc, ← hwh.out]; rfl, fun y hy => by
                rcases List.mem_append.1 hy with hy | hy
                · exact hks.out y hy
                · rw [List.mem_singleton.1 hy]; exact HOK5.out⟩
              case measure => simp [intOf]; omega
            | true =>
              go_wp2_with fail
              go_roundw
              case rel => exact ⟨j + 1, q + 1, tk, _, _, _, ks ++ [x], by go_num, rfl, by omega, by simp [Hid, hkl.out], HADD.out, by show _ = _; rw [HSN.out, ← Bool.and_assoc, ← hwh.out, HTK.out]; rfl, fun y hy => by
                rcases List.mem_append.1 hy with hy | hy
                · exact hks.out y hy
                · rw [List.mem_singleton.1 hy]; exact HOK5.out⟩
              case measure => simp [intOf]; omega
        · by_cases hza : z ≤ (at' : Int)
          · have d1 : decide (z ≤ (at' : Int)) = true := decide_eq_true hza
            clear hza
            have hb1 : Below wr.heap.size wr (wr.alloc (.cells #[.nilIface] 26)) := (Below.refl _ _).alloc (Nat.le_refl _) _
            have HO1 := Lib.hid (own_below hok1 hb1)
            have HCL := Lib.hid (cell_one (heap_alloc_new wr (.cells #[.nilIface] 26)))
            have HSZ : Hid (gx + 1 ≤ (wr.alloc (.cells #[.nilIface] 26)).heap.size ∧ wr.heap.size ≤ (wr.alloc (.cells #[.nilIface] 26)).heap.size) := ⟨by have := hbd.out.gx; simp; omega, hb1.size⟩
            have HBU : Hid (But (fun b' => u10.ownBlock = some b') wr (wr.alloc (.cells #[.nilIface] 26))) := (But.refl _ _).alloc _
            clear hok1 hb1 hz hr
            go_wp2_with (at_builtin; refine list_appAt (B := gx + 1) (w := wr.alloc (.cells #[.nilIface] 26)) 62 26 _ 1 16 Try.underlying62 Try.info26 rfl (by decide) (by decide) rfl (.tmp 80) (.tmp 81) rfl u10 j vs HO1.out ⟨wr.heap.size, 0, none⟩ 1 1 [.nilIface] rfl HCL.out (fun u hu => by rw [List.mem_singleton.1 hu]; rfl) rfl rfl (by omega) HSZ.out.1 ?_; intro vk' wA hoA hgA hbA)
            have hadd := Bld.addNone hbd.out (by rw [hkl.out]; exact hoA) (HBU.out.grown hgA fun k hk => hk) (by
              rcases hbA with e | e
              · exact .inl e
              · exact .inr ⟨_, e, HSZ.out.2⟩)
            have hsn := someTo_snoc ks .none
            rw [hkl.out] at hsn
            have HADD := Lib.hid hadd; clear hadd
            have HSN := Lib.hid hsn; clear hsn
            clear hoA hgA hbA
            go_roundw
            case rel => exact ⟨j + 1, q, false, xk, vs ++ [Value.nilIface], xs, ks ++ [Nd.none], by go_num, rfl, by omega, by simp [Hid, hkl.out], HADD.out, by show _ = _; rw [HSN.out]; simp [Nd.kind], fun y hy => by
              rcases List.mem_append.1 hy with hy | hy
              · exact hks.out y hy
              · rw [List.mem_singleton.1 hy]; exact ⟨trivial, Nat.zero_le _⟩⟩
            case measure => simp [intOf]; omega
          · have d1 : decide (z ≤ (at' : Int)) = false := decide_eq_false hza
            have d2 : decide ((L.length : Int) ≤ z) = true := decide_eq_true (by omega)
            clear hza
            have hb1 : Below wr.heap.size wr (wr.alloc (.cells #[.nilIface] 26)) := (Below.refl _ _).alloc (Nat.le_refl _) _
            have HO1 := Lib.hid (own_below hok1 hb1)
            have HCL := Lib.hid (cell_one (heap_alloc_new wr (.cells #[.nilIface] 26)))
            have HSZ : Hid (gx + 1 ≤ (wr.alloc (.cells #[.nilIface] 26)).heap.size ∧ wr.heap.size ≤ (wr.alloc (.cells #[.nilIface] 26)).heap.size) := ⟨by have := hbd.out.gx; simp; omega, hb1.size⟩
            have HBU : Hid (But (fun b' => u10.ownBlock = some b') wr (wr.alloc (.cells #[.nilIface] 26))) := (But.refl _ _).alloc _
            clear hok1 hb1 hz hr
            go_wp2_with (at_builtin; refine list_appAt (B := gx + 1) (w := wr.alloc (.cells #[.nilIface] 26)) 62 26 _ 1 16 Try.underlying62 Try.info26 rfl (by decide) (by decide) rfl (.tmp 80) (.tmp 81) rfl u10 j vs HO1.out ⟨wr.heap.size, 0, none⟩ 1 1 [.nilIface] rfl HCL.out (fun u hu => by rw [List.mem_singleton.1 hu]; rfl) rfl rfl (by omega) HSZ.out.1 ?_; intro vk' wA hoA hgA hbA)
            have hadd := Bld.addNone hbd.out (by rw [hkl.out]; exact hoA) (HBU.out.grown hgA fun k hk => hk) (by
              rcases hbA with e | e
              · exact .inl e
              · exact .inr ⟨_, e, HSZ.out.2⟩)
            have hsn := someTo_snoc ks .none
            rw [hkl.out] at hsn
            have HADD := Lib.hid hadd; clear hadd
            have HSN := Lib.hid hsn; clear hsn
            clear hoA hgA hbA
            go_roundw
            case rel => exact ⟨j + 1, q, false, xk, vs ++ [Value.nilIface], xs, ks ++ [Nd.none], by go_num, rfl, by omega, by simp [Hid, hkl.out], HADD.out, by show _ = _; rw [HSN.out]; simp [Nd.kind], fun y hy => by
              rcases List.mem_append.1 hy with hy | hy
              · exact hks.out y hy
              · rw [List.mem_singleton.1 hy]; exact ⟨trivial, Nat.zero_le _⟩⟩
            case measure => simp [intOf]; omega
      · obtain rfl : n2 = j := by omega
        cases wh with
        | false =>
          have hFx : Nd.branch m n2 (kidOf ks) = .none := by
            unfold Nd.branch
            have := hwh.out
            rw [← HL.out.1]
            by_cases e : n2 = l
            · have e2 : t = true := by rw [HL.out.2]; exact decide_eq_true e
              rw [e2, Bool.true_and] at this
              rw [← this, Bool.and_false, if_neg (by decide)]
            · rw [decide_eq_false (fun e2 : l = n2 => e e2.symm), Bool.and_false, Bool.false_and, if_neg (by decide)]
          obtain ⟨⟨z0, z1, z2, z3, z4⟩, f0, f1, f2, f3, f4⟩ := row5 hbd.out.row
          obtain ⟨rx, ro⟩ := set5 hbd.out.row (.int .i64 0) (.int .u64 0) (.slice none 0 0) (.slice none 0 0) (.slice none 0 0)
          have hszz : wr.heap.size ≤ (((((wr.setCell ⟨gx, 0, none⟩ (.int .i64 0)).setCell ⟨gx, 1, none⟩ (.int .u64 0)).setCell ⟨gx, 2, none⟩ (.slice none 0 0)).setCell ⟨gx, 3, none⟩ (.slice none 0 0)).setCell ⟨gx, 4, none⟩ (.slice none 0 0)).heap.size := by simp [World.setCell]
          have bz := hbd.out.bel.trans (below_set5 (w := wr) (g := gx) (B := gx) (.int .i64 0) (.int .u64 0) (.slice none 0 0) (.slice none 0 0) (.slice none 0 0) (Nat.le_refl _))
          obtain ⟨Ak, ck, hvk, hnd⟩ := hbd.out.nds (fun k hk _ => ro k (by omega)) hszz
          rw [hkl.out] at hvk hnd
          subst hvk
          obtain ⟨wz, hwz⟩ : ∃ wz, wz = (((((wr.setCell ⟨gx, 0, none⟩ (.int .i64 0)).setCell ⟨gx, 1, none⟩ (.int .u64 0)).setCell ⟨gx, 2, none⟩ (.slice none 0 0)).setCell ⟨gx, 3, none⟩ (.slice none 0 0)).setCell ⟨gx, 4, none⟩ (.slice none 0 0)) := ⟨_, rfl⟩
          rw [← hwz] at hnd rx bz
          have HX := Lib.hid hFx; clear hFx
          clear ro hszz
          have hsz : gx < wz.heap.size := (Array.getElem?_eq_some_iff.1 rx).1
          have q0' := (bz.block g0 (by omega)).trans HR3.out.1
          have q1' := (bz.block (g0 + 1) (by omega)).trans HR3.out.2
          have keep : ∀ W, Below wz.heap.size wz W → (W.cell? ⟨g0 + 1, 3, none⟩ = some (.int .u32 (m : Int)) ∧ W.cell? ⟨gx, 0, none⟩ = some (.int .i64 0) ∧ W.cell? ⟨gx, 1, none⟩ = some (.int .u64 0) ∧ W.cell? ⟨gx, 2, none⟩ = some (.slice none 0 0) ∧ W.cell? ⟨gx, 3, none⟩ = some (.slice none 0 0) ∧ W.cell? ⟨gx, 4, none⟩ = some (.slice none 0 0)) ∧ W.heap[g0]? = some (.cells #[.int .i64 0, .int .u64 0, .slice none 0 0, .slice none 0 0, .slice none 0 0] 32 (0, 0)) := by
            intro W hW
            obtain ⟨⟨_, _, _, k3, _⟩, _⟩ := row5 ((hW.block (g0 + 1) (by omega)).trans q1')
            obtain ⟨⟨y0', y1', y2', y3', y4'⟩, _⟩ := row5 ((hW.block gx hsz).trans rx)
            exact ⟨⟨k3, y0', y1', y2', y3', y4'⟩, (hW.block g0 (by omega)).trans q0'⟩
          have keep2 : ∀ (W : World) (x1 x2 x3 x4 x5 : Value), Below wz.heap.size wz W → ((((((W.setCell ⟨g0, 0, none⟩ x1).setCell ⟨g0, 1, none⟩ x2).setCell ⟨g0, 2, none⟩ x3).setCell ⟨g0, 3, none⟩ x4).setCell ⟨g0, 4, none⟩ x5).cell? ⟨g0 + 1, 3, none⟩ = some (.int .u32 (m : Int)) ∧ (((((W.setCell ⟨g0, 0, none⟩ x1).setCell ⟨g0, 1, none⟩ x2).setCell ⟨g0, 2, none⟩ x3).setCell ⟨g0, 3, none⟩ x4).setCell ⟨g0, 4, none⟩ x5).cell? ⟨gx, 0, none⟩ = some (.int .i64 0) ∧ (((((W.setCell ⟨g0, 0, none⟩ x1).setCell ⟨g0, 1, none⟩ x2).setCell ⟨g0, 2, none⟩ x3).setCell ⟨g0, 3, none⟩ x4).setCell ⟨g0, 4, none⟩ x5).cell? ⟨gx, 1, none⟩ = some (.int .u64 0) ∧ (((((W.setCell ⟨g0, 0, none⟩ x1).setCell ⟨g0, 1, none⟩ x2).setCell ⟨g0, 2, none⟩ x3).setCell ⟨g0, 3, none⟩ x4).setCell ⟨g0, 4, none⟩ x5).cell? ⟨gx, 2, none⟩ = some (.slice none 0 0) ∧ (((((W.setCell ⟨g0, 0, none⟩ x1).setCell ⟨g0, 1, none⟩ x2).setCell ⟨g0, 2, none⟩ x3).setCell ⟨g0, 3, none⟩ x4).setCell ⟨g0, 4, none⟩ x5).cell? ⟨gx, 3, none⟩ = some (.slice none 0 0) ∧ (((((W.setCell ⟨g0, 0, none⟩ x1).setCell ⟨g0, 1, none⟩ x2).setCell ⟨g0, 2, none⟩ x3).setCell ⟨g0, 3, none⟩ x4).setCell ⟨g0, 4, none⟩ x5).cell? ⟨gx, 4, none⟩ = some (.slice none 0 0)) := by
            intro W x1 x2 x3 x4 x5 hW
            obtain ⟨⟨k3, y0', y1', y2', y3', y4'⟩, hr⟩ := keep W hW
            have o := (set5 hr x1 x2 x3 x4 x5).2
            have e1 := o (g0 + 1) (by omega)
            have e2 := o gx (by omega)
            exact ⟨(cell_kept e1).trans k3, (cell_kept e2).trans y0', (cell_kept e2).trans y1', (cell_kept e2).trans y2', (cell_kept e2).trans y3', (cell_kept e2).trans y4'⟩
          have hbr := fun W (hW : Below wz.heap.size wz W) => branch_any (F := fun b' => g0 < b') (m := m) (kid := kidOf ks) ck (fun x hx => by have := hW.size; show g0 < x; omega) HM.out (hnd.below hW) (by omega) (fun i hi => by
            rw [kidOf_at (by have := hkl.out; omega)]
            exact (hks.out _ (List.getElem_mem _)).1) (by
            refine Nat.le_trans (sumTo_bound _ N n2 fun i hi => ?_) (Nat.le_trans (Nat.mul_le_mul HN2.out.2 HNN.out) (by decide))
            rw [kidOf_at (by have := hkl.out; omega)]
            exact (hks.out _ (List.getElem_mem _)).2)
          have KEEP := Lib.hid keep; clear keep
          have KEEP2 := Lib.hid keep2; clear keep2
          have BR := Lib.hid hbr; clear hbr
          have HWZ := Lib.hid hwz; clear hwz
          have BZ := Lib.hid bz; clear bz
          clear hnd rx q0' q1' hlt hj HK3 HA3 HIH HBLD
          go_wp2_with fail
          rw [← HWZ.out]
          clear z0 z1 z2 z3 z4 f0 f1 f2 f3 f4
          have hz0 : Below wz.heap.size wz wz.drew := (Below.refl _ _).drew
          go_region_held3 (fun W => W.cell? ⟨g0 + 1, 3, none⟩ = some (.int .u32 (m : Int)) ∧ W.cell? ⟨gx, 0, none⟩ = some (.int .i64 0) ∧ W.cell? ⟨gx, 1, none⟩ = some (.int .u64 0) ∧ W.cell? ⟨gx, 2, none⟩ = some (.slice none 0 0) ∧ W.cell? ⟨gx, 3, none⟩ = some (.slice none 0 0) ∧ W.cell? ⟨gx, 4, none⟩ = some (.slice none 0 0))
            (first | (with_reducible exact (KEEP.out _ hz0).1) | (with_reducible exact (KEEP.out _ hzC).1) | (with_reducible exact KEEP2.out _ _ _ _ _ _ hzC)) (first
            | (go_at_call 24; (with_reducible refine (BR.out _ hz0).mono ?_); rintro e wC ⟨vC, rfl, hvC, hC⟩; have hzC := below_then hz0 hC; obtain ⟨⟨k0, k1, k2, k3, k4⟩, f0, f1, f2, f3, f4⟩ := row5 (KEEP.out _ hzC).2))
          all_goals
            go_wp2_with fail
            have S5 := set5 (KEEP.out _ hzC).2 (.int .i64 0) (.int .u64 0) (.slice none 0 0) (.slice none 0 0) (.slice none 0 0)
            refine bodyPost_ret (results_tc rfl _ _ g0 32 _ (0, 0) _ _ rfl S5.1 rfl Try.underlying32 rfl (by kernel_rfl)) rfl ?_
            have hsC : wC.heap.size ≤ (((((wC.setCell ⟨g0, 0, none⟩ (.int .i64 0)).setCell ⟨g0, 1, none⟩ (.int .u64 0)).setCell ⟨g0, 2, none⟩ (.slice none 0 0)).setCell ⟨g0, 3, none⟩ (.slice none 0 0)).setCell ⟨g0, 4, none⟩ (.slice none 0 0)).heap.size := by simp [World.setCell]
            have b03 : Below w.heap.size w w3 := below_then HB2.out B3.out
            have b0z : Below w.heap.size w wz := b03.trans (BZ.out.mono (by have := HG0.out; omega))
            have b5 := (b0z.trans (hzC.mono b0z.size)).trans (below_set5 (.int .i64 0) (.int .u64 0) (.slice none 0 0) (.slice none 0 0) (.slice none 0 0) (show w.heap.size ≤ g0 by have := HG0.out; omega))
            obtain ⟨e1, e2⟩ := built_end (x := .none) (r := ⟨none, 0, none, 0, none, 0⟩) HF.out HG0.out (by rw [← HX.out]; exact hvC) trivial S5.2 hsC
            exact ⟨_, ⟨none, 0, none, 0, none, 0⟩, .none, rfl, e1, e2, trivial, Nat.zero_le _, b5⟩
        | true =>
          have hwt : t = true ∧ someTo (kidOf ks) n2 = true := by
            have := hwh.out
            cases ht' : t <;> cases hs' : someTo (kidOf ks) n2 <;> rw [ht', hs'] at this <;> simp at this <;> exact ⟨rfl, rfl⟩
          have hnl : n2 = l := by
            have := HL.out.2
            rw [hwt.1] at this
            simpa using this.symm
          have hsl : someTo (kidOf ks) ks.length = true := by rw [hkl.out]; exact hwt.2
          have hall := (someTo_list ks).1 hsl
          have hFx : Nd.branch m n2 (kidOf ks) = .bran m n2 (kidOf ks) := by
            unfold Nd.branch
            rw [← HL.out.1, decide_eq_true (show 0 < n2 from HM0.out), decide_eq_true hnl.symm, hwt.2]; rfl
          obtain ⟨Ax, cx, hxk, hmd⟩ := hbd.out.mde (m := m) (fun b' hb' => by omega) (ints_in HIS.out.1 HGX.out hbd.out.bel) (fun a' ea => by have := HIS.out.2 a' ea; have := hbd.out.gx; have := HS2.out; exact ⟨by omega, by have := HGX.out; omega⟩) (by rw [hkl.out]; exact HM0.out) hall
          rw [hkl.out] at hxk hmd
          subst hxk
          obtain ⟨Ak, ck, hvk, hnd⟩ := hbd.out.nds (W' := wr) (fun _ _ _ => rfl) (Nat.le_refl _)
          rw [hkl.out] at hvk hnd
          subst hvk
          have rx := hbd.out.row
          have HX : Hid (Nd.branch m n2 (kidOf ks) = .bran m n2 (kidOf ks) ∧ n2 = l ∧ (∀ y ∈ ks, y ≠ .none)) := ⟨hFx, hnl, hall⟩
          have bz : Below gx w3 wr := hbd.out.bel
          obtain ⟨wz, hwz⟩ : ∃ wz, wz = wr := ⟨_, rfl⟩
          rw [← hwz] at hmd hnd rx bz
          have HMD := Lib.hid hmd; clear hmd
          clear hwt hsl hall hFx hnl
          have hsz : gx < wz.heap.size := (Array.getElem?_eq_some_iff.1 rx).1
          have q0' := (bz.block g0 (by omega)).trans HR3.out.1
          have q1' := (bz.block (g0 + 1) (by omega)).trans HR3.out.2
          have keep : ∀ W, Below wz.heap.size wz W → (W.cell? ⟨g0 + 1, 3, none⟩ = some (.int .u32 (m : Int)) ∧ W.cell? ⟨gx, 0, none⟩ = some (.int .i64 3) ∧ W.cell? ⟨gx, 1, none⟩ = some (.int .u64 0) ∧ W.cell? ⟨gx, 2, none⟩ = some (.slice none 0 0) ∧ W.cell? ⟨gx, 3, none⟩ = some (.slice As l cs) ∧ W.cell? ⟨gx, 4, none⟩ = some (.slice Ax n2 cx)) ∧ W.heap[g0]? = some (.cells #[.int .i64 0, .int .u64 0, .slice none 0 0, .slice none 0 0, .slice none 0 0] 32 (0, 0)) := by
            intro W hW
            obtain ⟨⟨_, _, _, k3, _⟩, _⟩ := row5 ((hW.block (g0 + 1) (by omega)).trans q1')
            obtain ⟨⟨y0', y1', y2', y3', y4'⟩, _⟩ := row5 ((hW.block gx hsz).trans rx)
            exact ⟨⟨k3, y0', y1', y2', y3', y4'⟩, (hW.block g0 (by omega)).trans q0'⟩
          have keep2 : ∀ (W : World) (x1 x2 x3 x4 x5 : Value), Below wz.heap.size wz W → ((((((W.setCell ⟨g0, 0, none⟩ x1).setCell ⟨g0, 1, none⟩ x2).setCell ⟨g0, 2, none⟩ x3).setCell ⟨g0, 3, none⟩ x4).setCell ⟨g0, 4, none⟩ x5).cell? ⟨g0 + 1, 3, none⟩ = some (.int .u32 (m : Int)) ∧ (((((W.setCell ⟨g0, 0, none⟩ x1).setCell ⟨g0, 1, none⟩ x2).setCell ⟨g0, 2, none⟩ x3).setCell ⟨g0, 3, none⟩ x4).setCell ⟨g0, 4, none⟩ x5).cell? ⟨gx, 0, none⟩ = some (.int .i64 3) ∧ (((((W.setCell ⟨g0, 0, none⟩ x1).setCell ⟨g0, 1, none⟩ x2).setCell ⟨g0, 2, none⟩ x3).setCell ⟨g0, 3, none⟩ x4).setCell ⟨g0, 4, none⟩ x5).cell? ⟨gx, 1, none⟩ = some (.int .u64 0) ∧ (((((W.setCell ⟨g0, 0, none⟩ x1).setCell ⟨g0, 1, none⟩ x2).setCell ⟨g0, 2, none⟩ x3).setCell ⟨g0, 3, none⟩ x4).setCell ⟨g0, 4, none⟩ x5).cell? ⟨gx, 2, none⟩ = some (.slice none 0 0) ∧ (((((W.setCell ⟨g0, 0, none⟩ x1).setCell ⟨g0, 1, none⟩ x2).setCell ⟨g0, 2, none⟩ x3).setCell ⟨g0, 3, none⟩ x4).setCell ⟨g0, 4, none⟩ x5).cell? ⟨gx, 3, none⟩ = some (.slice As l cs) ∧ (((((W.setCell ⟨g0, 0, none⟩ x1).setCell ⟨g0, 1, none⟩ x2).setCell ⟨g0, 2, none⟩ x3).setCell ⟨g0, 3, none⟩ x4).setCell ⟨g0, 4, none⟩ x5).cell? ⟨gx, 4, none⟩ = some (.slice Ax n2 cx)) := by
            intro W x1 x2 x3 x4 x5 hW
            obtain ⟨⟨k3, y0', y1', y2', y3', y4'⟩, hr⟩ := keep W hW
            have o := (set5 hr x1 x2 x3 x4 x5).2
            have e1 := o (g0 + 1) (by omega)
            have e2 := o gx (by omega)
            exact ⟨(cell_kept e1).trans k3, (cell_kept e2).trans y0', (cell_kept e2).trans y1', (cell_kept e2).trans y2', (cell_kept e2).trans y3', (cell_kept e2).trans y4'⟩
          have hbr := fun W (hW : Below wz.heap.size wz W) => branch_any (F := fun b' => g0 < b') (m := m) (kid := kidOf ks) ck (fun x hx => by have := hW.size; show g0 < x; omega) HM.out (hnd.below hW) (by omega) (fun i hi => by
            rw [kidOf_at (by have := hkl.out; omega)]
            exact (hks.out _ (List.getElem_mem _)).1) (by
            refine Nat.le_trans (sumTo_bound _ N n2 fun i hi => ?_) (Nat.le_trans (Nat.mul_le_mul HN2.out.2 HNN.out) (by decide))
            rw [kidOf_at (by have := hkl.out; omega)]
            exact (hks.out _ (List.getElem_mem _)).2)
          have KEEP := Lib.hid keep; clear keep
          have KEEP2 := Lib.hid keep2; clear keep2
          have BR := Lib.hid hbr; clear hbr
          have HWZ := Lib.hid hwz; clear hwz
          have BZ := Lib.hid bz; clear bz
          clear hnd rx q0' q1' hlt hj HK3 HA3 HIH HBLD
          go_wp2_with fail
          rw [← HWZ.out]
          have hz0 : Below wz.heap.size wz wz.drew := (Below.refl _ _).drew
          go_region_held3 (fun W => W.cell? ⟨g0 + 1, 3, none⟩ = some (.int .u32 (m : Int)) ∧ W.cell? ⟨gx, 0, none⟩ = some (.int .i64 3) ∧ W.cell? ⟨gx, 1, none⟩ = some (.int .u64 0) ∧ W.cell? ⟨gx, 2, none⟩ = some (.slice none 0 0) ∧ W.cell? ⟨gx, 3, none⟩ = some (.slice As l cs) ∧ W.cell? ⟨gx, 4, none⟩ = some (.slice Ax n2 cx))
            (first | (with_reducible exact (KEEP.out _ hz0).1) | (with_reducible exact (KEEP.out _ hzC).1) | (with_reducible exact KEEP2.out _ _ _ _ _ _ hzC)) (first
            | (go_at_call 24; (with_reducible refine (BR.out _ hz0).mono ?_); rintro e wC ⟨vC, rfl, hvC, hC⟩; have hzC := below_then hz0 hC; obtain ⟨⟨k0, k1, k2, k3, k4⟩, f0, f1, f2, f3, f4⟩ := row5 (KEEP.out _ hzC).2))
          all_goals
            go_wp2_with fail
            have S5 := set5 (KEEP.out _ hzC).2 (.int .i64 3) (.int .u64 0) (.slice none 0 0) (.slice As l cs) (.slice Ax n2 cx)
            refine bodyPost_ret (results_tc rfl _ _ g0 32 _ (0, 0) _ _ rfl S5.1 rfl Try.underlying32 rfl (by kernel_rfl)) rfl ?_
            have hsC : wC.heap.size ≤ (((((wC.setCell ⟨g0, 0, none⟩ (.int .i64 3)).setCell ⟨g0, 1, none⟩ (.int .u64 0)).setCell ⟨g0, 2, none⟩ (.slice none 0 0)).setCell ⟨g0, 3, none⟩ (.slice As l cs)).setCell ⟨g0, 4, none⟩ (.slice Ax n2 cx)).heap.size := by simp [World.setCell]
            have b03 : Below w.heap.size w w3 := below_then HB2.out B3.out
            have b0z : Below w.heap.size w wz := b03.trans (BZ.out.mono (by have := HG0.out; omega))
            have b5 := (b0z.trans (hzC.mono b0z.size)).trans (below_set5 (.int .i64 3) (.int .u64 0) (.slice none 0 0) (.slice As l cs) (.slice Ax n2 cx) (show w.heap.size ≤ g0 by have := HG0.out; omega))
            obtain ⟨e1, e2⟩ := built_end (x := .bran m n2 (kidOf ks)) (r := ⟨none, 0, As, cs, Ax, cx⟩) HF.out HG0.out (by rw [← HX.out.1]; exact hvC) (HMD.out.below hzC) S5.2 hsC
            exact ⟨_, ⟨none, 0, As, cs, Ax, cx⟩, .bran m n2 (kidOf ks), (by simp only [RN.agg, Nd.kind, Nd.hash, Nd.prs, Nd.set, Nd.num, ← HL.out.1]; rfl), e1, e2, ⟨HM.out, HM0.out, by rw [← HL.out.1]; exact HX.out.2.1.symm, fun i hi => by
              rw [kidOf_at (by have := hkl.out; omega)]
              exact ⟨HX.out.2.2 _ (List.getElem_mem _), (hks.out _ (List.getElem_mem _)).1⟩⟩, by
                refine Nat.le_trans (sumTo_bound _ N n2 fun i hi => ?_) (Nat.mul_le_mul_right N HN2.out.2)
                rw [kidOf_at (by have := hkl.out; omega)]
                exact (hks.out _ (List.getElem_mem _)).2, b5⟩
theorem Built.mono {F : Nat → Prop} {N M : Nat} {w w' : World} {e : Ending} (h : Built F N w e w') (hn : N ≤ M) : Built F M w e w' := by
  obtain ⟨v, r, x, h1, h2, h3, h4, h5, h6⟩ := h
  exact ⟨v, r, x, h1, h2, h3, h4, Nat.le_trans h5 hn, h6⟩
theorem fine_all {L : List Pln} (h : fineB L = true) : L.length ≤ 12 ∧ ∀ i (hi : i < L.length), okP L[i] = true := by
  simp only [fineB, Bool.and_eq_true, decide_eq_true_eq] at h
  exact ⟨h.1.1, fun i hi => List.all_eq_true.1 h.1.2 _ (List.getElem_mem hi)⟩
theorem build_to {A : Option Addr} {L : List Pln} (c : Nat) (hf : fineB L = true) : ∀ (d at' : Nat), d ≤ 12 → L.length - at' ≤ d → at' < L.length → ∀ (w : World) (F : Nat → Prop), Fut F w → Pls w A L →
    Calls Try.prog 8 #[.slice A L.length c, .int .i64 (at' : Int)] w (Built F (12 * 6 ^ d) w)
  | 0, at', _, h, hat, _, _, _, _ => absurd h (by omega)
  | d + 1, at', hd, h, hat, w, F, hF, ha => by
    obtain ⟨hl, hok⟩ := fine_all hf
    have h6 : 0 < 6 ^ d := Nat.pow_pos (by decide)
    have h7 : 6 ^ (d + 1) = 6 ^ d * 6 := Nat.pow_succ 6 d
    cases hb : L[at'].br with
    | false => exact (build_leaf c hF ha hat hb (hok at' hat)).mono fun e w' k => k.mono (by omega)
    | true =>
      have h8 : 6 ^ d ≤ 6 ^ 11 := Nat.pow_le_pow_right (by decide) (by omega)
      have h9 : (6 : Nat) ^ 11 = 362797056 := by decide
      exact (build_branch (N := 12 * 6 ^ d) c hF ha hat hb (hok at' hat) (by omega) fun k k1 k2 W G hG hW => build_to c hf d k (by omega) (by omega) k2 W G hG hW).mono fun e w' k => k.mono (by omega)
/-- build: the program's node and the document's are one -/
theorem build_any {F : Nat → Prop} {w : World} {A : Option Addr} {L : List Pln} {at' : Nat} (c : Nat) (hf : fineB L = true) (hat : at' < L.length) (hF : Fut F w) (ha : Pls w A L) :
    Calls Try.prog 8 #[.slice A L.length c, .int .i64 (at' : Int)] w (Built F 100000000000 w) :=
  (build_to c hf 12 at' (Nat.le_refl _) (by have := (fine_all hf).1; omega) hat w F hF ha).mono fun _ _ k => k.mono (by decide)
end Go.Proofs.Ytfhnmmiakknilaa
