/-
  Contract of build at a plan of a leaf or a bucket.
-/
import Derived.Test.YtfhnmmiakknilaaMaking
import Derived.Deep.RegionHeld3
namespace Go.Proofs.Ytfhnmmiakknilaa
open Go.RowKit
set_option maxHeartbeats 8000000
set_option maxRecDepth 100000
theorem results_tc {P : Program} {fn : Func} {p u : Tmp} {ty : TypeId} (h : fn.results = #[.tmp u, .cell p ty]) (tmps : Array Value) (w : World) (g : Nat) (t : TypeId) (cs : Array Value) (fr : Nat × Nat) (d : TypeDesc) (v : Value)
    (hp : tmps.getD p undef = .pointer (some ⟨g, 0, none⟩)) (hg : w.heap[g]? = some (.cells cs t fr)) (hv : tmps.getD u undef = v)
    (hu : P.underlying ty = some d) (hd : (match d with | .struct _ | .array _ _ => true | _ => false) = true) (hi : (P.info? ty).map (·.size) = some cs.size) :
    (results fn tmps).run P w = .ok (.tuple #[v, .agg cs]) w := by
  have hp' : tmps[p]?.getD undef = .pointer (some ⟨g, 0, none⟩) := by simpa using hp
  have hv' : tmps[u]?.getD undef = v := by simpa using hv
  simp [results, h, hp', hv', asAddr, run_loadVar_row w g t ty cs fr d hg hu hd hi]
theorem row5 {w : World} {g : Nat} {a b c d e : Value} {t : TypeId} (h : w.heap[g]? = some (.cells #[a, b, c, d, e] t (0, 0))) :
    (w.cell? ⟨g, 0, none⟩ = some a ∧ w.cell? ⟨g, 1, none⟩ = some b ∧ w.cell? ⟨g, 2, none⟩ = some c ∧ w.cell? ⟨g, 3, none⟩ = some d ∧ w.cell? ⟨g, 4, none⟩ = some e) ∧
      w.frozen? ⟨g, 0, none⟩ = false ∧ w.frozen? ⟨g, 1, none⟩ = false ∧ w.frozen? ⟨g, 2, none⟩ = false ∧ w.frozen? ⟨g, 3, none⟩ = false ∧ w.frozen? ⟨g, 4, none⟩ = false :=
  ⟨⟨row_cell h rfl, row_cell h rfl, row_cell h rfl, row_cell h rfl, row_cell h rfl⟩, by simp [World.frozen?, h], by simp [World.frozen?, h], by simp [World.frozen?, h], by simp [World.frozen?, h], by simp [World.frozen?, h]⟩
theorem set5 {w : World} {g : Nat} {a b c d e : Value} {t : TypeId} (h : w.heap[g]? = some (.cells #[a, b, c, d, e] t (0, 0))) (x1 x2 x3 x4 x5 : Value) :
    (((((w.setCell ⟨g, 0, none⟩ x1).setCell ⟨g, 1, none⟩ x2).setCell ⟨g, 2, none⟩ x3).setCell ⟨g, 3, none⟩ x4).setCell ⟨g, 4, none⟩ x5).heap[g]? = some (.cells #[x1, x2, x3, x4, x5] t (0, 0)) ∧
      ∀ k, k ≠ g → (((((w.setCell ⟨g, 0, none⟩ x1).setCell ⟨g, 1, none⟩ x2).setCell ⟨g, 2, none⟩ x3).setCell ⟨g, 3, none⟩ x4).setCell ⟨g, 4, none⟩ x5).heap[k]? = w.heap[k]? := by
  refine ⟨?_, fun k hk => ?_⟩
  · rw [heap_setCell_same _ g 4 _ t x5 (heap_setCell_same _ g 3 _ t x4 (heap_setCell_same _ g 2 _ t x3 (heap_setCell_same _ g 1 _ t x2 (heap_setCell_same w g 0 _ t x1 h))))]; rfl
  · rw [Below.heap_setCell _ ⟨g, 4, none⟩ x5 k hk, Below.heap_setCell _ ⟨g, 3, none⟩ x4 k hk, Below.heap_setCell _ ⟨g, 2, none⟩ x3 k hk, Below.heap_setCell _ ⟨g, 1, none⟩ x2 k hk, Below.heap_setCell _ ⟨g, 0, none⟩ x1 k hk]
theorem below_set5 {w : World} {g B : Nat} (x1 x2 x3 x4 x5 : Value) (hg : B ≤ g) : Below B w (((((w.setCell ⟨g, 0, none⟩ x1).setCell ⟨g, 1, none⟩ x2).setCell ⟨g, 2, none⟩ x3).setCell ⟨g, 3, none⟩ x4).setCell ⟨g, 4, none⟩ x5) :=
  (((((Below.refl B w).setCell (p := ⟨g, 0, none⟩) hg _).setCell (p := ⟨g, 1, none⟩) hg _).setCell (p := ⟨g, 2, none⟩) hg _).setCell (p := ⟨g, 3, none⟩) hg _).setCell (p := ⟨g, 4, none⟩) hg _
/-- what build tells -/
def Built (F : Nat → Prop) (N : Nat) (w : World) (e : Ending) (w' : World) : Prop := ∃ v r x, e = .returned (.tuple #[v, RN.agg r x]) ∧ Nde F w' x v ∧ Mde F w' x r ∧ x.ok ∧ x.cnt ≤ N ∧ Below w.heap.size w w'
/-- a leaf, a bucket, or none, of what pairs come to -/
def Nd.of (h : Nat) (M : List Pr) : Nd := if M.length = 0 then .none else if M.length = 1 then .leaf h (M.getD 0 ([], [])) else .buck h M
theorem built_end {F : Nat → Prop} {w wC WF : World} {g0 : Nat} {x : Nd} {r : RN} {v : Value} (hF : Fut F w) (hg : g0 = w.heap.size) (hN : Nde (fun b => g0 < b) wC x v) (hM : Mde (fun b => g0 < b) wC x r) (ho : ∀ k, k ≠ g0 → WF.heap[k]? = wC.heap[k]?) (hs : wC.heap.size ≤ WF.heap.size) : Nde F WF x v ∧ Mde F WF x r := by
  have K : Kept (fun b => g0 < b) wC WF := fun b hb _ => ho b (by omega)
  exact ⟨(hN.kept K).mono fun b _ hb => hF b (by omega), (hM.kept K hs).mono fun b _ hb => hF b (by omega)⟩
theorem inb_of {w w' : World} {A : Option Addr} {g : Nat} (h : NewIn (g + 1) w A) (hs : w.heap.size ≤ w'.heap.size) : Inb (fun b => g < b) w' A := fun a e => ⟨(h a e).1, Nat.lt_of_lt_of_le (h a e).2 hs⟩
theorem build_leaf {F : Nat → Prop} {w : World} {A : Option Addr} {L : List Pln} {at' : Nat} (c : Nat) (hF : Fut F w) (ha : Pls w A L) (hat : at' < L.length) (hbr : L[at'].br = false) (hok : okP L[at'] = true) :
    Calls Try.prog 8 #[.slice A L.length c, .int .i64 (at' : Int)] w (Built F 12 w) := by
  unfold Built
  obtain ⟨b, off, pa, pc, ka, kc, rfl, hbl, c0, c1, c2, c3, c4, hp, hk, h1, h2, h3, h4, h5⟩ := ha.at hat
  obtain ⟨p, hpp⟩ : ∃ p, p = L[at'] := ⟨_, rfl⟩
  simp only [← hpp] at c0 c1 c2 c3 c4 hp hk h1 h2 h3 h4 h5 hbr hok
  rw [hbr] at c0
  simp only [okP, Bool.and_eq_true, decide_eq_true_eq] at hok
  obtain ⟨⟨hp12, hty⟩, hk6⟩ := hok
  have hsm := tiny_all hty
  have htc := tiny_come hty
  obtain ⟨M, hM⟩ : ∃ M, M = come p.prs := ⟨_, rfl⟩
  have hcl := come_length p.prs
  have hsr := srt_come p.prs
  rw [← hM] at htc hcl hsr
  obtain ⟨hh, hhh⟩ : ∃ x, x = p.h := ⟨_, rfl⟩
  obtain ⟨st, hst⟩ : ∃ x, x = p.set := ⟨_, rfl⟩
  obtain ⟨n1, hn1⟩ : ∃ x, x = p.prs.length := ⟨_, rfl⟩
  obtain ⟨n2, hn2⟩ : ∃ x, x = p.kids.length := ⟨_, rfl⟩
  obtain ⟨nM, hnM⟩ : ∃ x, x = M.length := ⟨_, rfl⟩
  rw [← hhh] at c1 h1
  rw [← hst] at c3
  rw [← hn1] at c2
  rw [← hn2] at c4
  have hbz : Below w.heap.size w (w.alloc (.cells #[.int .i64 0, .int .u64 0, .slice none 0 0, .slice none 0 0, .slice none 0 0] 32)) := (Below.refl _ _).alloc (Nat.le_refl _) _
  replace c0 := (hbz.cell (p := ⟨b, off + at' * 5, none⟩) hbl).trans c0
  replace c1 := (hbz.cell (p := ⟨b, off + at' * 5 + 1, none⟩) hbl).trans c1
  replace c2 := (hbz.cell (p := ⟨b, off + at' * 5 + 2, none⟩) hbl).trans c2
  replace c3 := (hbz.cell (p := ⟨b, off + at' * 5 + 3, none⟩) hbl).trans c3
  replace c4 := (hbz.cell (p := ⟨b, off + at' * 5 + 4, none⟩) hbl).trans c4
  clear hbz
  obtain ⟨g0, hg0⟩ : ∃ g, g = w.heap.size := ⟨_, rfl⟩
  obtain ⟨w2, hw2⟩ : ∃ w2, w2 = (w.alloc (.cells #[.int .i64 0, .int .u64 0, .slice none 0 0, .slice none 0 0, .slice none 0 0] 32)).alloc (.cells #[.bool false, .int .u64 (hh : Int), .slice pa n1 pc, .int .u32 (st : Int), .slice ka n2 kc] 49) := ⟨_, rfl⟩
  have hb2 : Below w.heap.size w w2 := by rw [hw2]; exact ((Below.refl _ _).alloc (Nat.le_refl _) _).alloc (by simp) _
  have hs2 : w2.heap.size = g0 + 2 := by rw [hw2, hg0]; simp
  have r0 : w2.heap[g0]? = some (.cells #[.int .i64 0, .int .u64 0, .slice none 0 0, .slice none 0 0, .slice none 0 0] 32 (0, 0)) := by
    rw [hw2, hg0, Below.heap_alloc _ _ _ (by simp)]
    exact heap_alloc_new w _
  have r1 : w2.heap[g0 + 1]? = some (.cells #[.bool false, .int .u64 (hh : Int), .slice pa n1 pc, .int .u32 (st : Int), .slice ka n2 kc] 49 (0, 0)) := by
    have := heap_alloc_new (w.alloc (.cells #[.int .i64 0, .int .u64 0, .slice none 0 0, .slice none 0 0, .slice none 0 0] 32)) (.cells #[.bool false, .int .u64 (hh : Int), .slice pa n1 pc, .int .u32 (st : Int), .slice ka n2 kc] 49)
    rw [hw2, hg0]
    simpa using this
  have hof := refOf_any (hp.below hb2) pc (by omega)
  have hcm := fun W (A1 : Option Addr) (c1 : Nat) (hr : Rcs W A1 p.prs) => refCome_any hr c1 (by omega) (fun q hq => by have := hsm q hq; omega)
  have hco := fun W (hW : Below w2.heap.size w2 W) => come_any ((hp.below hb2).below hW) pc (by omega) (fun q hq => by have := hsm q hq; omega)
  have hfr := fun W (g : Nat) (hW : Below w2.heap.size w2 W) (hq : Pcs W (some ⟨g, 0, none⟩) M) => from_any (F := fun b => g0 < b) (fun x hx => by have := hW.size; show g0 < x; omega) hq (Nat.le_refl _) (by omega) (fun x hx => by have := htc x hx; omega)
  have hbu := fun W (pp : Option Addr) (t : Tr) (hW : Below w2.heap.size w2 W) (ht : Tre (fun b => g0 < b) W t pp ∧ t.even ∧ t.list = M) => bucket_any (F := fun b => g0 < b) hh (fun x hx => by have := hW.size; show g0 < x; omega) ht.1 ht.2.1 (by rw [← Tr.length, ht.2.2]; omega) (fun q hq => by rw [ht.2.2] at hq; have := htc q hq; omega)
  have hco2 : ∀ W, Below w2.heap.size w2 W → Calls Try.prog 22 #[.slice pa n1 pc] W fun e w' => ∃ g, e = .returned (.slice (some ⟨g, 0, none⟩) nM nM) ∧ Pcs w' (some ⟨g, 0, none⟩) M ∧ Below W.heap.size W w' := fun W hW => by
    have k := hco W hW
    rw [← hM, ← hnM, ← hn1] at k
    exact k.mono fun e w' ⟨g, q1, q2, q3⟩ => ⟨g, q1, q2.pcs, q3⟩
  have hfr2 : ∀ W (g : Nat), Below w2.heap.size w2 W → Pcs W (some ⟨g, 0, none⟩) M → Calls Try.prog 21 #[.slice (some ⟨g, 0, none⟩) nM nM] W fun e w' => ∃ pp t, e = .returned (.pointer pp) ∧ (Tre (fun b => g0 < b) w' t pp ∧ t.even ∧ t.list = M) ∧ Below W.heap.size W w' := fun W g hW hq => by
    have k := hfr W g hW hq
    rw [← hnM] at k
    exact k.mono fun e w' ⟨pp, t, q1, q2, q3, q4, q5⟩ => ⟨pp, t, q1, ⟨q2, q3, q4⟩, q5⟩
  have hbu2 : ∀ W pp t, Below w2.heap.size w2 W → (Tre (fun b => g0 < b) W t pp ∧ t.even ∧ t.list = M) → Calls Try.prog 20 #[.int .u64 (hh : Int), .pointer pp] W fun e w' => ∃ v, e = .returned v ∧ Nde (fun b => g0 < b) w' (Nd.of hh M) v ∧ Below W.heap.size W w' := fun W pp t hW ht => by
    have k := hbu W pp t hW ht
    rw [ht.2.2] at k
    exact k
  have hcm2 : ∀ W (A1 : Option Addr) (c1 : Nat), Rcs W A1 p.prs → Calls Try.prog 18 #[.slice A1 n1 c1] W fun e w' => ∃ A' c', e = .returned (.slice A' nM c') ∧ Rcs w' A' M ∧ NewIn W.heap.size w' A' ∧ Below W.heap.size W w' := fun W A1 c1 hr => by
    have k := hcm W A1 c1 hr
    rw [← hM, ← hnM, ← hn1] at k
    exact k
  rw [← hn1] at hof
  have OF := Lib.hid hof; clear hof
  have CM := Lib.hid hcm2; clear hcm2 hcm
  have CO := Lib.hid hco2; clear hco2 hco
  have FR := Lib.hid hfr2; clear hfr2 hfr
  have BU := Lib.hid hbu2; clear hbu2 hbu
  have HB2 := Lib.hid hb2; clear hb2
  have HS2 := Lib.hid hs2; clear hs2
  have R0 := Lib.hid r0; clear r0
  have R1 := Lib.hid r1; clear r1
  have HW := Lib.hid hw2; clear hw2
  have HNM := Lib.hid hnM; clear hnM
  have HSR := Lib.hid (And.intro hsr (And.intro (show M.length ≤ 12 by omega) htc)); clear hsr htc hcl
  have HF := Lib.hid hF; clear hF
  have HH := Lib.hid h1; clear h1
  have HG0 := Lib.hid hg0; clear hg0
  have hatL : (at' : Int) < (L.length : Int) := by omega
  clear ha hp hk h2 h3 h4 h5 hbr hsm hty hp12 hk6 hM hhh hst hn1 hn2 hpp hbl
  rcases Nat.lt_or_ge nM 1 with m0 | m0
  · obtain rfl : nM = 0 := by omega
    go_enter Try.func8, Try.ntmps8
    go_wp2_with fail
    simp only [← HG0.out] at HW ⊢
    rw [← HW.out]
    obtain ⟨⟨p0, p1, p2, p3, p4⟩, _⟩ := row5 R1.out
    go_wp2_with fail
    refine OF.out.mono ?_
    rintro e w3 ⟨A1, c1', rfl, ho, b3⟩
    have J := Lib.hid (CM.out w3 A1 c1' ho)
    have B3 := Lib.hid b3
    clear ho b3 p0 p1 p2 p3 p4 c0 c1 c2 c3 c4 OF CM
    go_wp2_with fail
    refine J.out.mono ?_
    rintro e w4 ⟨A2, c2', rfl, hr4, hn4, b4⟩
    have b24 := below_then B3.out b4
    have hl4 := hn4.less (show g0 + 1 ≤ w3.heap.size by have := B3.out.size; have := HS2.out; omega)
    have r14 := (b24.block (g0 + 1) (by have := HS2.out; omega)).trans R1.out
    have r04 := (b24.block g0 (by have := HS2.out; omega)).trans R0.out
    obtain ⟨⟨p0, p1, p2, p3, p4⟩, _⟩ := row5 r14
    have hs4 : g0 + 2 ≤ w4.heap.size := by have := b24.size; have := HS2.out; omega
    obtain ⟨gx, hgx⟩ : ∃ gx, gx = w4.heap.size := ⟨_, rfl⟩
    obtain ⟨w6, hw6⟩ : ∃ w6, w6 = w4.alloc (.cells #[.int .i64 0, .int .u64 0, .slice none 0 0, .slice none 0 0, .slice none 0 0] 32) := ⟨_, rfl⟩
    have b46 : Below w4.heap.size w4 w6 := by rw [hw6]; exact (Below.refl _ _).alloc (Nat.le_refl _) _
    have r6 : w6.heap[gx]? = some (.cells #[.int .i64 0, .int .u64 0, .slice none 0 0, .slice none 0 0, .slice none 0 0] 32 (0, 0)) := by rw [hw6, hgx]; exact heap_alloc_new w4 _
    have hs6 : w6.heap.size = gx + 1 := by rw [hw6, hgx]; simp
    have b26 := below_then b24 b46
    have keep : ∀ W, Below w6.heap.size w6 W → (W.cell? ⟨g0 + 1, 1, none⟩ = some (.int .u64 (hh : Int)) ∧ W.cell? ⟨g0 + 1, 2, none⟩ = some (.slice pa n1 pc) ∧ W.cell? ⟨gx, 0, none⟩ = some (.int .i64 0) ∧ W.cell? ⟨gx, 1, none⟩ = some (.int .u64 0) ∧ W.cell? ⟨gx, 2, none⟩ = some (.slice none 0 0) ∧ W.cell? ⟨gx, 3, none⟩ = some (.slice none 0 0) ∧ W.cell? ⟨gx, 4, none⟩ = some (.slice none 0 0)) ∧
        W.heap[g0]? = some (.cells #[.int .i64 0, .int .u64 0, .slice none 0 0, .slice none 0 0, .slice none 0 0] 32 (0, 0)) := by
      intro W hW
      have q1 := (hW.block (g0 + 1) (by omega)).trans ((b46.block (g0 + 1) (by omega)).trans r14)
      have q2 := (hW.block gx (by omega)).trans r6
      obtain ⟨⟨_, z1, z2, _, _⟩, _⟩ := row5 q1
      obtain ⟨⟨y0, y1, y2, y3, y4⟩, _⟩ := row5 q2
      exact ⟨⟨z1, z2, y0, y1, y2, y3, y4⟩, (hW.block g0 (by omega)).trans ((b46.block g0 (by omega)).trans r04)⟩
    have keep2 : ∀ (W : World) (x1 x2 x3 x4 x5 : Value), Below w6.heap.size w6 W → ((((((W.setCell ⟨g0, 0, none⟩ x1).setCell ⟨g0, 1, none⟩ x2).setCell ⟨g0, 2, none⟩ x3).setCell ⟨g0, 3, none⟩ x4).setCell ⟨g0, 4, none⟩ x5).cell? ⟨g0 + 1, 1, none⟩ = some (.int .u64 (hh : Int)) ∧ (((((W.setCell ⟨g0, 0, none⟩ x1).setCell ⟨g0, 1, none⟩ x2).setCell ⟨g0, 2, none⟩ x3).setCell ⟨g0, 3, none⟩ x4).setCell ⟨g0, 4, none⟩ x5).cell? ⟨g0 + 1, 2, none⟩ = some (.slice pa n1 pc) ∧
        (((((W.setCell ⟨g0, 0, none⟩ x1).setCell ⟨g0, 1, none⟩ x2).setCell ⟨g0, 2, none⟩ x3).setCell ⟨g0, 3, none⟩ x4).setCell ⟨g0, 4, none⟩ x5).cell? ⟨gx, 0, none⟩ = some (.int .i64 0) ∧ (((((W.setCell ⟨g0, 0, none⟩ x1).setCell ⟨g0, 1, none⟩ x2).setCell ⟨g0, 2, none⟩ x3).setCell ⟨g0, 3, none⟩ x4).setCell ⟨g0, 4, none⟩ x5).cell? ⟨gx, 1, none⟩ = some (.int .u64 0) ∧
        (((((W.setCell ⟨g0, 0, none⟩ x1).setCell ⟨g0, 1, none⟩ x2).setCell ⟨g0, 2, none⟩ x3).setCell ⟨g0, 3, none⟩ x4).setCell ⟨g0, 4, none⟩ x5).cell? ⟨gx, 2, none⟩ = some (.slice none 0 0) ∧ (((((W.setCell ⟨g0, 0, none⟩ x1).setCell ⟨g0, 1, none⟩ x2).setCell ⟨g0, 2, none⟩ x3).setCell ⟨g0, 3, none⟩ x4).setCell ⟨g0, 4, none⟩ x5).cell? ⟨gx, 3, none⟩ = some (.slice none 0 0) ∧
        (((((W.setCell ⟨g0, 0, none⟩ x1).setCell ⟨g0, 1, none⟩ x2).setCell ⟨g0, 2, none⟩ x3).setCell ⟨g0, 3, none⟩ x4).setCell ⟨g0, 4, none⟩ x5).cell? ⟨gx, 4, none⟩ = some (.slice none 0 0)) := by
      intro W x1 x2 x3 x4 x5 hW
      obtain ⟨⟨z1, z2, y0, y1, y2, y3, y4⟩, hr⟩ := keep W hW
      have o := (set5 hr x1 x2 x3 x4 x5).2
      have e1 := o (g0 + 1) (by omega)
      have e2 := o gx (by omega)
      exact ⟨(cell_kept e1).trans z1, (cell_kept e1).trans z2, (cell_kept e2).trans y0, (cell_kept e2).trans y1, (cell_kept e2).trans y2, (cell_kept e2).trans y3, (cell_kept e2).trans y4⟩
    have KEEP := Lib.hid keep; clear keep
    have KEEP2 := Lib.hid keep2; clear keep2
    have B26 := Lib.hid b26; clear b26
    have B46 := Lib.hid b46; clear b46
    have HW6 := Lib.hid hw6; clear hw6
    have HGX := Lib.hid hgx; clear hgx
    have HR4 := Lib.hid (And.intro hr4 hl4); clear hr4 hn4 hl4
    clear b4 b24 r14 r04 r6 J B3 R1 R0
    go_wp2_with fail
    simp only [← HGX.out] at HW6 ⊢
    rw [← HW6.out]
    clear p0 p1 p2 p3 p4
    have hz0 : Below w6.heap.size w6 w6.drew := (Below.refl _ _).drew
    go_region_held3 (fun W => W.cell? ⟨g0 + 1, 1, none⟩ = some (.int .u64 (hh : Int)) ∧ W.cell? ⟨g0 + 1, 2, none⟩ = some (.slice pa n1 pc) ∧ W.cell? ⟨gx, 0, none⟩ = some (.int .i64 0) ∧ W.cell? ⟨gx, 1, none⟩ = some (.int .u64 0) ∧ W.cell? ⟨gx, 2, none⟩ = some (.slice none 0 0) ∧ W.cell? ⟨gx, 3, none⟩ = some (.slice none 0 0) ∧ W.cell? ⟨gx, 4, none⟩ = some (.slice none 0 0))
      (first | (with_reducible exact (KEEP.out _ hz0).1) | (with_reducible exact (KEEP.out _ hzA).1) | (with_reducible exact (KEEP.out _ hzB).1) | (with_reducible exact (KEEP.out _ hzC).1) | (with_reducible exact KEEP2.out _ _ _ _ _ _ hzC)) (first
      | (go_at_call 22; (with_reducible refine (CO.out _ (B26.out.trans (hz0.mono B26.out.size))).mono ?_); rintro e wA ⟨gA, rfl, hpA, hA⟩; have hzA := below_then hz0 hA)
      | (go_at_call 21; (with_reducible refine (FR.out _ _ (B26.out.trans (hzA.mono B26.out.size)) hpA).mono ?_); rintro e wB ⟨ppB, tB, rfl, htB, hB⟩; have hzB := below_then hzA hB)
      | (go_at_call 20; (with_reducible refine (BU.out _ _ _ (B26.out.trans (hzB.mono B26.out.size)) htB).mono ?_); rintro e wC ⟨vC, rfl, hvC, hC⟩; have hzC := below_then hzB hC; obtain ⟨⟨k0, k1, k2, k3, k4⟩, f0, f1, f2, f3, f4⟩ := row5 (KEEP.out _ hzC).2))
    all_goals
      go_wp2_with fail
      have S5 := set5 (KEEP.out _ hzC).2 (.int .i64 0) (.int .u64 0) (.slice none 0 0) (.slice none 0 0) (.slice none 0 0)
      refine bodyPost_ret (results_tc rfl _ _ g0 32 _ (0, 0) _ _ rfl S5.1 rfl Try.underlying32 rfl (by kernel_rfl)) rfl ?_
      have b5 : Below w.heap.size w6 _ := (hzC.mono (show w.heap.size ≤ _ by have := HB2.out.size; have := B26.out.size; omega)).trans (below_set5 (.int .i64 0) (.int .u64 0) (.slice none 0 0) (.slice none 0 0) (.slice none 0 0) (show w.heap.size ≤ g0 by have := HG0.out; omega))
      have hM0 : M = [] := List.eq_nil_of_length_eq_zero HNM.out.symm
      have hX : Nd.of hh M = .none := by rw [hM0]; rfl
      rw [hX] at hvC
      have hb4C : Below w4.heap.size w4 wC := below_then B46.out hzC
      have hsC : wC.heap.size ≤ (((((wC.setCell ⟨g0, 0, none⟩ (.int .i64 0)).setCell ⟨g0, 1, none⟩ (.int .u64 0)).setCell ⟨g0, 2, none⟩ (.slice none 0 0)).setCell ⟨g0, 3, none⟩ (.slice none 0 0)).setCell ⟨g0, 4, none⟩ (.slice none 0 0)).heap.size := by simp [World.setCell]
      obtain ⟨e1, e2⟩ := built_end (x := .none) (r := ⟨none, 0, none, 0, none, 0⟩) HF.out HG0.out hvC trivial S5.2 hsC
      exact ⟨_, ⟨none, 0, none, 0, none, 0⟩, .none, rfl, e1, e2, trivial, Nat.zero_le _, (below_then HB2.out B26.out).trans b5⟩
  · rcases Nat.lt_or_ge nM 2 with m1 | m1
    · obtain rfl : nM = 1 := by omega
      go_enter Try.func8, Try.ntmps8
      go_wp2_with fail
      simp only [← HG0.out] at HW ⊢
      rw [← HW.out]
      obtain ⟨⟨p0, p1, p2, p3, p4⟩, _⟩ := row5 R1.out
      go_wp2_with fail
      refine OF.out.mono ?_
      rintro e w3 ⟨A1, c1', rfl, ho, b3⟩
      have J := Lib.hid (CM.out w3 A1 c1' ho)
      have B3 := Lib.hid b3
      clear ho b3 p0 p1 p2 p3 p4 c0 c1 c2 c3 c4 OF CM
      go_wp2_with fail
      refine J.out.mono ?_
      rintro e w4 ⟨A2, c2', rfl, hr4, hn4, b4⟩
      have b24 := below_then B3.out b4
      have hl4 := hn4.less (show g0 + 1 ≤ w3.heap.size by have := B3.out.size; have := HS2.out; omega)
      have r14 := (b24.block (g0 + 1) (by have := HS2.out; omega)).trans R1.out
      have r04 := (b24.block g0 (by have := HS2.out; omega)).trans R0.out
      obtain ⟨⟨p0, p1, p2, p3, p4⟩, _⟩ := row5 r14
      have hs4 : g0 + 2 ≤ w4.heap.size := by have := b24.size; have := HS2.out; omega
      obtain ⟨gx, hgx⟩ : ∃ gx, gx = w4.heap.size := ⟨_, rfl⟩
      obtain ⟨w6, hw6⟩ : ∃ w6, w6 = w4.alloc (.cells #[.int .i64 1, .int .u64 (hh : Int), .slice A2 1 c2', .slice none 0 0, .slice none 0 0] 32) := ⟨_, rfl⟩
      have b46 : Below w4.heap.size w4 w6 := by rw [hw6]; exact (Below.refl _ _).alloc (Nat.le_refl _) _
      have r6 : w6.heap[gx]? = some (.cells #[.int .i64 1, .int .u64 (hh : Int), .slice A2 1 c2', .slice none 0 0, .slice none 0 0] 32 (0, 0)) := by rw [hw6, hgx]; exact heap_alloc_new w4 _
      have hs6 : w6.heap.size = gx + 1 := by rw [hw6, hgx]; simp
      have b26 := below_then b24 b46
      have keep : ∀ W, Below w6.heap.size w6 W → (W.cell? ⟨g0 + 1, 1, none⟩ = some (.int .u64 (hh : Int)) ∧ W.cell? ⟨g0 + 1, 2, none⟩ = some (.slice pa n1 pc) ∧ W.cell? ⟨gx, 0, none⟩ = some (.int .i64 1) ∧ W.cell? ⟨gx, 1, none⟩ = some (.int .u64 (hh : Int)) ∧ W.cell? ⟨gx, 2, none⟩ = some (.slice A2 1 c2') ∧ W.cell? ⟨gx, 3, none⟩ = some (.slice none 0 0) ∧ W.cell? ⟨gx, 4, none⟩ = some (.slice none 0 0)) ∧
          W.heap[g0]? = some (.cells #[.int .i64 0, .int .u64 0, .slice none 0 0, .slice none 0 0, .slice none 0 0] 32 (0, 0)) := by
        intro W hW
        have q1 := (hW.block (g0 + 1) (by omega)).trans ((b46.block (g0 + 1) (by omega)).trans r14)
        have q2 := (hW.block gx (by omega)).trans r6
        obtain ⟨⟨_, z1, z2, _, _⟩, _⟩ := row5 q1
        obtain ⟨⟨y0, y1, y2, y3, y4⟩, _⟩ := row5 q2
        exact ⟨⟨z1, z2, y0, y1, y2, y3, y4⟩, (hW.block g0 (by omega)).trans ((b46.block g0 (by omega)).trans r04)⟩
      have keep2 : ∀ (W : World) (x1 x2 x3 x4 x5 : Value), Below w6.heap.size w6 W → ((((((W.setCell ⟨g0, 0, none⟩ x1).setCell ⟨g0, 1, none⟩ x2).setCell ⟨g0, 2, none⟩ x3).setCell ⟨g0, 3, none⟩ x4).setCell ⟨g0, 4, none⟩ x5).cell? ⟨g0 + 1, 1, none⟩ = some (.int .u64 (hh : Int)) ∧ (((((W.setCell ⟨g0, 0, none⟩ x1).setCell ⟨g0, 1, none⟩ x2).setCell ⟨g0, 2, none⟩ x3).setCell ⟨g0, 3, none⟩ x4).setCell ⟨g0, 4, none⟩ x5).cell? ⟨g0 + 1, 2, none⟩ = some (.slice pa n1 pc) ∧
          (((((W.setCell ⟨g0, 0, none⟩ x1).setCell ⟨g0, 1, none⟩ x2).setCell ⟨g0, 2, none⟩ x3).setCell ⟨g0, 3, none⟩ x4).setCell ⟨g0, 4, none⟩ x5).cell? ⟨gx, 0, none⟩ = some (.int .i64 1) ∧ (((((W.setCell ⟨g0, 0, none⟩ x1).setCell ⟨g0, 1, none⟩ x2).setCell ⟨g0, 2, none⟩ x3).setCell ⟨g0, 3, none⟩ x4).setCell ⟨g0, 4, none⟩ x5).cell? ⟨gx, 1, none⟩ = some (.int .u64 (hh : Int)) ∧
          (((((W.setCell ⟨g0, 0, none⟩ x1).setCell ⟨g0, 1, none⟩ x2).setCell ⟨g0, 2, none⟩ x3).setCell ⟨g0, 3, none⟩ x4).setCell ⟨g0, 4, none⟩ x5).cell? ⟨gx, 2, none⟩ = some (.slice A2 1 c2') ∧ (((((W.setCell ⟨g0, 0, none⟩ x1).setCell ⟨g0, 1, none⟩ x2).setCell ⟨g0, 2, none⟩ x3).setCell ⟨g0, 3, none⟩ x4).setCell ⟨g0, 4, none⟩ x5).cell? ⟨gx, 3, none⟩ = some (.slice none 0 0) ∧
          (((((W.setCell ⟨g0, 0, none⟩ x1).setCell ⟨g0, 1, none⟩ x2).setCell ⟨g0, 2, none⟩ x3).setCell ⟨g0, 3, none⟩ x4).setCell ⟨g0, 4, none⟩ x5).cell? ⟨gx, 4, none⟩ = some (.slice none 0 0)) := by
        intro W x1 x2 x3 x4 x5 hW
        obtain ⟨⟨z1, z2, y0, y1, y2, y3, y4⟩, hr⟩ := keep W hW
        have o := (set5 hr x1 x2 x3 x4 x5).2
        have e1 := o (g0 + 1) (by omega)
        have e2 := o gx (by omega)
        exact ⟨(cell_kept e1).trans z1, (cell_kept e1).trans z2, (cell_kept e2).trans y0, (cell_kept e2).trans y1, (cell_kept e2).trans y2, (cell_kept e2).trans y3, (cell_kept e2).trans y4⟩
      have KEEP := Lib.hid keep; clear keep
      have KEEP2 := Lib.hid keep2; clear keep2
      have B26 := Lib.hid b26; clear b26
      have B46 := Lib.hid b46; clear b46
      have HW6 := Lib.hid hw6; clear hw6
      have HGX := Lib.hid hgx; clear hgx
      have HR4 := Lib.hid (And.intro hr4 hl4); clear hr4 hn4 hl4
      clear b4 b24 r14 r04 r6 J B3 R1 R0
      go_wp2_with fail
      simp only [← HGX.out] at HW6 ⊢
      rw [← HW6.out]
      clear p0 p1 p2 p3 p4
      have hz0 : Below w6.heap.size w6 w6.drew := (Below.refl _ _).drew
      go_region_held3 (fun W => W.cell? ⟨g0 + 1, 1, none⟩ = some (.int .u64 (hh : Int)) ∧ W.cell? ⟨g0 + 1, 2, none⟩ = some (.slice pa n1 pc) ∧ W.cell? ⟨gx, 0, none⟩ = some (.int .i64 1) ∧ W.cell? ⟨gx, 1, none⟩ = some (.int .u64 (hh : Int)) ∧ W.cell? ⟨gx, 2, none⟩ = some (.slice A2 1 c2') ∧ W.cell? ⟨gx, 3, none⟩ = some (.slice none 0 0) ∧ W.cell? ⟨gx, 4, none⟩ = some (.slice none 0 0))
        (first | (with_reducible exact (KEEP.out _ hz0).1) | (with_reducible exact (KEEP.out _ hzA).1) | (with_reducible exact (KEEP.out _ hzB).1) | (with_reducible exact (KEEP.out _ hzC).1) | (with_reducible exact KEEP2.out _ _ _ _ _ _ hzC)) (first
        | (go_at_call 22; (with_reducible refine (CO.out _ (B26.out.trans (hz0.mono B26.out.size))).mono ?_); rintro e wA ⟨gA, rfl, hpA, hA⟩; have hzA := below_then hz0 hA)
        | (go_at_call 21; (with_reducible refine (FR.out _ _ (B26.out.trans (hzA.mono B26.out.size)) hpA).mono ?_); rintro e wB ⟨ppB, tB, rfl, htB, hB⟩; have hzB := below_then hzA hB)
        | (go_at_call 20; (with_reducible refine (BU.out _ _ _ (B26.out.trans (hzB.mono B26.out.size)) htB).mono ?_); rintro e wC ⟨vC, rfl, hvC, hC⟩; have hzC := below_then hzB hC; obtain ⟨⟨k0, k1, k2, k3, k4⟩, f0, f1, f2, f3, f4⟩ := row5 (KEEP.out _ hzC).2))
      all_goals
        go_wp2_with fail
        have S5 := set5 (KEEP.out _ hzC).2 (.int .i64 1) (.int .u64 (hh : Int)) (.slice A2 1 c2') (.slice none 0 0) (.slice none 0 0)
        refine bodyPost_ret (results_tc rfl _ _ g0 32 _ (0, 0) _ _ rfl S5.1 rfl Try.underlying32 rfl (by kernel_rfl)) rfl ?_
        have b5 : Below w.heap.size w6 _ := (hzC.mono (show w.heap.size ≤ _ by have := HB2.out.size; have := B26.out.size; omega)).trans (below_set5 (.int .i64 1) (.int .u64 (hh : Int)) (.slice A2 1 c2') (.slice none 0 0) (.slice none 0 0) (show w.heap.size ≤ g0 by have := HG0.out; omega))
        obtain ⟨q, hq⟩ := List.length_eq_one_iff.1 HNM.out.symm
        have hX : Nd.of hh M = .leaf hh q := by rw [hq]; rfl
        rw [hX] at hvC
        have HQ : Rcs w4 A2 [q] ∧ q.1.length ≤ 1000 ∧ q.2.length ≤ 1000 := by
          have k1 := HR4.out.1
          have k2 := HSR.out.2.2 q (by rw [hq]; simp)
          rw [hq] at k1
          exact ⟨k1, by omega, by omega⟩
        have hb4C : Below w4.heap.size w4 wC := below_then B46.out hzC
        have hsC : wC.heap.size ≤ (((((wC.setCell ⟨g0, 0, none⟩ (.int .i64 1)).setCell ⟨g0, 1, none⟩ (.int .u64 (hh : Int))).setCell ⟨g0, 2, none⟩ (.slice A2 1 c2')).setCell ⟨g0, 3, none⟩ (.slice none 0 0)).setCell ⟨g0, 4, none⟩ (.slice none 0 0)).heap.size := by simp [World.setCell]
        obtain ⟨e1, e2⟩ := built_end (x := (.leaf hh q)) (r := ⟨A2, c2', none, 0, none, 0⟩) HF.out HG0.out hvC ⟨HQ.1.below hb4C, inb_of HR4.out.2 hb4C.size⟩ S5.2 hsC
        exact ⟨_, ⟨A2, c2', none, 0, none, 0⟩, (.leaf hh q), rfl, e1, e2, ⟨HH.out, HQ.2⟩, (by decide : 1 ≤ 12), (below_then HB2.out B26.out).trans b5⟩
    · have d0 : ((nM : Int) == 0) = false := by simpa using (show ¬ (nM : Int) = 0 by omega)
      have d1 : ((nM : Int) == 1) = false := by simpa using (show ¬ (nM : Int) = 1 by omega)
      have HM2 := Lib.hid m1; clear m0 m1
      go_enter Try.func8, Try.ntmps8
      go_wp2_with fail
      simp only [← HG0.out] at HW ⊢
      rw [← HW.out]
      obtain ⟨⟨p0, p1, p2, p3, p4⟩, _⟩ := row5 R1.out
      go_wp2_with fail
      refine OF.out.mono ?_
      rintro e w3 ⟨A1, c1', rfl, ho, b3⟩
      have J := Lib.hid (CM.out w3 A1 c1' ho)
      have B3 := Lib.hid b3
      clear ho b3 p0 p1 p2 p3 p4 c0 c1 c2 c3 c4 OF CM
      go_wp2_with fail
      refine J.out.mono ?_
      rintro e w4 ⟨A2, c2', rfl, hr4, hn4, b4⟩
      have b24 := below_then B3.out b4
      have hl4 := hn4.less (show g0 + 1 ≤ w3.heap.size by have := B3.out.size; have := HS2.out; omega)
      have r14 := (b24.block (g0 + 1) (by have := HS2.out; omega)).trans R1.out
      have r04 := (b24.block g0 (by have := HS2.out; omega)).trans R0.out
      obtain ⟨⟨p0, p1, p2, p3, p4⟩, _⟩ := row5 r14
      have hs4 : g0 + 2 ≤ w4.heap.size := by have := b24.size; have := HS2.out; omega
      obtain ⟨gx, hgx⟩ : ∃ gx, gx = w4.heap.size := ⟨_, rfl⟩
      obtain ⟨w6, hw6⟩ : ∃ w6, w6 = w4.alloc (.cells #[.int .i64 2, .int .u64 (hh : Int), .slice A2 nM c2', .slice none 0 0, .slice none 0 0] 32) := ⟨_, rfl⟩
      have b46 : Below w4.heap.size w4 w6 := by rw [hw6]; exact (Below.refl _ _).alloc (Nat.le_refl _) _
      have r6 : w6.heap[gx]? = some (.cells #[.int .i64 2, .int .u64 (hh : Int), .slice A2 nM c2', .slice none 0 0, .slice none 0 0] 32 (0, 0)) := by rw [hw6, hgx]; exact heap_alloc_new w4 _
      have hs6 : w6.heap.size = gx + 1 := by rw [hw6, hgx]; simp
      have b26 := below_then b24 b46
      have keep : ∀ W, Below w6.heap.size w6 W → (W.cell? ⟨g0 + 1, 1, none⟩ = some (.int .u64 (hh : Int)) ∧ W.cell? ⟨g0 + 1, 2, none⟩ = some (.slice pa n1 pc) ∧ W.cell? ⟨gx, 0, none⟩ = some (.int .i64 2) ∧ W.cell? ⟨gx, 1, none⟩ = some (.int .u64 (hh : Int)) ∧ W.cell? ⟨gx, 2, none⟩ = some (.slice A2 nM c2') ∧ W.cell? ⟨gx, 3, none⟩ = some (.slice none 0 0) ∧ W.cell? ⟨gx, 4, none⟩ = some (.slice none 0 0)) ∧
          W.heap[g0]? = some (.cells #[.int .i64 0, .int .u64 0, .slice none 0 0, .slice none 0 0, .slice none 0 0] 32 (0, 0)) := by
        intro W hW
        have q1 := (hW.block (g0 + 1) (by omega)).trans ((b46.block (g0 + 1) (by omega)).trans r14)
        have q2 := (hW.block gx (by omega)).trans r6
        obtain ⟨⟨_, z1, z2, _, _⟩, _⟩ := row5 q1
        obtain ⟨⟨y0, y1, y2, y3, y4⟩, _⟩ := row5 q2
        exact ⟨⟨z1, z2, y0, y1, y2, y3, y4⟩, (hW.block g0 (by omega)).trans ((b46.block g0 (by omega)).trans r04)⟩
      have keep2 : ∀ (W : World) (x1 x2 x3 x4 x5 : Value), Below w6.heap.size w6 W → ((((((W.setCell ⟨g0, 0, none⟩ x1).setCell ⟨g0, 1, none⟩ x2).setCell ⟨g0, 2, none⟩ x3).setCell ⟨g0, 3, none⟩ x4).setCell ⟨g0, 4, none⟩ x5).cell? ⟨g0 + 1, 1, none⟩ = some (.int .u64 (hh : Int)) ∧ (((((W.setCell ⟨g0, 0, none⟩ x1).setCell ⟨g0, 1, none⟩ x2).setCell ⟨g0, 2, none⟩ x3).setCell ⟨g0, 3, none⟩ x4).setCell ⟨g0, 4, none⟩ x5).cell? ⟨g0 + 1, 2, none⟩ = some (.slice pa n1 pc) ∧
          (((((W.setCell ⟨g0, 0, none⟩ x1).setCell ⟨g0, 1, none⟩ x2).setCell ⟨g0, 2, none⟩ x3).setCell ⟨g0, 3, none⟩ x4).setCell ⟨g0, 4, none⟩ x5).cell? ⟨gx, 0, none⟩ = some (.int .i64 2) ∧ (((((W.setCell ⟨g0, 0, none⟩ x1).setCell ⟨g0, 1, none⟩ x2).setCell ⟨g0, 2, none⟩ x3).setCell ⟨g0, 3, none⟩ x4).setCell ⟨g0, 4, none⟩ x5).cell? ⟨gx, 1, none⟩ = some (.int .u64 (hh : Int)) ∧
          (((((W.setCell ⟨g0, 0, none⟩ x1).setCell ⟨g0, 1, none⟩ x2).setCell ⟨g0, 2, none⟩ x3).setCell ⟨g0, 3, none⟩ x4).setCell ⟨g0, 4, none⟩ x5).cell? ⟨gx, 2, none⟩ = some (.slice A2 nM c2') ∧ (((((W.setCell ⟨g0, 0, none⟩ x1).setCell ⟨g0, 1, none⟩ x2).setCell ⟨g0, 2, none⟩ x3).setCell ⟨g0, 3, none⟩ x4).setCell ⟨g0, 4, none⟩ x5).cell? ⟨gx, 3, none⟩ = some (.slice none 0 0) ∧
          (((((W.setCell ⟨g0, 0, none⟩ x1).setCell ⟨g0, 1, none⟩ x2).setCell ⟨g0, 2, none⟩ x3).setCell ⟨g0, 3, none⟩ x4).setCell ⟨g0, 4, none⟩ x5).cell? ⟨gx, 4, none⟩ = some (.slice none 0 0)) := by
        intro W x1 x2 x3 x4 x5 hW
        obtain ⟨⟨z1, z2, y0, y1, y2, y3, y4⟩, hr⟩ := keep W hW
        have o := (set5 hr x1 x2 x3 x4 x5).2
        have e1 := o (g0 + 1) (by omega)
        have e2 := o gx (by omega)
        exact ⟨(cell_kept e1).trans z1, (cell_kept e1).trans z2, (cell_kept e2).trans y0, (cell_kept e2).trans y1, (cell_kept e2).trans y2, (cell_kept e2).trans y3, (cell_kept e2).trans y4⟩
      have KEEP := Lib.hid keep; clear keep
      have KEEP2 := Lib.hid keep2; clear keep2
      have B26 := Lib.hid b26; clear b26
      have B46 := Lib.hid b46; clear b46
      have HW6 := Lib.hid hw6; clear hw6
      have HGX := Lib.hid hgx; clear hgx
      have HR4 := Lib.hid (And.intro hr4 hl4); clear hr4 hn4 hl4
      clear b4 b24 r14 r04 r6 J B3 R1 R0
      go_wp2_with fail
      simp only [← HGX.out] at HW6 ⊢
      rw [← HW6.out]
      clear p0 p1 p2 p3 p4
      have hz0 : Below w6.heap.size w6 w6.drew := (Below.refl _ _).drew
      go_region_held3 (fun W => W.cell? ⟨g0 + 1, 1, none⟩ = some (.int .u64 (hh : Int)) ∧ W.cell? ⟨g0 + 1, 2, none⟩ = some (.slice pa n1 pc) ∧ W.cell? ⟨gx, 0, none⟩ = some (.int .i64 2) ∧ W.cell? ⟨gx, 1, none⟩ = some (.int .u64 (hh : Int)) ∧ W.cell? ⟨gx, 2, none⟩ = some (.slice A2 nM c2') ∧ W.cell? ⟨gx, 3, none⟩ = some (.slice none 0 0) ∧ W.cell? ⟨gx, 4, none⟩ = some (.slice none 0 0))
        (first | (with_reducible exact (KEEP.out _ hz0).1) | (with_reducible exact (KEEP.out _ hzA).1) | (with_reducible exact (KEEP.out _ hzB).1) | (with_reducible exact (KEEP.out _ hzC).1) | (with_reducible exact KEEP2.out _ _ _ _ _ _ hzC)) (first
        | (go_at_call 22; (with_reducible refine (CO.out _ (B26.out.trans (hz0.mono B26.out.size))).mono ?_); rintro e wA ⟨gA, rfl, hpA, hA⟩; have hzA := below_then hz0 hA)
        | (go_at_call 21; (with_reducible refine (FR.out _ _ (B26.out.trans (hzA.mono B26.out.size)) hpA).mono ?_); rintro e wB ⟨ppB, tB, rfl, htB, hB⟩; have hzB := below_then hzA hB)
        | (go_at_call 20; (with_reducible refine (BU.out _ _ _ (B26.out.trans (hzB.mono B26.out.size)) htB).mono ?_); rintro e wC ⟨vC, rfl, hvC, hC⟩; have hzC := below_then hzB hC; obtain ⟨⟨k0, k1, k2, k3, k4⟩, f0, f1, f2, f3, f4⟩ := row5 (KEEP.out _ hzC).2))
      all_goals
        go_wp2_with fail
        have S5 := set5 (KEEP.out _ hzC).2 (.int .i64 2) (.int .u64 (hh : Int)) (.slice A2 nM c2') (.slice none 0 0) (.slice none 0 0)
        refine bodyPost_ret (results_tc rfl _ _ g0 32 _ (0, 0) _ _ rfl S5.1 rfl Try.underlying32 rfl (by kernel_rfl)) rfl ?_
        have b5 : Below w.heap.size w6 _ := (hzC.mono (show w.heap.size ≤ _ by have := HB2.out.size; have := B26.out.size; omega)).trans (below_set5 (.int .i64 2) (.int .u64 (hh : Int)) (.slice A2 nM c2') (.slice none 0 0) (.slice none 0 0) (show w.heap.size ≤ g0 by have := HG0.out; omega))
        have hX : Nd.of hh M = .buck hh M := by
          unfold Nd.of
          rw [if_neg (by have := HNM.out; have := HM2.out; omega), if_neg (by have := HNM.out; have := HM2.out; omega)]
        rw [hX] at hvC
        have hb4C : Below w4.heap.size w4 wC := below_then B46.out hzC
        have hsC : wC.heap.size ≤ (((((wC.setCell ⟨g0, 0, none⟩ (.int .i64 2)).setCell ⟨g0, 1, none⟩ (.int .u64 (hh : Int))).setCell ⟨g0, 2, none⟩ (.slice A2 nM c2')).setCell ⟨g0, 3, none⟩ (.slice none 0 0)).setCell ⟨g0, 4, none⟩ (.slice none 0 0)).heap.size := by simp [World.setCell]
        obtain ⟨e1, e2⟩ := built_end (x := (.buck hh M)) (r := ⟨A2, c2', none, 0, none, 0⟩) HF.out HG0.out hvC ⟨HR4.out.1.below hb4C, inb_of HR4.out.2 hb4C.size⟩ S5.2 hsC
        exact ⟨_, ⟨A2, c2', none, 0, none, 0⟩, (.buck hh M), (by rw [HNM.out]; rfl), e1, e2, ⟨HH.out, by have := HNM.out; have := HM2.out; omega, by have := HSR.out.2.1; omega, HSR.out.1, fun q hq => by have := HSR.out.2.2 q hq; omega⟩, HSR.out.2.1, (below_then HB2.out B26.out).trans b5⟩
end Go.Proofs.Ytfhnmmiakknilaa
