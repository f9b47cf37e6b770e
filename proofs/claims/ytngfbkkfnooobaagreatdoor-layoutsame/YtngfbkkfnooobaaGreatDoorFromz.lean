/-
  Contracts of first, Pair and Join: a tree's first pair, two trees made one.
-/
import Derived.Test.YtngfbkkfnooobaaGreatDoorNode
namespace Go.Proofs.YtngfbkkfnooobaaGreatDoor
open Go.RowKit
set_option maxHeartbeats 4000000
set_option maxRecDepth 100000
theorem results_two {P : Program} {fn : Func} {p u : Tmp} {ty : TypeId} (h : fn.results = #[.cell p ty, .tmp u]) (tmps : Array Value) (w : World) (g : Nat) (t : TypeId) (cs : Array Value) (fr : Nat × Nat) (d : TypeDesc) (v : Value)
    (hp : tmps.getD p undef = .pointer (some ⟨g, 0, none⟩)) (hg : w.heap[g]? = some (.cells cs t fr)) (hv : tmps.getD u undef = v)
    (hu : P.underlying ty = some d) (hd : (match d with | .struct _ | .array _ _ => true | _ => false) = true) (hi : (P.info? ty).map (·.size) = some cs.size) :
    (results fn tmps).run P w = .ok (.tuple #[.agg cs, v]) w := by
  have hp' : tmps[p]?.getD undef = .pointer (some ⟨g, 0, none⟩) := by simpa using hp
  have hv' : tmps[u]?.getD undef = v := by simpa using hv
  simp [results, h, hp', hv', asAddr, run_loadVar_row w g t ty cs fr d hg hu hd hi]
/-- a new block of two slices stays where a call counts -/
theorem new_stays {m : Option Addr} {w w1 : World} {v c : Nat} {a b : Value} {t : TypeId} (ha : ∀ z : Int, a ≠ .int .i64 z) (hm : Met w m v c) (ho : Only m (w.alloc (.cells #[a, b] t)) w1) :
    w1.heap[w.heap.size]? = some (.cells #[a, b] t (0, 0)) := by
  have r0 : (w.alloc (.cells #[a, b] t)).heap[w.heap.size]? = some (.cells #[a, b] t (0, 0)) := heap_alloc_new w _
  have c0 : (w.alloc (.cells #[a, b] t)).cell? ⟨w.heap.size, 0, none⟩ = some a := by rw [cell_of_row _ _ 0 _ t (0, 0) r0]; rfl
  have e := ho.cell (hm.below ((Below.refl _ _).alloc (Nat.le_refl _) _)) c0 ha (by simp)
  exact e.trans r0
theorem row2 {w : World} {g : Nat} {a b : Value} {t : TypeId} (h : w.heap[g]? = some (.cells #[a, b] t (0, 0))) : w.cell? ⟨g, 0, none⟩ = some a ∧ w.cell? ⟨g, 1, none⟩ = some b ∧ w.frozen? ⟨g, 0, none⟩ = false ∧ w.frozen? ⟨g, 1, none⟩ = false := by
  refine ⟨?_, ?_, ?_, ?_⟩
  · rw [cell_of_row w g _ _ t (0, 0) h]; rfl
  · rw [cell_of_row w g _ _ t (0, 0) h]; rfl
  · simp [World.frozen?, h]
  · simp [World.frozen?, h]
theorem set2 {w : World} {g : Nat} {a b : Value} {t : TypeId} (h : w.heap[g]? = some (.cells #[a, b] t (0, 0))) (x y : Value) :
    ((w.setCell ⟨g, 0, none⟩ x).setCell ⟨g, 1, none⟩ y).heap[g]? = some (.cells #[x, y] t (0, 0)) ∧ ∀ k, k ≠ g → ((w.setCell ⟨g, 0, none⟩ x).setCell ⟨g, 1, none⟩ y).heap[k]? = w.heap[k]? := by
  refine ⟨?_, fun k hk => ?_⟩
  · rw [heap_setCell_same _ g 1 _ t y (heap_setCell_same w g 0 _ t x h)]; rfl
  · rw [Below.heap_setCell _ ⟨g, 1, none⟩ y k hk, Below.heap_setCell _ ⟨g, 0, none⟩ x k hk]
theorem below_set2 {w : World} {g B : Nat} (x y : Value) (hg : B ≤ g) : Below B w ((w.setCell ⟨g, 0, none⟩ x).setCell ⟨g, 1, none⟩ y) :=
  ((Below.refl B w).setCell (p := ⟨g, 0, none⟩) hg _).setCell (p := ⟨g, 1, none⟩) hg _
theorem Only.then_below {m : Option Addr} {w w1 W : World} (h : Only m w w1) (k : Below w.heap.size w1 W) : Only m w W :=
  ⟨k.os.trans h.os, k.tape.trans h.tape, k.output.trans h.output, Nat.le_trans h.size k.size, fun i hi hm => (k.block i hi).trans (h.block i hi hm)⟩
theorem Met.then_below {m : Option Addr} {w w1 W : World} {v c v0 c0 : Nat} (h0 : Met w m v0 c0) (h : Met w1 m v c) (k : Below w.heap.size w1 W) : Met W m v c := by
  rcases h with rfl | ⟨g, rfl, h⟩
  · exact .inl rfl
  · rcases h0 with e | ⟨g', e, h0⟩
    · cases e
    · injection e with e
      injection e with e
      subst e
      exact .inr ⟨g, rfl, (k.block g (Array.getElem?_eq_some_iff.1 h0).1).trans h⟩
/-- block g holds a variable of two slices: no tree's node, no bytes, no meter -/
def Spare (w : World) (g : Nat) : Prop := ∃ a n c a' n' c', w.heap[g]? = some (.cells #[.slice a n c, .slice a' n' c'] 122 (0, 0))
theorem Byt.away {F : Nat → Prop} {w w' : World} {g : Nat} {A : Option Addr} {l : List UInt8} (h : Byt F w A l) (hg : Spare w g) (k : ∀ k, k ≠ g → w'.heap[k]? = w.heap[k]?) : Byt F w' A l := by
  rcases h with h | ⟨b, off, h1, hf, h2, h3⟩
  · exact .inl h
  · by_cases hl : l = []
    · exact .inl hl
    · have hb : b ≠ g := by
        rintro rfl
        obtain ⟨a, n, c, a', n', c', hg⟩ := hg
        have := h3 0 (List.length_pos_iff.2 hl)
        rw [cell_of_row w b _ _ 122 (0, 0) hg] at this
        match off + 0, this with
        | 0, hc => injection hc with hc; cases hc
        | 1, hc => injection hc with hc; cases hc
        | n + 2, hc => simp at hc
      exact .inr ⟨b, off, h1, hf, lt_kept (k b hb) h2, fun i hi => (cell_kept (k b hb)).trans (h3 i hi)⟩
theorem Tre.away {F : Nat → Prop} {w w' : World} {g : Nat} (hg : Spare w g) (k : ∀ k, k ≠ g → w'.heap[k]? = w.heap[k]?) : ∀ {t : Tr} {p : Option Addr}, Tre F w t p → Tre F w' t p
  | .nil, _, h => h
  | .node _ _ _, _, ⟨b, ka, kc, va, vc, pl, pr, h1, h2, h3, h4⟩ => by
    have hb : b ≠ g := by
      rintro rfl
      obtain ⟨a, n, c, a', n', c', hg⟩ := hg
      have := h2.2.1
      rw [hg] at this
      injection this with this
      injection this with this
      simp at this
    exact ⟨b, ka, kc, va, vc, pl, pr, h1, ⟨h2.1, (k b hb).trans h2.2.1, h2.2.2.1.away hg k, h2.2.2.2.away hg k⟩, h3.away hg k, h4.away hg k⟩
theorem Met.away {m : Option Addr} {w w' : World} {g v c : Nat} (h : Met w m v c) (hg : Spare w g) (k : ∀ k, k ≠ g → w'.heap[k]? = w.heap[k]?) : Met w' m v c := by
  rcases h with h | ⟨b, h1, h2⟩
  · exact .inl h
  · refine .inr ⟨b, h1, (k b ?_).trans h2⟩
    rintro rfl
    obtain ⟨a, n, c, a', n', c', hg⟩ := hg
    rw [hg] at h2
    injection h2 with h2
    injection h2 with h2
    simp at h2
end Go.Proofs.YtngfbkkfnooobaaGreatDoor
/-
  Contracts of Pair, Join, Height, Left, Right, Root.
-/
namespace Go.Proofs.YtngfbkkfnooobaaGreatDoor
open Go.RowKit
set_option maxHeartbeats 4000000
set_option maxRecDepth 100000
theorem tre_some {F : Nat → Prop} {w : World} {t : Tr} {p : Option Addr} (h : Tre F w t p) (hn : t ≠ .nil) : ∃ b, p = some ⟨b, 0, none⟩ ∧ b < w.heap.size := by
  cases t with
  | nil => exact absurd rfl hn
  | node a k c => obtain ⟨b, _, _, _, _, _, _, rfl, h, _⟩ := h; exact ⟨_, rfl, h.lt⟩
theorem byt_new {F : Nat → Prop} {w w' : World} {g : Nat} {l : List UInt8} (h : NewRow w.heap.size w' g l) (hF : Fut F w) : Byt F w' (some ⟨g, 0, none⟩) l := byt_row (hF g h.1) h.2
/-- keep, as a tree's own pair -/
theorem kept_any {F : Nat → Prop} {w : World} {ka va : Option Addr} {q : Pr} (kc vc : Nat) (hF : Fut F w) (hk : Bts w ka q.1) (hv : Bts w va q.2) (hn : q.1.length ≤ 100000 ∧ q.2.length ≤ 100000) :
    Calls Tryz.prog 69 #[.agg #[.slice ka q.1.length kc, .slice va q.2.length vc]] w fun e w' => ∃ ja jc ua uc, e = .returned (.agg #[.slice ja q.1.length jc, .slice ua q.2.length uc]) ∧ Byt F w' ja q.1 ∧ Byt F w' ua q.2 ∧ Below w.heap.size w w' := by
  refine (keep_any kc vc hk hv hn).mono ?_
  rintro e w' ⟨g1, g2, rfl, h1, h2, _, h4⟩
  exact ⟨_, _, _, _, rfl, byt_new h1 hF, byt_new h2 hF, h4⟩
theorem box_pair (w : World) (ka va : Option Addr) (x kc y vc : Nat) : ∃ w1, w1 = w.alloc (.cells #[.slice ka x kc, .slice va y vc] 48) ∧ Below w.heap.size w w1 ∧ w1.heap.size = w.heap.size + 1 ∧
    ∀ W, Below w1.heap.size w1 W → W.cell? ⟨w.heap.size, 0, none⟩ = some (.slice ka x kc) ∧ W.cell? ⟨w.heap.size, 1, none⟩ = some (.slice va y vc) := by
  refine ⟨_, rfl, (Below.refl _ _).alloc (Nat.le_refl _) _, by simp, fun W hW => ?_⟩
  have r0 : W.heap[w.heap.size]? = some (.cells #[.slice ka x kc, .slice va y vc] 48 (0, 0)) := (hW.block _ (by simp)).trans (heap_alloc_new w _)
  constructor
  · rw [cell_of_row W _ _ _ 48 (0, 0) r0]; rfl
  · rw [cell_of_row W _ _ _ 48 (0, 0) r0]; rfl
def Tr.left : Tr → Tr
  | .nil => .nil
  | .node l _ _ => l
def Tr.right : Tr → Tr
  | .nil => .nil
  | .node _ _ r => r
theorem root_nil (w : World) : Calls Tryz.prog 67 #[.pointer none] w fun e w' => e = .returned (.agg #[.slice none 0 0, .slice none 0 0]) ∧ Below w.heap.size w w' := by
  have hb : Below w.heap.size w (w.alloc (.cells #[.slice none 0 0, .slice none 0 0] 48)) := (Below.refl _ _).alloc (Nat.le_refl _) _
  have r0 : (w.alloc (.cells #[.slice none 0 0, .slice none 0 0] 48)).heap[w.heap.size]? = some (.cells #[.slice none 0 0, .slice none 0 0] 48 (0, 0)) := heap_alloc_new w _
  obtain ⟨w1, hw1⟩ : ∃ w1, w1 = w.alloc (.cells #[.slice none 0 0, .slice none 0 0] 48) := ⟨_, rfl⟩
  rw [← hw1] at hb r0
  obtain ⟨d0, d1, f0, f1⟩ := row2 r0
  have s2 := set2 r0 (.slice none 0 0) (.slice none 0 0)
  have b2 := below_set2 (w := w1) (g := w.heap.size) (.slice none 0 0) (.slice none 0 0) (Nat.le_refl _)
  have HB := Lib.hid hb; clear hb
  have HS := Lib.hid s2; clear s2
  have HB2 := Lib.hid b2; clear b2
  have HW := Lib.hid hw1; clear hw1
  clear r0
  go_enter Tryz.func67, Tryz.ntmps67
  go_wp2_with (rw [← HW.out])
  refine bodyPost_ret (results_cell_row rfl _ _ w.heap.size 48 _ (0, 0) _ rfl HS.out.1 Tryz.underlying48 rfl (by kernel_rfl)) rfl ?_
  exact ⟨rfl, HB.out.trans HB2.out⟩
theorem root_any {F : Nat → Prop} {w : World} {l r : Tr} {q : Pr} {p : Option Addr} (h : Tre F w (.node l q r) p) (hn : q.1.length ≤ 100000 ∧ q.2.length ≤ 100000) :
    Calls Tryz.prog 67 #[.pointer p] w fun e w' => ∃ g1 g2, e = .returned (.agg #[.slice (some ⟨g1, 0, none⟩) q.1.length q.1.length, .slice (some ⟨g2, 0, none⟩) q.2.length q.2.length]) ∧ NewRow w.heap.size w' g1 q.1 ∧ NewRow w.heap.size w' g2 q.2 ∧ Below w.heap.size w w' := by
  obtain ⟨b, ka, kc, va, vc, pl, pr, rfl, h, hl, hr⟩ := h
  have hb : Below w.heap.size w (w.alloc (.cells #[.slice none 0 0, .slice none 0 0] 48)) := (Below.refl _ _).alloc (Nat.le_refl _) _
  have r0 : (w.alloc (.cells #[.slice none 0 0, .slice none 0 0] 48)).heap[w.heap.size]? = some (.cells #[.slice none 0 0, .slice none 0 0] 48 (0, 0)) := heap_alloc_new w _
  obtain ⟨w1, hw1⟩ : ∃ w1, w1 = w.alloc (.cells #[.slice none 0 0, .slice none 0 0] 48) := ⟨_, rfl⟩
  have hsz : w1.heap.size = w.heap.size + 1 := by rw [hw1]; simp
  rw [← hw1] at hb r0
  obtain ⟨c0, c1, _, _, _⟩ := (h.below hb).cells
  have ht := told_any kc vc ((h.below hb).2.2.1).bts ((h.below hb).2.2.2).bts hn
  obtain ⟨x1, hx1⟩ : ∃ k, k = q.1.length := ⟨_, rfl⟩
  obtain ⟨x2, hx2⟩ : ∃ k, k = q.2.length := ⟨_, rfl⟩
  simp only [← hx1, ← hx2] at c0 c1 ht ⊢
  have HT := Lib.hid ht; clear ht
  have HB := Lib.hid hb; clear hb
  have HR := Lib.hid r0; clear r0
  have HW := Lib.hid hw1; clear hw1
  have HSZ := Lib.hid hsz; clear hsz
  clear h hl hr hn hx1 hx2
  go_enter Tryz.func67, Tryz.ntmps67
  go_wp2_with (rw [← HW.out])
  refine HT.out.mono ?_
  rintro e w2 ⟨g1, g2, rfl, h1, h2, h3, h4⟩
  have r2 := (h4.block w.heap.size (by have := HSZ.out; omega)).trans HR.out
  obtain ⟨d0, d1, f0, f1⟩ := row2 r2
  have HS := Lib.hid (set2 r2 (.slice (some ⟨g1, 0, none⟩) x1 x1) (.slice (some ⟨g2, 0, none⟩) x2 x2))
  have HB2 := Lib.hid (below_set2 (w := w2) (g := w.heap.size) (.slice (some ⟨g1, 0, none⟩) x1 x1) (.slice (some ⟨g2, 0, none⟩) x2 x2) (Nat.le_refl _))
  have H1 := Lib.hid h1; clear h1
  have H2 := Lib.hid h2; clear h2
  have H4 := Lib.hid h4; clear h4
  clear c0 c1 r2
  go_wp2_with fail
  refine bodyPost_ret (results_cell_row rfl _ _ w.heap.size 48 _ (0, 0) _ rfl HS.out.1 Tryz.underlying48 rfl (by kernel_rfl)) rfl ?_
  have hz := HSZ.out
  have a1 := H1.out.1
  have a2 := H2.out.1
  refine ⟨g1, g2, rfl, ⟨by omega, (HS.out.2 g1 (by omega)).trans H1.out.2⟩, ⟨by omega, (HS.out.2 g2 (by omega)).trans H2.out.2⟩, ?_⟩
  exact (below_then HB.out H4.out).trans HB2.out
end Go.Proofs.YtngfbkkfnooobaaGreatDoor
/-
  The contract of From: an even tree of a list's pairs.
-/
namespace Go.Proofs.YtngfbkkfnooobaaGreatDoor
open Go.RowKit
set_option maxHeartbeats 4000000
set_option maxRecDepth 100000
def restP (A : Option Addr) (c k : Nat) : Option Addr := if c = k then A else A.map (·.add (k * 2))
theorem slice_rest (A : Option Addr) (n c k : Nat) (hk : k ≤ n) (W : World) (z : Int) (hz : z = (k : Int)) :
    (Instr.slice 77 (.slice A n c) (some (.int .i64 z)) none none).run Tryz.prog W = .ok (.slice (restP A c k) (n - k) (c - k)) W := by
  subst hz
  have hz : ∀ W, (sizeOf (Tryz.prog.elem 77)).run Tryz.prog W = .ok 2 W := fun W => by kernel_rfl
  rw [run_slice_l W 77 A n c Tryz.underlying77 .i64 (k : Int) (by omega) (by omega), hz]
  simp only [Result.andThen, sliced, Int.toNat_natCast, restP]
theorem slice_front (A : Option Addr) (n c k : Nat) (hk : k ≤ c) (W : World) :
    (Instr.slice 77 (.slice A n c) none (some (.int .i64 (k : Int))) none).run Tryz.prog W = .ok (.slice A k c) W := by
  have hz : ∀ W, (sizeOf (Tryz.prog.elem 77)).run Tryz.prog W = .ok 2 W := fun W => by kernel_rfl
  rw [run_slice_h W 77 A n c Tryz.underlying77 .i64 (k : Int) (by omega) (by omega), hz]
  simp only [Result.andThen, sliced, Int.toNat_natCast, Nat.sub_zero]
  congr 2
  split
  · rfl
  · cases A <;> simp [Addr.add]
theorem Pcs.rest {W : World} {A : Option Addr} {L : List Pr} (h : Pcs W A L) (c k : Nat) (hc : L.length ≤ c) : Pcs W (restP A c k) (L.drop k) := by
  by_cases hk : L.length ≤ k
  · left; rw [List.drop_eq_nil_iff]; exact hk
  · rcases h with rfl | ⟨b, off, rfl, hlt, hcl⟩
    · left; simp
    · refine .inr ⟨b, off + k * 2, ?_, hlt, fun i hi => ?_⟩
      · rw [restP, if_neg (by omega), Option.map_some, Go.WideShapes.add_plain]
      · rw [List.length_drop] at hi
        obtain ⟨ka, kc, va, vc, h1, h2, h3, h4⟩ := hcl (k + i) (by omega)
        rw [List.getElem_drop]
        refine ⟨ka, kc, va, vc, ?_, ?_, h3, h4⟩
        · rw [← h1]; congr 2; omega
        · rw [← h2]; congr 2; omega
theorem Pcs.front {W : World} {A : Option Addr} {L : List Pr} (h : Pcs W A L) (k : Nat) : Pcs W A (L.take k) := by
  rcases h with rfl | ⟨b, off, rfl, hlt, hcl⟩
  · left; simp
  · refine .inr ⟨b, off, rfl, hlt, fun i hi => ?_⟩
    rw [List.length_take] at hi
    rw [List.getElem_take]
    exact hcl i (by omega)
/-- what From promises of lists shorter than n -/
def FromAt (F : Nat → Prop) (n : Nat) : Prop := ∀ (w : World) (A : Option Addr) (c : Nat) (L : List Pr), Fut F w → Pcs w A L → L.length ≤ c → L.length < n → (∀ x ∈ L, x.1.length ≤ 100000 ∧ x.2.length ≤ 100000) →
  Calls Tryz.prog 40 #[.slice A L.length c] w fun e w' => ∃ p t, e = .returned (.pointer p) ∧ Tre F w' t p ∧ t.even ∧ t.list = L ∧ Below w.heap.size w w'
theorem from_more {F : Nat → Prop} {n : Nat} (ih : FromAt F n) (w : World) (A : Option Addr) (c : Nat) (L : List Pr) (hF : Fut F w) (ha : Pcs w A L) (hc : L.length ≤ c) (hn : L.length ≤ n) (hn2 : n ≤ 1000) (hf : ∀ x ∈ L, x.1.length ≤ 100000 ∧ x.2.length ≤ 100000) (h0 : 0 < L.length) :
    Calls Tryz.prog 40 #[.slice A L.length c] w fun e w' => ∃ p t, e = .returned (.pointer p) ∧ Tre F w' t p ∧ t.even ∧ t.list = L ∧ Below w.heap.size w w' := by
  obtain ⟨m, hm⟩ : ∃ m, m = L.length / 2 := ⟨_, rfl⟩
  have hml : m < L.length := by omega
  obtain ⟨b, off, ka, kc, va, vc, rfl, hbl, c0, c1, c2, c3⟩ := ha.at hml
  have i1 := fun W (hW : Below w.heap.size w W) => ih W (some ⟨b, off, none⟩) c (L.take m) (hF.later hW.size) ((ha.front m).below hW) (by rw [List.length_take]; omega) (by rw [List.length_take]; omega) (fun x hx => hf x (List.mem_of_mem_take hx))
  have i2 := fun W (hW : Below w.heap.size w W) => kept_any kc vc (hF.later hW.size) (c2.below hW) (c3.below hW) (hf _ (List.getElem_mem hml))
  have i3 := fun W (hW : Below w.heap.size w W) => ih W (restP (some ⟨b, off, none⟩) c (m + 1)) (c - (m + 1)) (L.drop (m + 1)) (hF.later hW.size) ((ha.rest c (m + 1) hc).below hW) (by rw [List.length_drop]; omega) (by rw [List.length_drop]; omega) (fun x hx => hf x (List.mem_of_mem_drop hx))
  have i4 := fun W (hW : Below w.heap.size w W) p1 t1 p3 t3 ja jc ua uc (h1 : Tre F W t1 p1) (h3 : Tre F W t3 p3) (hj : Byt F W ja (L[m]).1) (hu : Byt F W ua (L[m]).2) (e1 : t1.list = L.take m) (e3 : t3.list = L.drop (m + 1)) => node_any jc uc (hF.later hW.size) h1 h3 hj hu (by rw [← Tr.length, ← Tr.length, e1, e3, List.length_take, List.length_drop]; omega)
  have hlist : ∀ t1 t3, t1.even → t3.even → t1.list = L.take m → t3.list = L.drop (m + 1) → (Tr.node t1 (L[m]) t3).even ∧ (Tr.node t1 (L[m]) t3).list = L := by
    intro t1 t3 g1 g3 e1 e3
    refine ⟨⟨?_, g1, g3⟩, ?_⟩
    · rw [← Tr.length, ← Tr.length, e1, e3, List.length_take, List.length_drop, ev_true]
      omega
    · show t1.list ++ L[m] :: t3.list = L
      rw [e1, e3, List.getElem_cons_drop, List.take_append_drop]
  have hl1 : (L.take m).length = m := by rw [List.length_take]; omega
  have hs1 := slice_front (some ⟨b, off, none⟩) L.length c m (by omega)
  obtain ⟨m1, hm1⟩ : ∃ m1, m1 = m + 1 := ⟨_, rfl⟩
  have hw1 : IntKind.i64.wrap ((m : Int) + 1) = (m1 : Int) := by rw [show (m : Int) + 1 = (m1 : Int) by omega]; exact IntWalk.i64_in _ (by omega)
  have hs2 := fun W => slice_rest (some ⟨b, off, none⟩) L.length c m1 (by omega) W (m1 : Int) rfl
  rw [← hm1] at i3 i4 hlist
  obtain ⟨R, hR⟩ : ∃ R, R = restP (some ⟨b, off, none⟩) c m1 := ⟨_, rfl⟩
  obtain ⟨n3, hn3⟩ : ∃ n3, n3 = L.length - m1 := ⟨_, rfl⟩
  obtain ⟨c3', hc3'⟩ : ∃ n3, n3 = c - m1 := ⟨_, rfl⟩
  obtain ⟨Q, hQ⟩ : ∃ Q, Q = L[m] := ⟨_, rfl⟩
  simp only [← hQ] at i2 i4 hlist c0 c1
  obtain ⟨x1, hx1⟩ : ∃ x, x = Q.1.length := ⟨_, rfl⟩
  obtain ⟨x2, hx2⟩ : ∃ x, x = Q.2.length := ⟨_, rfl⟩
  obtain ⟨ln, hln⟩ : ∃ x, x = L.length := ⟨_, rfl⟩
  simp only [hl1, List.length_drop, ← hR, ← hn3, ← hc3', ← hx1, ← hx2] at i1 i2 i3 i4 hs1 hs2 c0 c1 ⊢
  rw [← hln] at hs1 hs2 ⊢
  have hkeep : ∀ W, Below w.heap.size w W → W.cell? ⟨b, off + m * 2, none⟩ = some (.slice ka x1 kc) ∧ W.cell? ⟨b, off + m * 2 + 1, none⟩ = some (.slice va x2 vc) := fun W hW =>
    ⟨(hW.cell (p := ⟨b, off + m * 2, none⟩) hbl).trans c0, (hW.cell (p := ⟨b, off + m * 2 + 1, none⟩) hbl).trans c1⟩
  have hq : ((ln : Int) / 2) = (m : Int) := by omega
  have hqt : (ln : Int).tdiv 2 = (m : Int) := by rw [Int.tdiv_eq_ediv_of_nonneg (by omega)]; exact hq
  have hln0 : ((ln : Int) == 0) = false := by simpa using (show ¬ (ln : Int) = 0 by omega)
  have hmn : m < ln := by omega
  have hlc : ln ≤ c := by omega
  have hln1 : ln ≤ 1000 := by omega
  have hz0 : Below w.heap.size w w.drew := (Below.refl _ _).drew
  have I1 := Lib.hid i1; clear i1
  have I2 := Lib.hid i2; clear i2
  have I3 := Lib.hid i3; clear i3
  have I4 := Lib.hid i4; clear i4
  have HL := Lib.hid hlist; clear hlist
  have KEEP := Lib.hid hkeep; clear hkeep
  clear ih hF ha hc hn hn2 hf h0 hm c0 c1 c2 c3 hl1 hR hn3 hc3' hx1 hx2 hln hbl hQ hml hm1
  go_enter Tryz.func40, Tryz.ntmps40
  go_wp2_with fail
  go_region_held3 (fun W => W.cell? ⟨b, off + m * 2, none⟩ = some (.slice ka x1 kc) ∧ W.cell? ⟨b, off + m * 2 + 1, none⟩ = some (.slice va x2 vc)) (first | exact KEEP.out _ hz0 | exact KEEP.out _ hzA | exact KEEP.out _ hzB | exact KEEP.out _ hzC | exact KEEP.out _ hzD | fail) (first
    | (go_at_call 40; (with_reducible refine (I1.out _ hz0).mono ?_); rintro e wA ⟨p1, t1, rfl, h1, g1, e1, hbA⟩; have hzA := below_then hz0 hbA)
    | (go_at_call 69; (with_reducible refine (I2.out _ hzA).mono ?_); rintro e wB ⟨ja, jc, ua, uc, rfl, hj, hu, hbB⟩; have hzB := below_then hzA hbB)
    | (go_at_call 40; (with_reducible refine (I3.out _ hzB).mono ?_); rintro e wC ⟨p3, t3, rfl, h3, g3, e3, hbC⟩; have hzC := below_then hzB hbC; have h1' := (h1.below hbB).below hbC; have hj' := hj.below hbC; have hu' := hu.below hbC)
    | (go_at_call 68; (with_reducible refine (I4.out _ hzC _ _ _ _ _ _ _ _ h1' h3 hj' hu' e1 e3).mono ?_); rintro e wD ⟨pD, rfl, hD, hbD⟩; have hzD := below_then hzC hbD)
    | fail)
  all_goals
    go_wp2_with fail
    go_ret
    obtain ⟨v1, v2⟩ := HL.out t1 t3 g1 g3 e1 e3
    exact ⟨pD, _, rfl, hD, v1, v2, hzD⟩
theorem fromAt (F : Nat → Prop) : ∀ n, n ≤ 1000 → FromAt F n
  | 0, _ => fun w A c L _ _ _ h _ => by omega
  | n + 1, hn => fun w A c L hF ha hc hl hf => by
    rcases Nat.eq_zero_or_pos L.length with h0 | h0
    · obtain rfl := List.eq_nil_of_length_eq_zero h0
      clear ha hc hl hf h0
      go_enter Tryz.func40, Tryz.ntmps40
      go_wp2
      go_ret
      exact ⟨none, .nil, rfl, rfl, trivial, rfl, Below.refl _ _⟩
    · exact from_more (fromAt F n (by omega)) w A c L hF ha hc (by omega) (by omega) hf h0
theorem from_any {F : Nat → Prop} {w : World} {A : Option Addr} {c : Nat} {L : List Pr} (hF : Fut F w) (ha : Pcs w A L) (hc : L.length ≤ c) (hl : L.length < 900) (hf : ∀ x ∈ L, x.1.length ≤ 100000 ∧ x.2.length ≤ 100000) :
    Calls Tryz.prog 40 #[.slice A L.length c] w fun e w' => ∃ p t, e = .returned (.pointer p) ∧ Tre F w' t p ∧ t.even ∧ t.list = L ∧ Below w.heap.size w w' := fromAt F 1000 (Nat.le_refl _) w A c L hF ha hc (by omega) hf
end Go.Proofs.YtngfbkkfnooobaaGreatDoor
