/-
  TreeStays' round: a call's own bytes written over; a told list's values written over; a tree and its model laid to the earlier ones.
-/
import Derived.Test.YtbgohpcfinojoaaStay
namespace Go.Proofs.Ytbgohpcfinojoaa
open Go.RowKit
set_option maxHeartbeats 400000
set_option maxRecDepth 100000
/-- the blocks of a call's own bytes, if there are any -/
def Kb (gk x gv y : Nat) (b : Nat) : Prop := (b = gk ∧ 0 < x) ∨ (b = gv ∧ 0 < y)
/-- while a call's own bytes are written over -/
structure Mid (S : Nat → Prop) (gk x gv y g9 : Nat) (box : Array Value) (w W : World) : Prop where
  off : Off (Kb gk x gv y) w W
  scr : Scr S W
  key : Brow W gk x
  val : Brow W gv y
  row : W.heap[g9]? = some (.cells box 29 (0, 0))
theorem scr_set {S : Nat → Prop} {W : World} {b i n : Nat} (h : Scr S W) (hb : Brow W b n) (hi : i < n) (x : UInt8) : Scr S (W.setCell ⟨b, i, none⟩ (.int .u8 ((x.toNat : Nat) : Int))) := fun k hk hs => by
  by_cases e : k = b
  · subst e
    obtain ⟨y, hy, _⟩ := (hb.set (b := k) (i := i) x).cell (show 0 < n by omega)
    exact ⟨_, hy, by intro s e; cases e⟩
  · obtain ⟨v, h1, h2⟩ := h k (by simpa using hk) hs
    exact ⟨v, (cell_kept (heap_setCell_other W ⟨b, i, none⟩ k _ e)).trans h1, h2⟩
theorem Mid.setK {S : Nat → Prop} {gk x gv y g9 i : Nat} {box : Array Value} {w W : World} (h : Mid S gk x gv y g9 box w W) (hi : i < x) (u : UInt8) : Mid S gk x gv y g9 box w (W.setCell ⟨gk, i, none⟩ (.int .u8 ((u.toNat : Nat) : Int))) :=
  ⟨h.off.trans (Off.set (.inl ⟨rfl, by omega⟩) _), scr_set h.scr h.key hi u, h.key.set u, h.val.set u, (heap_setCell_other W ⟨gk, i, none⟩ g9 _ (brow_ne h.key h.row (by decide))).trans h.row⟩
theorem Mid.setV {S : Nat → Prop} {gk x gv y g9 i : Nat} {box : Array Value} {w W : World} (h : Mid S gk x gv y g9 box w W) (hi : i < y) (u : UInt8) : Mid S gk x gv y g9 box w (W.setCell ⟨gv, i, none⟩ (.int .u8 ((u.toNat : Nat) : Int))) :=
  ⟨h.off.trans (Off.set (.inr ⟨rfl, by omega⟩) _), scr_set h.scr h.val hi u, h.key.set u, h.val.set u, (heap_setCell_other W ⟨gv, i, none⟩ g9 _ (brow_ne h.val h.row (by decide))).trans h.row⟩
/-- a told list whose values may have been written over -/
structure Lrow (w : World) (A : Option Addr) (L : List Pr) (W : World) : Prop where
  bel : Below w.heap.size w W
  at' : ∀ i (h : i < L.length), ∃ g cs kb vb, A = some ⟨g, 0, none⟩ ∧ W.heap[g]? = some (.cells cs 39 (0, 0)) ∧ cs[i * 2]? = some (.slice (some ⟨kb, 0, none⟩) (L[i]).1.length (L[i]).1.length) ∧ cs[i * 2 + 1]? = some (.slice (some ⟨vb, 0, none⟩) (L[i]).2.length (L[i]).2.length) ∧ w.heap.size ≤ vb ∧ Brow W vb (L[i]).2.length
theorem Lrow.of {w W : World} {A : Option Addr} {c : Nat} {L : List Pr} (h : Fresh w.heap.size W A c L) (hb : Below w.heap.size w W) : Lrow w A L W := by
  refine ⟨hb, fun i hi => ?_⟩
  obtain ⟨xs, ⟨hl, ho⟩, _, hm⟩ := h
  obtain ⟨kb, vb, h1, h2, _, h4⟩ := hm i hi
  rcases ho with ⟨e, e2⟩ | ⟨g, cap, cur, e, hb2, hg, hc1, _, hsz, htk⟩
  · omega
  · injection e with e1 e2 e3
    have t : ∀ j, j < L.length * 2 → cur[j]? = xs[j]? := fun j hj => by rw [← htk, List.getElem?_take_of_lt hj]; simp
    exact ⟨g, cur, kb, vb, e1, hg, (t _ (by omega)).trans h1, (t _ (by omega)).trans h2, h4.1, newRow_brow h4⟩
theorem Lrow.below {w W W' : World} {A : Option Addr} {L : List Pr} (h : Lrow w A L W) (hb : Below W.heap.size W W') : Lrow w A L W' := by
  refine ⟨below_then h.bel hb, fun i hi => ?_⟩
  obtain ⟨g, cs, kb, vb, h1, h2, h3, h4, h5, h6⟩ := h.at' i hi
  exact ⟨g, cs, kb, vb, h1, (hb.block g (Array.getElem?_eq_some_iff.1 h2).1).trans h2, h3, h4, h5, h6.below hb⟩
theorem Lrow.set {w W : World} {A : Option Addr} {L : List Pr} (h : Lrow w A L W) {b n i : Nat} (hb : w.heap.size ≤ b) (hr : Brow W b n) (u : UInt8) : Lrow w A L (W.setCell ⟨b, i, none⟩ (.int .u8 ((u.toNat : Nat) : Int))) := by
  refine ⟨h.bel.setCell (p := ⟨b, i, none⟩) hb _, fun i hi => ?_⟩
  obtain ⟨g, cs, kb, vb, h1, h2, h3, h4, h5, h6⟩ := h.at' i hi
  exact ⟨g, cs, kb, vb, h1, (heap_setCell_other W _ g _ (brow_ne hr h2 (by decide))).trans h2, h3, h4, h5, h6.set u⟩
theorem Lrow.cells {w W : World} {A : Option Addr} {L : List Pr} (h : Lrow w A L W) {i : Nat} (hi : i < L.length) : ∃ g kb vb, A = some ⟨g, 0, none⟩ ∧ W.cell? ⟨g, i * 2, none⟩ = some (.slice (some ⟨kb, 0, none⟩) (L[i]).1.length (L[i]).1.length) ∧ W.cell? ⟨g, i * 2 + 1, none⟩ = some (.slice (some ⟨vb, 0, none⟩) (L[i]).2.length (L[i]).2.length) ∧ w.heap.size ≤ vb ∧ Brow W vb (L[i]).2.length := by
  obtain ⟨g, cs, kb, vb, h1, h2, h3, h4, h5, h6⟩ := h.at' i hi
  exact ⟨g, kb, vb, h1, by rw [cell_of_row W g _ _ 39 (0, 0) h2, h3], by rw [cell_of_row W g _ _ 39 (0, 0) h2, h4], h5, h6⟩
/-- a tree and its model are laid to the earlier ones -/
theorem Now.add {w W W1 W2 : World} {M : List Pr} {p A : Option Addr} {vT vM vT' vM' : Value} {S : Nat → Prop} {E : List Ent} {t : Tr} (c : Nat) (h : Now w M p A vT vM S E t W) (hs : srt M) (hf : ∀ x ∈ M, x.1.length ≤ 100 ∧ x.2.length ≤ 100) (hl : M.length ≤ 100)
    (g1 : W.grownBy W1 vT.ownBlock) (o1 : W1.ownsRow w.heap.size 25 1 vT' (E.length + 1) (ptrs E ++ [.pointer p])) (a1 : vT'.ownBlock = vT.ownBlock ∨ vT'.ownBlock = some (W.heap.size + 1))
    (g2 : W1.grownBy W2 vM.ownBlock) (o2 : W2.ownsRow w.heap.size 26 1 vM' (E.length + 1) (lists E ++ [.slice A M.length c])) (a2 : vM'.ownBlock = vM.ownBlock ∨ vM'.ownBlock = some (W1.heap.size + 1)) :
    ∃ S', Now w M p A vT' vM' S' (E ++ [⟨p, A, c, M⟩]) t W2 := by
  have s1 := g1.size
  have s2 := g2.size
  have hT : ∀ b, vT.ownBlock = some b → w.heap.size ≤ b ∧ b < W.heap.size := fun b hb => ⟨(own_lt h.rowT hb).1, (own_lt h.rowT hb).2.1⟩
  have hM : ∀ b, vM.ownBlock = some b → w.heap.size ≤ b ∧ b < W.heap.size := fun b hb => ⟨(own_lt h.rowM hb).1, (own_lt h.rowM hb).2.1⟩
  -- the row of trees is no row of lists
  have hne : ∀ b, vM.ownBlock = some b → vT'.ownBlock ≠ some b := by
    intro b hb e
    obtain ⟨_, _, cur, hc⟩ := own_lt o1 e
    obtain ⟨_, hlt, cur2, hc2⟩ := own_lt h.rowM hb
    by_cases e2 : vT.ownBlock = some b
    · obtain ⟨_, _, cur3, hc3⟩ := own_lt h.rowT e2
      rw [hc2] at hc3
      injection hc3 with hc3
      injection hc3 with _ hc3
      cases hc3
    · rw [g1.block b hlt (fun e => e2 e.symm), hc2] at hc
      injection hc with hc
      injection hc with _ hc
      cases hc
  have o1' : W2.ownsRow w.heap.size 25 1 vT' (E.length + 1) (ptrs E ++ [.pointer p]) := own_kept o1 fun g hg => g2.block g (own_lt o1 hg).2.1 (fun e => hne g e.symm hg)
  have hX : ∀ b, b < W.heap.size → (S b ∨ W.heap.size ≤ b) → S b := fun b hb hs => by
    rcases hs with hs | hs
    · exact hs
    · omega
  have hO : Off (fun b => S b ∨ W.heap.size ≤ b) W W2 :=
    (Off.of_grown g1 fun k hk => .inl (h.inT k hk)).trans (Off.of_grown g2 fun k hk => .inl (h.inM k hk))
  have hSc : Scr (fun b => S b ∨ W.heap.size ≤ b) W := fun b hb hs => h.scr b hb (hX b hb hs)
  have hall : ∀ e ∈ E ++ [⟨p, A, c, M⟩], Held (fun b => S b ∨ W.heap.size ≤ b) W2 e := by
    intro e he
    refine Held.off (w := W) ?_ hSc hO
    rcases List.mem_append.1 he with he | he
    · exact (h.all e he).more hX
    · obtain rfl := List.mem_singleton.1 he
      exact ⟨⟨t, h.tre.mono (fun b hb hn ht => hn (hX b hb ht)), h.ev, h.list⟩, h.rcs, hs, hf, hl⟩
  have lT : ∀ b, vT'.ownBlock = some b → b < W2.heap.size := fun b hb => (own_lt o1' hb).2.1
  have lM : ∀ b, vM'.ownBlock = some b → b < W2.heap.size := fun b hb => (own_lt o2 hb).2.1
  have hsub : ∀ b, b < W2.heap.size → ((S b ∧ vT.ownBlock ≠ some b ∧ vM.ownBlock ≠ some b) ∨ vT'.ownBlock = some b ∨ vM'.ownBlock = some b) → (S b ∨ W.heap.size ≤ b) := by
    rintro b _ (⟨hb, _⟩ | hb | hb)
    · exact .inl hb
    · rcases a1 with a1 | a1
      · exact .inl (h.inT b (a1 ▸ hb))
      · rw [a1] at hb; injection hb with hb; exact .inr (by omega)
    · rcases a2 with a2 | a2
      · exact .inl (h.inM b (a2 ▸ hb))
      · rw [a2] at hb; injection hb with hb; exact .inr (by omega)
  have first : ∀ {e : Nat} {v : Value} {xs : List Value} {b n : Nat}, W2.ownsRow w.heap.size e 1 v (n + 1) xs → (∀ x ∈ xs, ∀ s, x ≠ .string s) → v.ownBlock = some b → ∃ u, W2.cell? ⟨b, 0, none⟩ = some u ∧ ∀ s, u ≠ .string s := by
    intro e v xs b n ho hn hb
    have hl := ho.1
    obtain ⟨A', c', rfl, hr⟩ := row_reads1 ho
    obtain ⟨g, rfl, _, hc⟩ := hr (by omega)
    simp only [Value.ownBlock, Option.some.injEq] at hb
    subst hb
    have h0 := hc 0 (by omega)
    rw [List.getElem?_eq_getElem (by omega)] at h0
    exact ⟨_, h0, hn _ (List.getElem_mem _)⟩
  refine ⟨fun b => (S b ∧ vT.ownBlock ≠ some b ∧ vM.ownBlock ≠ some b) ∨ vT'.ownBlock = some b ∨ vM'.ownBlock = some b, ?_⟩
  have hnew := hall ⟨p, A, c, M⟩ (by simp)
  refine ⟨?_, ?_, ?_, ?_, h.ev, h.list, hnew.rcs, fun e he => (hall e he).more hsub, ?_, ?_, fun b hb => .inr (.inl hb), fun b hb => .inr (.inr hb)⟩
  · refine h.bel.trans ⟨g2.os.trans g1.os, g2.tape.trans g1.tape, g2.output.trans g1.output, Nat.le_trans s1 s2, fun k hk => ?_⟩
    have hkW : k < W.heap.size := Nat.lt_of_lt_of_le hk h.bel.size
    rw [g2.block k (by omega) (fun e => by have := (hM k e.symm).1; omega), g1.block k hkW (fun e => by have := (hT k e.symm).1; omega)]
  · rintro b (⟨hb, _⟩ | hb | hb)
    · have := h.lt b hb; omega
    · exact lT b hb
    · exact lM b hb
  · rintro b hlt (⟨hb, n1, n2⟩ | hb | hb)
    · obtain ⟨v, e1, e2⟩ := h.scr b (h.lt b hb) hb
      have e : W2.heap[b]? = W.heap[b]? := (g2.block b (by have := h.lt b hb; omega) (fun e => n2 e.symm)).trans (g1.block b (h.lt b hb) (fun e => n1 e.symm))
      exact ⟨v, (cell_kept e).trans e1, e2⟩
    · refine first o1' (fun x hx s => ?_) hb
      rcases List.mem_append.1 hx with hx | hx
      · obtain ⟨e, _, rfl⟩ := List.mem_map.1 hx
        intro e; cases e
      · obtain rfl := List.mem_singleton.1 hx
        intro e; cases e
    · refine first o2 (fun x hx s => ?_) hb
      rcases List.mem_append.1 hx with hx | hx
      · obtain ⟨e, _, rfl⟩ := List.mem_map.1 hx
        intro e; cases e
      · obtain rfl := List.mem_singleton.1 hx
        intro e; cases e
  · have k := (h.tre.mono (G := fun b => ¬ (S b ∨ W.heap.size ≤ b)) (fun b hb hn ht => hn (hX b hb ht))).off (S := fun b => S b ∨ W.heap.size ≤ b) hO
    exact k.mono fun b hb hn ht => hn (hsub b hb ht)
  · simpa [ptrs] using o1'
  · simpa [lists] using o2
/-- a call's own box and bytes, just made -/
theorem Now.own {w wr W : World} {M : List Pr} {p A : Option Addr} {vT vM : Value} {S : Nat → Prop} {E : List Ent} {t : Tr} {gk x gv y : Nat} (h : Now w M p A vT vM S E t wr) (hb : Below wr.heap.size wr W) (hk : wr.heap.size ≤ gk) (hv : wr.heap.size ≤ gv) (rk : Brow W gk x) (rv : Brow W gv y) : Now w M p A vT vM (fun b => S b ∨ Kb gk x gv y b) E t W := by
  refine h.grow hb (fun b hs => .inl hs) ?_ ?_ ?_
  · rintro b hb (hs | ⟨rfl, _⟩ | ⟨rfl, _⟩)
    · exact hs
    · omega
    · omega
  · rintro b (hs | ⟨rfl, _⟩ | ⟨rfl, _⟩)
    · exact Nat.lt_of_lt_of_le (h.lt b hs) hb.size
    · exact rk.lt
    · exact rv.lt
  · rintro b _ (hs | ⟨rfl, h0⟩ | ⟨rfl, h0⟩)
    · exact h.scr.below h.lt hb b (Nat.lt_of_lt_of_le (h.lt b hs) hb.size) hs
    · obtain ⟨u, hu, _⟩ := rk.cell h0
      exact ⟨_, hu, by intro s e; cases e⟩
    · obtain ⟨u, hu, _⟩ := rv.cell h0
      exact ⟨_, hu, by intro s e; cases e⟩
theorem Now.below {w W W' : World} {M : List Pr} {p A : Option Addr} {vT vM : Value} {S : Nat → Prop} {E : List Ent} {t : Tr} (h : Now w M p A vT vM S E t W) (hb : Below W.heap.size W W') : Now w M p A vT vM S E t W' :=
  h.grow hb (fun _ h => h) (fun _ _ h => h) (fun b hs => Nat.lt_of_lt_of_le (h.lt b hs) hb.size) (h.scr.below h.lt hb)
/-- the row of lists stands where one is laid to the row of trees -/
theorem Now.rowM' {w W W1 : World} {M : List Pr} {p A : Option Addr} {vT vM : Value} {S : Nat → Prop} {E : List Ent} {t : Tr} (h : Now w M p A vT vM S E t W) (g1 : W.grownBy W1 vT.ownBlock) : W1.ownsRow w.heap.size 26 1 vM E.length (lists E) := by
  refine own_kept h.rowM fun g hg => g1.block g (own_lt h.rowM hg).2.1 fun e => ?_
  obtain ⟨_, _, c1, h1⟩ := own_lt h.rowM hg
  obtain ⟨_, _, c2, h2⟩ := own_lt h.rowT e.symm
  rw [h1] at h2
  injection h2 with h2
  injection h2 with _ h2
  cases h2
/-- a slice of a call's own, just made -/
def New (N : Nat) (l : List UInt8) (v : Value) (w : World) : Prop := ∃ g c, v = .slice (some ⟨g, 0, none⟩) l.length c ∧ N ≤ g ∧ Bts w (some ⟨g, 0, none⟩) l ∧ Brow w g l.length
theorem New.below {N : Nat} {l : List UInt8} {v : Value} {w w' : World} (h : New N l v w) (hb : Below w.heap.size w w') : New N l v w' := by
  obtain ⟨g, c, e, h1, h2, h3⟩ := h
  exact ⟨g, c, e, h1, h2.below hb, h3.below hb⟩
/-- what the operations yield that make a call's own -/
def GS (gb : Nat) (z : Int) (ka : Option Addr) (x kc : Nat) (va : Option Addr) (y vc : Nat) (K V : List UInt8) : Nat → Value → World → Prop
  | 0, v, _ => v = .pointer (some ⟨gb, 0, none⟩)
  | 1, v, _ => v = .int .i64 z
  | 2, v, w => ∃ g, v = .slice (some ⟨g, 0, none⟩) 0 0 ∧ gb ≤ g ∧ w.heap[g]? = some (.cells #[] 5 (0, 0))
  | 3, v, _ => v = .pointer (some ⟨gb, 1, none⟩)
  | 4, v, _ => v = .slice ka x kc
  | 5, v, w => New gb K v w
  | 6, v, w => ∃ g, v = .slice (some ⟨g, 0, none⟩) 0 0 ∧ gb ≤ g ∧ w.heap[g]? = some (.cells #[] 5 (0, 0))
  | 7, v, _ => v = .pointer (some ⟨gb, 2, none⟩)
  | 8, v, _ => v = .slice va y vc
  | 9, v, w => New gb V v w
  | 10, v, w => ∃ v1 v2, v = .agg #[.int .i64 z, v1, v2] ∧ New gb K v1 w ∧ New gb V v2 w
  | 11, v, w => ∃ g, v = .pointer (some ⟨g, 0, none⟩) ∧ gb < g ∧ w.heap[g]? = some (.cells #[.int .i64 0, .slice none 0 0, .slice none 0 0] 29 (0, 0))
  | _, _, _ => True
theorem row_below {w w' : World} {g : Nat} {o : Obj} (h : w.heap[g]? = some o) (hb : Below w.heap.size w w') : w'.heap[g]? = some o := by
  rw [hb.block g (Array.getElem?_eq_some_iff.1 h).1]; exact h
theorem GS.below {gb : Nat} {z : Int} {ka : Option Addr} {x kc : Nat} {va : Option Addr} {y vc : Nat} {K V : List UInt8} (i : Nat) (v : Value) (w w' : World) (h : GS gb z ka x kc va y vc K V i v w) (hb : Below w.heap.size w w') : GS gb z ka x kc va y vc K V i v w' := by
  unfold GS at h ⊢
  split at h
  · exact h
  · exact h
  · obtain ⟨g, e, h1, h2⟩ := h; exact ⟨g, e, h1, row_below h2 hb⟩
  · exact h
  · exact h
  · exact h.below hb
  · obtain ⟨g, e, h1, h2⟩ := h; exact ⟨g, e, h1, row_below h2 hb⟩
  · exact h
  · exact h
  · exact h.below hb
  · obtain ⟨v1, v2, e, h1, h2⟩ := h; exact ⟨v1, v2, e, h1.below hb, h2.below hb⟩
  · obtain ⟨g, e, h1, h2⟩ := h; exact ⟨g, e, h1, row_below h2 hb⟩
  · trivial
theorem set3 {w : World} {g : Nat} {a b c : Value} {t : TypeId} (h : w.heap[g]? = some (.cells #[a, b, c] t (0, 0))) (x y z : Value) :
    (((w.setCell ⟨g, 0, none⟩ x).setCell ⟨g, 1, none⟩ y).setCell ⟨g, 2, none⟩ z).heap[g]? = some (.cells #[x, y, z] t (0, 0)) ∧ ∀ k, k ≠ g → (((w.setCell ⟨g, 0, none⟩ x).setCell ⟨g, 1, none⟩ y).setCell ⟨g, 2, none⟩ z).heap[k]? = w.heap[k]? := by
  refine ⟨?_, fun k hk => ?_⟩
  · rw [heap_setCell_same _ g 2 _ t z (heap_setCell_same _ g 1 _ t y (heap_setCell_same w g 0 _ t x h))]; rfl
  · rw [Below.heap_setCell _ ⟨g, 2, none⟩ z k hk, Below.heap_setCell _ ⟨g, 1, none⟩ y k hk, Below.heap_setCell _ ⟨g, 0, none⟩ x k hk]
theorem bts_same {w w' : World} {g off : Nat} {l : List UInt8} (h : Bts w (some ⟨g, off, none⟩) l) (e : w'.heap[g]? = w.heap[g]?) : Bts w' (some ⟨g, off, none⟩) l := by
  rcases h with h | ⟨b, o, h1, h2, h3⟩
  · exact .inl h
  · obtain ⟨rfl, rfl⟩ : g = b ∧ off = o := by
      injection h1 with h1
      injection h1 with h1 h2
      exact ⟨h1, h2⟩
    exact .inr ⟨g, off, rfl, lt_kept e h2, fun i hi => (cell_kept e).trans (h3 i hi)⟩
/-- a call's own, laid into its box -/
theorem own_box {wr w' : World} {g9 gk gv c1 c2 : Nat} {K V : List UInt8} {z : Int} (hb : Below wr.heap.size wr w') (h9 : wr.heap.size ≤ g9) (r9 : w'.heap[g9]? = some (.cells #[.int .i64 0, .slice none 0 0, .slice none 0 0] 29 (0, 0)))
    (bk : Bts w' (some ⟨gk, 0, none⟩) K) (rk : Brow w' gk K.length) (bv : Bts w' (some ⟨gv, 0, none⟩) V) (rv : Brow w' gv V.length) (W : World) (hW : W = (((w'.setCell ⟨g9, 0, none⟩ (.int .i64 z)).setCell ⟨g9, 1, none⟩ (.slice (some ⟨gk, 0, none⟩) K.length c1)).setCell ⟨g9, 2, none⟩ (.slice (some ⟨gv, 0, none⟩) V.length c2))) :
    Below wr.heap.size wr W ∧ W.heap[g9]? = some (.cells #[.int .i64 z, .slice (some ⟨gk, 0, none⟩) K.length c1, .slice (some ⟨gv, 0, none⟩) V.length c2] 29 (0, 0)) ∧ Bts W (some ⟨gk, 0, none⟩) K ∧ Brow W gk K.length ∧ Bts W (some ⟨gv, 0, none⟩) V ∧ Brow W gv V.length := by
  subst hW
  obtain ⟨s1, s2⟩ := set3 r9 (.int .i64 z) (.slice (some ⟨gk, 0, none⟩) K.length c1) (.slice (some ⟨gv, 0, none⟩) V.length c2)
  have e1 := s2 gk (Ne.symm (brow_ne rk r9 (by decide)))
  have e2 := s2 gv (Ne.symm (brow_ne rv r9 (by decide)))
  exact ⟨((hb.setCell (p := ⟨g9, 0, none⟩) h9 _).setCell (p := ⟨g9, 1, none⟩) h9 _).setCell (p := ⟨g9, 2, none⟩) h9 _, s1, bts_same bk e1, rk.keep e1, bts_same bv e2, rv.keep e2⟩
def Dn (_ _ : Nat) : Prop := True
/-- append, at an operation of a region in whatever order -/
theorem wpOp_app {P : Program} {ops : Array Oper} {Q : Exit → Act → World → Prop} {i : Nat} {K : Act → World → Prop} {a : Act} {w w' : World} {t : TypeId} {s x : Operand} {v y v' : Value} (o : Oper) (hi : ops[i]? = some o) (hg : o.guard = none) (ho : o.op = .call { callee := .builtin .append, args := #[s, x], argTypes := #[t, t] })
    (hs : a.eval s = v) (hx : a.eval x = y) (hr : (Builtin.append_ #[t, t] o.type #[v, y]).run P w = .ok v' w') (hk : K (a.put o.dst v') w') : wpOp P ops Q i K a w := by
  refine wpOp_of o hi hg ?_
  unfold Oper.wp execOp
  simp only [ho, resolve, invoke, builtin, Sem.run_bind, Sem.run_pure, Result.andThen_ok, List.map_toArray, List.map_cons, List.map_nil, hs, hx, hr]
  exact hk
end Go.Proofs.Ytbgohpcfinojoaa
