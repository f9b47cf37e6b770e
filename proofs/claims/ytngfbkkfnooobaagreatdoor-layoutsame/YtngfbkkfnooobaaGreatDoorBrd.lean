/-
  The parts of entries by their chunks: an array of thirty-two lists, grown entry by entry; With.
-/
import Derived.Test.YtngfbkkfnooobaaGreatDoorFlat
import Derived.Test.YtngfbkkfnooobaaGreatDoorHandz
import Derived.Deep.RegionLaw
namespace Go.Proofs.YtngfbkkfnooobaaGreatDoor
open Go.RowKit
set_option maxHeartbeats 2000000
set_option maxRecDepth 100000
attribute [local irreducible] Bt.lst
theorem with_any (m : Nat) (z : Int) (w : World) (hm : m < 4294967296) :
    Calls Tryz.prog 73 #[.int .u32 m, .int .i64 z] w fun e w' => e = .returned (.int .u32 ((m ||| Bt.one z : Nat) : Int)) ∧ w = w' := by
  have h := Bt.alone_any z w
  have hl := Bt.one_lt z
  obtain ⟨a, ha⟩ : ∃ a, a = Bt.one z := ⟨_, rfl⟩
  rw [← ha] at h hl ⊢
  have H := Lib.hid h; clear h ha
  go_enter Tryz.func73, Tryz.ntmps73
  go_wp2_with fail
  refine H.out.mono ?_
  rintro e w' ⟨rfl, rfl⟩
  go_wp2_with fail
  go_ret
  exact ⟨ret_int (Bt.or32 hm hl), rfl⟩
/-- append of one struct that was laid into a block of its own just ahead, where a region draws its order -/
theorem step_appK {B : Nat} {w : World} {ops : Array Oper} {o : Oper} {a : Act} {K : Act → World → Prop} {Q : Exit → Act → World → Prop} {E : Prop} (t e : TypeId) (z : Value) (size bytes : Nat) (hu : Tryz.prog.underlying t = some (.slice e)) (hinf : (Tryz.prog.info? e).map (fun i => (i.zero, i.size, i.bytes)) = some (some z, size, bytes)) (hz : z.cells.size = size) (hs0 : 0 < size) (hby : bytes ≤ 200)
    (hgd : o.guard = none) (s x : Operand) (ho : o.op = .call { callee := .builtin .append, args := #[s, x], argTypes := #[t, t] }) (v : Value) (n : Nat) (xs : List Value) (h : w.ownsRow B e size v n xs) (news : List Value) (hl : news.length = size) (h1 : ∀ u ∈ news, u.oneCell' = true)
    (hs : a.eval s = v) (hx : a.eval x = .slice (some ⟨w.heap.size, 0, none⟩) 1 1) (hn : n ≤ 9000) (hB : B ≤ w.heap.size)
    (hK : ∀ v' w', w'.ownsRow B e size v' (n + 1) (xs ++ news) → w.grownBy w' v.ownBlock → (v'.ownBlock = v.ownBlock ∨ ∃ b, v'.ownBlock = some b ∧ w.heap.size ≤ b) → K (a.put o.dst v') w') :
    if Region.wanted o (yielded ops a.tmps) = true then Oper.wp Tryz.prog o a (w.alloc (.cells news.toArray e)) K Q else E := by
  have hw : Region.wanted o (yielded ops a.tmps) = true := by simp [Region.wanted, hgd]
  rw [if_pos hw]
  obtain ⟨i0, hi, hz0, hz1, hz2⟩ := info_parts hinf
  have hnew : (w.alloc (.cells news.toArray e)).heap[w.heap.size]? = some (.cells news.toArray e (0, 0)) := heap_alloc_new w _
  obtain ⟨v', w', hr, hown, hg, _, hob⟩ := run_append_own_at (P := Tryz.prog) (w := w.alloc (.cells news.toArray e)) B t o.type e i0 z size bytes hu hi hz0 hz1 hz2 hz hs0 v n xs (World.ownsRow.alloc h _) ⟨w.heap.size, 0, none⟩ 1 1 news (by rw [hl, Nat.one_mul])
    (by
      intro j u hj
      rw [Go.WideShapes.add_plain, Nat.zero_add, cell_of_row _ w.heap.size j _ e (0, 0) hnew, ← hj]
      simp) h1
    (by unfold maxLen; omega) (by have := Nat.mul_le_mul (show n + 1 ≤ 9001 by omega) hby; omega) (by simp; omega)
  have hg2 : w.grownBy w' v.ownBlock := grown_then (World.grownBy_alloc w _ none) hg
  unfold Oper.wp execOp
  simp only [ho, resolve, invoke, builtin, Sem.run_bind, Sem.run_pure, Result.andThen_ok, List.map_toArray, List.map_cons, List.map_nil, hs, hx, hr]
  refine hK v' w' hown hg2 ?_
  rcases hob with h | h
  · exact .inl h
  · exact .inr ⟨_, h, by simp⟩
/-- the array in block b holds the parts of some entries; their bytes lie in w0 -/
structure Prt (w0 wr : World) (b lv : Nat) (L : List En) (cur : Array Value) (xs : Nat → List Value) : Prop where
  row : wr.heap[b]? = some (.cells cur 147 (0, 0))
  size : cur.size = 32
  own : ∀ c, c < 32 → wr.ownsRow (b + 1) 50 3 (cur.getD c undef) (part lv L c).length (xs c)
  ens : ∀ c, c < 32 → Erow w0 (xs c) (part lv L c)
  far : ∀ c d k, c < 32 → d < 32 → (cur.getD c undef).ownBlock = some k → (cur.getD d undef).ownBlock = some k → c = d
theorem Prt.below {w0 w w' : World} {b lv : Nat} {L : List En} {cur : Array Value} {xs : Nat → List Value} (h : Prt w0 w b lv L cur xs) (hb : Below w.heap.size w w') : Prt w0 w' b lv L cur xs where
  row := (hb.block b (Array.getElem?_eq_some_iff.1 h.row).1).trans h.row
  size := h.size
  own := fun c hc => own_below (h.own c hc) hb
  ens := h.ens
  far := h.far
theorem getD_at {cur : Array Value} {c : Nat} (h : c < cur.size) : cur[c]? = some (cur.getD c undef) := by
  rw [Array.getD_eq_getD_getElem?, Array.getElem?_eq_getElem h]
  rfl
theorem Prt.cell {w0 wr : World} {b lv : Nat} {L : List En} {cur : Array Value} {xs : Nat → List Value} (h : Prt w0 wr b lv L cur xs) {c : Nat} (hc : c < 32) : wr.cell? ⟨b, c, none⟩ = some (cur.getD c undef) ∧ wr.frozen? ⟨b, c, none⟩ = false := by
  refine ⟨?_, frozen_of_row _ _ _ _ _ h.row⟩
  rw [cell_of_row wr b c _ 147 (0, 0) h.row]
  exact getD_at (by rw [h.size]; exact hc)
theorem Prt.start (w0 w : World) (b lv : Nat) (h : w.heap[b]? = some (.cells (List.replicate 32 (Value.slice none 0 0)).toArray 147 (0, 0))) : Prt w0 w b lv [] (List.replicate 32 (Value.slice none 0 0)).toArray (fun _ => []) where
  row := h
  size := by simp
  own := fun c hc => by
    have e : (List.replicate 32 (Value.slice none 0 0)).toArray.getD c undef = .slice none 0 0 := by
      rw [Array.getD_eq_getD_getElem?, List.getElem?_toArray, List.getElem?_replicate, if_pos hc]
      rfl
    rw [e]
    exact World.ownsRow_nil _ _ _ _
  ens := fun c hc => Erow.nil _
  far := fun c d k hc _ h1 _ => by
    have e : (List.replicate 32 (Value.slice none 0 0)).toArray.getD c undef = .slice none 0 0 := by
      rw [Array.getD_eq_getD_getElem?, List.getElem?_toArray, List.getElem?_replicate, if_pos hc]
      rfl
    rw [e] at h1
    cases h1
/-- a part grown by an entry -/
theorem Prt.step {w0 wA w1 : World} {b lv : Nat} {L : List En} {cur : Array Value} {xs : Nat → List Value} (h : Prt w0 wA b lv L cur xs) {e : En} {c : Nat} (hc : c < 32) (hch : ch e.1 lv = c) {ka va : Option Addr} {kc vc : Nat} (hk : Bts w0 ka e.2.1) (hv : Bts w0 va e.2.2) {v' : Value}
    (hown : w1.ownsRow (b + 1) 50 3 v' ((part lv L c).length + 1) (xs c ++ [.int .u64 (e.1 : Int), .slice ka e.2.1.length kc, .slice va e.2.2.length vc])) (hgr : wA.grownBy w1 (cur.getD c undef).ownBlock) (hloc : v'.ownBlock = (cur.getD c undef).ownBlock ∨ ∃ k, v'.ownBlock = some k ∧ wA.heap.size ≤ k) :
    (w1.cell? ⟨b, c, none⟩ = some (cur.getD c undef) ∧ w1.frozen? ⟨b, c, none⟩ = false) ∧ (∃ cur' xs', Prt w0 (w1.setCell ⟨b, c, none⟩ v') b lv (L ++ [e]) cur' xs') ∧ But (fun k => k = b ∨ (cur.getD c undef).ownBlock = some k) wA (w1.setCell ⟨b, c, none⟩ v') := by
  have hbl : b < wA.heap.size := (Array.getElem?_eq_some_iff.1 h.row).1
  have hlt : ∀ d, d < 32 → ∀ k, (cur.getD d undef).ownBlock = some k → b < k ∧ k < wA.heap.size := fun d hd k hk => by
    have := own_lt (h.own d hd) hk
    exact ⟨this.1, this.2.1⟩
  have r1 : w1.heap[b]? = some (.cells cur 147 (0, 0)) := (hgr.block b hbl fun e => by have := hlt c hc b e.symm; omega).trans h.row
  have hcs : c < cur.size := by rw [h.size]; exact hc
  have hv'b : ∀ k, v'.ownBlock = some k → k ≠ b := fun k hk e2 => by
    have := (own_lt hown hk).1
    omega
  have hpart : ∀ d, part lv (L ++ [e]) d = part lv L d ++ (if (c : Int) = d then [e] else []) := fun d => by
    rw [part, List.filter_append]
    congr 1
    rw [List.filter_cons, hch]
    by_cases hd : (c : Int) = d
    · rw [if_pos (by simpa using hd), if_pos hd]; rfl
    · rw [if_neg (by simpa using hd), if_neg hd]; rfl
  have gset : ∀ d, d < 32 → (cur.setIfInBounds c v').getD d undef = if c = d then v' else cur.getD d undef := fun d hd => by
    rw [Array.getD_eq_getD_getElem?, Array.getElem?_setIfInBounds]
    by_cases hcd : c = d
    · rw [if_pos hcd, if_pos hcd, if_pos hcs]; rfl
    · rw [if_neg hcd, if_neg hcd, ← Array.getD_eq_getD_getElem?]
  have hset : ∀ k, k ≠ b → (w1.setCell ⟨b, c, none⟩ v').heap[k]? = w1.heap[k]? := fun k hk => Below.heap_setCell w1 ⟨b, c, none⟩ v' k hk
  refine ⟨⟨by rw [cell_of_row w1 b c _ 147 (0, 0) r1]; exact getD_at hcs, frozen_of_row _ _ _ _ _ r1⟩, ⟨cur.setIfInBounds c v', fun d => if c = d then xs c ++ [.int .u64 (e.1 : Int), .slice ka e.2.1.length kc, .slice va e.2.2.length vc] else xs d, ?_⟩, ?_⟩
  · refine ⟨heap_setCell_same w1 b c cur 147 v' r1, by simpa using h.size, fun d hd => ?_, fun d hd => ?_, fun d f k hd hf h1 h2 => ?_⟩
    · rw [gset d hd, hpart]
      by_cases hcd : c = d
      · subst hcd
        rw [if_pos rfl, if_pos rfl, if_pos rfl, List.length_append, List.length_singleton]
        exact own_kept hown fun k hk => hset k (hv'b k hk)
      · rw [if_neg hcd, if_neg hcd, if_neg (by omega), List.append_nil]
        refine own_kept (h.own d hd) fun k hk => (hset k ?_).trans (hgr.block k (hlt d hd k hk).2 fun e2 => ?_)
        · have := (hlt d hd k hk).1
          omega
        · exact hcd (h.far c d k hc hd e2.symm hk)
    · rw [hpart]
      by_cases hcd : c = d
      · subst hcd
        rw [if_pos rfl, if_pos rfl]
        exact (h.ens c hc).snoc hk hv
      · rw [if_neg hcd, if_neg (by omega), List.append_nil]
        exact h.ens d hd
    · rw [gset d hd] at h1
      rw [gset f hf] at h2
      by_cases hcd : c = d
      · by_cases hcf : c = f
        · omega
        · rw [if_pos hcd] at h1
          rw [if_neg hcf] at h2
          rcases hloc with hl | ⟨k', hl, hk'⟩
          · rw [hl] at h1
            exact absurd (h.far c f k hc hf h1 h2) hcf
          · rw [hl] at h1
            injection h1 with h1
            have := (hlt f hf k h2).2
            omega
      · rw [if_neg hcd] at h1
        by_cases hcf : c = f
        · rw [if_pos hcf] at h2
          rcases hloc with hl | ⟨k', hl, hk'⟩
          · rw [hl] at h2
            exact absurd (h.far c d k hc hd h2 h1) hcd
          · rw [hl] at h2
            injection h2 with h2
            have := (hlt d hd k h1).2
            omega
        · rw [if_neg hcf] at h2
          exact h.far d f k hd hf h1 h2
  · refine ⟨hgr.os, hgr.tape, hgr.output, by simpa [World.setCell] using hgr.size, fun k hk hx => ?_⟩
    exact (hset k fun e => hx (.inl e)).trans (hgr.block k hk fun e => hx (.inr e.symm))
end Go.Proofs.YtngfbkkfnooobaaGreatDoor
