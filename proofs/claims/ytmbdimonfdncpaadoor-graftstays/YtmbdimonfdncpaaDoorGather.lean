/-
  Contracts of List and Sound, with what each is called with.
-/
import Derived.Test.YtmbdimonfdncpaaDoorFrom
import Derived.Test.YtmbdimonfdncpaaDoorRefz
import Derived.Deep.RegionLaw
import Derived.Test.YtmbdimonfdncpaaDoorPlain
import Derived.Laws.StructEq
import Derived.Test.YtmbdimonfdncpaaDoorNods
import Derived.Test.YtmbdimonfdncpaaDoorKins
import Derived.Test.YtmbdimonfdncpaaDoorMaking
namespace Go.Proofs.YtmbdimonfdncpaaDoor
open Go.RowKit
set_option maxHeartbeats 4000000
set_option maxRecDepth 100000
/-- append of one pair that was laid into a block of its own just ahead, where a region draws its order -/
theorem step_app2 {B : Nat} {w : World} {ops : Array Oper} {o : Oper} {a : Act} {K : Act → World → Prop} {Q : Exit → Act → World → Prop} {E : Prop} (t e : TypeId) (z : Value) (bytes : Nat) (hu : Tryd.prog.underlying t = some (.slice e)) (hinf : (Tryd.prog.info? e).map (fun i => (i.zero, i.size, i.bytes)) = some (some z, 2, bytes)) (hz : z.cells.size = 2) (hby : bytes ≤ 100)
    (hgd : o.guard = none) (s x : Operand) (ho : o.op = .call { callee := .builtin .append, args := #[s, x], argTypes := #[t, t] }) (v : Value) (n : Nat) (xs : List Value) (h : w.ownsRow B e 2 v n xs) (x1 x2 : Value) (h1 : x1.oneCell' = true) (h2 : x2.oneCell' = true) (hs : a.eval s = v) (hx : a.eval x = .slice (some ⟨w.heap.size, 0, none⟩) 1 1) (hn : n ≤ 1000) (hB : B ≤ w.heap.size)
    (hK : ∀ v' w', w'.ownsRow B e 2 v' (n + 1) (xs ++ [x1, x2]) → w.grownBy w' v.ownBlock → K (a.put o.dst v') w') :
    if Region.wanted o (yielded ops a.tmps) = true then Oper.wp Tryd.prog o a (w.alloc (.cells #[x1, x2] e)) K Q else E := by
  have hw : Region.wanted o (yielded ops a.tmps) = true := by simp [Region.wanted, hgd]
  rw [if_pos hw]
  obtain ⟨i0, hi, hz0, hz1, hz2⟩ := info_parts hinf
  have hnew : (w.alloc (.cells #[x1, x2] e)).heap[w.heap.size]? = some (.cells #[x1, x2] e (0, 0)) := heap_alloc_new w _
  obtain ⟨v', w', hr, hown, hg, _⟩ := run_append_own (P := Tryd.prog) (w.alloc (.cells #[x1, x2] e)) B t o.type e i0 z 2 bytes hu hi hz0 hz1 hz2 hz (by decide) v n xs (World.ownsRow.alloc h _) ⟨w.heap.size, 0, none⟩ 1 1 [x1, x2] rfl
    (by
      intro j u hj
      rw [Go.WideShapes.add_plain, Nat.zero_add, cell_of_row _ w.heap.size j _ e (0, 0) hnew, ← hj]
      simp)
    (by
      intro u hu
      rcases List.mem_cons.1 hu with rfl | hu
      · exact h1
      · rcases List.mem_cons.1 hu with rfl | hu
        · exact h2
        · cases hu)
    (by unfold maxLen; omega) (by have := Nat.mul_le_mul (show n + 1 ≤ 1001 by omega) hby; omega) (by simp; omega)
  have hg2 : w.grownBy w' v.ownBlock := grown_then (World.grownBy_alloc w _ none) hg
  unfold Oper.wp execOp
  simp only [ho, resolve, invoke, builtin, Sem.run_bind, Sem.run_pure, Result.andThen_ok, List.map_toArray, List.map_cons, List.map_nil, hs, hx, hr]
  exact hK v' w' hown hg2
/-- the cells of a list of pairs, each of whose keys and values has a row of its own -/
def Mrow (B : Nat) (w : World) (xs : List Value) (L : List Pr) : Prop := xs.length = L.length * 2 ∧ ∀ i (h : i < L.length), ∃ kb vb,
  xs[i * 2]? = some (.slice (some ⟨kb, 0, none⟩) (L[i]).1.length (L[i]).1.length) ∧ xs[i * 2 + 1]? = some (.slice (some ⟨vb, 0, none⟩) (L[i]).2.length (L[i]).2.length) ∧ NewRow B w kb (L[i]).1 ∧ NewRow B w vb (L[i]).2
theorem Mrow.nil (B : Nat) (w : World) : Mrow B w [] [] := ⟨rfl, fun i h => by simp at h⟩
theorem Mrow.keep {B : Nat} {w w' : World} {xs : List Value} {L : List Pr} (h : Mrow B w xs L) (k : ∀ b l, NewRow B w b l → NewRow B w' b l) : Mrow B w' xs L := by
  refine ⟨h.1, fun i hi => ?_⟩
  obtain ⟨kb, vb, h1, h2, h3, h4⟩ := h.2 i hi
  exact ⟨kb, vb, h1, h2, k _ _ h3, k _ _ h4⟩
theorem Mrow.snoc {B : Nat} {w : World} {xs : List Value} {L : List Pr} (h : Mrow B w xs L) {p : Pr} {kb vb : Nat} (h1 : NewRow B w kb p.1) (h2 : NewRow B w vb p.2) : Mrow B w (xs ++ [.slice (some ⟨kb, 0, none⟩) p.1.length p.1.length, .slice (some ⟨vb, 0, none⟩) p.2.length p.2.length]) (L ++ [p]) := by
  refine ⟨by simp [h.1]; omega, fun i hi => ?_⟩
  have hl := h.1
  rcases Nat.lt_or_ge i L.length with g | g
  · obtain ⟨ka', va', e1, e2, e3, e4⟩ := h.2 i g
    have e : (L ++ [p])[i] = L[i] := List.getElem_append_left g
    rw [e, List.getElem?_append_left (by omega), List.getElem?_append_left (by omega)]
    exact ⟨ka', va', e1, e2, e3, e4⟩
  · have hi2 : i = L.length := by simp at hi; omega
    subst hi2
    have e : (L ++ [p])[L.length] = p := by simp
    rw [e, List.getElem?_append_right (by omega), List.getElem?_append_right (by omega), hl, Nat.sub_self, show L.length * 2 + 1 - L.length * 2 = 1 by omega]
    exact ⟨kb, vb, rfl, rfl, h1, h2⟩
/-- what List has told so far: the variable at block g -/
def Told (B g : Nat) (w : World) (L : List Pr) : Prop := B ≤ g ∧ ∃ v xs, w.heap[g]? = some (.cells #[v] 23 (0, 0)) ∧ w.ownsRow B 31 2 v L.length xs ∧ Mrow B w xs L
theorem own_block {w : World} {B e n g : Nat} {v : Value} {xs : List Value} (h : w.ownsRow B e 2 v n xs) (hg : some g = v.ownBlock) : ∃ cur, w.heap[g]? = some (.cells cur e (0, 0)) := by
  rcases h.2 with ⟨rfl, _⟩ | ⟨g', cap, cur, rfl, _, h3, _⟩
  · simp [Value.ownBlock] at hg
  · have : g = g' := by simpa [Value.ownBlock] using hg
    subst this
    exact ⟨cur, h3⟩
theorem NewRow.grown {B b : Nat} {w w' : World} {l : List UInt8} {v : Value} {n : Nat} {xs : List Value} (h : NewRow B w b l) (ho : w.ownsRow B 31 2 v n xs) (hg : w.grownBy w' v.ownBlock) : NewRow B w' b l := by
  refine ⟨h.1, (hg.block b (Array.getElem?_eq_some_iff.1 h.2).1 fun e => ?_).trans h.2⟩
  obtain ⟨cur, h3⟩ := own_block ho e
  rw [h.2] at h3
  injection h3 with h3
  injection h3 with _ h3
  cases h3
theorem told_step {B g g1 g2 : Nat} {w wA w1 : World} {v v' : Value} {xs : List Value} {L : List Pr} {q : Pr} (hBg : B ≤ g) (hr : w.heap[g]? = some (.cells #[v] 23 (0, 0))) (ho : w.ownsRow B 31 2 v L.length xs) (hm : Mrow B w xs L) (hB : B ≤ w.heap.size) (hA : Below w.heap.size w wA) (h1 : NewRow w.heap.size wA g1 q.1) (h2 : NewRow w.heap.size wA g2 q.2)
    (hown : w1.ownsRow B 31 2 v' (L.length + 1) (xs ++ [.slice (some ⟨g1, 0, none⟩) q.1.length q.1.length, .slice (some ⟨g2, 0, none⟩) q.2.length q.2.length])) (hgr : wA.grownBy w1 v.ownBlock) :
    (w1.cell? ⟨g, 0, none⟩ = some v ∧ w1.frozen? ⟨g, 0, none⟩ = false) ∧ Told B g (w1.setCell ⟨g, 0, none⟩ v') (L ++ [q]) ∧ Below B w (w1.setCell ⟨g, 0, none⟩ v') := by
  have hgl : g < w.heap.size := (Array.getElem?_eq_some_iff.1 hr).1
  have oA : wA.ownsRow B 31 2 v L.length xs := own_keep ho hA
  have rA : wA.heap[g]? = some (.cells #[v] 23 (0, 0)) := (hA.block g hgl).trans hr
  have hne : some g ≠ v.ownBlock := fun e => by
    obtain ⟨cur, h3⟩ := own_block ho e
    rw [hr] at h3
    injection h3 with h3
    injection h3 with _ h3
    cases h3
  have r1 : w1.heap[g]? = some (.cells #[v] 23 (0, 0)) := (hgr.block g (Nat.lt_of_lt_of_le hgl hA.size) hne).trans rA
  have r2 := heap_setCell_same w1 g 0 _ 23 v' r1
  have up : ∀ b l, NewRow B wA b l → NewRow B (w1.setCell ⟨g, 0, none⟩ v') b l := fun b l h => by
    have h' := h.grown oA hgr
    refine ⟨h'.1, (Below.heap_setCell w1 ⟨g, 0, none⟩ v' b ?_).trans h'.2⟩
    rintro (rfl : b = g)
    rw [h'.2] at r1
    injection r1 with r1
    injection r1 with _ r1
    cases r1
  have up0 : ∀ b l, NewRow B w b l → NewRow B (w1.setCell ⟨g, 0, none⟩ v') b l := fun b l h => up b l ⟨h.1, (hA.block b (Array.getElem?_eq_some_iff.1 h.2).1).trans h.2⟩
  refine ⟨⟨?_, ?_⟩, ⟨hBg, v', _, ?_, ?_, (hm.keep up0).snoc (up g1 q.1 ⟨Nat.le_trans hB h1.1, h1.2⟩) (up g2 q.2 ⟨Nat.le_trans hB h2.1, h2.2⟩)⟩, ?_⟩
  · rw [cell_of_row w1 g 0 _ 23 (0, 0) r1]; rfl
  · simp [World.frozen?, r1]
  · rw [r2]; rfl
  · rw [List.length_append]
    refine ⟨hown.1, ?_⟩
    rcases hown.2 with h | ⟨g', cap, cur, e1, e2, e3, e4⟩
    · exact .inl h
    · refine .inr ⟨g', cap, cur, e1, e2, ?_, e4⟩
      rw [Below.heap_setCell w1 ⟨g, 0, none⟩ v' g' (by
        rintro (rfl : g' = g)
        rw [e3] at r1
        injection r1 with r1
        injection r1 with _ r1
        cases r1)]
      exact e3
  · refine Below.setCell (p := ⟨g, 0, none⟩) ?_ hBg _
    refine ⟨hgr.os.trans hA.os, hgr.tape.trans hA.tape, hgr.output.trans hA.output, Nat.le_trans hA.size hgr.size, fun k hk => ?_⟩
    rw [hgr.block k (Nat.lt_of_lt_of_le hk (Nat.le_trans hB hA.size)) (fun e => ?_), hA.block k (Nat.lt_of_lt_of_le hk hB)]
    rcases ho.2 with ⟨rfl, _⟩ | ⟨g', cap, cur, rfl, hb, _⟩
    · simp [Value.ownBlock] at e
    · have : k = g' := by simpa [Value.ownBlock] using e
      omega
theorem list1_any {F : Nat → Prop} {B g b n kc vc : Nat} {w : World} {ka va pl pr : Option Addr} {q : Pr} {L : List Pr} (hn : Nod F w b ka kc va vc q pl pr n) (ht : Told B g w L) (hl : L.length ≤ 900) (hq : q.1.length ≤ 100000 ∧ q.2.length ≤ 100000) (hB : B ≤ w.heap.size) :
    Calls Tryd.prog 38 #[.pointer (some ⟨b, 0, none⟩), .pointer (some ⟨g, 0, none⟩)] w fun e w' => e = .returned (.bool true) ∧ Told B g w' (L ++ [q]) ∧ Below B w w' := by
  obtain ⟨hBg, v, xs, hr, ho, hm⟩ := ht
  have hgl : g < w.heap.size := (Array.getElem?_eq_some_iff.1 hr).1
  obtain ⟨c0, c1, _, _, _⟩ := hn.cells
  have cg : w.cell? ⟨g, 0, none⟩ = some v := by rw [cell_of_row w g 0 _ 23 (0, 0) hr]; rfl
  have hd : Below w.heap.size w w.drew := (Below.refl _ _).drew
  have htd := told_any (w := w.drew) kc vc (hn.2.2.1.bts.below hd) (hn.2.2.2.bts.below hd) hq
  have hpost := fun wA w1 v' g1 g2 (hA : Below w.heap.size w wA) (h1 : NewRow w.heap.size wA g1 q.1) (h2 : NewRow w.heap.size wA g2 q.2) h3 h4 => told_step (w1 := w1) (v' := v') hBg hr ho hm hB hA h1 h2 h3 h4
  have hoA := fun wA (hA : Below w.heap.size w wA) => own_keep ho hA
  have hcA : ∀ wA (hA : Below w.heap.size w wA) (x y : Value), wA.cell? ⟨g, 0, none⟩ = some v ∧ (wA.alloc (.cells #[x, y] 31)).cell? ⟨g, 0, none⟩ = some v ∧ B ≤ wA.heap.size := fun wA hA x y =>
    ⟨(hA.cell (p := ⟨g, 0, none⟩) hgl).trans cg, ((hA.alloc hA.size _).cell (p := ⟨g, 0, none⟩) hgl).trans cg, Nat.le_trans hB hA.size⟩
  obtain ⟨x1, hx1⟩ : ∃ k, k = q.1.length := ⟨_, rfl⟩
  obtain ⟨x2, hx2⟩ : ∃ k, k = q.2.length := ⟨_, rfl⟩
  simp only [← hx1, ← hx2] at c0 c1 htd hpost
  have HT := Lib.hid htd; clear htd
  have HP := Lib.hid hpost; clear hpost
  have HO := Lib.hid hoA; clear hoA
  have HC := Lib.hid hcA; clear hcA
  have HL := Lib.hid hl; clear hl
  clear hn hr ho hm hq hx1 hx2 hd hBg hgl
  go_enter Tryd.func38, Tryd.ntmps38
  go_wp2_with fail
  go_region_law (first
    | (refine step_app2 23 31 _ 48 Tryd.underlying23 Tryd.info48 rfl (by decide) rfl (.tmp 4) (.tmp 10) rfl v L.length xs (HO.out _ hbA) _ _ rfl rfl (by simp [Act.eval]) (by simp [Act.eval]) (by have := HL.out; omega) (HC.out _ hbA v v).2.2 ?_; intro v' w1 hown hgr; obtain ⟨A', c', rfl, _⟩ := row_reads hown; obtain ⟨⟨s1, s2⟩, s3, s4⟩ := HP.out _ _ _ _ _ hbA h1 h2 hown hgr)
    | (go_simp; go_at_call 39; (with_reducible refine HT.out.mono ?_); rintro e wA ⟨g1, g2, rfl, h1, h2, h3, h4⟩; have hbA : Below w.heap.size w wA := (Below.refl _ _).drew.trans h4; have a1 := (HC.out wA hbA (.slice (some ⟨g1, 0, none⟩) x1 x1) (.slice (some ⟨g2, 0, none⟩) x2 x2)).1; have a2 := (HC.out wA hbA (.slice (some ⟨g1, 0, none⟩) x1 x1) (.slice (some ⟨g2, 0, none⟩) x2 x2)).2.1)
    | fail)
  all_goals
    go_wp2_with fail
    go_ret
    exact ⟨rfl, s3, s4⟩
end Go.Proofs.YtmbdimonfdncpaaDoor
/-
  The contract of List: a tree's pairs, in memory of their own.
-/
namespace Go.Proofs.YtmbdimonfdncpaaDoor
open Go.RowKit
set_option maxHeartbeats 4000000
set_option maxRecDepth 100000
theorem kept_of {B : Nat} {w w' : World} (h : Below B w w') : Kept (fun b => b < B) w w' := fun b hb _ => h.block b hb
theorem each_told {B g : Nat} : ∀ (t : Tr) (p : Option Addr) (w : World) (L : List Pr), Tre (fun b => b < B) w t p → Told B g w L → L.length + t.size ≤ 800 → B ≤ w.heap.size → Fits t.list →
    Calls Tryd.prog 33 #[.pointer p, .func (.func 38) #[] #[.pointer (some ⟨g, 0, none⟩)]] w fun e w' => e = .returned (.bool true) ∧ Told B g w' (L ++ t.list) ∧ Below B w w'
  | .nil, p, w, L, ht, hL, _, _, _ => by
    obtain rfl : p = none := ht
    have HL := Lib.hid hL; clear hL
    go_enter Tryd.func33, Tryd.ntmps33
    go_wp2
    go_ret
    exact ⟨rfl, by simpa [Tr.list] using HL.out, Below.refl _ _⟩
  | .node l q r, p, w, L, ht, hL, hn, hB, hf => by
    have hf1 : Fits l.list := fun x hx => hf x (by simp [Tr.list, hx])
    have hf2 : Fits r.list := fun x hx => hf x (by simp [Tr.list, hx])
    have hq := hf q (by simp [Tr.list])
    obtain ⟨b, ka, kc, va, vc, pl, pr, rfl, nd, hl, hr⟩ := ht
    have hsz : L.length + l.size + r.size + 1 ≤ 800 := by simp only [Tr.size] at hn; omega
    have i1 := each_told l pl w L hl hL (by omega) hB hf1
    have i2 := fun w1 (h1 : Told B g w1 (L ++ l.list)) (hb : Below B w w1) => list1_any (nd.kept (kept_of hb)) h1 (by rw [List.length_append, Tr.length]; omega) (by omega) (Nat.le_trans hB hb.size)
    have i3 := fun w1 (h1 : Told B g w1 (L ++ l.list ++ [q])) (hb : Below B w w1) => each_told r pr w1 _ (hr.kept (kept_of hb)) h1 (by simp only [List.length_append, List.length_cons, List.length_nil, Tr.length]; omega) (Nat.le_trans hB hb.size) hf2
    have hc := fun w1 (hb : Below B w w1) => (nd.kept (kept_of hb)).cells.2.2.2.1
    obtain ⟨_, _, c2, c3, _⟩ := nd.cells
    have eg : ∀ args w, (callFunc 38 args).run Tryd.prog w = .ok (.enter 38 args) w := enters_of Tryd.func38 (by kernel_rfl) rfl
    have I1 := Lib.hid i1; clear i1
    have I2 := Lib.hid i2; clear i2
    have I3 := Lib.hid i3; clear i3
    have HC := Lib.hid hc; clear hc
    clear nd hl hr hf hf1 hf2 hq hn hsz hL hB
    go_enter Tryd.func33, Tryd.ntmps33
    go_wp2_with fail
    refine I1.out.mono ?_
    rintro e w1 ⟨rfl, h1, hb1⟩
    have J2 := Lib.hid (I2.out w1 h1 hb1)
    have HB1 := Lib.hid hb1; clear hb1
    clear h1 I1 I2 c2 c3
    go_wp2_with fail
    refine J2.out.mono ?_
    rintro e w2 ⟨rfl, h2, hb2⟩
    have hb := HB1.out.trans hb2
    have J3 := Lib.hid (I3.out w2 h2 hb)
    have c3 := HC.out w2 hb
    have HB2 := Lib.hid hb; clear hb
    clear h2 hb2 I3 J2 HC HB1
    go_wp2_with fail
    refine J3.out.mono ?_
    rintro e w3 ⟨rfl, h3, hb3⟩
    have H3 := Lib.hid h3; clear h3
    have HB3 := Lib.hid hb3; clear hb3
    go_wp2_with fail
    go_ret
    exact ⟨rfl, by simpa [Tr.list] using H3.out, HB2.out.trans HB3.out⟩
/-- what List hands back: pairs in memory of their own, from B on -/
def Fresh (B : Nat) (w : World) (A : Option Addr) (c : Nat) (L : List Pr) : Prop := ∃ xs, w.ownsRow B 31 2 (.slice A L.length c) L.length xs ∧ Mrow B w xs L
theorem Fresh.pcs {B : Nat} {w : World} {A : Option Addr} {c : Nat} {L : List Pr} (h : Fresh B w A c L) : Pcs w A L := by
  obtain ⟨xs, ho, hm⟩ := h
  obtain ⟨A', c', e, hr⟩ := row_reads ho
  injection e with e1 _ _
  subst e1
  rcases Nat.eq_zero_or_pos L.length with h0 | h0
  · exact .inl (List.eq_nil_of_length_eq_zero h0)
  · obtain ⟨g, rfl, _, hg, hc⟩ := hr h0
    refine .inr ⟨g, 0, rfl, hg, fun i hi => ?_⟩
    obtain ⟨kb, vb, h1, h2, h3, h4⟩ := hm.2 i hi
    rw [Nat.zero_add, hc _ (by omega), hc _ (by omega)]
    exact ⟨_, _, _, _, h1, h2, bts_row h3.2, bts_row h4.2⟩
theorem list_any {F : Nat → Prop} {w : World} {t : Tr} {p : Option Addr} (ht : Tre F w t p) (hn : t.size ≤ 800) (hf : Fits t.list) :
    Calls Tryd.prog 23 #[.pointer p] w fun e w' => ∃ A c, e = .returned (.slice A t.list.length c) ∧ Fresh w.heap.size w' A c t.list ∧ Below w.heap.size w w' := by
  by_cases hnil : t = .nil
  · subst hnil
    obtain rfl : p = none := ht
    go_enter Tryd.func23, Tryd.ntmps23
    go_wp2
    go_ret
    exact ⟨none, 0, rfl, ⟨[], ⟨rfl, .inl ⟨rfl, rfl⟩⟩, Mrow.nil _ _⟩, Below.refl _ _⟩
  · obtain ⟨b, rfl, _⟩ := tre_some ht hnil
    have s1 := size_any ht (by omega)
    obtain ⟨i0, hi, hz0, hz1, hz2⟩ := info_parts Tryd.info48
    obtain ⟨w1, hmk, hown, hgr⟩ := run_make_own (P := Tryd.prog) w w.heap.size 23 31 i0 _ 2 Tryd.underlying23 hi hz0 hz1 .i64 .i64 t.size (by rw [hz2]; omega) (by unfold maxLen; omega) (Nat.le_refl _)
    have hb1 : Below w.heap.size w w1 := ⟨hgr.os, hgr.tape, hgr.output, hgr.size, fun k hk => hgr.block k hk (by simp)⟩
    obtain ⟨v0, hv0⟩ : ∃ v, v = Value.slice (some ⟨w.heap.size, 0, none⟩) 0 t.size := ⟨_, rfl⟩
    obtain ⟨w2, hw2⟩ : ∃ w2, w2 = w1.alloc (.cells #[v0] 23) := ⟨_, rfl⟩
    have hb2 : Below w.heap.size w w2 := by rw [hw2]; exact hb1.alloc hb1.size _
    have hb12 : Below w1.heap.size w1 w2 := by rw [hw2]; exact (Below.refl _ _).alloc (Nat.le_refl _) _
    have htold : Told w.heap.size w1.heap.size w2 [] := by
      refine ⟨hb1.size, v0, [], by rw [hw2]; exact heap_alloc_new w1 _, ?_, Mrow.nil _ _⟩
      rw [hv0]
      exact own_keep hown hb12
    have he := each_told t (some ⟨b, 0, none⟩) w2 [] ((ht.mono (G := fun b => b < w.heap.size) (fun _ h _ => h)).below hb2) htold (by simp; omega) hb2.size hf
    rw [hv0] at hw2
    obtain ⟨n, hn2⟩ : ∃ n, n = t.size := ⟨_, rfl⟩
    rw [← hn2] at s1 hmk hw2
    have S1 := Lib.hid s1; clear s1
    have HE := Lib.hid he; clear he
    have HB1 := Lib.hid hb2; clear hb2
    have HW := Lib.hid hw2; clear hw2
    clear ht hn hf hnil hown hgr hb1 hb12 htold hi hz0 hz1 hz2 hn2 hv0
    go_enter Tryd.func23, Tryd.ntmps23
    go_wp2_with fail
    refine S1.out.mono ?_
    rintro e w' ⟨rfl, rfl⟩
    go_wp2_with fail
    rw [← HW.out]
    refine HE.out.mono ?_
    rintro e w3 ⟨rfl, ⟨_, v, xs, h1, h2, h3⟩, hb3⟩
    have cg : w3.cell? ⟨w1.heap.size, 0, none⟩ = some v := by rw [cell_of_row w3 _ 0 _ 23 (0, 0) h1]; rfl
    obtain ⟨A, c, rfl, _⟩ := row_reads h2
    have H2 := Lib.hid h2; clear h2
    have H3 := Lib.hid h3; clear h3
    have HB3 := Lib.hid hb3; clear hb3
    clear h1
    go_wp2_with fail
    go_ret
    exact ⟨A, c, rfl, ⟨xs, H2.out, H3.out⟩, HB1.out.trans HB3.out⟩
end Go.Proofs.YtmbdimonfdncpaaDoor
/-
  The contracts of the reference's Put and Is, for lists of any length that may come; all pairs of a node, plainly.
-/
namespace Go.Proofs.YtmbdimonfdncpaaDoor
open Go.RowKit
set_option maxHeartbeats 4000000
set_option maxRecDepth 100000
end Go.Proofs.YtmbdimonfdncpaaDoor
