/-
  Contracts of List and Sound, with what each is called with.
-/
import Derived.Test.YtmbdimonfdncpaaGreatDoorFrom
import Derived.Test.YtmbdimonfdncpaaGreatDoorRefz
import Derived.Deep.RegionLaw
import Derived.Test.YtmbdimonfdncpaaGreatDoorPlain
import Derived.Laws.StructEq
import Derived.Test.YtmbdimonfdncpaaGreatDoorNods
import Derived.Test.YtmbdimonfdncpaaGreatDoorSorting
import Derived.Test.YtmbdimonfdncpaaGreatDoorKins
import Derived.Test.YtmbdimonfdncpaaGreatDoorMaking
namespace Go.Proofs.YtmbdimonfdncpaaGreatDoor
open Go.RowKit
set_option maxHeartbeats 4000000
set_option maxRecDepth 100000
/-- append of one pair that was laid into a block of its own just ahead, where a region draws its order -/
theorem step_app2 {B : Nat} {w : World} {ops : Array Oper} {o : Oper} {a : Act} {K : Act → World → Prop} {Q : Exit → Act → World → Prop} {E : Prop} (t e : TypeId) (z : Value) (bytes : Nat) (hu : Tryz.prog.underlying t = some (.slice e)) (hinf : (Tryz.prog.info? e).map (fun i => (i.zero, i.size, i.bytes)) = some (some z, 2, bytes)) (hz : z.cells.size = 2) (hby : bytes ≤ 100)
    (hgd : o.guard = none) (s x : Operand) (ho : o.op = .call { callee := .builtin .append, args := #[s, x], argTypes := #[t, t] }) (v : Value) (n : Nat) (xs : List Value) (h : w.ownsRow B e 2 v n xs) (x1 x2 : Value) (h1 : x1.oneCell' = true) (h2 : x2.oneCell' = true) (hs : a.eval s = v) (hx : a.eval x = .slice (some ⟨w.heap.size, 0, none⟩) 1 1) (hn : n ≤ 1000) (hB : B ≤ w.heap.size)
    (hK : ∀ v' w', w'.ownsRow B e 2 v' (n + 1) (xs ++ [x1, x2]) → w.grownBy w' v.ownBlock → K (a.put o.dst v') w') :
    if Region.wanted o (yielded ops a.tmps) = true then Oper.wp Tryz.prog o a (w.alloc (.cells #[x1, x2] e)) K Q else E := by
  have hw : Region.wanted o (yielded ops a.tmps) = true := by simp [Region.wanted, hgd]
  rw [if_pos hw]
  obtain ⟨i0, hi, hz0, hz1, hz2⟩ := info_parts hinf
  have hnew : (w.alloc (.cells #[x1, x2] e)).heap[w.heap.size]? = some (.cells #[x1, x2] e (0, 0)) := heap_alloc_new w _
  obtain ⟨v', w', hr, hown, hg, _⟩ := run_append_own (P := Tryz.prog) (w.alloc (.cells #[x1, x2] e)) B t o.type e i0 z 2 bytes hu hi hz0 hz1 hz2 hz (by decide) v n xs (World.ownsRow.alloc h _) ⟨w.heap.size, 0, none⟩ 1 1 [x1, x2] rfl
    (by
      intro j u hj
      rw [Go.WideShapes.add_plain, Nat.zero_add, cell_of_row _ w.heap.size j _ e (0, 0) hnew, ← hj]
      simp)
    (by
      intro u hu
      rcases List.mem_cons.1 hu with rfl | hu
      · exact h1
      · rcases List.mem_cons.1 hu with rfl | hu
        · exact h2
        · cases hu)
    (by unfold maxLen; omega) (by have := Nat.mul_le_mul (show n + 1 ≤ 1001 by omega) hby; omega) (by simp; omega)
  have hg2 : w.grownBy w' v.ownBlock := grown_then (World.grownBy_alloc w _ none) hg
  unfold Oper.wp execOp
  simp only [ho, resolve, invoke, builtin, Sem.run_bind, Sem.run_pure, Result.andThen_ok, List.map_toArray, List.map_cons, List.map_nil, hs, hx, hr]
  exact hK v' w' hown hg2
/-- the cells of a list of pairs, each of whose keys and values has a row of its own -/
def Mrow (B : Nat) (w : World) (xs : List Value) (L : List Pr) : Prop := xs.length = L.length * 2 ∧ ∀ i (h : i < L.length), ∃ kb vb,
  xs[i * 2]? = some (.slice (some ⟨kb, 0, none⟩) (L[i]).1.length (L[i]).1.length) ∧ xs[i * 2 + 1]? = some (.slice (some ⟨vb, 0, none⟩) (L[i]).2.length (L[i]).2.length) ∧ NewRow B w kb (L[i]).1 ∧ NewRow B w vb (L[i]).2
theorem Mrow.nil (B : Nat) (w : World) : Mrow B w [] [] := ⟨rfl, fun i h => by simp at h⟩
theorem Mrow.keep {B : Nat} {w w' : World} {xs : List Value} {L : List Pr} (h : Mrow B w xs L) (k : ∀ b l, NewRow B w b l → NewRow B w' b l) : Mrow B w' xs L := by
  refine ⟨h.1, fun i hi => ?_⟩
  obtain ⟨kb, vb, h1, h2, h3, h4⟩ := h.2 i hi
  exact ⟨kb, vb, h1, h2, k _ _ h3, k _ _ h4⟩
theorem Mrow.snoc {B : Nat} {w : World} {xs : List Value} {L : List Pr} (h : Mrow B w xs L) {p : Pr} {kb vb : Nat} (h1 : NewRow B w kb p.1) (h2 : NewRow B w vb p.2) : Mrow B w (xs ++ [.slice (some ⟨kb, 0, none⟩) p.1.length p.1.length, .slice (some ⟨vb, 0, none⟩) p.2.length p.2.length]) (L ++ [p]) := by
  refine ⟨by simp [h.1]; omega, fun i hi => ?_⟩
  have hl := h.1
  rcases Nat.lt_or_ge i L.length with g | g
  · obtain ⟨ka', va', e1, e2, e3, e4⟩ := h.2 i g
    have e : (L ++ [p])[i] = L[i] := List.getElem_append_left g
    rw [e, List.getElem?_append_left (by omega), List.getElem?_append_left (by omega)]
    exact ⟨ka', va', e1, e2, e3, e4⟩
  · have hi2 : i = L.length := by simp at hi; omega
    subst hi2
    have e : (L ++ [p])[L.length] = p := by simp
    rw [e, List.getElem?_append_right (by omega), List.getElem?_append_right (by omega), hl, Nat.sub_self, show L.length * 2 + 1 - L.length * 2 = 1 by omega]
    exact ⟨kb, vb, rfl, rfl, h1, h2⟩
/-- what List has told so far: the variable at block g -/
def Told (B g : Nat) (w : World) (L : List Pr) : Prop := B ≤ g ∧ ∃ v xs, w.heap[g]? = some (.cells #[v] 23 (0, 0)) ∧ w.ownsRow B 29 2 v L.length xs ∧ Mrow B w xs L
theorem own_block {w : World} {B e n g : Nat} {v : Value} {xs : List Value} (h : w.ownsRow B e 2 v n xs) (hg : some g = v.ownBlock) : ∃ cur, w.heap[g]? = some (.cells cur e (0, 0)) := by
  rcases h.2 with ⟨rfl, _⟩ | ⟨g', cap, cur, rfl, _, h3, _⟩
  · simp [Value.ownBlock] at hg
  · have : g = g' := by simpa [Value.ownBlock] using hg
    subst this
    exact ⟨cur, h3⟩
theorem NewRow.grown {B b : Nat} {w w' : World} {l : List UInt8} {v : Value} {n : Nat} {xs : List Value} (h : NewRow B w b l) (ho : w.ownsRow B 29 2 v n xs) (hg : w.grownBy w' v.ownBlock) : NewRow B w' b l := by
  refine ⟨h.1, (hg.block b (Array.getElem?_eq_some_iff.1 h.2).1 fun e => ?_).trans h.2⟩
  obtain ⟨cur, h3⟩ := own_block ho e
  rw [h.2] at h3
  injection h3 with h3
  injection h3 with _ h3
  cases h3
theorem told_step {B g g1 g2 : Nat} {w wA w1 : World} {v v' : Value} {xs : List Value} {L : List Pr} {q : Pr} (hBg : B ≤ g) (hr : w.heap[g]? = some (.cells #[v] 23 (0, 0))) (ho : w.ownsRow B 29 2 v L.length xs) (hm : Mrow B w xs L) (hB : B ≤ w.heap.size) (hA : Below w.heap.size w wA) (h1 : NewRow w.heap.size wA g1 q.1) (h2 : NewRow w.heap.size wA g2 q.2)
    (hown : w1.ownsRow B 29 2 v' (L.length + 1) (xs ++ [.slice (some ⟨g1, 0, none⟩) q.1.length q.1.length, .slice (some ⟨g2, 0, none⟩) q.2.length q.2.length])) (hgr : wA.grownBy w1 v.ownBlock) :
    (w1.cell? ⟨g, 0, none⟩ = some v ∧ w1.frozen? ⟨g, 0, none⟩ = false) ∧ Told B g (w1.setCell ⟨g, 0, none⟩ v') (L ++ [q]) ∧ Below B w (w1.setCell ⟨g, 0, none⟩ v') := by
  have hgl : g < w.heap.size := (Array.getElem?_eq_some_iff.1 hr).1
  have oA : wA.ownsRow B 29 2 v L.length xs := own_keep ho hA
  have rA : wA.heap[g]? = some (.cells #[v] 23 (0, 0)) := (hA.block g hgl).trans hr
  have hne : some g ≠ v.ownBlock := fun e => by
    obtain ⟨cur, h3⟩ := own_block ho e
    rw [hr] at h3
    injection h3 with h3
    injection h3 with _ h3
    cases h3
  have r1 : w1.heap[g]? = some (.cells #[v] 23 (0, 0)) := (hgr.block g (Nat.lt_of_lt_of_le hgl hA.size) hne).trans rA
  have r2 := heap_setCell_same w1 g 0 _ 23 v' r1
  have up : ∀ b l, NewRow B wA b l → NewRow B (w1.setCell ⟨g, 0, none⟩ v') b l := fun b l h => by
    have h' := h.grown oA hgr
    refine ⟨h'.1, (Below.heap_setCell w1 ⟨g, 0, none⟩ v' b ?_).trans h'.2⟩
    rintro (rfl : b = g)
    rw [h'.2] at r1
    injection r1 with r1
    injection r1 with _ r1
    cases r1
  have up0 : ∀ b l, NewRow B w b l → NewRow B (w1.setCell ⟨g, 0, none⟩ v') b l := fun b l h => up b l ⟨h.1, (hA.block b (Array.getElem?_eq_some_iff.1 h.2).1).trans h.2⟩
  refine ⟨⟨?_, ?_⟩, ⟨hBg, v', _, ?_, ?_, (hm.keep up0).snoc (up g1 q.1 ⟨Nat.le_trans hB h1.1, h1.2⟩) (up g2 q.2 ⟨Nat.le_trans hB h2.1, h2.2⟩)⟩, ?_⟩
  · rw [cell_of_row w1 g 0 _ 23 (0, 0) r1]; rfl
  · simp [World.frozen?, r1]
  · rw [r2]; rfl
  · rw [List.length_append]
    refine ⟨hown.1, ?_⟩
    rcases hown.2 with h | ⟨g', cap, cur, e1, e2, e3, e4⟩
    · exact .inl h
    · refine .inr ⟨g', cap, cur, e1, e2, ?_, e4⟩
      rw [Below.heap_setCell w1 ⟨g, 0, none⟩ v' g' (by
        rintro (rfl : g' = g)
        rw [e3] at r1
        injection r1 with r1
        injection r1 with _ r1
        cases r1)]
      exact e3
  · refine Below.setCell (p := ⟨g, 0, none⟩) ?_ hBg _
    refine ⟨hgr.os.trans hA.os, hgr.tape.trans hA.tape, hgr.output.trans hA.output, Nat.le_trans hA.size hgr.size, fun k hk => ?_⟩
    rw [hgr.block k (Nat.lt_of_lt_of_le hk (Nat.le_trans hB hA.size)) (fun e => ?_), hA.block k (Nat.lt_of_lt_of_le hk hB)]
    rcases ho.2 with ⟨rfl, _⟩ | ⟨g', cap, cur, rfl, hb, _⟩
    · simp [Value.ownBlock] at e
    · have : k = g' := by simpa [Value.ownBlock] using e
      omega
theorem list1_any {F : Nat → Prop} {B g b n kc vc : Nat} {w : World} {ka va pl pr : Option Addr} {q : Pr} {L : List Pr} (hn : Nod F w b ka kc va vc q pl pr n) (ht : Told B g w L) (hl : L.length ≤ 900) (hq : q.1.length ≤ 100000 ∧ q.2.length ≤ 100000) (hB : B ≤ w.heap.size) :
    Calls Tryz.prog 79 #[.pointer (some ⟨b, 0, none⟩), .pointer (some ⟨g, 0, none⟩)] w fun e w' => e = .returned (.bool true) ∧ Told B g w' (L ++ [q]) ∧ Below B w w' := by
  obtain ⟨hBg, v, xs, hr, ho, hm⟩ := ht
  have hgl : g < w.heap.size := (Array.getElem?_eq_some_iff.1 hr).1
  obtain ⟨c0, c1, _, _, _⟩ := hn.cells
  have cg : w.cell? ⟨g, 0, none⟩ = some v := by rw [cell_of_row w g 0 _ 23 (0, 0) hr]; rfl
  have hd : Below w.heap.size w w.drew := (Below.refl _ _).drew
  have htd := told_any (w := w.drew) kc vc (hn.2.2.1.bts.below hd) (hn.2.2.2.bts.below hd) hq
  have hpost := fun wA w1 v' g1 g2 (hA : Below w.heap.size w wA) (h1 : NewRow w.heap.size wA g1 q.1) (h2 : NewRow w.heap.size wA g2 q.2) h3 h4 => told_step (w1 := w1) (v' := v') hBg hr ho hm hB hA h1 h2 h3 h4
  have hoA := fun wA (hA : Below w.heap.size w wA) => own_keep ho hA
  have hcA : ∀ wA (hA : Below w.heap.size w wA) (x y : Value), wA.cell? ⟨g, 0, none⟩ = some v ∧ (wA.alloc (.cells #[x, y] 29)).cell? ⟨g, 0, none⟩ = some v ∧ B ≤ wA.heap.size := fun wA hA x y =>
    ⟨(hA.cell (p := ⟨g, 0, none⟩) hgl).trans cg, ((hA.alloc hA.size _).cell (p := ⟨g, 0, none⟩) hgl).trans cg, Nat.le_trans hB hA.size⟩
  obtain ⟨x1, hx1⟩ : ∃ k, k = q.1.length := ⟨_, rfl⟩
  obtain ⟨x2, hx2⟩ : ∃ k, k = q.2.length := ⟨_, rfl⟩
  simp only [← hx1, ← hx2] at c0 c1 htd hpost
  have HT := Lib.hid htd; clear htd
  have HP := Lib.hid hpost; clear hpost
  have HO := Lib.hid hoA; clear hoA
  have HC := Lib.hid hcA; clear hcA
  have HL := Lib.hid hl; clear hl
  clear hn hr ho hm hq hx1 hx2 hd hBg hgl
  go_enter Tryz.func79, Tryz.ntmps79
  go_wp2_with fail
  go_region_law (first
    | (refine step_app2 23 29 _ 48 Tryz.underlying23 Tryz.info48 rfl (by decide) rfl (.tmp 4) (.tmp 10) rfl v L.length xs (HO.out _ hbA) _ _ rfl rfl (by simp [Act.eval]) (by simp [Act.eval]) (by have := HL.out; omega) (HC.out _ hbA v v).2.2 ?_; intro v' w1 hown hgr; obtain ⟨A', c', rfl, _⟩ := row_reads hown; obtain ⟨⟨s1, s2⟩, s3, s4⟩ := HP.out _ _ _ _ _ hbA h1 h2 hown hgr)
    | (go_simp; go_at_call 80; (with_reducible refine HT.out.mono ?_); rintro e wA ⟨g1, g2, rfl, h1, h2, h3, h4⟩; have hbA : Below w.heap.size w wA := (Below.refl _ _).drew.trans h4; have a1 := (HC.out wA hbA (.slice (some ⟨g1, 0, none⟩) x1 x1) (.slice (some ⟨g2, 0, none⟩) x2 x2)).1; have a2 := (HC.out wA hbA (.slice (some ⟨g1, 0, none⟩) x1 x1) (.slice (some ⟨g2, 0, none⟩) x2 x2)).2.1)
    | fail)
  all_goals
    go_wp2_with fail
    go_ret
    exact ⟨rfl, s3, s4⟩
end Go.Proofs.YtmbdimonfdncpaaGreatDoor
/-
  The contract of List: a tree's pairs, in memory of their own.
-/
namespace Go.Proofs.YtmbdimonfdncpaaGreatDoor
open Go.RowKit
set_option maxHeartbeats 4000000
set_option maxRecDepth 100000
theorem kept_of {B : Nat} {w w' : World} (h : Below B w w') : Kept (fun b => b < B) w w' := fun b hb _ => h.block b hb
theorem each_told {B g : Nat} : ∀ (t : Tr) (p : Option Addr) (w : World) (L : List Pr), Tre (fun b => b < B) w t p → Told B g w L → L.length + t.size ≤ 800 → B ≤ w.heap.size → Fits t.list →
    Calls Tryz.prog 78 #[.pointer p, .func (.func 79) #[] #[.pointer (some ⟨g, 0, none⟩)]] w fun e w' => e = .returned (.bool true) ∧ Told B g w' (L ++ t.list) ∧ Below B w w'
  | .nil, p, w, L, ht, hL, _, _, _ => by
    obtain rfl : p = none := ht
    have HL := Lib.hid hL; clear hL
    go_enter Tryz.func78, Tryz.ntmps78
    go_wp2
    go_ret
    exact ⟨rfl, by simpa [Tr.list] using HL.out, Below.refl _ _⟩
  | .node l q r, p, w, L, ht, hL, hn, hB, hf => by
    have hf1 : Fits l.list := fun x hx => hf x (by simp [Tr.list, hx])
    have hf2 : Fits r.list := fun x hx => hf x (by simp [Tr.list, hx])
    have hq := hf q (by simp [Tr.list])
    obtain ⟨b, ka, kc, va, vc, pl, pr, rfl, nd, hl, hr⟩ := ht
    have hsz : L.length + l.size + r.size + 1 ≤ 800 := by simp only [Tr.size] at hn; omega
    have i1 := each_told l pl w L hl hL (by omega) hB hf1
    have i2 := fun w1 (h1 : Told B g w1 (L ++ l.list)) (hb : Below B w w1) => list1_any (nd.kept (kept_of hb)) h1 (by rw [List.length_append, Tr.length]; omega) (by omega) (Nat.le_trans hB hb.size)
    have i3 := fun w1 (h1 : Told B g w1 (L ++ l.list ++ [q])) (hb : Below B w w1) => each_told r pr w1 _ (hr.kept (kept_of hb)) h1 (by simp only [List.length_append, List.length_cons, List.length_nil, Tr.length]; omega) (Nat.le_trans hB hb.size) hf2
    have hc := fun w1 (hb : Below B w w1) => (nd.kept (kept_of hb)).cells.2.2.2.1
    obtain ⟨_, _, c2, c3, _⟩ := nd.cells
    have eg : ∀ args w, (callFunc 79 args).run Tryz.prog w = .ok (.enter 79 args) w := enters_of Tryz.func79 (by kernel_rfl) rfl
    have I1 := Lib.hid i1; clear i1
    have I2 := Lib.hid i2; clear i2
    have I3 := Lib.hid i3; clear i3
    have HC := Lib.hid hc; clear hc
    clear nd hl hr hf hf1 hf2 hq hn hsz hL hB
    go_enter Tryz.func78, Tryz.ntmps78
    go_wp2_with fail
    refine I1.out.mono ?_
    rintro e w1 ⟨rfl, h1, hb1⟩
    have J2 := Lib.hid (I2.out w1 h1 hb1)
    have HB1 := Lib.hid hb1; clear hb1
    clear h1 I1 I2 c2 c3
    go_wp2_with fail
    refine J2.out.mono ?_
    rintro e w2 ⟨rfl, h2, hb2⟩
    have hb := HB1.out.trans hb2
    have J3 := Lib.hid (I3.out w2 h2 hb)
    have c3 := HC.out w2 hb
    have HB2 := Lib.hid hb; clear hb
    clear h2 hb2 I3 J2 HC HB1
    go_wp2_with fail
    refine J3.out.mono ?_
    rintro e w3 ⟨rfl, h3, hb3⟩
    have H3 := Lib.hid h3; clear h3
    have HB3 := Lib.hid hb3; clear hb3
    go_wp2_with fail
    go_ret
    exact ⟨rfl, by simpa [Tr.list] using H3.out, HB2.out.trans HB3.out⟩
/-- what List hands back: pairs in memory of their own, from B on -/
def Fresh (B : Nat) (w : World) (A : Option Addr) (c : Nat) (L : List Pr) : Prop := ∃ xs, w.ownsRow B 29 2 (.slice A L.length c) L.length xs ∧ Mrow B w xs L
theorem Fresh.pcs {B : Nat} {w : World} {A : Option Addr} {c : Nat} {L : List Pr} (h : Fresh B w A c L) : Pcs w A L := by
  obtain ⟨xs, ho, hm⟩ := h
  obtain ⟨A', c', e, hr⟩ := row_reads ho
  injection e with e1 _ _
  subst e1
  rcases Nat.eq_zero_or_pos L.length with h0 | h0
  · exact .inl (List.eq_nil_of_length_eq_zero h0)
  · obtain ⟨g, rfl, _, hg, hc⟩ := hr h0
    refine .inr ⟨g, 0, rfl, hg, fun i hi => ?_⟩
    obtain ⟨kb, vb, h1, h2, h3, h4⟩ := hm.2 i hi
    rw [Nat.zero_add, hc _ (by omega), hc _ (by omega)]
    exact ⟨_, _, _, _, h1, h2, bts_row h3.2, bts_row h4.2⟩
theorem list_any {F : Nat → Prop} {w : World} {t : Tr} {p : Option Addr} (ht : Tre F w t p) (hn : t.size ≤ 800) (hf : Fits t.list) :
    Calls Tryz.prog 55 #[.pointer p] w fun e w' => ∃ A c, e = .returned (.slice A t.list.length c) ∧ Fresh w.heap.size w' A c t.list ∧ Below w.heap.size w w' := by
  by_cases hnil : t = .nil
  · subst hnil
    obtain rfl : p = none := ht
    go_enter Tryz.func55, Tryz.ntmps55
    go_wp2
    go_ret
    exact ⟨none, 0, rfl, ⟨[], ⟨rfl, .inl ⟨rfl, rfl⟩⟩, Mrow.nil _ _⟩, Below.refl _ _⟩
  · obtain ⟨b, rfl, _⟩ := tre_some ht hnil
    have s1 := size_any ht (by omega)
    obtain ⟨i0, hi, hz0, hz1, hz2⟩ := info_parts Tryz.info48
    obtain ⟨w1, hmk, hown, hgr⟩ := run_make_own (P := Tryz.prog) w w.heap.size 23 29 i0 _ 2 Tryz.underlying23 hi hz0 hz1 .i64 .i64 t.size (by rw [hz2]; omega) (by unfold maxLen; omega) (Nat.le_refl _)
    have hb1 : Below w.heap.size w w1 := ⟨hgr.os, hgr.tape, hgr.output, hgr.size, fun k hk => hgr.block k hk (by simp)⟩
    obtain ⟨v0, hv0⟩ : ∃ v, v = Value.slice (some ⟨w.heap.size, 0, none⟩) 0 t.size := ⟨_, rfl⟩
    obtain ⟨w2, hw2⟩ : ∃ w2, w2 = w1.alloc (.cells #[v0] 23) := ⟨_, rfl⟩
    have hb2 : Below w.heap.size w w2 := by rw [hw2]; exact hb1.alloc hb1.size _
    have hb12 : Below w1.heap.size w1 w2 := by rw [hw2]; exact (Below.refl _ _).alloc (Nat.le_refl _) _
    have htold : Told w.heap.size w1.heap.size w2 [] := by
      refine ⟨hb1.size, v0, [], by rw [hw2]; exact heap_alloc_new w1 _, ?_, Mrow.nil _ _⟩
      rw [hv0]
      exact own_keep hown hb12
    have he := each_told t (some ⟨b, 0, none⟩) w2 [] ((ht.mono (G := fun b => b < w.heap.size) (fun _ h _ => h)).below hb2) htold (by simp; omega) hb2.size hf
    rw [hv0] at hw2
    obtain ⟨n, hn2⟩ : ∃ n, n = t.size := ⟨_, rfl⟩
    rw [← hn2] at s1 hmk hw2
    have S1 := Lib.hid s1; clear s1
    have HE := Lib.hid he; clear he
    have HB1 := Lib.hid hb2; clear hb2
    have HW := Lib.hid hw2; clear hw2
    clear ht hn hf hnil hown hgr hb1 hb12 htold hi hz0 hz1 hz2 hn2 hv0
    go_enter Tryz.func55, Tryz.ntmps55
    go_wp2_with fail
    refine S1.out.mono ?_
    rintro e w' ⟨rfl, rfl⟩
    go_wp2_with fail
    rw [← HW.out]
    refine HE.out.mono ?_
    rintro e w3 ⟨rfl, ⟨_, v, xs, h1, h2, h3⟩, hb3⟩
    have cg : w3.cell? ⟨w1.heap.size, 0, none⟩ = some v := by rw [cell_of_row w3 _ 0 _ 23 (0, 0) h1]; rfl
    obtain ⟨A, c, rfl, _⟩ := row_reads h2
    have H2 := Lib.hid h2; clear h2
    have H3 := Lib.hid h3; clear h3
    have HB3 := Lib.hid hb3; clear hb3
    clear h1
    go_wp2_with fail
    go_ret
    exact ⟨A, c, rfl, ⟨xs, H2.out, H3.out⟩, HB1.out.trans HB3.out⟩
end Go.Proofs.YtmbdimonfdncpaaGreatDoor
/-
  The contracts of the reference's Put and Is, for lists of any length that may come; all pairs of a node, plainly.
-/
namespace Go.Proofs.YtmbdimonfdncpaaGreatDoor
open Go.RowKit
set_option maxHeartbeats 4000000
set_option maxRecDepth 100000
/-- append of one pair that was laid into a block of its own just ahead -/
theorem list_app2B {B : Nat} {w : World} {ops : Array Oper} {rest : List Oper} {o : Oper} {a : Act} {Q : Exit → Act → World → Prop} (t e : TypeId) (z : Value) (bytes : Nat) (hu : Tryz.prog.underlying t = some (.slice e)) (hinf : (Tryz.prog.info? e).map (fun i => (i.zero, i.size, i.bytes)) = some (some z, 2, bytes)) (hz : z.cells.size = 2) (hby : bytes ≤ 100)
    (hgd : o.guard = none) (s x : Operand) (ho : o.op = .call { callee := .builtin .append, args := #[s, x], argTypes := #[t, t] }) (v : Value) (n : Nat) (xs : List Value) (h : w.ownsRow B e 2 v n xs) (x1 x2 : Value) (h1 : x1.oneCell' = true) (h2 : x2.oneCell' = true) (hs : a.eval s = v) (hx : a.eval x = .slice (some ⟨w.heap.size, 0, none⟩) 1 1) (hn : n ≤ 1000000000000) (hB : B ≤ w.heap.size)
    (hK : ∀ v' w', w'.ownsRow B e 2 v' (n + 1) (xs ++ [x1, x2]) → w.grownBy w' v.ownBlock → wpList Tryz.prog ops Q rest (a.put o.dst v') w') : wpList Tryz.prog ops Q (o :: rest) a (w.alloc (.cells #[x1, x2] e)) := by
  obtain ⟨i0, hi, hz0, hz1, hz2⟩ := info_parts hinf
  have hnew : (w.alloc (.cells #[x1, x2] e)).heap[w.heap.size]? = some (.cells #[x1, x2] e (0, 0)) := heap_alloc_new w _
  obtain ⟨v', w', hr, hown, hg, _⟩ := run_append_own (P := Tryz.prog) (w.alloc (.cells #[x1, x2] e)) B t o.type e i0 z 2 bytes hu hi hz0 hz1 hz2 hz (by decide) v n xs (World.ownsRow.alloc h _) ⟨w.heap.size, 0, none⟩ 1 1 [x1, x2] rfl
    (by
      intro j u hj
      rw [Go.WideShapes.add_plain, Nat.zero_add, cell_of_row _ w.heap.size j _ e (0, 0) hnew, ← hj]
      simp)
    (by
      intro u hu
      rcases List.mem_cons.1 hu with rfl | hu
      · exact h1
      · rcases List.mem_cons.1 hu with rfl | hu
        · exact h2
        · cases hu)
    (by unfold maxLen; omega) (by have := Nat.mul_le_mul (show n + 1 ≤ 1000000000001 by omega) hby; omega) (by simp; omega)
  have hg2 : w.grownBy w' v.ownBlock := grown_then (World.grownBy_alloc w _ none) hg
  refine wpList_plain hgd fun _ hk => ?_
  unfold Oper.wp execOp
  simp only [ho, resolve, invoke, builtin, Sem.run_bind, Sem.run_pure, Result.andThen_ok, List.map_toArray, List.map_cons, List.map_nil, hs, hx, hr]
  exact hk _ _ (hK v' w' hown hg2)
end Go.Proofs.YtmbdimonfdncpaaGreatDoor
namespace Go.Proofs.YtmbdimonfdncpaaGreatDoor
set_option maxHeartbeats 400000
/-- the lists up to n, one behind the other -/
def catP (f : Nat → List Pr) : Nat → List Pr
  | 0 => []
  | n + 1 => catP f n ++ f n
/-- all pairs, child by child -/
def Nd.flat : Nd → List Pr
  | .none => []
  | .leaf _ p => [p]
  | .buck _ L => L
  | .bran _ k kid => catP (fun i => (kid i).flat) k
/-- what comes of the first so many children -/
def putTo (f : Nat → List Pr) : Nat → List Pr
  | 0 => []
  | n + 1 => (f n).foldl put (putTo f n)
/-- all pairs, by the document -/
def Nd.all : Nd → List Pr
  | .none => []
  | .leaf _ p => [p]
  | .buck _ L => L.foldl put []
  | .bran _ k kid => putTo (fun i => (kid i).all) k
theorem all_eq (x : Nd) (h : x.ok) : x.all = putTo (fun i => (x.kid i).all) x.num ∨ x.num = 0 := by
  cases x with
  | bran m k kid => exact .inl rfl
  | _ => exact .inr rfl
theorem all_bran (x : Nd) (h : x.num ≠ 0) : x.all = putTo (fun i => (x.kid i).all) x.num ∧ x.prs = [] := by
  cases x with
  | bran m k kid => exact ⟨rfl, rfl⟩
  | _ => exact absurd rfl h
theorem all_own (x : Nd) (h : x.num = 0) (ho : x.ok) : x.all = x.prs.foldl put [] := by
  cases x with
  | bran m k kid => have := ho.2.1; simp only [Nd.num] at h; omega
  | none => rfl
  | leaf h' p => rfl
  | buck h' L => rfl
theorem flat_cnt : ∀ x : Nd, x.flat.length = x.cnt
  | .none => rfl
  | .leaf _ _ => rfl
  | .buck _ _ => rfl
  | .bran _ k kid => by
    have key : ∀ n, (catP (fun i => (kid i).flat) n).length = sumTo (fun i => (kid i).cnt) n := by
      intro n
      induction n with
      | zero => rfl
      | succ n ih => rw [catP, List.length_append, ih, flat_cnt (kid n), sumTo]
    exact key k
theorem put_perm (p : Pr) : ∀ m : List Pr, (putGo p false m).Perm (p :: m.filter fun q => decide (q.1 ≠ p.1))
  | [] => List.Perm.refl _
  | q :: m => by
    rw [putGo_step]
    by_cases h : cmp q.1 p.1 < 0
    · have hne : q.1 ≠ p.1 := cmp_ne h
      have ih := put_perm p m
      simp only [h, decide_true, Bool.not_true, Bool.and_false, Bool.or_self, if_neg hne, Bool.false_eq_true, if_false, List.nil_append, List.cons_append, List.filter_cons, decide_not, decide_eq_false hne, Bool.not_false, if_true]
      simp only [decide_not] at ih
      exact (ih.cons q).trans (List.Perm.swap p q _)
    · have h2 : putGo p true m = m.filter fun q => decide (q.1 ≠ p.1) := putGo_true p m
      simp only [h, decide_false, Bool.not_false, Bool.and_self, Bool.or_true, if_true, h2, List.cons_append, List.nil_append, List.filter_cons]
      refine List.Perm.cons p ?_
      by_cases e : q.1 = p.1
      · simp [e]
      · simp [e]
theorem put_cases (m : List Pr) (p : Pr) (_h : srt m) : (put m p).length ≤ m.length + 1 ∧ ((put m p).length = m.length + 1 → (put m p).Perm (p :: m)) := by
  refine ⟨put_length m p, fun e => ?_⟩
  have hp := put_perm p m
  have hl := hp.length_eq
  rw [List.length_cons] at hl
  have hf : (m.filter fun q => decide (q.1 ≠ p.1)) = m := List.filter_eq_self.2 (List.length_filter_eq_length_iff.1 (by have : (put m p).length = (putGo p false m).length := rfl; omega))
  rw [hf] at hp
  exact hp
theorem fold_cases : ∀ (l m : List Pr), srt m → srt (l.foldl put m) ∧ (l.foldl put m).length ≤ m.length + l.length ∧ ((l.foldl put m).length = m.length + l.length → (l.foldl put m).Perm (m ++ l))
  | [], m, h => ⟨h, Nat.le_refl _, fun _ => by rw [List.append_nil]; exact List.Perm.refl _⟩
  | p :: l, m, h => by
    obtain ⟨h1, h2⟩ := put_cases m p h
    obtain ⟨h3, h4, h5⟩ := fold_cases l (put m p) (srt_put p m h)
    refine ⟨h3, ?_, fun e => ?_⟩
    · rw [List.foldl_cons, List.length_cons]; omega
    · rw [List.foldl_cons, List.length_cons] at e
      rw [List.foldl_cons]
      refine (h5 (by omega)).trans ?_
      refine ((h2 (by omega)).append_right l).trans ?_
      exact (List.perm_middle (a := p) (l₁ := m) (l₂ := l)).symm
theorem putTo_cases (f : Nat → List Pr) (g : Nat → List Pr) (k : Nat) (hf : ∀ i, i < k → (f i).length ≤ (g i).length ∧ ((f i).length = (g i).length → (f i).Perm (g i))) :
    ∀ n, n ≤ k → srt (putTo f n) ∧ (putTo f n).length ≤ (catP g n).length ∧ ((putTo f n).length = (catP g n).length → (putTo f n).Perm (catP g n))
  | 0, _ => ⟨List.Pairwise.nil, Nat.le_refl _, fun _ => List.Perm.refl _⟩
  | n + 1, hn => by
    obtain ⟨h1, h2, h3⟩ := putTo_cases f g k hf n (by omega)
    obtain ⟨h4, h5, h6⟩ := fold_cases (f n) (putTo f n) h1
    obtain ⟨h7, h8⟩ := hf n (by omega)
    refine ⟨h4, ?_, fun e => ?_⟩
    · rw [putTo, catP, List.length_append]; omega
    · rw [putTo, catP, List.length_append] at e
      rw [putTo, catP]
      refine (h6 (by omega)).trans ((h3 (by omega)).append (h8 (by omega)))
theorem all_cases : ∀ x : Nd, x.ok → srt x.all ∧ x.all.length ≤ x.flat.length ∧ (x.all.length = x.flat.length → x.all.Perm x.flat)
  | .none, _ => ⟨List.Pairwise.nil, Nat.le_refl _, fun _ => List.Perm.refl _⟩
  | .leaf _ p, _ => ⟨List.pairwise_singleton _ _, Nat.le_refl _, fun _ => List.Perm.refl _⟩
  | .buck _ L, ho => by
    have h := fold_cases L [] List.Pairwise.nil
    rw [List.nil_append, List.length_nil, Nat.zero_add] at h
    exact h
  | .bran m k kid, ho => putTo_cases (fun i => (kid i).all) (fun i => (kid i).flat) k (fun i hi => (all_cases (kid i) (ho.2.2.2 i hi).2).2) k (Nat.le_refl _)
/-- keys and values of all pairs are short -/
theorem flat_fits : ∀ x : Nd, x.ok → Fits x.flat
  | .none, _ => fits_nil
  | .leaf _ p, ho => fun q hq => by
    obtain rfl : q = p := by simpa [Nd.flat] using hq
    exact ho.2
  | .buck _ L, ho => ho.2.2.2.2
  | .bran m k kid, ho => by
    have key : ∀ n, n ≤ k → Fits (catP (fun i => (kid i).flat) n) := by
      intro n
      induction n with
      | zero => intro _; exact fits_nil
      | succ n ih =>
        intro hn q hq
        rw [catP, List.mem_append] at hq
        rcases hq with hq | hq
        · exact ih (by omega) q hq
        · exact flat_fits (kid n) (ho.2.2.2 n (by omega)).2 q hq
    exact key k (Nat.le_refl _)
theorem fold_fits : ∀ (l m : List Pr), Fits l → Fits m → Fits (l.foldl put m)
  | [], _, _, h => h
  | p :: l, m, h1, h2 => fold_fits l (put m p) (fun q hq => h1 q (List.mem_cons_of_mem _ hq)) fun q hq => by
    rcases (mem_put p q m).1 hq with rfl | ⟨h3, _⟩
    · exact h1 q List.mem_cons_self
    · exact h2 q h3
theorem putTo_fits (f : Nat → List Pr) (k : Nat) (hf : ∀ i, i < k → Fits (f i)) : ∀ n, n ≤ k → Fits (putTo f n)
  | 0, _ => fits_nil
  | n + 1, hn => fold_fits _ _ (hf n (by omega)) (putTo_fits f k hf n (by omega))
theorem all_fits : ∀ x : Nd, x.ok → Fits x.all
  | .none, _ => fits_nil
  | .leaf _ p, ho => fun q hq => by
    obtain rfl : q = p := by simpa [Nd.all] using hq
    exact ho.2
  | .buck _ L, ho => fold_fits L [] ho.2.2.2.2 fits_nil
  | .bran m k kid, ho => putTo_fits _ k (fun i hi => all_fits (kid i) (ho.2.2.2 i hi).2) k (Nat.le_refl _)
/-- what is sorted by keys, and has just the pairs of a list of unlike keys, is that list -/
theorem sorted_is {a b : List Pr} (hb : srt b) (hp : a.Perm b) (ha : a.Pairwise fun p q => ¬ cmp q.1 p.1 < 0) : a = b := by
  refine srt_ext a b ?_ hb fun q => hp.mem_iff
  have hn : b.Pairwise fun p q => p.1 ≠ q.1 := hb.imp fun h => cmp_ne h
  have hn2 : a.Pairwise fun p q => p.1 ≠ q.1 := (hp.pairwise_iff fun h e => h e.symm).2 hn
  exact (ha.and hn2).imp fun ⟨h1, h2⟩ => by
    rcases Int.lt_or_le (cmp _ _) 0 with h | h
    · exact h
    · exfalso
      exact h1 (cmp_or (by omega) h2)
end Go.Proofs.YtmbdimonfdncpaaGreatDoor
/-
  Contract of the reference's All; contract of gathered: all pairs of a node behind a list, in a row of the call's own.
-/
namespace Go.Proofs.YtmbdimonfdncpaaGreatDoor
open Go.RowKit
set_option maxHeartbeats 4000000
set_option maxRecDepth 100000
theorem fold_step {l m : List Pr} {q : Nat} (h : q < l.length) : (l.take (q + 1)).foldl put m = put ((l.take q).foldl put m) l[q] := by
  rw [List.take_succ_eq_append_getElem h, List.foldl_append]; rfl
theorem kid_cnt_le (x : Nd) {j : Nat} (h : j < x.num) : x.num ≠ 0 ∧ ((x.ok) → (putTo (fun i => (x.kid i).all) j).length + (x.kid j).all.length ≤ x.cnt) := by
  cases x with
  | bran m k kid =>
    refine ⟨by simp only [Nd.num] at h ⊢; omega, fun ho => ?_⟩
    have h1 := (putTo_cases (fun i => (kid i).all) (fun i => (kid i).flat) k (fun i hi => (all_cases (kid i) (ho.2.2.2 i hi).2).2) j (by simp only [Nd.num] at h; omega)).2.1
    have h2 := (all_cases (kid j) (ho.2.2.2 j h).2).2.1
    have h3 : (catP (fun i => (kid i).flat) j).length = sumTo (fun i => (kid i).cnt) j := by
      clear h h1 h2
      induction j with
      | zero => rfl
      | succ n ih => rw [catP, List.length_append, ih, flat_cnt (kid n), sumTo]
    have h4 := sumTo_le (fun i => (kid i).cnt) (show j + 1 ≤ k from h)
    have h5 : sumTo (fun i => (kid i).cnt) (j + 1) = sumTo (fun i => (kid i).cnt) j + (kid j).cnt := rfl
    rw [flat_cnt (kid j)] at h2
    simp only [Nd.kid, Nd.cnt]
    omega
  | _ => exact absurd h (Nat.not_lt_zero _)
theorem putTo_fits' (x : Nd) (ho : x.ok) {j : Nat} (h : j ≤ x.num) : Fits (putTo (fun i => (x.kid i).all) j) ∧ srt (putTo (fun i => (x.kid i).all) j) := by
  cases x with
  | bran m k kid =>
    exact ⟨putTo_fits _ k (fun i hi => all_fits (kid i) (ho.2.2.2 i hi).2) j h, (putTo_cases (fun i => (kid i).all) (fun i => (kid i).flat) k (fun i hi => (all_cases (kid i) (ho.2.2.2 i hi).2).2) j h).1⟩
  | _ =>
    obtain rfl : j = 0 := Nat.le_zero.1 h
    exact ⟨fits_nil, List.Pairwise.nil⟩
end Go.Proofs.YtmbdimonfdncpaaGreatDoor
namespace Go.Proofs.YtmbdimonfdncpaaGreatDoor
open Go.RowKit
set_option maxHeartbeats 4000000
set_option maxRecDepth 100000
/-- append of some elements that lie in memory, up to many -/
theorem list_appB {B : Nat} {w : World} {ops : Array Oper} {rest : List Oper} {o : Oper} {a : Act} {Q : Exit → Act → World → Prop} (t e : TypeId) (z : Value) (size bytes : Nat) (hu : Tryz.prog.underlying t = some (.slice e)) (hinf : (Tryz.prog.info? e).map (fun i => (i.zero, i.size, i.bytes)) = some (some z, size, bytes)) (hz : z.cells.size = size) (hs0 : 0 < size) (hby : bytes ≤ 100)
    (hgd : o.guard = none) (s x : Operand) (ho : o.op = .call { callee := .builtin .append, args := #[s, x], argTypes := #[t, t] }) (v : Value) (n : Nat) (xs : List Value) (h : w.ownsRow B e size v n xs) (p : Addr) (m c : Nat) (news : List Value) (hl : news.length = m * size) (hnews : ∀ j u, news[j]? = some u → w.cell? (p.add j) = some u) (h1 : ∀ u ∈ news, u.oneCell' = true)
    (hs : a.eval s = v) (hx : a.eval x = .slice (some p) m c) (hn : n + m ≤ 1000000000000) (hB : B ≤ w.heap.size)
    (hK : ∀ v' w', w'.ownsRow B e size v' (n + m) (xs ++ news) → w.grownBy w' v.ownBlock → wpList Tryz.prog ops Q rest (a.put o.dst v') w') : wpList Tryz.prog ops Q (o :: rest) a w := by
  obtain ⟨i0, hi, hz0, hz1, hz2⟩ := info_parts hinf
  obtain ⟨v', w', hr, hown, hg, _⟩ := run_append_own (P := Tryz.prog) w B t o.type e i0 z size bytes hu hi hz0 hz1 hz2 hz hs0 v n xs h p m c news hl hnews h1
    (by unfold maxLen; omega) (by have := Nat.mul_le_mul hn hby; omega) hB
  refine wpList_plain hgd fun _ hk => ?_
  unfold Oper.wp execOp
  simp only [ho, resolve, invoke, builtin, Sem.run_bind, Sem.run_pure, Result.andThen_ok, List.map_toArray, List.map_cons, List.map_nil, hs, hx, hr]
  exact hk _ _ (hK v' w' hown hg)
theorem NewRow.less {B C b : Nat} {w : World} {l : List UInt8} (h : NewRow B w b l) (k : C ≤ B) : NewRow C w b l := ⟨Nat.le_trans k h.1, h.2⟩
theorem Mrow.less {B C : Nat} {w : World} {xs : List Value} {L : List Pr} (h : Mrow B w xs L) (k : C ≤ B) : Mrow C w xs L := by
  refine ⟨h.1, fun i hi => ?_⟩
  obtain ⟨kb, vb, h1, h2, h3, h4⟩ := h.2 i hi
  exact ⟨kb, vb, h1, h2, h3.less k, h4.less k⟩
theorem Mrow.append {B : Nat} {w : World} {xs ys : List Value} {L M : List Pr} (h : Mrow B w xs L) (k : Mrow B w ys M) : Mrow B w (xs ++ ys) (L ++ M) := by
  have hl := h.1
  have hk := k.1
  refine ⟨by rw [List.length_append, List.length_append]; omega, fun i hi => ?_⟩
  rcases Nat.lt_or_ge i L.length with g | g
  · obtain ⟨kb, vb, e1, e2, e3, e4⟩ := h.2 i g
    have e : (L ++ M)[i] = L[i] := List.getElem_append_left g
    rw [e, List.getElem?_append_left (by omega), List.getElem?_append_left (by omega)]
    exact ⟨kb, vb, e1, e2, e3, e4⟩
  · have hj : i - L.length < M.length := by rw [List.length_append] at hi; omega
    obtain ⟨kb, vb, e1, e2, e3, e4⟩ := k.2 (i - L.length) hj
    have e : (L ++ M)[i] = M[i - L.length] := List.getElem_append_right g
    rw [e, List.getElem?_append_right (by omega), List.getElem?_append_right (by omega), hl, show i * 2 - L.length * 2 = (i - L.length) * 2 by omega, show i * 2 + 1 - L.length * 2 = (i - L.length) * 2 + 1 by omega]
    exact ⟨kb, vb, e1, e2, e3, e4⟩
theorem Mrow.one {B : Nat} {w : World} {xs : List Value} {L : List Pr} (h : Mrow B w xs L) : ∀ u ∈ xs, u.oneCell' = true := fun u hu => by
  obtain ⟨j, hj, rfl⟩ := List.getElem_of_mem hu
  have hl := h.1
  obtain ⟨kb, vb, e1, e2, _⟩ := h.2 (j / 2) (by omega)
  rcases Nat.mod_two_eq_zero_or_one j with hm | hm
  · rw [show j / 2 * 2 = j by omega, List.getElem?_eq_getElem hj] at e1
    rw [Option.some.inj e1]; rfl
  · rw [show j / 2 * 2 + 1 = j by omega, List.getElem?_eq_getElem hj] at e2
    rw [Option.some.inj e2]; rfl
theorem Mrow.grown {B n : Nat} {w w' : World} {v : Value} {xs ys : List Value} {L : List Pr} (h : Mrow B w ys L) (ho : w.ownsRow B 29 2 v n xs) (hg : w.grownBy w' v.ownBlock) : Mrow B w' ys L := h.keep fun _ _ k => k.grown ho hg
theorem below_grown {B n : Nat} {w a b : World} {v : Value} {xs : List Value} (h : Below B w a) (hB : B ≤ w.heap.size) (ho : a.ownsRow B 29 2 v n xs) (hg : a.grownBy b v.ownBlock) : Below B w b :=
  ⟨hg.os.trans h.os, hg.tape.trans h.tape, hg.output.trans h.output, Nat.le_trans h.size hg.size, fun k hk => (hg.block k (by have := h.size; omega) (fun e => by
    have := (own_lt ho e.symm).1
    omega)).trans (h.block k hk)⟩
def Got (B n : Nat) (L : List Pr) (x : Nd) (w : World) (e : Ending) (w' : World) : Prop := ∃ v' ys, e = .returned v' ∧ w'.ownsRow B 29 2 v' (n + x.cnt) ys ∧ Mrow B w' ys (L ++ x.flat) ∧ Below B w w'
theorem gathered_any (x : Nd) : ∀ (F : Nat → Prop) (B : Nat) (w : World) (v vl : Value) (n : Nat) (xs : List Value) (L : List Pr), Nde F w x v → x.ok → (∀ q, F q → q < B) → B ≤ w.heap.size → w.ownsRow B 29 2 vl n xs → Mrow B w xs L → n = L.length → n + x.cnt ≤ 1000000000000 →
    Calls Tryz.prog 35 #[vl, v] w (Got B n L x w) := by
  induction x using Nd.by_kids with
  | h x ih =>
    intro F B w v vl n xs L hN ho hF hB hown hm hn hc
    cases x with
    | none =>
      obtain rfl : v = .nilIface := hN
      have h1 := ta84_nil
      have h2 := ta91_nil
      have h3 := ta100_nil
      have HX : Hid (Got B n L .none w (.returned vl) w) := ⟨vl, xs, rfl, hown, by rw [Nd.flat, List.append_nil]; exact hm, Below.refl _ _⟩
      clear ih hown hm hn hc ho hF hB
      go_enter Tryz.func35, Tryz.ntmps35
      go_wp2
      go_ret
      exact HX.out
    | leaf h p =>
      obtain ⟨b, ka, kc, va, vc, rfl, _, hr, hk, hv⟩ := hN
      have c1 := row_cell (i := 1) hr rfl
      have c2 := row_cell (i := 2) hr rfl
      have h1 := ta84_84 (.pointer (some ⟨b, 0, none⟩))
      have own := owned_any kc vc hk.bts hv.bts (by have := ho.2; omega)
      obtain ⟨n1, hn1⟩ : ∃ k, k = p.1.length := ⟨_, rfl⟩
      obtain ⟨n2, hn2⟩ : ∃ k, k = p.2.length := ⟨_, rfl⟩
      rw [← hn1] at c1
      rw [← hn2] at c2
      simp only [← hn1, ← hn2] at own
      have OWN := Lib.hid own; clear own
      have HO := Lib.hid (And.intro hown (And.intro hm (And.intro hn hB)))
      have HL := Lib.hid (And.intro hn1 hn2)
      have HC := Lib.hid (show n ≤ 1000000000000 by omega)
      clear ih hown hm hn hc ho hF hB hr hk hv hn1 hn2
      go_enter Tryz.func35, Tryz.ntmps35
      go_wp2_with fail
      refine OWN.out.mono ?_
      rintro e w2 ⟨g1, g2, rfl, k1, k2, hb⟩
      have HOW := Lib.hid (own_keep HO.out.1 hb)
      have HB2 : Hid (B ≤ w2.heap.size) := Nat.le_trans HO.out.2.2.2 hb.size
      have HK := Lib.hid (And.intro k1 (And.intro k2 hb)); clear k1 k2 hb
      clear c1 c2
      go_wp2_with (at_builtin; refine list_app2B (B := B) (w := w2) 23 29 _ 48 Tryz.underlying23 Tryz.info48 rfl (by decide) rfl (.tmp 14) (.tmp 20) rfl _ n xs HOW.out _ _ rfl rfl rfl rfl HC.out HB2.out ?_; intro v1 w3 ho3 hg3)
      go_ret
      obtain ⟨k1, k2, hb⟩ := HK.out
      have hBw := HO.out.2.2.2
      have m2 : Mrow B w2 xs L := HO.out.2.1.keep fun _ _ h => h.below hb
      have m3 := m2.snoc (p := p) (k1.less hBw) (k2.less hBw)
      rw [← HL.out.1, ← HL.out.2] at m3
      exact ⟨v1, _, rfl, ho3, m3.grown HOW.out hg3, below_grown (hb.mono hBw) hBw HOW.out hg3⟩
    | buck h M =>
      obtain ⟨b, p, t, rfl, _, hr, ht, he, hl⟩ := hN
      have c1 := row_cell (i := 1) hr rfl
      have h1 := ta84_91 (.pointer (some ⟨b, 0, none⟩))
      have h2 := ta91_91 (.pointer (some ⟨b, 0, none⟩))
      have hts : t.size = M.length := by rw [← hl, Tr.length]
      have hli := list_any ht (by have := ho.2.2.1; omega) (by rw [hl]; exact ho.2.2.2.2)
      rw [hl] at hli
      obtain ⟨ml, hml⟩ : ∃ k, k = M.length := ⟨_, rfl⟩
      rw [← hml] at hli
      have HLI := Lib.hid hli; clear hli
      have HO := Lib.hid (And.intro hown (And.intro hm (And.intro hn hB)))
      have hcm : (Nd.buck h M).cnt = M.length := rfl
      have HC : Hid (n + ml ≤ 1000000000000) := by show _ ≤ _; omega
      have HM := Lib.hid (And.intro hml (show 0 < ml by have := ho.2.1; omega))
      clear ih hown hm hn hc ho hF hB hr ht he hl hts hml hcm
      go_enter Tryz.func35, Tryz.ntmps35
      go_wp2_with fail
      refine HLI.out.mono ?_
      rintro e w2 ⟨A, c, rfl, ⟨ys, oy, my⟩, hb⟩
      have hml := HM.out.1
      rw [← hml] at oy
      obtain ⟨A', c', e, hrd⟩ := row_reads oy
      injection e with e1 _ e3
      subst e1
      subst e3
      obtain ⟨q, rfl, _, _, _⟩ := hrd HM.out.2
      have HOW := Lib.hid (own_keep HO.out.1 hb)
      have HB2 : Hid (B ≤ w2.heap.size) := Nat.le_trans HO.out.2.2.2 hb.size
      have HYL : Hid (ys.length = ml * 2) := oy.1
      have HYC : Hid (∀ j u, ys[j]? = some u → w2.cell? ((⟨q, 0, none⟩ : Addr).add j) = some u) := oy.cells (g := q) rfl
      have HY1 := Lib.hid my.one
      have HK := Lib.hid (And.intro my hb); clear my hb
      clear c1 oy hrd hml
      go_wp2_with (at_builtin; refine list_appB (B := B) (w := w2) 23 29 _ 2 48 Tryz.underlying23 Tryz.info48 rfl (by decide) (by decide) rfl (.tmp 25) (.tmp 30) rfl _ n xs HOW.out ⟨q, 0, none⟩ ml c ys HYL.out HYC.out HY1.out rfl rfl HC.out HB2.out ?_; intro v1 w3 ho3 hg3)
      go_ret
      obtain ⟨my, hb⟩ := HK.out
      have hBw := HO.out.2.2.2
      have m2 : Mrow B w2 xs L := HO.out.2.1.keep fun _ _ h => h.below hb
      have m3 := m2.append (my.less hBw)
      refine ⟨v1, _, rfl, ?_, m3.grown HOW.out hg3, below_grown (hb.mono hBw) hBw HOW.out hg3⟩
      rw [show n + (Nd.buck h M).cnt = n + ml by rw [HM.out.1]; rfl]
      exact ho3
    | bran m k kid =>
      obtain ⟨b, g, c, rfl, hFb, hr, hFg, hg, hkid⟩ := hN
      have c1 := row_cell (i := 1) hr rfl
      have h1 := ta84_100 (.pointer (some ⟨b, 0, none⟩))
      have h2 := ta91_100 (.pointer (some ⟨b, 0, none⟩))
      have h3 := ta100_100 (.pointer (some ⟨b, 0, none⟩))
      have hgB := hF g hFg
      have hk32 : k ≤ 32 := by have := Bt.list_le m 32; have := ho.2.2.1; omega
      have HKID := Lib.hid hkid; clear hkid
      have HO := Lib.hid (And.intro hown (And.intro hm (And.intro hn hB)))
      have HOK := Lib.hid ho
      have HF := Lib.hid hF
      have HIH := Lib.hid ih
      have HC : Hid (n + sumTo (fun i => (kid i).cnt) k ≤ 1000000000000) := hc
      clear ih hown hm hn hc ho hF hB hr hFb hFg
      go_enter Tryz.func35, Tryz.ntmps35
      go_wp2_with fail
      go_loopw [0, 9, 40] (fun s0 _ i wr => ∃ (j : Nat), i = .int .i64 (j : Int) ∧ j ≤ k ∧ Hid (∃ ys, wr.ownsRow B 29 2 s0 (n + sumTo (fun i => (kid i).cnt) j) ys ∧ Mrow B wr ys (L ++ catP (fun i => (kid i).flat) j)) ∧ Hid (Below B w wr)) (fun _ _ i _ => k - (intOf i).toNat)
      case atStart => exact ⟨0, rfl, by omega, ⟨xs, HO.out.1, by rw [catP, List.append_nil]; exact HO.out.2.1⟩, Below.refl _ _⟩
      case round =>
        obtain ⟨j, rfl, hj, hrow, hbel⟩ := hrel
        by_cases hlt : j < k
        · obtain ⟨vi, hci, hNi⟩ := HKID.out j hlt
          have hcw := (hbel.out.cell (p := ⟨g, j, none⟩) hgB).trans hci
          have hNw : Nde F wr (kid j) vi := hNi.kept fun q hq _ => hbel.out.block q (HF.out q hq)
          obtain ⟨ys, oy, my⟩ := hrow.out
          have hst : sumTo (fun i => (kid i).cnt) (j + 1) = sumTo (fun i => (kid i).cnt) j + (kid j).cnt := rfl
          have hle := sumTo_le (fun i => (kid i).cnt) (show j + 1 ≤ k by omega)
          have hln : n + sumTo (fun i => (kid i).cnt) j = (L ++ catP (fun i => (kid i).flat) j).length := by
            have h1 := my.1
            have h2 := oy.1
            omega
          have hcb : n + sumTo (fun i => (kid i).cnt) j + (kid j).cnt ≤ 1000000000000 := by
            have h1 := HC.out
            rw [hst] at hle
            have h2 : n + sumTo (fun i => (kid i).cnt) k ≤ 1000000000000 := h1
            omega
          have J := HIH.out j hlt F B wr vi _ _ ys (L ++ catP (fun i => (kid i).flat) j) hNw (HOK.out.2.2.2 j hlt).2 HF.out (by have := hbel.out.size; have := HO.out.2.2.2; omega) oy my hln hcb
          have HJ := Lib.hid J; clear J
          have HST := Lib.hid hst
          clear hci hNi hNw oy my hst hle hln hrow hcb
          go_wp2_with fail
          refine HJ.out.mono ?_
          rintro e w2 ⟨v', ys', rfl, o2, m2, b2⟩
          have HR2 : Hid (∃ ys, w2.ownsRow B 29 2 v' (n + sumTo (fun i => (kid i).cnt) (j + 1)) ys ∧ Mrow B w2 ys (L ++ catP (fun i => (kid i).flat) (j + 1))) := by
            refine ⟨ys', ?_, ?_⟩
            · rw [HST.out, ← Nat.add_assoc]; exact o2
            · rw [catP, ← List.append_assoc]; exact m2
          have HB2 := Lib.hid (hbel.out.trans b2)
          clear o2 m2 b2 hcw HJ
          go_wp2_with fail
          go_roundw
          case rel => exact ⟨j + 1, by go_num, by omega, HR2.out, HB2.out⟩
          case measure => simp [intOf]; omega
        · obtain rfl : j = k := by omega
          obtain ⟨ys, oy, my⟩ := hrow.out
          have HX := Lib.hid (And.intro oy my)
          clear hrow oy my
          go_wp2_with fail
          go_ret
          exact ⟨_, ys, rfl, HX.out.1, HX.out.2, hbel.out⟩
end Go.Proofs.YtmbdimonfdncpaaGreatDoor
/-
  slices.SortStableFunc at pairs by keys, on a row of the call's own; contract of Pairs.
-/
namespace Go.Proofs.YtmbdimonfdncpaaGreatDoor
open Go.Shelf Go.RowKit Go.Lib Go.Sort Go.Proofs
set_option maxHeartbeats 4000000
set_option maxRecDepth 1000000
theorem below_sortK {g : Nat → PV} {B blk m : Nat} (w : World) (d : Array Nat) (os : Array Obj) (hB : B ≤ blk) (hg : blk < w.heap.size) : Go.RowKit.Below B w (sortWorldK (enc2 g) 2 w blk 0 m d os) := by
  refine ⟨rfl, rfl, rfl, size_sortWorldK_c (enc2 g) 2 w blk 0 m d os, fun k hk => ?_⟩
  unfold sortWorldK putRowK
  rw [heap_grow_old _ _ (by simp; omega)]
  unfold putRow mapBlock
  show (w.heap.modify blk _)[k]? = _
  rw [Array.getElem?_modify, if_neg (by omega)]
theorem sl_map {α β : Type} (f : Nat → α) (h : α → β) (a n : Nat) : sl (fun x => h (f x)) a n = (sl f a n).map h := by
  unfold sl
  rw [List.map_map]; rfl
theorem range_sl (n : Nat) : sl (pl (Array.range n)) 0 n = List.range n := by
  unfold sl
  refine List.ext_getElem (by simp) fun i h1 h2 => ?_
  simp only [List.length_map, List.length_range'] at h1
  simp [pl, h1]
theorem range_pat (L : List Pr) : (List.range L.length).map (pat L) = L := by
  refine List.ext_getElem (by simp) fun i h1 h2 => ?_
  simp only [List.getElem_map, List.getElem_range]
  exact pat_at h2
theorem sort_pairs {B n : Nat} {w : World} {v : Value} {ys : List Value} {L M : List Pr} (ho : w.ownsRow B 29 2 v n ys) (hm : Mrow B w ys L) (hn : n = L.length) (h0 : 0 < n) (hc : n < 1000000000000) (hM : srt M) (hp : M.Perm L) :
    ∃ A c, v = .slice A n c ∧ Calls Tryz.prog 36 #[.slice A n c, .func (.func 37) #[] #[]] w fun e w' => e = .returned (.tuple #[]) ∧ Pcs w' A M ∧ Go.RowKit.Below B w w' := by
  rcases ho.2 with ⟨_, e⟩ | ⟨blk, cap, cur, rfl, hb, hg, hnc, _, hsz, htk⟩
  · omega
  refine ⟨_, _, rfl, ?_⟩
  have hH : ∀ i, ∃ kv : Nat × Nat, i < L.length → (ys[i * 2]? = some (.slice (some ⟨kv.1, 0, none⟩) (pat L i).1.length (pat L i).1.length) ∧ ys[i * 2 + 1]? = some (.slice (some ⟨kv.2, 0, none⟩) (pat L i).2.length (pat L i).2.length) ∧ NewRow B w kv.1 (pat L i).1 ∧ NewRow B w kv.2 (pat L i).2) := fun i => by
    by_cases hi : i < L.length
    · obtain ⟨kb, vb, h1, h2, h3, h4⟩ := hm.2 i hi
      rw [← pat_at hi] at h1 h2 h3 h4
      exact ⟨(kb, vb), fun _ => ⟨h1, h2, h3, h4⟩⟩
    · exact ⟨(0, 0), fun h => absurd h hi⟩
  obtain ⟨f, hf⟩ := Classical.axiomOfChoice hH
  obtain ⟨g, hgg⟩ : ∃ g : Nat → PV, g = fun i => if i < n then ⟨some ⟨(f i).1, 0, none⟩, (pat L i).1.length, (pat L i).1.length, some ⟨(f i).2, 0, none⟩, (pat L i).2.length, (pat L i).2.length⟩ else ⟨none, 0, 0, none, 0, 0⟩ := ⟨_, rfl⟩
  have gin : ∀ i, i < n → g i = ⟨some ⟨(f i).1, 0, none⟩, (pat L i).1.length, (pat L i).1.length, some ⟨(f i).2, 0, none⟩, (pat L i).2.length, (pat L i).2.length⟩ := fun i hi => by rw [hgg]; exact if_pos hi
  have gout : ∀ i, ¬ i < n → g i = ⟨none, 0, 0, none, 0, 0⟩ := fun i hi => by rw [hgg]; exact if_neg hi
  have hne : ∀ q l, NewRow B w q l → q ≠ blk := fun q l h e => by
    have := h.2
    rw [e, hg] at this
    injection this with this
    injection this with _ this
    cases this
  have rowb : ∀ q l, NewRow B w q l → l = [] ∨ ∃ b o, (some ⟨q, 0, none⟩ : Option Addr) = some ⟨b, o, none⟩ ∧ b < w.heap.size ∧ b ≠ blk ∧ ∀ i (h : i < l.length), w.cell? ⟨b, o + i, none⟩ = some (.int .u8 ((l[i].toNat : Nat) : Int)) := fun q l h => by
    rcases bts_row h.2 with e | ⟨b, o, e, h1, h2⟩
    · exact .inl e
    · refine .inr ⟨b, o, e, h1, ?_, h2⟩
      injection e with e
      injection e with e
      rw [← e]
      exact hne q l h
  have hK : Keyed g (fun i => (pat L i).1) w blk := fun x => by
    by_cases hx : x < n
    · rw [gin x hx]
      exact ⟨rfl, rowb _ _ (hf x (by omega)).2.2.1⟩
    · rw [gout x hx]
      have : pat L x = ([], []) := by
        unfold pat
        rw [List.getD_eq_getElem?_getD, List.getElem?_eq_none (by omega)]; rfl
      have e : (pat L x).1 = [] := by rw [this]
      exact ⟨by show 0 = (pat L x).1.length; rw [e]; rfl, .inl e⟩
  have hsize : (Array.range n).size = n := Array.size_range
  have hcell : ∀ j u, ys[j]? = some u → w.cell? ⟨blk, j, none⟩ = some u ∧ w.frozen? ⟨blk, j, none⟩ = false := fun j u hj => by
    have := ho.cells (g := blk) rfl j u hj
    rw [Go.WideShapes.add_plain, Nat.zero_add] at this
    refine ⟨this, ?_⟩
    simp [World.frozen?, hg]
  have hHK : HoldsK (enc2 g) 2 w blk 0 (Array.range n) := by
    intro t ht
    rw [size_flatK, hsize] at ht
    have ht2 : t < (Array.range n).size * 2 := by rw [hsize]; exact ht
    rw [get_flatK _ _ _ _ ht2, Nat.zero_add]
    have hi : t / 2 < n := by omega
    have hr : (Array.range n)[t / 2]! = t / 2 := by simp [hi]
    obtain ⟨k1, k2, _⟩ := hf (t / 2) (by omega)
    rw [hr]
    unfold enc2
    rw [gin _ hi]
    rcases Nat.mod_two_eq_zero_or_one t with hmod | hmod
    · rw [hmod, show t = t / 2 * 2 by omega, show t / 2 * 2 / 2 = t / 2 by omega]
      exact hcell _ _ k1
    · rw [hmod, show t = t / 2 * 2 + 1 by omega, show (t / 2 * 2 + 1) / 2 = t / 2 by omega]
      exact hcell _ _ k2
  have hlt : blk < w.heap.size := (Array.getElem?_eq_some_iff.1 hg).1
  have R : RowK (enc2 g) 2 w blk 0 (Array.range n) := ⟨fun _ => rfl, fun x u hu => by
    simp only [enc2, List.mem_cons, List.not_mem_nil, or_false] at hu
    rcases hu with rfl | rfl <;> rfl, hHK, hlt⟩
  have st := stable_any R (cmp_lays (off := 0) hK _) (kcf_swo _) cap (SWK.start hHK) (by rw [hsize]; exact hc)
  rw [hsize] at st
  have fin : ∀ (d' : Array Nat) (w' : World), SWK (enc2 g) 2 w blk 0 d' w' → d'.size = n → (sl (pl d') 0 n).Perm (sl (pl (Array.range n)) 0 n) → Asc (ltOf (kcf fun i => (pat L i).1)) (pl d') 0 n → Pcs w' (some ⟨blk, 0, none⟩) M ∧ Go.RowKit.Below B w w' := by
    intro d' w' hS hd hpm has
    rw [range_sl] at hpm
    have hS2 := hS
    obtain ⟨m, os, rfl⟩ := hS
    refine ⟨?_, below_sortK w d' os hb hlt⟩
    have hin : ∀ i, i < n → pl d' i < n := fun i hi => by
      have : pl d' i ∈ sl (pl d') 0 n := (mem_sl _ _ _ _).2 ⟨i, by omega, by omega, rfl⟩
      exact List.mem_range.1 (hpm.mem_iff.1 this)
    have hSL : sl (fun i => pat L (pl d' i)) 0 n = M := by
      refine sorted_is hM ?_ ?_
      · rw [sl_map]
        refine (hpm.map _).trans ?_
        rw [hn, range_pat]
        exact hp.symm
      · rw [List.pairwise_iff_getElem]
        intro i j hi hj hij
        rw [sl_length] at hi hj
        have := has i j (Nat.zero_le _) hij hj
        have h2 := of_decide_eq_false this
        simp only [sl, List.getElem_map, List.getElem_range', Nat.zero_add, Nat.one_mul]
        exact h2
    rw [← hSL]
    refine .inr ⟨blk, 0, rfl, Nat.lt_of_lt_of_le hlt (size_sortWorldK_c (enc2 g) 2 w blk 0 m d' os), fun i hi => ?_⟩
    rw [sl_length] at hi
    have e : (sl (fun i => pat L (pl d' i)) 0 n)[i]'(by rw [sl_length]; exact hi) = pat L (pl d' i) := by
      simp [sl]
    rw [e]
    obtain ⟨c1, c2, _, _⟩ := row_two (hS2.holds hlt hHK (by rw [hd, hsize])) (show i < d'.size by omega)
    have hpi := hin i hi
    have hpe : d'[i]! = pl d' i := rfl
    rw [hpe, gin _ hpi] at c1 c2
    obtain ⟨_, _, n1, n2⟩ := hf (pl d' i) (by omega)
    have up : ∀ q l, NewRow B w q l → Bts (sortWorldK (enc2 g) 2 w blk 0 m d' os) (some ⟨q, 0, none⟩) l := fun q l h => by
      rcases rowb q l h with e | ⟨b, o, e, hq, hb2, hc2⟩
      · exact .inl e
      · refine .inr ⟨b, o, e, Nat.lt_of_lt_of_le hq (size_sortWorldK_c (enc2 g) 2 w blk 0 m d' os), fun t ht => ?_⟩
        rw [sort_other hq hb2]
        exact hc2 t ht
    exact ⟨_, _, _, _, c1, c2, up _ _ n1, up _ _ n2⟩
  have ST := Lib.hid st
  have FIN := Lib.hid fin
  have HNN := Lib.hid hn; clear hn
  clear st fin R hHK hcell hK rowb hne gin gout hgg hf hH ho hm hg hM hp htk
  go_enter Tryz.func36, Tryz.ntmps36
  go_wp2_with fail
  refine ST.out.mono ?_
  rintro e w2 ⟨rfl, d', h5, h6, h7, h8⟩
  have HX := Lib.hid (FIN.out d' w2 h5 h6 h7 h8)
  clear h5 h6 h7 h8
  go_wp2_with fail
  go_end0
  exact ⟨rfl, HX.out.1, HX.out.2⟩
theorem cnt_pos : ∀ x : Nd, x.ok → x ≠ .none → 0 < x.cnt
  | .none, _, h => absurd rfl h
  | .leaf _ _, _, _ => Nat.one_pos
  | .buck _ L, ho, _ => by have := ho.2.1; simp only [Nd.cnt]; omega
  | .bran _ k kid, ho, _ => by
    have h1 := cnt_pos (kid 0) (ho.2.2.2 0 ho.2.1).2 (ho.2.2.2 0 ho.2.1).1
    have h2 := le_sumTo (fun i => (kid i).cnt) k 0 ho.2.1
    exact Nat.lt_of_lt_of_le h1 h2
theorem pairs_any {F : Nat → Prop} {w : World} {x : Nd} {v : Value} (hN : Nde F w x v) (ho : x.ok) (hx : x ≠ .none) (hF : ∀ q, F q → q < w.heap.size) (hc : x.cnt ≤ 500000000000) (he : x.all.length = x.cnt) :
    Calls Tryz.prog 20 #[v] w fun e w' => (∃ A c, e = .returned (.slice A x.all.length c) ∧ Pcs w' A x.all) ∧ Go.RowKit.Below w.heap.size w w' := by
  have hg := gathered_any x F w.heap.size w v (.slice none 0 0) 0 [] [] hN ho hF (Nat.le_refl _) ⟨rfl, .inl ⟨rfl, rfl⟩⟩ (Mrow.nil _ _) rfl (by omega)
  obtain ⟨a1, a2, a3⟩ := all_cases x ho
  rw [flat_cnt] at a3
  rw [he]
  obtain ⟨n, hn⟩ : ∃ n, n = x.cnt := ⟨_, rfl⟩
  rw [← hn]
  have HNN := Lib.hid hn; clear hn
  have HG := Lib.hid hg; clear hg
  have HA := Lib.hid (And.intro a1 (And.intro (a3 he) (And.intro (cnt_pos x ho hx) (And.intro hc he))))
  clear hN ho hx hF hc he a1 a2 a3
  go_enter Tryz.func20, Tryz.ntmps20
  go_wp2_with fail
  refine HG.out.mono ?_
  rintro e w1 ⟨v', ys, rfl, o1, m1, b1⟩
  obtain ⟨h1, h2, h3, h4, h5⟩ := HA.out
  rw [Nat.zero_add] at o1
  rw [List.nil_append] at m1
  obtain ⟨A, c, rfl, hs⟩ := sort_pairs o1 m1 (flat_cnt x).symm h3 (by omega) h1 h2
  rw [← HNN.out] at hs ⊢
  have HS := Lib.hid hs
  have HB := Lib.hid b1
  clear hs b1 o1 m1 h1 h2 h3 h4 h5
  go_wp2_with fail
  refine HS.out.mono ?_
  rintro e w2 ⟨rfl, p2, b2⟩
  have HX := Lib.hid (And.intro p2 (HB.out.trans b2)); clear p2 b2
  go_wp2_with fail
  go_ret
  exact ⟨⟨A, c, rfl, HX.out.1⟩, HX.out.2⟩
theorem ins_nil (fn : Value) (w : World) : Calls Tryz.prog 81 #[.slice none 0 0, .int .i64 0, .int .i64 0, fn] w fun e w' => e = .returned (.tuple #[]) ∧ w = w' := by
  go_enter Tryz.func81, Tryz.ntmps81
  go_wp2
  go_loop [8] (fun i => i = .int .i64 1) (fun _ => 0)
  case atStart => rfl
  case round =>
    obtain rfl := hrel
    go_wp2
    go_end0
    exact ⟨rfl, rfl⟩
theorem stable_nil (fn : Value) (w : World) : Calls Tryz.prog 56 #[.slice none 0 0, .int .i64 0, fn] w fun e w' => e = .returned (.tuple #[]) ∧ w = w' := by
  have H := Lib.hid (fun W => ins_nil fn W)
  go_enter Tryz.func56, Tryz.ntmps56
  go_wp2_with fail
  go_loop [7, 8] (fun a b => a = .int .i64 0 ∧ b = .int .i64 20) (fun _ _ => 0)
  case atStart => exact ⟨rfl, rfl⟩
  case round =>
    obtain ⟨rfl, rfl⟩ := hrel
    go_wp2_with fail
    refine (H.out _).mono ?_
    rintro e w' ⟨rfl, rfl⟩
    go_wp2_with fail
    go_loop [6, 7, 8, 9] (fun s _ _ _ => s = .int .i64 20) (fun _ _ _ _ => 0)
    case atStart => rfl
    case round =>
      obtain rfl := hrel
      go_wp2_with fail
      go_end0
      exact ⟨rfl, rfl⟩
theorem pairs_nil (w : World) : Calls Tryz.prog 20 #[.nilIface] w fun e w' => e = .returned (.slice none 0 0) ∧ w = w' := by
  have hg : ∀ W, Calls Tryz.prog 35 #[.slice none 0 0, .nilIface] W fun e w' => e = .returned (.slice none 0 0) ∧ W = w' := fun W => by
    have h1 := ta84_nil
    have h2 := ta91_nil
    have h3 := ta100_nil
    go_enter Tryz.func35, Tryz.ntmps35
    go_wp2
    go_ret
    exact ⟨rfl, rfl⟩
  have hs : ∀ W, Calls Tryz.prog 36 #[.slice none 0 0, .func (.func 37) #[] #[]] W fun e w' => e = .returned (.tuple #[]) ∧ W = w' := fun W => by
    have H := Lib.hid (fun W => stable_nil (.func (.func 37) #[] #[]) W)
    go_enter Tryz.func36, Tryz.ntmps36
    go_wp2_with fail
    refine (H.out _).mono ?_
    rintro e w' ⟨rfl, rfl⟩
    go_wp2_with fail
    go_end0
    exact ⟨rfl, rfl⟩
  have HG := Lib.hid hg
  have HS := Lib.hid hs
  clear hg hs
  go_enter Tryz.func20, Tryz.ntmps20
  go_wp2_with fail
  refine (HG.out _).mono ?_
  rintro e w' ⟨rfl, rfl⟩
  go_wp2_with fail
  refine (HS.out _).mono ?_
  rintro e w' ⟨rfl, rfl⟩
  go_wp2_with fail
  go_ret
  exact ⟨rfl, rfl⟩
end Go.Proofs.YtmbdimonfdncpaaGreatDoor
