/-
  Cursors in memory, and the contracts of their calls: At, Next, Back, Seek, Place, Left.
-/
import Derived.Test.YtkcfanckkomdbaaAts
namespace Go.Proofs.Ytkcfanckkomdbaa
open Go.RowKit
set_option maxHeartbeats 4000000
set_option maxRecDepth 100000
/-- two slices and a bool read as a pair, or as nothing -/
def Pt (o : Option Pr) (w : World) (ka va : Option Addr) (x1 x2 : Nat) (is : Bool) : Prop := x1 = (od o).1.length ∧ x2 = (od o).2.length ∧ is = o.isSome ∧ Bts w ka (od o).1 ∧ Bts w va (od o).2
theorem Pt.below {o : Option Pr} {w w' : World} {ka va : Option Addr} {x1 x2 : Nat} {is : Bool} (h : Pt o w ka va x1 x2 is) (hb : Below w.heap.size w w') : Pt o w' ka va x1 x2 is := ⟨h.1, h.2.1, h.2.2.1, h.2.2.2.1.below hb, h.2.2.2.2.below hb⟩
def Gt (o : Option Pr) (e : Ending) (w' : World) : Prop := ∃ ka kc va vc x1 x2 is, e = .returned (.tuple #[.agg #[.slice ka x1 kc, .slice va x2 vc], .bool is]) ∧ Pt o w' ka va x1 x2 is
theorem Got.gt {o : Option Pr} {e : Ending} {w' : World} (h : Got o e w') : Gt o e w' := by
  obtain ⟨ka, kc, va, vc, he, h1, h2⟩ := h
  exact ⟨ka, kc, va, vc, _, _, _, he, rfl, rfl, rfl, h1, h2⟩
/-- the cursor at block g: of the tree at p, at the place k -/
def Cur (w : World) (g : Nat) (p : Option Addr) (k : Nat) : Prop := w.heap[g]? = some (.cells #[.pointer p, .int .i64 (k : Int)] 65 (0, 0))
theorem Cur.lt {w : World} {g k : Nat} {p : Option Addr} (h : Cur w g p k) : g < w.heap.size := (Array.getElem?_eq_some_iff.1 h).1
theorem Cur.below {B : Nat} {w w' : World} {g k : Nat} {p : Option Addr} (h : Cur w g p k) (hb : Below B w w') (hg : g < B) : Cur w' g p k := (hb.block g hg).trans h
theorem Cur.later {w w' : World} {g k : Nat} {p : Option Addr} (h : Cur w g p k) (hb : Below w.heap.size w w') : Cur w' g p k := h.below hb h.lt
theorem Cur.cells {w : World} {g k : Nat} {p : Option Addr} (h : Cur w g p k) : w.cell? ⟨g, 0, none⟩ = some (.pointer p) ∧ w.cell? ⟨g, 1, none⟩ = some (.int .i64 (k : Int)) ∧ w.frozen? ⟨g, 1, none⟩ = false := by
  obtain ⟨a, b, _, c⟩ := row2 h
  exact ⟨a, b, c⟩
theorem Cur.set {w : World} {g k : Nat} {p : Option Addr} (h : Cur w g p k) (j : Nat) : Cur (w.setCell ⟨g, 1, none⟩ (.int .i64 (j : Int))) g p j := by
  unfold Cur
  rw [heap_setCell_same w g 1 _ 65 _ h]
  rfl
/-- what a cursor's call leaves of a block that bears something that no cursor does -/
theorem Only.curs {g k : Nat} {p : Option Addr} {w w' : World} {b i : Nat} {x : Value} (h : Only (some ⟨g, 0, none⟩) w w') (hm : Cur w g p k) (hc : w.cell? ⟨b, i, none⟩ = some x) (hx : ∀ z : Int, x ≠ .int .i64 z) (hy : ∀ q, x ≠ .pointer q) (hb : b < w.heap.size) : w'.heap[b]? = w.heap[b]? := by
  refine h.block b hb fun a e => ?_
  injection e with e
  subst e
  rintro (rfl : b = g)
  rw [cell_of_row w b i _ 65 (0, 0) hm] at hc
  match i, hc with
  | 0, hc => injection hc with hc; exact hy _ hc.symm
  | 1, hc => injection hc with hc; exact hx _ hc.symm
  | n + 2, hc => simp at hc
theorem Bts.curs {g k : Nat} {p : Option Addr} {w w' : World} {A : Option Addr} {l : List UInt8} (h : Bts w A l) (hm : Cur w g p k) (ho : Only (some ⟨g, 0, none⟩) w w') : Bts w' A l := by
  rcases h with h | ⟨b, off, h1, h2, h3⟩
  · exact .inl h
  · by_cases hl : l = []
    · exact .inl hl
    · have e := ho.curs hm (h3 0 (List.length_pos_iff.2 hl)) (by intro z e; injection e with e; cases e) (by intro q e; cases e) h2
      exact .inr ⟨b, off, h1, lt_kept e h2, fun i hi => (cell_kept e).trans (h3 i hi)⟩
theorem Byt.curs {F : Nat → Prop} {g k : Nat} {p : Option Addr} {w w' : World} {A : Option Addr} {l : List UInt8} (h : Byt F w A l) (hm : Cur w g p k) (ho : Only (some ⟨g, 0, none⟩) w w') : Byt F w' A l := by
  rcases h with h | ⟨b, off, h1, hf, h2, h3⟩
  · exact .inl h
  · by_cases hl : l = []
    · exact .inl hl
    · have e := ho.curs hm (h3 0 (List.length_pos_iff.2 hl)) (by intro z e; injection e with e; cases e) (by intro q e; cases e) h2
      exact .inr ⟨b, off, h1, hf, lt_kept e h2, fun i hi => (cell_kept e).trans (h3 i hi)⟩
theorem Nod.curs {F : Nat → Prop} {g k : Nat} {p : Option Addr} {w w' : World} {b kc vc n : Nat} {ka va pl pr : Option Addr} {q : Pr} (h : Nod F w b ka kc va vc q pl pr n) (hm : Cur w g p k) (ho : Only (some ⟨g, 0, none⟩) w w') : Nod F w' b ka kc va vc q pl pr n := by
  have e := ho.curs hm h.cells.1 (by intro z e; cases e) (by intro q e; cases e) h.lt
  exact ⟨h.1, e.trans h.2.1, h.2.2.1.curs hm ho, h.2.2.2.curs hm ho⟩
theorem Tre.curs {F : Nat → Prop} {g k : Nat} {p : Option Addr} {w w' : World} (hm : Cur w g p k) (ho : Only (some ⟨g, 0, none⟩) w w') : ∀ {t : Tr} {q : Option Addr}, Tre F w t q → Tre F w' t q
  | .nil, _, h => h
  | .node _ _ _, _, ⟨b, ka, kc, va, vc, pl, pr, h1, h2, h3, h4⟩ => ⟨b, ka, kc, va, vc, pl, pr, h1, h2.curs hm ho, h3.curs hm ho, h4.curs hm ho⟩
theorem Pt.curs {o : Option Pr} {g k : Nat} {p : Option Addr} {w w' : World} {ka va : Option Addr} {x1 x2 : Nat} {is : Bool} (h : Pt o w ka va x1 x2 is) (hm : Cur w g p k) (ho : Only (some ⟨g, 0, none⟩) w w') : Pt o w' ka va x1 x2 is := ⟨h.1, h.2.1, h.2.2.1, h.2.2.2.1.curs hm ho, h.2.2.2.2.curs hm ho⟩
/-- a tree with just these pairs, few enough and small enough to be walked through -/
structure Wood (w : World) (p : Option Addr) (L : List Pr) : Prop where
  tre : ∃ t, Tre (fun _ => True) w t p ∧ t.even ∧ t.list = L
  few : L.length ≤ 900
  fits : ∀ x ∈ L, x.1.length ≤ 100000 ∧ x.2.length ≤ 100000
  sorted : srt L
theorem Wood.below {w w' : World} {p : Option Addr} {L : List Pr} (h : Wood w p L) (hb : Below w.heap.size w w') : Wood w' p L := by
  obtain ⟨⟨t, h1, h2, h3⟩, h4, h5, h6⟩ := h
  exact ⟨⟨t, h1.below hb, h2, h3⟩, h4, h5, h6⟩
theorem Wood.curs {g k : Nat} {q : Option Addr} {w w' : World} {p : Option Addr} {L : List Pr} (h : Wood w p L) (hm : Cur w g q k) (ho : Only (some ⟨g, 0, none⟩) w w') : Wood w' p L := by
  obtain ⟨⟨t, h1, h2, h3⟩, h4, h5, h6⟩ := h
  exact ⟨⟨t, h1.curs hm ho, h2, h3⟩, h4, h5, h6⟩
theorem Wood.size {w : World} {p : Option Addr} {L : List Pr} (h : Wood w p L) : Calls Try.prog 26 #[.pointer p] w fun e w' => e = .returned (.int .i64 (L.length : Int)) ∧ w = w' := by
  obtain ⟨⟨t, h1, h2, rfl⟩, h4, h5, h6⟩ := h
  have e := Tr.length t
  rw [e]
  exact size_any h1 (by omega)
theorem Wood.at {w : World} {p : Option Addr} {L : List Pr} (h : Wood w p L) (z : Int) (z1 : -9223372036854775808 ≤ z) (z2 : z < 9223372036854775808) : Calls Try.prog 27 #[.pointer p, .int .i64 z] w fun e w' => Gt (nth L z) e w' ∧ Below w.heap.size w w' := by
  obtain ⟨⟨t, h1, h2, rfl⟩, h4, h5, h6⟩ := h
  have e := Tr.length t
  refine (at_any z z1 z2 h1 (by omega) h5).mono ?_
  rintro e w' ⟨h1, h2⟩
  exact ⟨h1.gt, h2⟩
theorem Wood.rank {w : World} {p A : Option Addr} {L : List Pr} {key : List UInt8} {x : Nat} (h : Wood w p L) (c : Nat) (hA : Bts w A key) (hx : x = key.length) : Calls Try.prog 28 #[.pointer p, .slice A x c] w fun e w' => e = .returned (.int .i64 (rank L key : Int)) ∧ Below w.heap.size w w' := by
  obtain ⟨⟨t, h1, h2, rfl⟩, h4, h5, h6⟩ := h
  have e := Tr.length t
  subst hx
  exact rank_any c h1 h6 (by omega) h5 hA
/-- a place, held within 0 and a size -/
def hold (z : Int) (n : Nat) : Nat := if z < 0 then 0 else if (n : Int) < z then n else z.toNat
theorem hold_le (z : Int) (n : Nat) : hold z n ≤ n := by unfold hold; split <;> (try split) <;> omega
theorem hold_of (z : Int) (n : Nat) : (z ≤ 0 → ((hold z n : Nat) : Int) = 0) ∧ ((n : Int) ≤ z → ((hold z n : Nat) : Int) = n) ∧ (0 ≤ z → z ≤ n → ((hold z n : Nat) : Int) = z) := by
  unfold hold
  refine ⟨fun h => ?_, fun h => ?_, fun h k => ?_⟩ <;> split <;> (try split) <;> omega
theorem curAt_any {w : World} {p : Option Addr} {L : List Pr} (z : Int) (h : Wood w p L) (z1 : -9223372036854775808 ≤ z) (z2 : z < 9223372036854775808) :
    Calls Try.prog 10 #[.pointer p, .int .i64 z] w fun e w' => e = .returned (.pointer (some ⟨w.heap.size, 0, none⟩)) ∧ Cur w' w.heap.size p (hold z L.length) ∧ Below w.heap.size w w' ∧ w'.heap.size = w.heap.size + 1 := by
  have hs := h.size
  have hn := h.few
  have ho := hold_of z L.length
  obtain ⟨n, hnn⟩ : ∃ n, n = L.length := ⟨_, rfl⟩
  rw [← hnn] at hs hn ho ⊢
  have fin : ∀ v : Int, v = ((hold z n : Nat) : Int) → (Cur (w.alloc (.cells #[.pointer p, .int .i64 v] 65)) w.heap.size p (hold z n) ∧ Below w.heap.size w (w.alloc (.cells #[.pointer p, .int .i64 v] 65)) ∧ (w.alloc (.cells #[.pointer p, .int .i64 v] 65)).heap.size = w.heap.size + 1) := by
    rintro v rfl
    exact ⟨heap_alloc_new w _, (Below.refl _ _).alloc (Nat.le_refl _) _, by simp⟩
  have HS := Lib.hid hs; clear hs
  have HO := Lib.hid ho; clear ho
  have FIN := Lib.hid fin; clear fin
  clear h hnn
  go_enter Try.func10, Try.ntmps10
  go_wp2_with fail
  refine HS.out.mono ?_
  rintro e w' ⟨rfl, rfl⟩
  go_wp2_with fail
  all_goals
    go_ret
    obtain ⟨q1, q2, q3⟩ := HO.out
    first | exact ⟨rfl, FIN.out 0 (by omega)⟩ | exact ⟨rfl, FIN.out n (by omega)⟩ | exact ⟨rfl, FIN.out z (by omega)⟩
theorem place_any {w : World} {g k : Nat} {p : Option Addr} (h : Cur w g p k) : Calls Try.prog 18 #[.pointer (some ⟨g, 0, none⟩)] w fun e w' => e = .returned (.int .i64 (k : Int)) ∧ w = w' := by
  obtain ⟨c0, c1, _⟩ := h.cells
  clear h
  go_enter Try.func18, Try.ntmps18
  go_wp2
  go_ret
  exact ⟨rfl, rfl⟩
theorem seek_any {w : World} {g k x : Nat} {p A : Option Addr} {L : List Pr} {key : List UInt8} (c : Nat) (hc : Cur w g p k) (h : Wood w p L) (hA : Bts w A key) (hx : x = key.length) :
    Calls Try.prog 15 #[.pointer (some ⟨g, 0, none⟩), .slice A x c] w fun e w' => e = .returned (.tuple #[]) ∧ Cur w' g p (rank L key) ∧ Only (some ⟨g, 0, none⟩) w w' := by
  have hr := h.rank c hA hx
  obtain ⟨r, hrr⟩ : ∃ r, r = rank L key := ⟨_, rfl⟩
  rw [← hrr] at hr ⊢
  obtain ⟨c0, c1, f1⟩ := hc.cells
  have HR := Lib.hid hr; clear hr
  have HC := Lib.hid hc; clear hc
  clear h hA hx hrr
  go_enter Try.func15, Try.ntmps15
  go_wp2_with fail
  refine HR.out.mono ?_
  rintro e w2 ⟨rfl, hb2⟩
  have hc2 := HC.out.later hb2
  clear c0 c1 f1
  obtain ⟨c0, c1, f1⟩ := hc2.cells
  have HC2 := Lib.hid hc2; clear hc2
  have HB2 := Lib.hid hb2; clear hb2
  go_wp2_with fail
  go_end0
  exact ⟨rfl, HC2.out.set r, (Only.of HB2.out).trans (Only.set _ _ _ _)⟩
theorem left_cur {w : World} {g k n : Nat} {p : Option Addr} {L : List Pr} (hc : Cur w g p k) (h : Wood w p L) (hn : n = L.length) (hk : k ≤ n) :
    Calls Try.prog 19 #[.pointer (some ⟨g, 0, none⟩)] w fun e w' => e = .returned (.int .i64 ((n : Int) - (k : Int))) ∧ Below w.heap.size w w' := by
  have hs := fun W (hW : Below w.heap.size w W) => (h.below hW).size
  have h9 := h.few
  have hcs : ∀ W, Below w.heap.size w W → W.cell? ⟨g, 0, none⟩ = some (.pointer p) ∧ W.cell? ⟨g, 1, none⟩ = some (.int .i64 (k : Int)) := fun W hW => ⟨(hc.later hW).cells.1, (hc.later hW).cells.2.1⟩
  rw [← hn] at hs h9
  have HS := Lib.hid hs; clear hs
  have HC := Lib.hid hcs; clear hcs
  have hwr : IntKind.i64.wrap ((n : Int) - (k : Int)) = (n : Int) - (k : Int) := IntWalk.i64_in _ (by omega)
  clear h hn hc
  have hz : Below w.heap.size w w.drew := (Below.refl _ _).drew
  go_enter Try.func19, Try.ntmps19
  go_wp2_with fail
  go_region_held3 (fun W => W.cell? ⟨g, 0, none⟩ = some (.pointer p) ∧ W.cell? ⟨g, 1, none⟩ = some (.int .i64 (k : Int))) (first | exact HC.out _ hz | fail) (first
    | (go_at_call 26; (with_reducible refine (HS.out _ hz).mono ?_); rintro e wA ⟨rfl, rfl⟩)
    | fail)
  all_goals
    go_wp2_with fail
    go_ret
    exact ⟨rfl, hz⟩
end Go.Proofs.Ytkcfanckkomdbaa
