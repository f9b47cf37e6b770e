/-
  Contract of layout.Come: entries in new memory, their bytes too.
-/
import Derived.Test.YtajanacbifjmgaaDoorLast
import Derived.Test.YtajanacbifjmgaaDoorFlat
namespace Go.Proofs.YtajanacbifjmgaaDoor
open Go.RowKit
set_option maxHeartbeats 2000000
set_option maxRecDepth 100000
/-- the entry at place i of the cells, its bytes in new memory -/
def NewEAt (B : Nat) (w : World) (cur : Array Value) (i : Nat) (e : En) : Prop :=
  ∃ kb vb, cur[i * 3 + 1]? = some (.slice (some ⟨kb, 0, none⟩) e.2.1.length e.2.1.length) ∧ cur[i * 3 + 2]? = some (.slice (some ⟨vb, 0, none⟩) e.2.2.length e.2.2.length) ∧ NewRow B w kb e.2.1 ∧ NewRow B w vb e.2.2
/-- entries in a new row, the pairs of the first j of them in new memory -/
structure NewTo (B : Nat) (w : World) (g : Nat) (cur : Array Value) (M : List En) (j : Nat) : Prop where
  new : B ≤ g
  row : w.heap[g]? = some (.cells cur 51 (0, 0))
  size : M.length * 3 ≤ cur.size
  hash : ∀ i (h : i < M.length), cur[i * 3]? = some (.int .u64 ((M[i]).1 : Int))
  done : ∀ i (h : i < M.length), i < j → NewEAt B w cur i M[i]
theorem NewEAt.kept {B i : Nat} {w w' : World} {cur : Array Value} {e : En} (h : NewEAt B w cur i e) (hk : ∀ (k : Nat) (cs : Array Value), w.heap[k]? = some (Obj.cells cs 5 (0, 0)) → w'.heap[k]? = w.heap[k]?) : NewEAt B w' cur i e := by
  obtain ⟨kb, vb, h1, h2, h3, h4⟩ := h
  exact ⟨kb, vb, h1, h2, ⟨h3.1, (hk kb _ h3.2).trans h3.2⟩, ⟨h4.1, (hk vb _ h4.2).trans h4.2⟩⟩
theorem NewTo.below {B g j : Nat} {w w' : World} {cur : Array Value} {M : List En} (h : NewTo B w g cur M j) (hb : Below w.heap.size w w') : NewTo B w' g cur M j where
  new := h.new
  row := (hb.block g (Array.getElem?_eq_some_iff.1 h.row).1).trans h.row
  size := h.size
  hash := h.hash
  done := fun i hi hj => (h.done i hi hj).kept fun k _ hk => hb.block k (Array.getElem?_eq_some_iff.1 hk).1
theorem NewTo.ens {B g : Nat} {w : World} {cur : Array Value} {M : List En} (h : NewTo B w g cur M M.length) : Ens w (some ⟨g, 0, none⟩) M := by
  refine .inr ⟨g, 0, rfl, (Array.getElem?_eq_some_iff.1 h.row).1, fun i hi => ?_⟩
  obtain ⟨kb, vb, h1, h2, h3, h4⟩ := h.done i hi hi
  rw [Nat.zero_add, cell_of_row w g _ _ 51 (0, 0) h.row, cell_of_row w g _ _ 51 (0, 0) h.row, cell_of_row w g _ _ 51 (0, 0) h.row]
  exact ⟨_, _, _, _, h.hash i hi, h1, h2, bts_row h3.2, bts_row h4.2⟩
/-- an entry more -/
theorem NewTo.step {B g j kb vb : Nat} {w w' : World} {cur : Array Value} {M : List En} (h : NewTo B w g cur M j) (hj : j < M.length) (hk : NewRow B w kb (M[j]).2.1) (hv : NewRow B w vb (M[j]).2.2)
    (hw : w' = (w.setCell ⟨g, j * 3 + 1, none⟩ (.slice (some ⟨kb, 0, none⟩) (M[j]).2.1.length (M[j]).2.1.length)).setCell ⟨g, j * 3 + 2, none⟩ (.slice (some ⟨vb, 0, none⟩) (M[j]).2.2.length (M[j]).2.2.length)) :
    ∃ cur', NewTo B w' g cur' M (j + 1) := by
  have h2 := heap_setCell_same w g (j * 3 + 1) cur 51 (.slice (some ⟨kb, 0, none⟩) (M[j]).2.1.length (M[j]).2.1.length) h.row
  have h3 := heap_setCell_same _ g (j * 3 + 2) _ 51 (.slice (some ⟨vb, 0, none⟩) (M[j]).2.2.length (M[j]).2.2.length) h2
  rw [← hw] at h3
  have hs := h.size
  have hoth : ∀ b, b ≠ g → w'.heap[b]? = w.heap[b]? := fun b hb => by rw [hw, heap_setCell_other _ _ _ _ hb, heap_setCell_other _ _ _ _ hb]
  have hrow : ∀ (k : Nat) (cs : Array Value), w.heap[k]? = some (Obj.cells cs 5 (0, 0)) → w'.heap[k]? = w.heap[k]? := fun k cs hk => hoth k fun e => by
    subst e
    rw [h.row] at hk
    injection hk with hk
    injection hk with _ hk
    cases hk
  refine ⟨_, h.new, h3, by simpa using h.size, fun i hi => ?_, fun i hi hij => ?_⟩
  · rw [Array.getElem?_setIfInBounds_ne (by omega), Array.getElem?_setIfInBounds_ne (by omega)]
    exact h.hash i hi
  · rcases Nat.lt_or_ge i j with g1 | g1
    · obtain ⟨kb', vb', e1, e2, e3, e4⟩ := (h.done i hi g1).kept hrow
      refine ⟨kb', vb', ?_, ?_, e3, e4⟩
      · rw [Array.getElem?_setIfInBounds_ne (by omega), Array.getElem?_setIfInBounds_ne (by omega)]; exact e1
      · rw [Array.getElem?_setIfInBounds_ne (by omega), Array.getElem?_setIfInBounds_ne (by omega)]; exact e2
    · obtain rfl : i = j := by omega
      refine ⟨kb, vb, ?_, ?_, ⟨hk.1, (hrow kb _ hk.2).trans hk.2⟩, ⟨hv.1, (hrow vb _ hv.2).trans hv.2⟩⟩
      · rw [Array.getElem?_setIfInBounds_ne (by omega), Array.getElem?_setIfInBounds_self_of_lt (by omega)]
      · rw [Array.getElem?_setIfInBounds_self_of_lt (by simp; omega)]
/-- entries in new memory -/
def NewsE (B : Nat) (w : World) (v : Value) (M : List En) : Prop := ∃ A c, v = .slice A M.length c ∧ M.length ≤ c ∧ (M = [] ∨ ∃ g cur, A = some ⟨g, 0, none⟩ ∧ NewTo B w g cur M M.length)
theorem NewsE.ens {B : Nat} {w : World} {v : Value} {M : List En} (h : NewsE B w v M) : ∃ A c, v = .slice A M.length c ∧ M.length ≤ c ∧ Ens w A M := by
  obtain ⟨A, c, h1, h2, h3⟩ := h
  refine ⟨A, c, h1, h2, ?_⟩
  rcases h3 with h3 | ⟨g, cur, rfl, h3⟩
  · exact .inl h3
  · exact h3.ens
theorem comeE_any {w : World} {A : Option Addr} {L : List En} (ha : Ens w A L) (c : Nat) (hlen : L.length ≤ 1000) (hk : ∀ e ∈ L, e.2.1.length ≤ 100000 ∧ e.2.2.length ≤ 100000) :
    Calls Tryd.prog 16 #[.slice A L.length c] w fun e w' => ∃ v, e = .returned v ∧ NewsE w.heap.size w' v (comeE L) ∧ Below w.heap.size w w' := by
  have hl := lasting_any ha c hlen (fun e he => (hk e he).1)
  obtain ⟨M, hM⟩ : ∃ M, M = comeE L := ⟨_, rfl⟩
  have hml : M.length ≤ 1000 := by rw [hM]; exact Nat.le_trans (comeE_len L) hlen
  have hmk : ∀ p ∈ eprs M, p.1.length ≤ 100000 ∧ p.2.length ≤ 100000 := fun p hp => by
    obtain ⟨e, he, rfl⟩ := List.mem_map.1 hp
    rw [hM] at he
    exact hk e (comeE_mem he)
  rw [← hM] at hl ⊢
  clear hM hk ha
  obtain ⟨ML, hML⟩ : ∃ n, n = M.length := ⟨_, rfl⟩
  have hel : (eprs M).length = ML := by rw [hML]; simp [eprs]
  have hpo := fun W A1 (c1 : Nat) (h : Ens W A1 M) => pairsOf_any h c1 hml
  have how := fun W g (h : Pcs W (some ⟨g, 0, none⟩) (eprs M)) => own_any h ML (by omega) hmk
  simp only [hel] at how
  simp only [← hML] at hpo hml
  rw [← hML] at hl
  have HL := Lib.hid hl; clear hl
  have HPO := Lib.hid hpo; clear hpo
  have HOW := Lib.hid how; clear how
  have HML := Lib.hid (And.intro hML hel); clear hML hel hmk
  go_enter Tryd.func16, Tryd.ntmps16
  go_wp2_with fail
  refine HL.out.mono ?_
  rintro e w1 ⟨v1, xs, rfl, hown, hrow, b1⟩
  obtain ⟨A1, c1, rfl, hc1, hE1⟩ := ens_own hown HML.out.1 hrow (Below.refl _ _)
  rw [← HML.out.1] at hown hc1 ⊢
  have HR1 := Lib.hid (And.intro hown (And.intro hrow (And.intro hc1 b1))); clear hown hrow hc1 b1
  have J := Lib.hid (HPO.out w1 A1 c1 hE1); clear hE1
  go_wp2_with fail
  refine J.out.mono ?_
  rintro e w2 ⟨rfl, hp2, b2⟩
  have J2 := Lib.hid (HOW.out w2 _ hp2); clear hp2
  have B2 := Lib.hid b2; clear b2
  go_wp2_with fail
  refine J2.out.mono ?_
  rintro e w3 ⟨rfl, hn3, b3⟩
  have b03 : Below w.heap.size w w3 := below_then (below_then HR1.out.2.2.2 B2.out) b3
  have b13 : Below w1.heap.size w1 w3 := below_then B2.out b3
  have hn3' : News w.heap.size w3 w2.heap.size (eprs M) := by
    obtain ⟨q1, cur, q2, q3, q4⟩ := hn3
    have hle : w.heap.size ≤ w2.heap.size := Nat.le_trans HR1.out.2.2.2.size B2.out.size
    refine ⟨hle, cur, q2, q3, fun i hi => ?_⟩
    obtain ⟨kb, vb, s1, s2, s3, s4⟩ := q4 i hi
    exact ⟨kb, vb, s1, s2, ⟨Nat.le_trans hle s3.1, s3.2⟩, ⟨Nat.le_trans hle s4.1, s4.2⟩⟩
  have hst : M = [] ∨ ∃ g1 cur, A1 = some ⟨g1, 0, none⟩ ∧ NewTo w.heap.size w3 g1 cur M 0 := by
    rcases HR1.out.1.2 with ⟨e1, e2⟩ | ⟨g1, cap, cur, e1, e2, e3, e4, _, e5, e6⟩
    · exact .inl (List.eq_nil_of_length_eq_zero (by rw [← HML.out.1]; exact e2))
    · injection e1 with e1 _ _
      have hx := HR1.out.2.1
      refine .inr ⟨g1, cur, e1, e2, (b13.block g1 (Array.getElem?_eq_some_iff.1 e3).1).trans e3, by rw [e5, ← HML.out.1]; omega, fun i hi => ?_, fun i _ h => by omega⟩
      obtain ⟨ka, kc, va, vc, h1, _⟩ := hx.2 i hi
      rw [← h1, ← e6, List.getElem?_take_of_lt (by rw [HML.out.1]; omega), Array.getElem?_toList]
  have HST := Lib.hid hst; clear hst
  have HN3 := Lib.hid hn3'; clear hn3' hn3
  have HB3 := Lib.hid b03; clear b03 b3 b13
  obtain ⟨g3, hg3⟩ : ∃ g, g = w2.heap.size := ⟨_, rfl⟩
  rw [← hg3] at HN3 ⊢
  clear hg3
  go_wp2_with fail
  go_loopw [12] (fun u wr => ∃ j : Nat, u = .int .i64 j ∧ j ≤ ML ∧ Hid (Below w.heap.size w wr) ∧ Hid (News w.heap.size wr g3 (eprs M)) ∧ Hid (M = [] ∨ ∃ g1 cur, A1 = some ⟨g1, 0, none⟩ ∧ NewTo w.heap.size wr g1 cur M j)) (fun u _ => ML - (intOf u).toNat)
  case atStart => exact ⟨0, rfl, by omega, HB3.out, HN3.out, HST.out⟩
  case round =>
    obtain ⟨j, rfl, hj, hbel, hnews, hto⟩ := hrel
    by_cases hlt : j < ML
    · have hlt' : j < M.length := by rw [← HML.out.1]; exact hlt
      rcases hto.out with h | ⟨g1, cur, rfl, hN⟩
      · rw [h] at hlt'
        exact absurd hlt' (Nat.not_lt_zero _)
      · obtain ⟨hB3, cur3, r3, hs3, hat3⟩ := hnews.out
        obtain ⟨kb, vb, k1, k2, k3, k4⟩ := hat3 j (by rw [HML.out.2]; exact hlt)
        have hej : (eprs M)[j]'(by rw [HML.out.2]; exact hlt) = (M[j]).2 := by simp [eprs]
        rw [hej] at k1 k2 k3 k4
        have p1 : wr.cell? ⟨g3, j * 2, none⟩ = some (.slice (some ⟨kb, 0, none⟩) (M[j]).2.1.length (M[j]).2.1.length) := by rw [cell_of_row wr g3 _ _ 49 (0, 0) r3, k1]
        have p2 : wr.cell? ⟨g3, j * 2 + 1, none⟩ = some (.slice (some ⟨vb, 0, none⟩) (M[j]).2.2.length (M[j]).2.2.length) := by rw [cell_of_row wr g3 _ _ 49 (0, 0) r3, k2]
        obtain ⟨wa, hwa⟩ : ∃ wa, wa = wr.alloc (.cells #[.slice (some ⟨kb, 0, none⟩) (M[j]).2.1.length (M[j]).2.1.length, .slice (some ⟨vb, 0, none⟩) (M[j]).2.2.length (M[j]).2.2.length] 49) := ⟨_, rfl⟩
        have ba : Below wr.heap.size wr wa := by rw [hwa]; exact (Below.refl _ _).alloc (Nat.le_refl _) _
        have hNa := hN.below ba
        have hna : News w.heap.size wa g3 (eprs M) := hnews.out.below ba
        have hsz := hNa.size
        have q1 : ∃ u, cur[j * 3 + 1]? = some u := ⟨_, Array.getElem?_eq_getElem (by omega)⟩
        have q2 : ∃ u, cur[j * 3 + 2]? = some u := ⟨_, Array.getElem?_eq_getElem (by omega)⟩
        obtain ⟨u1, hu1⟩ := q1
        obtain ⟨u2, hu2⟩ := q2
        have e1 := cell_of_row wa g1 (j * 3 + 1) _ 51 (0, 0) hNa.row
        have e2 := cell_of_row wa g1 (j * 3 + 2) _ 51 (0, 0) hNa.row
        rw [hu1] at e1
        rw [hu2] at e2
        have f1 : wa.frozen? ⟨g1, j * 3 + 1, none⟩ = false := frozen_of_row _ _ _ _ _ hNa.row
        have f2 : wa.frozen? ⟨g1, j * 3 + 2, none⟩ = false := frozen_of_row _ _ _ _ _ hNa.row
        obtain ⟨cur', hN'⟩ := hNa.step hlt' (k3.below ba) (k4.below ba) rfl
        have hnew3 : News w.heap.size ((wa.setCell ⟨g1, j * 3 + 1, none⟩ (.slice (some ⟨kb, 0, none⟩) (M[j]).2.1.length (M[j]).2.1.length)).setCell ⟨g1, j * 3 + 2, none⟩ (.slice (some ⟨vb, 0, none⟩) (M[j]).2.2.length (M[j]).2.2.length)) g3 (eprs M) := by
          obtain ⟨a1, cc, a2, a3, a4⟩ := hna
          have hoth : ∀ b (cs : Array Value) (t : TypeId), t ≠ 51 → wa.heap[b]? = some (Obj.cells cs t (0, 0)) → ((wa.setCell ⟨g1, j * 3 + 1, none⟩ (.slice (some ⟨kb, 0, none⟩) (M[j]).2.1.length (M[j]).2.1.length)).setCell ⟨g1, j * 3 + 2, none⟩ (.slice (some ⟨vb, 0, none⟩) (M[j]).2.2.length (M[j]).2.2.length)).heap[b]? = some (Obj.cells cs t (0, 0)) := fun b cs t ht hb => by
            have hne : b ≠ g1 := fun e => by
              subst e
              rw [hNa.row] at hb
              injection hb with hb
              injection hb with _ hb
              exact ht hb.symm
            rw [heap_setCell_other _ _ _ _ hne, heap_setCell_other _ _ _ _ hne]
            exact hb
          refine ⟨a1, cc, hoth _ _ _ (by decide) a2, a3, fun i hi => ?_⟩
          obtain ⟨kb', vb', s1, s2, s3, s4⟩ := a4 i hi
          exact ⟨kb', vb', s1, s2, ⟨s3.1, hoth _ _ _ (by decide) s3.2⟩, ⟨s4.1, hoth _ _ _ (by decide) s4.2⟩⟩
        have hbb : Below w.heap.size w ((wa.setCell ⟨g1, j * 3 + 1, none⟩ (.slice (some ⟨kb, 0, none⟩) (M[j]).2.1.length (M[j]).2.1.length)).setCell ⟨g1, j * 3 + 2, none⟩ (.slice (some ⟨vb, 0, none⟩) (M[j]).2.2.length (M[j]).2.2.length)) :=
          ((hbel.out.trans (ba.mono hbel.out.size)).setCell (p := ⟨g1, j * 3 + 1, none⟩) hN.new _).setCell (p := ⟨g1, j * 3 + 2, none⟩) hN.new _
        subst hwa
        obtain ⟨x, hx⟩ : ∃ x : Nat, x = (M[j]).2.1.length := ⟨_, rfl⟩
        obtain ⟨y, hy⟩ : ∃ x : Nat, x = (M[j]).2.2.length := ⟨_, rfl⟩
        rw [← hx] at p1 hbb hnew3 hN' e1 e2 f1 f2
        rw [← hy] at p2 hbb hnew3 hN' e1 e2 f1 f2
        have HB := Lib.hid hbb; clear hbb
        have HNW := Lib.hid hnew3; clear hnew3
        have HNN : Hid (∃ cur', NewTo w.heap.size _ g1 cur' M (j + 1)) := ⟨cur', hN'⟩
        clear hN' hNa hna hN hnews hto hsz hu1 hu2 ba k1 k2 k3 k4 r3 hs3 hat3 hej hx hy hbel
        go_wp2_with fail
        go_roundw
        case rel =>
          obtain ⟨cur2, h2⟩ := HNN.out
          exact ⟨j + 1, by go_num, by omega, HB.out, HNW.out, .inr ⟨g1, cur2, rfl, h2⟩⟩
        case measure => simp [intOf]; omega
    · obtain rfl : j = ML := by omega
      have HF : Hid (NewsE w.heap.size wr (.slice A1 j c1) M) := by
        refine ⟨A1, c1, by rw [HML.out.1], by rw [← HML.out.1]; exact HR1.out.2.2.1, ?_⟩
        rcases hto.out with h | ⟨g1, cur, e, h⟩
        · exact .inl h
        · exact .inr ⟨g1, cur, e, by rw [← HML.out.1]; exact h⟩
      go_wp2_with fail
      go_ret
      exact ⟨_, rfl, HF.out, hbel.out⟩
end Go.Proofs.YtajanacbifjmgaaDoor
