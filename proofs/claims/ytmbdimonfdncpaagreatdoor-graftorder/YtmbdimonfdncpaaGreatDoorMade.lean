/-
  Contracts of copied and Own: the same pairs as new memory.
-/
import Derived.Test.YtmbdimonfdncpaaGreatDoorWalks
import Derived.Laws.MakeOwn
import Derived.Laws.CopyOwn
namespace Go.Proofs.YtmbdimonfdncpaaGreatDoor
open Go.RowKit
set_option maxHeartbeats 400000
set_option maxRecDepth 100000
theorem Tryz.info5 : (Tryz.prog.info? 5).map (fun i => (i.zero, i.size, i.bytes)) = some (some (.int .u8 0), 1, 1) := by kernel_rfl
theorem made_eq (n : Nat) : madeCells (Value.int .u8 0).cells n = (Lib.byteCells (List.replicate n 0)).toArray := by
  apply Array.ext
  · simp [madeCells, Lib.byteCells]
  · intro i h1 h2
    have e : (Value.int .u8 0).cells = #[.int .u8 0] := rfl
    simp only [madeCells, Array.getElem_map, e, Lib.byteCells, List.getElem_toArray, List.getElem_map, List.getElem_replicate]
    simp [Nat.mod_one]
theorem run_make_key (w : World) (n : Nat) (hn : n ≤ 100000) : (Instr.makeSlice 27 (.int .i64 (n : Int)) (.int .i64 (n : Int))).run Tryz.prog w = .ok (.slice (some ⟨w.heap.size, 0, none⟩) n n) (w.alloc (.cells (Lib.byteCells (List.replicate n 0)).toArray 5)) := by
  obtain ⟨i0, hi, hz0, hz1, hz2⟩ := info_parts Tryz.info5
  have h := run_make (P := Tryz.prog) w 27 5 i0 (.int .u8 0) Tryz.underlying27 hi hz0 .i64 .i64 (n : Int) (n : Int) (by omega) (by omega) (by rw [hz2]; omega) (by omega)
  rw [h, hz1]
  simp only [Int.toNat_natCast, Nat.mul_one]
  rw [made_eq]
theorem byteCells_one (l : List UInt8) : ∀ u ∈ Lib.byteCells l, u.oneCell' = true := by
  intro u hu
  simp only [Lib.byteCells, List.mem_map] at hu
  obtain ⟨b, _, rfl⟩ := hu
  rfl
theorem splice_key (l : List UInt8) (n : Nat) : splice (Lib.byteCells (List.replicate n 0)) 0 (Lib.byteCells (l.take n)) = Lib.byteCells (l.take n ++ List.replicate (n - l.length) 0) := by
  simp only [splice, List.take_zero, List.nil_append, Lib.byteCells, List.length_map, List.length_take, Nat.zero_add, List.map_append, List.map_replicate, List.drop_replicate]
  congr 2
  omega
theorem Bts.cells {w : World} {A : Option Addr} {l : List UInt8} (h : Bts w A l) (hp : 0 < l.length) : ∃ a, A = some a ∧ a.block < w.heap.size ∧ ∀ j v, (Lib.byteCells l)[j]? = some v → w.cell? (a.add j) = some v := by
  rcases h with rfl | ⟨b, off, rfl, hlt, hc⟩
  · simp at hp
  · refine ⟨_, rfl, hlt, fun j v hv => ?_⟩
    simp only [Lib.byteCells, List.getElem?_map, Option.map_eq_some_iff] at hv
    obtain ⟨x, hx, rfl⟩ := hv
    obtain ⟨hj, rfl⟩ := List.getElem?_eq_some_iff.1 hx
    rw [Go.WideShapes.add_plain]
    exact hc j hj
theorem Tryz.size5 : (Tryz.prog.info? 5).map (·.size) = some 1 := by kernel_rfl
/-- copy into a new row of noughts -/
theorem run_copy_key {w : World} {A : Option Addr} {l : List UInt8} (ha : Bts w A l) (c n : Nat) :
    ∃ (k : Int) (w2 : World), (Builtin.copy_ #[27, 27] 3 #[.slice (some ⟨w.heap.size, 0, none⟩) n n, .slice A l.length c]).run Tryz.prog (w.alloc (.cells (Lib.byteCells (List.replicate n 0)).toArray 5)) = .ok (.int .i64 k) w2 ∧
      w2.heap[w.heap.size]? = some (.cells (Lib.byteCells (l.take n ++ List.replicate (n - l.length) 0)).toArray 5 (0, 0)) ∧ Below w.heap.size w w2 := by
  have hnew : (w.alloc (.cells (Lib.byteCells (List.replicate n 0)).toArray 5)).heap[w.heap.size]? = some (.cells (Lib.byteCells (List.replicate n 0)).toArray 5 (0, 0)) := heap_alloc_new w _
  have hbel : Below w.heap.size w (w.alloc (.cells (Lib.byteCells (List.replicate n 0)).toArray 5)) := (Below.refl _ _).alloc (Nat.le_refl _) _
  have hlen : (Lib.byteCells (l.take n)).length = Nat.min l.length n := by rw [Lib.byteCells_length, List.length_take, Nat.min_comm]
  have hsp := splice_key l n
  rcases Nat.eq_zero_or_pos (l.take n).length with h0 | h0
  · have e : l.take n = [] := List.eq_nil_of_length_eq_zero h0
    rw [e] at hsp hlen
    refine ⟨_, _, run_copy_none (P := Tryz.prog) _ 27 27 3 5 _ A n n l.length c Tryz.underlying27 Tryz.size5 (by rw [← hlen]; rfl), ?_, hbel⟩
    rw [hnew, e, ← hsp]
    simp [splice, Lib.byteCells]
  · obtain ⟨a, rfl, _, hc⟩ := ((ha.take n).below hbel).cells h0
    have hfit : 0 + (Lib.byteCells (l.take n)).length ≤ (Lib.byteCells (List.replicate n (0 : UInt8))).toArray.size := by
      rw [List.size_toArray, Lib.byteCells_length, Lib.byteCells_length, List.length_take, List.length_replicate]; omega
    refine ⟨_, _, run_copy_row (P := Tryz.prog) _ 27 27 3 5 _ 0 n n a l.length c _ 5 _ Tryz.underlying27 Tryz.size5 hnew hlen hc hfit (byteCells_one _), ?_, below_setRow hbel (Nat.le_refl _) _⟩
    rw [setRow_heap _ _ _ _ 5 (0, 0) hnew, ← hsp]
    simp [splice]
theorem copied_any {w : World} {A : Option Addr} {l : List UInt8} (ha : Bts w A l) (c : Nat) (hn : l.length ≤ 100000) :
    Calls Tryz.prog 92 #[.slice A l.length c] w fun e w' => e = .returned (.slice (some ⟨w.heap.size, 0, none⟩) l.length l.length) ∧
      w'.heap[w.heap.size]? = some (.cells (Lib.byteCells l).toArray 5 (0, 0)) ∧ Below w.heap.size w w' := by
  have hmk := run_make_key w l.length hn
  obtain ⟨k, w2, hcp, hg, hb⟩ := run_copy_key ha c l.length
  rw [List.take_length, Nat.sub_self, List.replicate_zero, List.append_nil] at hg
  obtain ⟨w1, hw1⟩ : ∃ w1, w1 = w.alloc (.cells (Lib.byteCells (List.replicate l.length 0)).toArray 5) := ⟨_, rfl⟩
  rw [← hw1] at hmk hcp
  have HG := Lib.hid hg; clear hg
  have HB := Lib.hid hb; clear hb
  clear hw1 ha
  go_enter Tryz.func92, Tryz.ntmps92
  go_wp2_with fail
  go_ret
  exact ⟨rfl, HG.out, HB.out⟩
/-- a row of bytes reads as its bytes -/
theorem bts_row {w : World} {g : Nat} {l : List UInt8} {fz : Nat × Nat} (h : w.heap[g]? = some (.cells (Lib.byteCells l).toArray 5 fz)) : Bts w (some ⟨g, 0, none⟩) l := by
  refine .inr ⟨g, 0, rfl, (Array.getElem?_eq_some_iff.1 h).1, fun i hi => ?_⟩
  rw [cell_of_row w g (0 + i) _ 5 fz h]
  simp [Lib.byteCells, hi]
/-- a new row of bytes, from block B on -/
def NewRow (B : Nat) (w : World) (b : Nat) (l : List UInt8) : Prop := B ≤ b ∧ w.heap[b]? = some (.cells (Lib.byteCells l).toArray 5 (0, 0))
/-- the pair at place i of the cells, in new memory -/
def NewAt (B : Nat) (w : World) (cur : Array Value) (i : Nat) (p : Pr) : Prop :=
  ∃ kb vb, cur[i * 2]? = some (.slice (some ⟨kb, 0, none⟩) p.1.length p.1.length) ∧ cur[i * 2 + 1]? = some (.slice (some ⟨vb, 0, none⟩) p.2.length p.2.length) ∧ NewRow B w kb p.1 ∧ NewRow B w vb p.2
/-- a list of pairs in new memory -/
def News (B : Nat) (w : World) (g : Nat) (L : List Pr) : Prop := B ≤ g ∧ ∃ cur, w.heap[g]? = some (.cells cur 29 (0, 0)) ∧ cur.size = L.length * 2 ∧ ∀ i (h : i < L.length), NewAt B w cur i (L[i])
theorem NewRow.below {B b : Nat} {w w' : World} {l : List UInt8} (h : NewRow B w b l) (hb : Below w.heap.size w w') : NewRow B w' b l :=
  ⟨h.1, (hb.block b (Array.getElem?_eq_some_iff.1 h.2).1).trans h.2⟩
theorem NewAt.below {B i : Nat} {w w' : World} {cur : Array Value} {p : Pr} (h : NewAt B w cur i p) (hb : Below w.heap.size w w') : NewAt B w' cur i p := by
  obtain ⟨kb, vb, h1, h2, h3, h4⟩ := h
  exact ⟨kb, vb, h1, h2, h3.below hb, h4.below hb⟩
theorem News.below {B g : Nat} {w w' : World} {L : List Pr} (h : News B w g L) (hb : Below w.heap.size w w') : News B w' g L := by
  obtain ⟨h0, cur, h1, h2, h3⟩ := h
  exact ⟨h0, cur, (hb.block g (Array.getElem?_eq_some_iff.1 h1).1).trans h1, h2, fun i hi => (h3 i hi).below hb⟩
theorem News.pcs {B g : Nat} {w : World} {L : List Pr} (h : News B w g L) : Pcs w (some ⟨g, 0, none⟩) L := by
  obtain ⟨_, cur, h1, h2, h3⟩ := h
  refine .inr ⟨g, 0, rfl, (Array.getElem?_eq_some_iff.1 h1).1, fun i hi => ?_⟩
  obtain ⟨kb, vb, g1, g2, g3, g4⟩ := h3 i hi
  refine ⟨some ⟨kb, 0, none⟩, (L[i]).1.length, some ⟨vb, 0, none⟩, (L[i]).2.length, ?_, ?_, bts_row g3.2, bts_row g4.2⟩
  · rw [Nat.zero_add, cell_of_row w g (i * 2) _ 29 (0, 0) h1, g1]
  · rw [Nat.zero_add, cell_of_row w g (i * 2 + 1) _ 29 (0, 0) h1, g2]
theorem Tryz.info48 : (Tryz.prog.info? 29).map (fun i => (i.zero, i.size, i.bytes)) = some (some (.agg #[.slice none 0 0, .slice none 0 0]), 2, 48) := by kernel_rfl
theorem run_make_pairs (w : World) (n : Nat) (hn : n ≤ 100000) : ∃ C : Array Value, C.size = n * 2 ∧ (Instr.makeSlice 23 (.int .i64 (n : Int)) (.int .i64 (n : Int))).run Tryz.prog w = .ok (.slice (some ⟨w.heap.size, 0, none⟩) n n) (w.alloc (.cells C 29)) := by
  obtain ⟨i0, hi, hz0, hz1, hz2⟩ := info_parts Tryz.info48
  have h := run_make (P := Tryz.prog) w 23 29 i0 _ Tryz.underlying23 hi hz0 .i64 .i64 (n : Int) (n : Int) (by omega) (by omega) (by rw [hz2]; omega) (by omega)
  rw [hz1] at h
  simp only [Int.toNat_natCast] at h
  exact ⟨_, by simp [madeCells], h⟩
theorem own_step {wr wA wB : World} {g j q : Nat} {cur : Array Value} {L : List Pr} (hlt : j < L.length) (hgq : g ≤ q) (hgA : g ≤ wA.heap.size) (hcur : wr.heap[g]? = some (.cells cur 29 (0, 0))) (hcs : cur.size = L.length * 2)
    (hdone : ∀ i (h : i < L.length), i < j → NewAt g wr cur i (L[i])) (hyB : Below wr.heap.size wr wB) (hB : Below wA.heap.size wA wB)
    (hrA : wA.heap[q]? = some (.cells (Lib.byteCells (L[j]).1).toArray 5 (0, 0))) (hrB : wB.heap[wA.heap.size]? = some (.cells (Lib.byteCells (L[j]).2).toArray 5 (0, 0))) (W : World)
    (hW : W = (wB.setCell ⟨g, j * 2, none⟩ (.slice (some ⟨q, 0, none⟩) (L[j]).1.length (L[j]).1.length)).setCell ⟨g, j * 2 + 1, none⟩ (.slice (some ⟨wA.heap.size, 0, none⟩) (L[j]).2.length (L[j]).2.length)) :
    ∃ cur', W.heap[g]? = some (.cells cur' 29 (0, 0)) ∧ cur'.size = L.length * 2 ∧ ∀ i (h : i < L.length), i < j + 1 → NewAt g W cur' i (L[i]) := by
  have hgl : g < wr.heap.size := (Array.getElem?_eq_some_iff.1 hcur).1
  have h1 : wB.heap[g]? = some (.cells cur 29 (0, 0)) := (hyB.block g hgl).trans hcur
  have h2 := heap_setCell_same wB g (j * 2) cur 29 (.slice (some ⟨q, 0, none⟩) (L[j]).1.length (L[j]).1.length) h1
  have h3 := heap_setCell_same _ g (j * 2 + 1) _ 29 (.slice (some ⟨wA.heap.size, 0, none⟩) (L[j]).2.length (L[j]).2.length) h2
  rw [← hW] at h3
  have hoth : ∀ b, b ≠ g → W.heap[b]? = wB.heap[b]? := by
    intro b hb
    rw [hW, heap_setCell_other _ _ _ _ hb, heap_setCell_other _ _ _ _ hb]
  have hrow : ∀ (b : Nat) (l : List UInt8), wB.heap[b]? = some (.cells (Lib.byteCells l).toArray 5 (0, 0)) → W.heap[b]? = some (.cells (Lib.byteCells l).toArray 5 (0, 0)) := by
    intro b l h
    rw [hoth b ?_, h]
    rintro rfl
    rw [h1] at h
    injection h with h
    injection h with _ h
    cases h
  refine ⟨_, h3, by simpa using hcs, fun i hi hij => ?_⟩
  rcases Nat.lt_or_ge i j with g1 | g1
  · obtain ⟨kb, vb, e1, e2, e3, e4⟩ := hdone i hi g1
    refine ⟨kb, vb, ?_, ?_, ⟨e3.1, hrow _ _ (e3.below hyB).2⟩, ⟨e4.1, hrow _ _ (e4.below hyB).2⟩⟩
    · rw [Array.getElem?_setIfInBounds_ne (by omega), Array.getElem?_setIfInBounds_ne (by omega)]; exact e1
    · rw [Array.getElem?_setIfInBounds_ne (by omega), Array.getElem?_setIfInBounds_ne (by omega)]; exact e2
  · obtain rfl : i = j := by omega
    have hq : q < wA.heap.size := (Array.getElem?_eq_some_iff.1 hrA).1
    refine ⟨q, wA.heap.size, ?_, ?_, ⟨hgq, hrow _ _ ((hB.block q hq).trans hrA)⟩, ⟨hgA, hrow _ _ hrB⟩⟩
    · rw [Array.getElem?_setIfInBounds_ne (by omega), Array.getElem?_setIfInBounds_self_of_lt (by omega)]
    · rw [Array.getElem?_setIfInBounds_self_of_lt (by simp; omega)]
theorem own_any {w : World} {A : Option Addr} {L : List Pr} (ha : Pcs w A L) (c : Nat) (hlen : L.length ≤ 1000) (ht : ∀ p ∈ L, p.1.length ≤ 100000 ∧ p.2.length ≤ 100000) :
    Calls Tryz.prog 77 #[.slice A L.length c] w fun e w' => e = .returned (.slice (some ⟨w.heap.size, 0, none⟩) L.length L.length) ∧ News w.heap.size w' w.heap.size L ∧ Below w.heap.size w w' := by
  obtain ⟨C, hC, hmk⟩ := run_make_pairs w L.length (by omega)
  have hnew : (w.alloc (.cells C 29)).heap[w.heap.size]? = some (.cells C 29 (0, 0)) := heap_alloc_new w _
  have hb0 : Below w.heap.size w (w.alloc (.cells C 29)) := (Below.refl _ _).alloc (Nat.le_refl _) _
  obtain ⟨w0, hw0⟩ : ∃ w0, w0 = w.alloc (.cells C 29) := ⟨_, rfl⟩
  rw [← hw0] at hmk hnew hb0
  have HN := Lib.hid hnew; clear hnew
  have HB0 := Lib.hid hb0; clear hb0
  have HA := Lib.hid ha; clear ha
  have HT := Lib.hid ht; clear ht
  have HC := Lib.hid hC; clear hC
  clear hw0
  go_enter Tryz.func77, Tryz.ntmps77
  go_wp2
  go_loopw [11] (fun u wr => ∃ j : Nat, u = .int .i64 j ∧ j ≤ L.length ∧ Hid (Below w.heap.size w wr) ∧ Hid (∃ cur, wr.heap[w.heap.size]? = some (.cells cur 29 (0, 0)) ∧ cur.size = L.length * 2 ∧ ∀ i (h : i < L.length), i < j → NewAt w.heap.size wr cur i (L[i]))) (fun u _ => L.length - (intOf u).toNat)
  case atStart => exact ⟨0, rfl, by omega, HB0.out, C, HN.out, HC.out, fun i _ h => by omega⟩
  case round =>
    obtain ⟨j, rfl, hj, hbel, hinv⟩ := hrel
    by_cases hlt : j < L.length
    · obtain ⟨b, off, ka, kc, va, vc, rfl, hbl, h1, h2, h3, h4⟩ := (HA.out.below hbel.out).at hlt
      obtain ⟨hk1, hv1⟩ := HT.out _ (List.getElem_mem hlt)
      obtain ⟨cur, hcur, hcs, hdone⟩ := hinv.out
      have hgl : w.heap.size < wr.heap.size := (Array.getElem?_eq_some_iff.1 hcur).1
      obtain ⟨g, hg⟩ : ∃ g, g = w.heap.size := ⟨_, rfl⟩
      have ek := fun W (hW : Below wr.heap.size wr W) => copied_any (h3.below hW) kc hk1
      have ev := fun W (hW : Below wr.heap.size wr W) => copied_any (h4.below hW) vc hv1
      obtain ⟨x, hx⟩ : ∃ x : Nat, x = (L[j]).1.length := ⟨_, rfl⟩
      obtain ⟨y, hy⟩ : ∃ y : Nat, y = (L[j]).2.length := ⟨_, rfl⟩
      simp only [← hx] at h1 ek
      simp only [← hy] at h2 ev
      have u1 : ∃ u, cur[j * 2]? = some u := ⟨_, Array.getElem?_eq_getElem (by omega)⟩
      have u2 : ∃ u, cur[j * 2 + 1]? = some u := ⟨_, Array.getElem?_eq_getElem (by omega)⟩
      obtain ⟨u1, hu1⟩ := u1
      obtain ⟨u2, hu2⟩ := u2
      have hkeep : ∀ W, Below (wr.heap.size + 1) (wr.alloc (.cells #[.slice ka x kc, .slice va y vc] 29)) W →
          W.cell? ⟨wr.heap.size, 0, none⟩ = some (.slice ka x kc) ∧ W.cell? ⟨wr.heap.size, 1, none⟩ = some (.slice va y vc) ∧ W.cell? ⟨g, j * 2, none⟩ = some u1 ∧ W.cell? ⟨g, j * 2 + 1, none⟩ = some u2 ∧ W.frozen? ⟨g, j * 2, none⟩ = false ∧ W.frozen? ⟨g, j * 2 + 1, none⟩ = false := by
        intro W hW
        have hn : (wr.alloc (.cells #[.slice ka x kc, .slice va y vc] 29)).heap[wr.heap.size]? = some (.cells #[.slice ka x kc, .slice va y vc] 29 (0, 0)) := heap_alloc_new wr _
        have r1 := (hW.block wr.heap.size (by omega)).trans hn
        have r2 : W.heap[g]? = some (.cells cur 29 (0, 0)) := by
          rw [hW.block g (by omega), hg]
          exact (Below.heap_alloc wr _ w.heap.size hgl).trans hcur
        refine ⟨?_, ?_, ?_, ?_, ?_, ?_⟩
        · rw [cell_of_row W _ _ _ 29 (0, 0) r1]; rfl
        · rw [cell_of_row W _ _ _ 29 (0, 0) r1]; rfl
        · rw [cell_of_row W _ _ _ 29 (0, 0) r2, hu1]
        · rw [cell_of_row W _ _ _ 29 (0, 0) r2, hu2]
        · simp [World.frozen?, r2]
        · simp [World.frozen?, r2]
      rw [← hg]
      have EK := Lib.hid ek; clear ek
      have EV := Lib.hid ev; clear ev
      have KEEP := Lib.hid hkeep; clear hkeep
      have HG := Lib.hid hg; clear hg
      have HX := Lib.hid hx; clear hx
      have HY := Lib.hid hy; clear hy
      have hkeep2 : ∀ (W : World) (v1 v2 : Value), W.cell? ⟨wr.heap.size, 0, none⟩ = some (.slice ka x kc) ∧ W.cell? ⟨wr.heap.size, 1, none⟩ = some (.slice va y vc) →
          ((W.setCell ⟨g, j * 2, none⟩ v1).setCell ⟨g, j * 2 + 1, none⟩ v2).cell? ⟨wr.heap.size, 0, none⟩ = some (.slice ka x kc) ∧ ((W.setCell ⟨g, j * 2, none⟩ v1).setCell ⟨g, j * 2 + 1, none⟩ v2).cell? ⟨wr.heap.size, 1, none⟩ = some (.slice va y vc) := by
        intro W v1 v2 h
        have hne : g ≠ wr.heap.size := by have := HG.out; omega
        constructor
        · rw [World.cell?_setCell_other _ _ _ _ (fun e => hne (by injection e)), World.cell?_setCell_other _ _ _ _ (fun e => hne (by injection e))]; exact h.1
        · rw [World.cell?_setCell_other _ _ _ _ (fun e => hne (by injection e)), World.cell?_setCell_other _ _ _ _ (fun e => hne (by injection e))]; exact h.2
      have KEEP2 := Lib.hid hkeep2; clear hkeep2
      clear HA HT hu1 hu2 hdone hcs hcur h3 h4 hk1 hv1
      go_wp2_with fail
      have hz0 : Below (wr.heap.size + 1) (wr.alloc (.cells #[.slice ka x kc, .slice va y vc] 29)) (wr.alloc (.cells #[.slice ka x kc, .slice va y vc] 29)).drew := (Below.refl _ _).drew
      have hy0 : Below wr.heap.size wr (wr.alloc (.cells #[.slice ka x kc, .slice va y vc] 29)).drew := ((Below.refl _ _).alloc (Nat.le_refl _) _).drew
      have hsz : (wr.alloc (.cells #[.slice ka x kc, .slice va y vc] 29)).heap.size = wr.heap.size + 1 := by simp
      have HSZ := Lib.hid hsz; clear hsz
      go_region_held3 (fun W => W.cell? ⟨wr.heap.size, 0, none⟩ = some (.slice ka x kc) ∧ W.cell? ⟨wr.heap.size, 1, none⟩ = some (.slice va y vc)) (first | exact ⟨(KEEP.out _ hz0).1, (KEEP.out _ hz0).2.1⟩ | exact ⟨(KEEP.out _ hzA).1, (KEEP.out _ hzA).2.1⟩ | exact ⟨(KEEP.out _ hzB).1, (KEEP.out _ hzB).2.1⟩ | exact KEEP2.out _ _ _ ⟨(KEEP.out _ hzB).1, (KEEP.out _ hzB).2.1⟩) (first
        | (go_at_call 92; (with_reducible refine (EK.out _ hy0).mono ?_); rintro e wA ⟨rfl, hrA, hA⟩; have hyA := below_then hy0 hA; have hzA := hz0.trans (hA.mono (Nat.le_of_eq HSZ.out.symm)))
        | (go_at_call 92; (with_reducible refine (EV.out _ hyA).mono ?_); rintro e wB ⟨rfl, hrB, hB⟩; have hyB := below_then hyA hB; have hzB := hzA.trans (hB.mono (Nat.le_trans (Nat.le_of_eq HSZ.out.symm) hzA.size)); obtain ⟨_, _, s1, s2, s3, s4⟩ := KEEP.out _ hzB))
      all_goals
        go_wp2_with fail
        go_roundw
        case rel =>
          obtain ⟨cur, hcur, hcs, hdone⟩ := hinv.out
          refine ⟨j + 1, by go_num, by omega, ?_, ?_⟩
          · have hbg : Below g w wB := by rw [HG.out]; exact below_then hbel.out hyB
            exact (hbg.setCell (p := ⟨g, j * 2, none⟩) (Nat.le_refl _) _).setCell (p := ⟨g, j * 2 + 1, none⟩) (Nat.le_refl _) _
          · have hgA := hyA.size
            have hrA' : wA.heap[wr.heap.size + 1]? = some (.cells (Lib.byteCells (L[j]).1).toArray 5 (0, 0)) := by rw [← HSZ.out]; exact hrA
            have h := own_step (g := w.heap.size) (q := wr.heap.size + 1) hlt (by omega) (by omega) hcur hcs hdone hyB hB hrA' hrB _ rfl
            rw [← HX.out, ← HY.out, ← HG.out] at h
            exact h
        case measure => simp [intOf]; omega
    · obtain rfl : j = L.length := by omega
      obtain ⟨cur, hcur, hcs, hdone⟩ := hinv.out
      have hnews : News w.heap.size wr w.heap.size L := ⟨Nat.le_refl _, cur, hcur, hcs, fun i hi => hdone i hi hi⟩
      have HNEW := Lib.hid hnews; clear hnews
      clear hcur hcs hdone
      go_wp2_with fail
      go_ret
      exact ⟨rfl, HNEW.out, hbel.out⟩
end Go.Proofs.YtmbdimonfdncpaaGreatDoor
