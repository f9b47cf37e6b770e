/-
  Contracts of inOrder and its comparison: the places of a list by rising keys, those of one key as they stand.
-/
import Derived.Test.YtajanacbifjmgaaDoorMade
import Derived.Test.YtajanacbifjmgaaDoorShelf
namespace Go.Proofs.YtajanacbifjmgaaDoor
open Go.RowKit Go.Shelf Go.Lib Go.Sort
set_option maxHeartbeats 400000
set_option maxRecDepth 100000
/-- the comparison of two places -/
def pcf (L : List Pr) (i j : Nat) : Int := if cmp (pat L i).1 (pat L j).1 = 0 then (i : Int) - j else cmp (pat L i).1 (pat L j).1
theorem places_any {W : World} {A : Option Addr} {L : List Pr} {bx c : Nat} (hx : W.cell? ⟨bx, 0, none⟩ = some (.slice A L.length c)) (ha : Pcs W A L) (i j : Nat) (hi : i < L.length) (hj : j < L.length) (hlen : L.length ≤ 1000) :
    Calls Tryd.prog 65 #[.int .i64 (i : Int), .int .i64 (j : Int), .pointer (some ⟨bx, 0, none⟩)] W fun e w' => e = .returned (.int .i64 (pcf L i j)) ∧ ∃ q, w' = W.drewN q := by
  obtain ⟨b, off, ka, kc, va, vc, rfl, hbl, h1, h2, h3, h4⟩ := ha.at hi
  obtain ⟨b', off', ka', kc', va', vc', e, _, k1, k2, k3, k4⟩ := ha.at hj
  obtain ⟨rfl, rfl⟩ : b = b' ∧ off = off' := by
    injection e with e
    injection e with e1 e2
    exact ⟨e1, e2⟩
  clear e
  obtain ⟨x, hx'⟩ : ∃ x : Nat, x = (L[i]).1.length := ⟨_, rfl⟩
  obtain ⟨y, hy'⟩ : ∃ x : Nat, x = (L[j]).1.length := ⟨_, rfl⟩
  obtain ⟨z, hz⟩ : ∃ z : Int, z = cmp (L[i]).1 (L[j]).1 := ⟨_, rfl⟩
  have hc : ∀ q, Calls Tryd.prog 55 #[.slice ka x kc, .slice ka' y kc'] (W.drewN q) fun e w' => e = .returned (.int .i64 z) ∧ w' = W.drewN q := by
    intro q
    have hb : Below W.heap.size W (W.drewN q) := below_drewN (Below.refl _ _) _
    have := compare_any (h3.below hb) (k3.below hb) kc kc'
    rw [← hx', ← hy', ← hz] at this
    exact this.mono fun e w' h => ⟨h.1, h.2.symm⟩
  rw [← hx'] at h1
  rw [← hy'] at k1
  have hp : pcf L i j = if z = 0 then (i : Int) - j else z := by
    unfold pcf
    rw [pat_at hi, pat_at hj, ← hz]
  have HC := Lib.hid hc; clear hc
  have HP := Lib.hid hp; clear hp
  clear ha h2 h3 h4 k2 k3 k4 hx' hy' hz
  by_cases hz0 : z = 0
  · subst hz0
    go_enter Tryd.func65, Tryd.ntmps65
    go_wp2_with fail
    go_quiet ((go_at_call 55; refine Calls.quiet_of_same (HC.out _)))
    go_wp2_with fail
    go_ret
    exact ⟨ret_int (by rw [HP.out]; rfl), _, rfl⟩
  · have d0 : (z != 0) = true := by simpa using hz0
    have HZ := Lib.hid hz0; clear hz0
    go_enter Tryd.func65, Tryd.ntmps65
    go_wp2_with fail
    go_quiet ((go_at_call 55; refine Calls.quiet_of_same (HC.out _)))
    go_wp2_with fail
    go_ret
    exact ⟨ret_int (by rw [HP.out, if_neg HZ.out]), _, rfl⟩
theorem plt_irrefl (key : Nat → List UInt8) (i : Nat) : ¬ plt key i i := by
  rintro (h | h)
  · rw [cmp_self] at h; omega
  · omega
theorem plt_trans {key : Nat → List UInt8} {i j k : Nat} (h : plt key i j) (g : plt key j k) : plt key i k := by
  rcases h with h | ⟨h1, h2⟩
  · rcases g with g | ⟨g1, _⟩
    · exact .inl (cmp_lt_trans h g)
    · exact .inl (by rw [← g1]; exact h)
  · rcases g with g | ⟨g1, g2⟩
    · exact .inl (by rw [h1]; exact g)
    · exact .inr ⟨h1.trans g1, by omega⟩
theorem plt_total (key : Nat → List UInt8) (i j : Nat) : plt key i j ∨ i = j ∨ plt key j i := by
  by_cases h : cmp (key i) (key j) < 0
  · exact .inl (.inl h)
  · by_cases e : key i = key j
    · rcases Nat.lt_trichotomy i j with g | g | g
      · exact .inl (.inr ⟨e, g⟩)
      · exact .inr (.inl g)
      · exact .inr (.inr (.inr ⟨e.symm, g⟩))
    · exact .inr (.inr (.inl (cmp_or h e)))
theorem pcf_lt (L : List Pr) (i j : Nat) : pcf L i j < 0 ↔ plt (fun i => (pat L i).1) i j := by
  unfold pcf plt
  by_cases h : cmp (pat L i).1 (pat L j).1 = 0
  · rw [if_pos h, h]
    have := cmp_zero _ _ h
    constructor
    · intro g; exact .inr ⟨this, by omega⟩
    · rintro (g | g)
      · omega
      · omega
  · rw [if_neg h]
    constructor
    · exact .inl
    · rintro (g | g)
      · exact g
      · exact absurd (cmp_iff.2 g.1) h
/-- the comparison, at places that are there -/
def cfn (L : List Pr) (n : Nat) (i j : Fin n) : Int := pcf L i.1 j.1
theorem lt_iff (L : List Pr) (n : Nat) (i j : Fin n) : ltOf (cfn L n) i j = true ↔ plt (fun i => (pat L i).1) i.1 j.1 := by
  unfold ltOf cfn
  rw [decide_eq_true_eq, pcf_lt]
theorem lt_not (L : List Pr) (n : Nat) (i j : Fin n) : ltOf (cfn L n) i j = false ↔ ¬ plt (fun i => (pat L i).1) i.1 j.1 := by
  rw [← lt_iff, Bool.not_eq_true]
theorem swo (L : List Pr) (n : Nat) : SWO (ltOf (cfn L n)) where
  irrefl x := (lt_not L n x x).2 (plt_irrefl _ _)
  trans x y z h1 h2 := (lt_iff L n x z).2 (plt_trans ((lt_iff L n x y).1 h1) ((lt_iff L n y z).1 h2))
  ntrans x y z h1 h2 := by
    rw [lt_not] at *
    intro h
    rcases plt_total (fun i => (pat L i).1) x.1 y.1 with g | g | g
    · exact h1 g
    · rw [g] at h; exact h2 h
    · exact h2 (plt_trans g h)
theorem tot (L : List Pr) (n : Nat) (x y : Fin n) (h1 : ltOf (cfn L n) x y = false) (h2 : ltOf (cfn L n) y x = false) : x = y := by
  rw [lt_not] at *
  rcases plt_total (fun i => (pat L i).1) x.1 y.1 with g | g | g
  · exact absurd g h1
  · exact Fin.ext g
  · exact absurd g h2
/-- the places in order -/
def sorted (L : List Pr) (n : Nat) : List (Fin n) := (List.finRange n).mergeSort fun x y => !(ltOf (cfn L n)) y x
theorem sorted_perm (L : List Pr) (n : Nat) : (sorted L n).Perm (List.finRange n) := List.mergeSort_perm _ _
theorem sorted_length (L : List Pr) (n : Nat) : (sorted L n).length = n := by rw [(sorted_perm L n).length_eq, List.length_finRange]
theorem sorted_plt (L : List Pr) (n : Nat) : ((sorted L n).map (·.1)).Pairwise (plt fun i => (pat L i).1) := by
  have h1 : (sorted L n).Pairwise fun a b => (!(ltOf (cfn L n)) b a) = true := by
    refine List.pairwise_mergeSort (fun a b c h g => ?_) (fun a b => ?_) _
    · rw [Bool.not_eq_true', lt_not] at *
      exact (lt_not L n c a).1 ((swo L n).ntrans c b a ((lt_not L n c b).2 g) ((lt_not L n b a).2 h))
    · rw [Bool.or_eq_true, Bool.not_eq_true', Bool.not_eq_true', lt_not, lt_not]
      by_cases h : plt (fun i => (pat L i).1) b.1 a.1
      · exact .inr fun g => plt_irrefl _ _ (plt_trans h g)
      · exact .inl h
  have h2 : (sorted L n).Nodup := (sorted_perm L n).nodup_iff.2 (List.nodup_finRange n)
  rw [List.pairwise_map]
  rw [List.pairwise_iff_getElem] at *
  intro i j hi hj hij
  have g1 := h1 i j hi hj hij
  have g2 : (sorted L n)[i] ≠ (sorted L n)[j] := fun e => List.pairwise_iff_getElem.1 h2 i j hi hj hij e
  rw [Bool.not_eq_true', lt_not] at g1
  rcases plt_total (fun i => (pat L i).1) ((sorted L n)[i]).1 ((sorted L n)[j]).1 with g | g | g
  · exact g
  · exact absurd (Fin.ext g) g2
  · exact absurd g g1
theorem sorted_mem (L : List Pr) (n i : Nat) : i ∈ (sorted L n).map (·.1) ↔ i < n := by
  rw [List.mem_map]
  constructor
  · rintro ⟨x, _, rfl⟩
    exact x.2
  · intro h
    exact ⟨⟨i, h⟩, (sorted_perm L n).mem_iff.2 (List.mem_finRange _), rfl⟩
theorem below_sort {α : Type} [Inhabited α] (enc : α → Value) {B g m : Nat} (w : World) (d : Array α) (os : Array Obj) (hB : B ≤ g) (hg : g < w.heap.size) : Below B w (sortWorld enc w g 0 m d os) := by
  refine ⟨rfl, rfl, rfl, by unfold sortWorld; simp, fun k hk => ?_⟩
  unfold sortWorld
  rw [heap_grow_old _ _ (by simp; omega)]
  unfold putRow mapBlock
  show (w.heap.modify g _)[k]? = _
  rw [Array.getElem?_modify, if_neg (by omega)]
def encP (n : Nat) (i : Fin n) : Value := .int .i64 ((i.1 : Nat) : Int)
theorem Tryd.info3 : (Tryd.prog.info? 3).map (fun i => (i.zero, i.size, i.bytes)) = some (some (.int .i64 0), 1, 8) := by kernel_rfl
theorem run_make_ints (w : World) (n : Nat) (hn : n ≤ 100000) : ∃ C : Array Value, C.size = n ∧ (Instr.makeSlice 31 (.int .i64 (n : Int)) (.int .i64 (n : Int))).run Tryd.prog w = .ok (.slice (some ⟨w.heap.size, 0, none⟩) n n) (w.alloc (.cells C 3)) := by
  obtain ⟨i0, hi, hz0, hz1, hz2⟩ := info_parts Tryd.info3
  have h := run_make (P := Tryd.prog) w 31 3 i0 _ Tryd.underlying31 hi hz0 .i64 .i64 (n : Int) (n : Int) (by omega) (by omega) (by rw [hz2]; omega) (by omega)
  rw [hz1] at h
  simp only [Int.toNat_natCast, Nat.mul_one] at h
  exact ⟨_, by simp [madeCells], h⟩
/-- the places 0 .. n-1 at block g -/
def Counted (w : World) (g n j : Nat) : Prop := ∃ cur, w.heap[g]? = some (.cells cur 3 (0, 0)) ∧ cur.size = n ∧ ∀ i, i < j → cur[i]? = some (.int .i64 (i : Int))
theorem counted_step {w : World} {g n j : Nat} (h : Counted w g n j) (hj : j < n) : Counted (w.setCell ⟨g, j, none⟩ (.int .i64 (j : Int))) g n (j + 1) := by
  obtain ⟨cur, h1, h2, h3⟩ := h
  refine ⟨_, heap_setCell_same w g j cur 3 _ h1, by simpa using h2, fun i hi => ?_⟩
  rcases Nat.lt_or_ge i j with g1 | g1
  · rw [Array.getElem?_setIfInBounds_ne (by omega)]; exact h3 i g1
  · obtain rfl : i = j := by omega
    rw [Array.getElem?_setIfInBounds_self_of_lt (by omega)]
theorem counted_holds {w : World} {g n : Nat} (h : Counted w g (n + 1) (n + 1)) : Holds (encP (n + 1)) w g 0 (List.finRange (n + 1)).toArray := by
  obtain ⟨cur, h1, h2, h3⟩ := h
  intro j hj
  have hj2 : j < n + 1 := by simpa using hj
  constructor
  · rw [Nat.zero_add, cell_of_row w g j cur 3 (0, 0) h1, h3 j hj2, getElem!_pos _ j hj]
    simp [encP]
  · simp [World.frozen?, h1]
/-- inOrder: the sort, at one place or more -/
theorem sort_any {w : World} {A : Option Addr} {L : List Pr} {bx c g n : Nat} (hx : w.cell? ⟨bx, 0, none⟩ = some (.slice A L.length c)) (hbx : bx < g) (ha : ∀ W, Below g w W → Pcs W A L) (hn : L.length = n + 1) (hlen : L.length ≤ 1000) (hc : Counted w g (n + 1) (n + 1)) :
    Calls Tryd.prog 64 #[.slice (some ⟨g, 0, none⟩) (n + 1) (n + 1), .func (.func 65) #[] #[.pointer (some ⟨bx, 0, none⟩)]] w fun e w' => e = .returned (.tuple #[]) ∧ Below g w w' ∧
      ∃ ps : List Nat, ps.length = L.length ∧ ps.Pairwise (plt fun i => (pat L i).1) ∧ (∀ i, i ∈ ps ↔ i < L.length) ∧ g < w'.heap.size ∧ ∀ j (h : j < ps.length), w'.cell? ⟨g, j, none⟩ = some (.int .i64 ((ps[j] : Nat) : Int)) := by
  have hgl : g < w.heap.size := by
    obtain ⟨cur, h1, _⟩ := hc
    exact (Array.getElem?_eq_some_iff.1 h1).1
  have hH := counted_holds hc
  have hds : (List.finRange (n + 1)).toArray.size = n + 1 := by simp
  have eg : ∀ args w, (callFunc 65 args).run Tryd.prog w = .ok (.enter 65 args) w := enters_of Tryd.func65 (by kernel_rfl) rfl
  have hcmp : CmpReads Tryd.prog 65 #[.pointer (some ⟨bx, 0, none⟩)] (encP (n + 1)) (cfn L (n + 1)) g 0 (List.finRange (n + 1)).toArray.size w := by
    intro m os dk hdk x y
    have hb := below_sort (encP (n + 1)) (B := g) (m := m) w dk os (Nat.le_refl _) hgl
    have h := places_any ((hb.cell (p := ⟨bx, 0, none⟩) hbx).trans hx) (ha _ hb) x.1 y.1 (by have := x.2; omega) (by have := y.2; omega) hlen
    exact h
  have h := Any.slices_SortFunc_total Tryd.sortL (encP (n + 1)) (fun _ => rfl) (cfn L (n + 1)) (swo L (n + 1)) 65 #[.pointer (some ⟨bx, 0, none⟩)] g 0 (n + 1) (List.finRange (n + 1)).toArray w eg hcmp.lays hH hgl (by simp; omega) (tot L (n + 1))
  rw [hds] at h
  refine h.mono ?_
  rintro e w' ⟨he, m, os, hw⟩
  have hsz : (sorted L (n + 1)).toArray.size = (List.finRange (n + 1)).toArray.size := by rw [List.size_toArray, sorted_length, hds]
  have hS : Holds (encP (n + 1)) w' g 0 (sorted L (n + 1)).toArray := by
    rw [hw]
    exact holds_grow _ _ _ _ _ _ (by simp; exact hgl) (holds_putRow _ _ _ _ _ _ (holds_ahead _ _ _ _ _ _ hH) hsz)
  refine ⟨he, ?_, (sorted L (n + 1)).map (·.1), by rw [List.length_map, sorted_length, hn], sorted_plt L (n + 1), fun i => by rw [sorted_mem, hn], ?_, fun j hj => ?_⟩
  · rw [hw]; exact below_sort _ _ _ _ (Nat.le_refl _) hgl
  · rw [hw]; unfold sortWorld; simp; omega
  · rw [List.length_map] at hj
    have h2 := (hS j (by simpa using hj)).1
    rw [Nat.zero_add, getElem!_pos _ j (by simpa using hj)] at h2
    rw [h2]
    simp [encP]
theorem inOrder_any {w : World} {A : Option Addr} {L : List Pr} (ha : Pcs w A L) (c : Nat) (hlen : L.length ≤ 1000) :
    Calls Tryd.prog 54 #[.slice A L.length c] w fun e w' => ∃ g, e = .returned (.slice (some ⟨g, 0, none⟩) L.length L.length) ∧ Below w.heap.size w w' ∧ w.heap.size ≤ g ∧
      ∃ ps : List Nat, ps.length = L.length ∧ ps.Pairwise (plt fun i => (pat L i).1) ∧ (∀ i, i ∈ ps ↔ i < L.length) ∧ g < w'.heap.size ∧ ∀ j (h : j < ps.length), w'.cell? ⟨g, j, none⟩ = some (.int .i64 ((ps[j] : Nat) : Int)) := by
  obtain ⟨w1, hw1⟩ : ∃ w1, w1 = w.alloc (.cells #[.slice A L.length c] 73) := ⟨_, rfl⟩
  have hs1 : w1.heap.size = w.heap.size + 1 := by rw [hw1]; simp
  have hb1 : Below w.heap.size w w1 := by rw [hw1]; exact (Below.refl _ _).alloc (Nat.le_refl _) _
  have hx1 : w1.cell? ⟨w.heap.size, 0, none⟩ = some (.slice A L.length c) := by
    rw [hw1, cell_of_row _ w.heap.size 0 _ 73 (0, 0) (heap_alloc_new w _)]
    rfl
  obtain ⟨C, hC, hmk⟩ := run_make_ints w1 L.length (by omega)
  obtain ⟨w2, hw2⟩ : ∃ w2, w2 = w1.alloc (.cells C 3) := ⟨_, rfl⟩
  have hb2 : Below w1.heap.size w1 w2 := by rw [hw2]; exact (Below.refl _ _).alloc (Nat.le_refl _) _
  have hc2 : Counted w2 w1.heap.size L.length 0 := ⟨C, by rw [hw2]; exact heap_alloc_new w1 _, hC, fun i h => by omega⟩
  rw [← hw2] at hmk
  obtain ⟨g, hg⟩ : ∃ g, g = w1.heap.size := ⟨_, rfl⟩
  rw [← hg] at hmk hb2 hc2
  have hgw : w.heap.size < g := by omega
  have HPC : Hid (∀ W, Below g w1 W → Pcs W A L) := fun W hW => (ha.below hb1).below (by rw [← hg]; exact hW)
  have HX : Hid (∀ W, Below g w1 W → W.cell? ⟨w.heap.size, 0, none⟩ = some (.slice A L.length c)) := fun W hW => (hW.cell (p := ⟨w.heap.size, 0, none⟩) hgw).trans hx1
  have HB1 := Lib.hid hb1; clear hb1
  have HB2 := Lib.hid hb2; clear hb2
  have HC2 := Lib.hid hc2; clear hc2
  have HG := Lib.hid hg; clear hg
  clear ha hC hs1 hw2
  subst hw1
  go_enter Tryd.func54, Tryd.ntmps54
  go_wp2
  go_loopw [10] (fun u wr => ∃ j : Nat, u = .int .i64 j ∧ j ≤ L.length ∧ Hid (Below g (w.alloc (Obj.cells #[Value.slice A L.length c] 73)) wr) ∧ Hid (Counted wr g L.length j)) (fun u _ => L.length - (intOf u).toNat)
  case atStart => exact ⟨0, rfl, by omega, HB2.out, HC2.out⟩
  case round =>
    obtain ⟨j, rfl, hj, hbel, hcnt⟩ := hrel
    by_cases hlt : j < L.length
    · obtain ⟨cur, hcur, hcs, _⟩ := hcnt.out
      have hc1 : wr.cell? ⟨g, j, none⟩ = some (cur[j]'(by omega)) := by rw [cell_of_row wr g j cur 3 (0, 0) hcur, Array.getElem?_eq_getElem]
      obtain ⟨u, hu⟩ : ∃ u, u = (cur[j]'(by omega)) := ⟨_, rfl⟩
      rw [← hu] at hc1
      have hf1 : wr.frozen? ⟨g, j, none⟩ = false := by simp [World.frozen?, hcur]
      clear hcur hcs hu
      go_wp2
      go_roundw
      case rel => exact ⟨j + 1, by go_num, by omega, hbel.out.setCell (p := ⟨g, j, none⟩) (Nat.le_refl _) _, counted_step hcnt.out hlt⟩
      case measure => simp [intOf]; omega
    · obtain rfl : j = L.length := by omega
      have hbw : ∀ W, Below g (w.alloc (Obj.cells #[Value.slice A L.length c] 73)) W → Below w.heap.size w W := fun W hW => HB1.out.trans (hW.mono (Nat.le_of_lt hgw))
      rcases Nat.eq_zero_or_pos L.length with h0 | h0
      · have hS : Calls Tryd.prog 64 #[.slice (some ⟨g, 0, none⟩) L.length L.length, .func (.func 65) #[] #[.pointer (some ⟨w.heap.size, 0, none⟩)]] wr fun e w' => e = .returned (.tuple #[]) ∧ w' = wr := by
          rw [h0]
          exact AnyF.slices_SortFunc_none (P := Tryd.prog) (ρ := Tryd.sortL_ren) { Tryd.sortL with } (some ⟨g, 0, none⟩) 0 (.func (.func 65) #[] #[.pointer (some ⟨w.heap.size, 0, none⟩)]) wr
        have HS := Lib.hid hS; clear hS
        have HBW := Lib.hid hbw; clear hbw
        have H0 := Lib.hid h0; clear h0
        go_wp2_with fail
        refine HS.out.mono ?_
        rintro e w' ⟨rfl, rfl⟩
        go_wp2_with fail
        go_ret
        obtain ⟨cur, hcur, _⟩ := hcnt.out
        exact ⟨g, rfl, HBW.out _ hbel.out, Nat.le_of_lt hgw, [], by rw [H0.out]; rfl, List.Pairwise.nil, fun i => by rw [H0.out]; simp, (Array.getElem?_eq_some_iff.1 hcur).1, fun j h => by simp at h⟩
      · obtain ⟨n, hn⟩ : ∃ n, L.length = n + 1 := ⟨L.length - 1, by omega⟩
        have hS := sort_any (w := wr) (bx := w.heap.size) (g := g) (n := n) (HX.out _ hbel.out) hgw (fun W hW => HPC.out W (hbel.out.trans hW)) hn hlen (by rw [← hn]; exact hcnt.out)
        rw [← hn] at hS
        have HS := Lib.hid hS; clear hS
        have HBW := Lib.hid hbw; clear hbw
        clear hcnt hn
        go_wp2_with fail
        refine HS.out.mono ?_
        rintro e w' ⟨rfl, hb, hps⟩
        have HB := Lib.hid hb; clear hb
        have HPS := Lib.hid hps; clear hps
        go_wp2_with fail
        go_ret
        exact ⟨g, rfl, HBW.out _ (hbel.out.trans HB.out), Nat.le_of_lt hgw, HPS.out⟩
end Go.Proofs.YtajanacbifjmgaaDoor
