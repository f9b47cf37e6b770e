/-
  Contract of the reference's Lay at entries that have all one hash.
-/
import Derived.Test.YtmbdimonfdncpaaGreatDoorOf
import Derived.Test.YtmbdimonfdncpaaGreatDoorThree
import Derived.BigQuiet
import Derived.Test.YtmbdimonfdncpaaGreatDoorNods
import Derived.Test.YtmbdimonfdncpaaGreatDoorBuilts
import Derived.Test.YtmbdimonfdncpaaGreatDoorRange
import Derived.Test.YtmbdimonfdncpaaGreatDoorFour
import Derived.Test.YtmbdimonfdncpaaGreatDoorRefE
namespace Go.Proofs.YtmbdimonfdncpaaGreatDoor
open Go.RowKit Go.ChangeShapes
set_option maxHeartbeats 4000000
set_option maxRecDepth 100000
theorem set5_other {W : World} {g : Nat} (i : Nat) (h : i ≠ g) (v0 v1 v2 v3 v4 : Value) : (set5 W g v0 v1 v2 v3 v4).heap[i]? = W.heap[i]? := by
  unfold set5
  rw [Below.heap_setCell _ ⟨g, 4, none⟩ v4 i h, Below.heap_setCell _ ⟨g, 3, none⟩ v3 i h, Below.heap_setCell _ ⟨g, 2, none⟩ v2 i h, Below.heap_setCell _ ⟨g, 1, none⟩ v1 i h, Below.heap_setCell _ ⟨g, 0, none⟩ v0 i h]
theorem layR_nil (w : World) (A : Option Addr) (c lv : Nat) :
    Calls Tryz.prog 12 #[.slice A 0 c, .int .i64 (lv : Int)] w fun e w' => ∃ r, e = .returned (RN.agg r .none) ∧ Mde (fun b => w.heap.size ≤ b) w' .none r ∧ Below w.heap.size w w' := by
  obtain ⟨w1, hw1⟩ : ∃ w1, w1 = w.alloc (.cells #[.int .i64 0, .int .u64 0, .slice none 0 0, .slice none 0 0, .slice none 0 0] 44) := ⟨_, rfl⟩
  have b1 : Below w.heap.size w w1 := by rw [hw1]; exact (Below.refl _ _).alloc (Nat.le_refl _) _
  have r1 : w1.heap[w.heap.size]? = some (.cells #[.int .i64 0, .int .u64 0, .slice none 0 0, .slice none 0 0, .slice none 0 0] 44 (0, 0)) := by rw [hw1]; exact heap_alloc_new w _
  obtain ⟨⟨d0, d1, d2, d3, d4⟩, f0, f1, f2, f3, f4⟩ := row5f r1
  have HS := Lib.hid (And.intro (set5_row r1 (.int .i64 0) (.int .u64 0) (.slice none 0 0) (.slice none 0 0) (.slice none 0 0)) (b1.trans (set5_below (B := w.heap.size) (Nat.le_refl _) (.int .i64 0) (.int .u64 0) (.slice none 0 0) (.slice none 0 0) (.slice none 0 0))))
  have HW := Lib.hid hw1; clear hw1
  clear b1 r1
  have HD := Lib.hid (And.intro d0 (And.intro d1 (And.intro d2 (And.intro d3 (And.intro d4 (And.intro f0 (And.intro f1 (And.intro f2 (And.intro f3 f4)))))))))
  clear d0 d1 d2 d3 d4 f0 f1 f2 f3 f4
  go_enter Tryz.func12, Tryz.ntmps12
  go_upto_region 2 with fail
  rw [← HW.out]
  obtain ⟨d0, d1, d2, d3, d4, f0, f1, f2, f3, f4⟩ := HD.out
  go_wp2_with fail
  refine bodyPost_ret (results_cell_row rfl _ _ w.heap.size 44 _ (0, 0) _ rfl HS.out.1 Tryz.underlying44 rfl (by kernel_rfl)) rfl ?_
  exact ⟨⟨none, 0, none, 0, none, 0⟩, rfl, trivial, HS.out.2⟩
theorem layR_alike {w : World} {A : Option Addr} {L : List En} (c lv : Nat) (h : Res w A L) (hG : Good lv L) (ha : alike L = true) (h0 : 0 < L.length) :
    Calls Tryz.prog 12 #[.slice A L.length c, .int .i64 (lv : Int)] w fun e w' => ∃ r, e = .returned (RN.agg r (flatL L)) ∧ Mde (fun b => w.heap.size ≤ b) w' (flatL L) r ∧ Below w.heap.size w w' := by
  obtain ⟨q, hq⟩ : ∃ q, q = (ehd L).1 := ⟨_, rfl⟩
  have hall : ∀ e ∈ L, e.1 = q := fun e he => by rw [hq]; exact (alike_iff L).1 ha e he _ (ehd_mem (List.ne_nil_of_length_pos h0))
  have hfit : ∀ e ∈ L, e.2.1.length ≤ 1000 := fun e he => (hG.fits e he).2.1
  have hlen : L.length ≤ 100 := hG.len
  obtain ⟨LL, hLL⟩ : ∃ n, n = L.length := ⟨_, rfl⟩
  obtain ⟨C, hC⟩ : ∃ C : Nat → List Pr, C = fun j => come ((eprs L).take j) := ⟨_, rfl⟩
  have hCl : ∀ j, j ≤ LL → (C j).length ≤ 900 := fun j hj => by
    have h1 := come_new (eprs L) (by rw [eprs_keys]; exact hG.apart) j (by simp [eprs]; omega)
    rw [hC]
    show (come ((eprs L).take j)).length ≤ 900
    omega
  have hCm : ∀ j, ∀ p ∈ C j, p.1.length ≤ 1000 := fun j p hp => by
    rw [hC] at hp
    obtain ⟨e, he, rfl⟩ := List.mem_map.1 (List.mem_of_mem_take (come_sub _ _ hp))
    exact hfit e he
  have hCs : ∀ j, (hj : j < L.length) → C (j + 1) = put (C j) (L[j]).2 := fun j hj => by
    rw [hC]
    show come ((eprs L).take (j + 1)) = put (come ((eprs L).take j)) _
    rw [come_step (by simpa [eprs] using hj)]
    simp [eprs]
  have hflat : ∀ (pa : Option Addr) (pc : Nat), flatL L = if LL = 1 then .leaf q (ehd L).2 else .buck q (C LL) := fun _ _ => by
    unfold flatL
    rw [if_neg (by omega), ← hq, hC, hLL]
    by_cases h1 : L.length = 1
    · rw [if_pos h1, if_pos h1]
    · rw [if_neg h1, if_neg h1]
      show Nd.buck q (come (eprs L)) = Nd.buck q (come ((eprs L).take L.length))
      rw [List.take_of_length_le (by simp [eprs])]
  have hC1 : LL = 1 → C LL = [(ehd L).2] := fun h1 => by
    rw [hC, h1]
    obtain ⟨e, he⟩ := List.length_eq_one_iff.1 (hLL.symm.trans h1)
    rw [he]
    rfl
  have hCL : (C LL).length = LL := by
    have h1 := come_new (eprs L) (by rw [eprs_keys]; exact hG.apart) LL (by simp [eprs]; omega)
    rw [hC]
    exact h1
  rw [← hLL] at h0 hlen ⊢
  obtain ⟨w1, hw1⟩ : ∃ w1, w1 = w.alloc (.cells #[.int .i64 0, .int .u64 0, .slice none 0 0, .slice none 0 0, .slice none 0 0] 44) := ⟨_, rfl⟩
  have b1 : Below w.heap.size w w1 := by rw [hw1]; exact (Below.refl _ _).alloc (Nat.le_refl _) _
  have z1 : w1.heap.size = w.heap.size + 1 := by rw [hw1]; simp
  have r1 : w1.heap[w.heap.size]? = some (.cells #[.int .i64 0, .int .u64 0, .slice none 0 0, .slice none 0 0, .slice none 0 0] 44 (0, 0)) := by rw [hw1]; exact heap_alloc_new w _
  have HW := Lib.hid hw1; clear hw1
  have HB1 := Lib.hid (And.intro b1 (And.intro z1 r1))
  have HA := Lib.hid (h.below b1); clear h
  have HC := Lib.hid (And.intro hCl (And.intro hCm (And.intro hCs (And.intro hflat (And.intro hC1 hCL))))); clear hCl hCm hCs hflat hC1 hCL
  have HE := Lib.hid (And.intro hall (And.intro hfit hLL)); clear hall hfit hLL
  have HC0 : Hid (C 0 = []) := by rw [hC]; rfl
  have hne0 : ((LL : Int) == 0) = false := by simp; omega
  clear hq hC hG ha b1 z1 r1
  go_enter Tryz.func12, Tryz.ntmps12
  go_upto_region 5 with fail
  rw [← HW.out]
  go_wp2_with fail
  go_loopw [5, 6, 21] (fun s5 s6 u wr => ∃ (j : Nat) (A' : Option Addr) (n' c' : Nat), u = .int .i64 j ∧ j ≤ LL ∧ s5 = .bool true ∧ s6 = .slice A' n' c' ∧ Hid (n' = (C j).length ∧ Rcs wr A' (C j) ∧ NewIn w1.heap.size wr A') ∧ Hid (Below w1.heap.size w1 wr)) (fun _ _ u _ => LL - (intOf u).toNat)
  case atStart => exact ⟨0, none, 0, 0, rfl, by omega, rfl, rfl, ⟨by rw [HC0.out]; rfl, .inl HC0.out, fun a e => by cases e⟩, Below.refl _ _⟩
  case round =>
    obtain ⟨j, A', n', c', rfl, hj, rfl, rfl, hm, hbel⟩ := hrel
    obtain ⟨b, rfl, hb, y0, _, _⟩ := (HA.out.below hbel.out).at (by rw [← HE.out.2.2]; exact h0 : 0 < L.length)
    have e0 : (L[0]'(by rw [← HE.out.2.2]; exact h0)).1 = q := HE.out.1 _ (List.getElem_mem _)
    rw [e0, Nat.zero_mul] at y0
    by_cases hlt : j < LL
    · have hj' : j < L.length := by rw [← HE.out.2.2]; exact hlt
      obtain ⟨b', hbb, _, x0, x1, x2⟩ := (HA.out.below hbel.out).at hj'
      injection hbb with hbb
      injection hbb with hbb
      subst hbb
      have e1 := HE.out.1 _ (List.getElem_mem hj')
      rw [e1] at x0
      have hp1 := HE.out.2.1 _ (List.getElem_mem hj')
      have hput := fun W (hW : Below wr.heap.size wr W) => refPut_any (L[j]).2 (hm.out.2.1.below hW) c' (HC.out.1 j hj) hp1 (HC.out.2.1 j)
      rw [← HC.out.2.2.1 j hj', ← hm.out.1] at hput
      obtain ⟨s, hs⟩ : ∃ s : ByteArray, s = ⟨(L[j]).2.1.toArray⟩ := ⟨_, rfl⟩
      obtain ⟨t, ht⟩ : ∃ s : ByteArray, s = ⟨(L[j]).2.2.toArray⟩ := ⟨_, rfl⟩
      rw [← hs] at x1
      rw [← ht] at x2
      simp only [← hs, ← ht] at hput
      have bz := (Below.refl wr.heap.size wr).alloc (Nat.le_refl _) (.cells #[.int .u64 (q : Int), .string s, .string t] 72)
      have k0 := (bz.cell (p := ⟨b, 0, none⟩) hb).trans y0
      have HP := Lib.hid hput; clear hput
      have HZ := Lib.hid bz; clear bz
      clear hs ht e0 e1 hp1 hm
      go_wp2_with fail
      go_quiet (fail)
      go_wp2_with fail
      refine (HP.out _ (below_drewN HZ.out _)).mono ?_
      rintro e w2 ⟨A2, c2, rfl, hr2, hn2, hb2⟩
      have hbz := below_then (below_drewN HZ.out _) hb2
      have H2 := Lib.hid (And.intro hr2 (And.intro (hn2.less (Nat.le_trans hbel.out.size (below_drewN HZ.out _).size)) (hbel.out.trans (hbz.mono hbel.out.size)))); clear hr2 hn2 hb2 hbz
      go_wp2_with fail
      go_roundw
      case rel =>
        exact ⟨j + 1, A2, _, c2, by go_num, by omega, rfl, rfl, ⟨rfl, H2.out.1, H2.out.2.1⟩, H2.out.2.2⟩
      case measure => simp [intOf]; omega
    · obtain rfl : j = LL := by omega
      have r2 := (hbel.out.block w.heap.size (by have := HB1.out.2.1; omega)).trans HB1.out.2.2
      obtain ⟨⟨d0, d1, d2, d3, d4⟩, f0, f1, f2, f3, f4⟩ := row5f r2
      have hnl : n' = j := hm.out.1.trans HC.out.2.2.2.2.2
      subst hnl
      have bw : Below w.heap.size w wr := below_then HB1.out.1 hbel.out
      have HS : Hid (∀ k : Int, (set5 wr w.heap.size (.int .i64 k) (.int .u64 (q : Int)) (.slice A' n' c') (.slice none 0 0) (.slice none 0 0)).heap[w.heap.size]? = some (.cells #[.int .i64 k, .int .u64 (q : Int), .slice A' n' c', .slice none 0 0, .slice none 0 0] 44 (0, 0)) ∧
          Below w.heap.size w (set5 wr w.heap.size (.int .i64 k) (.int .u64 (q : Int)) (.slice A' n' c') (.slice none 0 0) (.slice none 0 0)) ∧ Rcs (set5 wr w.heap.size (.int .i64 k) (.int .u64 (q : Int)) (.slice A' n' c') (.slice none 0 0) (.slice none 0 0)) A' (C n') ∧
          Inb (fun b => w.heap.size ≤ b) (set5 wr w.heap.size (.int .i64 k) (.int .u64 (q : Int)) (.slice A' n' c') (.slice none 0 0) (.slice none 0 0)) A') := fun k => by
        have hz := HB1.out.2.1
        have hs5 := (set5_below (W := wr) (B := w.heap.size) (Nat.le_refl w.heap.size) (.int .i64 k) (.int .u64 (q : Int)) (.slice A' n' c') (.slice none 0 0) (.slice none 0 0))
        refine ⟨set5_row r2 _ _ _ _ _, bw.trans hs5, hm.out.2.1.kept (F := fun b => b ≠ w.heap.size) (fun a e => ⟨?_, (hm.out.2.2 a e).2⟩) (fun b hb _ => set5_other b hb _ _ _ _ _), fun a e => ⟨?_, Nat.lt_of_lt_of_le (hm.out.2.2 a e).2 hs5.size⟩⟩
        · have := (hm.out.2.2 a e).1
          show a.block ≠ w.heap.size
          omega
        · have := (hm.out.2.2 a e).1
          show w.heap.size ≤ a.block
          omega
      clear r2 hbel hm bw
      by_cases h1 : n' = 1
      · have hfl := HC.out.2.2.2.1 A' c'
        rw [if_pos h1] at hfl
        have hc1 := HC.out.2.2.2.2.1 h1
        have HFL := Lib.hid (And.intro hfl hc1); clear hfl hc1
        subst h1
        go_wp2_with fail
        refine bodyPost_ret (results_cell_row rfl _ _ w.heap.size 44 _ (0, 0) _ rfl (HS.out 1).1 Tryz.underlying44 rfl (by kernel_rfl)) rfl ?_
        rw [HFL.out.1]
        exact ⟨⟨A', c', none, 0, none, 0⟩, rfl, ⟨by rw [← HFL.out.2]; exact (HS.out 1).2.2.1, (HS.out 1).2.2.2⟩, (HS.out 1).2.1⟩
      · have hfl := HC.out.2.2.2.1 A' c'
        rw [if_neg h1] at hfl
        have HFL := Lib.hid hfl; clear hfl
        have h1' : ((n' : Int) == 1) = false := by simp; omega
        go_wp2_with fail
        refine bodyPost_ret (results_cell_row rfl _ _ w.heap.size 44 _ (0, 0) _ rfl (HS.out 2).1 Tryz.underlying44 rfl (by kernel_rfl)) rfl ?_
        rw [HFL.out]
        refine ⟨⟨A', c', none, 0, none, 0⟩, ?_, ⟨(HS.out 2).2.2.1, (HS.out 2).2.2.2⟩, (HS.out 2).2.1⟩
        show _ = Ending.returned (.agg #[.int .i64 2, .int .u64 (q : Int), .slice A' (C n').length c', .slice none 0 0, .slice none 0 0])
        rw [HC.out.2.2.2.2.2]
end Go.Proofs.YtmbdimonfdncpaaGreatDoor
/-
  The document's branch in the making: its numbers and its children as they are appended.
-/
namespace Go.Proofs.YtmbdimonfdncpaaGreatDoor
open Go.RowKit Go.ChangeShapes
set_option maxHeartbeats 1000000
/-- the cells of several of the document's nodes -/
def flat : List (Nd × RN) → List Value
  | [] => []
  | (x, r) :: l => r.cells x ++ flat l
theorem flat_snoc (l : List (Nd × RN)) (x : Nd) (r : RN) : flat (l ++ [(x, r)]) = flat l ++ r.cells x := by
  induction l with
  | nil => simp [flat]
  | cons a l ih =>
    obtain ⟨y, s⟩ := a
    simp [flat, ih]
theorem flat_at : ∀ (l : List (Nd × RN)) (i : Nat) (h : i < l.length) (c : Nat), c < 5 → (flat l)[i * 5 + c]? = ((l[i]).2.cells (l[i]).1)[c]?
  | (x, r) :: l, 0, _, c, hc => by
    simp only [flat, Nat.zero_mul, Nat.zero_add, List.getElem_cons_zero]
    rw [List.getElem?_append_left (by simpa [RN.cells] using hc)]
  | (x, r) :: l, i + 1, h, c, hc => by
    have ih := flat_at l i (by simpa using h) c hc
    simp only [flat, List.getElem_cons_succ]
    rw [List.getElem?_append_right (by simp [RN.cells]; omega), ← ih]
    congr 1
    simp [RN.cells]; omega
theorem rcells_one (r : RN) (x : Nd) : ∀ u ∈ r.cells x, u.oneCell' = true := by
  intro u hu
  simp only [RN.cells, List.mem_cons, List.not_mem_nil, or_false] at hu
  rcases hu with rfl | rfl | rfl | rfl | rfl <;> rfl
/-- blocks that are none of the branch's own -/
def Gd (gx : Nat) (sv kv : Value) (b : Nat) : Prop := gx < b ∧ sv.ownBlock ≠ some b ∧ kv.ownBlock ≠ some b
theorem gd_move {gx : Nat} {W W' : World} {sv kv sv' kv' : Value} (hb : But (fun b => b = gx ∨ sv.ownBlock = some b ∨ kv.ownBlock = some b) W W') (hs : sv'.ownBlock = sv.ownBlock ∨ ∃ b, sv'.ownBlock = some b ∧ W.heap.size ≤ b) (hk : kv'.ownBlock = kv.ownBlock ∨ ∃ b, kv'.ownBlock = some b ∧ W.heap.size ≤ b)
    {x : Nd} {r : RN} (h : Mde (Gd gx sv kv) W x r) : Mde (Gd gx sv' kv') W' x r := by
  have h1 : Mde (fun b => Gd gx sv kv b ∧ b < W.heap.size) W x r := h.mono fun b hl hF => ⟨hF, hl⟩
  have h2 : Mde (fun b => Gd gx sv kv b ∧ b < W.heap.size) W' x r := h1.kept (hb.kept fun k hk e => by
    obtain ⟨⟨k1, k2, k3⟩, _⟩ := hk
    rcases e with e | e | e
    · omega
    · exact k2 e
    · exact k3 e) hb.size
  refine h2.mono fun b _ hF => ⟨hF.1.1, fun e => ?_, fun e => ?_⟩
  · rcases hs with e2 | ⟨c, e2, e3⟩
    · exact hF.1.2.1 (e2 ▸ e)
    · rw [e2] at e
      injection e with e
      have := hF.2
      omega
  · rcases hk with e2 | ⟨c, e2, e3⟩
    · exact hF.1.2.2 (e2 ▸ e)
    · rw [e2] at e
      injection e with e
      have := hF.2
      omega
structure Grw (gx : Nat) (wb W : World) (sv kv : Value) (zs : List Int) (ks : List Nd) (xs : List Value) : Prop where
  bel : Below gx wb W
  row : W.heap[gx]? = some (.cells #[.int .i64 3, .int .u64 0, .slice none 0 0, sv, kv] 44 (0, 0))
  ownS : W.ownsRow (gx + 1) 3 1 sv zs.length (Bt.icells zs)
  ownK : W.ownsRow (gx + 1) 44 5 kv ks.length xs
  docs : ∃ rs : List RN, rs.length = ks.length ∧ xs = flat (ks.zip rs) ∧ ∀ i (h1 : i < ks.length) (h2 : i < rs.length), Mde (Gd gx sv kv) W ks[i] rs[i]
theorem Grw.gx {gx : Nat} {wb W : World} {sv kv : Value} {zs : List Int} {ks : List Nd} {xs : List Value} (h : Grw gx wb W sv kv zs ks xs) : gx < W.heap.size := (Array.getElem?_eq_some_iff.1 h.row).1
theorem Grw.below {gx : Nat} {wb W W' : World} {sv kv : Value} {zs : List Int} {ks : List Nd} {xs : List Value} (h : Grw gx wb W sv kv zs ks xs) (hb : Below W.heap.size W W') : Grw gx wb W' sv kv zs ks xs := by
  obtain ⟨rs, h1, h2, h3⟩ := h.docs
  exact ⟨h.bel.trans (hb.mono (Nat.le_of_lt h.gx)), (hb.block gx h.gx).trans h.row, own_below h.ownS hb, own_below h.ownK hb, rs, h1, h2, fun i a b => (h3 i a b).below hb⟩
theorem set_cell3 {W : World} {gx : Nat} {a b c d e : Value} (h : W.heap[gx]? = some (.cells #[a, b, c, d, e] 44 (0, 0))) (v : Value) : (W.setCell ⟨gx, 3, none⟩ v).heap[gx]? = some (.cells #[a, b, c, v, e] 44 (0, 0)) := by
  rw [heap_setCell_same W gx 3 _ 44 v h]
  rfl
theorem set_cell4 {W : World} {gx : Nat} {a b c d e : Value} (h : W.heap[gx]? = some (.cells #[a, b, c, d, e] 44 (0, 0))) (v : Value) : (W.setCell ⟨gx, 4, none⟩ v).heap[gx]? = some (.cells #[a, b, c, d, v] 44 (0, 0)) := by
  rw [heap_setCell_same W gx 4 _ 44 v h]
  rfl
/-- a number more -/
theorem Grw.addS {gx : Nat} {wb W W3 : World} {sv kv sv' : Value} {zs : List Int} {ks : List Nd} {xs : List Value} (h : Grw gx wb W sv kv zs ks xs) (z : Int) (ho : W3.ownsRow (gx + 1) 3 1 sv' (zs.length + 1) (Bt.icells zs ++ [.int .i64 z])) (hg : W.grownBy W3 sv.ownBlock)
    (hob : sv'.ownBlock = sv.ownBlock ∨ ∃ b, sv'.ownBlock = some b ∧ W.heap.size ≤ b) :
    (W3.cell? ⟨gx, 3, none⟩ = some sv ∧ W3.frozen? ⟨gx, 3, none⟩ = false) ∧ Grw gx wb (W3.setCell ⟨gx, 3, none⟩ sv') sv' kv (zs ++ [z]) ks xs := by
  have hlo : ∀ b, sv.ownBlock = some b → gx + 1 ≤ b := fun b hb => (own_lt h.ownS hb).1
  have hb0 : W3.heap[gx]? = W.heap[gx]? := hg.block gx h.gx fun e => by have := hlo gx e.symm; omega
  have hr : W3.heap[gx]? = some (.cells #[.int .i64 3, .int .u64 0, .slice none 0 0, sv, kv] 44 (0, 0)) := hb0.trans h.row
  have k1 : But (fun k => sv.ownBlock = some k) W W3 := ⟨hg.os, hg.tape, hg.output, hg.size, fun i hi hx => hg.block i hi fun e => hx e.symm⟩
  have k2 : But (fun b => b = gx ∨ sv.ownBlock = some b ∨ kv.ownBlock = some b) W (W3.setCell ⟨gx, 3, none⟩ sv') := (k1.mono fun k e => .inr (.inl e)).trans ((But.set W3 gx 3 sv').mono fun k e => .inl e)
  have hset : ∀ b, b ≠ gx → (W3.setCell ⟨gx, 3, none⟩ sv').heap[b]? = W3.heap[b]? := fun b hb => Below.heap_setCell W3 ⟨gx, 3, none⟩ sv' b hb
  obtain ⟨rs, h1, h2, h3⟩ := h.docs
  refine ⟨⟨row_cell hr rfl, frozen_of_row _ _ _ _ _ hr⟩, ?_, set_cell3 hr sv', ?_, ?_, rs, h1, h2, fun i a b => gd_move k2 hob (.inl rfl) (h3 i a b)⟩
  · exact h.bel.trans (k2.below (Nat.le_of_lt h.gx) fun k hk => by
      rcases hk with rfl | hk | hk
      · exact Nat.le_refl _
      · have := hlo k hk; omega
      · have := (own_lt h.ownK hk).1; omega)
  · rw [List.length_append, List.length_singleton, Bt.icells_snoc]
    exact own_kept ho fun g hgg => hset g fun e => by have := (own_lt ho hgg).1; omega
  · refine own_kept h.ownK fun g hgg => (hset g fun e => by have := (own_lt h.ownK hgg).1; omega).trans (hg.block g (own_lt h.ownK hgg).2.1 fun e => ?_)
    exact own_ne h.ownK h.ownS (by decide) g hgg e.symm
/-- a child more: W1 is the world behind its making, W3 behind the append -/
theorem Grw.addK {gx : Nat} {wb W W1 W3 : World} {sv kv kv' : Value} {zs : List Int} {ks : List Nd} {xs : List Value} (h : Grw gx wb W sv kv zs ks xs) {x : Nd} {r : RN} (hb : Below W.heap.size W W1) (hm : Mde (fun b => W.heap.size ≤ b) W1 x r)
    (ho : W3.ownsRow (gx + 1) 44 5 kv' (ks.length + 1) (xs ++ r.cells x)) (hg : W1.grownBy W3 kv.ownBlock) (hob : kv'.ownBlock = kv.ownBlock ∨ ∃ b, kv'.ownBlock = some b ∧ W1.heap.size ≤ b) :
    (W3.cell? ⟨gx, 4, none⟩ = some kv ∧ W3.frozen? ⟨gx, 4, none⟩ = false) ∧ Grw gx wb (W3.setCell ⟨gx, 4, none⟩ kv') sv kv' zs (ks ++ [x]) (xs ++ r.cells x) := by
  have h' := h.below hb
  have hlo : ∀ b, kv.ownBlock = some b → gx + 1 ≤ b := fun b hb => (own_lt h.ownK hb).1
  have hb0 : W3.heap[gx]? = W1.heap[gx]? := hg.block gx h'.gx fun e => by have := hlo gx e.symm; omega
  have hr : W3.heap[gx]? = some (.cells #[.int .i64 3, .int .u64 0, .slice none 0 0, sv, kv] 44 (0, 0)) := hb0.trans h'.row
  have k1 : But (fun k => kv.ownBlock = some k) W1 W3 := ⟨hg.os, hg.tape, hg.output, hg.size, fun i hi hx => hg.block i hi fun e => hx e.symm⟩
  have k2 : But (fun b => b = gx ∨ sv.ownBlock = some b ∨ kv.ownBlock = some b) W1 (W3.setCell ⟨gx, 4, none⟩ kv') := (k1.mono fun k e => .inr (.inr e)).trans ((But.set W3 gx 4 kv').mono fun k e => .inl e)
  have hset : ∀ b, b ≠ gx → (W3.setCell ⟨gx, 4, none⟩ kv').heap[b]? = W3.heap[b]? := fun b hb => Below.heap_setCell W3 ⟨gx, 4, none⟩ kv' b hb
  obtain ⟨rs, h1, h2, h3⟩ := h'.docs
  have hmx : Mde (Gd gx sv kv) W1 x r := hm.mono fun b _ hle => ⟨by have := h.gx; omega, fun e => by have := (own_lt h.ownS e).2.1; omega, fun e => by have := (own_lt h.ownK e).2.1; omega⟩
  refine ⟨⟨row_cell hr rfl, frozen_of_row _ _ _ _ _ hr⟩, ?_, set_cell4 hr kv', ?_, ?_, rs ++ [r], by simp [h1], ?_, fun i a b => ?_⟩
  · exact h'.bel.trans (k2.below (Nat.le_of_lt h'.gx) fun k hk => by
      rcases hk with rfl | hk | hk
      · exact Nat.le_refl _
      · have := (own_lt h.ownS hk).1; omega
      · have := hlo k hk; omega)
  · refine own_kept h'.ownS fun g hgg => (hset g fun e => by have := (own_lt h'.ownS hgg).1; omega).trans (hg.block g (own_lt h'.ownS hgg).2.1 fun e => ?_)
    exact own_ne h'.ownS h'.ownK (by decide) g hgg e.symm
  · rw [List.length_append, List.length_singleton]
    exact own_kept ho fun g hgg => hset g fun e => by have := (own_lt ho hgg).1; omega
  · rw [List.zip_append h1.symm, List.zip_cons_cons, List.zip_nil_left, flat_snoc, h2]
  · rcases Nat.lt_or_ge i ks.length with g | g
    · rw [List.getElem_append_left g, List.getElem_append_left (by omega)]
      exact gd_move k2 (.inl rfl) hob (h3 i g (by omega))
    · obtain rfl : i = ks.length := by simp at a; omega
      rw [List.getElem_append_right (Nat.le_refl _), List.getElem_append_right (by omega)]
      simp only [Nat.sub_self, List.getElem_singleton, h1]
      exact gd_move k2 (.inl rfl) hob hmx
/-- the whole of it, behind the last child -/
theorem Grw.done {gx B : Nat} {wb W W' : World} {sv kv : Value} {m : Nat} {ks : List Nd} {xs : List Value} {kid : Nat → Nd} (h : Grw gx wb W sv kv (Bt.lst m 32) ks xs) (hpos : 0 < ks.length) (hks : ∀ i (h : i < ks.length), ks[i] = kid i) (hB : B ≤ gx) (hsz : W.heap.size ≤ W'.heap.size) (hk : ∀ b, gx < b → b < W.heap.size → W'.heap[b]? = W.heap[b]?) :
    ∃ A c A' c', sv = .slice A (Bt.lst m 32).length c ∧ kv = .slice A' ks.length c' ∧ Mde (fun b => B ≤ b) W' (.bran m ks.length kid) ⟨none, 0, A, c, A', c'⟩ := by
  obtain ⟨A, c, rfl, _, hA⟩ := Bt.ints_own h.ownS rfl
  obtain ⟨A', c', rfl, hr⟩ := row_reads5 h.ownK
  obtain ⟨g, rfl, hg1, hg2, hg3⟩ := hr hpos
  have K : Kept (fun b => gx < b) W W' := fun b hb hl => hk b hb hl
  have hnA : Inb (fun b => gx < b) W A := fun a e => by
    have := own_new h.ownS a e
    exact ⟨by omega, this.2⟩
  obtain ⟨rs, h1, h2, h3⟩ := h.docs
  refine ⟨A, c, some ⟨g, 0, none⟩, c', rfl, rfl, ints_kept hA hnA K, (hnA.mono fun b _ hb => by omega).later hsz, g, rfl, by omega, by omega, fun i hi => ?_⟩
  have hi2 : i < rs.length := by omega
  have hz : (ks.zip rs)[i]'(by rw [List.length_zip]; omega) = (ks[i], rs[i]) := List.getElem_zip
  have hc : ∀ c, c < 5 → W'.cell? ⟨g, i * 5 + c, none⟩ = ((rs[i]).cells (kid i))[c]? := fun c hc => by
    rw [cell_kept (K g (by omega) hg2), hg3 _ (by omega), h2, flat_at (ks.zip rs) i (by rw [List.length_zip]; omega) c hc, hz, hks i hi]
  refine ⟨rs[i], ⟨hc 0 (by omega), hc 1 (by omega), hc 2 (by omega), hc 3 (by omega), hc 4 (by omega)⟩, ?_⟩
  have := h3 i hi hi2
  rw [hks i hi] at this
  exact ((this.mono (G := fun b => gx < b) fun b _ hb => hb.1).kept K hsz).mono fun b _ hb => by show B ≤ b; omega
end Go.Proofs.YtmbdimonfdncpaaGreatDoor
/-
  Contract of the reference's Lay at entries that have unlike hashes, and of Lay.
-/
namespace Go.Proofs.YtmbdimonfdncpaaGreatDoor
open Go.RowKit Go.ChangeShapes
set_option maxHeartbeats 4000000
set_option maxRecDepth 100000
theorem Tryz.info33 : (Tryz.prog.info? 44).map (fun i => (i.zero, i.size, i.bytes)) = some (some (.agg #[.int .i64 0, .int .u64 0, .slice none 0 0, .slice none 0 0, .slice none 0 0]), 5, 88) := by kernel_rfl
theorem run_index13 (V : Array Value) (j : Nat) (c : Int) (hj : j < 13) (h : V[j]? = some (.int .i64 c)) (w : World) :
    (Instr.index 69 (.agg V) (.int .i64 (j : Int))).run Tryz.prog w = .ok (.int .i64 c) w := by
  have u62 := Tryz.underlying69
  have a3 := Tryz.isAgg3
  have hz : Tryz.t3.size = 1 := by kernel_rfl
  have h0 : (0 : Int) ≤ (j : Int) ∧ (j : Int) < 13 := by omega
  simp [Instr.index, run_underlying u62, Go.sizeOf, asIntOf, a3, hz, go_sem, h0, h]
  intro h9
  omega
theorem part_take {lv j : Nat} {L : List En} (z : Int) (hj : j < L.length) : part lv (L.take (j + 1)) z = part lv (L.take j) z ++ (if ((ch (L[j]).1 lv : Nat) : Int) = z then [L[j]] else []) := by
  rw [List.take_succ_eq_append_getElem hj]
  unfold part
  rw [List.filter_append]
  congr 1
  by_cases e : ((ch (L[j]).1 lv : Nat) : Int) = z <;> simp [e]
theorem Res.kept {F : Nat → Prop} {w w' : World} {A : Option Addr} {L : List En} (h : Res w A L) (hi : Inb F w A) (K : Kept F w w') : Res w' A L := by
  rcases h with h | ⟨b, rfl, hlt, hc⟩
  · exact .inl h
  · have e := K b (hi _ rfl).1 hlt
    exact .inr ⟨b, rfl, lt_kept e hlt, fun i hi => ⟨(cell_kept e).trans (hc i hi).1, (cell_kept e).trans (hc i hi).2.1, (cell_kept e).trans (hc i hi).2.2⟩⟩
theorem lst_zero (m : Nat) : Bt.lst m 0 = [] := rfl
/-- what Lay tells of good entries, f levels above the last -/
def LayRAt (f lv : Nat) : Prop := ∀ (w : World) (A : Option Addr) (L : List En) (c : Nat), Res w A L → Good lv L →
  Calls Tryz.prog 12 #[.slice A L.length c, .int .i64 (lv : Int)] w fun e w' => ∃ r, e = .returned (RN.agg r (layL f lv L)) ∧ Mde (fun b => w.heap.size ≤ b) w' (layL f lv L) r ∧ Below w.heap.size w w'
attribute [local irreducible] Bt.lst
theorem layR_bran {w : World} {A : Option Addr} {L : List En} {f : Nat} (c lv : Nat) (hf : f + 1 + lv = 13) (ih : LayRAt f (lv + 1)) (h : Res w A L) (hG : Good lv L) (ha : alike L = false) (h0 : 0 < L.length) :
    Calls Tryz.prog 12 #[.slice A L.length c, .int .i64 (lv : Int)] w fun e w' => ∃ r, e = .returned (RN.agg r (layL (f + 1) lv L)) ∧ Mde (fun b => w.heap.size ≤ b) w' (layL (f + 1) lv L) r ∧ Below w.heap.size w w' := by
  have hL0 : L ≠ [] := List.ne_nil_of_length_pos h0
  obtain ⟨m, hm⟩ : ∃ m, m = mask lv L := ⟨_, rfl⟩
  obtain ⟨kidF, hkidF⟩ : ∃ kidF : Nat → Nd, kidF = fun i => layL f (lv + 1) (part lv L (nthc m i)) := ⟨_, rfl⟩
  have hlay : layL (f + 1) lv L = .bran m (Bt.lst m 32).length kidF := by rw [layL, if_neg (by rw [ha]; decide), hkidF, hm]
  rw [hlay]
  have hbit : ∀ k, k < 32 → (m.testBit k = true ↔ part lv L (k : Int) ≠ []) := fun k hk => by rw [hm]; exact part_bit hk
  have hpos : 0 < (Bt.lst m 32).length := by rw [hm]; exact mask_pos hL0
  have hlv : lv ≤ 12 := by omega
  have hGp := hG
  have hfits := hG.fits
  have HIH := Lib.hid ih; clear ih
  have HGP := Lib.hid hGp; clear hGp
  have HMK := Lib.hid (And.intro hkidF (And.intro hbit (And.intro hpos hfits))); clear hkidF hbit hpos hfits
  clear hlay hL0 hm hf
  obtain ⟨q, hq⟩ : ∃ q, q = (ehd L).1 := ⟨_, rfl⟩
  have he0 : ∀ h : 0 < L.length, (L[0]).1 = q := fun h => by
    rw [hq]
    cases L with
    | nil => exact absurd h (Nat.lt_irrefl 0)
    | cons a t => rfl
  obtain ⟨sm, hsm⟩ : ∃ sm : Nat → Bool, sm = fun j => (L.take j).all fun e => e.1 == q := ⟨_, rfl⟩
  have hsm1 : ∀ j, (hj : j < L.length) → sm (j + 1) = (sm j && decide ((L[j]).1 = q)) := fun j hj => by
    rw [hsm]
    show ((L.take (j + 1)).all fun e => e.1 == q) = _
    rw [List.take_succ_eq_append_getElem hj, List.all_append]
    by_cases h : (L[j]).1 = q <;> simp [h]
  have hsmL : sm L.length = false := by
    rw [hsm]
    show ((L.take L.length).all fun e => e.1 == q) = false
    rw [List.take_length, hq]
    exact ha
  have hfit : ∀ e ∈ L, e.2.1.length ≤ 1000 := fun e he => (hG.fits e he).2.1
  have hlen : L.length ≤ 100 := hG.len
  obtain ⟨LL, hLL⟩ : ∃ n, n = L.length := ⟨_, rfl⟩
  obtain ⟨C, hC⟩ : ∃ C : Nat → List Pr, C = fun j => come ((eprs L).take j) := ⟨_, rfl⟩
  have hCl : ∀ j, j ≤ LL → (C j).length ≤ 900 := fun j hj => by
    have h1 := come_new (eprs L) (by rw [eprs_keys]; exact hG.apart) j (by simp [eprs]; omega)
    rw [hC]
    show (come ((eprs L).take j)).length ≤ 900
    omega
  have hCm : ∀ j, ∀ p ∈ C j, p.1.length ≤ 1000 := fun j p hp => by
    rw [hC] at hp
    obtain ⟨e, he, rfl⟩ := List.mem_map.1 (List.mem_of_mem_take (come_sub _ _ hp))
    exact hfit e he
  have hCs : ∀ j, (hj : j < L.length) → C (j + 1) = put (C j) (L[j]).2 := fun j hj => by
    rw [hC]
    show come ((eprs L).take (j + 1)) = put (come ((eprs L).take j)) _
    rw [come_step (by simpa [eprs] using hj)]
    simp [eprs]
  have hCL : (C LL).length = LL := by
    have h1 := come_new (eprs L) (by rw [eprs_keys]; exact hG.apart) LL (by simp [eprs]; omega)
    rw [hC]
    exact h1
  rw [← hLL] at h0 hlen ⊢
  obtain ⟨w1, hw1⟩ : ∃ w1, w1 = w.alloc (.cells #[.int .i64 0, .int .u64 0, .slice none 0 0, .slice none 0 0, .slice none 0 0] 44) := ⟨_, rfl⟩
  have b1 : Below w.heap.size w w1 := by rw [hw1]; exact (Below.refl _ _).alloc (Nat.le_refl _) _
  have z1 : w1.heap.size = w.heap.size + 1 := by rw [hw1]; simp
  have r1 : w1.heap[w.heap.size]? = some (.cells #[.int .i64 0, .int .u64 0, .slice none 0 0, .slice none 0 0, .slice none 0 0] 44 (0, 0)) := by rw [hw1]; exact heap_alloc_new w _
  have HW := Lib.hid hw1; clear hw1
  have HB1 := Lib.hid (And.intro b1 (And.intro z1 r1))
  have HA := Lib.hid (h.below b1); clear h
  have HC := Lib.hid (And.intro hCl (And.intro hCm (And.intro hCs hCL))); clear hCl hCm hCs hCL
  have HE := Lib.hid (And.intro he0 (And.intro hfit hLL)); clear he0 hfit
  have HSM := Lib.hid (And.intro hsm1 (And.intro (hLL ▸ hsmL : sm LL = false) (show sm 0 = true by rw [hsm]; rfl))); clear hsm hsm1 hsmL hLL
  have HC0 : Hid (C 0 = []) := by rw [hC]; rfl
  have hne0 : ((LL : Int) == 0) = false := by simp; omega
  clear hq hC hG ha b1 z1 r1
  go_enter Tryz.func12, Tryz.ntmps12
  go_upto_region 5 with fail
  rw [← HW.out]
  go_wp2_with fail
  go_loopw [5, 6, 21] (fun s5 s6 u wr => ∃ (j : Nat) (A' : Option Addr) (n' c' : Nat), u = .int .i64 j ∧ j ≤ LL ∧ s5 = .bool (sm j) ∧ s6 = .slice A' n' c' ∧ Hid (n' = (C j).length ∧ Rcs wr A' (C j) ∧ NewIn w1.heap.size wr A') ∧ Hid (Below w1.heap.size w1 wr)) (fun _ _ u _ => LL - (intOf u).toNat)
  case atStart => exact ⟨0, none, 0, 0, rfl, by omega, by rw [HSM.out.2.2], rfl, ⟨by rw [HC0.out]; rfl, .inl HC0.out, fun a e => by cases e⟩, Below.refl _ _⟩
  case round =>
    obtain ⟨j, A', n', c', rfl, hj, rfl, rfl, hm, hbel⟩ := hrel
    obtain ⟨b, rfl, hb, y0, _, _⟩ := (HA.out.below hbel.out).at (by rw [← HE.out.2.2]; exact h0 : 0 < L.length)
    have e0 : (L[0]'(by rw [← HE.out.2.2]; exact h0)).1 = q := HE.out.1 _
    rw [e0, Nat.zero_mul] at y0
    by_cases hlt : j < LL
    · have hj' : j < L.length := by rw [← HE.out.2.2]; exact hlt
      obtain ⟨b', hbb, _, x0, x1, x2⟩ := (HA.out.below hbel.out).at hj'
      injection hbb with hbb
      injection hbb with hbb
      subst hbb
      have hst := HSM.out.1 j hj'
      obtain ⟨qj, hqj⟩ : ∃ k, k = (L[j]).1 := ⟨_, rfl⟩
      rw [← hqj] at x0 hst
      clear hqj
      have hp1 := HE.out.2.1 _ (List.getElem_mem hj')
      have hput := fun W (hW : Below wr.heap.size wr W) => refPut_any (L[j]).2 (hm.out.2.1.below hW) c' (HC.out.1 j hj) hp1 (HC.out.2.1 j)
      rw [← HC.out.2.2.1 j hj', ← hm.out.1] at hput
      obtain ⟨s, hs⟩ : ∃ s : ByteArray, s = ⟨(L[j]).2.1.toArray⟩ := ⟨_, rfl⟩
      obtain ⟨t, ht⟩ : ∃ s : ByteArray, s = ⟨(L[j]).2.2.toArray⟩ := ⟨_, rfl⟩
      rw [← hs] at x1
      rw [← ht] at x2
      simp only [← hs, ← ht] at hput
      have bz := (Below.refl wr.heap.size wr).alloc (Nat.le_refl _) (.cells #[.int .u64 (qj : Int), .string s, .string t] 72)
      have k0 := (bz.cell (p := ⟨b, 0, none⟩) hb).trans y0
      have HP := Lib.hid hput; clear hput
      have HZ := Lib.hid bz; clear bz
      clear hs ht e0 hp1 hm
      cases hsj : sm j with
      | false =>
        rw [hsj, Bool.false_and] at hst
        have HST := Lib.hid hst; clear hst
        go_wp2_with fail
        go_quiet (fail)
        go_wp2_with fail
        refine (HP.out _ (below_drewN HZ.out _)).mono ?_
        rintro e w2 ⟨A2, c2, rfl, hr2, hn2, hb2⟩
        have hbz := below_then (below_drewN HZ.out _) hb2
        have H2 := Lib.hid (And.intro hr2 (And.intro (hn2.less (Nat.le_trans hbel.out.size (below_drewN HZ.out _).size)) (hbel.out.trans (hbz.mono hbel.out.size)))); clear hr2 hn2 hb2 hbz
        go_wp2_with fail
        go_roundw
        case rel =>
          exact ⟨j + 1, A2, _, c2, by go_num, by omega, by rw [HST.out], rfl, ⟨rfl, H2.out.1, H2.out.2.1⟩, H2.out.2.2⟩
        case measure => simp [intOf]; omega
      | true =>
        rw [hsj, Bool.true_and] at hst
        by_cases hqq : qj = q
        · subst hqq
          rw [decide_eq_true rfl] at hst
          have HST := Lib.hid hst; clear hst
          go_wp2_with fail
          go_quiet (fail)
          go_wp2_with fail
          refine (HP.out _ (below_drewN HZ.out _)).mono ?_
          rintro e w2 ⟨A2, c2, rfl, hr2, hn2, hb2⟩
          have hbz := below_then (below_drewN HZ.out _) hb2
          have H2 := Lib.hid (And.intro hr2 (And.intro (hn2.less (Nat.le_trans hbel.out.size (below_drewN HZ.out _).size)) (hbel.out.trans (hbz.mono hbel.out.size)))); clear hr2 hn2 hb2 hbz
          go_wp2_with fail
          go_roundw
          case rel =>
            exact ⟨j + 1, A2, _, c2, by go_num, by omega, by rw [HST.out], rfl, ⟨rfl, H2.out.1, H2.out.2.1⟩, H2.out.2.2⟩
          case measure => simp [intOf]; omega
        · rw [decide_eq_false hqq] at hst
          have HST := Lib.hid hst; clear hst
          have hqn : ((qj : Int) == (q : Int)) = false := by simp; omega
          go_wp2_with fail
          go_quiet (fail)
          go_wp2_with fail
          refine (HP.out _ (below_drewN HZ.out _)).mono ?_
          rintro e w2 ⟨A2, c2, rfl, hr2, hn2, hb2⟩
          have hbz := below_then (below_drewN HZ.out _) hb2
          have H2 := Lib.hid (And.intro hr2 (And.intro (hn2.less (Nat.le_trans hbel.out.size (below_drewN HZ.out _).size)) (hbel.out.trans (hbz.mono hbel.out.size)))); clear hr2 hn2 hb2 hbz
          go_wp2_with fail
          go_roundw
          case rel =>
            exact ⟨j + 1, A2, _, c2, by go_num, by omega, by rw [HST.out], rfl, ⟨rfl, H2.out.1, H2.out.2.1⟩, H2.out.2.2⟩
          case measure => simp [intOf]; omega
    · obtain rfl : LL = j := by omega
      have hfl := HSM.out.2.1
      rw [hfl]
      obtain ⟨gx, hgx⟩ : ∃ g, g = wr.heap.size := ⟨_, rfl⟩
      obtain ⟨wg, hwg⟩ : ∃ wg, wg = wr.alloc (.cells #[.int .i64 3, .int .u64 0, .slice none 0 0, .slice none 0 0, .slice none 0 0] 44) := ⟨_, rfl⟩
      have rg : wg.heap[gx]? = some (.cells #[.int .i64 3, .int .u64 0, .slice none 0 0, .slice none 0 0, .slice none 0 0] 44 (0, 0)) := by rw [hwg, hgx]; exact heap_alloc_new wr _
      have bg : Below wr.heap.size wr wg := by rw [hwg]; exact (Below.refl _ _).alloc (Nat.le_refl _) _
      have hgr : Grw gx wg wg (.slice none 0 0) (.slice none 0 0) [] [] [] := ⟨Below.refl _ _, rg, World.ownsRow_nil _ _ _ _, World.ownsRow_nil _ _ _ _, [], rfl, rfl, fun i h => absurd h (Nat.not_lt_zero _)⟩
      have bwg : Below w1.heap.size w1 wg := below_then hbel.out bg
      have hszg : w1.heap.size ≤ gx := by rw [hgx]; exact hbel.out.size
      have HBG := Lib.hid (And.intro bwg (And.intro hszg hgr)); clear bwg hszg hgr bg rg
      have HGX := Lib.hid hgx; clear hgx
      have HWG := Lib.hid hwg; clear hwg
      clear y0 e0 hfl hm hbel HC HSM
      go_wp2_with fail
      simp only [← HGX.out] at HWG ⊢
      rw [← HWG.out]
      go_loopw [11] (fun u wr => ∃ (k : Nat) (sv kv : Value) (ks : List Nd) (xs : List Value), u = .int .i64 (k : Int) ∧ k ≤ 32 ∧ Hid (Grw gx wg wr sv kv (Bt.lst m k) ks xs) ∧ Hid (ks.length = (Bt.lst m k).length ∧ ∀ i (h : i < ks.length), ks[i] = kidF i)) (fun u _ => 32 - (intOf u).toNat)
      case atStart => exact ⟨0, _, _, [], [], rfl, by omega, by rw [lst_zero]; exact HBG.out.2.2, by rw [lst_zero]; rfl, fun i h => absurd h (Nat.not_lt_zero _)⟩
      case round =>
        obtain ⟨k, sv, kv, ks, xs, rfl, hk, hgw, hks⟩ := hrel
        by_cases hlt : k < 32
        · obtain ⟨wx, hwx⟩ : ∃ x, x = wr := ⟨_, rfl⟩
          subst hwx
          have bx : Below w1.heap.size w1 wx := HBG.out.1.trans (hgw.out.bel.mono HBG.out.2.1)
          have HBX := Lib.hid bx; clear bx
          obtain ⟨NX, hNX⟩ : ∃ n, n = wx.heap.size := ⟨_, rfl⟩
          have HNX := Lib.hid hNX; clear hNX
          have hk32 : decide ((k : Int) < 32) = true := decide_eq_true (by omega)
          go_wp2_with fail
          go_loopw [12, 58] (fun p u wr => ∃ (j n : Nat), u = .int .i64 (j : Int) ∧ j ≤ LL ∧ n ≤ j ∧ Hid (n = (part lv (L.take j) (k : Int)).length) ∧ Hid (wr.ownsRow NX 72 3 p n (encells (part lv (L.take j) (k : Int)))) ∧ Hid (Below NX wx wr)) (fun _ u _ => LL - (intOf u).toNat)
          case atStart => exact ⟨0, 0, rfl, by omega, by omega, rfl, World.ownsRow_nil _ _ _ _, Below.refl _ _⟩
          case round =>
            obtain ⟨j, n, rfl, hj, hnj, hn, hown, hbe⟩ := hrel
            by_cases hjl : j < LL
            · have hj' : j < L.length := by rw [← HE.out.2.2]; exact hjl
              have hbw : Below w1.heap.size w1 wr := below_then HBX.out (HNX.out ▸ hbe.out)
              obtain ⟨b', hbb, hb', x0, x1, x2⟩ := (HA.out.below hbw).at hj'
              injection hbb with hbb
              injection hbb with hbb
              subst hbb
              have hpt := part_take (lv := lv) (k : Int) hj'
              have hqf := (HMK.out.2.2.2 _ (List.getElem_mem hj')).1
              obtain ⟨qj, hqj⟩ : ∃ z, z = (L[j]).1 := ⟨_, rfl⟩
              obtain ⟨s, hs⟩ : ∃ s : ByteArray, s = ⟨(L[j]).2.1.toArray⟩ := ⟨_, rfl⟩
              obtain ⟨t, ht⟩ : ∃ s : ByteArray, s = ⟨(L[j]).2.2.toArray⟩ := ⟨_, rfl⟩
              have hen : encells [L[j]] = [.int .u64 (qj : Int), .string s, .string t] := by rw [hqj, hs, ht]; rfl
              rw [← hqj] at x0 hpt hqf
              rw [← hs] at x1
              rw [← ht] at x2
              have JW : Hid (∀ W, Calls Tryz.prog 22 #[.int .u64 (qj : Int)] W fun e w' => e = .returned (.agg (wayV qj)) ∧ Below W.heap.size W w') := fun W => refWay_any qj W hqf
              have hwv := wayV_get qj lv (by omega)
              obtain ⟨V, hV⟩ : ∃ V, V = wayV qj := ⟨_, rfl⟩
              rw [← hV] at hwv
              simp only [← hV] at JW
              obtain ⟨cv, hcv⟩ : ∃ z, z = ch qj lv := ⟨_, rfl⟩
              rw [← hcv] at hwv hpt
              have hix := fun W => run_index13 V lv (cv : Int) (by omega) hwv W
              have hlv13 : (lv : Int) < 13 := by omega
              obtain ⟨wz, hwz⟩ : ∃ wz, wz = wr.alloc (.cells #[.int .u64 (qj : Int), .string s, .string t] 72) := ⟨_, rfl⟩
              have bz : Below wr.heap.size wr wz := by rw [hwz]; exact (Below.refl _ _).alloc (Nat.le_refl _) _
              have rz : wz.heap[wr.heap.size]? = some (.cells #[.int .u64 (qj : Int), .string s, .string t] 72 (0, 0)) := by rw [hwz]; exact heap_alloc_new wr _
              have hnz : wr.heap.size < wz.heap.size := (Array.getElem?_eq_some_iff.1 rz).1
              have E0 : wz.cell? ⟨wr.heap.size, 0, none⟩ = some (.int .u64 (qj : Int)) := row_cell rz rfl
              have hnx : NX ≤ wr.heap.size := by rw [HNX.out]; exact hbe.out.size
              have HRZ := Lib.hid (And.intro rz (And.intro bz (And.intro hnz hnx))); clear rz bz hnz hnx
              have HEN := Lib.hid hen; clear hen
              have HWZ := Lib.hid hwz; clear hwz
              clear hqj hs ht hV hcv hwv hqf hbw
              by_cases hcv : (cv : Int) = (k : Int)
              · rw [if_pos hcv] at hpt
                have HPT := Lib.hid hpt; clear hpt
                have t1 : ((cv : Int) == (k : Int)) = true := by simpa using hcv
                clear hcv
                go_wp2_with fail
                rw [← HWZ.out]
                refine (JW.out _).mono ?_
                rintro e w2 ⟨rfl, hb2⟩
                have r2 := (hb2.block _ HRZ.out.2.2.1).trans HRZ.out.1
                have F0 : w2.cell? ⟨wr.heap.size, 0, none⟩ = some (.int .u64 (qj : Int)) := row_cell r2 rfl
                have F1 : w2.cell? ⟨wr.heap.size, 1, none⟩ = some (.string s) := row_cell r2 rfl
                have F2 : w2.cell? ⟨wr.heap.size, 2, none⟩ = some (.string t) := row_cell r2 rfl
                have b02 := below_then HRZ.out.2.1 hb2
                have hown2 := own_below hown.out b02
                have hsz2 : NX ≤ w2.heap.size := Nat.le_trans HRZ.out.2.2.2 b02.size
                have HO2 := Lib.hid (And.intro hown2 hsz2)
                have HB2 := Lib.hid (hbe.out.trans (b02.mono HRZ.out.2.2.2))
                clear r2 b02 hown2 hsz2 hb2
                go_wp2_with (at_builtin; refine list_appK (B := NX) (w := w2) 48 72 _ 3 40 Tryz.underlying48 Tryz.info62 rfl (by decide) (by decide) rfl (.tmp 69) (.tmp 71) rfl _ n (encells (part lv (L.take j) (k : Int))) HO2.out.1 [.int .u64 (qj : Int), .string s, .string t] rfl (by intro u hu; simp at hu; rcases hu with rfl | rfl | rfl <;> rfl) rfl (by rfl) (by omega) HO2.out.2 ?_; intro v1 w3 o1 o2 _)
                have HB3 : Hid (Below NX wx w3) := HB2.out.grown o2 HO2.out.2 (fun g hg => (own_lt HO2.out.1 hg).1)
                have HO3 := Lib.hid o1; clear o1 o2
                go_roundw
                case rel =>
                  refine ⟨j + 1, n + 1, by go_num, by omega, by omega, ?_, ?_, HB3.out⟩
                  · show _ = _
                    rw [HPT.out, List.length_append, List.length_singleton, hn.out]
                  · show World.ownsRow _ _ _ _ _ _ _
                    rw [HPT.out, show encells (part lv (L.take j) (k : Int) ++ [L[j]]) = encells (part lv (L.take j) (k : Int)) ++ encells [L[j]] by simp [encells], HEN.out]
                    exact HO3.out
                case measure => simp [intOf]; omega
              · rw [if_neg hcv, List.append_nil] at hpt
                have HPT := Lib.hid hpt; clear hpt
                have t1 : ((cv : Int) == (k : Int)) = false := by simpa using hcv
                clear hcv
                go_wp2_with fail
                rw [← HWZ.out]
                refine (JW.out _).mono ?_
                rintro e w2 ⟨rfl, hb2⟩
                have b02 := below_then HRZ.out.2.1 hb2
                have hown2 := own_below hown.out b02
                have HO2 := Lib.hid hown2
                have HB2 := Lib.hid (hbe.out.trans (b02.mono HRZ.out.2.2.2))
                clear b02 hown2 hb2
                go_wp2_with fail
                go_roundw
                case rel =>
                  refine ⟨j + 1, n, by go_num, by omega, by omega, ?_, ?_, HB2.out⟩
                  · show _ = _
                    rw [HPT.out, hn.out]
                  · show World.ownsRow _ _ _ _ _ _ _
                    rw [HPT.out]
                    exact HO2.out
                case measure => simp [intOf]; omega
            · obtain rfl : LL = j := by omega
              have htk : L.take LL = L := by rw [HE.out.2.2, List.take_length]
              have hn2 := hn.out
              have ho2 := hown.out
              rw [htk] at hn2 ho2
              obtain ⟨P, hP⟩ : ∃ P, P = part lv L (k : Int) := ⟨_, rfl⟩
              rw [← hP] at hn2 ho2
              have hG1 : Good (lv + 1) P := by rw [hP]; exact HGP.out.part _
              rw [hn2] at ho2
              obtain ⟨A2, c2, hv2, hc2, hres, hnew⟩ := res_own ho2
              rw [← hn2] at hv2 hc2
              subst hv2
              have hbe' : Below wx.heap.size wx wr := HNX.out ▸ hbe.out
              have hgw2 := hgw.out.below hbe'
              have HGW := Lib.hid hgw2; clear hgw2
              have hbitk := HMK.out.2.1 k hlt
              rw [← hP] at hbitk
              by_cases hp : P = []
              · have hb0 : m.testBit k = false := by
                  cases e : m.testBit k with
                  | false => rfl
                  | true => exact absurd hp (hbitk.1 e)
                have hls := lst_skip hb0
                have HLS := Lib.hid hls; clear hls
                obtain rfl : n = 0 := by rw [hn2, hp]; rfl
                clear hbitk hb0 hp hn2 hn hown ho2 hres hnew hG1 hP htk
                go_wp2_with fail
                go_roundw
                case rel => exact ⟨k + 1, sv, kv, ks, xs, by go_num, by omega, by rw [HLS.out]; exact HGW.out, by rw [HLS.out]; exact hks.out⟩
                case measure => simp [intOf]; omega
              · have hb1 : m.testBit k = true := hbitk.2 hp
                obtain ⟨hn1, hl1, hl2⟩ := nthc_at hlt hb1
                have hn0 : 0 < n := by rw [hn2]; exact List.length_pos_iff.2 hp
                obtain ⟨z, hz⟩ : ∃ z, z = (Bt.lst m k).length := ⟨_, rfl⟩
                have hX : kidF z = layL f (lv + 1) P := by
                  rw [HMK.out.1, hz, hP]
                  show layL f (lv + 1) (part lv L (nthc m (Bt.lst m k).length)) = _
                  rw [hn1]
                obtain ⟨X, hXX⟩ : ∃ X, X = layL f (lv + 1) P := ⟨_, rfl⟩
                rw [← hXX] at hX
                have hz32 : z ≤ 32 := by have := Bt.list_le m 32; omega
                have hjj := fun (W2 W : World) (K : Kept (fun b => NX ≤ b) wr W2) (hW : Below W2.heap.size W2 W) => HIH.out W A2 P c2 ((hres.kept (fun a e => hnew a e) K).below hW) hG1
                rw [← hXX, ← hn2] at hjj
                obtain ⟨k0, hk0⟩ : ∃ k, k = X.kind := ⟨_, rfl⟩
                obtain ⟨k1, hk1⟩ : ∃ k, k = X.hash := ⟨_, rfl⟩
                obtain ⟨k2, hk2⟩ : ∃ k, k = X.prs.length := ⟨_, rfl⟩
                obtain ⟨k3, hk3⟩ : ∃ k, k = X.set.length := ⟨_, rfl⟩
                obtain ⟨k4, hk4⟩ : ∃ k, k = X.num := ⟨_, rfl⟩
                have hcl : ∀ pa pc sa sc ka kc, (⟨pa, pc, sa, sc, ka, kc⟩ : RN).cells X = [.int .i64 (k0 : Int), .int .u64 (k1 : Int), .slice pa k2 pc, .slice sa k3 sc, .slice ka k4 kc] := fun _ _ _ _ _ _ => by rw [hk0, hk1, hk2, hk3, hk4]; rfl
                have hag : ∀ pa pc sa sc ka kc, RN.agg (⟨pa, pc, sa, sc, ka, kc⟩ : RN) X = .agg #[.int .i64 (k0 : Int), .int .u64 (k1 : Int), .slice pa k2 pc, .slice sa k3 sc, .slice ka k4 kc] := fun _ _ _ _ _ _ => by rw [hk0, hk1, hk2, hk3, hk4]; rfl
                have J : ∀ (w2 W : World), Kept (fun b => NX ≤ b) wr w2 → Below w2.heap.size w2 W → Calls Tryz.prog 12 #[.slice A2 n c2, .int .i64 ((lv : Int) + 1)] W fun e w' => ∃ pa pc sa sc ka kc, e = .returned (.agg #[.int .i64 (k0 : Int), .int .u64 (k1 : Int), .slice pa k2 pc, .slice sa k3 sc, .slice ka k4 kc]) ∧ Mde (fun b => w2.heap.size ≤ b) w' X ⟨pa, pc, sa, sc, ka, kc⟩ ∧ Below w2.heap.size w2 w' := fun w2 W h1 h2 => by
                  have := hjj w2 W h1 h2
                  rw [show ((lv + 1 : Nat) : Int) = (lv : Int) + 1 by omega] at this
                  refine this.mono ?_
                  rintro e w' ⟨⟨pa, pc, sa, sc, ka, kc⟩, h3, h4, h5⟩
                  exact ⟨pa, pc, sa, sc, ka, kc, by rw [h3, hag], h4.mono fun b _ hb => Nat.le_trans h2.size hb, below_then h2 h5⟩
                have hsx : gx < NX ∧ ∀ q, sv.ownBlock = some q → q < NX := by
                  rw [HNX.out]
                  exact ⟨hgw.out.gx, fun q hq => (own_lt hgw.out.ownS hq).2.1⟩
                have HSX := Lib.hid hsx; clear hsx
                have hzk : ks.length = z := by rw [hz]; exact hks.out.1
                have ownS := HGW.out.ownS
                have ownK := HGW.out.ownK
                rw [← hz] at ownS
                rw [hzk] at ownK
                have PS := fun (W3 : World) (v' : Value) (o1 : W3.ownsRow (gx + 1) 3 1 v' (z + 1) (Bt.icells (Bt.lst m k) ++ [.int .i64 (k : Int)])) (o2 : wr.grownBy W3 sv.ownBlock) (o3 : v'.ownBlock = sv.ownBlock ∨ ∃ b, v'.ownBlock = some b ∧ wr.heap.size ≤ b) =>
                  And.intro (HGW.out.addS (k : Int) (by rw [← hz]; exact o1) o2 o3) (HGW.out.gx)
                rw [← hl2] at PS
                have hrow := HGW.out.row
                have R3 : wr.cell? ⟨gx, 3, none⟩ = some sv := row_cell hrow rfl
                have hgsz : gx + 1 ≤ wr.heap.size := HGW.out.gx
                have HPS := Lib.hid PS; clear PS
                have HJ := Lib.hid J; clear J
                have HOS := Lib.hid (And.intro ownS (And.intro ownK hgsz)); clear ownS ownK hgsz
                have HXC := Lib.hid (And.intro hcl (And.intro hX (And.intro hzk (And.intro hl2 (And.intro hz hks.out.2))))); clear hcl hX hzk
                clear hbitk hb1 hp hn2 hn hown ho2 hres hnew hG1 hP htk hn1 hl1 hl2 hjj hag hk0 hk1 hk2 hk3 hk4 hXX hrow hz hbe hbe' hgw hks hc2
                go_wp2_with (at_builtin; refine list_appK (B := gx + 1) (w := wr) 41 3 _ 1 8 Tryz.underlying41 Bt.Tryz.info3 rfl (by decide) (by decide) rfl (.tmp 78) (.tmp 80) rfl sv z (Bt.icells (Bt.lst m k)) HOS.out.1 [.int .i64 (k : Int)] rfl (by intro u hu; simp at hu; subst hu; rfl) rfl (by rfl) (by omega) HOS.out.2.2 ?_; intro sv' w3 o1 o2 o3; obtain ⟨⟨⟨s1, s2⟩, s3⟩, s4⟩ := HPS.out w3 sv' o1 o2 o3; have S3 := Lib.hid s3; clear s3; obtain ⟨As, cs, rfl, _⟩ := Bt.row_reads o1)
                obtain ⟨w4, hw4⟩ : ∃ x, x = w3.setCell ⟨gx, 3, none⟩ (.slice As (z + 1) cs) := ⟨_, rfl⟩
                simp only [← hw4] at S3 ⊢
                have K4 : Kept (fun b => NX ≤ b) wr w4 := fun q hq hl => by
                  rw [hw4, Below.heap_setCell w3 ⟨gx, 3, none⟩ _ q (by have := HSX.out.1; show q ≠ gx; omega)]
                  exact o2.block q hl fun e => by have := HSX.out.2 q e.symm; omega
                have HWR : Hid (IntKind.i64.wrap ((lv : Int) + 1) = (lv : Int) + 1) := by show _ = _; rw [IntKind.wrap_i64]; omega
                have HJ4 : Hid (∀ W (zi : Int), zi = (lv : Int) + 1 → Below w4.heap.size w4 W → Calls Tryz.prog 12 #[.slice A2 n c2, .int .i64 zi] W fun e w' => ∃ pa pc sa sc ka kc, e = .returned (.agg #[.int .i64 (k0 : Int), .int .u64 (k1 : Int), .slice pa k2 pc, .slice sa k3 sc, .slice ka k4 kc]) ∧ Mde (fun b => w4.heap.size ≤ b) w' X ⟨pa, pc, sa, sc, ka, kc⟩ ∧ Below w4.heap.size w4 w') := fun W zi hz hW => by rw [hz]; exact HJ.out w4 W K4 hW
                have ownK4 := S3.out.ownK
                rw [HXC.out.2.2.1] at ownK4
                have c4 : w4.cell? ⟨gx, 4, none⟩ = some kv := row_cell S3.out.row rfl
                have C4 : ∀ W, Below w4.heap.size w4 W → W.cell? ⟨gx, 4, none⟩ = some kv ∧ W.ownsRow (gx + 1) 44 5 kv z xs ∧ gx + 1 ≤ W.heap.size := fun W hW => ⟨(hW.cell (p := ⟨gx, 4, none⟩) S3.out.gx).trans c4, own_below ownK4 hW, Nat.le_trans S3.out.gx hW.size⟩
                have PK := fun (wA W3 : World) (v' : Value) (pa sa ka : Option Addr) (pc sc kc : Nat) (hA : Below w4.heap.size w4 wA) (hm : Mde (fun b => w4.heap.size ≤ b) wA X ⟨pa, pc, sa, sc, ka, kc⟩) (p1 : W3.ownsRow (gx + 1) 44 5 v' (z + 1) (xs ++ [.int .i64 (k0 : Int), .int .u64 (k1 : Int), .slice pa k2 pc, .slice sa k3 sc, .slice ka k4 kc])) (p2 : wA.grownBy W3 kv.ownBlock) (p3 : v'.ownBlock = kv.ownBlock ∨ ∃ b, v'.ownBlock = some b ∧ wA.heap.size ≤ b) =>
                  S3.out.addK hA hm (by rw [HXC.out.2.2.1, HXC.out.1]; exact p1) p2 p3
                have HC4 := Lib.hid C4; clear C4
                have HPK := Lib.hid PK; clear PK
                have HW4 := Lib.hid hw4; clear hw4
                clear K4 ownK4 o1 o2 o3 s1 s2 s4
                go_region_law (first
                  | (refine step_appK (B := gx + 1) 42 44 _ 5 88 Tryz.underlying42 Tryz.info33 rfl (by decide) (by decide) rfl (.tmp 84) (.tmp 89) rfl kv z xs (HC4.out _ hbA).2.1 [.int .i64 (k0 : Int), .int .u64 (k1 : Int), .slice pa5 k2 pc5, .slice sa5 k3 sc5, .slice ka5 k4 kc5] rfl (by intro u hu; simp at hu; rcases hu with rfl | rfl | rfl | rfl | rfl <;> rfl) (by simp [Act.eval]) (by simp [Act.eval]) (by omega) (HC4.out _ hbA).2.2 ?_; intro v' w5 p1 p2 p3; obtain ⟨⟨t2, t3⟩, t4⟩ := HPK.out _ _ _ _ _ _ _ _ _ hbA hmA p1 p2 p3; obtain ⟨A5, c5, rfl, _⟩ := row_reads5 p1)
                  | (go_simp; go_at_call 12; (with_reducible refine (HJ4.out _ _ HWR.out ((Below.refl _ _).drew)).mono ?_); rintro e wA ⟨pa5, pc5, sa5, sc5, ka5, kc5, rfl, hmA, hbA⟩; have c4A := (HC4.out _ hbA).1; have c4B := (HC4.out _ (hbA.alloc hbA.size (.cells #[.int .i64 (k0 : Int), .int .u64 (k1 : Int), .slice pa5 k2 pc5, .slice sa5 k3 sc5, .slice ka5 k4 kc5] 44))).1)
                  | fail)
                all_goals
                  have T4 := Lib.hid t4
                  clear t4 p1 p2 p3 t2 t3
                  go_wp2_with fail
                  go_roundw
                  case rel =>
                    refine ⟨k + 1, _, _, ks ++ [X], _, by go_num, by omega, T4.out, ?_, fun i hi => ?_⟩
                    · rw [List.length_append, List.length_singleton, HXC.out.2.2.1, HXC.out.2.2.2.1, List.length_append, List.length_singleton, HXC.out.2.2.2.2.1]
                    · rcases Nat.lt_or_ge i ks.length with g | g
                      · rw [List.getElem_append_left g]; exact HXC.out.2.2.2.2.2 i g
                      · obtain rfl : i = ks.length := by simp at hi; omega
                        rw [List.getElem_append_right (Nat.le_refl _)]
                        simp only [Nat.sub_self, List.getElem_singleton]
                        rw [HXC.out.2.2.1]
                        exact HXC.out.2.1.symm
                  case measure => simp [intOf]; omega
        · obtain rfl : k = 32 := by omega
          have hgs := HBG.out.2.1
          have hw1z := HB1.out.2.1
          have hrow := hgw.out.row
          have bwr : Below w1.heap.size w1 wr := HBG.out.1.trans (hgw.out.bel.mono hgs)
          have r2 := (bwr.block w.heap.size (by omega)).trans HB1.out.2.2
          obtain ⟨⟨d0, d1, d2, d3, d4⟩, f0, f1, f2, f3, f4⟩ := row5f r2
          obtain ⟨⟨q0, q1, q2, q3, q4⟩, _⟩ := row5f hrow
          have hs5 := set5_below (W := wr) (B := w.heap.size) (Nat.le_refl w.heap.size) (.int .i64 3) (.int .u64 0) (.slice none 0 0) sv kv
          have hkl : ks.length = (Bt.lst m 32).length := hks.out.1
          obtain ⟨As, cs, Ak, ck, hsv, hkv, hmd⟩ := hgw.out.done (B := w.heap.size) (W' := set5 wr w.heap.size (.int .i64 3) (.int .u64 0) (.slice none 0 0) sv kv) (by rw [hkl]; exact HMK.out.2.2.1) hks.out.2 (by omega) hs5.size (fun b h1 _ => set5_other b (by omega) _ _ _ _ _)
          subst hsv hkv
          rw [hkl] at hmd hs5 q4
          obtain ⟨zz, hzz⟩ : ∃ z, z = (Bt.lst m 32).length := ⟨_, rfl⟩
          simp only [← hzz] at q3 q4 hs5 hmd
          have HFIN := Lib.hid (And.intro (set5_row r2 (.int .i64 3) (.int .u64 0) (.slice none 0 0) (.slice As zz cs) (.slice Ak zz ck)) (And.intro (below_then HB1.out.1 (bwr)) (And.intro hs5 (And.intro hmd hzz))))
          clear hgs hw1z hrow bwr r2 hs5 hkl hmd hgw hks hzz
          go_wp2_with fail
          refine bodyPost_ret (results_cell_row rfl _ _ w.heap.size 44 _ (0, 0) _ rfl HFIN.out.1 Tryz.underlying44 rfl (by kernel_rfl)) rfl ?_
          obtain ⟨g1, g2, g3, g4, g5⟩ := HFIN.out
          rw [← g5]
          refine ⟨⟨none, 0, As, cs, Ak, ck⟩, ?_, g4, g2.trans g3⟩
          rw [g5]
          rfl
end Go.Proofs.YtmbdimonfdncpaaGreatDoor
/-
  Contract of the reference's Lay, by induction on the level.
-/
namespace Go.Proofs.YtmbdimonfdncpaaGreatDoor
open Go.RowKit
set_option maxHeartbeats 1000000
theorem layR_flat {lv : Nat} (w : World) (A : Option Addr) (L : List En) (c : Nat) (h : Res w A L) (hG : Good lv L) (ha : alike L = true) :
    Calls Tryz.prog 12 #[.slice A L.length c, .int .i64 (lv : Int)] w fun e w' => ∃ r, e = .returned (RN.agg r (flatL L)) ∧ Mde (fun b => w.heap.size ≤ b) w' (flatL L) r ∧ Below w.heap.size w w' := by
  rcases Nat.eq_zero_or_pos L.length with h0 | h0
  · obtain rfl := List.eq_nil_of_length_eq_zero h0
    exact layR_nil w A c lv
  · exact layR_alike c lv h hG ha h0
theorem layR_all : ∀ f lv, f + lv = 13 → LayRAt f lv
  | 0, lv, hf => fun w A L c h hG => by
    obtain rfl : lv = 13 := by omega
    exact layR_flat w A L c h hG hG.top
  | f + 1, lv, hf => fun w A L c h hG => by
    cases ha : alike L with
    | true =>
      rw [layL, if_pos ha]
      exact layR_flat w A L c h hG ha
    | false =>
      have h0 : 0 < L.length := by
        rcases Nat.eq_zero_or_pos L.length with h0 | h0
        · obtain rfl := List.eq_nil_of_length_eq_zero h0
          cases ha
        · exact h0
      exact layR_bran c lv hf (layR_all f (lv + 1) (by omega)) h hG ha h0
end Go.Proofs.YtmbdimonfdncpaaGreatDoor
