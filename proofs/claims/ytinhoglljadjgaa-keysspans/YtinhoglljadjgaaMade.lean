/-
  Contracts of what makes keys: copied, Next, Behind, Of; of the methods of Span; of the reference's Behind; of the statements' own small and awake.
-/
import Derived.Test.YtinhoglljadjgaaWalks
import Derived.Laws.MakeOwn
import Derived.Laws.CopyOwn
namespace Go.Proofs.Ytinhoglljadjgaa
open Go.RowKit
set_option maxHeartbeats 400000
set_option maxRecDepth 100000
theorem Try.info5 : (Try.prog.info? 5).map (fun i => (i.zero, i.size, i.bytes)) = some (some (.int .u8 0), 1, 1) := by kernel_rfl
theorem made_eq (n : Nat) : madeCells (Value.int .u8 0).cells n = (Lib.byteCells (List.replicate n 0)).toArray := by
  apply Array.ext
  · simp [madeCells, Lib.byteCells]
  · intro i h1 h2
    have e : (Value.int .u8 0).cells = #[.int .u8 0] := rfl
    simp only [madeCells, Array.getElem_map, e, Lib.byteCells, List.getElem_toArray, List.getElem_map, List.getElem_replicate]
    simp [Nat.mod_one]
theorem run_make_key (w : World) (n : Nat) (hn : n ≤ 1001) : (Instr.makeSlice 22 (.int .i64 (n : Int)) (.int .i64 (n : Int))).run Try.prog w = .ok (.slice (some ⟨w.heap.size, 0, none⟩) n n) (w.alloc (.cells (Lib.byteCells (List.replicate n 0)).toArray 5)) := by
  obtain ⟨i0, hi, hz0, hz1, hz2⟩ := info_parts Try.info5
  have h := run_make (P := Try.prog) w 22 5 i0 (.int .u8 0) Try.underlying22 hi hz0 .i64 .i64 (n : Int) (n : Int) (by omega) (by omega) (by rw [hz2]; omega) (by omega)
  rw [h, hz1]
  simp only [Int.toNat_natCast, Nat.mul_one]
  rw [made_eq]
theorem byteCells_one (l : List UInt8) : ∀ u ∈ Lib.byteCells l, u.oneCell' = true := by
  intro u hu
  simp only [Lib.byteCells, List.mem_map] at hu
  obtain ⟨b, _, rfl⟩ := hu
  rfl
theorem splice_key (l : List UInt8) (n : Nat) : splice (Lib.byteCells (List.replicate n 0)) 0 (Lib.byteCells (l.take n)) = Lib.byteCells (l.take n ++ List.replicate (n - l.length) 0) := by
  simp only [splice, List.take_zero, List.nil_append, Lib.byteCells, List.length_map, List.length_take, Nat.zero_add, List.map_append, List.map_replicate, List.drop_replicate]
  congr 2
  omega
theorem Bts.cells {w : World} {A : Option Addr} {l : List UInt8} (h : Bts w A l) (hp : 0 < l.length) : ∃ a, A = some a ∧ a.block < w.heap.size ∧ ∀ j v, (Lib.byteCells l)[j]? = some v → w.cell? (a.add j) = some v := by
  rcases h with rfl | ⟨b, off, rfl, hlt, hc⟩
  · simp at hp
  · refine ⟨_, rfl, hlt, fun j v hv => ?_⟩
    simp only [Lib.byteCells, List.getElem?_map, Option.map_eq_some_iff] at hv
    obtain ⟨x, hx, rfl⟩ := hv
    obtain ⟨hj, rfl⟩ := List.getElem?_eq_some_iff.1 hx
    rw [Go.WideShapes.add_plain]
    exact hc j hj
theorem Try.size5 : (Try.prog.info? 5).map (·.size) = some 1 := by kernel_rfl
/-- copy into a new row of noughts -/
theorem run_copy_key {w : World} {A : Option Addr} {l : List UInt8} (ha : Bts w A l) (c n : Nat) :
    ∃ (k : Int) (w2 : World), (Builtin.copy_ #[22, 22] 3 #[.slice (some ⟨w.heap.size, 0, none⟩) n n, .slice A l.length c]).run Try.prog (w.alloc (.cells (Lib.byteCells (List.replicate n 0)).toArray 5)) = .ok (.int .i64 k) w2 ∧
      w2.heap[w.heap.size]? = some (.cells (Lib.byteCells (l.take n ++ List.replicate (n - l.length) 0)).toArray 5 (0, 0)) ∧ Below w.heap.size w w2 := by
  have hnew : (w.alloc (.cells (Lib.byteCells (List.replicate n 0)).toArray 5)).heap[w.heap.size]? = some (.cells (Lib.byteCells (List.replicate n 0)).toArray 5 (0, 0)) := heap_alloc_new w _
  have hbel : Below w.heap.size w (w.alloc (.cells (Lib.byteCells (List.replicate n 0)).toArray 5)) := (Below.refl _ _).alloc (Nat.le_refl _) _
  have hlen : (Lib.byteCells (l.take n)).length = Nat.min l.length n := by rw [Lib.byteCells_length, List.length_take, Nat.min_comm]
  have hsp := splice_key l n
  rcases Nat.eq_zero_or_pos (l.take n).length with h0 | h0
  · have e : l.take n = [] := List.eq_nil_of_length_eq_zero h0
    rw [e] at hsp hlen
    refine ⟨_, _, run_copy_none (P := Try.prog) _ 22 22 3 5 _ A n n l.length c Try.underlying22 Try.size5 (by rw [← hlen]; rfl), ?_, hbel⟩
    rw [hnew, e, ← hsp]
    simp [splice, Lib.byteCells]
  · obtain ⟨a, rfl, _, hc⟩ := ((ha.take n).below hbel).cells h0
    have hfit : 0 + (Lib.byteCells (l.take n)).length ≤ (Lib.byteCells (List.replicate n (0 : UInt8))).toArray.size := by
      rw [List.size_toArray, Lib.byteCells_length, Lib.byteCells_length, List.length_take, List.length_replicate]; omega
    refine ⟨_, _, run_copy_row (P := Try.prog) _ 22 22 3 5 _ 0 n n a l.length c _ 5 _ Try.underlying22 Try.size5 hnew hlen hc hfit (byteCells_one _), ?_, below_setRow hbel (Nat.le_refl _) _⟩
    rw [setRow_heap _ _ _ _ 5 (0, 0) hnew, ← hsp]
    simp [splice]
theorem copied_any {w : World} {A : Option Addr} {l : List UInt8} (ha : Bts w A l) (c n : Nat) (hn : n ≤ 1001) :
    Calls Try.prog 22 #[.slice A l.length c, .int .i64 (n : Int)] w fun e w' => e = .returned (.slice (some ⟨w.heap.size, 0, none⟩) n n) ∧
      w'.heap[w.heap.size]? = some (.cells (Lib.byteCells (l.take n ++ List.replicate (n - l.length) 0)).toArray 5 (0, 0)) ∧ Below w.heap.size w w' := by
  have hmk := run_make_key w n hn
  obtain ⟨k, w2, hcp, hg, hb⟩ := run_copy_key ha c n
  obtain ⟨w1, hw1⟩ : ∃ w1, w1 = w.alloc (.cells (Lib.byteCells (List.replicate n 0)).toArray 5) := ⟨_, rfl⟩
  rw [← hw1] at hmk hcp
  have HG := Lib.hid hg; clear hg
  have HB := Lib.hid hb; clear hb
  clear hw1 ha
  go_enter Try.func22, Try.ntmps22
  go_wp2_with fail
  go_ret
  exact ⟨rfl, HG.out, HB.out⟩
/-- a row of bytes reads as its bytes -/
theorem bts_row {w : World} {g : Nat} {l : List UInt8} {fz : Nat × Nat} (h : w.heap[g]? = some (.cells (Lib.byteCells l).toArray 5 fz)) : Bts w (some ⟨g, 0, none⟩) l := by
  refine .inr ⟨g, 0, rfl, (Array.getElem?_eq_some_iff.1 h).1, fun i hi => ?_⟩
  rw [cell_of_row w g (0 + i) _ 5 fz h]
  simp [Lib.byteCells, hi]
theorem next_any {w : World} {A : Option Addr} {l : List UInt8} (ha : Bts w A l) (c : Nat) (hn : l.length ≤ 1000) :
    Calls Try.prog 13 #[.slice A l.length c] w fun e w' => e = .returned (.slice (some ⟨w.heap.size, 0, none⟩) (l.length + 1) (l.length + 1)) ∧
      Bts w' (some ⟨w.heap.size, 0, none⟩) (l ++ [0]) ∧ Below w.heap.size w w' := by
  have h := copied_any ha c (l.length + 1) (by omega)
  have e : l.take (l.length + 1) ++ List.replicate (l.length + 1 - l.length) 0 = l ++ [0] := by
    rw [List.take_of_length_le (by omega), Nat.add_sub_cancel_left]; rfl
  rw [e] at h
  obtain ⟨n, hn2⟩ : ∃ n : Nat, n = l.length + 1 := ⟨_, rfl⟩
  rw [← hn2] at h ⊢
  have en : ((l.length : Int) + 1) = (n : Int) := by omega
  have H := Lib.hid h; clear h
  clear ha e hn2
  go_enter Try.func13, Try.ntmps13
  go_wp2_with fail
  refine H.out.mono ?_
  rintro e w' ⟨rfl, hg, hb⟩
  have HG := Lib.hid hg; clear hg
  have HB := Lib.hid hb; clear hb
  go_wp2_with fail
  go_ret
  exact ⟨rfl, bts_row HG.out, HB.out⟩
/-- one more in the last place of a new row -/
theorem row_last {w : World} {g j : Nat} {l : List UInt8} (hj : j < l.length) (h : w.heap[g]? = some (.cells (Lib.byteCells l).toArray 5 (0, 0))) :
    w.cell? ⟨g, j, none⟩ = some (.int .u8 ((l[j]).toNat : Int)) ∧ w.frozen? ⟨g, j, none⟩ = false := by
  constructor
  · rw [cell_of_row w g j _ 5 _ h]
    simp [Lib.byteCells, hj]
  · simp [World.frozen?, h]
theorem set_last {l : List UInt8} {j x : Nat} (hj : j < l.length) (hx : x = (l[j]).toNat) (h : x < 255) :
    (Lib.byteCells (l.take (j + 1))).set j (.int .u8 ((x : Int) + 1)) = Lib.byteCells (l.take j ++ [l[j] + 1]) := by
  rw [List.take_succ_eq_append_getElem hj]
  simp only [Lib.byteCells, List.map_append, List.map_cons, List.map_nil]
  rw [List.set_append_right _ _ (by simp; omega)]
  have e : j - (List.map (fun b : UInt8 => Value.int IntKind.u8 ((b.toNat : Nat) : Int)) (l.take j)).length = 0 := by simp; omega
  have e2 : ((l[j] + 1).toNat : Int) = (x : Int) + 1 := by
    rw [UInt8.toNat_add, hx]
    have h3 : (1 : UInt8).toNat = 1 := rfl
    omega
  rw [e, List.set_cons_zero, e2]
theorem behind_any {w : World} {A : Option Addr} {l : List UInt8} (ha : Bts w A l) (c : Nat) (hn : l.length ≤ 1000) :
    Calls Try.prog 14 #[.slice A l.length c] w fun e w' => ∃ A' c', e = .returned (.tuple #[.slice A' ((bh l).getD []).length c', .bool (bh l).isSome]) ∧
      ((bh l).getD []).length ≤ c' ∧ Bts w' A' ((bh l).getD []) ∧ (∀ a, A' = some a → w.heap.size ≤ a.block) ∧ Below w.heap.size w w' := by
  have HA := Lib.hid ha; clear ha
  go_enter Try.func14, Try.ntmps14
  go_wp2
  go_loop [4] (fun i => ∃ j : Nat, i = .int .i64 j ∧ j ≤ l.length ∧ Hid (bh (l.take j) = bh l)) (fun i => (intOf i).toNat)
  case atStart => exact ⟨l.length, rfl, Nat.le_refl _, by simp [Hid]⟩
  case round =>
    obtain ⟨j, rfl, hj, hbh⟩ := hrel
    rcases j with _ | j
    · have hb : bh l = none := by rw [← hbh.out]; rfl
      have HB := Lib.hid hb; clear hb
      go_wp2
      go_ret2
      refine ⟨none, 0, ?_, ?_, ?_, (fun a e => by cases e), Below.refl _ _⟩
      · rw [HB.out]; rfl
      · rw [HB.out]; exact Nat.le_refl _
      · rw [HB.out]; exact .inl rfl
    · obtain ⟨ab, ao, rfl, hca⟩ := HA.out.at (show j < l.length by omega)
      have hcut := bh_cut (show j < l.length by omega)
      have hsub : (((j + 1 : Nat) : Int) - 1) = (j : Int) := by omega
      by_cases h3 : (l[j]).toNat = 255
      · have h4 : l[j] = 255 := UInt8.toNat_inj.1 h3
        rw [if_pos h4, hbh.out] at hcut
        rw [h3] at hca
        have HC := Lib.hid hcut; clear hcut
        clear h3 h4 hbh HA
        go_wp2
        go_round
        case rel => exact ⟨j, by go_num, by omega, HC.out.symm⟩
        case measure => simp [intOf]
      · have h4 : l[j] ≠ 255 := fun e => h3 (by rw [e]; rfl)
        rw [if_neg h4, hbh.out] at hcut
        obtain ⟨x, hx⟩ : ∃ x : Nat, x = (l[j]).toNat := ⟨_, rfl⟩
        have hx2 : x < 255 := by have := (l[j]).toNat_lt; omega
        rw [← hx] at hca
        have e3 : ((x : Int) == 255) = false := by simp; omega
        have hcp := copied_any HA.out c (j + 1) (by omega)
        have HC := Lib.hid hcut; clear hcut
        have HX := Lib.hid hx; clear hx
        have HCP := Lib.hid hcp; clear hcp
        clear h3 h4 hbh HA
        go_wp2_with fail
        refine HCP.out.mono ?_
        rintro e w2 ⟨rfl, hg, hb2⟩
        rw [Nat.sub_eq_zero_of_le (show j + 1 ≤ l.length by omega), List.replicate_zero, List.append_nil] at hg
        obtain ⟨hc2, hf2⟩ := row_last (show j < (l.take (j + 1)).length by rw [List.length_take]; omega) hg
        rw [List.getElem_take, ← HX.out] at hc2
        have HG := Lib.hid hg; clear hg
        have HB2 := Lib.hid hb2; clear hb2
        go_wp2_with fail
        go_ret2
        have hset := heap_setCell_same w2 w.heap.size j _ 5 (.int .u8 ((x : Int) + 1)) HG.out
        rw [List.setIfInBounds_toArray, set_last (by omega) HX.out hx2] at hset
        have e5 : (l.take j ++ [l[j] + 1]).length = j + 1 := by simp; omega
        refine ⟨some ⟨w.heap.size, 0, none⟩, j + 1, ?_, ?_, ?_, (fun a e => by cases e; exact Nat.le_refl _), HB2.out.setCell (Nat.le_refl _) _⟩
        · rw [HC.out, Option.getD_some, e5]; rfl
        · rw [HC.out, Option.getD_some, e5]; exact Nat.le_refl _
        · rw [HC.out, Option.getD_some]; exact bts_row hset
/-- a one-byte slice as a string -/
theorem conv_one (v : Int) (W : World) : (convert 22 9 (.slice (some ⟨W.heap.size, 0, none⟩) 1 1)).run Try.prog (W.alloc (.cells #[.int .u8 v] 5)) = .ok (.string ⟨#[UInt8.ofNat v.toNat]⟩) (W.alloc (.cells #[.int .u8 v] 5)) :=
  run_convert_bytes_arg _ 22 5 Try.underlying22 Try.underlying5 _ 0 1 1 [v] rfl (by intro i hi; have h0 : i = 0 := by omega
                                                                                    subst h0; simp) 9 Try.underlying9
def strLen : Value → Nat
  | .string s => s.size
  | _ => 0
theorem head_list (s : ByteArray) (n : Nat) : (s.extract 0 n).data.toList = s.data.toList.take n := by
  rw [Lib.extract_data]
  simp
theorem refBehind_any (s : ByteArray) (w : World) (hs : s.size ≤ 1000) :
    Calls Try.prog 15 #[.string s] w fun e w' => e = .returned (.tuple #[.string ⟨((bh s.data.toList).getD []).toArray⟩, .bool (bh s.data.toList).isSome]) ∧ Below w.heap.size w w' := by
  have hcv := conv_one
  go_enter Try.func15, Try.ntmps15
  go_wp2
  go_loop [0] (fun a => ∃ sq : ByteArray, a = .string sq ∧ sq.size ≤ 1000 ∧ Hid (bh sq.data.toList = bh s.data.toList)) (fun a => strLen a)
  case atStart => exact ⟨s, rfl, hs, rfl⟩
  case round =>
    obtain ⟨sq, rfl, hq, hbh⟩ := hrel
    by_cases h0 : 0 < sq.size
    · obtain ⟨n, hn⟩ : ∃ n : Nat, sq.size = n + 1 := ⟨sq.size - 1, by omega⟩
      have hlt : n < sq.size := by omega
      have hl : sq.data.toList.length = n + 1 := by rw [← Lib.size_eq]; exact hn
      have e1 : ((sq.size : Int) - 1) = (n : Int) := by omega
      have hcut := bh_cut (l := sq.data.toList) (n := n) (by omega)
      rw [List.take_of_length_le (by omega), hbh.out, at_list sq n hlt] at hcut
      have HCUT := Lib.hid hcut; clear hcut
      have HL := Lib.hid hl; clear hl
      have HN := Lib.hid hn; clear hn
      by_cases h3 : (sq[n]'hlt).toNat < 255
      · have h4 : sq[n] ≠ 255 := fun e => by rw [e] at h3; exact absurd h3 (by decide)
        have hc := HCUT.out
        rw [if_neg h4] at hc
        have HC := Lib.hid hc; clear hc
        clear HCUT hbh h4
        go_wp2
        go_ret2
        refine ⟨?_, (Below.refl _ _).alloc (Nat.le_refl _) _⟩
        rw [HC.out, Option.getD_some, ← head_list]
        show Ending.returned (.tuple #[.string (sq.extract 0 n ++ ⟨#[sq[n] + 1]⟩), .bool true]) = _
        have e : (sq.extract 0 n ++ ⟨#[sq[n] + 1]⟩ : ByteArray) = ⟨((sq.extract 0 n).data.toList ++ [sq[n] + 1]).toArray⟩ := by
          apply ByteArray.ext
          apply Array.ext'
          rw [ByteArray.data_append, Array.toList_append]
        rw [e]
        rfl
      · have h4 : sq[n] = 255 := UInt8.toNat_inj.1 (by have := (sq[n]).toNat_lt; have e : (255 : UInt8).toNat = 255 := rfl; omega)
        have hc := HCUT.out
        rw [if_pos h4] at hc
        have HC := Lib.hid hc; clear hc
        clear HCUT hbh h4
        go_wp2
        go_round
        case rel =>
          refine ⟨_, rfl, ?_, ?_⟩
          · rw [Lib.size_eq, head_list, List.length_take]; omega
          · show _ = _
            rw [head_list, HC.out]
        case measure =>
          simp only [strLen]
          rw [Lib.size_eq, head_list, List.length_take]; omega
    · have e : bh s.data.toList = none := by
        rw [← hbh.out, List.eq_nil_of_length_eq_zero (show sq.data.toList.length = 0 by rw [← Lib.size_eq]; omega)]; rfl
      have HE := Lib.hid e; clear e
      go_wp2
      go_ret2
      refine ⟨?_, Below.refl _ _⟩
      rw [HE.out]; rfl
/-- the statements' own 'small': a row of slices, each of at most 200 bytes -/
theorem small_any (b c : Nat) (rows : List (Option Addr × Nat × Nat)) (w : World) (hc : ∀ i (h : i < rows.length), w.cell? ⟨b, i, none⟩ = some (.slice rows[i].1 rows[i].2.1 rows[i].2.2)) (hl : rows.length ≤ 100) :
    Calls Try.prog 8 #[.slice (some ⟨b, 0, none⟩) rows.length c] w fun e w' => e = .returned (.bool (rows.all fun r => decide (r.2.1 ≤ 200))) ∧ w = w' := by
  have HC := Lib.hid hc; clear hc
  go_enter Try.func8, Try.ntmps8
  go_wp2
  go_loop [7] (fun i => ∃ j : Nat, i = .int .i64 j ∧ j ≤ rows.length ∧ Hid (∀ k (h : k < rows.length), k < j → rows[k].2.1 ≤ 200)) (fun i => rows.length - (intOf i).toNat)
  case atStart => exact ⟨0, rfl, by omega, fun k _ h => by omega⟩
  case round =>
    obtain ⟨j, rfl, hj, hall⟩ := hrel
    by_cases hlt : j < rows.length
    · have hcell := HC.out j hlt
      obtain ⟨r, hr⟩ : ∃ r, r = rows[j] := ⟨_, rfl⟩
      rw [← hr] at hcell
      have HR := Lib.hid hr; clear hr
      obtain ⟨ra, rl, rc⟩ := r
      by_cases h2 : 200 < rl
      · have hf : (rows.all fun r => decide (r.2.1 ≤ 200)) = false := by
          rw [List.all_eq_false]
          exact ⟨rows[j], List.getElem_mem hlt, by rw [← HR.out]; simp; omega⟩
        have HF := Lib.hid hf; clear hf
        go_wp2
        go_ret
        exact ⟨ret_bool (by rw [HF.out]), rfl⟩
      · go_wp2
        go_round
        case rel =>
          refine ⟨j + 1, by go_num, by omega, ?_⟩
          intro k hk hkj
          rcases Nat.lt_or_ge k j with g | g
          · exact hall.out k hk g
          · obtain rfl : k = j := by omega
            rw [← HR.out]
            show rl ≤ 200
            omega
        case measure => simp [intOf]; omega
    · have hf : (rows.all fun r => decide (r.2.1 ≤ 200)) = true := by
        rw [List.all_eq_true]
        intro r hr
        obtain ⟨k, hk, rfl⟩ := List.mem_iff_getElem.1 hr
        simpa using hall.out k hk (by omega)
      have HF := Lib.hid hf; clear hf
      go_wp2
      go_ret
      exact ⟨ret_bool (by rw [HF.out]), rfl⟩
theorem small2 (w : World) (A : Option Addr) (n c : Nat) (B : Option Addr) (m d : Nat) :
    Calls Try.prog 8 #[.slice (some ⟨w.heap.size, 0, none⟩) 2 2] (w.alloc (.cells #[.slice A n c, .slice B m d] 22)) fun e w' => e = .returned (.bool (decide (n ≤ 200) && decide (m ≤ 200))) ∧ w.alloc (.cells #[.slice A n c, .slice B m d] 22) = w' := by
  have h := small_any w.heap.size 2 [(A, n, c), (B, m, d)] (w.alloc (.cells #[.slice A n c, .slice B m d] 22)) (fun i hi => by
    have : i = 0 ∨ i = 1 := by simp at hi; omega
    rcases this with rfl | rfl <;> simp) (by simp)
  simpa using h
theorem small3 (w : World) (A : Option Addr) (n c : Nat) (B : Option Addr) (m d : Nat) (C : Option Addr) (k e : Nat) :
    Calls Try.prog 8 #[.slice (some ⟨w.heap.size, 0, none⟩) 3 3] (w.alloc (.cells #[.slice A n c, .slice B m d, .slice C k e] 22)) fun e' w' => e' = .returned (.bool (decide (n ≤ 200) && (decide (m ≤ 200) && decide (k ≤ 200)))) ∧ w.alloc (.cells #[.slice A n c, .slice B m d, .slice C k e] 22) = w' := by
  have h := small_any w.heap.size 3 [(A, n, c), (B, m, d), (C, k, e)] (w.alloc (.cells #[.slice A n c, .slice B m d, .slice C k e] 22)) (fun i hi => by
    have : i = 0 ∨ i = 1 ∨ i = 2 := by simp at hi; omega
    rcases this with rfl | rfl | rfl <;> simp) (by simp)
  simpa using h
theorem small4 (w : World) (A : Option Addr) (n c : Nat) (B : Option Addr) (m d : Nat) (C : Option Addr) (k e : Nat) (D : Option Addr) (j f : Nat) :
    Calls Try.prog 8 #[.slice (some ⟨w.heap.size, 0, none⟩) 4 4] (w.alloc (.cells #[.slice A n c, .slice B m d, .slice C k e, .slice D j f] 22)) fun e' w' => e' = .returned (.bool (decide (n ≤ 200) && (decide (m ≤ 200) && (decide (k ≤ 200) && decide (j ≤ 200))))) ∧ w.alloc (.cells #[.slice A n c, .slice B m d, .slice C k e, .slice D j f] 22) = w' := by
  have h := small_any w.heap.size 4 [(A, n, c), (B, m, d), (C, k, e), (D, j, f)] (w.alloc (.cells #[.slice A n c, .slice B m d, .slice C k e, .slice D j f] 22)) (fun i hi => by
    have : i = 0 ∨ i = 1 ∨ i = 2 ∨ i = 3 := by simp at hi; omega
    rcases this with rfl | rfl | rfl | rfl <;> simp) (by simp)
  simpa using h
/-- a struct Span by value -/
abbrev span (A : Option Addr) (n c : Nat) (B : Option Addr) (m d : Nat) (cl : Bool) : Value := .agg #[.slice A n c, .slice B m d, .bool cl]
theorem has_any {w : World} {F T K : Option Addr} {f t k : List UInt8} (hf : Bts w F f) (ht : Bts w T t) (hk : Bts w K k) (fc tc kc : Nat) (cl : Bool) :
    Calls Try.prog 17 #[span F f.length fc T t.length tc cl, .slice K k.length kc] w fun e w' => e = .returned (.bool (inSpan f t cl k)) ∧ Below w.heap.size w w' := by
  have hal : ∀ o, Below w.heap.size w (w.alloc o) := fun o => (Below.refl _ _).alloc (Nat.le_refl _) o
  have h1 := fun o => compare_any (hk.below (hal o)) (hf.below (hal o)) kc fc
  have h2 := fun o => compare_any (hk.below (hal o)) (ht.below (hal o)) kc tc
  obtain ⟨x, hx⟩ : ∃ x, x = cmp k f := ⟨_, rfl⟩
  obtain ⟨y, hy⟩ : ∃ y, y = cmp k t := ⟨_, rfl⟩
  rw [← hx] at h1
  rw [← hy] at h2
  have hr : inSpan f t cl k = (decide (0 ≤ x) && (!cl || decide (y < 0))) := by rw [inSpan, hx, hy]
  rw [hr]
  have H1 := Lib.hid h1; clear h1
  have H2 := Lib.hid h2; clear h2
  have HAL := Lib.hid hal; clear hal
  clear hx hy hr hf ht hk
  by_cases hx0 : 0 ≤ x
  · cases cl
    · go_enter Try.func17, Try.ntmps17
      go_wp2_with fail
      refine (H1.out _).mono ?_
      rintro e w' ⟨rfl, rfl⟩
      go_wp2_with fail
      go_ret
      refine ⟨ret_bool ?_, HAL.out _⟩
      simp [hx0]
    · by_cases hy0 : y < 0
      · go_enter Try.func17, Try.ntmps17
        go_wp2_with fail
        refine (H1.out _).mono ?_
        rintro e w' ⟨rfl, rfl⟩
        go_wp2_with fail
        refine (H2.out _).mono ?_
        rintro e w' ⟨rfl, rfl⟩
        go_wp2_with fail
        go_ret
        refine ⟨ret_bool ?_, HAL.out _⟩
        simp [hx0, hy0]
      · go_enter Try.func17, Try.ntmps17
        go_wp2_with fail
        refine (H1.out _).mono ?_
        rintro e w' ⟨rfl, rfl⟩
        go_wp2_with fail
        refine (H2.out _).mono ?_
        rintro e w' ⟨rfl, rfl⟩
        go_wp2_with fail
        go_ret
        refine ⟨ret_bool ?_, HAL.out _⟩
        simp; omega
  · go_enter Try.func17, Try.ntmps17
    go_wp2_with fail
    refine (H1.out _).mono ?_
    rintro e w' ⟨rfl, rfl⟩
    go_wp2_with fail
    go_ret
    refine ⟨ret_bool ?_, HAL.out _⟩
    simp; omega
theorem empty_any {w : World} {F T : Option Addr} {f t : List UInt8} (hf : Bts w F f) (ht : Bts w T t) (fc tc : Nat) (cl : Bool) :
    Calls Try.prog 18 #[span F f.length fc T t.length tc cl] w fun e w' => e = .returned (.bool (noSpan f t cl)) ∧ Below w.heap.size w w' := by
  have hal : ∀ o, Below w.heap.size w (w.alloc o) := fun o => (Below.refl _ _).alloc (Nat.le_refl _) o
  have h1 := fun o => compare_any (ht.below (hal o)) (hf.below (hal o)) tc fc
  obtain ⟨x, hx⟩ : ∃ x, x = cmp t f := ⟨_, rfl⟩
  rw [← hx] at h1
  have hr : noSpan f t cl = (cl && decide (x ≤ 0)) := by rw [noSpan, hx]
  rw [hr]
  have H1 := Lib.hid h1; clear h1
  have HAL := Lib.hid hal; clear hal
  clear hx hr hf ht
  cases cl
  · go_enter Try.func18, Try.ntmps18
    go_wp2_with fail
    go_ret
    exact ⟨rfl, HAL.out _⟩
  · by_cases hx0 : x ≤ 0
    · go_enter Try.func18, Try.ntmps18
      go_wp2_with fail
      refine (H1.out _).mono ?_
      rintro e w' ⟨rfl, rfl⟩
      go_wp2_with fail
      go_ret
      refine ⟨ret_bool ?_, HAL.out _⟩
      simp [hx0]
    · go_enter Try.func18, Try.ntmps18
      go_wp2_with fail
      refine (H1.out _).mono ?_
      rintro e w' ⟨rfl, rfl⟩
      go_wp2_with fail
      go_ret
      refine ⟨ret_bool ?_, HAL.out _⟩
      simp
theorem bts_far {w : World} {A : Option Addr} {l : List UInt8} (h : Bts w A l) {g i : Nat} (hA : ∀ a, A = some a → a.block ≠ g) (v : Value) : Bts (w.setCell ⟨g, i, none⟩ v) A l := by
  rcases h with h | ⟨b, off, rfl, hlt, hc⟩
  · exact .inl h
  · refine .inr ⟨b, off, rfl, by simpa [World.setCell] using hlt, fun i hi => ?_⟩
    rw [World.cell?_setCell_far _ _ _ _ (fun e => hA _ rfl e.symm)]
    exact hc i hi
theorem of_any {w : World} {A : Option Addr} {l : List UInt8} (ha : Bts w A l) (c : Nat) (hn : l.length ≤ 1000) :
    Calls Try.prog 20 #[.slice A l.length c] w fun e w' => ∃ F fc T tc, e = .returned (span F l.length fc T ((bh l).getD []).length tc (bh l).isSome) ∧
      Bts w' F l ∧ Bts w' T ((bh l).getD []) ∧ Below w.heap.size w w' := by
  have hal : ∀ o, Below w.heap.size w (w.alloc o) := fun o => (Below.refl _ _).alloc (Nat.le_refl _) o
  have h1 := fun o => behind_any (ha.below (hal o)) c hn
  have H1 := Lib.hid h1; clear h1
  have HAL := Lib.hid hal; clear hal
  have HA := Lib.hid ha; clear ha
  go_enter Try.func20, Try.ntmps20
  go_wp2_with fail
  refine (H1.out _).mono ?_
  rintro e w1 ⟨T, tc, rfl, htc, hbt, hblk, hbel1⟩
  have hrow : w1.heap[w.heap.size]? = some (.cells #[.slice none 0 0, .slice none 0 0, .bool false] 35 (0, 0)) := by
    rw [hbel1.block _ (by simp)]
    exact heap_alloc_new w _
  have hb1 : Below w.heap.size w w1 := (HAL.out _).trans (hbel1.mono (by simp))
  have hlt1 : w.heap.size < w1.heap.size := (Array.getElem?_eq_some_iff.1 hrow).1
  have hcp := copied_any (HA.out.below hb1) c l.length (by omega)
  rw [Nat.sub_self, List.replicate_zero, List.append_nil, List.take_length] at hcp
  have HBT := Lib.hid hbt; clear hbt
  have HBLK := Lib.hid hblk; clear hblk
  have HB1 := Lib.hid hb1; clear hb1
  have HR := Lib.hid hrow; clear hrow
  have HCP := Lib.hid hcp; clear hcp
  clear hbel1 HAL H1
  obtain ⟨q, hq⟩ : ∃ q, q = (bh l).isSome := ⟨_, rfl⟩
  obtain ⟨tl, htl⟩ : ∃ tl, tl = ((bh l).getD []) := ⟨_, rfl⟩
  rw [← hq, ← htl]
  rw [← htl] at HBT
  have HQ := Lib.hid hq; clear hq
  have HTL := Lib.hid htl; clear htl
  go_wp2_with fail
  refine HCP.out.mono ?_
  rintro e w2 ⟨rfl, hg2, hb2⟩
  have hrow2 : w2.heap[w.heap.size]? = some (.cells #[.slice none 0 0, .slice none 0 0, .bool false] 35 (0, 0)) := by
    rw [hb2.block _ hlt1]
    exact HR.out
  have HG2 := Lib.hid hg2; clear hg2
  have HB2 := Lib.hid hb2; clear hb2
  have c0 : w2.cell? ⟨w.heap.size, 0, none⟩ = some (.slice none 0 0) := by rw [cell_of_row w2 _ 0 _ 35 _ hrow2]; rfl
  have c1 : w2.cell? ⟨w.heap.size, 1, none⟩ = some (.slice none 0 0) := by rw [cell_of_row w2 _ 1 _ 35 _ hrow2]; rfl
  have c2 : w2.cell? ⟨w.heap.size, 2, none⟩ = some (.bool false) := by rw [cell_of_row w2 _ 2 _ 35 _ hrow2]; rfl
  have f0 : ∀ i, w2.frozen? ⟨w.heap.size, i, none⟩ = false := fun i => by simp [World.frozen?, hrow2]
  have HR2 := Lib.hid hrow2; clear hrow2
  go_wp2_with fail
  have r1 := heap_setCell_same w2 w.heap.size 0 _ 35 (.slice (some ⟨w1.heap.size, 0, none⟩) l.length l.length) HR2.out
  have r2 := heap_setCell_same _ w.heap.size 1 _ 35 (.slice T tl.length tc) r1
  have r3 := heap_setCell_same _ w.heap.size 2 _ 35 (.bool q) r2
  refine bodyPost_ret (results_cell_row rfl _ _ w.heap.size 35 _ (0, 0) _ rfl r3 Try.underlying35 rfl (by kernel_rfl)) rfl ?_
  rw [← HTL.out, ← HQ.out]
  have hbt2 := HBT.out.below HB2.out
  refine ⟨some ⟨w1.heap.size, 0, none⟩, l.length, T, tc, rfl, ?_, ?_, ?_⟩
  · exact bts_far (bts_far (bts_far (bts_row HG2.out) (by simpa using Nat.ne_of_gt hlt1) _) (by simpa using Nat.ne_of_gt hlt1) _) (by simpa using Nat.ne_of_gt hlt1) _
  · have hne : ∀ a, T = some a → a.block ≠ w.heap.size := by
      intro a e
      have := HBLK.out a e
      simp at this
      omega
    exact bts_far (bts_far (bts_far hbt2 hne _) hne _) hne _
  · exact (((HB1.out.trans (HB2.out.mono (Nat.le_of_lt hlt1))).setCell (Nat.le_refl _) _).setCell (Nat.le_refl _) _).setCell (Nat.le_refl _) _
theorem conv_const (w : World) (C : Array Value) (n c : Nat) : (convert 22 22 (.slice (some ⟨w.heap.size, 0, none⟩) n c)).run Try.prog (w.alloc (.cells C 5)) = .ok (.slice (some ⟨w.heap.size, 0, none⟩) n c) (w.alloc (.cells C 5 (C.size, C.size + 1))) :=
  Lib.run_convert_bytes_const (P := Try.prog) w 22 5 C n c Try.underlying22 Try.underlying5
theorem conv_const2 (w : World) (o : Obj) (C : Array Value) (n c : Nat) : (convert 22 22 (.slice (some ⟨w.heap.size + 1, 0, none⟩) n c)).run Try.prog ((w.alloc o).alloc (.cells C 5)) = .ok (.slice (some ⟨w.heap.size + 1, 0, none⟩) n c) ((w.alloc o).alloc (.cells C 5 (C.size, C.size + 1))) := by
  have h := conv_const (w.alloc o) C n c
  have e : (w.alloc o).heap.size = w.heap.size + 1 := by simp
  rw [e] at h
  exact h
theorem bts_new (w : World) (l : List UInt8) (C : Array Value) (fz : Nat × Nat) (hC : C = (Lib.byteCells l).toArray) : Bts (w.alloc (.cells C 5 fz)) (some ⟨w.heap.size, 0, none⟩) l := by
  subst hC
  exact bts_row (fz := fz) (heap_alloc_new w _)
theorem awake_any (w : World) : Calls Try.prog 9 #[] w fun e w' => e = .returned (.bool true) ∧ Below w.heap.size w w' := by
  have hcv := conv_const
  have hcv2 := conv_const2
  go_enter Try.func9, Try.ntmps9
  go_wp2_with fail
  refine (behind_any (l := [97, 255]) (bts_new w [97, 255] _ _ rfl) 2 (by decide)).mono ?_
  rintro e w1 ⟨A', c', rfl, _, hb, _, hbel⟩
  have hB1 : Below w.heap.size w w1 := ((Below.refl _ _).alloc (Nat.le_refl _) _).trans (hbel.mono (by simp))
  have HB1 := Lib.hid hB1; clear hB1 hbel
  have e1 : (bh [97, 255]).getD [] = [98] := by decide
  have e2 : (bh [97, 255]).isSome = true := by decide
  rw [e1] at hb ⊢
  rw [e2]
  have HB := Lib.hid hb; clear hb e1 e2
  simp only [List.length_cons, List.length_nil, Nat.zero_add]
  go_wp2_with fail
  have hc : ∀ o o2 : Obj, Below w1.heap.size w1 ((w1.alloc o).alloc o2) := fun o o2 => ((Below.refl _ _).alloc (Nat.le_refl _) o).alloc (by simp) o2
  have hk := conv_any (HB.out.below (hc (.cells #[.int .u8 97] 5 (1, 2)) (.cells #[.int .u8 97, .int .u8 0] 5 (2, 3)))) c'
  have hbw : Below w.heap.size w ((w1.alloc (.cells #[.int .u8 97] 5 (1, 2))).alloc (.cells #[.int .u8 97, .int .u8 0] 5 (2, 3))) := HB1.out.trans ((hc _ _).mono HB1.out.size)
  have x1 : Bts ((w1.alloc (.cells #[.int .u8 97] 5 (1, 2))).alloc (.cells #[.int .u8 97, .int .u8 0] 5 (2, 3))) (some ⟨w1.heap.size, 0, none⟩) [97] := (bts_new w1 [97] _ _ rfl).below ((Below.refl _ _).alloc (Nat.le_refl _) _)
  have x2 : Bts ((w1.alloc (.cells #[.int .u8 97] 5 (1, 2))).alloc (.cells #[.int .u8 97, .int .u8 0] 5 (2, 3))) (some ⟨w1.heap.size + 1, 0, none⟩) [97, 0] := by
    have h := bts_new (w1.alloc (.cells #[.int .u8 97] 5 (1, 2))) [97, 0] #[.int .u8 97, .int .u8 0] (2, 3) rfl
    simpa using h
  have hcmp := compare_any x1 x2 1 2
  have e3 : cmp [97] [97, 0] = -1 := by decide
  rw [e3] at hcmp
  obtain ⟨w2, hw2⟩ : ∃ w2, w2 = (w1.alloc (.cells #[.int .u8 97] 5 (1, 2))).alloc (.cells #[.int .u8 97, .int .u8 0] 5 (2, 3)) := ⟨_, rfl⟩
  simp only [List.length_cons, List.length_nil, Nat.zero_add, Nat.reduceAdd] at hk hcmp ⊢
  rw [← hw2] at hk hbw hcmp ⊢
  have HBW := Lib.hid hbw; clear hbw
  have HCM := Lib.hid hcmp; clear hcmp
  clear hw2 x1 x2 hc e3 hcv hcv2
  refine HCM.out.mono ?_
  rintro e w' ⟨rfl, rfl⟩
  go_wp2_with fail
  go_ret
  exact ⟨rfl, HBW.out⟩
end Go.Proofs.Ytinhoglljadjgaa
