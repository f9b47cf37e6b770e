/-
  Contracts of the reference's length, Bound, Held.
-/
import Derived.Test.YtlpngoaachdjhaaTimes
namespace Go.Proofs.Ytlpngoaachdjhaa
open Go.RowKit
set_option maxHeartbeats 400000
set_option maxRecDepth 100000
theorem length_any (L : List Nat) (A : Option Addr) (c : Nat) (w : World) (hb : Digs w A L) (hL : L.length ≤ 100) (hd : ∀ d ∈ L, d < 65536) (m : Nat) (hm : m = bl (val L)) :
    Calls Try.prog 16 #[.slice A L.length c] w fun e w' => e = .returned (.int .i64 (m : Nat)) ∧ w = w' := by
  have HB := Lib.hid hb; clear hb
  have HD := Lib.hid hd; clear hd
  have HM := Lib.hid hm; clear hm
  go_enter Try.func16, Try.ntmps16
  go_wp2_with fail
  go_loop [3] (fun i => ∃ k : Nat, k ≤ L.length ∧ i = .int .i64 ((k : Int) - 1) ∧ Hid (m = bl (val (L.take k)))) (fun i => ((intOf i) + 1).toNat)
  case atStart => exact ⟨L.length, by omega, rfl, by show _ = _; rw [List.take_length]; exact HM.out⟩
  case round =>
    obtain ⟨k, hk, rfl, hmk⟩ := hrel
    by_cases h0 : k = 0
    · subst h0
      have hz : m = 0 := hmk.out
      subst hz
      clear HM hmk
      go_wp2_with fail
      go_ret
      exact ⟨rfl, rfl⟩
    · obtain ⟨j, rfl⟩ : ∃ j, k = j + 1 := ⟨k - 1, by omega⟩
      have ej : (((j + 1 : Nat) : Int) - 1) = (j : Int) := by omega
      rw [ej]
      have hlt : j < L.length := by omega
      obtain ⟨b, off, rfl, hcell⟩ := HB.out.at_ j hlt
      have hx2 : L[j] < 65536 := HD.out _ (List.getElem_mem hlt)
      have htop : L[j] ≠ 0 → m = 16 * j + bl L[j] := fun h => hmk.out.trans (bl_top hlt HD.out h)
      have hnone : L[j] = 0 → m = bl (val (L.take j)) := fun h => hmk.out.trans (by rw [val_none hlt h])
      obtain ⟨x, hx⟩ : ∃ x, x = L[j] := ⟨_, rfl⟩
      rw [← hx] at hcell hx2 htop hnone
      have HT := Lib.hid htop; clear htop
      have HN := Lib.hid hnone; clear hnone
      have HX := Lib.hid ((bl_le x 16).2 hx2)
      clear hx hmk h0 ej
      go_wp2_with fail
      go_loop [4, 5] (fun n y => ∃ a q : Nat, n = .int .i64 a ∧ y = .int .i64 q ∧ q < 65536 ∧ a ≤ 16 ∧ Hid (a + bl q = bl x)) (fun _ y => (intOf y).toNat)
      case atStart => exact ⟨0, x, rfl, rfl, hx2, by omega, by show _ = _; omega⟩
      case round =>
        obtain ⟨a, q, rfl, rfl, hq, ha, hsum⟩ := hrel
        by_cases hq0 : q = 0
        · subst hq0
          have he : a = bl x := by have := hsum.out; rw [bl_zero] at this; omega
          by_cases ha0 : 0 < a
          · have hmm : m = 16 * j + a := by
              have hx0 : x ≠ 0 := fun e => by rw [e, bl_zero] at he; omega
              rw [he]
              exact HT.out hx0
            have HMM := Lib.hid hmm; clear hmm
            clear he hsum
            go_wp2_with fail
            change bodyPost Try.prog Try.f16 (fun e w' => _) Exit.ret _ _
            go_ret
            exact ⟨ret_int (by have := HMM.out; omega), rfl⟩
          · obtain rfl : a = 0 := by omega
            have hx0 : x = 0 := by
              rcases Nat.eq_zero_or_pos x with h | h
              · exact h
              · have := bl_pos (n := x) (by omega)
                omega
            have HMM : Hid (m = bl (val (L.take j))) := HN.out hx0
            clear he hsum hx0
            go_wp2_with fail
            go_round
            case rel => exact ⟨j, by omega, rfl, HMM.out⟩
            case measure => simp [intOf]
        · obtain ⟨r, hr⟩ : ∃ r, r = q / 2 := ⟨_, rfl⟩
          have e1 : (q : Int).tdiv 2 = (r : Int) := by rw [Int.tdiv_eq_ediv_of_nonneg (by omega)]; omega
          have e2 : (q : Int) / 2 = (r : Int) := by omega
          have hs2 : a + 1 + bl r = bl x := by
            have := bl_half q hq0
            have := hsum.out
            rw [hr]
            omega
          have ha1 : a + 1 ≤ 16 := by have := HX.out; omega
          have hrq : r < q := by omega
          have hqp : 0 < q := by omega
          have HS := Lib.hid hs2; clear hs2
          clear hr hq0 hsum
          go_wp2_with fail
          go_round
          case rel => exact ⟨a + 1, r, by go_num, rfl, by omega, ha1, HS.out⟩
          case measure => simp [intOf]; omega
theorem held_any (z : Int) (w : World) :
    Calls Try.prog 8 #[.int .i64 z] w fun e w' => e = .returned (.int .i64 (held z : Nat)) ∧ w = w' := by
  go_enter Try.func8, Try.ntmps8
  go_wp2
  all_goals go_ret
  all_goals exact ⟨ret_int (by unfold held; omega), rfl⟩
theorem one_digs (w : World) : Digs (w.alloc (.cells #[.int .i64 1] 3)) (some ⟨w.heap.size, 0, none⟩) [1] := by
  refine .inr ⟨_, _, rfl, by simp, fun i hi => ?_⟩
  rw [Nat.zero_add, cell_of_row _ _ _ _ _ _ (heap_alloc_new w _)]
  have hi2 : i < 1 := hi
  match i, hi2 with
  | 0, _ => rfl
/-- the reference's Bound, of a number that is held -/
theorem refBound_any (h : Nat) (w : World) (hh : h ≤ 1048576) (b : Nat) (hb : b = 16 + bl ((h + 1) ^ 6)) :
    Calls Try.prog 7 #[.int .i64 (h : Int)] w fun e w' => e = .returned (.int .i64 (b : Nat)) ∧ Below w.heap.size w w' := by
  have HBB := Lib.hid hb; clear hb
  go_enter Try.func7, Try.ntmps7
  go_wp2_with fail
  go_loopw [3, 4] (fun p i wr => ∃ (j c : Nat) (A : Option Addr) (D : List Nat), i = .int .i64 j ∧ j ≤ 6 ∧ p = .slice A D.length c ∧ Hid (D.length ≤ 1 + 2 * j) ∧ Hid (Digs wr A D) ∧ Hid (∀ d ∈ D, d < 65536) ∧ Hid (val D = (h + 1) ^ j) ∧ Hid (Below w.heap.size w wr)) (fun _ i _ => 6 - (intOf i).toNat)
  case atStart => exact ⟨0, 1, _, [1], rfl, by omega, rfl, by show _ ≤ _; simp, one_digs w, by simp [Hid], by simp [Hid, val], (Below.refl _ _).alloc (Nat.le_refl _) _⟩
  case round =>
    obtain ⟨j, c, A, D, rfl, hj, rfl, hlen, hdg, hdd, hval, hbl⟩ := hrel
    by_cases hlt : j < 6
    · have ht := times_any D A c (h + 1) wr hdg.out (by have := hlen.out; omega) hdd.out (by omega) (by omega)
      rw [show (((h + 1 : Nat)) : Int) = (h : Int) + 1 by omega] at ht
      have HT := Lib.hid ht; clear ht
      clear hdg hdd
      go_wp2_with fail
      refine HT.out.mono ?_
      rintro e w2 ⟨⟨A', c', D', rfl, hc', hd', hl', hg', hv'⟩, hb2⟩
      have HL : Hid (D'.length ≤ 1 + 2 * (j + 1)) := by have := hlen.out; show _ ≤ _; omega
      have HV : Hid (val D' = (h + 1) ^ (j + 1)) := by show _ = _; rw [hv', hval.out, Nat.pow_succ]
      have HD' := Lib.hid hd'; clear hd'
      have HG' := Lib.hid hg'; clear hg'
      have HB2 := Lib.hid hb2; clear hb2
      clear hv' hl' hc' HT hlen hval
      go_wp2_with fail
      go_roundw
      case rel => exact ⟨j + 1, c', A', D', by go_num, by omega, rfl, HL.out, HD'.out, HG'.out, HV.out, below_then hbl.out HB2.out⟩
      case measure => simp [intOf]; omega
    · obtain rfl : j = 6 := by omega
      obtain ⟨m, hm⟩ : ∃ m, m = bl (val D) := ⟨_, rfl⟩
      have hl := length_any D A c wr hdg.out (by have := hlen.out; omega) hdd.out m hm
      have HL := Lib.hid hl; clear hl
      have hm2 := hm
      rw [hval.out] at hm2
      have hms := bl_six (x := h + 1) (by omega) (by omega)
      rw [← hm2] at hms
      have hbm : b = 16 + m := by rw [hm2]; exact HBB.out
      have HBM := Lib.hid hbm; clear hbm
      have hm126 := hms.2
      clear hm hm2 hms hval hdd hdg hlen HBB
      go_wp2_with fail
      refine HL.out.mono ?_
      rintro e w2 ⟨rfl, rfl⟩
      go_wp2_with fail
      go_ret
      exact ⟨ret_int (by have := HBM.out; omega), hbl.out⟩
/-- the reference's Bound of what its Held answers -/
theorem refBnd_any (z : Int) (w : World) : Calls Try.prog 7 #[.int .i64 (held z : Nat)] w fun e w' => e = .returned (.int .i64 (bnd z : Nat)) ∧ Below w.heap.size w w' :=
  refBound_any (held z) w (held_le z) (bnd z) rfl
end Go.Proofs.Ytlpngoaachdjhaa
