/-
  Rows of numbers that a call owns, and what is appended to them; contract of List (the reference's).
-/
import Derived.Test.YtfhnmmiakknilaaBLists
import Derived.Maps.AppendAt
import Derived.Test.YtfhnmmiakknilaaApp
namespace Go.Proofs.Ytfhnmmiakknilaa.Bt
open Go.RowKit
set_option maxHeartbeats 400000
set_option maxRecDepth 100000
theorem Try.info3 : (Try.prog.info? 3).map (fun i => (i.zero, i.size, i.bytes)) = some (some (.int .i64 0), 1, 8) := by kernel_rfl
theorem grown_then {w a b : World} {r : Option Nat} (h : w.grownBy a none) (k : a.grownBy b r) : w.grownBy b r :=
  ⟨k.os.trans h.os, k.tape.trans h.tape, k.output.trans h.output, Nat.le_trans h.size k.size, fun i hi hr => (k.block i (Nat.lt_of_lt_of_le hi h.size) hr).trans (h.block i hi (by simp))⟩
/-- append of one number that was laid into a block of its own just ahead -/
theorem list_app1 {B : Nat} {w : World} {ops : Array Oper} {rest : List Oper} {o : Oper} {a : Act} {Q : Exit → Act → World → Prop} (t e : TypeId) (z : Value) (bytes : Nat) (hu : Try.prog.underlying t = some (.slice e)) (hinf : (Try.prog.info? e).map (fun i => (i.zero, i.size, i.bytes)) = some (some z, 1, bytes)) (hz : z.cells.size = 1) (hby : bytes ≤ 100)
    (hgd : o.guard = none) (s x : Operand) (ho : o.op = .call { callee := .builtin .append, args := #[s, x], argTypes := #[t, t] }) (v : Value) (n : Nat) (xs : List Value) (h : w.ownsRow B e 1 v n xs) (x1 : Value) (h1 : x1.oneCell' = true) (hs : a.eval s = v) (hx : a.eval x = .slice (some ⟨w.heap.size, 0, none⟩) 1 1) (hn : n ≤ 1000) (hB : B ≤ w.heap.size)
    (hK : ∀ v' w', w'.ownsRow B e 1 v' (n + 1) (xs ++ [x1]) → w.grownBy w' v.ownBlock → wpList Try.prog ops Q rest (a.put o.dst v') w') : wpList Try.prog ops Q (o :: rest) a (w.alloc (.cells #[x1] e)) := by
  obtain ⟨i0, hi, hz0, hz1, hz2⟩ := info_parts hinf
  have hnew : (w.alloc (.cells #[x1] e)).heap[w.heap.size]? = some (.cells #[x1] e (0, 0)) := heap_alloc_new w _
  obtain ⟨v', w', hr, hown, hg, _⟩ := run_append_own (P := Try.prog) (w.alloc (.cells #[x1] e)) B t o.type e i0 z 1 bytes hu hi hz0 hz1 hz2 hz (by decide) v n xs (World.ownsRow.alloc h _) ⟨w.heap.size, 0, none⟩ 1 1 [x1] rfl
    (by
      intro j u hj
      rw [Go.WideShapes.add_plain, Nat.zero_add, cell_of_row _ w.heap.size j _ e (0, 0) hnew, ← hj]
      simp)
    (by
      intro u hu
      rcases List.mem_cons.1 hu with rfl | hu
      · exact h1
      · cases hu)
    (by unfold maxLen; omega) (by have := Nat.mul_le_mul (show n + 1 ≤ 1001 by omega) hby; omega) (by simp; omega)
  have hg2 : w.grownBy w' v.ownBlock := grown_then (World.grownBy_alloc w _ none) hg
  refine wpList_plain hgd fun _ hk => ?_
  unfold Oper.wp execOp
  simp only [ho, resolve, invoke, builtin, Sem.run_bind, Sem.run_pure, Result.andThen_ok, List.map_toArray, List.map_cons, List.map_nil, hs, hx, hr]
  exact hk _ _ (hK v' w' hown hg2)
/-- how a row reads -/
theorem row_reads {w : World} {B e n : Nat} {v : Value} {xs : List Value} (h : w.ownsRow B e 1 v n xs) : ∃ A c, v = .slice A n c ∧ n ≤ c ∧ (0 < n → ∃ g, A = some ⟨g, 0, none⟩ ∧ g < w.heap.size ∧ ∀ j, j < n → w.cell? ⟨g, j, none⟩ = xs[j]?) := by
  obtain ⟨hl, h⟩ := h
  rcases h with ⟨rfl, rfl⟩ | ⟨g, cap, cur, rfl, hb, hg, hc1, _, hsz, htk⟩
  · exact ⟨none, 0, rfl, Nat.le_refl _, fun h => by omega⟩
  · refine ⟨_, _, rfl, hc1, fun _ => ⟨g, rfl, (Array.getElem?_eq_some_iff.1 hg).1, fun j hj => ?_⟩⟩
    rw [cell_of_row w g j cur e (0, 0) hg, ← htk, List.getElem?_take_of_lt (by omega)]
    simp
def icells (l : List Int) : List Value := l.map (fun z => Value.int .i64 z)
theorem icells_snoc (l : List Int) (z : Int) : icells (l ++ [z]) = icells l ++ [.int .i64 z] := by simp [icells]
theorem ints_own {w : World} {B n : Nat} {v : Value} {l : List Int} (h : w.ownsRow B 3 1 v n (icells l)) (hn : n = l.length) : ∃ A c, v = .slice A l.length c ∧ l.length ≤ c ∧ Ints w A l := by
  subst hn
  obtain ⟨A, c, rfl, hc, hr⟩ := row_reads h
  refine ⟨A, c, rfl, hc, ?_⟩
  rcases Nat.eq_zero_or_pos l.length with h0 | h0
  · exact .inl (List.eq_nil_of_length_eq_zero h0)
  · obtain ⟨g, rfl, hg, hcl⟩ := hr h0
    refine .inr ⟨g, 0, rfl, hg, fun i hi => ?_⟩
    rw [Nat.zero_add, hcl i hi]
    simp [icells, hi]
/-- the numbers of a set, in a row of the call's own -/
theorem list_any (m : Nat) (w : World) (hm : m < 4294967296) (L : List Int) (hL : L = lst m 32) :
    Calls Try.prog 23 #[.int .u32 m] w fun e w' => (∃ A c, e = .returned (.slice A L.length c) ∧ L.length ≤ c ∧ Ints w' A L ∧ NewIn w.heap.size w' A) ∧ Below w.heap.size w w' := by
  have HL := Lib.hid hL; clear hL
  go_enter Try.func23, Try.ntmps23
  go_wp2_with fail
  go_loopw [0, 3, 4] (fun a v i wr => ∃ j q n : Nat, j ≤ 32 ∧ i = .int .i64 j ∧ a = .int .u32 (q : Int) ∧ q < 4294967296 ∧ n ≤ 32 ∧ Hid (q = m / 2 ^ j) ∧ Hid (n = (lst m j).length) ∧ Hid (Below w.heap.size w wr ∧ wr.ownsRow w.heap.size 3 1 v n (icells (lst m j)))) (fun _ _ i _ => 32 - (intOf i).toNat)
  case atStart => exact ⟨0, m, 0, by omega, rfl, rfl, hm, by omega, by show _ = _; simp, rfl, Below.refl _ _, rfl, .inl ⟨rfl, rfl⟩⟩
  case round =>
    obtain ⟨j, q, n, hj, rfl, rfl, hq, hn32, hqm, hn, hown⟩ := hrel
    by_cases hlt : j < 32
    · have hb := bit_div m j
      rw [← hqm.out] at hb
      have hh := half m j
      rw [← hqm.out] at hh
      have HH := Lib.hid hh; clear hh
      have hlen : n ≤ j := by rw [hn.out]; exact list_le m j
      have e2 : (q : Int).tdiv 2 = ((q / 2 : Nat) : Int) := by rw [Int.tdiv_eq_ediv_of_nonneg (by omega)]; omega
      have e3 : (q : Int) / 2 = ((q / 2 : Nat) : Int) := by omega
      have hls : lst m (j + 1) = lst m j ++ (if m.testBit j then [(j : Int)] else []) := rfl
      have hq2 : q / 2 < 4294967296 := by omega
      obtain ⟨q2, hqq⟩ : ∃ q2, q2 = q / 2 := ⟨_, rfl⟩
      rw [← hqq] at e2 e3 hq2
      have HQ := Lib.hid hqq; clear hqq
      have HLS := Lib.hid hls; clear hls
      by_cases ht : m.testBit j = true
      · have hr := hb.2 ht
        have e1 : (q : Int).tmod 2 = 1 := by rw [Int.tmod_eq_emod_of_nonneg (by omega)]; omega
        have e0 : (q : Int) % 2 = 1 := by omega
        have HT := Lib.hid ht; clear ht hb hr
        go_wp2_with (at_builtin; refine list_app1 (B := w.heap.size) (w := wr) 29 3 _ 8 Try.underlying29 Try.info3 rfl (by decide) rfl (.tmp 12) (.tmp 14) rfl _ n _ hown.out.2 (.int .i64 (j : Int)) rfl rfl rfl (by omega) hown.out.1.size ?_; intro v1 w3 ho3 hg3)
        go_roundw
        case rel =>
          refine ⟨j + 1, q2, n + 1, by omega, by go_num, rfl, hq2, by omega, HQ.out.trans HH.out, ?_, hown.out.1.grown hg3 (by have := hown.out.1.size; omega) (fun q hq => by have := (hown.out.2.lt q hq).1; omega), ?_⟩
          · show _ = _
            rw [HLS.out, if_pos HT.out, hn.out]; simp
          · rw [HLS.out, if_pos HT.out, icells_snoc]
            exact ho3
        case measure => simp [intOf]; omega
      · have hr : q % 2 = 0 := by
          have : ¬ q % 2 = 1 := fun h => ht (hb.1 h)
          omega
        have e1 : (q : Int).tmod 2 = 0 := by rw [Int.tmod_eq_emod_of_nonneg (by omega)]; omega
        have e0 : (q : Int) % 2 = 0 := by omega
        have HT := Lib.hid ht; clear ht hb hr
        go_wp2_with fail
        go_roundw
        case rel =>
          refine ⟨j + 1, q2, n, by omega, by go_num, rfl, hq2, by omega, HQ.out.trans HH.out, ?_, hown.out.1, ?_⟩
          · show _ = _
            rw [HLS.out, if_neg HT.out, List.append_nil, hn.out]
          · rw [HLS.out, if_neg HT.out, List.append_nil]
            exact hown.out.2
        case measure => simp [intOf]; omega
    · obtain rfl : j = 32 := by omega
      have ho := hown.out.2
      rw [← HL.out] at ho
      have hnl := hn.out
      rw [← HL.out] at hnl
      obtain ⟨A, c, rfl, hc, hI⟩ := ints_own ho hnl
      have HNW := Lib.hid (own_new ho)
      have HC := Lib.hid hc; clear hc
      have HI := Lib.hid hI; clear hI ho hnl
      go_wp2_with fail
      go_ret
      exact ⟨⟨A, c, rfl, HC.out, HI.out, HNW.out⟩, hown.out.1⟩
end Go.Proofs.Ytfhnmmiakknilaa.Bt
