/-
  How arguments that come in read: slices of plans, numbers.
-/
import Derived.Test.YtfhnmmiakknilaaPlans
namespace Go.Proofs.Ytfhnmmiakknilaa
open Go.ChangeShapes Go.WideShapes Go.ChangeAt Go.RowKit Go.Deep
set_option maxHeartbeats 400000
set_option maxRecDepth 100000
section
variable {H : Type} {enc : TypeId × Value → H} {W : World}
theorem ints_open {n : Nat} {u : Value} {x : DataW H × List MemPlace} (h : DataW.trod enc Try.prog W 0 (fun _ => true) true n 29 [u] = some x) :
    ∃ (A : Option Addr) (c : Nat) (l : List Int), u = .slice A l.length c ∧ l.length ≤ c ∧ c ≤ maxLen ∧ Bt.Ints W A l ∧ ∀ z ∈ l, -9223372036854775808 ≤ z ∧ z ≤ 9223372036854775807 := by
  rcases open_ints Try.underlying29 Try.underlying3 (by kernel_rfl) h with ⟨hcs, _⟩ | ⟨a, len, c, zs, hcs, _, hl, hm, hz, _, hcell, hwz⟩
  · simp only [List.cons.injEq, and_true] at hcs
    exact ⟨none, 0, [], hcs, Nat.le_refl _, Nat.zero_le _, .inl rfl, fun z hz => by cases hz⟩
  · simp only [List.cons.injEq, and_true] at hcs
    simp only [if_true] at hz
    have hlen : (zs.take len).length = len := by simp; omega
    refine ⟨some a, c, zs.take len, by rw [hlen]; exact hcs, by rw [hlen]; exact hl, hm, ?_, fun z hz2 => bounds_i64 (hwz z (List.mem_of_mem_take hz2))⟩
    rcases Nat.eq_zero_or_pos len with h0 | h0
    · left; subst h0; simp
    · right
      obtain ⟨b, off, rfl, hc⟩ := ints_at hcell (by omega)
      refine ⟨b, off, rfl, lt_of_cell (hc 0 (by omega)), fun i hi => ?_⟩
      rw [hlen] at hi
      rw [hc i (by omega), List.getElem_take, List.getD_eq_getElem?_getD, List.getElem?_eq_getElem (by omega)]
      rfl
theorem plan_open {n : Nat} {a : Addr} {cs : List Value} {x : DataW H × List MemPlace} (hc : W.cells? 0 a 5 = some cs) (h : DataW.trod enc Try.prog W 0 (fun _ => true) true n 49 cs = some x) :
    ∃ (p : Pln) (pa : Option Addr) (pc : Nat) (ka : Option Addr) (kc : Nat), W.cell? a = some (.bool p.br) ∧ W.cell? (a.add 1) = some (.int .u64 (p.h : Int)) ∧ W.cell? (a.add 2) = some (.slice pa p.prs.length pc) ∧ W.cell? (a.add 3) = some (.int .u32 (p.set : Int)) ∧ W.cell? (a.add 4) = some (.slice ka p.kids.length kc) ∧
      Pcs W pa p.prs ∧ Bt.Ints W ka p.kids ∧ p.h < 18446744073709551616 ∧ p.set < 4294967296 ∧ (∀ z ∈ p.kids, -9223372036854775808 ≤ z ∧ z ≤ 9223372036854775807) ∧ p.prs.length ≤ 9223372036854775807 ∧ p.kids.length ≤ 9223372036854775807 := by
  obtain ⟨_, hl, hat⟩ := World.cells?_some hc
  obtain ⟨xs, m, _, _, _, hxl, hf⟩ := DataW.trod_struct Try.underlying49 h
  match cs, hl with
  | [u0, u1, u2, u3, u4], _ =>
    match xs, hxl with
    | [x0, x1, x2, x3, x4], _ =>
      have f0 : DataW.trod enc Try.prog W 0 (fun _ => true) true m 4 (List.take (Try.prog.cellsOf 4) [u0, u1, u2, u3, u4]) = some x0 := hf 0 _ rfl
      have f1 : DataW.trod enc Try.prog W 0 (fun _ => true) true m 27 (List.take (Try.prog.cellsOf 27) [u1, u2, u3, u4]) = some x1 := hf 1 _ rfl
      have f2 : DataW.trod enc Try.prog W 0 (fun _ => true) true m 44 (List.take (Try.prog.cellsOf 44) [u2, u3, u4]) = some x2 := hf 2 _ rfl
      have f3 : DataW.trod enc Try.prog W 0 (fun _ => true) true m 47 (List.take (Try.prog.cellsOf 47) [u3, u4]) = some x3 := hf 3 _ rfl
      have f4 : DataW.trod enc Try.prog W 0 (fun _ => true) true m 29 (List.take (Try.prog.cellsOf 29) [u4]) = some x4 := hf 4 _ rfl
      have e0 : Try.prog.cellsOf 4 = 1 := by kernel_rfl
      have e1 : Try.prog.cellsOf 27 = 1 := by kernel_rfl
      have e2 : Try.prog.cellsOf 44 = 1 := by kernel_rfl
      have e3 : Try.prog.cellsOf 47 = 1 := by kernel_rfl
      have e4 : Try.prog.cellsOf 29 = 1 := by kernel_rfl
      simp only [e0, List.take_succ_cons, List.take_zero] at f0
      simp only [e1, List.take_succ_cons, List.take_zero] at f1
      simp only [e2, List.take_succ_cons, List.take_zero] at f2
      simp only [e3, List.take_succ_cons, List.take_zero] at f3
      simp only [e4, List.take_succ_cons, List.take_zero] at f4
      obtain ⟨br, hb, _⟩ := DataW.trod_bool Try.underlying4 f0
      obtain ⟨zh, hz, _, wh⟩ := DataW.trod_int Try.underlying27 f1
      obtain ⟨zs, hs, _, ws⟩ := DataW.trod_int Try.underlying47 f3
      simp only [List.cons.injEq, and_true] at hb hz hs
      subst hb hz hs
      obtain ⟨pa, pc, L, rfl, hpl, hpm, hp⟩ := pairs_open f2
      obtain ⟨ka, kc, K, rfl, hkl, hkm, hk, hkz⟩ := ints_open f4
      have bh := bounds_u64 wh
      have bs := bounds_u32 ws
      have hm : (maxLen : Nat) ≤ 9223372036854775807 := by decide
      have a0 := hat 0 (by omega)
      have a1 := hat 1 (by omega)
      have a3 := hat 3 (by omega)
      refine ⟨⟨br, zh.toNat, L, zs.toNat, K⟩, pa, pc, ka, kc, ?_, ?_, hat 2 (by omega), ?_, hat 4 (by omega), hp, hk, by show zh.toNat < _; omega, by show zs.toNat < _; omega, hkz, by show L.length ≤ _; omega, by show K.length ≤ _; omega⟩
      · simpa [Addr.add] using a0
      · rw [show ((zh.toNat : Nat) : Int) = zh by omega]; exact a1
      · rw [show ((zs.toNat : Nat) : Int) = zs by omega]; exact a3
/-- a slice of plans that came in -/
theorem plans_open {n : Nat} {u : Value} {x : DataW H × List MemPlace} (h : DataW.trod enc Try.prog W 0 (fun _ => true) true n 22 [u] = some x) :
    ∃ (A : Option Addr) (c : Nat) (L : List Pln), u = .slice A L.length c ∧ L.length ≤ c ∧ c ≤ maxLen ∧ Pls W A L := by
  rcases open_slice Try.underlying22 h with ⟨hcs, _⟩ | ⟨a, len, c, m, n', D, Pl, hcs, _, hl, hm, hmm, _, hi⟩
  · simp only [List.cons.injEq, and_true] at hcs
    exact ⟨none, 0, [], hcs, Nat.le_refl _, Nat.zero_le _, .inl rfl⟩
  · simp only [List.cons.injEq, and_true] at hcs
    simp only [if_true] at hmm
    have e2 : Try.prog.cellsOf 49 = 5 := by kernel_rfl
    rw [e2] at hi
    obtain ⟨L, hL, hq⟩ := list_of (Q := fun i (p : Pln) => ∃ (pa : Option Addr) (pc : Nat) (ka : Option Addr) (kc : Nat), W.cell? (a.add (i * 5)) = some (.bool p.br) ∧ W.cell? ((a.add (i * 5)).add 1) = some (.int .u64 (p.h : Int)) ∧ W.cell? ((a.add (i * 5)).add 2) = some (.slice pa p.prs.length pc) ∧ W.cell? ((a.add (i * 5)).add 3) = some (.int .u32 (p.set : Int)) ∧ W.cell? ((a.add (i * 5)).add 4) = some (.slice ka p.kids.length kc) ∧
      Pcs W pa p.prs ∧ Bt.Ints W ka p.kids ∧ p.h < 18446744073709551616 ∧ p.set < 4294967296 ∧ (∀ z ∈ p.kids, -9223372036854775808 ≤ z ∧ z ≤ 9223372036854775807) ∧ p.prs.length ≤ 9223372036854775807 ∧ p.kids.length ≤ 9223372036854775807) len (by
      intro i hlt
      obtain ⟨cs', h1, h2⟩ := hi i (by omega)
      exact plan_open h1 h2)
    refine ⟨some a, c, L, by rw [hL]; exact hcs, by rw [hL]; exact hl, hm, ?_⟩
    rcases Nat.eq_zero_or_pos L.length with h0 | h0
    · exact .inl (List.eq_nil_of_length_eq_zero h0)
    · obtain ⟨pa, pc, ka, kc, g1, g2, _⟩ := hq 0 h0
      have hpl : a.spot = none := by simpa [Addr.add] using World.cell?_spot g1
      obtain ⟨b, off, sp⟩ := a
      subst hpl
      refine .inr ⟨b, off, rfl, ?_, fun i hi => ?_⟩
      · have g := g1
        rw [add_plain] at g
        exact lt_of_cell g
      · obtain ⟨pa, pc, ka, kc, g1, g2, g3, g4, g5, g6⟩ := hq i hi
        simp only [add_plain] at g1 g2 g3 g4 g5
        exact ⟨pa, pc, ka, kc, g1, g2, g3, g4, g5, g6⟩
theorem plans_in {base : Nat} {v : Value} {d : DataW H} {ps : List MemPlace} (hv : Value.okWide Try.prog W .any base 22 v) (h : DataW.Trod enc Try.prog W 0 (fun _ => true) true 22 v d ps) :
    ∃ (A : Option Addr) (c : Nat) (L : List Pln), v = .slice A L.length c ∧ L.length ≤ c ∧ c ≤ maxLen ∧ Pls W A L := by
  obtain ⟨a0, len0, cap0, rfl⟩ := okWide_slice Try.underlying22 hv
  obtain ⟨fuel, hf⟩ := h
  exact plans_open hf
theorem int_in {base : Nat} {v : Value} {d : DataW H} {ps : List MemPlace} (hv : Value.okWide Try.prog W .any base 3 v) (h : DataW.Trod enc Try.prog W 0 (fun _ => true) true 3 v d ps) :
    ∃ z : Int, v = .int .i64 z ∧ -9223372036854775808 ≤ z ∧ z ≤ 9223372036854775807 := by
  obtain ⟨n, rfl⟩ := okWide_int Try.underlying3 hv
  obtain ⟨fuel, hf⟩ := h
  obtain ⟨z, e0, _, w0⟩ := DataW.trod_int Try.underlying3 hf
  have hz : n = z := by simpa [Value.cells] using e0
  subst hz
  exact ⟨n, rfl, bounds_i64 w0⟩
end
end Go.Proofs.Ytfhnmmiakknilaa
