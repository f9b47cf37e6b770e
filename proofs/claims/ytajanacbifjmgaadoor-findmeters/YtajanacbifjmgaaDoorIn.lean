/-
  How arguments that come in read: slices of entries, of bytes.
-/
import Derived.Test.YtajanacbifjmgaaDoorOpen
import Derived.Test.YtajanacbifjmgaaDoorOf
namespace Go.Proofs.YtajanacbifjmgaaDoor
open Go.ChangeShapes Go.WideShapes Go.ChangeAt Go.RowKit Go.Deep
set_option maxHeartbeats 400000
set_option maxRecDepth 100000
section
variable {H : Type} {enc : TypeId × Value → H} {W : World}
theorem entry_open {n : Nat} {a : Addr} {cs : List Value} {x : DataW H × List MemPlace} (hc : W.cells? 0 a 3 = some cs) (h : DataW.trod enc Tryd.prog W 0 (fun _ => true) true n 51 cs = some x) :
    ∃ (p : En) (ka : Option Addr) (kc : Nat) (va : Option Addr) (vc : Nat), W.cell? a = some (.int .u64 (p.1 : Int)) ∧ W.cell? (a.add 1) = some (.slice ka p.2.1.length kc) ∧ W.cell? (a.add 2) = some (.slice va p.2.2.length vc) ∧ Bts W ka p.2.1 ∧ Bts W va p.2.2 ∧ p.1 < 18446744073709551616 := by
  obtain ⟨_, hl, hat⟩ := World.cells?_some hc
  obtain ⟨xs, m, _, _, _, hxl, hf⟩ := DataW.trod_struct Tryd.underlying51 h
  match cs, hl with
  | [u0, u1, u2], _ =>
    match xs, hxl with
    | [x0, x1], _ =>
      have f0 : DataW.trod enc Tryd.prog W 0 (fun _ => true) true m 23 (List.take (Tryd.prog.cellsOf 23) [u0, u1, u2]) = some x0 := hf 0 _ rfl
      have f1 : DataW.trod enc Tryd.prog W 0 (fun _ => true) true m 49 (List.take (Tryd.prog.cellsOf 49) [u1, u2]) = some x1 := hf 1 _ rfl
      have e0 : Tryd.prog.cellsOf 23 = 1 := by kernel_rfl
      have e1 : Tryd.prog.cellsOf 49 = 2 := by kernel_rfl
      simp only [e0, List.take_succ_cons, List.take_zero] at f0
      simp only [e1, List.take_succ_cons, List.take_zero] at f1
      obtain ⟨zh, hz, _, wh⟩ := DataW.trod_int Tryd.underlying23 f0
      simp only [List.cons.injEq, and_true] at hz
      subst hz
      have bh := bounds_u64 wh
      obtain ⟨ys, m2, _, _, _, hyl, hg⟩ := DataW.trod_struct Tryd.underlying49 f1
      match ys, hyl with
      | [y0, y1], _ =>
        have g0 : DataW.trod enc Tryd.prog W 0 (fun _ => true) true m2 24 (List.take (Tryd.prog.cellsOf 24) [u1, u2]) = some y0 := hg 0 _ rfl
        have g1 : DataW.trod enc Tryd.prog W 0 (fun _ => true) true m2 24 (List.take (Tryd.prog.cellsOf 24) [u2]) = some y1 := hg 1 _ rfl
        have e2 : Tryd.prog.cellsOf 24 = 1 := by kernel_rfl
        simp only [e2, List.take_succ_cons, List.take_zero] at g0 g1
        obtain ⟨ka, kc, k, rfl, _, _, hk⟩ := bytes_open g0
        obtain ⟨va, vc, v, rfl, _, _, hv⟩ := bytes_open g1
        have a0 := hat 0 (by omega)
        refine ⟨(zh.toNat, (k, v)), ka, kc, va, vc, ?_, hat 1 (by omega), hat 2 (by omega), hk, hv, by show zh.toNat < _; omega⟩
        rw [show ((zh.toNat : Nat) : Int) = zh by omega]
        simpa [Addr.add] using a0
/-- a slice of entries that came in -/
theorem entries_open {n : Nat} {u : Value} {x : DataW H × List MemPlace} (h : DataW.trod enc Tryd.prog W 0 (fun _ => true) true n 22 [u] = some x) :
    ∃ (A : Option Addr) (c : Nat) (L : List En), u = .slice A L.length c ∧ L.length ≤ c ∧ c ≤ maxLen ∧ Ens W A L ∧ ∀ e ∈ L, e.1 < 18446744073709551616 := by
  rcases open_slice Tryd.underlying22 h with ⟨hcs, _⟩ | ⟨a, len, c, m, n', D, Pl, hcs, _, hl, hm, hmm, _, hi⟩
  · simp only [List.cons.injEq, and_true] at hcs
    exact ⟨none, 0, [], hcs, Nat.le_refl _, Nat.zero_le _, .inl rfl, fun e he => by cases he⟩
  · simp only [List.cons.injEq, and_true] at hcs
    simp only [if_true] at hmm
    have e2 : Tryd.prog.cellsOf 51 = 3 := by kernel_rfl
    rw [e2] at hi
    obtain ⟨L, hL, hq⟩ := list_of (Q := fun i (p : En) => ∃ (ka : Option Addr) (kc : Nat) (va : Option Addr) (vc : Nat), W.cell? (a.add (i * 3)) = some (.int .u64 (p.1 : Int)) ∧ W.cell? ((a.add (i * 3)).add 1) = some (.slice ka p.2.1.length kc) ∧ W.cell? ((a.add (i * 3)).add 2) = some (.slice va p.2.2.length vc) ∧ Bts W ka p.2.1 ∧ Bts W va p.2.2 ∧ p.1 < 18446744073709551616) len (by
      intro i hlt
      obtain ⟨cs', h1, h2⟩ := hi i (by omega)
      exact entry_open h1 h2)
    refine ⟨some a, c, L, by rw [hL]; exact hcs, by rw [hL]; exact hl, hm, ?_, fun e he => ?_⟩
    · rcases Nat.eq_zero_or_pos L.length with h0 | h0
      · exact .inl (List.eq_nil_of_length_eq_zero h0)
      · obtain ⟨ka, kc, va, vc, g1, g2, _⟩ := hq 0 h0
        have hpl : a.spot = none := by simpa [Addr.add] using World.cell?_spot g1
        obtain ⟨b, off, sp⟩ := a
        subst hpl
        refine .inr ⟨b, off, rfl, ?_, fun i hi => ?_⟩
        · have g := g1
          rw [add_plain] at g
          exact lt_of_cell g
        · obtain ⟨ka, kc, va, vc, g1, g2, g3, g4, g5, _⟩ := hq i hi
          simp only [add_plain] at g1 g2 g3
          exact ⟨ka, kc, va, vc, g1, g2, g3, g4, g5⟩
    · obtain ⟨i, hi, rfl⟩ := List.getElem_of_mem he
      obtain ⟨_, _, _, _, _, _, _, _, _, h⟩ := hq i hi
      exact h
theorem entries_in {base : Nat} {v : Value} {d : DataW H} {ps : List MemPlace} (hv : Value.okWide Tryd.prog W .any base 22 v) (h : DataW.Trod enc Tryd.prog W 0 (fun _ => true) true 22 v d ps) :
    ∃ (A : Option Addr) (c : Nat) (L : List En), v = .slice A L.length c ∧ L.length ≤ c ∧ c ≤ maxLen ∧ Ens W A L ∧ ∀ e ∈ L, e.1 < 18446744073709551616 := by
  obtain ⟨a0, len0, cap0, rfl⟩ := okWide_slice Tryd.underlying22 hv
  obtain ⟨fuel, hf⟩ := h
  exact entries_open hf
theorem bytes_in {base : Nat} {v : Value} {d : DataW H} {ps : List MemPlace} (hv : Value.okWide Tryd.prog W .any base 24 v) (h : DataW.Trod enc Tryd.prog W 0 (fun _ => true) true 24 v d ps) :
    ∃ (A : Option Addr) (c : Nat) (l : List UInt8), v = .slice A l.length c ∧ l.length ≤ c ∧ c ≤ maxLen ∧ Bts W A l := by
  obtain ⟨a0, len0, cap0, rfl⟩ := okWide_slice Tryd.underlying24 hv
  obtain ⟨fuel, hf⟩ := h
  exact bytes_open hf
theorem num_in {base : Nat} {v : Value} {d : DataW H} {ps : List MemPlace} (hv : Value.okWide Tryd.prog W .any base 23 v) (h : DataW.Trod enc Tryd.prog W 0 (fun _ => true) true 23 v d ps) :
    ∃ z : Nat, v = .int .u64 (z : Int) ∧ z < 18446744073709551616 := by
  obtain ⟨n, rfl⟩ := okWide_int Tryd.underlying23 hv
  obtain ⟨fuel, hf⟩ := h
  obtain ⟨z, e0, _, w0⟩ := DataW.trod_int Tryd.underlying23 hf
  have hz : n = z := by simpa [Value.cells] using e0
  subst hz
  have hb := bounds_u64 w0
  exact ⟨n.toNat, by rw [show ((n.toNat : Nat) : Int) = n by omega], by omega⟩
end
/-- few entries, of few bytes -/
theorem small_fit {L : List En} {most : Nat} (hm : most ≤ 100) (h : (decide (L.length ≤ most) && tinyE L) = true) (hh : ∀ e ∈ L, e.1 < 18446744073709551616) : FitE L ∧ L.length ≤ most ∧ ∀ e ∈ L, e.2.1.length ≤ 60 ∧ e.2.2.length ≤ 60 := by
  rw [Bool.and_eq_true, decide_eq_true_eq] at h
  have ht := tinyE_all h.2
  exact ⟨⟨by omega, fun e he => ⟨hh e he, by have := (ht e he).1; omega, by have := (ht e he).2; omega⟩⟩, h.1, ht⟩
end Go.Proofs.YtajanacbifjmgaaDoor
