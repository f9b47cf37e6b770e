/-
  A cursor's calls that come in, as lists; a tree from which a key is taken.
-/
import Derived.Test.YtkcfanckkomdbaaLaws
namespace Go.Proofs.Ytkcfanckkomdbaa
set_option maxHeartbeats 4000000
set_option maxRecDepth 100000
section
open Go.RowKit
/-- a cursor's call: its kind, its key -/
abbrev Mov := Int × List UInt8
def Mcs (w : World) (A : Option Addr) (L : List Mov) : Prop :=
  L = [] ∨ ∃ b off, A = some ⟨b, off, none⟩ ∧ b < w.heap.size ∧ ∀ i (h : i < L.length), ∃ ka kc,
    w.cell? ⟨b, off + i * 2, none⟩ = some (.int .i64 (L[i]).1) ∧ w.cell? ⟨b, off + i * 2 + 1, none⟩ = some (.slice ka (L[i]).2.length kc) ∧ Bts w ka (L[i]).2
theorem Mcs.at {B : Nat} {w w' : World} {A : Option Addr} {L : List Mov} (h : Mcs w A L) (hB : B = w.heap.size) (hb : Below B w w') {j : Nat} (hj : j < L.length) : ∃ b off ka kc, A = some ⟨b, off, none⟩ ∧ b < w'.heap.size ∧
    w'.cell? ⟨b, off + j * 2, none⟩ = some (.int .i64 (L[j]).1) ∧ w'.cell? ⟨b, off + j * 2 + 1, none⟩ = some (.slice ka (L[j]).2.length kc) ∧ Bts w' ka (L[j]).2 := by
  subst hB
  rcases h with rfl | ⟨b, off, rfl, hlt, hc⟩
  · simp at hj
  · obtain ⟨ka, kc, h1, h2, h3⟩ := hc j hj
    exact ⟨b, off, ka, kc, rfl, Nat.lt_of_lt_of_le hlt hb.size, (hb.cell (p := ⟨b, off + j * 2, none⟩) hlt).trans h1, (hb.cell (p := ⟨b, off + j * 2 + 1, none⟩) hlt).trans h2, h3.below hb⟩
/-- a call's variable at block b -/
def Mvar (w : World) (b : Nat) (z : Int) (ka : Option Addr) (x kc : Nat) : Prop := w.heap[b]? = some (.cells #[.int .i64 z, .slice ka x kc] 35 (0, 0))
theorem Mvar.below {w w' : World} {b x kc : Nat} {z : Int} {ka : Option Addr} (h : Mvar w b z ka x kc) (hb : Below w.heap.size w w') : Mvar w' b z ka x kc := (hb.block b (Array.getElem?_eq_some_iff.1 h).1).trans h
theorem Mvar.cells {w : World} {b x kc : Nat} {z : Int} {ka : Option Addr} (h : Mvar w b z ka x kc) : w.cell? ⟨b, 0, none⟩ = some (.int .i64 z) ∧ w.cell? ⟨b, 1, none⟩ = some (.slice ka x kc) := ⟨(row2 h).1, (row2 h).2.1⟩
theorem Mvar.curs {g k : Nat} {q : Option Addr} {w w' : World} {b x kc : Nat} {z : Int} {ka : Option Addr} (h : Mvar w b z ka x kc) (hm : Cur w g q k) (ho : Onl g w w') : Mvar w' b z ka x kc :=
  (ho.curs hm h.cells.2 (by intro z e; cases e) (by intro q e; cases e) (Array.getElem?_eq_some_iff.1 h).1).trans h
theorem mvar_new (w : World) (z : Int) (ka : Option Addr) (x kc : Nat) : ∃ w1, w1 = w.alloc (.cells #[.int .i64 z, .slice ka x kc] 35) ∧ Below w.heap.size w w1 ∧ Mvar w1 w.heap.size z ka x kc :=
  ⟨_, rfl, (Below.refl _ _).alloc (Nat.le_refl _) _, heap_alloc_new w _⟩
theorem Wood.del {w : World} {p A : Option Addr} {L : List Pr} {key : List UInt8} {x : Nat} (h : Wood w p L) (c : Nat) (hA : Bts w A key) (hx : x = key.length) :
    Calls Try.prog 17 #[.pointer p, .slice A x c, .pointer none] w fun e w' => ∃ p' is L', e = .returned (.tuple #[.pointer p', .bool is]) ∧ Wood w' p' L' ∧ Below w.heap.size w w' := by
  subst hx
  obtain ⟨⟨t, h1, h2, rfl⟩, h4, h5, h6⟩ := h
  have e := Tr.length t
  have hh := (Tr.high_cube h2 (by omega)).1
  refine (deleteAt (fun _ => True) t w p none A key c 0 0 (fun _ _ => trivial) h1 (.inl rfl) hA h2 h6 (by omega) (by omega) (by omega)).mono ?_
  rintro e w' ⟨p', t', v', c', rfl, g1, g2, g3, _, _, g7⟩
  refine ⟨p', _, out t.list key, rfl, ⟨⟨t', g1, g2, g3⟩, ?_, ?_, ?_⟩, g7.nil⟩
  · exact Nat.le_trans (List.length_filter_le _ _) h4
  · exact fun x hx => h5 x (List.mem_filter.1 hx).1
  · exact h6.filter _
end
section
open Go.ChangeShapes Go.WideShapes Go.ChangeAt Go.RowKit Go.Deep
variable {H : Type} {enc : TypeId × Value → H} {W : World}
theorem move_open {n : Nat} {a : Addr} {cs : List Value} {x : DataW H × List MemPlace} (hc : W.cells? 0 a 2 = some cs) (h : DataW.trod enc Try.prog W 0 (fun _ => true) true n 35 cs = some x) :
    ∃ (p : Mov) (ka : Option Addr) (kc : Nat), W.cell? a = some (.int .i64 p.1) ∧ W.cell? (a.add 1) = some (.slice ka p.2.length kc) ∧ Bts W ka p.2 := by
  obtain ⟨_, hl, hat⟩ := World.cells?_some hc
  obtain ⟨xs, m, _, _, _, hxl, hf⟩ := DataW.trod_struct Try.underlying35 h
  match cs, hl with
  | [u0, u1], _ =>
    match xs, hxl with
    | [x0, x1], _ =>
      have f0 : DataW.trod enc Try.prog W 0 (fun _ => true) true m 3 (List.take (Try.prog.cellsOf 3) [u0, u1]) = some x0 := hf 0 _ rfl
      have f1 : DataW.trod enc Try.prog W 0 (fun _ => true) true m 33 (List.take (Try.prog.cellsOf 33) [u1]) = some x1 := hf 1 _ rfl
      have e1 : Try.prog.cellsOf 33 = 1 := by kernel_rfl
      have e2 : Try.prog.cellsOf 3 = 1 := by kernel_rfl
      simp only [e2, List.take_succ_cons, List.take_zero] at f0
      simp only [e1, List.take_succ_cons, List.take_zero] at f1
      obtain ⟨z, hz, _⟩ := DataW.trod_int Try.underlying3 f0
      simp only [List.cons.injEq, and_true] at hz
      subst hz
      obtain ⟨ka, kc, k, rfl, _, _, hk⟩ := bytes_open f1
      refine ⟨(z, k), ka, kc, ?_, hat 1 (by omega), hk⟩
      have := hat 0 (by omega)
      simpa [Addr.add] using this
/-- a slice of a cursor's calls that came in -/
theorem moves_open {n : Nat} {u : Value} {x : DataW H × List MemPlace} (h : DataW.trod enc Try.prog W 0 (fun _ => true) true n 23 [u] = some x) :
    ∃ (A : Option Addr) (c : Nat) (L : List Mov), u = .slice A L.length c ∧ L.length ≤ c ∧ c ≤ maxLen ∧ Mcs W A L := by
  rcases open_slice Try.underlying23 h with ⟨hcs, _⟩ | ⟨a, len, c, m, n', D, Pl, hcs, _, hl, hm, hmm, _, hi⟩
  · simp only [List.cons.injEq, and_true] at hcs
    exact ⟨none, 0, [], hcs, Nat.le_refl _, Nat.zero_le _, .inl rfl⟩
  · simp only [List.cons.injEq, and_true] at hcs
    simp only [if_true] at hmm
    have e2 : Try.prog.cellsOf 35 = 2 := by kernel_rfl
    rw [e2] at hi
    obtain ⟨L, hL, hq⟩ := list_of (Q := fun i (p : Mov) => ∃ (ka : Option Addr) (kc : Nat), W.cell? (a.add (i * 2)) = some (.int .i64 p.1) ∧ W.cell? ((a.add (i * 2)).add 1) = some (.slice ka p.2.length kc) ∧ Bts W ka p.2) len (by
      intro i hlt
      obtain ⟨cs', h1, h2⟩ := hi i (by omega)
      exact move_open h1 h2)
    refine ⟨some a, c, L, by rw [hL]; exact hcs, by rw [hL]; exact hl, hm, ?_⟩
    rcases Nat.eq_zero_or_pos L.length with h0 | h0
    · exact .inl (List.eq_nil_of_length_eq_zero h0)
    · obtain ⟨ka, kc, g1, g2, _⟩ := hq 0 h0
      have hpl : a.spot = none := by simpa [Addr.add] using World.cell?_spot g1
      obtain ⟨b, off, sp⟩ := a
      subst hpl
      refine .inr ⟨b, off, rfl, ?_, fun i hi => ?_⟩
      · have g := g1
        rw [add_plain] at g
        exact lt_of_cell g
      · obtain ⟨ka, kc, g1, g2, g3⟩ := hq i hi
        rw [add_plain] at g1 g2
        rw [add_plain] at g2
        exact ⟨ka, kc, g1, g2, g3⟩
theorem moves_in {base : Nat} {v : Value} {d : DataW H} {ps : List MemPlace} (hv : Value.okWide Try.prog W .any base 23 v) (h : DataW.Trod enc Try.prog W 0 (fun _ => true) true 23 v d ps) :
    ∃ (A : Option Addr) (c : Nat) (L : List Mov), v = .slice A L.length c ∧ L.length ≤ c ∧ c ≤ maxLen ∧ Mcs W A L := by
  obtain ⟨a0, len0, cap0, rfl⟩ := okWide_slice Try.underlying23 hv
  obtain ⟨fuel, hf⟩ := h
  exact moves_open hf
end
end Go.Proofs.Ytkcfanckkomdbaa
