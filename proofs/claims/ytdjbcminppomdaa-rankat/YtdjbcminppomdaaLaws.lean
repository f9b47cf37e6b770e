/-
  All that is asked of a tree and its model, behind the calls that led to them, in one place: what each call promises from some world on.
-/
import Derived.Test.YtdjbcminppomdaaAwake
import Derived.Test.YtdjbcminppomdaaIn
namespace Go.Proofs.Ytdjbcminppomdaa
open Go.RowKit
set_option maxHeartbeats 4000000
set_option maxRecDepth 100000
/-- two slices and a bool read as a pair, or as nothing -/
def Pt (o : Option Pr) (w : World) (ka va : Option Addr) (x1 x2 : Nat) (is : Bool) : Prop := x1 = (od o).1.length ∧ x2 = (od o).2.length ∧ is = o.isSome ∧ Bts w ka (od o).1 ∧ Bts w va (od o).2
theorem Pt.below {o : Option Pr} {w w' : World} {ka va : Option Addr} {x1 x2 : Nat} {is : Bool} (h : Pt o w ka va x1 x2 is) (hb : Below w.heap.size w w') : Pt o w' ka va x1 x2 is := ⟨h.1, h.2.1, h.2.2.1, h.2.2.2.1.below hb, h.2.2.2.2.below hb⟩
def Gt (o : Option Pr) (e : Ending) (w' : World) : Prop := ∃ ka kc va vc x1 x2 is, e = .returned (.tuple #[.agg #[.slice ka x1 kc, .slice va x2 vc], .bool is]) ∧ Pt o w' ka va x1 x2 is
theorem Got.gt {o : Option Pr} {e : Ending} {w' : World} (h : Got o e w') : Gt o e w' := by
  obtain ⟨ka, kc, va, vc, he, h1, h2⟩ := h
  exact ⟨ka, kc, va, vc, _, _, _, he, rfl, rfl, rfl, h1, h2⟩
/-- the calls' promises from the world w1 on: the tree at p, the list at A, both with just the pairs M, n of them -/
structure Tell (w1 : World) (M : List Pr) (n : Nat) (p A : Option Addr) (c : Nat) : Prop where
  ta : ∀ W (z : Int), Below w1.heap.size w1 W → -9223372036854775808 ≤ z → z < 9223372036854775808 → Calls Try.prog 17 #[.pointer p, .int .i64 z] W fun e w' => Gt (nth M z) e w' ∧ Below W.heap.size W w'
  mi : ∀ W, Below w1.heap.size w1 W → Calls Try.prog 18 #[.pointer p] W fun e w' => Gt (nth M 0) e w' ∧ Below W.heap.size W w'
  mx : ∀ W, Below w1.heap.size w1 W → Calls Try.prog 19 #[.pointer p] W fun e w' => Gt (nth M ((n : Int) - 1)) e w' ∧ Below W.heap.size W w'
  fl : ∀ W K kc key x, Below w1.heap.size w1 W → Bts W K key → x = key.length → Calls Try.prog 10 #[.pointer p, .slice K x kc] W fun e w' => Gt (nth M ((upTo M key : Int) - 1)) e w' ∧ Below W.heap.size W w'
  ce : ∀ W K kc key x, Below w1.heap.size w1 W → Bts W K key → x = key.length → Calls Try.prog 11 #[.pointer p, .slice K x kc] W fun e w' => Gt (nth M (rank M key : Int)) e w' ∧ Below W.heap.size W w'
  rk : ∀ W K kc key x, Below w1.heap.size w1 W → Bts W K key → x = key.length → Calls Try.prog 12 #[.pointer p, .slice K x kc] W fun e w' => e = .returned (.int .i64 (rank M key : Int)) ∧ Below W.heap.size W w'
  sz : ∀ W, Below w1.heap.size w1 W → Calls Try.prog 20 #[.pointer p] W fun e w' => e = .returned (.int .i64 (n : Int)) ∧ W = w'
  ra : ∀ W o (z : Int) ka kc va vc x1 x2 is, Below w1.heap.size w1 W → o = nth M z → Pt o W ka va x1 x2 is → -9223372036854775808 ≤ z → z < 9223372036854775808 →
    Calls Try.prog 14 #[.agg #[.slice ka x1 kc, .slice va x2 vc], .bool is, .slice A n c, .int .i64 z] W fun e w' => e = .returned (.bool true) ∧ Below W.heap.size W w'
  rr : ∀ W (key : List UInt8), Below w1.heap.size w1 W → key.length ≤ 100 → Calls Try.prog 13 #[.slice A n c, .string ⟨key.toArray⟩] W fun e w' => e = .returned (.int .i64 (rank M key : Int)) ∧ Below W.heap.size W w'
  rf : ∀ W (key : List UInt8), Below w1.heap.size w1 W → key.length ≤ 100 → Calls Try.prog 15 #[.slice A n c, .string ⟨key.toArray⟩] W fun e w' => e = .returned (.int .i64 ((upTo M key : Int) - 1)) ∧ Below W.heap.size W w'
  rc : ∀ W (key : List UInt8), Below w1.heap.size w1 W → key.length ≤ 100 → Calls Try.prog 16 #[.slice A n c, .string ⟨key.toArray⟩] W fun e w' => ∃ z : Int, e = .returned (.int .i64 z) ∧ nth M z = nth M (rank M key : Int) ∧ -1 ≤ z ∧ z ≤ 1000 ∧ Below W.heap.size W w'
theorem At.tell {w w1 : World} {M : List Pr} {p A : Option Addr} {t : Tr} {n : Nat} (h : At w M p A w1 t) (c : Nat) (hs : srt M) (hf : ∀ x ∈ M, x.1.length ≤ 100 ∧ x.2.length ≤ 100) (hn : M.length ≤ 80) (en : n = M.length) : Tell w1 M n p A c := by
  have hz : t.size = n := by rw [← Tr.length, h.list, en]
  have hs' : srt t.list := by rw [h.list]; exact hs
  have hf' : ∀ x ∈ t.list, x.1.length ≤ 100000 ∧ x.2.length ≤ 100000 := by
    rw [h.list]
    intro x hx
    have := hf x hx
    omega
  have hk : ∀ q ∈ M, q.1.length ≤ 1000 := fun q hq => by have := hf q hq; omega
  refine ⟨fun W z hW z1 z2 => ?_, fun W hW => ?_, fun W hW => ?_, fun W K kc key x hW hK hx => ?_, fun W K kc key x hW hK hx => ?_, fun W K kc key x hW hK hx => ?_, fun W hW => ?_, fun W o z ka kc va vc x1 x2 is hW ho hp z1 z2 => ?_, fun W key hW hl => ?_, fun W key hW hl => ?_, fun W key hW hl => ?_⟩
  · refine (at_any z z1 z2 (h.tre.below hW) (by omega) hf').mono ?_
    rintro e w' ⟨h1, h2⟩
    rw [h.list] at h1
    exact ⟨h1.gt, h2⟩
  · refine (min_any (h.tre.below hW) (by omega) hf').mono ?_
    rintro e w' ⟨h1, h2⟩
    rw [h.list] at h1
    exact ⟨h1.gt, h2⟩
  · refine (max_any (h.tre.below hW) (by omega) hf').mono ?_
    rintro e w' ⟨h1, h2⟩
    rw [h.list, hz] at h1
    exact ⟨h1.gt, h2⟩
  · subst hx
    refine (floor_any kc (h.tre.below hW) (by omega) hf' hs' hK).mono ?_
    rintro e w' ⟨h1, h2⟩
    rw [h.list] at h1
    exact ⟨h1.gt, h2⟩
  · subst hx
    refine (ceil_any kc (h.tre.below hW) (by omega) hf' hs' hK).mono ?_
    rintro e w' ⟨h1, h2⟩
    rw [h.list] at h1
    exact ⟨h1.gt, h2⟩
  · subst hx
    refine (rank_any kc (h.tre.below hW) hs' (by omega) hf' hK).mono ?_
    rintro e w' ⟨h1, h2⟩
    rw [h.list] at h1
    exact ⟨h1, h2⟩
  · refine (size_any (h.tre.below hW) (by omega)).mono ?_
    rintro e w' ⟨h1, h2⟩
    rw [hz] at h1
    exact ⟨h1, h2⟩
  · obtain ⟨rfl, rfl, rfl, k1, k2⟩ := hp
    rw [en]
    exact refAt_any c kc vc (h.rcs.below hW) ho k1 k2 z1 z2
  · rw [en]
    exact refRank_any (h.rcs.below hW) c key (by omega) (by omega) hk
  · rw [en]
    exact refFloor_any (h.rcs.below hW) hs c key (by omega) (by omega) hk
  · rw [en]
    exact refCeil_any (h.rcs.below hW) hs c key (by omega) (by omega) hk
/-- what the calls come to, and all that is asked of it -/
theorem made_tell {w : World} {A0 : Option Addr} {L0 : List Opn} (c0 : Nat) (ha0 : Ocs w A0 L0) (hlen : L0.length ≤ 80) (htiny : tinyO L0 = true) :
    Calls Try.prog 9 #[.slice A0 L0.length c0] w fun e w' => ∃ p A c n, e = .returned (.tuple #[.pointer p, .slice A n c]) ∧ n = (plays L0).length ∧ n ≤ 80 ∧ Tell w' (plays L0) n p A c ∧ Below w.heap.size w w' := by
  refine (made_any c0 ha0 hlen htiny).mono ?_
  rintro e w' ⟨p, A, c, t, rfl, hat⟩
  obtain ⟨a1, a2, a3⟩ := plays_all hlen htiny L0.length
  rw [List.take_length] at a1 a2 a3
  exact ⟨p, A, c, _, rfl, rfl, a3, hat.tell c a1 a2 a3 rfl, hat.bel⟩
theorem plays_srt {L0 : List Opn} (hlen : L0.length ≤ 80) (htiny : tinyO L0 = true) : srt (plays L0) ∧ ∀ x ∈ plays L0, x.1.length ≤ 100 ∧ x.2.length ≤ 100 := by
  obtain ⟨a1, a2, _⟩ := plays_all hlen htiny L0.length
  rw [List.take_length] at a1 a2
  exact ⟨a1, a2⟩
end Go.Proofs.Ytdjbcminppomdaa
