/-
  How arguments that come in read: slices of bytes, slices of slices of bytes, slices of calls.
-/
import Derived.Test.YtialpajnjbchgaaRef
import Derived.ProofKit
import Derived.OpenShut
import Derived.ShutString
import Derived.ChangeOld
import Derived.Below
import Derived.Deep.Slices
import Derived.Deep.Fields
import Derived.ChangeSame
namespace Go.Proofs.Ytialpajnjbchgaa
open Go.ChangeShapes Go.WideShapes Go.ChangeAt Go.RowKit Go.Deep
set_option maxHeartbeats 400000
set_option maxRecDepth 100000
set_option linter.unusedSimpArgs false
/-- the slice at A reads as the lists of bytes L -/
def Lists (w : World) (A : Option Addr) (L : List (List UInt8)) : Prop :=
  L = [] ∨ ∃ b off, A = some ⟨b, off, none⟩ ∧ b < w.heap.size ∧ ∀ i (h : i < L.length), ∃ a c, w.cell? ⟨b, off + i, none⟩ = some (.slice a (L[i]).length c) ∧ Bts w a L[i]
/-- the slice at A reads as the calls L: whether bytes are fed, and which -/
def Ops (w : World) (A : Option Addr) (L : List (Bool × List UInt8)) : Prop :=
  L = [] ∨ ∃ b off, A = some ⟨b, off, none⟩ ∧ b < w.heap.size ∧ ∀ i (h : i < L.length), ∃ a c, w.cell? ⟨b, off + i * 2, none⟩ = some (.bool (L[i]).1) ∧ w.cell? ⟨b, off + i * 2 + 1, none⟩ = some (.slice a (L[i]).2.length c) ∧ Bts w a (L[i]).2
theorem Lists.at_ {w : World} {A : Option Addr} {L : List (List UInt8)} (h : Lists w A L) (i : Nat) (hi : i < L.length) :
    ∃ b off a c, A = some ⟨b, off, none⟩ ∧ ∀ w', Below w.heap.size w w' → w'.cell? ⟨b, off + i, none⟩ = some (.slice a (L[i]).length c) ∧ Bts w' a L[i] := by
  rcases h with rfl | ⟨b, off, rfl, hlt, hc⟩
  · simp at hi
  · obtain ⟨a, c, h1, h2⟩ := hc i hi
    exact ⟨b, off, a, c, rfl, fun w' hb => ⟨(hb.cell (p := ⟨b, off + i, none⟩) hlt).trans h1, h2.below hb⟩⟩
theorem Ops.at_ {w : World} {A : Option Addr} {L : List (Bool × List UInt8)} (h : Ops w A L) (i : Nat) (hi : i < L.length) :
    ∃ b off a c, A = some ⟨b, off, none⟩ ∧ ∀ w', Below w.heap.size w w' → w'.cell? ⟨b, off + i * 2, none⟩ = some (.bool (L[i]).1) ∧ w'.cell? ⟨b, off + i * 2 + 1, none⟩ = some (.slice a (L[i]).2.length c) ∧ Bts w' a (L[i]).2 := by
  rcases h with rfl | ⟨b, off, rfl, hlt, hc⟩
  · simp at hi
  · obtain ⟨a, c, h1, h2, h3⟩ := hc i hi
    exact ⟨b, off, a, c, rfl, fun w' hb => ⟨(hb.cell (p := ⟨b, off + i * 2, none⟩) hlt).trans h1, (hb.cell (p := ⟨b, off + i * 2 + 1, none⟩) hlt).trans h2, h3.below hb⟩⟩
theorem lt_of_cell {w : World} {b i : Nat} {v : Value} (h : w.cell? ⟨b, i, none⟩ = some v) : b < w.heap.size := by
  rcases Nat.lt_or_ge b w.heap.size with hlt | hge
  · exact hlt
  · simp [World.cell?, Array.getElem?_eq_none hge] at h
section
variable {H : Type} {enc : TypeId × Value → H} {W : World}
/-- a slice of bytes that came in -/
theorem bytes_open {n : Nat} {u : Value} {x : DataW H × List MemPlace} (h : DataW.trod enc Try.prog W 0 (fun _ => true) true n 22 [u] = some x) :
    ∃ (A : Option Addr) (c : Nat) (l : List UInt8), u = .slice A l.length c ∧ l.length ≤ c ∧ c ≤ maxLen ∧ Bts W A l := by
  rcases open_ints Try.underlying22 Try.underlying5 (by kernel_rfl) h with ⟨hcs, _⟩ | ⟨a, len, c, zs, hcs, _, hl, hm, hz, _, hcell, hwz⟩
  · simp only [List.cons.injEq, and_true] at hcs
    exact ⟨none, 0, [], hcs, Nat.le_refl _, Nat.zero_le _, .inl rfl⟩
  · simp only [List.cons.injEq, and_true] at hcs
    simp only [if_true] at hz
    have hlen : ((zs.take len).map fun n => UInt8.ofNat n.toNat).length = len := by simp; omega
    refine ⟨some a, c, (zs.take len).map (fun n => UInt8.ofNat n.toNat), by rw [hlen]; exact hcs, by rw [hlen]; exact hl, hm, ?_⟩
    rcases Nat.eq_zero_or_pos len with h0 | h0
    · left; subst h0; simp
    · right
      obtain ⟨b, off, rfl, hc⟩ := ints_at hcell (by omega)
      refine ⟨b, off, rfl, lt_of_cell (hc 0 (by omega)), fun i hi => ?_⟩
      rw [hlen] at hi
      rw [hc i (by omega)]
      have hwf := bounds_u8 (hwz (zs.getD i 0) (by rw [List.getD_eq_getElem?_getD, List.getElem?_eq_getElem (by omega)]; simp))
      congr 2
      have hi2 : i < zs.length := by omega
      rw [List.getElem_map, List.getElem_take, UInt8.toNat_ofNat']
      rw [List.getD_eq_getElem?_getD, List.getElem?_eq_getElem hi2] at hwf ⊢
      simp only [Option.getD_some] at hwf ⊢
      omega
theorem list_of {α : Type} {Q : Nat → α → Prop} : ∀ n, (∀ i, i < n → ∃ p, Q i p) → ∃ L : List α, L.length = n ∧ ∀ i (h : i < L.length), Q i L[i]
  | 0, _ => ⟨[], rfl, fun i h => by simp at h⟩
  | n + 1, h => by
    obtain ⟨L, hl, hq⟩ := list_of n fun i hi => h i (by omega)
    obtain ⟨p, hp⟩ := h n (by omega)
    refine ⟨L ++ [p], by simp [hl], fun i hi => ?_⟩
    rcases Nat.lt_or_ge i L.length with g | g
    · rw [List.getElem_append_left g]; exact hq i g
    · have e : i = L.length := by simp at hi; omega
      subst e
      rw [List.getElem_append_right (Nat.le_refl _)]
      simpa [hl] using hp
theorem call_open {n : Nat} {a : Addr} {cs : List Value} {x : DataW H × List MemPlace} (hc : W.cells? 0 a 2 = some cs) (h : DataW.trod enc Try.prog W 0 (fun _ => true) true n 30 cs = some x) :
    ∃ (p : Bool × List UInt8) (va : Option Addr) (vc : Nat), W.cell? a = some (.bool p.1) ∧ W.cell? (a.add 1) = some (.slice va p.2.length vc) ∧ Bts W va p.2 := by
  obtain ⟨_, hl, hat⟩ := World.cells?_some hc
  obtain ⟨xs, m, _, _, _, hxl, hf⟩ := DataW.trod_struct Try.underlying30 h
  match cs, hl with
  | [u0, u1], _ =>
    match xs, hxl with
    | [x0, x1], _ =>
      have f0 : DataW.trod enc Try.prog W 0 (fun _ => true) true m 4 (List.take (Try.prog.cellsOf 4) [u0, u1]) = some x0 := hf 0 _ rfl
      have f1 : DataW.trod enc Try.prog W 0 (fun _ => true) true m 22 (List.take (Try.prog.cellsOf 22) [u1]) = some x1 := hf 1 _ rfl
      have e1 : Try.prog.cellsOf 22 = 1 := by kernel_rfl
      have e2 : Try.prog.cellsOf 4 = 1 := by kernel_rfl
      simp only [e2, List.take_succ_cons, List.take_zero] at f0
      simp only [e1, List.take_succ_cons, List.take_zero] at f1
      obtain ⟨b, hb, _⟩ := DataW.trod_bool Try.underlying4 f0
      simp only [List.cons.injEq, and_true] at hb
      subst hb
      obtain ⟨va, vc, v, rfl, _, _, hv⟩ := bytes_open f1
      refine ⟨(b, v), va, vc, ?_, hat 1 (by omega), hv⟩
      have := hat 0 (by omega)
      simpa [Addr.add] using this
/-- a slice of calls that came in -/
theorem ops_open {n : Nat} {u : Value} {x : DataW H × List MemPlace} (h : DataW.trod enc Try.prog W 0 (fun _ => true) true n 23 [u] = some x) :
    ∃ (A : Option Addr) (c : Nat) (L : List (Bool × List UInt8)), u = .slice A L.length c ∧ L.length ≤ c ∧ c ≤ maxLen ∧ Ops W A L := by
  rcases open_slice Try.underlying23 h with ⟨hcs, _⟩ | ⟨a, len, c, m, n', D, Pl, hcs, _, hl, hm, hmm, _, hi⟩
  · simp only [List.cons.injEq, and_true] at hcs
    exact ⟨none, 0, [], hcs, Nat.le_refl _, Nat.zero_le _, .inl rfl⟩
  · simp only [List.cons.injEq, and_true] at hcs
    simp only [if_true] at hmm
    have e2 : Try.prog.cellsOf 30 = 2 := by kernel_rfl
    rw [e2] at hi
    obtain ⟨L, hL, hq⟩ := list_of (Q := fun i (p : Bool × List UInt8) => ∃ (va : Option Addr) (vc : Nat), W.cell? (a.add (i * 2)) = some (.bool p.1) ∧ W.cell? ((a.add (i * 2)).add 1) = some (.slice va p.2.length vc) ∧ Bts W va p.2) len (by
      intro i hlt
      obtain ⟨cs', h1, h2⟩ := hi i (by omega)
      exact call_open h1 h2)
    refine ⟨some a, c, L, by rw [hL]; exact hcs, by rw [hL]; exact hl, hm, ?_⟩
    rcases Nat.eq_zero_or_pos L.length with h0 | h0
    · exact .inl (List.eq_nil_of_length_eq_zero h0)
    · obtain ⟨va, vc, g1, g2, _⟩ := hq 0 h0
      have hpl : a.spot = none := by simpa [Addr.add] using World.cell?_spot g1
      obtain ⟨b, off, sp⟩ := a
      subst hpl
      refine .inr ⟨b, off, rfl, ?_, fun i hi => ?_⟩
      · have g := g1
        rw [add_plain] at g
        exact lt_of_cell g
      · obtain ⟨va, vc, g1, g2, g3⟩ := hq i hi
        rw [add_plain] at g1 g2
        rw [add_plain] at g2
        exact ⟨va, vc, g1, g2, g3⟩
/-- a slice of slices of bytes that came in -/
theorem lists_open {n : Nat} {u : Value} {x : DataW H × List MemPlace} (h : DataW.trod enc Try.prog W 0 (fun _ => true) true n 41 [u] = some x) :
    ∃ (A : Option Addr) (c : Nat) (L : List (List UInt8)), u = .slice A L.length c ∧ L.length ≤ c ∧ c ≤ maxLen ∧ Lists W A L := by
  rcases open_slice1 Try.underlying41 (by kernel_rfl) h with ⟨hcs, _⟩ | ⟨a, len, c, m, n', V, D, Pl, hcs, _, hl, hm, hmm, _, hi⟩
  · simp only [List.cons.injEq, and_true] at hcs
    exact ⟨none, 0, [], hcs, Nat.le_refl _, Nat.zero_le _, .inl rfl⟩
  · simp only [List.cons.injEq, and_true] at hcs
    simp only [if_true] at hmm
    obtain ⟨L, hL, hq⟩ := list_of (Q := fun i (p : List UInt8) => ∃ (va : Option Addr) (vc : Nat), W.cell? (a.add i) = some (.slice va p.length vc) ∧ Bts W va p) len (by
      intro i hlt
      obtain ⟨h1, h2⟩ := hi i (by omega)
      obtain ⟨va, vc, v, e, _, _, hv⟩ := bytes_open h2
      exact ⟨v, va, vc, by rw [h1, e], hv⟩)
    refine ⟨some a, c, L, by rw [hL]; exact hcs, by rw [hL]; exact hl, hm, ?_⟩
    rcases Nat.eq_zero_or_pos L.length with h0 | h0
    · exact .inl (List.eq_nil_of_length_eq_zero h0)
    · obtain ⟨va, vc, g1, _⟩ := hq 0 h0
      have hpl : a.spot = none := by simpa [Addr.add] using World.cell?_spot g1
      obtain ⟨b, off, sp⟩ := a
      subst hpl
      refine .inr ⟨b, off, rfl, ?_, fun i hi => ?_⟩
      · have g := g1
        rw [add_plain] at g
        exact lt_of_cell g
      · obtain ⟨va, vc, g1, g3⟩ := hq i hi
        rw [add_plain] at g1
        exact ⟨va, vc, g1, g3⟩
end
end Go.Proofs.Ytialpajnjbchgaa
