/-
  How arguments that come in read: slices of bytes and slices of pairs.
-/
import Derived.Test.YtmbdimonfdncpaaGreatDoorRefz
import Derived.ProofKit
import Derived.OpenShut
import Derived.ShutString
import Derived.ChangeOld
import Derived.Below
import Derived.Deep.Slices
import Derived.Deep.Fields
import Derived.ChangeSame
namespace Go.Proofs.YtmbdimonfdncpaaGreatDoor
open Go.ChangeShapes Go.WideShapes Go.ChangeAt Go.RowKit Go.Deep
set_option maxHeartbeats 400000
set_option maxRecDepth 100000
set_option linter.unusedSimpArgs false
theorem lt_of_cell {w : World} {b i : Nat} {v : Value} (h : w.cell? ⟨b, i, none⟩ = some v) : b < w.heap.size := by
  rcases Nat.lt_or_ge b w.heap.size with hlt | hge
  · exact hlt
  · simp [World.cell?, Array.getElem?_eq_none hge] at h
section
variable {H : Type} {enc : TypeId × Value → H} {W : World}
/-- a slice of bytes that came in -/
theorem bytes_open {n : Nat} {u : Value} {x : DataW H × List MemPlace} (h : DataW.trod enc Tryz.prog W 0 (fun _ => true) true n 27 [u] = some x) :
    ∃ (A : Option Addr) (c : Nat) (l : List UInt8), u = .slice A l.length c ∧ l.length ≤ c ∧ c ≤ maxLen ∧ Bts W A l := by
  rcases open_ints Tryz.underlying27 Tryz.underlying5 (by kernel_rfl) h with ⟨hcs, _⟩ | ⟨a, len, c, zs, hcs, _, hl, hm, hz, _, hcell, hwz⟩
  · simp only [List.cons.injEq, and_true] at hcs
    exact ⟨none, 0, [], hcs, Nat.le_refl _, Nat.zero_le _, .inl rfl⟩
  · simp only [List.cons.injEq, and_true] at hcs
    simp only [if_true] at hz
    have hlen : ((zs.take len).map fun n => UInt8.ofNat n.toNat).length = len := by simp; omega
    refine ⟨some a, c, (zs.take len).map (fun n => UInt8.ofNat n.toNat), by rw [hlen]; exact hcs, by rw [hlen]; exact hl, hm, ?_⟩
    rcases Nat.eq_zero_or_pos len with h0 | h0
    · left; subst h0; simp
    · right
      obtain ⟨b, off, rfl, hc⟩ := ints_at hcell (by omega)
      refine ⟨b, off, rfl, lt_of_cell (hc 0 (by omega)), fun i hi => ?_⟩
      rw [hlen] at hi
      rw [hc i (by omega)]
      have hwf := bounds_u8 (hwz (zs.getD i 0) (by rw [List.getD_eq_getElem?_getD, List.getElem?_eq_getElem (by omega)]; simp))
      congr 2
      have hi2 : i < zs.length := by omega
      rw [List.getElem_map, List.getElem_take, UInt8.toNat_ofNat']
      rw [List.getD_eq_getElem?_getD, List.getElem?_eq_getElem hi2] at hwf ⊢
      simp only [Option.getD_some] at hwf ⊢
      omega
theorem list_of {α : Type} {Q : Nat → α → Prop} : ∀ n, (∀ i, i < n → ∃ p, Q i p) → ∃ L : List α, L.length = n ∧ ∀ i (h : i < L.length), Q i L[i]
  | 0, _ => ⟨[], rfl, fun i h => by simp at h⟩
  | n + 1, h => by
    obtain ⟨L, hl, hq⟩ := list_of n fun i hi => h i (by omega)
    obtain ⟨p, hp⟩ := h n (by omega)
    refine ⟨L ++ [p], by simp [hl], fun i hi => ?_⟩
    rcases Nat.lt_or_ge i L.length with g | g
    · rw [List.getElem_append_left g]; exact hq i g
    · have e : i = L.length := by simp at hi; omega
      subst e
      rw [List.getElem_append_right (Nat.le_refl _)]
      simpa [hl] using hp
theorem pair_open {n : Nat} {a : Addr} {cs : List Value} {x : DataW H × List MemPlace} (hc : W.cells? 0 a 2 = some cs) (h : DataW.trod enc Tryz.prog W 0 (fun _ => true) true n 29 cs = some x) :
    ∃ (p : Pr) (ka : Option Addr) (kc : Nat) (va : Option Addr) (vc : Nat), W.cell? a = some (.slice ka p.1.length kc) ∧ W.cell? (a.add 1) = some (.slice va p.2.length vc) ∧ Bts W ka p.1 ∧ Bts W va p.2 := by
  obtain ⟨_, hl, hat⟩ := World.cells?_some hc
  obtain ⟨xs, m, _, _, _, hxl, hf⟩ := DataW.trod_struct Tryz.underlying29 h
  match cs, hl with
  | [u0, u1], _ =>
    match xs, hxl with
    | [x0, x1], _ =>
      have f0 := hf 0 _ rfl
      have f1 := hf 1 _ rfl
      have e1 : Tryz.prog.cellsOf 27 = 1 := by kernel_rfl
      simp only [e1, List.drop_zero, List.take_succ_cons, List.take_zero, List.getElem?_cons_zero] at f0
      simp only [e1, List.drop_succ_cons, List.drop_zero, List.take_succ_cons, List.take_zero, List.getElem?_cons_succ, List.getElem?_cons_zero] at f1
      obtain ⟨ka, kc, k, rfl, _, _, hk⟩ := bytes_open f0
      obtain ⟨va, vc, v, rfl, _, _, hv⟩ := bytes_open f1
      refine ⟨(k, v), ka, kc, va, vc, ?_, hat 1 (by omega), hk, hv⟩
      have := hat 0 (by omega)
      simpa [Addr.add] using this
/-- a slice of pairs that came in -/
theorem pairs_open {n : Nat} {u : Value} {x : DataW H × List MemPlace} (h : DataW.trod enc Tryz.prog W 0 (fun _ => true) true n 23 [u] = some x) :
    ∃ (A : Option Addr) (c : Nat) (L : List Pr), u = .slice A L.length c ∧ L.length ≤ c ∧ c ≤ maxLen ∧ Pcs W A L := by
  rcases open_slice Tryz.underlying23 h with ⟨hcs, _⟩ | ⟨a, len, c, m, n', D, Pl, hcs, _, hl, hm, hmm, _, hi⟩
  · simp only [List.cons.injEq, and_true] at hcs
    exact ⟨none, 0, [], hcs, Nat.le_refl _, Nat.zero_le _, .inl rfl⟩
  · simp only [List.cons.injEq, and_true] at hcs
    simp only [if_true] at hmm
    have e2 : Tryz.prog.cellsOf 29 = 2 := by kernel_rfl
    rw [e2] at hi
    obtain ⟨L, hL, hq⟩ := list_of (Q := fun i (p : Pr) => ∃ (ka : Option Addr) (kc : Nat) (va : Option Addr) (vc : Nat), W.cell? (a.add (i * 2)) = some (.slice ka p.1.length kc) ∧ W.cell? ((a.add (i * 2)).add 1) = some (.slice va p.2.length vc) ∧ Bts W ka p.1 ∧ Bts W va p.2) len (by
      intro i hlt
      obtain ⟨cs', h1, h2⟩ := hi i (by omega)
      exact pair_open h1 h2)
    refine ⟨some a, c, L, by rw [hL]; exact hcs, by rw [hL]; exact hl, hm, ?_⟩
    rcases Nat.eq_zero_or_pos L.length with h0 | h0
    · exact .inl (List.eq_nil_of_length_eq_zero h0)
    · obtain ⟨ka, kc, va, vc, g1, g2, _, _⟩ := hq 0 h0
      have hpl : a.spot = none := by simpa [Addr.add] using World.cell?_spot g1
      obtain ⟨b, off, sp⟩ := a
      subst hpl
      refine .inr ⟨b, off, rfl, ?_, fun i hi => ?_⟩
      · have g := g1
        rw [add_plain] at g
        exact lt_of_cell g
      · obtain ⟨ka, kc, va, vc, g1, g2, g3, g4⟩ := hq i hi
        rw [add_plain] at g1 g2
        rw [add_plain] at g2
        exact ⟨ka, kc, va, vc, g1, g2, g3, g4⟩
end
end Go.Proofs.YtmbdimonfdncpaaGreatDoor
