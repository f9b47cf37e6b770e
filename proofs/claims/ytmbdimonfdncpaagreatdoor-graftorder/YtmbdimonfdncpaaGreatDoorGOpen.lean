/-
  How arguments that come in read: slices of numbers, of pairs, a byte.
-/
import Derived.Test.YtmbdimonfdncpaaGreatDoorOpen
import Derived.Test.YtmbdimonfdncpaaGreatDoorIn
import Derived.Test.YtmbdimonfdncpaaGreatDoorGHash
namespace Go.Proofs.YtmbdimonfdncpaaGreatDoor
open Go.ChangeShapes Go.WideShapes Go.ChangeAt Go.RowKit Go.Deep
set_option maxHeartbeats 400000
set_option maxRecDepth 100000
section
variable {H : Type} {enc : TypeId × Value → H} {W : World}
theorem nums64_open {n : Nat} {u : Value} {x : DataW H × List MemPlace} (h : DataW.trod enc Tryz.prog W 0 (fun _ => true) true n 22 [u] = some x) :
    ∃ (A : Option Addr) (c : Nat) (T : List Nat), u = .slice A T.length c ∧ T.length ≤ c ∧ c ≤ maxLen ∧ N64 W A T ∧ ∀ z ∈ T, z < 18446744073709551616 := by
  rcases open_ints Tryz.underlying22 Tryz.underlying37 (by kernel_rfl) h with ⟨hcs, _⟩ | ⟨a, len, c, zs, hcs, _, hl, hm, hz, _, hcell, hwz⟩
  · simp only [List.cons.injEq, and_true] at hcs
    exact ⟨none, 0, [], hcs, Nat.le_refl _, Nat.zero_le _, .inl rfl, fun z hz => absurd hz List.not_mem_nil⟩
  · simp only [List.cons.injEq, and_true] at hcs
    simp only [if_true] at hz
    have hlen : ((zs.take len).map fun n => n.toNat).length = len := by simp; omega
    have hb : ∀ z ∈ zs, 0 ≤ z ∧ z < 18446744073709551616 := fun z hz => by
      have := bounds_u64 (hwz z hz)
      omega
    refine ⟨some a, c, (zs.take len).map (fun n => n.toNat), by rw [hlen]; exact hcs, by rw [hlen]; exact hl, hm, ?_, fun z hz => ?_⟩
    · rcases Nat.eq_zero_or_pos len with h0 | h0
      · left; subst h0; simp
      · right
        obtain ⟨b, off, rfl, hc⟩ := ints_at hcell (by omega)
        refine ⟨b, off, rfl, lt_of_cell (hc 0 (by omega)), fun i hi => ?_⟩
        rw [hlen] at hi
        rw [hc i (by omega)]
        have hi2 : i < zs.length := by omega
        have hwf := hb zs[i] (List.getElem_mem hi2)
        congr 2
        rw [List.getElem_map, List.getElem_take]
        rw [List.getD_eq_getElem?_getD, List.getElem?_eq_getElem hi2]
        simp only [Option.getD_some]
        omega
    · obtain ⟨y, hy, rfl⟩ := List.mem_map.1 hz
      have := hb y (List.mem_of_mem_take hy)
      omega
theorem nums64_in {base : Nat} {v : Value} {d : DataW H} {ps : List MemPlace} (hv : Value.okWide Tryz.prog W .any base 22 v) (h : DataW.Trod enc Tryz.prog W 0 (fun _ => true) true 22 v d ps) :
    ∃ (A : Option Addr) (c : Nat) (T : List Nat), v = .slice A T.length c ∧ T.length ≤ c ∧ c ≤ maxLen ∧ N64 W A T ∧ ∀ z ∈ T, z < 18446744073709551616 := by
  obtain ⟨a0, len0, cap0, rfl⟩ := okWide_slice Tryz.underlying22 hv
  obtain ⟨fuel, hf⟩ := h
  exact nums64_open hf
theorem pairs_in {base : Nat} {v : Value} {d : DataW H} {ps : List MemPlace} (hv : Value.okWide Tryz.prog W .any base 23 v) (h : DataW.Trod enc Tryz.prog W 0 (fun _ => true) true 23 v d ps) :
    ∃ (A : Option Addr) (c : Nat) (L : List Pr), v = .slice A L.length c ∧ L.length ≤ c ∧ c ≤ maxLen ∧ Pcs W A L := by
  obtain ⟨a0, len0, cap0, rfl⟩ := okWide_slice Tryz.underlying23 hv
  obtain ⟨fuel, hf⟩ := h
  exact pairs_open hf
theorem u8_in {base : Nat} {v : Value} {d : DataW H} {ps : List MemPlace} (hv : Value.okWide Tryz.prog W .any base 5 v) (h : DataW.Trod enc Tryz.prog W 0 (fun _ => true) true 5 v d ps) :
    ∃ z : Nat, v = .int .u8 (z : Int) ∧ z < 256 := by
  obtain ⟨n, rfl⟩ := okWide_int Tryz.underlying5 hv
  obtain ⟨fuel, hf⟩ := h
  obtain ⟨z, e0, _, w0⟩ := DataW.trod_int Tryz.underlying5 hf
  have hz : n = z := by simpa [Value.cells] using e0
  subst hz
  have hb := bounds_u8 w0
  exact ⟨n.toNat, by rw [show ((n.toNat : Nat) : Int) = n by omega], by omega⟩
end
end Go.Proofs.YtmbdimonfdncpaaGreatDoor
