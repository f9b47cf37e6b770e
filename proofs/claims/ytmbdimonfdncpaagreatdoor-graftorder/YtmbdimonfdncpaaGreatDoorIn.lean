/-
  How arguments that come in read: slices of entries, of bytes.
-/
import Derived.Test.YtmbdimonfdncpaaGreatDoorOpen
import Derived.Test.YtmbdimonfdncpaaGreatDoorOf
namespace Go.Proofs.YtmbdimonfdncpaaGreatDoor
open Go.ChangeShapes Go.WideShapes Go.ChangeAt Go.RowKit Go.Deep
set_option maxHeartbeats 400000
set_option maxRecDepth 100000
section
variable {H : Type} {enc : TypeId × Value → H} {W : World}
theorem bytes_in {base : Nat} {v : Value} {d : DataW H} {ps : List MemPlace} (hv : Value.okWide Tryz.prog W .any base 27 v) (h : DataW.Trod enc Tryz.prog W 0 (fun _ => true) true 27 v d ps) :
    ∃ (A : Option Addr) (c : Nat) (l : List UInt8), v = .slice A l.length c ∧ l.length ≤ c ∧ c ≤ maxLen ∧ Bts W A l := by
  obtain ⟨a0, len0, cap0, rfl⟩ := okWide_slice Tryz.underlying27 hv
  obtain ⟨fuel, hf⟩ := h
  exact bytes_open hf
theorem num_in {base : Nat} {v : Value} {d : DataW H} {ps : List MemPlace} (hv : Value.okWide Tryz.prog W .any base 37 v) (h : DataW.Trod enc Tryz.prog W 0 (fun _ => true) true 37 v d ps) :
    ∃ z : Nat, v = .int .u64 (z : Int) ∧ z < 18446744073709551616 := by
  obtain ⟨n, rfl⟩ := okWide_int Tryz.underlying37 hv
  obtain ⟨fuel, hf⟩ := h
  obtain ⟨z, e0, _, w0⟩ := DataW.trod_int Tryz.underlying37 hf
  have hz : n = z := by simpa [Value.cells] using e0
  subst hz
  have hb := bounds_u64 w0
  exact ⟨n.toNat, by rw [show ((n.toNat : Nat) : Int) = n by omega], by omega⟩
end
/-- few entries, of few bytes -/
theorem small_fit {L : List En} {most : Nat} (hm : most ≤ 100) (h : (decide (L.length ≤ most) && tinyE L) = true) (hh : ∀ e ∈ L, e.1 < 18446744073709551616) : FitE L ∧ L.length ≤ most ∧ ∀ e ∈ L, e.2.1.length ≤ 60 ∧ e.2.2.length ≤ 60 := by
  rw [Bool.and_eq_true, decide_eq_true_eq] at h
  have ht := tinyE_all h.2
  exact ⟨⟨by omega, fun e he => ⟨hh e he, by have := (ht e he).1; omega, by have := (ht e he).2; omega⟩⟩, h.1, ht⟩
end Go.Proofs.YtmbdimonfdncpaaGreatDoor
