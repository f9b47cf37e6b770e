/-
  How arguments that come in read: seeds, states, numbers, slices of bytes and of numbers.
-/
import Derived.Test.YtmkibkeacbhhaaaBegin
import Derived.ProofKit
import Derived.OpenShut
import Derived.ShutString
import Derived.ChangeOld
import Derived.Below
import Derived.ChangeSame
namespace Go.Proofs.Ytmkibkeacbhhaaa
open Go.ChangeShapes Go.WideShapes Go.ChangeAt Go.RowKit
set_option maxHeartbeats 400000
set_option maxRecDepth 100000
set_option linter.unusedSimpArgs false
theorem lt_of_cell {w : World} {b i : Nat} {v : Value} (h : w.cell? ⟨b, i, none⟩ = some v) : b < w.heap.size := by
  rcases Nat.lt_or_ge b w.heap.size with hlt | hge
  · exact hlt
  · simp [World.cell?, Array.getElem?_eq_none hge] at h
theorem list_of {α : Type} {Q : Nat → α → Prop} : ∀ n, (∀ i, i < n → ∃ p, Q i p) → ∃ L : List α, L.length = n ∧ ∀ i (h : i < L.length), Q i L[i]
  | 0, _ => ⟨[], rfl, fun i h => by simp at h⟩
  | n + 1, h => by
    obtain ⟨L, hl, hq⟩ := list_of n fun i hi => h i (by omega)
    obtain ⟨p, hp⟩ := h n (by omega)
    refine ⟨L ++ [p], by simp [hl], fun i hi => ?_⟩
    rcases Nat.lt_or_ge i L.length with g | g
    · rw [List.getElem_append_left g]; exact hq i g
    · have e : i = L.length := by simp at hi; omega
      subst e
      rw [List.getElem_append_right (Nat.le_refl _)]
      simpa [hl] using hp
/-- the slice at A reads as the numbers L, in blocks that are there -/
def Nums (w : World) (A : Option Addr) (L : List Nat) : Prop :=
  L = [] ∨ ∃ b off, A = some ⟨b, off, none⟩ ∧ b < w.heap.size ∧ ∀ i (h : i < L.length), w.cell? ⟨b, off + i, none⟩ = some (.int .u64 ((L[i] : Nat) : Int))
section
variable {H : Type} {enc : TypeId × Value → H} {W : World}
/-- an array of numbers of one kind -/
theorem array_open {t e : TypeId} {k : IntKind} {n fuel : Nat} {cs : List Value} {x : DataW H × List MemPlace} (ht : Try.prog.underlying t = some (.array n e)) (he : Try.prog.underlying e = some (.int k))
    (hce : Try.prog.cellsOf e = 1) (hct : Try.prog.cellsOf t = n) (h : DataW.trod enc Try.prog W 0 (fun _ => true) true fuel t cs = some x) :
    ∃ zs : List Int, zs.length = n ∧ cs = zs.map (Value.int k) ∧ ∀ z ∈ zs, (Lit.int k z).wf = true := by
  obtain ⟨xs, m, _, _, hl, hxl, hx⟩ := DataW.trod_array ht h
  rw [hct] at hl
  rw [hce] at hx
  obtain ⟨zs, hz, hq⟩ := list_of (Q := fun i (z : Int) => cs[i]? = some (.int k z) ∧ (Lit.int k z).wf = true) n fun i hi => by
    have h1 := hx i hi
    rw [List.getElem?_eq_getElem (by omega)] at h1
    obtain ⟨z, e0, _, w0⟩ := DataW.trod_int he h1
    refine ⟨z, ?_, w0⟩
    rw [Nat.mul_one] at e0
    have h2 : ((cs.drop i).take 1)[0]? = some (.int k z) := by rw [e0]; rfl
    rw [List.getElem?_take_of_lt (by omega), List.getElem?_drop] at h2
    exact h2
  refine ⟨zs, hz, ?_, fun z hm => ?_⟩
  · apply List.ext_getElem?
    intro i
    rw [List.getElem?_map]
    rcases Nat.lt_or_ge i n with hi | hi
    · rw [(hq i (by omega)).1, List.getElem?_eq_getElem (by omega)]; rfl
    · rw [List.getElem?_eq_none (by omega), List.getElem?_eq_none (by omega)]; rfl
  · obtain ⟨i, hi, rfl⟩ := List.getElem_of_mem hm
    exact (hq i hi).2
theorem list4 {α : Type} (l : List α) (h : l.length = 4) : ∃ a b c d, l = [a, b, c, d] := by
  match l, h with
  | [a, b, c, d], _ => exact ⟨a, b, c, d, rfl⟩
/-- a state that came in -/
theorem state_open {base : Nat} {v : Value} {d : DataW H} {ps : List MemPlace} (hv : Value.okWide Try.prog W .any base 31 v) (h : DataW.Trod enc Try.prog W 0 (fun _ => true) true 31 v d ps) :
    ∃ p q r s : Nat, v = .agg #[.int .u64 p, .int .u64 q, .int .u64 r, .int .u64 s] ∧ St.ok ⟨p, q, r, s⟩ := by
  obtain ⟨cs, rfl, hsz, _⟩ : ∃ cs, v = .agg cs ∧ cs.size = Try.prog.cellsOf 31 ∧ Row.okWide Try.prog W .any base 31 cs := by
    simpa [Value.okWide, Try.underlying31] using hv
  obtain ⟨fuel, hf⟩ := h
  obtain ⟨zs, hz, hc, hw⟩ := array_open Try.underlying31 Try.underlying26 (by kernel_rfl) (by kernel_rfl) hf
  obtain ⟨a, b, c, d, rfl⟩ := list4 zs hz
  have ha := bounds_u64 (hw a (by simp))
  have hb := bounds_u64 (hw b (by simp))
  have hc' := bounds_u64 (hw c (by simp))
  have hd := bounds_u64 (hw d (by simp))
  refine ⟨a.toNat, b.toNat, c.toNat, d.toNat, ?_, ?_⟩
  · have e : cs = (cs.toList).toArray := by simp
    have e2 : cs.toList = [Value.int .u64 a, .int .u64 b, .int .u64 c, .int .u64 d] := hc
    rw [e, e2, Int.toNat_of_nonneg ha.1, Int.toNat_of_nonneg hb.1, Int.toNat_of_nonneg hc'.1, Int.toNat_of_nonneg hd.1]
  · exact ⟨by simp only; omega, by simp only; omega, by simp only; omega, by simp only; omega⟩
/-- a seed that came in -/
theorem seed_open {base : Nat} {v : Value} {d : DataW H} {ps : List MemPlace} (hv : Value.okWide Try.prog W .any base 23 v) (h : DataW.Trod enc Try.prog W 0 (fun _ => true) true 23 v d ps) :
    ∃ l : List UInt8, v = .agg (seedV l) ∧ l.length = 16 := by
  obtain ⟨cs, rfl, hsz, _⟩ : ∃ cs, v = .agg cs ∧ cs.size = Try.prog.cellsOf 23 ∧ Row.okWide Try.prog W .any base 23 cs := by
    simpa [Value.okWide, Try.underlying23] using hv
  obtain ⟨fuel, hf⟩ := h
  obtain ⟨zs, hz, hc, hw⟩ := array_open Try.underlying23 Try.underlying5 (by kernel_rfl) (by kernel_rfl) hf
  refine ⟨zs.map (fun n => UInt8.ofNat n.toNat), ?_, by rw [List.length_map, hz]⟩
  have e : cs = (cs.toList).toArray := by simp
  have e2 : cs.toList = zs.map (Value.int .u8) := hc
  rw [e, e2, seedV, List.map_map]
  congr 2
  apply List.map_congr_left
  intro z hzm
  have hb := bounds_u8 (hw z hzm)
  simp only [Function.comp_apply]
  rw [UInt8.toNat_ofNat']
  congr 1
  omega
/-- a number that came in -/
theorem num_open {base : Nat} {v : Value} {d : DataW H} {ps : List MemPlace} (hv : Value.okWide Try.prog W .any base 26 v) (h : DataW.Trod enc Try.prog W 0 (fun _ => true) true 26 v d ps) :
    ∃ m : Nat, v = .int .u64 m ∧ m < 18446744073709551616 := by
  obtain ⟨n, rfl⟩ := okWide_int Try.underlying26 hv
  obtain ⟨fuel, hf⟩ := h
  obtain ⟨z, e0, _, w0⟩ := DataW.trod_int Try.underlying26 hf
  have hb := bounds_u64 w0
  have hz : n = z := by simpa [Value.cells] using e0
  subst hz
  exact ⟨n.toNat, by rw [Int.toNat_of_nonneg hb.1], by omega⟩
/-- a slice of bytes that came in -/
theorem bytes_open {base : Nat} {v : Value} {d : DataW H} {ps : List MemPlace} (hv : Value.okWide Try.prog W .any base 24 v) (h : DataW.Trod enc Try.prog W 0 (fun _ => true) true 24 v d ps) :
    ∃ (A : Option Addr) (c : Nat) (l : List UInt8), v = .slice A l.length c ∧ l.length ≤ c ∧ c ≤ maxLen ∧ Bts W A l := by
  obtain ⟨a0, len0, cap0, rfl⟩ := okWide_slice Try.underlying24 hv
  obtain ⟨fuel, hf⟩ := h
  rcases open_ints Try.underlying24 Try.underlying5 (by kernel_rfl) hf with ⟨hcs, _⟩ | ⟨a, len, c, zs, hcs, _, hl, hm, hz, _, hcell, hwz⟩
  · have hcs2 : Value.slice a0 len0 cap0 = .slice none 0 0 := by simpa [Value.cells] using hcs
    exact ⟨none, 0, [], hcs2, Nat.le_refl _, Nat.zero_le _, .inl rfl⟩
  · have hcs2 : Value.slice a0 len0 cap0 = .slice (some a) len c := by simpa [Value.cells] using hcs
    simp only [if_true] at hz
    have hlen : ((zs.take len).map fun n => UInt8.ofNat n.toNat).length = len := by simp; omega
    refine ⟨some a, c, (zs.take len).map (fun n => UInt8.ofNat n.toNat), by rw [hlen]; exact hcs2, by rw [hlen]; exact hl, hm, ?_⟩
    rcases Nat.eq_zero_or_pos len with h0 | h0
    · left; subst h0; simp
    · right
      obtain ⟨b, off, rfl, hc⟩ := ints_at hcell (by omega)
      refine ⟨b, off, rfl, lt_of_cell (hc 0 (by omega)), fun i hi => ?_⟩
      rw [hlen] at hi
      rw [hc i (by omega)]
      have hwf := bounds_u8 (hwz (zs.getD i 0) (by rw [List.getD_eq_getElem?_getD, List.getElem?_eq_getElem (by omega)]; simp))
      congr 2
      have hi2 : i < zs.length := by omega
      rw [List.getElem_map, List.getElem_take, UInt8.toNat_ofNat']
      rw [List.getD_eq_getElem?_getD, List.getElem?_eq_getElem hi2] at hwf ⊢
      simp only [Option.getD_some] at hwf ⊢
      omega
/-- a slice of numbers that came in -/
theorem nums_open {base : Nat} {v : Value} {d : DataW H} {ps : List MemPlace} (hv : Value.okWide Try.prog W .any base 42 v) (h : DataW.Trod enc Try.prog W 0 (fun _ => true) true 42 v d ps) :
    ∃ (A : Option Addr) (c : Nat) (l : List Nat), v = .slice A l.length c ∧ l.length ≤ c ∧ c ≤ maxLen ∧ Nums W A l ∧ ∀ m ∈ l, m < 18446744073709551616 := by
  obtain ⟨a0, len0, cap0, rfl⟩ := okWide_slice Try.underlying42 hv
  obtain ⟨fuel, hf⟩ := h
  rcases open_ints Try.underlying42 Try.underlying26 (by kernel_rfl) hf with ⟨hcs, _⟩ | ⟨a, len, c, zs, hcs, _, hl, hm, hz, _, hcell, hwz⟩
  · have hcs2 : Value.slice a0 len0 cap0 = .slice none 0 0 := by simpa [Value.cells] using hcs
    exact ⟨none, 0, [], hcs2, Nat.le_refl _, Nat.zero_le _, .inl rfl, fun m hm => by simp at hm⟩
  · have hcs2 : Value.slice a0 len0 cap0 = .slice (some a) len c := by simpa [Value.cells] using hcs
    simp only [if_true] at hz
    have hlen : ((zs.take len).map Int.toNat).length = len := by simp; omega
    refine ⟨some a, c, (zs.take len).map Int.toNat, by rw [hlen]; exact hcs2, by rw [hlen]; exact hl, hm, ?_, fun m hm => ?_⟩
    · rcases Nat.eq_zero_or_pos len with h0 | h0
      · left; subst h0; simp
      · right
        obtain ⟨b, off, rfl, hc⟩ := ints_at hcell (by omega)
        refine ⟨b, off, rfl, lt_of_cell (hc 0 (by omega)), fun i hi => ?_⟩
        rw [hlen] at hi
        rw [hc i (by omega)]
        have hwf := bounds_u64 (hwz (zs.getD i 0) (by rw [List.getD_eq_getElem?_getD, List.getElem?_eq_getElem (by omega)]; simp))
        congr 2
        have hi2 : i < zs.length := by omega
        rw [List.getElem_map, List.getElem_take]
        rw [List.getD_eq_getElem?_getD, List.getElem?_eq_getElem hi2] at hwf ⊢
        simp only [Option.getD_some] at hwf ⊢
        omega
    · obtain ⟨z, hzm, rfl⟩ := List.mem_map.1 hm
      have := bounds_u64 (hwz z (List.mem_of_mem_take hzm))
      omega
end
end Go.Proofs.Ytmkibkeacbhhaaa
