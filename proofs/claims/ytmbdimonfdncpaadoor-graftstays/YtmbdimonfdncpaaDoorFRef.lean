/-
  Contract of the reference's Get of a map as a list, with the value; meters compared; entries that come to themselves.
-/
import Derived.Test.YtmbdimonfdncpaaDoorRefz
import Derived.Test.YtmbdimonfdncpaaDoorNods
import Derived.Laws.StructEq
namespace Go.Proofs.YtmbdimonfdncpaaDoor
open Go.RowKit
set_option maxHeartbeats 400000
set_option maxRecDepth 100000
theorem val_at {M : List Pr} {k : List UInt8} {j : Nat} (hj : j < M.length) (hno : has (M.take j) k = false) (he : (M[j]).1 = k) : val M k = (M[j]).2 := by
  have e : M = M.take j ++ (M[j] :: M.drop (j + 1)) := by rw [List.getElem_cons_drop, List.take_append_drop]
  have h0 : ∀ x ∈ M.take j, x.1 ≠ k := fun x hx hk => by
    have := List.any_eq_false.1 hno x hx
    simp [hk] at this
  have h1 : val M k = val (M[j] :: M.drop (j + 1)) k := by
    conv => lhs; rw [e]
    exact val_none h0
  rw [h1]
  unfold val
  rw [List.find?_cons_of_pos (by simpa using he)]
  rfl
theorem val_no {M : List Pr} {k : List UInt8} (hno : has M k = false) : val M k = [] := by
  have h0 : ∀ x ∈ M, x.1 ≠ k := fun x hx hk => by
    have := List.any_eq_false.1 hno x hx
    simp [hk] at this
  have := val_none (b := []) h0
  rw [List.append_nil] at this
  rw [this]
  rfl
theorem refGet_val {w : World} {A : Option Addr} {M : List Pr} (ha : Rcs w A M) (c : Nat) (k : List UInt8) (hlen : M.length ≤ 1000) :
    Calls Tryd.prog 7 #[.slice A M.length c, .string ⟨k.toArray⟩] w fun e w' => e = .returned (.tuple #[.string ⟨(val M k).toArray⟩, .bool (has M k)]) ∧ Below w.heap.size w w' := by
  have HA := Lib.hid ha; clear ha
  obtain ⟨kk, hkk⟩ : ∃ s : ByteArray, s = ⟨k.toArray⟩ := ⟨_, rfl⟩
  rw [← hkk]
  have HK := Lib.hid hkk; clear hkk
  obtain ⟨vv, hvv⟩ : ∃ s : ByteArray, s = ⟨(val M k).toArray⟩ := ⟨_, rfl⟩
  rw [← hvv]
  have HV := Lib.hid hvv; clear hvv
  go_enter Tryd.func7, Tryd.ntmps7
  go_wp2
  go_loopw [10] (fun i wr => ∃ j : Nat, i = .int .i64 j ∧ j ≤ M.length ∧ Hid (Below w.heap.size w wr) ∧ Hid (has (M.take j) k = false)) (fun i _ => M.length - (intOf i).toNat)
  case atStart => exact ⟨0, rfl, by omega, Below.refl _ _, by simp [Hid, has]⟩
  case round =>
    obtain ⟨j, rfl, hj, hbel, hno⟩ := hrel
    by_cases hlt : j < M.length
    · obtain ⟨b', rfl, hbl', k1, k2⟩ := (HA.out.below hbel.out).at hlt
      obtain ⟨s, hs⟩ : ∃ s : ByteArray, s = ⟨(M[j]).1.toArray⟩ := ⟨_, rfl⟩
      obtain ⟨t, ht⟩ : ∃ s : ByteArray, s = ⟨(M[j]).2.toArray⟩ := ⟨_, rfl⟩
      rw [← hs] at k1
      rw [← ht] at k2
      clear HA
      by_cases he : (M[j]).1 = k
      · have e1 : s = kk := by rw [hs, HK.out, he]
        subst e1
        have e2 : t = vv := by rw [ht, HV.out, val_at hlt hno.out he]
        subst e2
        have HE : Hid (has M k = true) := List.any_eq_true.2 ⟨M[j], List.getElem_mem hlt, by simpa using he⟩
        clear hs ht he
        go_wp2_with fail
        go_ret2
        exact ⟨by rw [HE.out]; rfl, hbel.out.alloc hbel.out.size _⟩
      · have e2 : (s.toList == kk.toList) = false := by rw [hs, HK.out]; exact bs_ne he
        have HE := Lib.hid (decide_eq_false he)
        clear hs ht he
        go_wp2_with fail
        go_roundw
        case rel => exact ⟨j + 1, by go_num, by omega, hbel.out.alloc hbel.out.size _, by show _ = _; rw [has_take hlt, hno.out, HE.out]; rfl⟩
        case measure => simp [intOf]; omega
    · obtain rfl : j = M.length := by omega
      have HE : Hid (has M k = false) := by
        have h := hno.out
        rw [List.take_length] at h
        exact h
      have HV2 : Hid (vv = ⟨#[]⟩) := by show _ = _; rw [HV.out, val_no HE.out]
      go_wp2_with fail
      go_ret2
      exact ⟨by rw [HE.out, HV2.out]; rfl, hbel.out⟩
/-! ### two meters compared -/
theorem eq_met (a b c d : Int) (w : World) : (binOp .eql 120 (.agg #[.int .i64 a, .int .i64 b]) (.agg #[.int .i64 c, .int .i64 d])).run Tryd.prog w = .ok (.bool (a == c && b == d)) w := by
  have u3 := Tryd.underlying3
  have a3 := Tryd.isAgg3
  have z3 := Tryd.sizeOf3
  have hS : Tryd.prog.underlying 120 = some (.struct (Tryd.prog.fieldsOf 120)) := by kernel_rfl
  have hp : Tryd.prog.stoodInHeld 120 = false := by kernel_rfl
  rw [run_eql_struct, show (10000 : Nat) = 9999 + 1 from rfl, run_equalIn_agg w 9999 120 _ _ hS hp]
  simp only [Program.fieldsOf, Tryd.underlying120]
  go_simp
  by_cases h0 : a = c <;> by_cases h1 : b = d <;> simp [h0, h1]
theorem guard_met (w : World) (x y : Operand) (xs ys : Array Value) : (eqGuard .eql 120 x y (.agg xs) (.agg ys)).run Tryd.prog w = .ok () w :=
  run_eqGuard_agg w .eql 120 x y _ _ (by kernel_rfl)
end Go.Proofs.YtmbdimonfdncpaaDoor
