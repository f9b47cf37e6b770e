/-
  Contracts of the reference's Print and Count, for strings of up to 10000 bytes.
-/
import Derived.Test.YtjagpamefcgpoaaOne
namespace Go.Proofs.Ytjagpamefcgpoaa
open Go.RowKit
set_option maxHeartbeats 400000
set_option maxRecDepth 100000
def strLen : Value → Nat
  | .string s => s.size
  | _ => 0
theorem oneB_le (l : List UInt8) : (oneB l).size ≤ 6 := by
  have := oneL_le l
  simpa [oneB, ByteArray.size] using this
theorem ne_of_size {s : ByteArray} (h : 0 < s.size) : s.data.toList ≠ [] := by
  intro e
  rw [Lib.size_eq, e] at h
  simp at h
theorem rest_list (s : ByteArray) (n : Nat) : (s.extract n s.size).data.toList = s.data.toList.drop n := by
  rw [Lib.extract_data]
  exact List.take_of_length_le (by rw [List.length_drop, Lib.size_eq]; exact Nat.le_refl _)
theorem rest_size (s : ByteArray) (n : Nat) : (s.extract n s.size).size = s.size - n := by
  rw [Lib.size_eq, rest_list, List.length_drop, ← Lib.size_eq]
theorem refPrint_any (s : ByteArray) (w : World) (hs : s.size ≤ 10000) :
    Calls Try.prog 12 #[.string s] w fun e w' => e = .returned (.string ⟨(printL s.data.toList).toArray⟩) ∧ Below w.heap.size w w' := by
  go_enter Try.func12, Try.ntmps12
  go_wp2
  go_loopw [0, 3] (fun a o wr => ∃ (sq ob : ByteArray), a = .string sq ∧ o = .string ob ∧ Hid (Below w.heap.size w wr) ∧ Hid (ob.data.toList ++ body sq.data.toList = 34 :: body s.data.toList) ∧ sq.size ≤ 10000 ∧ ob.size + 6 * sq.size ≤ 100000) (fun a _ _ => strLen a)
  case atStart => exact ⟨s, ⟨#[34]⟩, rfl, rfl, Below.refl _ _, rfl, hs, by show 1 + 6 * s.size ≤ 100000; omega⟩
  case round =>
    obtain ⟨sq, ob, rfl, rfl, hbw, hb, hq, ho⟩ := hrel
    by_cases hp : 0 < sq.size
    · have hc := one_any sq wr hp (by omega)
      obtain ⟨t, ht⟩ : ∃ t, t = oneB sq.data.toList := ⟨_, rfl⟩
      obtain ⟨n, hn⟩ : ∃ n, n = step sq.data.toList := ⟨_, rfl⟩
      rw [← ht, ← hn] at hc
      have ht6 : t.size ≤ 6 := by rw [ht]; exact oneB_le _
      have hn1 : 1 ≤ n := by rw [hn]; exact step_pos _
      have hn2 : n ≤ sq.size := by rw [hn, Lib.size_eq]; exact step_le _ (ne_of_size hp)
      have HT := Lib.hid ht; clear ht
      have HN := Lib.hid hn; clear hn
      have HC := Lib.hid hc; clear hc
      go_wp2_with fail
      refine HC.out.mono ?_
      rintro e w1 ⟨rfl, hb1⟩
      go_wp2_with fail
      go_roundw
      case rel =>
        refine ⟨sq.extract n sq.size, ob ++ t, rfl, rfl, below_then hbw.out hb1, ?_, ?_, ?_⟩
        · have h5 := hb.out
          rw [body_step (ne_of_size hp), ← HN.out] at h5
          show _ = _
          rw [rest_list, ByteArray.data_append, Array.toList_append, List.append_assoc, ← h5, HT.out]
          simp [oneB]
        · rw [rest_size]; omega
        · rw [rest_size, ByteArray.size_append]; omega
      case measure =>
        simp only [strLen]
        rw [rest_size]; omega
    · go_wp2_with fail
      go_ret
      refine ⟨ret_str ?_, hbw.out⟩
      have h5 := hb.out
      have h6 : sq.data.toList = [] := List.eq_nil_of_length_eq_zero (by rw [← Lib.size_eq]; omega)
      rw [h6, body_nil, List.append_nil] at h5
      rw [printL]
      apply ByteArray.ext
      apply Array.ext'
      rw [ByteArray.data_append, Array.toList_append, h5]
      simp
theorem refCount_any (s : ByteArray) (w : World) (hs : s.size ≤ 10000) :
    Calls Try.prog 14 #[.string s] w fun e w' => e = .returned (.tuple #[.int .i64 ((countL s.data.toList).1 : Int), .int .i64 ((countL s.data.toList).2 : Int)]) ∧ w = w' := by
  go_enter Try.func14, Try.ntmps14
  go_wp2
  go_loop [0, 4, 5] (fun a x y => ∃ (sq : ByteArray) (m k : Nat), a = .string sq ∧ x = .int .i64 (m : Int) ∧ y = .int .i64 (k : Int) ∧ Hid (countL s.data.toList = ((countL sq.data.toList).1 + m, (countL sq.data.toList).2 + k)) ∧ sq.size ≤ 10000 ∧ m + k + sq.size ≤ 10000) (fun a _ _ => strLen a)
  case atStart => exact ⟨s, 0, 0, rfl, rfl, rfl, rfl, hs, by omega⟩
  case round =>
    obtain ⟨sq, m, k, rfl, rfl, rfl, hb, hq, ho⟩ := hrel
    by_cases hp : 0 < sq.size
    · have hc := width_any sq w hp
      obtain ⟨n, hn⟩ : ∃ n, n = width sq.data.toList := ⟨_, rfl⟩
      rw [← hn] at hc
      have hn2 : n ≤ sq.size := by rw [hn, Lib.size_eq]; exact width_le _
      have h5 := hb.out
      rw [countL_step (ne_of_size hp), ← hn] at h5
      have hst : step sq.data.toList = if n = 0 then 1 else n := by rw [hn]; rfl
      rw [hst] at h5
      have H5 := Lib.hid h5; clear h5
      have HC := Lib.hid hc; clear hc
      clear hn hst
      by_cases h0 : n = 0
      · subst h0
        go_wp2_with fail
        refine HC.out.mono ?_
        rintro e w' ⟨rfl, rfl⟩
        go_wp2_with fail
        go_round
        case rel =>
          refine ⟨sq.extract 1 sq.size, m, k + 1, rfl, rfl, by go_num, ?_, ?_, ?_⟩
          · show _ = _
            rw [rest_list, H5.out]
            simp; omega
          · rw [rest_size]; omega
          · rw [rest_size]; omega
        case measure =>
          simp only [strLen]
          rw [rest_size]; omega
      · have e0 : ((n : Int) == 0) = false := by simp; omega
        have H0 := Lib.hid h0
        go_wp2_with fail
        refine HC.out.mono ?_
        rintro e w' ⟨rfl, rfl⟩
        go_wp2_with fail
        go_round
        case rel =>
          refine ⟨sq.extract n sq.size, m + 1, k, rfl, by go_num, rfl, ?_, ?_, ?_⟩
          · show _ = _
            rw [rest_list, H5.out]
            simp [H0.out]; omega
          · rw [rest_size]; omega
          · rw [rest_size]; omega
        case measure =>
          simp only [strLen]
          rw [rest_size]; omega
    · go_wp2_with fail
      go_ret2
      have h6 : sq.data.toList = [] := List.eq_nil_of_length_eq_zero (by rw [← Lib.size_eq]; omega)
      have h5 := hb.out
      rw [h6, countL_nil] at h5
      refine ⟨?_, rfl⟩
      rw [h5]; simp
end Go.Proofs.Ytjagpamefcgpoaa
