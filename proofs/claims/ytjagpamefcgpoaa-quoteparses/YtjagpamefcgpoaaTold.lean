/-
  Contracts of quote.Count and of the law's awake.
-/
import Derived.Test.YtjagpamefcgpoaaRefs
namespace Go.Proofs.Ytjagpamefcgpoaa
open Go.RowKit
set_option maxHeartbeats 400000
set_option maxRecDepth 100000
theorem count_any (l : List UInt8) (A : Option Addr) (c : Nat) (w : World) (hb : Bts w A l) (h3 : l.length ≤ 10000) :
    Calls Try.prog 13 #[.slice A l.length c] w fun e w' => e = .returned (.tuple #[.int .i64 ((countL l).1 : Int), .int .i64 ((countL l).2 : Int)]) ∧ Below w.heap.size w w' := by
  have hcv := conv_any hb c
  obtain ⟨s, hs⟩ : ∃ s : ByteArray, s = ⟨l.toArray⟩ := ⟨_, rfl⟩
  rw [← hs] at hcv
  have hsz : s.size = l.length := by rw [hs]; simp [ByteArray.size]
  have hsl : s.size ≤ 10000 := by omega
  have HSZ := Lib.hid hsz; clear hsz
  have HS := Lib.hid hs; clear hs hb
  go_enter Try.func13, Try.ntmps13
  go_wp2
  go_loopw [5, 6] (fun x y wr => ∃ (pos m k : Nat), x = .int .i64 (m : Int) ∧ y = .int .i64 (k : Int) ∧ wr = w.iter s pos ∧ Hid (countL l = ((countL (l.drop pos)).1 + m, (countL (l.drop pos)).2 + k)) ∧ pos ≤ s.size ∧ m + k ≤ pos) (fun _ _ wr => s.size - wr.iterPos w.heap.size)
  case atStart => exact ⟨0, 0, 0, rfl, rfl, rfl, rfl, by omega, by omega⟩
  case round =>
    obtain ⟨pos, m, k, rfl, rfl, rfl, hb, hps, hmk⟩ := hrel
    by_cases hp : pos < s.size
    · have hdc := decode_eq s pos hp
      have hnx : ∀ ty, (Instr.next (.pointer (some ⟨w.heap.size, 0, none⟩)) true ty).run Try.prog (w.iter s pos) = _ := fun ty => run_next_any w s pos ty hp
      rw [hdc] at hnx
      have hd : s.data.toList.drop pos = l.drop pos := by rw [HS.out]
      rw [hd] at hnx
      clear hdc hd
      have hne : l.drop pos ≠ [] := by
        intro e
        have := congrArg List.length e
        simp at this
        have := HSZ.out
        omega
      obtain ⟨q, hq⟩ : ∃ q, q = l.drop pos := ⟨_, rfl⟩
      have h5 := hb.out
      rw [← hq] at hnx hne h5
      obtain ⟨st, hst⟩ : ∃ st, st = step q := ⟨_, rfl⟩
      obtain ⟨r, hr⟩ : ∃ r, r = runeOf q := ⟨_, rfl⟩
      rw [← hst, ← hr] at hnx
      rw [countL_step hne, ← hst] at h5
      have h6 : q.drop st = l.drop (pos + st) := by rw [hq, List.drop_drop]
      rw [h6] at h5
      have hst1 : 1 ≤ st := by rw [hst]; exact step_pos q
      have hst2 : pos + st ≤ s.size := by
        have := step_le q hne
        rw [← hst] at this
        have h4 : q.length = l.length - pos := by rw [hq, List.length_drop]
        have := HSZ.out
        omega
      have HQ := Lib.hid hq; clear hq
      have HST := Lib.hid hst; clear hst
      have HR := Lib.hid hr; clear hr
      have HNE := Lib.hid hne; clear hne
      have H5 := Lib.hid h5; clear h5 h6
      by_cases hw0 : width q = 0
      · have HW := Lib.hid hw0; clear hw0
        go_wp2_with fail
        refine (stray_at q _ r _ HNE.out (by rw [HS.out, HQ.out]; exact extract_drop l pos _ (by simp [ByteArray.size])) HR.out true (by simp [HW.out])).mono ?_
        rintro e w' ⟨rfl, rfl⟩
        go_wp2_with fail
        go_roundw
        case rel =>
          refine ⟨pos + st, m, k + 1, rfl, by go_num, rfl, ?_, hst2, by omega⟩
          show _ = _
          rw [H5.out]
          simp [HW.out]; omega
        case measure => simp only [World.iterPos_iter]; omega
      · have HW := Lib.hid hw0; clear hw0
        go_wp2_with fail
        refine (stray_at q _ r _ HNE.out (by rw [HS.out, HQ.out]; exact extract_drop l pos _ (by simp [ByteArray.size])) HR.out false (by simp [HW.out])).mono ?_
        rintro e w' ⟨rfl, rfl⟩
        go_wp2_with fail
        go_roundw
        case rel =>
          refine ⟨pos + st, m + 1, k, by go_num, rfl, rfl, ?_, hst2, by omega⟩
          show _ = _
          rw [H5.out]
          simp [HW.out]; omega
        case measure => simp only [World.iterPos_iter]; omega
    · have hnx : ∀ ty, (Instr.next (.pointer (some ⟨w.heap.size, 0, none⟩)) true ty).run Try.prog (w.iter s pos) = _ := fun ty => run_next_end w s pos ty hp
      have hpe : l.drop pos = [] := List.drop_eq_nil_of_le (by have := HSZ.out; omega)
      have h5 := hb.out
      rw [hpe, countL_nil] at h5
      have H5 := Lib.hid h5; clear h5 hpe
      go_wp2_with fail
      go_ret2
      refine ⟨?_, (Below.refl _ w).alloc (Nat.le_refl _) _⟩
      rw [H5.out]; simp
theorem awake_text : printL [97, 34, 255, 10] = [34, 97, 92, 34, 92, 120, 102, 102, 92, 117, 48, 48, 48, 97, 34] := by
  have e1 : body [97, 34, 255, 10] = oneL [97, 34, 255, 10] ++ body [34, 255, 10] := body_step (by decide)
  have e2 : body [34, 255, 10] = oneL [34, 255, 10] ++ body [255, 10] := body_step (by decide)
  have e3 : body [255, 10] = oneL [255, 10] ++ body [10] := body_step (by decide)
  have e4 : body [10] = oneL [10] ++ body [] := body_step (by decide)
  rw [printL, e1, e2, e3, e4, body_nil]
  decide
theorem awake_any (w : World) : Calls Try.prog 9 #[] w fun e w' => e = .returned (.bool true) ∧ Below w.heap.size w w' := by
  have hcc := conv_const
  have hp : Calls Try.prog 10 #[.slice (some ⟨w.heap.size, 0, none⟩) 4 4] (w.alloc (.cells #[.int .u8 97, .int .u8 34, .int .u8 255, .int .u8 10] 5 (4, 5))) fun e w' => e = .returned (.string ⟨#[34, 97, 92, 34, 92, 120, 102, 102, 92, 117, 48, 48, 48, 97, 34]⟩) ∧ Below (w.heap.size + 1) (w.alloc (.cells #[.int .u8 97, .int .u8 34, .int .u8 255, .int .u8 10] 5 (4, 5))) w' := by
    have hb : Bts (w.alloc (.cells #[.int .u8 97, .int .u8 34, .int .u8 255, .int .u8 10] 5 (4, 5))) (some ⟨w.heap.size, 0, none⟩) [97, 34, 255, 10] := by
      refine .inr ⟨w.heap.size, 0, rfl, by simp, fun i hi => ?_⟩
      rw [Nat.zero_add, cell_of_row _ w.heap.size i #[.int .u8 97, .int .u8 34, .int .u8 255, .int .u8 10] 5 (4, 5) (heap_alloc_new w _)]
      match i, hi with
      | 0, _ => rfl
      | 1, _ => rfl
      | 2, _ => rfl
      | 3, _ => rfl
    have h := print_any [97, 34, 255, 10] _ 4 _ hb (by decide)
    rw [awake_text] at h
    refine h.mono ?_
    rintro e w' ⟨rfl, h2⟩
    exact ⟨rfl, by simpa using h2⟩
  have HP := Lib.hid hp; clear hp
  go_enter Try.func9, Try.ntmps9
  go_wp2_with fail
  refine HP.out.mono ?_
  rintro e w1 ⟨rfl, hb1⟩
  go_wp2_with fail
  go_ret
  exact ⟨rfl, ((Below.refl _ w).alloc (Nat.le_refl _) _).trans (hb1.mono (by omega))⟩
end Go.Proofs.Ytjagpamefcgpoaa
