/-
  The contract of quote.Print: for bytes of up to 10000 it answers the quoted text.
-/
import Derived.Test.YtjagpamefcgpoaaWalks
import Derived.Lib.SlBytesConst
namespace Go.Proofs.Ytjagpamefcgpoaa
open Go.RowKit
set_option maxHeartbeats 400000
/-- the slice at A reads as the bytes l, in blocks that are there -/
def Bts (w : World) (A : Option Addr) (l : List UInt8) : Prop :=
  l = [] ∨ ∃ b off, A = some ⟨b, off, none⟩ ∧ b < w.heap.size ∧ ∀ i (h : i < l.length), w.cell? ⟨b, off + i, none⟩ = some (.int .u8 (l[i].toNat : Int))
theorem Bts.below {w w' : World} {A : Option Addr} {l : List UInt8} (h : Bts w A l) (hb : Below w.heap.size w w') : Bts w' A l := by
  rcases h with h | ⟨b, off, rfl, hlt, hc⟩
  · exact .inl h
  · exact .inr ⟨b, off, rfl, Nat.lt_of_lt_of_le hlt hb.size, fun i hi => (hb.cell (p := ⟨b, off + i, none⟩) hlt).trans (hc i hi)⟩
theorem conv_bts (w : World) (l : List UInt8) (b off c : Nat) (h : ∀ i (h : i < l.length), w.cell? ⟨b, off + i, none⟩ = some (.int .u8 (l[i].toNat : Int))) :
    (convert 22 9 (.slice (some ⟨b, off, none⟩) l.length c)).run Try.prog w = .ok (.string ⟨l.toArray⟩) w :=
  run_convert_bytes_back w 22 9 5 _ c l Try.underlying22 Try.underlying5 Try.underlying9 (fun j hj => by rw [Go.WideShapes.add_plain]; exact h j hj)
theorem conv_any {w : World} {A : Option Addr} {l : List UInt8} (h : Bts w A l) (c : Nat) : (convert 22 9 (.slice A l.length c)).run Try.prog w = .ok (.string ⟨l.toArray⟩) w := by
  rcases h with rfl | ⟨b, off, rfl, _, hc⟩
  · cases A with
    | none => exact run_convert_bytes_nil w 22 5 Try.underlying22 Try.underlying5 0 c 9 Try.underlying9
    | some a => exact run_convert_bytes_back w 22 9 5 a c [] Try.underlying22 Try.underlying5 Try.underlying9 (fun j hj => by simp at hj)
  · exact conv_bts w l b off c hc
theorem conv_const (w : World) (C : Array Value) (n c : Nat) : (convert 22 22 (.slice (some ⟨w.heap.size, 0, none⟩) n c)).run Try.prog (w.alloc (.cells C 5)) = .ok (.slice (some ⟨w.heap.size, 0, none⟩) n c) (w.alloc (.cells C 5 (C.size, C.size + 1))) :=
  Lib.run_convert_bytes_const (P := Try.prog) w 22 5 C n c Try.underlying22 Try.underlying5
/-- a row of the call's own reads as a slice of bytes -/
theorem Own.form {B : Nat} {w : World} {v : Value} {l : List UInt8} (h : Own B w v l) : ∃ A c, v = .slice A l.length c ∧ l.length ≤ c ∧ c ≤ maxLen ∧ Bts w A l := by
  rcases h.2 with ⟨rfl, hn⟩ | ⟨g, cap, cur, rfl, hb, hg, hnc, hcm, hsz, htk⟩
  · have : l = [] := List.eq_nil_of_length_eq_zero hn
    subst this
    exact ⟨none, 0, rfl, by simp, by simp, .inl rfl⟩
  · refine ⟨some ⟨g, 0, none⟩, cap, rfl, hnc, hcm, ?_⟩
    rcases Nat.eq_zero_or_pos l.length with h0 | h0
    · left; exact List.eq_nil_of_length_eq_zero h0
    · right
      refine ⟨g, 0, rfl, (Array.getElem?_eq_some_iff.1 hg).1, fun i hi => ?_⟩
      have h1 := World.ownsRow.cells h (g := g) rfl i (.int .u8 (l[i].toNat : Int)) (by simp [Lib.byteCells, hi])
      rw [Go.WideShapes.add_plain] at h1
      exact h1
theorem Own.conv {B : Nat} {w : World} {v : Value} {l : List UInt8} (h : Own B w v l) : (convert 22 9 v).run Try.prog w = .ok (.string ⟨l.toArray⟩) w := by
  obtain ⟨A, c, rfl, _, _, hb⟩ := h.form
  exact conv_any hb c
theorem stray_at (l : List UInt8) (s : ByteArray) (r : Nat) (w : World) (hl : l ≠ []) (hs : s.data.toList = l) (hr : r = runeOf l) (b : Bool) (hb : decide (width l = 0) = b) :
    Calls Try.prog 15 #[.string s, .int .i32 (r : Int)] w fun e w' => e = .returned (.bool b) ∧ w = w' := by
  subst hr
  refine (stray_any s (runeOf l) w (runeOf_le l)).mono ?_
  rintro e w' ⟨rfl, rfl⟩
  exact ⟨ret_bool (by rw [hs, stray_iff l hl, hb]), rfl⟩
theorem extract_drop (l : List UInt8) (a b : Nat) (hb : l.length ≤ b) : ((⟨l.toArray⟩ : ByteArray).extract a b).data.toList = l.drop a := by
  rw [Lib.extract_data]
  exact List.take_of_length_le (by simp; omega)
theorem getElem_of (s : ByteArray) (k : Nat) (h : k < s.size) : s.get! k = s[k]'h := by
  simp [ByteArray.get!, getElem!_pos, h]
  rfl
set_option maxHeartbeats 4000000 in
theorem print_any (l : List UInt8) (A : Option Addr) (c : Nat) (w : World) (hb : Bts w A l) (h3 : l.length ≤ 10000) :
    Calls Try.prog 10 #[.slice A l.length c] w fun e w' => e = .returned (.string ⟨(printL l).toArray⟩) ∧ Below w.heap.size w w' := by
  have hcv := conv_any hb c
  have HB := Lib.hid hb; clear hb
  obtain ⟨s, hs⟩ : ∃ s : ByteArray, s = ⟨l.toArray⟩ := ⟨_, rfl⟩
  rw [← hs] at hcv
  have hsz : s.size = l.length := by rw [hs]; simp [ByteArray.size]
  have hsl : s.size ≤ 10000 := by omega
  have HSZ := Lib.hid hsz; clear hsz
  have HS := Lib.hid hs; clear hs
  have hcc := conv_const
  go_enter Try.func10, Try.ntmps10
  go_wp2
  go_loopw [4] (fun t wr => ∃ (pos : Nat) (acc : List UInt8), Hid (Buf w.heap.size wr t (34 :: acc)) ∧ Hid (wr.heap[w.heap.size + 1]? = some (.stringIter s pos)) ∧ Hid (Below w.heap.size w wr) ∧ Hid (acc ++ body (l.drop pos) = body l) ∧ pos ≤ s.size ∧ acc.length ≤ 6 * pos) (fun _ wr => s.size - wr.iterPos (w.heap.size + 1))
  case atStart =>
    refine ⟨0, [], ?_, ?_, ((Below.refl _ w).alloc (Nat.le_refl _) _).alloc (by simp) _, by simp [Hid], by omega, by simp⟩
    · refine .inr ⟨w.heap.size, _, _, rfl, Nat.le_refl _, (Below.heap_alloc _ _ w.heap.size (by simp)).trans (heap_alloc_new w _), rfl⟩
    · have := World.iter_heap (w.alloc (.cells #[.int .u8 34] 5 (1, 2))) s 0
      simpa [Hid] using this
  case round =>
    obtain ⟨pos, acc, hbuf, hit, hbw, hacc, hps, hal⟩ := hrel
    by_cases hp : pos < s.size
    · have hdc := decode_eq s pos hp
      have hnx : ∀ ty, (Instr.next (.pointer (some ⟨w.heap.size + 1, 0, none⟩)) true ty).run Try.prog wr = _ := fun ty => Lib.run_next_any_at wr (w.heap.size + 1) s pos ty hit.out hp
      rw [hdc] at hnx
      have hd : s.data.toList.drop pos = l.drop pos := by rw [HS.out]
      rw [hd] at hnx
      clear hdc hd
      have hne : l.drop pos ≠ [] := by
        intro e
        have := congrArg List.length e
        simp at this
        have := HSZ.out
        omega
      obtain ⟨q, hq⟩ : ∃ q, q = l.drop pos := ⟨_, rfl⟩
      rw [← hq] at hnx hne
      obtain ⟨st, hst⟩ : ∃ st, st = step q := ⟨_, rfl⟩
      obtain ⟨r, hr⟩ : ∃ r, r = runeOf q := ⟨_, rfl⟩
      rw [← hst, ← hr] at hnx
      have hrl : r ≤ 1114111 := by rw [hr]; exact runeOf_le q
      have hst1 : 1 ≤ st := by rw [hst]; exact step_pos q
      have hst2 : pos + st ≤ s.size := by
        have := step_le q hne
        rw [← hst] at this
        have h4 : q.length = l.length - pos := by rw [hq, List.length_drop]
        have := HSZ.out
        omega
      have HQ := Lib.hid hq; clear hq
      have HST := Lib.hid hst; clear hst
      have HR := Lib.hid hr; clear hr
      have HNE := Lib.hid hne; clear hne
      have hbuf2 := hbuf.out.iterAt hit.out (pos + st)
      have hit2 := Lib.iterAt_heap wr (w.heap.size + 1) s pos (pos + st) hit.out
      have hbw2 := Lib.below_iterAt hbw.out (k := w.heap.size + 1) (by omega) s (pos + st)
      obtain ⟨wn, hwn⟩ : ∃ wn, wn = wr.iterAt (w.heap.size + 1) s (pos + st) := ⟨_, rfl⟩
      rw [← hwn] at hnx hbuf2 hit2 hbw2
      clear hwn
      have HBUF2 := Lib.hid hbuf2; clear hbuf2
      have HIT2 := Lib.hid hit2; clear hit2
      have HBW2 := Lib.hid hbw2; clear hbw2
      by_cases hw0 : width q = 0
      · have HW := Lib.hid hw0; clear hw0
        go_wp2_with fail
        refine (stray_at q _ r wn HNE.out (by rw [HS.out, HQ.out]; exact extract_drop l pos _ (by simp [ByteArray.size])) HR.out true (by simp [HW.out])).mono ?_
        rintro e w' ⟨rfl, rfl⟩
        go_wp2_with fail
        have hwrap : IntKind.i32.wrap ((s[pos]'hp).toNat : Int) = ((s[pos]'hp).toNat : Int) := by
          have := (s[pos]'hp).toNat_lt
          rw [IntKind.wrap_i32]; omega
        have hn : (s[pos]'hp).toNat ≤ 1114111 := by have := (s[pos]'hp).toNat_lt; omega
        have hlen2 : (34 :: acc).length + [92, 120].length ≤ 1000000 := by simp; omega
        have hlen3 : (34 :: acc ++ [92, 120]).length ≤ 900000 := by simp; omega
        have HB3 : Hid (Buf w.heap.size wn.drew u4 (34 :: acc)) := HBUF2
        have hBn : w.heap.size ≤ wn.drew.heap.size := HBW2.out.size
        go_region_held3 (fun _ => True) (trivial) (first
          | (go_at_call 16; refine (digits_any w.heap.size _ (34 :: acc ++ [92, 120]) _ 2 _ hn (by decide) (.inl (by assumption)) hlen3 (by assumption)).mono ?_; rintro e w2 ⟨v2, rfl, hb2, hs2⟩)
          | ((refine step_app_str (B := w.heap.size) rfl (.tmp 22) (.const (.string ⟨#[92, 120]⟩)) rfl u4 (34 :: acc) [92, 120] (by decide) HB3.out (by rfl) (by rfl) hlen2 hBn ?_; intro v1 w1 hb1 hs1; have hB1 := Nat.le_trans hBn hs1.1.size)))
        all_goals
          go_wp2_with fail
          go_roundw
          case rel =>
            have hsn : Steps w.heap.size wn w2 := (Steps.refl _ _).drew.trans (hs1.trans hs2)
            refine ⟨pos + st, acc ++ oneL q, ?_, hsn.iter HIT2.out, HBW2.out.trans hsn.1, ?_, hst2, ?_⟩
            · have e := stray_one HW.out
              have e2 : (q.getD 0 0).toNat = (s[pos]'hp).toNat := by
                rw [HQ.out]
                have h5 : (l.drop pos).getD 0 0 = s[pos]'hp := by
                  have h6 := get_getD s pos
                  rw [getElem_of s pos hp] at h6
                  rw [h6, HS.out]
                  simp [List.getD_eq_getElem?_getD]
                rw [h5]
              rw [e2] at e
              rw [← e]
              simpa [Hid] using hb2
            · have h5 := hacc.out
              rw [← HQ.out, body_step HNE.out, ← HST.out] at h5
              have h6 : q.drop st = l.drop (pos + st) := by rw [HQ.out, List.drop_drop]
              rw [h6] at h5
              show _ = _
              rw [List.append_assoc]; exact h5
            · have := oneL_le q
              rw [List.length_append]; omega
          case measure =>
            have hsn : Steps w.heap.size wn w2 := (Steps.refl _ _).drew.trans (hs1.trans hs2)
            simp only [World.iterPos, hsn.iter HIT2.out, hit.out]
            omega
      · have HW := Lib.hid hw0; clear hw0
        go_wp2_with fail
        refine (stray_at q _ r wn HNE.out (by rw [HS.out, HQ.out]; exact extract_drop l pos _ (by simp [ByteArray.size])) HR.out false (by simp [HW.out])).mono ?_
        rintro e w' ⟨rfl, rfl⟩
        go_wp2_with fail
        refine (spell_any w.heap.size u4 (34 :: acc) r wn hrl HBUF2.out (by simp; omega) HBW2.out.size).mono ?_
        rintro e w2 ⟨v2, rfl, hb2, hsn⟩
        go_wp2_with fail
        go_roundw
        case rel =>
          refine ⟨pos + st, acc ++ oneL q, ?_, hsn.iter HIT2.out, HBW2.out.trans hsn.1, ?_, hst2, ?_⟩
          · rw [← spell_kind (kind_of HW.out), ← HR.out]
            simpa [Hid] using hb2
          · have h5 := hacc.out
            rw [← HQ.out, body_step HNE.out, ← HST.out] at h5
            have h6 : q.drop st = l.drop (pos + st) := by rw [HQ.out, List.drop_drop]
            rw [h6] at h5
            show _ = _
            rw [List.append_assoc]; exact h5
          · have := oneL_le q
            rw [List.length_append]; omega
        case measure =>
          simp only [World.iterPos, hsn.iter HIT2.out, hit.out]
          omega
    · have hnx : ∀ ty, (Instr.next (.pointer (some ⟨w.heap.size + 1, 0, none⟩)) true ty).run Try.prog wr = _ := fun ty => Lib.run_next_end_at wr (w.heap.size + 1) s pos ty hit.out hp
      have hpe : l.drop pos = [] := List.drop_eq_nil_of_le (by have := HSZ.out; omega)
      have hfin : 34 :: acc ++ [34] = printL l := by
        have h5 := hacc.out
        rw [hpe, body_nil, List.append_nil] at h5
        rw [printL, ← h5]; rfl
      have HF := Lib.hid hfin; clear hfin hpe
      go_wp2_with (at_builtin; refine list_app_str (B := w.heap.size) rfl (.tmp 32) (.const (.string ⟨#[34]⟩)) rfl _ (34 :: acc) [34] (by decide) hbuf.out rfl rfl (by simp; omega) hbw.out.size ?_; intro v1 w1 hb1 hs1; have hcv2 := hb1.conv; rw [HF.out] at hcv2)
      go_ret
      exact ⟨rfl, hbw.out.trans hs1.1⟩
end Go.Proofs.Ytjagpamefcgpoaa
