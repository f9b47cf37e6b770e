/-
  The contract of awake: the document's example.
-/
import Derived.Test.YtbgohpcfinojoaaSound
import Derived.Lib.ConvBytes
namespace Go.Proofs.Ytbgohpcfinojoaa
open Go.RowKit
set_option maxHeartbeats 4000000
set_option maxRecDepth 100000
theorem conv_bytes (s : ByteArray) (w : World) : ∃ w' c, (convert 9 27 (.string s)).run Try.prog w = .ok (.slice (some ⟨w.heap.size, 0, none⟩) s.size c) w' ∧ Bts w' (some ⟨w.heap.size, 0, none⟩) s.data.toList ∧ Below w.heap.size w w' := by
  refine ⟨_, _, Lib.run_convert_string_bytes w 9 27 5 s Try.underlying9 Try.underlying27 Try.underlying5, ?_, ⟨rfl, rfl, rfl, ?_, fun k hk => Lib.bytesWorld_at_old w 5 s k hk⟩⟩
  · refine .inr ⟨_, 0, rfl, by rw [Lib.bytesWorld_size]; omega, fun i hi => ?_⟩
    have hs : i < s.size := by rw [Lib.size_eq]; exact hi
    rw [Nat.zero_add, Lib.bytesWorld_cell w 5 s i hs]
    rw [List.getD_eq_getElem?_getD, List.getElem?_eq_getElem hi, Option.getD_some]
  · rw [Lib.bytesWorld_size]; omega
def exK (j : Nat) : List UInt8 := if j = 0 then [98] else if j = 1 then [97] else [99]
theorem run_index3 (j : Nat) (hj : j < 3) (w : World) :
    (Instr.index 54 (.agg #[.string ⟨#[98]⟩, .string ⟨#[97]⟩, .string ⟨#[99]⟩]) (.int .i64 (j : Int))).run Try.prog w = .ok (.string ⟨(exK j).toArray⟩) w := by
  have u54 := Try.underlying54
  have a9 := Try.isAgg9
  have hz : Try.t9.size = 1 := by kernel_rfl
  obtain rfl | rfl | rfl : j = 0 ∨ j = 1 ∨ j = 2 := by omega
  all_goals simp [Instr.index, run_underlying u54, Go.sizeOf, asIntOf, part, a9, hz, go_sem, exK]
/-- what the example's first j calls come to -/
def exL : Nat → List Pr
  | 0 => []
  | j + 1 => put (exL j) (exK j, [])
theorem exL_srt : ∀ j, srt (exL j)
  | 0 => List.Pairwise.nil
  | j + 1 => srt_put _ _ (exL_srt j)
theorem exL_out : out (exL 3) [98] = [([97], []), ([99], [])] := by decide
theorem exL_has : has (exL 3) [98] = true := by decide
theorem exL_len : ∀ j, (exL j).length ≤ j
  | 0 => by simp [exL]
  | j + 1 => by have := exL_len j; have := put_length (exL j) (exK j, []); simp only [exL]; omega
theorem conv_const (w : World) (C : Array Value) (n c : Nat) : (convert 27 27 (.slice (some ⟨w.heap.size, 0, none⟩) n c)).run Try.prog (w.alloc (.cells C 5)) = .ok (.slice (some ⟨w.heap.size, 0, none⟩) n c) (w.alloc (.cells C 5 (C.size, C.size + 1))) :=
  Lib.run_convert_bytes_const (P := Try.prog) w 27 5 C n c Try.underlying27 Try.underlying5
/-- where the example's loop has come to -/
structure ExAt (w : World) (j : Nat) (p : Option Addr) (wr : World) (t : Tr) : Prop where
  tre : Tre (fun _ => True) wr t p
  ev : t.even
  list : t.list = exL j
  bel : Below w.heap.size w wr
theorem ExAt.size {w wr : World} {j : Nat} {p : Option Addr} {t : Tr} (h : ExAt w j p wr t) : t.size ≤ j := by
  have := exL_len j
  rw [← h.list, Tr.length] at this
  exact this
theorem awake_any (w : World) : Calls Try.prog 10 #[] w fun e w' => e = .returned (.bool true) ∧ Below w.heap.size w w' := by
  go_enter Try.func10, Try.ntmps10
  go_wp2
  go_loopw [1, 7] (fun x u wr => ∃ (j : Nat) (p : Option Addr), u = .int .i64 j ∧ x = .pointer p ∧ j ≤ 3 ∧ Hid (∃ t, ExAt w j p wr t)) (fun _ u _ => 3 - (intOf u).toNat)
  case atStart => exact ⟨0, none, rfl, rfl, by omega, .nil, rfl, trivial, rfl, Below.refl _ _⟩
  case round =>
    obtain ⟨j, p, rfl, rfl, hj, t, hx⟩ := hrel
    by_cases hlt : j < 3
    · obtain ⟨w1, c1, hcv, hbt, hb1⟩ := conv_bytes ⟨(exK j).toArray⟩ wr
      have hix := run_index3 j hlt wr
      have hb2 : Bts w1 (some ⟨wr.heap.size, 0, none⟩) (exK j, ([] : List UInt8)).1 := hbt
      have hl1 : (exK j).length = 1 := by unfold exK; split <;> (try split) <;> rfl
      have hsz := hx.size
      have hput := put_any (F := fun _ => True) (q := (exK j, [])) (m := none) (v := 0) (c := 0) (va := none) c1 0 (fun _ _ => trivial) (hx.tre.below hb1) (.inl rfl) hb2 (.inl rfl) (by simp [hl1]) hx.ev (by rw [hx.list]; exact exL_srt j) (by omega) (by have := (Tr.high_cube hx.ev (by omega)).1; omega) (by have := (Tr.high_cube hx.ev (by omega)).1; omega)
      have hsz1 : (⟨(exK j).toArray⟩ : ByteArray).size = 1 := by rw [bs_size, hl1]
      rw [hsz1] at hcv
      obtain ⟨ks, hks⟩ : ∃ s : ByteArray, s = ⟨(exK j).toArray⟩ := ⟨_, rfl⟩
      rw [← hks] at hcv hix
      simp only [hl1, List.length_nil] at hput
      have HP := Lib.hid hput; clear hput
      have HB1 := Lib.hid hb1; clear hb1
      have HX := Lib.hid hx; clear hx
      clear hks hsz1 hbt hb2 hl1 hsz
      go_wp2_with fail
      refine HP.out.mono ?_
      rintro e w2 ⟨p', t', v', c', rfl, h1, h2, h3, _, _, h6⟩
      have H1 := Lib.hid h1; clear h1
      have H3 := Lib.hid h3; clear h3
      have H6 := Lib.hid h6; clear h6
      clear hcv hix
      go_wp2_with fail
      go_roundw
      case rel => exact ⟨j + 1, p', by go_num, rfl, by omega, t', H1.out, h2, by rw [H3.out, HX.out.list]; rfl, below_then HX.out.bel (below_then HB1.out H6.out.nil)⟩
      case measure => simp [intOf]; omega
    · obtain rfl : j = 3 := by omega
      have hw1 : Below wr.heap.size wr (wr.alloc (.cells #[.int .u8 98] 5 (1, 2))) := (Below.refl _ _).alloc (Nat.le_refl _) _
      have hcc := conv_const wr #[.int .u8 98] 1 1
      have hbt : Bts (wr.alloc (.cells #[.int .u8 98] 5 (1, 2))) (some ⟨wr.heap.size, 0, none⟩) [98] := by
        refine .inr ⟨_, 0, rfl, by simp, fun i hi => ?_⟩
        obtain rfl : i = 0 := by simp at hi; omega
        rw [cell_of_row _ _ _ _ 5 (1, 2) (heap_alloc_new wr _)]
        rfl
      have hsz := hx.size
      have hh := (Tr.high_cube hx.ev (by omega)).1
      have hdel := deleteAt (fun _ => True) t (wr.alloc (.cells #[.int .u8 98] 5 (1, 2))) p none _ [98] 1 0 0 (fun _ _ => trivial) (hx.tre.below hw1) (.inl rfl) hbt hx.ev (by rw [hx.list]; exact exL_srt 3) (by omega) (by omega) (by omega)
      rw [hx.list, exL_has, exL_out] at hdel
      simp only [List.length_cons, List.length_nil] at hdel
      have HD := Lib.hid hdel; clear hdel
      have HX := Lib.hid hx; clear hx
      have HW1 := Lib.hid hw1; clear hw1
      clear hbt hsz hh
      go_wp2_with fail
      refine HD.out.mono ?_
      rintro e w2 ⟨p', t', v', c', rfl, h1, h2, h3, _, _, h6⟩
      have hfit : Fits t'.list := by rw [h3]; intro x hx; simp at hx; rcases hx with rfl | rfl <;> simp
      have hs2 : t'.size ≤ 800 := by rw [← Tr.length, h3]; simp
      have hli := list_any h1 hs2 hfit
      have hso := fun w3 (hb : Below w2.heap.size w2 w3) => sound_any (h1.below hb) (by omega) h2 (by rw [h3, ← exL_out]; exact srt_out _ (exL_srt 3))
      rw [h3] at hli
      have HL := Lib.hid hli; clear hli
      have HS := Lib.hid hso; clear hso
      have HB2 := Lib.hid (below_then HX.out.bel (below_then HW1.out h6.nil))
      clear h1 h2 h3 h6 hfit hs2 hcc HD HX HW1
      go_wp2_with fail
      refine HL.out.mono ?_
      rintro e w3 ⟨A, c, rfl, hfr, hb3⟩
      have hp := hfr.pcs
      obtain ⟨b, off, ka, kc, va, vc, rfl, hbl, q1, q2, q3, q4⟩ := hp.at (j := 0) (by simp)
      obtain ⟨b', off', ka', kc', va', vc', e, _, k1, k2, k3, k4⟩ := hp.at (j := 1) (by simp)
      obtain ⟨rfl, rfl⟩ : b = b' ∧ off = off' := by
        injection e with e
        injection e with e1 e2
        exact ⟨e1, e2⟩
      have cv1 := conv_any q3 kc
      have cv2 := conv_any k3 kc'
      simp only [List.getElem_cons_zero, List.getElem_cons_succ, List.length_cons, List.length_nil, Nat.zero_mul, Nat.add_zero, Nat.one_mul] at q1 q2 k1 k2 cv1 cv2
      have HS3 := Lib.hid (HS.out w3 hb3)
      have HB3 := Lib.hid (below_then HB2.out hb3)
      clear hfr hp q3 q4 k3 k4 e HS HB2 hb3 HL
      go_wp2_with fail
      refine HS3.out.mono ?_
      rintro e w4 ⟨rfl, hb4⟩
      have HB4 := Lib.hid hb4; clear hb4
      go_wp2_with fail
      go_ret
      exact ⟨rfl, below_then HB3.out HB4.out⟩
end Go.Proofs.Ytbgohpcfinojoaa
