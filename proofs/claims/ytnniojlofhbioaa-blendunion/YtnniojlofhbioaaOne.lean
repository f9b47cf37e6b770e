/-
  The contract of the function that makes a tree of four texts (in awake).
-/
import Derived.Test.YtnniojlofhbioaaSpans
import Derived.Test.YtnniojlofhbioaaDel
import Derived.Lib.ConvBytes
namespace Go.Proofs.Ytnniojlofhbioaa
open Go.RowKit
set_option maxHeartbeats 4000000
set_option maxRecDepth 100000
abbrev All : Nat → Prop := fun _ => True
theorem fut (w : World) : Fut All w := fun _ _ => trivial
theorem bytes_below (w : World) (s : ByteArray) : Below w.heap.size w (Lib.bytesWorld w 5 s) := ⟨rfl, rfl, rfl, by rw [Lib.bytesWorld_size]; omega, fun k hk => Lib.bytesWorld_at_old w 5 s k hk⟩
theorem bytes_bts (w : World) (s : ByteArray) : Bts (Lib.bytesWorld w 5 s) (some ⟨w.heap.size, 0, none⟩) s.data.toList := by
  refine .inr ⟨_, 0, rfl, by rw [Lib.bytesWorld_size]; omega, fun i hi => ?_⟩
  have hi' : i < s.size := hi
  rw [Nat.zero_add, Lib.bytesWorld_cell _ _ _ _ hi']
  have hi2 : i < s.data.size := hi
  simp [List.getD_eq_getElem?_getD, Array.getElem?_eq_getElem hi2]
/-- bytes of a text: what is told, and the world behind it -/
theorem conv_fun (s : ByteArray) (n : Nat) (hn : n = s.data.toList.length) : ∃ (fa fc : World → Nat) (fw : World → World), (∀ W, (convert 9 42 (.string s)).run Try.prog W = .ok (.slice (some ⟨fa W, 0, none⟩) n (fc W)) (fw W)) ∧ ∀ W, Below W.heap.size W (fw W) ∧ Bts (fw W) (some ⟨fa W, 0, none⟩) s.data.toList := by
  subst hn
  exact ⟨_, _, _, fun W => Lib.run_convert_string_bytes (P := Try.prog) W 9 42 5 s Try.underlying9 Try.underlying42 Try.underlying5, fun W => ⟨bytes_below W s, bytes_bts W s⟩⟩
theorem put_list {F : Nat → Prop} {w : World} {L : List Pr} {p ka va : Option Addr} {q : Pr} (kc vc : Nat) (hF : Fut F w) (h : Is F w L p) (hk : Bts w ka q.1) (hv : Bts w va q.2) (hn : q.1.length ≤ 100000 ∧ q.2.length ≤ 100000) (hs : srt L) (hl : L.length ≤ 1000) :
    Calls Try.prog 22 #[.pointer p, .agg #[.slice ka q.1.length kc, .slice va q.2.length vc], .pointer none] w (Tell F (put L q) w) := by
  obtain ⟨t, h1, h2, rfl⟩ := h
  have hh : ∀ t : Tr, t.high ≤ t.size := by
    intro t
    induction t with
    | nil => exact Nat.le_refl _
    | node l q r i1 i2 => simp only [Tr.high, Tr.size]; omega
  rw [Tr.length] at hl
  refine (put_any (m := none) (v := 0) (c := 0) kc vc hF h1 (.inl rfl) hk hv hn h2 hs (by omega) (by have := hh t; omega) (by have := hh t; omega)).mono ?_
  rintro e w' ⟨p', t', v', c', rfl, g1, g2, g3, _, _, g7⟩
  exact ⟨p', rfl, ⟨t', g1, g2, g3⟩, g7.nil⟩
def two (s0 s1 s2 s3 : ByteArray) : List Pr := [(s0.data.toList, s1.data.toList), (s2.data.toList, s3.data.toList)]
theorem one_any {w : World} {b : Nat} {s0 s1 s2 s3 : ByteArray} (hb : b < w.heap.size) (h0 : w.cell? ⟨b, 0, none⟩ = some (.string s0)) (h1 : w.cell? ⟨b, 1, none⟩ = some (.string s1)) (h2 : w.cell? ⟨b, 2, none⟩ = some (.string s2)) (h3 : w.cell? ⟨b, 3, none⟩ = some (.string s3))
    (hn : ∀ x ∈ two s0 s1 s2 s3, x.1.length ≤ 100000 ∧ x.2.length ≤ 100000) : Calls Try.prog 21 #[.slice (some ⟨b, 0, none⟩) 4 4] w (Tell All (come (two s0 s1 s2 s3)) w) := by
  have keep : ∀ W, Below w.heap.size w W → W.cell? ⟨b, 0, none⟩ = some (.string s0) ∧ W.cell? ⟨b, 1, none⟩ = some (.string s1) ∧ W.cell? ⟨b, 2, none⟩ = some (.string s2) ∧ W.cell? ⟨b, 3, none⟩ = some (.string s3) := fun W hW => ⟨(hW.cell hb).trans h0, (hW.cell hb).trans h1, (hW.cell hb).trans h2, (hW.cell hb).trans h3⟩
  have p1 := fun W (p ka va : Option Addr) (kc vc : Nat) (h : Is All W [] p) (hk : Bts W ka s0.data.toList) (hv : Bts W va s1.data.toList) => put_list (q := (s0.data.toList, s1.data.toList)) kc vc (fut W) h hk hv (hn _ (by simp [two])) List.Pairwise.nil (by decide)
  have p2 := fun W (p ka va : Option Addr) (kc vc : Nat) (h : Is All W (put [] (s0.data.toList, s1.data.toList)) p) (hk : Bts W ka s2.data.toList) (hv : Bts W va s3.data.toList) => put_list (q := (s2.data.toList, s3.data.toList)) kc vc (fut W) h hk hv (hn _ (by simp [two])) (srt_put _ _ List.Pairwise.nil) (by simp [put, putGo])
  obtain ⟨n0, e0⟩ : ∃ n, n = s0.data.toList.length := ⟨_, rfl⟩
  obtain ⟨n1, e1⟩ : ∃ n, n = s1.data.toList.length := ⟨_, rfl⟩
  obtain ⟨n2, e2⟩ : ∃ n, n = s2.data.toList.length := ⟨_, rfl⟩
  obtain ⟨n3, e3⟩ : ∃ n, n = s3.data.toList.length := ⟨_, rfl⟩
  simp only [← e0, ← e1] at p1
  simp only [← e2, ← e3] at p2
  have F0 := Lib.hid (conv_fun s0 n0 e0)
  have F1 := Lib.hid (conv_fun s1 n1 e1)
  have F2 := Lib.hid (conv_fun s2 n2 e2)
  have F3 := Lib.hid (conv_fun s3 n3 e3)
  clear e0 e1 e2 e3
  have KEEP := Lib.hid keep; clear keep
  have P1 := Lib.hid p1; clear p1
  have P2 := Lib.hid p2; clear p2
  clear h0 h1 h2 h3 hn hb
  go_enter Try.func21, Try.ntmps21
  go_wp2_with fail
  go_loopw [3, 4] (fun t i wr => ∃ (j : Nat) (p : Option Addr), t = .pointer p ∧ i = .int .i64 ((2 * j + 1 : Nat) : Int) ∧ j ≤ 2 ∧ Hid (Below w.heap.size w wr) ∧ Hid (Is All wr (come ((two s0 s1 s2 s3).take j)) p)) (fun _ i _ => 5 - (intOf i).toNat)
  case atStart => exact ⟨0, none, rfl, rfl, by omega, Below.refl _ _, is_nil _ _⟩
  case round =>
    obtain ⟨j, p, rfl, rfl, hj, hbel, his⟩ := hrel
    obtain ⟨c0, c1, c2, c3⟩ := KEEP.out _ hbel.out
    have hz0 : Below wr.heap.size wr wr.drew := (Below.refl _ _).drew
    have GO := Lib.hid (fun W (h : Below wr.heap.size wr W) => below_then hbel.out h)
    obtain rfl | rfl | rfl : j = 0 ∨ j = 1 ∨ j = 2 := by omega
    · have P := Lib.hid (fun W (ka va : Option Addr) (kc vc : Nat) (h : Below wr.heap.size wr W) => P1.out W p ka va kc vc (his.out.below h))
      obtain ⟨fk, lk, gk, ck, dk⟩ := F0.out
      obtain ⟨fv, lv, gv, cv, dv⟩ := F1.out
      obtain ⟨a0, a1, a2, a3⟩ := KEEP.out _ (GO.out _ hz0)
      obtain ⟨k0, k1, k2, k3⟩ := KEEP.out _ (GO.out _ (below_then hz0 (dk _).1))
      obtain ⟨v0, v1, v2, v3⟩ := KEEP.out _ (GO.out _ (below_then hz0 (dv _).1))
      have ZA := Lib.hid (below_then (below_then hz0 (dk _).1) (dv _).1)
      have ZB := Lib.hid (below_then (below_then hz0 (dv _).1) (dk _).1)
      have PA := Lib.hid (P.out (gv (gk wr.drew)) (some ⟨fk wr.drew, 0, none⟩) (some ⟨fv (gk wr.drew), 0, none⟩) (lk wr.drew) (lv (gk wr.drew)) ZA.out ((dk _).2.below (dv _).1) (dv _).2)
      have PB := Lib.hid (P.out (gk (gv wr.drew)) (some ⟨fk (gv wr.drew), 0, none⟩) (some ⟨fv wr.drew, 0, none⟩) (lk (gv wr.drew)) (lv wr.drew) ZB.out (dk _).2 ((dv _).2.below (dk _).1))
      clear dk dv P F0 F1 F2 F3
      clear P1 P2 his hbel
      go_wp2_with fail
      go_region_with (first
          | (go_at_call 22; (with_reducible refine PA.out.mono ?_); rintro e wA ⟨pA, rfl, hA, hbA⟩; have hzA := below_then ZA.out hbA)
          | (go_at_call 22; (with_reducible refine PB.out.mono ?_); rintro e wA ⟨pA, rfl, hA, hbA⟩; have hzA := below_then ZB.out hbA)
          | fail)
      all_goals
        go_wp2_with fail
        go_roundw
        case rel => exact ⟨1, pA, rfl, by go_num, by omega, GO.out _ hzA, hA⟩
        case measure => simp [intOf]
    · have P := Lib.hid (fun W (ka va : Option Addr) (kc vc : Nat) (h : Below wr.heap.size wr W) => P2.out W p ka va kc vc (his.out.below h))
      obtain ⟨fk, lk, gk, ck, dk⟩ := F2.out
      obtain ⟨fv, lv, gv, cv, dv⟩ := F3.out
      obtain ⟨a0, a1, a2, a3⟩ := KEEP.out _ (GO.out _ hz0)
      obtain ⟨k0, k1, k2, k3⟩ := KEEP.out _ (GO.out _ (below_then hz0 (dk _).1))
      obtain ⟨v0, v1, v2, v3⟩ := KEEP.out _ (GO.out _ (below_then hz0 (dv _).1))
      have ZA := Lib.hid (below_then (below_then hz0 (dk _).1) (dv _).1)
      have ZB := Lib.hid (below_then (below_then hz0 (dv _).1) (dk _).1)
      have PA := Lib.hid (P.out (gv (gk wr.drew)) (some ⟨fk wr.drew, 0, none⟩) (some ⟨fv (gk wr.drew), 0, none⟩) (lk wr.drew) (lv (gk wr.drew)) ZA.out ((dk _).2.below (dv _).1) (dv _).2)
      have PB := Lib.hid (P.out (gk (gv wr.drew)) (some ⟨fk (gv wr.drew), 0, none⟩) (some ⟨fv wr.drew, 0, none⟩) (lk (gv wr.drew)) (lv wr.drew) ZB.out (dk _).2 ((dv _).2.below (dk _).1))
      clear dk dv P F0 F1 F2 F3
      clear P1 P2 his hbel
      go_wp2_with fail
      go_region_with (first
          | (go_at_call 22; (with_reducible refine PA.out.mono ?_); rintro e wA ⟨pA, rfl, hA, hbA⟩; have hzA := below_then ZA.out hbA)
          | (go_at_call 22; (with_reducible refine PB.out.mono ?_); rintro e wA ⟨pA, rfl, hA, hbA⟩; have hzA := below_then ZB.out hbA)
          | fail)
      all_goals
        go_wp2_with fail
        go_roundw
        case rel => exact ⟨2, pA, rfl, by go_num, by omega, GO.out _ hzA, hA⟩
        case measure => simp [intOf]
    · have H := Lib.hid (And.intro his.out hbel.out)
      clear P1 P2 his hbel
      go_wp2_with fail
      go_ret
      exact ⟨p, rfl, H.out⟩
end Go.Proofs.Ytnniojlofhbioaa
