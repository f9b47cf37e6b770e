/-
  Contracts of below, Rank and what they are called with: how many keys lie below a bound.
-/
import Derived.Test.YtkcfanckkomdbaaPairs
import Derived.Test.YtkcfanckkomdbaaPlaces
namespace Go.Proofs.Ytkcfanckkomdbaa
open Go.RowKit
set_option maxHeartbeats 4000000
set_option maxRecDepth 100000
/-- how many pairs the tree at a pointer has, read off its node -/
def sizeAt (w : World) (x : Value) : Nat := match x with
  | .pointer (some a) => match w.cell? ⟨a.block, 4, none⟩ with
    | some (.int _ n) => n.toNat + 1
    | _ => 0
  | _ => 0
theorem sizeAt_eq {F : Nat → Prop} {w : World} {t : Tr} {p : Option Addr} (h : Tre F w t p) : sizeAt w (.pointer p) = t.size := by
  cases t with
  | nil => obtain rfl : p = none := h; rfl
  | node l q r =>
    obtain ⟨b, ka, kc, va, vc, pl, pr, rfl, h, _, _⟩ := h
    have c4 := h.cells.2.2.2.2
    simp only [sizeAt, c4, Int.toNat_natCast, Tr.size]
theorem lt1_any {w : World} {A B : Option Addr} {k key : List UInt8} {g d : Nat} (c : Nat) (ha : Bts w A k) (hb : Bts w B key) (hg : w.cell? ⟨g, 0, none⟩ = some (.slice B key.length d)) :
    Calls Try.prog 50 #[.slice A k.length c, .pointer (some ⟨g, 0, none⟩)] w fun e w' => e = .returned (.bool (decide (cmp k key < 0))) ∧ w = w' := by
  have H := Lib.hid (compare_any ha hb c d); clear ha hb
  go_enter Try.func50, Try.ntmps50
  go_wp2_with fail
  refine H.out.mono ?_
  rintro e w' ⟨rfl, rfl⟩
  go_wp2_with fail
  go_ret
  exact ⟨rfl, rfl⟩
theorem run_key (a b : Value) (W : World) : (Instr.field 37 (.agg #[a, b]) 0).run Try.prog W = .ok a W := by
  have u31 := Try.underlying37
  simp [Instr.field, run_underlying u31, Go.sizeOf, part, Try.isAgg33, asAgg, go_sem]
/-- where a way down has come to: m pairs are behind it, the tree t' is left -/
structure Way (F : Nat → Prop) (w : World) (P : List UInt8 → Bool) (t : Tr) (m : Nat) (p' : Option Addr) (wr : World) (t' : Tr) : Prop where
  tre : Tre F wr t' p'
  sum : m + below P t'.list = below P t.list
  sorted : srt t'.list
  fits : ∀ x ∈ t'.list, x.1.length ≤ 100000 ∧ x.2.length ≤ 100000
  size : m + t'.size ≤ t.size
  bel : Below w.heap.size w wr
theorem below_any {F : Nat → Prop} {w : World} {t : Tr} {p : Option Addr} {N g : Nat} {P : List UInt8 → Bool} (ht : Tre F w t p) (hs : srt t.list) (hn : t.size ≤ 1000) (hf : ∀ x ∈ t.list, x.1.length ≤ 100000 ∧ x.2.length ≤ 100000) (hP : Down P)
    (eg : ∀ args w, (callFunc N args).run Try.prog w = .ok (.enter N args) w)
    (hc : ∀ (W : World) (A : Option Addr) (c : Nat) (k : List UInt8), Below w.heap.size w W → Bts W A k → Calls Try.prog N #[.slice A k.length c, .pointer (some ⟨g, 0, none⟩)] W fun e w' => e = .returned (.bool (P k)) ∧ W = w') :
    Calls Try.prog 49 #[.pointer p, .func (.func N) #[] #[.pointer (some ⟨g, 0, none⟩)]] w fun e w' => e = .returned (.int .i64 (below P t.list : Int)) ∧ Below w.heap.size w w' := by
  have HC := Lib.hid hc; clear hc
  have W0 : Hid (Way F w P t 0 p w t) := ⟨ht, by omega, hs, hf, by omega, Below.refl _ _⟩
  have HN := Lib.hid hn; clear hn
  have HP := Lib.hid hP; clear hP
  clear ht hs hf
  go_enter Try.func49, Try.ntmps49
  go_wp2_with fail
  go_loopw [0, 5] (fun x u wr => ∃ (m : Nat) (p' : Option Addr), x = .pointer p' ∧ u = .int .i64 m ∧ Hid (∃ t', Way F w P t m p' wr t')) (fun x _ wr => sizeAt wr x)
  case atStart => exact ⟨0, p, rfl, rfl, t, W0.out⟩
  case round =>
    obtain ⟨m, p', rfl, rfl, t', hat⟩ := hrel
    cases t' with
    | nil =>
      obtain rfl : p' = none := hat.tre
      have e : below P t.list = m := by have := hat.sum; simpa [Tr.list, below] using this.symm
      have HE := Lib.hid e; clear e
      have HB := Lib.hid hat.bel
      clear hat
      go_wp2_with fail
      go_ret
      exact ⟨ret_int (by rw [HE.out]), HB.out⟩
    | node l q r =>
      have hm : m + (l.size + r.size + 1) ≤ 1000 := by have h1 := hat.size; have h2 := HN.out; simp only [Tr.size] at h1; omega
      have hsrt : srt (l.list ++ q :: r.list) := hat.sorted
      obtain ⟨s1, s2, _, _, _⟩ := srt_parts hsrt
      have hfit : ∀ x ∈ l.list ++ q :: r.list, x.1.length ≤ 100000 ∧ x.2.length ≤ 100000 := hat.fits
      have hsum : m + below P (l.list ++ q :: r.list) = below P t.list := hat.sum
      have hsize : m + (l.size + r.size + 1) ≤ t.size := by have := hat.size; simp only [Tr.size] at this; omega
      have hme := sizeAt_eq hat.tre
      have hroot := root_any hat.tre (hfit q (by simp))
      have hpost : ∀ W, Below wr.heap.size wr W → Tre F W (.node l q r) p' ∧ Below w.heap.size w W := fun W hW => ⟨hat.tre.below hW, below_then hat.bel hW⟩
      have hcl := fun W (hW : Below wr.heap.size wr W) A c (hA : Bts W A q.1) => HC.out W A c q.1 (below_then hat.bel hW) hA
      obtain ⟨b, _, _, _, _, _, _, rfl, _⟩ := hat.tre
      have hll : l.list.length = l.size := Tr.length l
      obtain ⟨x1, hx1⟩ : ∃ k, k = q.1.length := ⟨_, rfl⟩
      obtain ⟨x2, hx2⟩ : ∃ k, k = q.2.length := ⟨_, rfl⟩
      simp only [← hx1, ← hx2] at hroot hcl
      have hls : l.size ≤ 10000 := by omega
      have HR := Lib.hid hroot; clear hroot
      have HPO := Lib.hid hpost; clear hpost
      have HCL := Lib.hid hcl; clear hcl
      clear HC HN hat
      cases hq : P q.1 with
      | true =>
        have e1 := below_right HP.out hsrt hq
        have HL : ∀ W p2, Tre F W r p2 → Below w.heap.size w W → Way F w P t (m + (l.size + 1)) p2 W r := fun W p2 h1 h2 => ⟨h1, by omega, s2, fun x hx => hfit x (by simp [hx]), by omega, h2⟩
        obtain ⟨n, hn⟩ : ∃ n, n = l.size := ⟨_, rfl⟩
        have hmz : r.size < (Tr.node l q r).size := by simp only [Tr.size]; omega
        have HME := Lib.hid hme; clear hme
        have HMZ := Lib.hid hmz; clear hmz
        rw [← hn] at HL hm
        have HL' := Lib.hid HL; clear HL
        have HN := Lib.hid hn; clear hn
        have HLS := Lib.hid hls; clear hls
        clear e1 hsum hsize hsrt hfit s1 s2 hll hx1 hx2 HP
        go_wp2_with fail
        refine HR.out.mono ?_
        rintro e w2 ⟨g1, g2, rfl, h1, h2, hb2⟩
        have hcall := HCL.out w2 hb2 (some ⟨g1, 0, none⟩) x1 (bts_row h1.2)
        rw [hq] at hcall
        have HCA := Lib.hid hcall; clear hcall
        obtain ⟨k1, k2⟩ := HPO.out w2 hb2
        have hl := left_any k1
        have hr := right_any k1
        have hsz := fun pl (h : Tre F w2 l pl) => size_any h HLS.out
        rw [← HN.out] at hsz
        have KL := Lib.hid hl; clear hl
        have KR := Lib.hid hr; clear hr
        have KS := Lib.hid hsz; clear hsz
        have K2 := Lib.hid k2; clear k2
        have hfd := run_key (.slice (some ⟨g1, 0, none⟩) x1 x1) (.slice (some ⟨g2, 0, none⟩) x2 x2)
        clear k1 h1 h2 hb2 HR HPO HCL hq
        go_wp2_with fail
        refine HCA.out.mono ?_
        rintro e w' ⟨rfl, rfl⟩
        go_wp2_with fail
        refine KL.out.mono ?_
        rintro e w' ⟨pl, rfl, hpl, rfl⟩
        have KZ := Lib.hid (KS.out pl hpl)
        clear hpl KS
        go_wp2_with fail
        refine KZ.out.mono ?_
        rintro e w' ⟨rfl, rfl⟩
        go_wp2_with fail
        refine KR.out.mono ?_
        rintro e w' ⟨pr, rfl, hpr, rfl⟩
        have HPR := Lib.hid hpr; clear hpr
        go_wp2_with fail
        go_roundw
        case rel => exact ⟨m + (n + 1), pr, rfl, by go_num, r, HL'.out _ _ HPR.out K2.out⟩
        case measure =>
          rw [sizeAt_eq (t := r) HPR.out, HME.out]
          exact HMZ.out
      | false =>
        have e1 := below_left HP.out hsrt hq
        have HL : ∀ W p2, Tre F W l p2 → Below w.heap.size w W → Way F w P t m p2 W l := fun W p2 h1 h2 => ⟨h1, by omega, s1, fun x hx => hfit x (by simp [hx]), by omega, h2⟩
        have hmz : l.size < (Tr.node l q r).size := by simp only [Tr.size]; omega
        have HME := Lib.hid hme; clear hme
        have HMZ := Lib.hid hmz; clear hmz
        have HL' := Lib.hid HL; clear HL
        clear e1 hsum hsize hsrt hfit s1 s2 hll hx1 hx2 HP hls
        go_wp2_with fail
        refine HR.out.mono ?_
        rintro e w2 ⟨g1, g2, rfl, h1, h2, hb2⟩
        have hcall := HCL.out w2 hb2 (some ⟨g1, 0, none⟩) x1 (bts_row h1.2)
        rw [hq] at hcall
        have HCA := Lib.hid hcall; clear hcall
        obtain ⟨k1, k2⟩ := HPO.out w2 hb2
        have hl := left_any k1
        have KL := Lib.hid hl; clear hl
        have K2 := Lib.hid k2; clear k2
        have hfd := run_key (.slice (some ⟨g1, 0, none⟩) x1 x1) (.slice (some ⟨g2, 0, none⟩) x2 x2)
        clear k1 h1 h2 hb2 HR HPO HCL hq
        go_wp2_with fail
        refine HCA.out.mono ?_
        rintro e w' ⟨rfl, rfl⟩
        go_wp2_with fail
        refine KL.out.mono ?_
        rintro e w' ⟨pl, rfl, hpl, rfl⟩
        have HPR := Lib.hid hpl; clear hpl
        go_wp2_with fail
        go_roundw
        case rel => exact ⟨m, pl, rfl, rfl, l, HL'.out _ _ HPR.out K2.out⟩
        case measure =>
          rw [sizeAt_eq (t := l) HPR.out, HME.out]
          exact HMZ.out
theorem rank_any {F : Nat → Prop} {w : World} {t : Tr} {p A : Option Addr} {key : List UInt8} (c : Nat) (ht : Tre F w t p) (hs : srt t.list) (hn : t.size ≤ 1000) (hf : ∀ x ∈ t.list, x.1.length ≤ 100000 ∧ x.2.length ≤ 100000) (hA : Bts w A key) :
    Calls Try.prog 28 #[.pointer p, .slice A key.length c] w fun e w' => e = .returned (.int .i64 (rank t.list key : Int)) ∧ Below w.heap.size w w' := by
  obtain ⟨w1, hw1⟩ : ∃ w1, w1 = w.alloc (.cells #[.slice A key.length c] 33) := ⟨_, rfl⟩
  have hb1 : Below w.heap.size w w1 := by rw [hw1]; exact (Below.refl _ _).alloc (Nat.le_refl _) _
  have r0 : w1.heap[w.heap.size]? = some (.cells #[.slice A key.length c] 33 (0, 0)) := by rw [hw1]; exact heap_alloc_new w _
  have hz : w.heap.size < w1.heap.size := (Array.getElem?_eq_some_iff.1 r0).1
  have eg : ∀ args w, (callFunc 50 args).run Try.prog w = .ok (.enter 50 args) w := enters_of Try.func50 (by kernel_rfl) rfl
  have h := below_any (g := w.heap.size) (ht.below hb1) hs hn hf (down_lt key) eg fun W B d k hW hB => lt1_any d hB ((hA.below hb1).below hW) (by rw [cell_of_row W _ 0 _ 33 (0, 0) ((hW.block _ hz).trans r0)]; rfl)
  rw [← rank_below] at h
  obtain ⟨x, hx⟩ : ∃ k, k = key.length := ⟨_, rfl⟩
  rw [← hx] at hw1 ⊢
  have H := Lib.hid h; clear h
  have HW := Lib.hid hw1; clear hw1
  have HB := Lib.hid hb1; clear hb1
  clear ht hs hn hf hA r0 hz eg hx
  go_enter Try.func28, Try.ntmps28
  go_wp2_with fail
  rw [← HW.out]
  refine H.out.mono ?_
  rintro e w2 ⟨rfl, hb2⟩
  have HB2 := Lib.hid hb2; clear hb2
  go_wp2_with fail
  go_ret
  exact ⟨rfl, below_then HB.out HB2.out⟩
end Go.Proofs.Ytkcfanckkomdbaa
