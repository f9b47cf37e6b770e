/-
  Contracts of the document's own answers: In, Cut, Less, a stretch of strings; of Is; and of the calls that lead to a tree and its model.
-/
import Derived.Test.YthkecgafdjpddaaSpans
import Derived.Test.YthkecgafdjpddaaPlays
namespace Go.Proofs.Ythkecgafdjpddaa
open Go.RowKit
set_option maxHeartbeats 4000000
set_option maxRecDepth 100000
theorem filter_take {M : List Pr} {j : Nat} (P : Pr → Bool) (h : j < M.length) : (M.take (j + 1)).filter P = (M.take j).filter P ++ (if P M[j] = true then [M[j]] else []) := by
  rw [List.take_succ_eq_append_getElem h, List.filter_append]
  congr 1
  rw [List.filter_cons]
  rfl
theorem box_strs (w : World) (a b : Value) : ∃ w1, w1 = w.alloc (.cells #[a, b] 62) ∧ Below w.heap.size w w1 ∧
    ∀ W, Below w1.heap.size w1 W → W.cell? ⟨w.heap.size, 0, none⟩ = some a ∧ W.cell? ⟨w.heap.size, 1, none⟩ = some b := by
  refine ⟨_, rfl, (Below.refl _ _).alloc (Nat.le_refl _) _, fun W hW => ?_⟩
  have r0 : W.heap[w.heap.size]? = some (.cells #[a, b] 62 (0, 0)) := (hW.block _ (by simp)).trans (heap_alloc_new w _)
  constructor
  · rw [cell_of_row W _ _ _ 62 (0, 0) r0]; rfl
  · rw [cell_of_row W _ _ _ 62 (0, 0) r0]; rfl
theorem box_ref (w : World) (a b c : Value) : ∃ w1, w1 = w.alloc (.cells #[a, b, c] 41) ∧ Below w.heap.size w w1 ∧
    ∀ W, Below w1.heap.size w1 W → W.cell? ⟨w.heap.size, 0, none⟩ = some a ∧ W.cell? ⟨w.heap.size, 1, none⟩ = some b ∧ W.cell? ⟨w.heap.size, 2, none⟩ = some c := by
  refine ⟨_, rfl, (Below.refl _ _).alloc (Nat.le_refl _) _, fun W hW => ?_⟩
  have r0 : W.heap[w.heap.size]? = some (.cells #[a, b, c] 41 (0, 0)) := (hW.block _ (by simp)).trans (heap_alloc_new w _)
  refine ⟨?_, ?_, ?_⟩
  · rw [cell_of_row W _ _ _ 41 (0, 0) r0]; rfl
  · rw [cell_of_row W _ _ _ 41 (0, 0) r0]; rfl
  · rw [cell_of_row W _ _ _ 41 (0, 0) r0]; rfl
/-- the document's order of keys, of lists of bytes -/
theorem less_list {w : World} {a b : List UInt8} (ha : a.length ≤ 1000) (hb : b.length ≤ 1000) : Calls Try.prog 31 #[.string ⟨a.toArray⟩, .string ⟨b.toArray⟩] w fun e w' => e = .returned (.bool (decide (cmp a b < 0))) ∧ Below w.heap.size w w' :=
  less_any ⟨a.toArray⟩ ⟨b.toArray⟩ w (by rw [bs_size]; exact ha) (by rw [bs_size]; exact hb)
theorem in_any {w : World} {f t k : List UInt8} (cl : Bool) (hf : f.length ≤ 1000) (ht : t.length ≤ 1000) (hk : k.length ≤ 1000) :
    Calls Try.prog 32 #[.agg #[.string ⟨f.toArray⟩, .string ⟨t.toArray⟩, .bool cl], .string ⟨k.toArray⟩] w fun e w' => e = .returned (.bool (inS f t cl k)) ∧ Below w.heap.size w w' := by
  have h1 := fun W => less_list (w := W) hk hf
  have h2 := fun W => less_list (w := W) hk ht
  obtain ⟨sf, hsf⟩ : ∃ s : ByteArray, s = ⟨f.toArray⟩ := ⟨_, rfl⟩
  obtain ⟨st, hst⟩ : ∃ s : ByteArray, s = ⟨t.toArray⟩ := ⟨_, rfl⟩
  obtain ⟨sk, hsk⟩ : ∃ s : ByteArray, s = ⟨k.toArray⟩ := ⟨_, rfl⟩
  unfold inS
  simp only [← hsf, ← hst, ← hsk] at h1 h2 ⊢
  obtain ⟨a, haa⟩ : ∃ a, a = decide (cmp k f < 0) := ⟨_, rfl⟩
  obtain ⟨b, hbb⟩ : ∃ b, b = decide (cmp k t < 0) := ⟨_, rfl⟩
  simp only [← haa, ← hbb] at h1 h2 ⊢
  obtain ⟨w1, hw1, hb1, hk1⟩ := box_ref w (.string sf) (.string st) (.bool cl)
  obtain ⟨c0, c1, c2⟩ := hk1 w1 (Below.refl _ _)
  have H1 := Lib.hid h1; clear h1
  have H2 := Lib.hid h2; clear h2
  have K1 := Lib.hid hk1; clear hk1
  have HW := Lib.hid hw1; clear hw1
  have HB := Lib.hid hb1; clear hb1
  clear hf ht hk hsf hst hsk haa hbb
  cases a with
  | true =>
    go_enter Try.func32, Try.ntmps32
    go_wp2_with (rw [← HW.out])
    refine (H1.out _).mono ?_
    rintro e w2 ⟨rfl, gb⟩
    have GB := Lib.hid gb; clear gb
    clear c0 c1 c2
    go_wp2_with fail
    go_ret
    exact ⟨rfl, below_then HB.out GB.out⟩
  | false =>
    cases cl with
    | false =>
      go_enter Try.func32, Try.ntmps32
      go_wp2_with (rw [← HW.out])
      refine (H1.out _).mono ?_
      rintro e w2 ⟨rfl, gb⟩
      clear c0 c1 c2
      obtain ⟨c0, c1, c2⟩ := K1.out w2 gb
      have GB := Lib.hid gb; clear gb
      go_wp2_with fail
      go_ret
      exact ⟨rfl, below_then HB.out GB.out⟩
    | true =>
      go_enter Try.func32, Try.ntmps32
      go_wp2_with (rw [← HW.out])
      refine (H1.out _).mono ?_
      rintro e w2 ⟨rfl, gb⟩
      clear c0 c1 c2
      obtain ⟨c0, c1, c2⟩ := K1.out w2 gb
      have GB := Lib.hid gb; clear gb
      go_wp2_with fail
      refine (H2.out _).mono ?_
      rintro e w3 ⟨rfl, gb3⟩
      have GB3 := Lib.hid gb3; clear gb3
      clear c0 c1 c2
      go_wp2_with fail
      go_ret
      exact ⟨rfl, below_then (below_then HB.out GB.out) GB3.out⟩
theorem refLts_any {w : World} {A : Option Addr} {M : List Pr} (ha : Rcs w A M) (c : Nat) (k : List UInt8) (hlen : M.length ≤ 900) (hk : k.length ≤ 1000) (hm : ∀ q ∈ M, q.1.length ≤ 1000) :
    Calls Try.prog 13 #[.slice A M.length c, .string ⟨k.toArray⟩, .bool false] w fun e w' => ∃ A' c' n, e = .returned (.slice A' n c') ∧ n = (lts M k).length ∧ Rcs w' A' (lts M k) ∧ Below w.heap.size w w' := by
  unfold lts
  obtain ⟨kk, hkk⟩ : ∃ s : ByteArray, s = ⟨k.toArray⟩ := ⟨_, rfl⟩
  rw [← hkk]
  have HA := Lib.hid ha; clear ha
  have HK := Lib.hid hkk; clear hkk
  go_enter Try.func13, Try.ntmps13
  go_wp2
  go_loopw [7, 12] (fun v u wr => ∃ (j : Nat) (N : List Pr), u = .int .i64 j ∧ j ≤ M.length ∧ N.length ≤ j ∧ Hid (N = (M.take j).filter (fun x : Pr => decide (cmp x.1 k < 0))) ∧ Hid (Below w.heap.size w wr) ∧ Hid (wr.ownsRow w.heap.size 62 2 v N.length (scells N))) (fun _ u _ => M.length - (intOf u).toNat)
  case atStart => exact ⟨0, [], rfl, by omega, by simp, rfl, Below.refl _ _, World.ownsRow_nil _ _ _ _⟩
  case round =>
    obtain ⟨j, N, rfl, hj, hN, hNe, hbel, hown⟩ := hrel
    by_cases hlt : j < M.length
    · obtain ⟨bm, rfl, hbl, h1, h2⟩ := (HA.out.below hbel.out).at hlt
      have hcall := fun W => less_list (w := W) (hm _ (List.getElem_mem hlt)) hk
      obtain ⟨x, hx⟩ : ∃ s : ByteArray, s = ⟨(M[j]).1.toArray⟩ := ⟨_, rfl⟩
      obtain ⟨y, hy⟩ : ∃ s : ByteArray, s = ⟨(M[j]).2.toArray⟩ := ⟨_, rfl⟩
      rw [← hx] at h1
      rw [← hy] at h2
      simp only [← hx, ← HK.out] at hcall
      have hft := filter_take (fun x : Pr => decide (cmp x.1 k < 0)) hlt
      obtain ⟨d, hd⟩ : ∃ d, d = decide (cmp (M[j]).1 k < 0) := ⟨_, rfl⟩
      simp only [← hd] at hcall hft
      obtain ⟨w1, hw1, b1, k1⟩ := box_strs wr (.string x) (.string y)
      obtain ⟨p0, p1⟩ := k1 w1 (Below.refl _ _)
      have HC := Lib.hid hcall; clear hcall
      have HO := Lib.hid (fun W (h : Below w1.heap.size w1 W) => And.intro (own_keep hown.out (below_then b1 h)) (below_then hbel.out (below_then b1 h)))
      have K1 := Lib.hid k1; clear k1
      have HW := Lib.hid hw1; clear hw1
      have HX := Lib.hid hx; clear hx
      have HY := Lib.hid hy; clear hy
      have hnn : N.length ≤ 1000 := by omega
      clear HA hd b1 hown hbel
      cases d with
      | false =>
        have HI : Hid (N = (M.take (j + 1)).filter (fun x : Pr => decide (cmp x.1 k < 0))) := by show _ = _; rw [hft, if_neg (by decide), List.append_nil]; exact hNe.out
        clear hft hNe
        go_wp2_with (rw [← HW.out])
        refine (HC.out _).mono ?_
        rintro e w2 ⟨rfl, hb2⟩
        have H2 := Lib.hid (HO.out w2 hb2); clear hb2
        clear p0 p1 HO K1 HC
        go_wp2_with fail
        go_roundw
        case rel => exact ⟨j + 1, N, by go_num, by omega, by omega, HI.out, H2.out.2, H2.out.1⟩
        case measure => simp [intOf]; omega
      | true =>
        have HI : Hid (N ++ [M[j]] = (M.take (j + 1)).filter (fun x : Pr => decide (cmp x.1 k < 0))) := by show _ = _; rw [hft, if_pos (by decide), hNe.out]
        clear hft hNe
        go_wp2_with (rw [← HW.out])
        refine (HC.out _).mono ?_
        rintro e w2 ⟨rfl, hb2⟩
        have H2 := Lib.hid (HO.out w2 hb2)
        clear p0 p1
        obtain ⟨p0, p1⟩ := K1.out w2 hb2
        clear hb2 HO K1 HC
        go_wp2_with (at_builtin; refine list_app2 (B := w.heap.size) (w := w2) 27 62 _ 32 Try.underlying27 Try.info62 rfl (by decide) rfl (.tmp 33) (.tmp 35) rfl _ (N).length (scells (N)) H2.out.1 (.string x) (.string y) rfl rfl rfl (rfl) (hnn) (H2.out.2.size) ?_; intro v1 w3 ho3 hg3)
        go_roundw
        case rel =>
          refine ⟨j + 1, N ++ [M[j]], by go_num, by omega, by simp; omega, HI.out, H2.out.2.grown hg3 H2.out.2.size (fun k hk => (H2.out.1.lt k hk).1), ?_⟩
          show World.ownsRow _ _ _ _ _ _ _
          rw [scells_snoc, List.length_append, ← HX.out, ← HY.out]; exact ho3
        case measure => simp [intOf]; omega
    · obtain rfl : j = M.length := by omega
      have HE : Hid (N = M.filter (fun x : Pr => decide (cmp x.1 k < 0))) := by
        have h := hNe.out
        rw [List.take_length] at h
        exact h
      obtain ⟨A', c', e, hr⟩ := rcs_own hown.out
      subst e
      have HR := Lib.hid hr; clear hr
      clear hNe hown
      go_wp2_with fail
      go_ret
      exact ⟨A', c', _, rfl, by rw [← HE.out], by rw [← HE.out]; exact HR.out, hbel.out⟩
theorem refGts_any {w : World} {A : Option Addr} {M : List Pr} (ha : Rcs w A M) (c : Nat) (k : List UInt8) (hlen : M.length ≤ 900) (hk : k.length ≤ 1000) (hm : ∀ q ∈ M, q.1.length ≤ 1000) :
    Calls Try.prog 13 #[.slice A M.length c, .string ⟨k.toArray⟩, .bool true] w fun e w' => ∃ A' c' n, e = .returned (.slice A' n c') ∧ n = (gts M k).length ∧ Rcs w' A' (gts M k) ∧ Below w.heap.size w w' := by
  unfold gts
  obtain ⟨kk, hkk⟩ : ∃ s : ByteArray, s = ⟨k.toArray⟩ := ⟨_, rfl⟩
  rw [← hkk]
  have HA := Lib.hid ha; clear ha
  have HK := Lib.hid hkk; clear hkk
  go_enter Try.func13, Try.ntmps13
  go_wp2
  go_loopw [7, 12] (fun v u wr => ∃ (j : Nat) (N : List Pr), u = .int .i64 j ∧ j ≤ M.length ∧ N.length ≤ j ∧ Hid (N = (M.take j).filter (fun x : Pr => decide (cmp k x.1 < 0))) ∧ Hid (Below w.heap.size w wr) ∧ Hid (wr.ownsRow w.heap.size 62 2 v N.length (scells N))) (fun _ u _ => M.length - (intOf u).toNat)
  case atStart => exact ⟨0, [], rfl, by omega, by simp, rfl, Below.refl _ _, World.ownsRow_nil _ _ _ _⟩
  case round =>
    obtain ⟨j, N, rfl, hj, hN, hNe, hbel, hown⟩ := hrel
    by_cases hlt : j < M.length
    · obtain ⟨bm, rfl, hbl, h1, h2⟩ := (HA.out.below hbel.out).at hlt
      have hcall := fun W => less_list (w := W) hk (hm _ (List.getElem_mem hlt))
      obtain ⟨x, hx⟩ : ∃ s : ByteArray, s = ⟨(M[j]).1.toArray⟩ := ⟨_, rfl⟩
      obtain ⟨y, hy⟩ : ∃ s : ByteArray, s = ⟨(M[j]).2.toArray⟩ := ⟨_, rfl⟩
      rw [← hx] at h1
      rw [← hy] at h2
      simp only [← hx, ← HK.out] at hcall
      have hft := filter_take (fun x : Pr => decide (cmp k x.1 < 0)) hlt
      obtain ⟨d, hd⟩ : ∃ d, d = decide (cmp k (M[j]).1 < 0) := ⟨_, rfl⟩
      simp only [← hd] at hcall hft
      obtain ⟨w1, hw1, b1, k1⟩ := box_strs wr (.string x) (.string y)
      obtain ⟨p0, p1⟩ := k1 w1 (Below.refl _ _)
      have HC := Lib.hid hcall; clear hcall
      have HO := Lib.hid (fun W (h : Below w1.heap.size w1 W) => And.intro (own_keep hown.out (below_then b1 h)) (below_then hbel.out (below_then b1 h)))
      have K1 := Lib.hid k1; clear k1
      have HW := Lib.hid hw1; clear hw1
      have HX := Lib.hid hx; clear hx
      have HY := Lib.hid hy; clear hy
      have hnn : N.length ≤ 1000 := by omega
      clear HA hd b1 hown hbel
      cases d with
      | false =>
        have HI : Hid (N = (M.take (j + 1)).filter (fun x : Pr => decide (cmp k x.1 < 0))) := by show _ = _; rw [hft, if_neg (by decide), List.append_nil]; exact hNe.out
        clear hft hNe
        go_wp2_with (rw [← HW.out])
        refine (HC.out _).mono ?_
        rintro e w2 ⟨rfl, hb2⟩
        have H2 := Lib.hid (HO.out w2 hb2); clear hb2
        clear p0 p1 HO K1 HC
        go_wp2_with fail
        go_roundw
        case rel => exact ⟨j + 1, N, by go_num, by omega, by omega, HI.out, H2.out.2, H2.out.1⟩
        case measure => simp [intOf]; omega
      | true =>
        have HI : Hid (N ++ [M[j]] = (M.take (j + 1)).filter (fun x : Pr => decide (cmp k x.1 < 0))) := by show _ = _; rw [hft, if_pos (by decide), hNe.out]
        clear hft hNe
        go_wp2_with (rw [← HW.out])
        refine (HC.out _).mono ?_
        rintro e w2 ⟨rfl, hb2⟩
        have H2 := Lib.hid (HO.out w2 hb2)
        clear p0 p1
        obtain ⟨p0, p1⟩ := K1.out w2 hb2
        clear hb2 HO K1 HC
        go_wp2_with (at_builtin; refine list_app2 (B := w.heap.size) (w := w2) 27 62 _ 32 Try.underlying27 Try.info62 rfl (by decide) rfl (.tmp 33) (.tmp 35) rfl _ (N).length (scells (N)) H2.out.1 (.string x) (.string y) rfl rfl rfl (rfl) (hnn) (H2.out.2.size) ?_; intro v1 w3 ho3 hg3)
        go_roundw
        case rel =>
          refine ⟨j + 1, N ++ [M[j]], by go_num, by omega, by simp; omega, HI.out, H2.out.2.grown hg3 H2.out.2.size (fun k hk => (H2.out.1.lt k hk).1), ?_⟩
          show World.ownsRow _ _ _ _ _ _ _
          rw [scells_snoc, List.length_append, ← HX.out, ← HY.out]; exact ho3
        case measure => simp [intOf]; omega
    · obtain rfl : j = M.length := by omega
      have HE : Hid (N = M.filter (fun x : Pr => decide (cmp k x.1 < 0))) := by
        have h := hNe.out
        rw [List.take_length] at h
        exact h
      obtain ⟨A', c', e, hr⟩ := rcs_own hown.out
      subst e
      have HR := Lib.hid hr; clear hr
      clear hNe hown
      go_wp2_with fail
      go_ret
      exact ⟨A', c', _, rfl, by rw [← HE.out], by rw [← HE.out]; exact HR.out, hbel.out⟩
theorem refIns_any {w : World} {A : Option Addr} {M : List Pr} (ha : Rcs w A M) (c : Nat) (f t : List UInt8) (cl : Bool) (hlen : M.length ≤ 900) (hf : f.length ≤ 1000) (ht : t.length ≤ 1000) (hm : ∀ q ∈ M, q.1.length ≤ 1000) :
    Calls Try.prog 14 #[.slice A M.length c, .agg #[.string ⟨f.toArray⟩, .string ⟨t.toArray⟩, .bool cl], .bool true] w fun e w' => ∃ A' c' n, e = .returned (.slice A' n c') ∧ n = (ins M f t cl).length ∧ Rcs w' A' (ins M f t cl) ∧ Below w.heap.size w w' := by
  unfold ins
  obtain ⟨sf, hsf⟩ : ∃ s : ByteArray, s = ⟨f.toArray⟩ := ⟨_, rfl⟩
  obtain ⟨st, hst⟩ : ∃ s : ByteArray, s = ⟨t.toArray⟩ := ⟨_, rfl⟩
  rw [← hsf, ← hst]
  obtain ⟨w0, hw0, hb0, hk0⟩ := box_ref w (.string sf) (.string st) (.bool cl)
  have HA := Lib.hid (ha.below hb0); clear ha
  have HF := Lib.hid hsf; clear hsf
  have HT := Lib.hid hst; clear hst
  have K0 := Lib.hid hk0; clear hk0
  have HB0 := Lib.hid hb0; clear hb0
  have HW0 := Lib.hid hw0; clear hw0
  go_enter Try.func14, Try.ntmps14
  go_wp2_with (rw [← HW0.out])
  go_loopw [7, 12] (fun v u wr => ∃ (j : Nat) (N : List Pr), u = .int .i64 j ∧ j ≤ M.length ∧ N.length ≤ j ∧ Hid (N = (M.take j).filter (fun x : Pr => inS f t cl x.1)) ∧ Hid (Below w0.heap.size w0 wr) ∧ Hid (wr.ownsRow w0.heap.size 62 2 v N.length (scells N))) (fun _ u _ => M.length - (intOf u).toNat)
  case atStart => exact ⟨0, [], rfl, by omega, by simp, rfl, Below.refl _ _, World.ownsRow_nil _ _ _ _⟩
  case round =>
    obtain ⟨j, N, rfl, hj, hN, hNe, hbel, hown⟩ := hrel
    by_cases hlt : j < M.length
    · obtain ⟨bm, rfl, hbl, h1, h2⟩ := (HA.out.below hbel.out).at hlt
      have hcall := fun W => in_any (w := W) cl hf ht (hm _ (List.getElem_mem hlt))
      obtain ⟨x, hx⟩ : ∃ s : ByteArray, s = ⟨(M[j]).1.toArray⟩ := ⟨_, rfl⟩
      obtain ⟨y, hy⟩ : ∃ s : ByteArray, s = ⟨(M[j]).2.toArray⟩ := ⟨_, rfl⟩
      rw [← hx] at h1
      rw [← hy] at h2
      simp only [← hx, ← HF.out, ← HT.out] at hcall
      have hft := filter_take (fun x : Pr => inS f t cl x.1) hlt
      obtain ⟨d, hd⟩ : ∃ d, d = inS f t cl (M[j]).1 := ⟨_, rfl⟩
      simp only [← hd] at hcall hft
      obtain ⟨w1, hw1, b1, k1⟩ := box_strs wr (.string x) (.string y)
      obtain ⟨p0, p1⟩ := k1 w1 (Below.refl _ _)
      have HC := Lib.hid hcall; clear hcall
      have HO := Lib.hid (fun W (h : Below w1.heap.size w1 W) => And.intro (own_keep hown.out (below_then b1 h)) (below_then hbel.out (below_then b1 h)))
      have K1 := Lib.hid k1; clear k1
      obtain ⟨q0, q1, q2⟩ := K0.out w1 (below_then hbel.out b1)
      have HW := Lib.hid hw1; clear hw1
      have HX := Lib.hid hx; clear hx
      have HY := Lib.hid hy; clear hy
      have hnn : N.length ≤ 1000 := by omega
      clear HA hd b1 hown hbel
      cases d with
      | false =>
        have HI : Hid (N = (M.take (j + 1)).filter (fun x : Pr => inS f t cl x.1)) := by show _ = _; rw [hft, if_neg (by decide), List.append_nil]; exact hNe.out
        clear hft hNe
        go_wp2_with (rw [← HW.out])
        refine (HC.out _).mono ?_
        rintro e w2 ⟨rfl, hb2⟩
        have H2 := Lib.hid (HO.out w2 hb2); clear hb2
        clear p0 p1 HO K1 HC
        go_wp2_with fail
        go_roundw
        case rel => exact ⟨j + 1, N, by go_num, by omega, by omega, HI.out, H2.out.2, H2.out.1⟩
        case measure => simp [intOf]; omega
      | true =>
        have HI : Hid (N ++ [M[j]] = (M.take (j + 1)).filter (fun x : Pr => inS f t cl x.1)) := by show _ = _; rw [hft, if_pos (by decide), hNe.out]
        clear hft hNe
        go_wp2_with (rw [← HW.out])
        refine (HC.out _).mono ?_
        rintro e w2 ⟨rfl, hb2⟩
        have H2 := Lib.hid (HO.out w2 hb2)
        clear p0 p1
        obtain ⟨p0, p1⟩ := K1.out w2 hb2
        clear hb2 HO K1 HC
        go_wp2_with (at_builtin; refine list_app2 (B := w0.heap.size) (w := w2) 27 62 _ 32 Try.underlying27 Try.info62 rfl (by decide) rfl (.tmp 22) (.tmp 24) rfl _ (N).length (scells (N)) H2.out.1 (.string x) (.string y) rfl rfl rfl (rfl) (hnn) (H2.out.2.size) ?_; intro v1 w3 ho3 hg3)
        go_roundw
        case rel =>
          refine ⟨j + 1, N ++ [M[j]], by go_num, by omega, by simp; omega, HI.out, H2.out.2.grown hg3 H2.out.2.size (fun k hk => (H2.out.1.lt k hk).1), ?_⟩
          show World.ownsRow _ _ _ _ _ _ _
          rw [scells_snoc, List.length_append, ← HX.out, ← HY.out]; exact ho3
        case measure => simp [intOf]; omega
    · obtain rfl : j = M.length := by omega
      have HE : Hid (N = M.filter (fun x : Pr => inS f t cl x.1)) := by
        have h := hNe.out
        rw [List.take_length] at h
        exact h
      obtain ⟨A', c', e, hr⟩ := rcs_own hown.out
      subst e
      have HR := Lib.hid hr; clear hr
      clear hNe hown
      go_wp2_with fail
      go_ret
      exact ⟨A', c', _, rfl, by rw [← HE.out], by rw [← HE.out]; exact HR.out, below_then HB0.out hbel.out⟩
theorem refOuts_any {w : World} {A : Option Addr} {M : List Pr} (ha : Rcs w A M) (c : Nat) (f t : List UInt8) (cl : Bool) (hlen : M.length ≤ 900) (hf : f.length ≤ 1000) (ht : t.length ≤ 1000) (hm : ∀ q ∈ M, q.1.length ≤ 1000) :
    Calls Try.prog 14 #[.slice A M.length c, .agg #[.string ⟨f.toArray⟩, .string ⟨t.toArray⟩, .bool cl], .bool false] w fun e w' => ∃ A' c' n, e = .returned (.slice A' n c') ∧ n = (outs M f t cl).length ∧ Rcs w' A' (outs M f t cl) ∧ Below w.heap.size w w' := by
  unfold outs
  obtain ⟨sf, hsf⟩ : ∃ s : ByteArray, s = ⟨f.toArray⟩ := ⟨_, rfl⟩
  obtain ⟨st, hst⟩ : ∃ s : ByteArray, s = ⟨t.toArray⟩ := ⟨_, rfl⟩
  rw [← hsf, ← hst]
  obtain ⟨w0, hw0, hb0, hk0⟩ := box_ref w (.string sf) (.string st) (.bool cl)
  have HA := Lib.hid (ha.below hb0); clear ha
  have HF := Lib.hid hsf; clear hsf
  have HT := Lib.hid hst; clear hst
  have K0 := Lib.hid hk0; clear hk0
  have HB0 := Lib.hid hb0; clear hb0
  have HW0 := Lib.hid hw0; clear hw0
  go_enter Try.func14, Try.ntmps14
  go_wp2_with (rw [← HW0.out])
  go_loopw [7, 12] (fun v u wr => ∃ (j : Nat) (N : List Pr), u = .int .i64 j ∧ j ≤ M.length ∧ N.length ≤ j ∧ Hid (N = (M.take j).filter (fun x : Pr => !inS f t cl x.1)) ∧ Hid (Below w0.heap.size w0 wr) ∧ Hid (wr.ownsRow w0.heap.size 62 2 v N.length (scells N))) (fun _ u _ => M.length - (intOf u).toNat)
  case atStart => exact ⟨0, [], rfl, by omega, by simp, rfl, Below.refl _ _, World.ownsRow_nil _ _ _ _⟩
  case round =>
    obtain ⟨j, N, rfl, hj, hN, hNe, hbel, hown⟩ := hrel
    by_cases hlt : j < M.length
    · obtain ⟨bm, rfl, hbl, h1, h2⟩ := (HA.out.below hbel.out).at hlt
      have hcall := fun W => in_any (w := W) cl hf ht (hm _ (List.getElem_mem hlt))
      obtain ⟨x, hx⟩ : ∃ s : ByteArray, s = ⟨(M[j]).1.toArray⟩ := ⟨_, rfl⟩
      obtain ⟨y, hy⟩ : ∃ s : ByteArray, s = ⟨(M[j]).2.toArray⟩ := ⟨_, rfl⟩
      rw [← hx] at h1
      rw [← hy] at h2
      simp only [← hx, ← HF.out, ← HT.out] at hcall
      have hft := filter_take (fun x : Pr => !inS f t cl x.1) hlt
      obtain ⟨d, hd⟩ : ∃ d, d = inS f t cl (M[j]).1 := ⟨_, rfl⟩
      simp only [← hd] at hcall hft
      obtain ⟨w1, hw1, b1, k1⟩ := box_strs wr (.string x) (.string y)
      obtain ⟨p0, p1⟩ := k1 w1 (Below.refl _ _)
      have HC := Lib.hid hcall; clear hcall
      have HO := Lib.hid (fun W (h : Below w1.heap.size w1 W) => And.intro (own_keep hown.out (below_then b1 h)) (below_then hbel.out (below_then b1 h)))
      have K1 := Lib.hid k1; clear k1
      obtain ⟨q0, q1, q2⟩ := K0.out w1 (below_then hbel.out b1)
      have HW := Lib.hid hw1; clear hw1
      have HX := Lib.hid hx; clear hx
      have HY := Lib.hid hy; clear hy
      have hnn : N.length ≤ 1000 := by omega
      clear HA hd b1 hown hbel
      cases d with
      | true =>
        have HI : Hid (N = (M.take (j + 1)).filter (fun x : Pr => !inS f t cl x.1)) := by show _ = _; rw [hft, if_neg (by decide), List.append_nil]; exact hNe.out
        clear hft hNe
        go_wp2_with (rw [← HW.out])
        refine (HC.out _).mono ?_
        rintro e w2 ⟨rfl, hb2⟩
        have H2 := Lib.hid (HO.out w2 hb2); clear hb2
        clear p0 p1 HO K1 HC
        go_wp2_with fail
        go_roundw
        case rel => exact ⟨j + 1, N, by go_num, by omega, by omega, HI.out, H2.out.2, H2.out.1⟩
        case measure => simp [intOf]; omega
      | false =>
        have HI : Hid (N ++ [M[j]] = (M.take (j + 1)).filter (fun x : Pr => !inS f t cl x.1)) := by show _ = _; rw [hft, if_pos (by decide), hNe.out]
        clear hft hNe
        go_wp2_with (rw [← HW.out])
        refine (HC.out _).mono ?_
        rintro e w2 ⟨rfl, hb2⟩
        have H2 := Lib.hid (HO.out w2 hb2)
        clear p0 p1
        obtain ⟨p0, p1⟩ := K1.out w2 hb2
        clear hb2 HO K1 HC
        go_wp2_with (at_builtin; refine list_app2 (B := w0.heap.size) (w := w2) 27 62 _ 32 Try.underlying27 Try.info62 rfl (by decide) rfl (.tmp 22) (.tmp 24) rfl _ (N).length (scells (N)) H2.out.1 (.string x) (.string y) rfl rfl rfl (rfl) (hnn) (H2.out.2.size) ?_; intro v1 w3 ho3 hg3)
        go_roundw
        case rel =>
          refine ⟨j + 1, N ++ [M[j]], by go_num, by omega, by simp; omega, HI.out, H2.out.2.grown hg3 H2.out.2.size (fun k hk => (H2.out.1.lt k hk).1), ?_⟩
          show World.ownsRow _ _ _ _ _ _ _
          rw [scells_snoc, List.length_append, ← HX.out, ← HY.out]; exact ho3
        case measure => simp [intOf]; omega
    · obtain rfl : j = M.length := by omega
      have HE : Hid (N = M.filter (fun x : Pr => !inS f t cl x.1)) := by
        have h := hNe.out
        rw [List.take_length] at h
        exact h
      obtain ⟨A', c', e, hr⟩ := rcs_own hown.out
      subst e
      have HR := Lib.hid hr; clear hr
      clear hNe hown
      go_wp2_with fail
      go_ret
      exact ⟨A', c', _, rfl, by rw [← HE.out], by rw [← HE.out]; exact HR.out, below_then HB0.out hbel.out⟩
/-- the document's stretch of a stretch -/
theorem ref_any {w : World} {A B : Option Addr} {f t : List UInt8} {x y : Nat} (fc tc : Nat) (cl : Bool) (hs : Spn w A B f t x y) :
    Calls Try.prog 15 #[.agg #[.slice A x fc, .slice B y tc, .bool cl]] w fun e w' => e = .returned (.agg #[.string ⟨f.toArray⟩, .string ⟨t.toArray⟩, .bool cl]) ∧ Below w.heap.size w w' := by
  obtain ⟨w1, hw1, hb1, hk1⟩ := box_span w (.slice A x fc) (.slice B y tc) (.bool cl)
  obtain ⟨w2, hw2, hb2, hk2⟩ := box_ref w1 (.string ⟨#[]⟩) (.string ⟨#[]⟩) (.bool false)
  obtain ⟨c0, c1, c2⟩ := hk1 w2 hb2
  obtain ⟨d0, d1, d2⟩ := hk2 w2 (Below.refl _ _)
  have r0 : w2.heap[w1.heap.size]? = some (.cells #[.string ⟨#[]⟩, .string ⟨#[]⟩, .bool false] 41 (0, 0)) := by rw [hw2]; exact heap_alloc_new w1 _
  have f0 : ∀ i, w2.frozen? ⟨w1.heap.size, i, none⟩ = false := fun i => by simp [World.frozen?, r0]
  have e1 := conv_any ((hs.frm.below hb1).below hb2) fc
  have e2 := conv_any ((hs.til.below hb1).below hb2) tc
  rw [← hs.fl] at e1
  rw [← hs.tl] at e2
  obtain ⟨sf, hsf⟩ : ∃ s : ByteArray, s = ⟨f.toArray⟩ := ⟨_, rfl⟩
  obtain ⟨st, hst⟩ : ∃ s : ByteArray, s = ⟨t.toArray⟩ := ⟨_, rfl⟩
  rw [← hsf] at e1 ⊢
  rw [← hst] at e2 ⊢
  have hle : w.heap.size ≤ w1.heap.size := hb1.size
  have HW1 := Lib.hid hw1; clear hw1
  have HW2 := Lib.hid hw2; clear hw2
  have HB := Lib.hid (below_then hb1 hb2); clear hb1 hb2
  have HR := Lib.hid r0; clear r0
  have HLE := Lib.hid hle; clear hle
  clear hs hk1 hk2 hsf hst
  go_enter Try.func15, Try.ntmps15
  go_wp2_with (first | rw [← HW1.out] | rw [← HW2.out] | fail)
  have r1 := heap_setCell_same w2 w1.heap.size 0 _ 41 (.string sf) HR.out
  have r2 := heap_setCell_same _ w1.heap.size 1 _ 41 (.string st) r1
  have r3 := heap_setCell_same _ w1.heap.size 2 _ 41 (.bool cl) r2
  refine bodyPost_ret (results_cell_row rfl _ _ w1.heap.size 41 _ (0, 0) _ rfl r3 Try.underlying41 rfl (by kernel_rfl)) rfl ?_
  exact ⟨rfl, ((HB.out.setCell HLE.out _).setCell HLE.out _).setCell HLE.out _⟩
/-- Is: a tree that is sound, with just these pairs -/
theorem is_any {F : Nat → Prop} {w : World} {L : List Pr} {p A : Option Addr} {n : Nat} (c : Nat) (h : Is F w L p) (hs : srt L) (hn : L.length ≤ 700) (hf : Fits L) (ha : Rcs w A L) (en : n = L.length) :
    Calls Try.prog 12 #[.pointer p, .slice A n c] w fun e w' => e = .returned (.bool true) ∧ Below w.heap.size w w' := by
  obtain ⟨t, h1, h2, rfl⟩ := h
  have hz : t.size = n := by rw [← Tr.length, en]
  have s1 := sound_any h1 (by rw [← Tr.length]; omega) h2 hs
  have s2 := fun W (hW : Below w.heap.size w W) => size_any (h1.below hW) (by rw [← Tr.length]; omega)
  have s3 := fun W (hW : Below w.heap.size w W) => list_any (h1.below hW) (by rw [← Tr.length]; omega) hf
  have s4 := fun W (B : Option Addr) (d : Nat) (hW : Below w.heap.size w W) (hB : Pcs W B t.list) => refIs_any hB (ha.below hW) d c (by omega)
  rw [hz] at s2
  rw [← en] at s3
  simp only [← en, decide_true] at s4
  have dn : ((n : Int) == (n : Int)) = true := by simp
  have S1 := Lib.hid s1; clear s1
  have S2 := Lib.hid s2; clear s2
  have S3 := Lib.hid s3; clear s3
  have S4 := Lib.hid s4; clear s4
  clear h1 h2 hs hn hf ha en hz
  go_enter Try.func12, Try.ntmps12
  go_wp2_with fail
  refine S1.out.mono ?_
  rintro e w1 ⟨rfl, b1⟩
  have K2 := Lib.hid (S2.out w1 b1)
  have K3 := Lib.hid (S3.out w1 b1)
  have B1 := Lib.hid b1; clear b1
  clear S1 S2 S3
  go_wp2_with fail
  refine K2.out.mono ?_
  rintro e w' ⟨rfl, rfl⟩
  go_wp2_with fail
  refine K3.out.mono ?_
  rintro e w2 ⟨B, d, rfl, hfr, b2⟩
  have b12 := below_then B1.out b2
  have K4 := Lib.hid (S4.out w2 B d b12 hfr.pcs)
  have B2 := Lib.hid b12; clear b12
  clear hfr b2 B1 S4 K2 K3
  go_wp2_with fail
  refine K4.out.mono ?_
  rintro e w3 ⟨rfl, b3⟩
  have B3 := Lib.hid b3; clear b3
  clear K4
  go_wp2_with fail
  go_ret
  exact ⟨rfl, below_then B2.out B3.out⟩
theorem made_any {w : World} {A0 : Option Addr} {L0 : List Opn} (c0 : Nat) (ha0 : Ocs w A0 L0) (hlen : L0.length ≤ 80) (htiny : tinyO L0 = true) :
    Calls Try.prog 9 #[.slice A0 L0.length c0] w fun e w' => ∃ p A c t, e = .returned (.tuple #[.pointer p, .slice A (plays L0).length c]) ∧ At w (plays L0) p A w' t := by
  have HTY := Lib.hid (tinyO_all htiny)
  have HA := Lib.hid ha0; clear ha0
  have HAL := Lib.hid (plays_all hlen htiny)
  clear htiny
  go_enter Try.func9, Try.ntmps9
  go_wp2_with fail
  go_loopw [4, 5, 10] (fun x y u wr => ∃ (j n c : Nat) (p A : Option Addr), u = .int .i64 j ∧ x = .pointer p ∧ y = .slice A n c ∧ j ≤ L0.length ∧ Hid (n = (plays (L0.take j)).length) ∧ Hid (∃ t, At w (plays (L0.take j)) p A wr t)) (fun _ _ u _ => L0.length - (intOf u).toNat)
  case atStart => exact ⟨0, 0, 0, none, none, rfl, rfl, rfl, by omega, rfl, .nil, rfl, trivial, rfl, .inl rfl, Below.refl _ _⟩
  case round =>
    obtain ⟨j, n, c, p, A, rfl, rfl, rfl, hj, hn, t, hat⟩ := hrel
    by_cases hlt : j < L0.length
    · obtain ⟨b, off, ka, kc, va, vc, rfl, hbl, h0, h1, h2, h3, h4⟩ := (HA.out.below hat.bel).at hlt
      obtain ⟨a1, a2, a3⟩ := HAL.out j
      have hst := fun W (hW : Below wr.heap.size wr W) => step_any (m := none) (v := 0) (c := 0) c kc vc (fun _ _ => trivial) (hat.tre.below hW) (hat.rcs.below hW) (.inl rfl) (h3.below hW) (h4.below hW) hat.ev a1 (by omega) a2 (HTY.out _ (List.getElem_mem hlt)) (by omega) (by omega) hat.list
      simp only [← plays_step hlt, ← hn.out] at hst
      obtain ⟨M', hM'⟩ : ∃ M', M' = plays (L0.take (j + 1)) := ⟨_, rfl⟩
      obtain ⟨z, hz⟩ : ∃ z : Int, z = (L0[j]).1 := ⟨_, rfl⟩
      obtain ⟨x1, hx1⟩ : ∃ x : Nat, x = (L0[j]).2.1.length := ⟨_, rfl⟩
      obtain ⟨x2, hx2⟩ : ∃ x : Nat, x = (L0[j]).2.2.length := ⟨_, rfl⟩
      obtain ⟨n', hn'⟩ : ∃ n', n' = M'.length := ⟨_, rfl⟩
      simp only [← hM', ← hn'] at hst
      rw [← hz] at h0
      rw [← hx1] at h1
      rw [← hx2] at h2
      simp only [← hz, ← hx1, ← hx2] at hst
      have HST := Lib.hid (hst _ (box3 wr (.int .i64 z) (.slice ka x1 kc) (.slice va x2 vc)))
      have HBEL := Lib.hid (below_then hat.bel (box3 wr (.int .i64 z) (.slice ka x1 kc) (.slice va x2 vc)))
      have HM := Lib.hid hM'; clear hM'
      have HN' := Lib.hid hn'; clear hn'
      clear hst h3 h4 hat hz hx1 hx2 a1 a2 a3 HA hn
      go_wp2_with fail
      refine HST.out.mono ?_
      rintro e w2 ⟨p', t', A', c', v', k', rfl, g1, g2, g3, g4, _, _, g7⟩
      have hb2 := below_then HBEL.out g7.nil
      have HAT : Hid (At w M' p' A' w2 t') := ⟨g1, g2, g3, g4, hb2⟩
      clear HST g1 g2 g3 g4 g7 h0 h1 h2 HBEL hb2
      go_wp2_with fail
      go_roundw
      case rel =>
        have hq := HAT.out
        exact ⟨j + 1, n', c', p', A', by go_num, rfl, rfl, by omega, by show _ = _; rw [HN'.out, HM.out], t', by rw [← HM.out]; exact hq⟩
      case measure => simp [intOf]; omega
    · obtain rfl : j = L0.length := by omega
      have e : plays (L0.take L0.length) = plays L0 := by rw [List.take_length]
      have h1 := hn.out
      rw [e] at h1 hat
      have HAT := Lib.hid hat; clear hat
      have H1 := Lib.hid h1; clear h1
      clear hn e
      go_wp2_with fail
      go_ret2
      exact ⟨p, A, c, t, by rw [H1.out]; rfl, HAT.out⟩
end Go.Proofs.Ythkecgafdjpddaa
