/-
  Contracts of the document's own answers: In, Cut, Less, Rank, Held, a stretch of strings; of at; and of the calls that lead to a tree and its model.
-/
import Derived.Test.YtkcfanckkomdbaaNext
import Derived.Test.YtkcfanckkomdbaaPlays
import Derived.Test.YtkcfanckkomdbaaCuts
namespace Go.Proofs.Ytkcfanckkomdbaa
open Go.RowKit
set_option maxHeartbeats 4000000
set_option maxRecDepth 100000
theorem box_span (w : World) (a b c : Value) : ∃ w1, w1 = w.alloc (.cells #[a, b, c] 48) ∧ Below w.heap.size w w1 ∧
    ∀ W, Below w1.heap.size w1 W → W.cell? ⟨w.heap.size, 0, none⟩ = some a ∧ W.cell? ⟨w.heap.size, 1, none⟩ = some b ∧ W.cell? ⟨w.heap.size, 2, none⟩ = some c := by
  refine ⟨_, rfl, (Below.refl _ _).alloc (Nat.le_refl _) _, fun W hW => ?_⟩
  have r0 : W.heap[w.heap.size]? = some (.cells #[a, b, c] 48 (0, 0)) := (hW.block _ (by simp)).trans (heap_alloc_new w _)
  refine ⟨?_, ?_, ?_⟩
  · rw [cell_of_row W _ _ _ 48 (0, 0) r0]; rfl
  · rw [cell_of_row W _ _ _ 48 (0, 0) r0]; rfl
  · rw [cell_of_row W _ _ _ 48 (0, 0) r0]; rfl
/-- a stretch in memory -/
structure Spn (w : World) (A B : Option Addr) (f t : List UInt8) (x y : Nat) : Prop where
  frm : Bts w A f
  til : Bts w B t
  fl : x = f.length
  tl : y = t.length
theorem Spn.below {w w' : World} {A B : Option Addr} {f t : List UInt8} {x y : Nat} (h : Spn w A B f t x y) (hb : Below w.heap.size w w') : Spn w' A B f t x y := ⟨h.frm.below hb, h.til.below hb, h.fl, h.tl⟩
theorem filter_take {M : List Pr} {j : Nat} (P : Pr → Bool) (h : j < M.length) : (M.take (j + 1)).filter P = (M.take j).filter P ++ (if P M[j] = true then [M[j]] else []) := by
  rw [List.take_succ_eq_append_getElem h, List.filter_append]
  congr 1
  rw [List.filter_cons]
  rfl
theorem box_strs (w : World) (a b : Value) : ∃ w1, w1 = w.alloc (.cells #[a, b] 68) ∧ Below w.heap.size w w1 ∧
    ∀ W, Below w1.heap.size w1 W → W.cell? ⟨w.heap.size, 0, none⟩ = some a ∧ W.cell? ⟨w.heap.size, 1, none⟩ = some b := by
  refine ⟨_, rfl, (Below.refl _ _).alloc (Nat.le_refl _) _, fun W hW => ?_⟩
  have r0 : W.heap[w.heap.size]? = some (.cells #[a, b] 68 (0, 0)) := (hW.block _ (by simp)).trans (heap_alloc_new w _)
  constructor
  · rw [cell_of_row W _ _ _ 68 (0, 0) r0]; rfl
  · rw [cell_of_row W _ _ _ 68 (0, 0) r0]; rfl
theorem box_ref (w : World) (a b c : Value) : ∃ w1, w1 = w.alloc (.cells #[a, b, c] 51) ∧ Below w.heap.size w w1 ∧
    ∀ W, Below w1.heap.size w1 W → W.cell? ⟨w.heap.size, 0, none⟩ = some a ∧ W.cell? ⟨w.heap.size, 1, none⟩ = some b ∧ W.cell? ⟨w.heap.size, 2, none⟩ = some c := by
  refine ⟨_, rfl, (Below.refl _ _).alloc (Nat.le_refl _) _, fun W hW => ?_⟩
  have r0 : W.heap[w.heap.size]? = some (.cells #[a, b, c] 51 (0, 0)) := (hW.block _ (by simp)).trans (heap_alloc_new w _)
  refine ⟨?_, ?_, ?_⟩
  · rw [cell_of_row W _ _ _ 51 (0, 0) r0]; rfl
  · rw [cell_of_row W _ _ _ 51 (0, 0) r0]; rfl
  · rw [cell_of_row W _ _ _ 51 (0, 0) r0]; rfl
theorem less_list {w : World} {a b : List UInt8} (ha : a.length ≤ 1000) (hb : b.length ≤ 1000) : Calls Try.prog 29 #[.string ⟨a.toArray⟩, .string ⟨b.toArray⟩] w fun e w' => e = .returned (.bool (decide (cmp a b < 0))) ∧ Below w.heap.size w w' :=
  less_any ⟨a.toArray⟩ ⟨b.toArray⟩ w (by rw [bs_size]; exact ha) (by rw [bs_size]; exact hb)
theorem in_any {w : World} {f t k : List UInt8} (cl : Bool) (hf : f.length ≤ 1000) (ht : t.length ≤ 1000) (hk : k.length ≤ 1000) :
    Calls Try.prog 34 #[.agg #[.string ⟨f.toArray⟩, .string ⟨t.toArray⟩, .bool cl], .string ⟨k.toArray⟩] w fun e w' => e = .returned (.bool (inS f t cl k)) ∧ Below w.heap.size w w' := by
  have h1 := fun W => less_list (w := W) hk hf
  have h2 := fun W => less_list (w := W) hk ht
  obtain ⟨sf, hsf⟩ : ∃ s : ByteArray, s = ⟨f.toArray⟩ := ⟨_, rfl⟩
  obtain ⟨st, hst⟩ : ∃ s : ByteArray, s = ⟨t.toArray⟩ := ⟨_, rfl⟩
  obtain ⟨sk, hsk⟩ : ∃ s : ByteArray, s = ⟨k.toArray⟩ := ⟨_, rfl⟩
  unfold inS
  simp only [← hsf, ← hst, ← hsk] at h1 h2 ⊢
  obtain ⟨a, haa⟩ : ∃ a, a = decide (cmp k f < 0) := ⟨_, rfl⟩
  obtain ⟨b, hbb⟩ : ∃ b, b = decide (cmp k t < 0) := ⟨_, rfl⟩
  simp only [← haa, ← hbb] at h1 h2 ⊢
  obtain ⟨w1, hw1, hb1, hk1⟩ := box_ref w (.string sf) (.string st) (.bool cl)
  obtain ⟨c0, c1, c2⟩ := hk1 w1 (Below.refl _ _)
  have H1 := Lib.hid h1; clear h1
  have H2 := Lib.hid h2; clear h2
  have K1 := Lib.hid hk1; clear hk1
  have HW := Lib.hid hw1; clear hw1
  have HB := Lib.hid hb1; clear hb1
  clear hf ht hk hsf hst hsk haa hbb
  cases a with
  | true =>
    go_enter Try.func34, Try.ntmps34
    go_wp2_with (rw [← HW.out])
    refine (H1.out _).mono ?_
    rintro e w2 ⟨rfl, gb⟩
    have GB := Lib.hid gb; clear gb
    clear c0 c1 c2
    go_wp2_with fail
    go_ret
    exact ⟨rfl, below_then HB.out GB.out⟩
  | false =>
    cases cl with
    | false =>
      go_enter Try.func34, Try.ntmps34
      go_wp2_with (rw [← HW.out])
      refine (H1.out _).mono ?_
      rintro e w2 ⟨rfl, gb⟩
      clear c0 c1 c2
      obtain ⟨c0, c1, c2⟩ := K1.out w2 gb
      have GB := Lib.hid gb; clear gb
      go_wp2_with fail
      go_ret
      exact ⟨rfl, below_then HB.out GB.out⟩
    | true =>
      go_enter Try.func34, Try.ntmps34
      go_wp2_with (rw [← HW.out])
      refine (H1.out _).mono ?_
      rintro e w2 ⟨rfl, gb⟩
      clear c0 c1 c2
      obtain ⟨c0, c1, c2⟩ := K1.out w2 gb
      have GB := Lib.hid gb; clear gb
      go_wp2_with fail
      refine (H2.out _).mono ?_
      rintro e w3 ⟨rfl, gb3⟩
      have GB3 := Lib.hid gb3; clear gb3
      clear c0 c1 c2
      go_wp2_with fail
      go_ret
      exact ⟨rfl, below_then (below_then HB.out GB.out) GB3.out⟩
theorem refIns_any {w : World} {A : Option Addr} {M : List Pr} (ha : Rcs w A M) (c : Nat) (f t : List UInt8) (cl : Bool) (hlen : M.length ≤ 900) (hf : f.length ≤ 1000) (ht : t.length ≤ 1000) (hm : ∀ q ∈ M, q.1.length ≤ 1000) :
    Calls Try.prog 20 #[.slice A M.length c, .agg #[.string ⟨f.toArray⟩, .string ⟨t.toArray⟩, .bool cl], .bool true] w fun e w' => ∃ A' c' n, e = .returned (.slice A' n c') ∧ n = (ins M f t cl).length ∧ Rcs w' A' (ins M f t cl) ∧ Below w.heap.size w w' := by
  unfold ins
  obtain ⟨sf, hsf⟩ : ∃ s : ByteArray, s = ⟨f.toArray⟩ := ⟨_, rfl⟩
  obtain ⟨st, hst⟩ : ∃ s : ByteArray, s = ⟨t.toArray⟩ := ⟨_, rfl⟩
  rw [← hsf, ← hst]
  obtain ⟨w0, hw0, hb0, hk0⟩ := box_ref w (.string sf) (.string st) (.bool cl)
  have HA := Lib.hid (ha.below hb0); clear ha
  have HF := Lib.hid hsf; clear hsf
  have HT := Lib.hid hst; clear hst
  have K0 := Lib.hid hk0; clear hk0
  have HB0 := Lib.hid hb0; clear hb0
  have HW0 := Lib.hid hw0; clear hw0
  go_enter Try.func20, Try.ntmps20
  go_wp2_with (rw [← HW0.out])
  go_loopw [7, 12] (fun v u wr => ∃ (j : Nat) (N : List Pr), u = .int .i64 j ∧ j ≤ M.length ∧ N.length ≤ j ∧ Hid (N = (M.take j).filter (fun x : Pr => inS f t cl x.1)) ∧ Hid (Below w0.heap.size w0 wr) ∧ Hid (wr.ownsRow w0.heap.size 68 2 v N.length (scells N))) (fun _ u _ => M.length - (intOf u).toNat)
  case atStart => exact ⟨0, [], rfl, by omega, by simp, rfl, Below.refl _ _, World.ownsRow_nil _ _ _ _⟩
  case round =>
    obtain ⟨j, N, rfl, hj, hN, hNe, hbel, hown⟩ := hrel
    by_cases hlt : j < M.length
    · obtain ⟨bm, rfl, hbl, h1, h2⟩ := (HA.out.below hbel.out).at hlt
      have hcall := fun W => in_any (w := W) cl hf ht (hm _ (List.getElem_mem hlt))
      obtain ⟨x, hx⟩ : ∃ s : ByteArray, s = ⟨(M[j]).1.toArray⟩ := ⟨_, rfl⟩
      obtain ⟨y, hy⟩ : ∃ s : ByteArray, s = ⟨(M[j]).2.toArray⟩ := ⟨_, rfl⟩
      rw [← hx] at h1
      rw [← hy] at h2
      simp only [← hx, ← HF.out, ← HT.out] at hcall
      have hft := filter_take (fun x : Pr => inS f t cl x.1) hlt
      obtain ⟨d, hd⟩ : ∃ d, d = inS f t cl (M[j]).1 := ⟨_, rfl⟩
      simp only [← hd] at hcall hft
      obtain ⟨w1, hw1, b1, k1⟩ := box_strs wr (.string x) (.string y)
      obtain ⟨p0, p1⟩ := k1 w1 (Below.refl _ _)
      have HC := Lib.hid hcall; clear hcall
      have HO := Lib.hid (fun W (h : Below w1.heap.size w1 W) => And.intro (own_keep hown.out (below_then b1 h)) (below_then hbel.out (below_then b1 h)))
      have K1 := Lib.hid k1; clear k1
      obtain ⟨q0, q1, q2⟩ := K0.out w1 (below_then hbel.out b1)
      have HW := Lib.hid hw1; clear hw1
      have HX := Lib.hid hx; clear hx
      have HY := Lib.hid hy; clear hy
      have hnn : N.length ≤ 1000 := by omega
      clear HA hd b1 hown hbel
      cases d with
      | false =>
        have HI : Hid (N = (M.take (j + 1)).filter (fun x : Pr => inS f t cl x.1)) := by show _ = _; rw [hft, if_neg (by decide), List.append_nil]; exact hNe.out
        clear hft hNe
        go_wp2_with (rw [← HW.out])
        refine (HC.out _).mono ?_
        rintro e w2 ⟨rfl, hb2⟩
        have H2 := Lib.hid (HO.out w2 hb2); clear hb2
        clear p0 p1 HO K1 HC
        go_wp2_with fail
        go_roundw
        case rel => exact ⟨j + 1, N, by go_num, by omega, by omega, HI.out, H2.out.2, H2.out.1⟩
        case measure => simp [intOf]; omega
      | true =>
        have HI : Hid (N ++ [M[j]] = (M.take (j + 1)).filter (fun x : Pr => inS f t cl x.1)) := by show _ = _; rw [hft, if_pos (by decide), hNe.out]
        clear hft hNe
        go_wp2_with (rw [← HW.out])
        refine (HC.out _).mono ?_
        rintro e w2 ⟨rfl, hb2⟩
        have H2 := Lib.hid (HO.out w2 hb2)
        clear p0 p1
        obtain ⟨p0, p1⟩ := K1.out w2 hb2
        clear hb2 HO K1 HC
        go_wp2_with (at_builtin; refine list_app2 (B := w0.heap.size) (w := w2) 27 68 _ 32 Try.underlying27 Try.info68 rfl (by decide) rfl (.tmp 22) (.tmp 24) rfl _ (N).length (scells (N)) H2.out.1 (.string x) (.string y) rfl rfl rfl (rfl) (hnn) (H2.out.2.size) ?_; intro v1 w3 ho3 hg3)
        go_roundw
        case rel =>
          refine ⟨j + 1, N ++ [M[j]], by go_num, by omega, by simp; omega, HI.out, H2.out.2.grown hg3 H2.out.2.size (fun k hk => (H2.out.1.lt k hk).1), ?_⟩
          show World.ownsRow _ _ _ _ _ _ _
          rw [scells_snoc, List.length_append, ← HX.out, ← HY.out]; exact ho3
        case measure => simp [intOf]; omega
    · obtain rfl : j = M.length := by omega
      have HE : Hid (N = M.filter (fun x : Pr => inS f t cl x.1)) := by
        have h := hNe.out
        rw [List.take_length] at h
        exact h
      obtain ⟨A', c', e, hr⟩ := rcs_own hown.out
      subst e
      have HR := Lib.hid hr; clear hr
      clear hNe hown
      go_wp2_with fail
      go_ret
      exact ⟨A', c', _, rfl, by rw [← HE.out], by rw [← HE.out]; exact HR.out, below_then HB0.out hbel.out⟩
theorem ref_any {w : World} {A B : Option Addr} {f t : List UInt8} {x y : Nat} (fc tc : Nat) (cl : Bool) (hs : Spn w A B f t x y) :
    Calls Try.prog 21 #[.agg #[.slice A x fc, .slice B y tc, .bool cl]] w fun e w' => e = .returned (.agg #[.string ⟨f.toArray⟩, .string ⟨t.toArray⟩, .bool cl]) ∧ Below w.heap.size w w' := by
  obtain ⟨w1, hw1, hb1, hk1⟩ := box_span w (.slice A x fc) (.slice B y tc) (.bool cl)
  obtain ⟨w2, hw2, hb2, hk2⟩ := box_ref w1 (.string ⟨#[]⟩) (.string ⟨#[]⟩) (.bool false)
  obtain ⟨c0, c1, c2⟩ := hk1 w2 hb2
  obtain ⟨d0, d1, d2⟩ := hk2 w2 (Below.refl _ _)
  have r0 : w2.heap[w1.heap.size]? = some (.cells #[.string ⟨#[]⟩, .string ⟨#[]⟩, .bool false] 51 (0, 0)) := by rw [hw2]; exact heap_alloc_new w1 _
  have f0 : ∀ i, w2.frozen? ⟨w1.heap.size, i, none⟩ = false := fun i => by simp [World.frozen?, r0]
  have e1 := conv_any ((hs.frm.below hb1).below hb2) fc
  have e2 := conv_any ((hs.til.below hb1).below hb2) tc
  rw [← hs.fl] at e1
  rw [← hs.tl] at e2
  obtain ⟨sf, hsf⟩ : ∃ s : ByteArray, s = ⟨f.toArray⟩ := ⟨_, rfl⟩
  obtain ⟨st, hst⟩ : ∃ s : ByteArray, s = ⟨t.toArray⟩ := ⟨_, rfl⟩
  rw [← hsf] at e1 ⊢
  rw [← hst] at e2 ⊢
  have hle : w.heap.size ≤ w1.heap.size := hb1.size
  have HW1 := Lib.hid hw1; clear hw1
  have HW2 := Lib.hid hw2; clear hw2
  have HB := Lib.hid (below_then hb1 hb2); clear hb1 hb2
  have HR := Lib.hid r0; clear r0
  have HLE := Lib.hid hle; clear hle
  clear hs hk1 hk2 hsf hst
  go_enter Try.func21, Try.ntmps21
  go_wp2_with (first | rw [← HW1.out] | rw [← HW2.out] | fail)
  have r1 := heap_setCell_same w2 w1.heap.size 0 _ 51 (.string sf) HR.out
  have r2 := heap_setCell_same _ w1.heap.size 1 _ 51 (.string st) r1
  have r3 := heap_setCell_same _ w1.heap.size 2 _ 51 (.bool cl) r2
  refine bodyPost_ret (results_cell_row rfl _ _ w1.heap.size 51 _ (0, 0) _ rfl r3 Try.underlying51 rfl (by kernel_rfl)) rfl ?_
  exact ⟨rfl, ((HB.out.setCell HLE.out _).setCell HLE.out _).setCell HLE.out _⟩
theorem rank_take {M : List Pr} {j : Nat} {k : List UInt8} (h : j < M.length) : rank (M.take (j + 1)) k = rank (M.take j) k + if cmp (M[j]).1 k < 0 then 1 else 0 := by
  rw [List.take_succ_eq_append_getElem h]
  simp only [rank, List.countP_append, List.countP_cons, List.countP_nil, decide_eq_true_eq, Nat.zero_add]
theorem refRank_any {w : World} {A : Option Addr} {M : List Pr} (ha : Rcs w A M) (c : Nat) (k : List UInt8) (hlen : M.length ≤ 1000) (hk : k.length ≤ 1000) (hm : ∀ q ∈ M, q.1.length ≤ 1000) :
    Calls Try.prog 16 #[.slice A M.length c, .string ⟨k.toArray⟩] w fun e w' => e = .returned (.int .i64 (rank M k : Int)) ∧ Below w.heap.size w w' := by
  have HA := Lib.hid ha; clear ha
  have HM := Lib.hid hm; clear hm
  obtain ⟨kk, hkk⟩ : ∃ s : ByteArray, s = ⟨k.toArray⟩ := ⟨_, rfl⟩
  rw [← hkk]
  have HK := Lib.hid hkk; clear hkk
  go_enter Try.func16, Try.ntmps16
  go_wp2
  go_loopw [5, 10] (fun v i wr => ∃ j r : Nat, i = .int .i64 j ∧ v = .int .i64 r ∧ j ≤ M.length ∧ r ≤ j ∧ Hid (Below w.heap.size w wr) ∧ Hid (r = rank (M.take j) k)) (fun _ i _ => M.length - (intOf i).toNat)
  case atStart => exact ⟨0, 0, rfl, rfl, by omega, by omega, Below.refl _ _, by simp [Hid, rank]⟩
  case round =>
    obtain ⟨j, r, rfl, rfl, hj, hr, hbel, hrk⟩ := hrel
    by_cases hlt : j < M.length
    · obtain ⟨b', rfl, hbl', k1, k2⟩ := (HA.out.below hbel.out).at hlt
      have hqm := HM.out _ (List.getElem_mem hlt)
      obtain ⟨s, hs⟩ : ∃ s : ByteArray, s = ⟨(M[j]).1.toArray⟩ := ⟨_, rfl⟩
      obtain ⟨t, ht⟩ : ∃ s : ByteArray, s = ⟨(M[j]).2.toArray⟩ := ⟨_, rfl⟩
      rw [← hs] at k1
      rw [← ht] at k2
      have hless := less_any s kk (wr.alloc (.cells #[.string s, .string t] 68)) (by rw [hs, bs_size]; exact hqm) (by rw [HK.out, bs_size]; exact hk)
      rw [show cmp s.data.toList kk.data.toList = cmp (M[j]).1 k by rw [hs, HK.out]] at hless
      have hrt := rank_take (k := k) hlt
      clear HA hs ht hqm
      by_cases hc : cmp (M[j]).1 k < 0
      · rw [decide_eq_true hc] at hless
        rw [if_pos hc] at hrt
        have HR := Lib.hid hrt; clear hrt
        have HL := Lib.hid hless; clear hless hc
        go_wp2_with fail
        refine HL.out.mono ?_
        rintro e w' ⟨rfl, hb⟩
        have HB := Lib.hid (below_then ((Below.refl wr.heap.size wr).alloc (Nat.le_refl _) _) hb); clear hb
        go_wp2_with fail
        go_roundw
        case rel => exact ⟨j + 1, r + 1, by go_num, by go_num, by omega, by omega, below_then hbel.out HB.out, by show _ = _; rw [HR.out, ← hrk.out]⟩
        case measure => simp [intOf]; omega
      · rw [decide_eq_false hc] at hless
        rw [if_neg hc] at hrt
        have HR := Lib.hid hrt; clear hrt
        have HL := Lib.hid hless; clear hless hc
        go_wp2_with fail
        refine HL.out.mono ?_
        rintro e w' ⟨rfl, hb⟩
        have HB := Lib.hid (below_then ((Below.refl wr.heap.size wr).alloc (Nat.le_refl _) _) hb); clear hb
        go_wp2_with fail
        go_roundw
        case rel => exact ⟨j + 1, r, by go_num, rfl, by omega, by omega, below_then hbel.out HB.out, by show _ = _; rw [HR.out, ← hrk.out]; rfl⟩
        case measure => simp [intOf]; omega
    · obtain rfl : j = M.length := by omega
      have HE : Hid (r = rank M k) := by
        have h := hrk.out
        rw [List.take_length] at h
        exact h
      go_wp2_with fail
      go_ret
      exact ⟨ret_int (by rw [HE.out]), hbel.out⟩
theorem refAt_any {w : World} {A ka va : Option Addr} {M : List Pr} {z : Int} {o : Option Pr} (c kc vc : Nat) (ha : Rcs w A M) (ho : o = nth M z) (hk : Bts w ka (od o).1) (hv : Bts w va (od o).2) (z1 : -9223372036854775808 ≤ z) (z2 : z < 9223372036854775808) :
    Calls Try.prog 13 #[.agg #[.slice ka (od o).1.length kc, .slice va (od o).2.length vc], .bool o.isSome, .slice A M.length c, .int .i64 z] w fun e w' => e = .returned (.bool true) ∧ Below w.heap.size w w' := by
  have hb : ∀ x y, Below w.heap.size w (w.alloc (.cells #[x, y] 37)) := fun x y => (Below.refl _ _).alloc (Nat.le_refl _) _
  by_cases hin : 0 ≤ z ∧ z < (M.length : Int)
  · obtain ⟨i, rfl⟩ : ∃ i : Nat, z = (i : Int) := ⟨z.toNat, by omega⟩
    have hi : i < M.length := by omega
    rw [nth_at hi] at ho
    subst ho
    rw [show od (some M[i]) = M[i] from rfl] at hk hv ⊢
    rw [show (some M[i]).isSome = true from rfl]
    obtain ⟨b', rfl, hbl', k1, k2⟩ := (ha.below (hb (.slice ka (M[i]).1.length kc) (.slice va (M[i]).2.length vc))).at hi
    have v1 : ∀ q, _ := fun q => conv_any ((hk.below (hb (.slice ka (M[i]).1.length kc) (.slice va (M[i]).2.length vc))).below (below_drewN (Below.refl _ _) q)) kc
    have v2 : ∀ q, _ := fun q => conv_any ((hv.below (hb (.slice ka (M[i]).1.length kc) (.slice va (M[i]).2.length vc))).below (below_drewN (Below.refl _ _) q)) vc
    obtain ⟨w1, hw1⟩ : ∃ w1, w1 = w.alloc (.cells #[.slice ka (M[i]).1.length kc, .slice va (M[i]).2.length vc] 37) := ⟨_, rfl⟩
    have r0 : w1.heap[w.heap.size]? = some (.cells #[.slice ka (M[i]).1.length kc, .slice va (M[i]).2.length vc] 37 (0, 0)) := by rw [hw1]; exact heap_alloc_new w _
    obtain ⟨d0, d1, _, _⟩ := row2 r0
    have hbb := hb (.slice ka (M[i]).1.length kc) (.slice va (M[i]).2.length vc)
    simp only [← hw1] at k1 k2 v1 v2 hbl' hbb
    obtain ⟨x1, hx1⟩ : ∃ x : Nat, x = (M[i]).1.length := ⟨_, rfl⟩
    obtain ⟨x2, hx2⟩ : ∃ x : Nat, x = (M[i]).2.length := ⟨_, rfl⟩
    obtain ⟨s, hs⟩ : ∃ s : ByteArray, s = ⟨(M[i]).1.toArray⟩ := ⟨_, rfl⟩
    obtain ⟨t, ht⟩ : ∃ s : ByteArray, s = ⟨(M[i]).2.toArray⟩ := ⟨_, rfl⟩
    simp only [← hx1, ← hx2, ← hs, ← ht] at k1 k2 v1 v2 d0 d1 hw1 ⊢
    have HW := Lib.hid hw1; clear hw1
    have HB := Lib.hid hbb; clear hbb
    have t1 : decide ((i : Int) < 0) = false := decide_eq_false (by omega)
    have t2 : decide ((M.length : Int) ≤ (i : Int)) = false := decide_eq_false (by omega)
    have t3 : decide (M.length ≤ i) = false := decide_eq_false (by omega)
    clear hb ha hk hv hx1 hx2 hs ht r0 hin z1 z2
    go_enter Try.func13, Try.ntmps13
    go_wp2_with (rw [← HW.out])
    go_quiet (fail)
    go_wp2_with fail
    go_ret
    exact ⟨rfl, below_drewN HB.out _⟩
  · have e : nth M z = none := by
      rcases Int.lt_or_le z 0 with g | g
      · exact nth_neg _ g
      · exact nth_out (by omega)
    rw [e] at ho
    subst ho
    have hbb := hb (.slice ka 0 kc) (.slice va 0 vc)
    obtain ⟨w1, hw1⟩ : ∃ w1, w1 = w.alloc (.cells #[.slice ka 0 kc, .slice va 0 vc] 37) := ⟨_, rfl⟩
    have r0 : w1.heap[w.heap.size]? = some (.cells #[.slice ka 0 kc, .slice va 0 vc] 37 (0, 0)) := by rw [hw1]; exact heap_alloc_new w _
    obtain ⟨d0, d1, _, _⟩ := row2 r0
    rw [← hw1] at hbb
    rw [show (od none).1.length = 0 from rfl, show (od none).2.length = 0 from rfl, show (none : Option Pr).isSome = false from rfl]
    have HW := Lib.hid hw1; clear hw1
    have HB := Lib.hid hbb; clear hbb
    clear hb ha hk hv r0 e
    by_cases g : z < 0
    · have t1 : decide (z < 0) = true := decide_eq_true g
      go_enter Try.func13, Try.ntmps13
      go_wp2_with (rw [← HW.out])
      go_ret
      exact ⟨rfl, HB.out⟩
    · have t1 : decide (z < 0) = false := decide_eq_false g
      have t2 : decide ((M.length : Int) ≤ z) = true := decide_eq_true (by omega)
      go_enter Try.func13, Try.ntmps13
      go_wp2_with (rw [← HW.out])
      go_ret
      exact ⟨rfl, HB.out⟩
theorem made_any {w : World} {A0 : Option Addr} {L0 : List Opn} (c0 : Nat) (ha0 : Ocs w A0 L0) (hlen : L0.length ≤ 80) (htiny : tinyO L0 = true) :
    Calls Try.prog 9 #[.slice A0 L0.length c0] w fun e w' => ∃ p A c t, e = .returned (.tuple #[.pointer p, .slice A (plays L0).length c]) ∧ At w (plays L0) p A w' t := by
  have HTY := Lib.hid (tinyO_all htiny)
  have HA := Lib.hid ha0; clear ha0
  have HAL := Lib.hid (plays_all hlen htiny)
  clear htiny
  go_enter Try.func9, Try.ntmps9
  go_wp2_with fail
  go_loopw [4, 5, 10] (fun x y u wr => ∃ (j n c : Nat) (p A : Option Addr), u = .int .i64 j ∧ x = .pointer p ∧ y = .slice A n c ∧ j ≤ L0.length ∧ Hid (n = (plays (L0.take j)).length) ∧ Hid (∃ t, At w (plays (L0.take j)) p A wr t)) (fun _ _ u _ => L0.length - (intOf u).toNat)
  case atStart => exact ⟨0, 0, 0, none, none, rfl, rfl, rfl, by omega, rfl, .nil, rfl, trivial, rfl, .inl rfl, Below.refl _ _⟩
  case round =>
    obtain ⟨j, n, c, p, A, rfl, rfl, rfl, hj, hn, t, hat⟩ := hrel
    by_cases hlt : j < L0.length
    · obtain ⟨b, off, ka, kc, va, vc, rfl, hbl, h0, h1, h2, h3, h4⟩ := (HA.out.below hat.bel).at hlt
      obtain ⟨a1, a2, a3⟩ := HAL.out j
      have hst := fun W (hW : Below wr.heap.size wr W) => step_any (m := none) (v := 0) (c := 0) c kc vc (fun _ _ => trivial) (hat.tre.below hW) (hat.rcs.below hW) (.inl rfl) (h3.below hW) (h4.below hW) hat.ev a1 (by omega) a2 (HTY.out _ (List.getElem_mem hlt)) (by omega) (by omega) hat.list
      simp only [← plays_step hlt, ← hn.out] at hst
      obtain ⟨M', hM'⟩ : ∃ M', M' = plays (L0.take (j + 1)) := ⟨_, rfl⟩
      obtain ⟨z, hz⟩ : ∃ z : Int, z = (L0[j]).1 := ⟨_, rfl⟩
      obtain ⟨x1, hx1⟩ : ∃ x : Nat, x = (L0[j]).2.1.length := ⟨_, rfl⟩
      obtain ⟨x2, hx2⟩ : ∃ x : Nat, x = (L0[j]).2.2.length := ⟨_, rfl⟩
      obtain ⟨n', hn'⟩ : ∃ n', n' = M'.length := ⟨_, rfl⟩
      simp only [← hM', ← hn'] at hst
      rw [← hz] at h0
      rw [← hx1] at h1
      rw [← hx2] at h2
      simp only [← hz, ← hx1, ← hx2] at hst
      have HST := Lib.hid (hst _ (box3 wr (.int .i64 z) (.slice ka x1 kc) (.slice va x2 vc)))
      have HBEL := Lib.hid (below_then hat.bel (box3 wr (.int .i64 z) (.slice ka x1 kc) (.slice va x2 vc)))
      have HM := Lib.hid hM'; clear hM'
      have HN' := Lib.hid hn'; clear hn'
      clear hst h3 h4 hat hz hx1 hx2 a1 a2 a3 HA hn
      go_wp2_with fail
      refine HST.out.mono ?_
      rintro e w2 ⟨p', t', A', c', v', k', rfl, g1, g2, g3, g4, _, _, g7⟩
      have hb2 := below_then HBEL.out g7.nil
      have HAT : Hid (At w M' p' A' w2 t') := ⟨g1, g2, g3, g4, hb2⟩
      clear HST g1 g2 g3 g4 g7 h0 h1 h2 HBEL hb2
      go_wp2_with fail
      go_roundw
      case rel =>
        have hq := HAT.out
        exact ⟨j + 1, n', c', p', A', by go_num, rfl, rfl, by omega, by show _ = _; rw [HN'.out, HM.out], t', by rw [← HM.out]; exact hq⟩
      case measure => simp [intOf]; omega
    · obtain rfl : j = L0.length := by omega
      have e : plays (L0.take L0.length) = plays L0 := by rw [List.take_length]
      have h1 := hn.out
      rw [e] at h1 hat
      have HAT := Lib.hid hat; clear hat
      have H1 := Lib.hid h1; clear h1
      clear hn e
      go_wp2_with fail
      go_ret2
      exact ⟨p, A, c, t, by rw [H1.out]; rfl, HAT.out⟩
theorem refHeld_any (z : Int) (n : Nat) (w : World) : Calls Try.prog 11 #[.int .i64 z, .int .i64 (n : Int)] w fun e w' => e = .returned (.int .i64 (hold z n : Int)) ∧ w = w' := by
  obtain ⟨q1, q2, q3⟩ := hold_of z n
  by_cases a : z < 0
  · rw [q1 (by omega)]
    clear q1 q2 q3
    have d : decide (z < 0) = true := decide_eq_true a
    go_enter Try.func11, Try.ntmps11
    go_wp2
    go_ret
    exact ⟨rfl, rfl⟩
  · by_cases b : (n : Int) < z
    · rw [q2 (by omega)]
      clear q1 q2 q3
      have d : decide (z < 0) = false := decide_eq_false a
      have f : decide ((n : Int) < z) = true := decide_eq_true b
      go_enter Try.func11, Try.ntmps11
      go_wp2
      go_ret
      exact ⟨rfl, rfl⟩
    · rw [q3 (by omega) (by omega)]
      clear q1 q2 q3
      have d : decide (z < 0) = false := decide_eq_false a
      have f : decide ((n : Int) < z) = false := decide_eq_false b
      go_enter Try.func11, Try.ntmps11
      go_wp2
      go_ret
      exact ⟨rfl, rfl⟩
end Go.Proofs.Ytkcfanckkomdbaa
