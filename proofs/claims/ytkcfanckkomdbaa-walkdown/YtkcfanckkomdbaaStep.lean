/-
  The contract of Step: a call of a tree and of its model.
-/
import Derived.Test.YtkcfanckkomdbaaSound
import Derived.Test.YtkcfanckkomdbaaModel
namespace Go.Proofs.Ytkcfanckkomdbaa
open Go.RowKit
set_option maxHeartbeats 4000000
set_option maxRecDepth 100000
theorem results_three {P : Program} {fn : Func} {p u v : Tmp} (h : fn.results = #[.tmp p, .tmp u, .tmp v]) (tmps : Array Value) (w : World) (x y z : Value) (hx : tmps.getD p undef = x) (hy : tmps.getD u undef = y) (hz : tmps.getD v undef = z) :
    (results fn tmps).run P w = .ok (.tuple #[x, y, z]) w := by
  have hx' : tmps[p]?.getD undef = x := by simpa using hx
  have hy' : tmps[u]?.getD undef = y := by simpa using hy
  have hz' : tmps[v]?.getD undef = z := by simpa using hz
  simp [results, h, hx', hy', hz']
theorem row3 {w : World} {g : Nat} {a b c : Value} {t : TypeId} (h : w.heap[g]? = some (.cells #[a, b, c] t (0, 0))) : w.cell? ⟨g, 0, none⟩ = some a ∧ w.cell? ⟨g, 1, none⟩ = some b ∧ w.cell? ⟨g, 2, none⟩ = some c := by
  refine ⟨?_, ?_, ?_⟩
  · rw [cell_of_row w g _ _ t (0, 0) h]; rfl
  · rw [cell_of_row w g _ _ t (0, 0) h]; rfl
  · rw [cell_of_row w g _ _ t (0, 0) h]; rfl
theorem row3_only {m : Option Addr} {w w' : World} {v c g : Nat} {a : Value} {ka va : Option Addr} {x kc y vc : Nat} {t : TypeId} (h : w.heap[g]? = some (.cells #[a, .slice ka x kc, .slice va y vc] t (0, 0))) (hm : Met w m v c) (ho : Only m w w') : w'.heap[g]? = some (.cells #[a, .slice ka x kc, .slice va y vc] t (0, 0)) :=
  (ho.cell hm (row3 h).2.1 (by intro z e; cases e) (Array.getElem?_eq_some_iff.1 h).1).trans h
theorem Rcs.only {m : Option Addr} {w w' : World} {v c : Nat} {A : Option Addr} {L : List Pr} (h : Rcs w A L) (hm : Met w m v c) (ho : Only m w w') : Rcs w' A L := by
  rcases h with h | ⟨b, rfl, hlt, hc⟩
  · exact .inl h
  · by_cases hl : L = []
    · exact .inl hl
    · have e := ho.cell hm (hc 0 (List.length_pos_iff.2 hl)).1 (by intro z e; cases e) hlt
      exact .inr ⟨b, rfl, lt_kept e hlt, fun i hi => ⟨(cell_kept e).trans (hc i hi).1, (cell_kept e).trans (hc i hi).2⟩⟩
/-- what a map comes to by a call -/
def play (M : List Pr) (o : Opn) : List Pr := if o.1 = 1 then put M o.2 else if o.1 = 2 then out M o.2.1 else M
theorem srt_play {M : List Pr} (o : Opn) (h : srt M) : srt (play M o) := by
  unfold play
  split
  · exact srt_put _ _ h
  · split
    · exact srt_out _ h
    · exact h
theorem play_length (M : List Pr) (o : Opn) : (play M o).length ≤ M.length + 1 := by
  unfold play
  split
  · exact put_length _ _
  · split
    · exact Nat.le_trans (out_length _ _) (by omega)
    · omega
theorem fits_play {M : List Pr} {o : Opn} (h : ∀ x ∈ M, x.1.length ≤ 100 ∧ x.2.length ≤ 100) (ho : o.2.1.length ≤ 100 ∧ o.2.2.length ≤ 100) : ∀ x ∈ play M o, x.1.length ≤ 100 ∧ x.2.length ≤ 100 := by
  unfold play
  split
  · exact put_mem h ho
  · split
    · exact out_mem h
    · exact h
/-- the start of Step: the call's box, its key as a string, what the model has -/
structure Begun (F : Nat → Prop) (m XA : Option Addr) (t : Tr) (p : Option Addr) (M : List Pr) (o : Opn) (ka va : Option Addr) (kc vc v c : Nat) (g : Nat) (w W : World) : Prop where
  row : W.heap[g]? = some (.cells #[.int .i64 o.1, .slice ka o.2.1.length kc, .slice va o.2.2.length vc] 59 (0, 0))
  tre : Tre F W t p
  rcs : Rcs W XA M
  met : Met W m v c
  key : Bts W ka o.2.1
  vals : Bts W va o.2.2
  fut : Fut F W
  only : Only m w W
theorem Begun.next {F : Nat → Prop} {m XA : Option Addr} {t : Tr} {p : Option Addr} {M : List Pr} {o : Opn} {ka va : Option Addr} {kc vc v c g : Nat} {w W W' : World} (h : Begun F m XA t p M o ka va kc vc v c g w W) (hb : Below W.heap.size W W') : Begun F m XA t p M o ka va kc vc v c g w W' :=
  ⟨(hb.block g (Array.getElem?_eq_some_iff.1 h.row).1).trans h.row, h.tre.below hb, h.rcs.below hb, h.met.below hb, h.key.below hb, h.vals.below hb, h.fut.later hb.size, h.only.trans (Only.of hb)⟩
theorem Begun.other {F : Nat → Prop} {m XA : Option Addr} {t t' : Tr} {p p' : Option Addr} {M : List Pr} {o : Opn} {ka va : Option Addr} {kc vc v c v' c' g : Nat} {w W W' : World} (h : Begun F m XA t p M o ka va kc vc v c g w W) (ho : Only m W W') (ht : Tre F W' t' p') (hm : Met W' m v' c') : Begun F m XA t' p' M o ka va kc vc v' c' g w W' :=
  ⟨row3_only h.row h.met ho, ht, h.rcs.only h.met ho, hm, h.key.only h.met ho, h.vals.only h.met ho, h.fut.later ho.size, h.only.trans ho⟩
theorem begun_new {F : Nat → Prop} {m XA : Option Addr} {t : Tr} {p : Option Addr} {M : List Pr} {o : Opn} {ka va : Option Addr} {kc vc v c : Nat} {w : World} (hF : Fut F w) (ht : Tre F w t p) (hx : Rcs w XA M) (hm : Met w m v c) (hk : Bts w ka o.2.1) (hv : Bts w va o.2.2) :
    Begun F m XA t p M o ka va kc vc v c w.heap.size w (w.alloc (.cells #[.int .i64 o.1, .slice ka o.2.1.length kc, .slice va o.2.2.length vc] 59)) := by
  have hb : Below w.heap.size w (w.alloc (.cells #[.int .i64 o.1, .slice ka o.2.1.length kc, .slice va o.2.2.length vc] 59)) := (Below.refl _ _).alloc (Nat.le_refl _) _
  exact ⟨heap_alloc_new w _, ht.below hb, hx.below hb, hm.below hb, hk.below hb, hv.below hb, hF.later hb.size, Only.of hb⟩
theorem step_put {F : Nat → Prop} {w : World} {t : Tr} {p m XA ka va : Option Addr} {M : List Pr} {o : Opn} {v c : Nat} (xc kc vc : Nat) (hF : Fut F w) (ht : Tre F w t p) (hx : Rcs w XA M) (hm : Met w m v c) (hk : Bts w ka o.2.1) (hv : Bts w va o.2.2) (he : t.even) (hs : srt t.list) (hn : t.size ≤ 400) (hM : M.length ≤ 400) (hMf : ∀ x ∈ M, x.1.length ≤ 100 ∧ x.2.length ≤ 100) (ho : o.2.1.length ≤ 100 ∧ o.2.2.length ≤ 100) (hv1 : v ≤ 1000) (hc1 : c ≤ 1000) (hh : t.high ≤ 1000) (hkind : o.1 = 1) :
    Calls Try.prog 25 #[.pointer p, .slice XA M.length xc, .agg #[.int .i64 o.1, .slice ka o.2.1.length kc, .slice va o.2.2.length vc], .pointer m] w fun e w' => ∃ p' t' A' c' v' k', e = .returned (.tuple #[.pointer p', .slice A' (put M o.2).length c', .bool (decide (t'.size = (put M o.2).length))]) ∧ Tre F w' t' p' ∧ t'.even ∧ t'.list = put t.list o.2 ∧ Rcs w' A' (put M o.2) ∧ Met w' m v' k' ∧ Count t v c v' k' ∧ Only m w w' := by
  have hbg := begun_new (kc := kc) (vc := vc) hF ht hx hm hk hv
  obtain ⟨w1, hw1⟩ : ∃ w1, w1 = w.alloc (.cells #[.int .i64 o.1, .slice ka o.2.1.length kc, .slice va o.2.2.length vc] 59) := ⟨_, rfl⟩
  rw [← hw1] at hbg
  have hcv := conv_any hbg.key kc
  have hgt := refVal_any hbg.rcs xc o.2.1 (by omega)
  obtain ⟨b0, b1, b2⟩ := row3 hbg.row
  obtain ⟨x1, hx1⟩ : ∃ k, k = o.2.1.length := ⟨_, rfl⟩
  obtain ⟨x2, hx2⟩ : ∃ k, k = o.2.2.length := ⟨_, rfl⟩
  obtain ⟨ks, hks⟩ : ∃ s : ByteArray, s = ⟨o.2.1.toArray⟩ := ⟨_, rfl⟩
  obtain ⟨wv, hwv⟩ : ∃ s : ByteArray, s = ⟨(val M o.2.1).toArray⟩ := ⟨_, rfl⟩
  obtain ⟨is, his⟩ : ∃ b, b = has M o.2.1 := ⟨_, rfl⟩
  have hput := fun W (h : Begun F m XA t p M o ka va kc vc v c w.heap.size w W) => put_any kc vc h.fut h.tre h.met h.key h.vals (by omega) he hs (by omega) (by omega) (by omega)
  have hrp := fun W t' p' v' c' (h : Begun F m XA t' p' M o ka va kc vc v' c' w.heap.size w W) => refPut_any o.2 h.rcs xc (by omega) (by omega) (fun q hq => by have := (hMf q hq).1; omega)
  have hcv2 := fun W t' p' v' c' (h : Begun F m XA t' p' M o ka va kc vc v' c' w.heap.size w W) => conv_any h.vals vc
  have hrow := fun W t' p' v' c' (h : Begun F m XA t' p' M o ka va kc vc v' c' w.heap.size w W) => row3 h.row
  obtain ⟨vs, hvs⟩ : ∃ s : ByteArray, s = ⟨o.2.2.toArray⟩ := ⟨_, rfl⟩
  obtain ⟨ml, hml⟩ : ∃ k, k = M.length := ⟨_, rfl⟩
  obtain ⟨pq, hpq⟩ : ∃ k, k = put M o.2 := ⟨_, rfl⟩
  simp only [hkind, ← hx1, ← hx2, ← hks, ← hwv, ← his, ← hvs, ← hml, ← hpq] at hcv hgt b0 b1 b2 hput hrp hcv2 hrow hw1 ⊢
  have HBG := Lib.hid hbg; clear hbg
  have HGT := Lib.hid hgt; clear hgt
  have HPUT := Lib.hid hput; clear hput
  have HRP := Lib.hid hrp; clear hrp
  have HCV := Lib.hid hcv2; clear hcv2
  have HROW := Lib.hid hrow; clear hrow
  have HW := Lib.hid hw1; clear hw1
  have HPL := Lib.hid (show pq.length ≤ 401 by rw [hpq]; have := put_length M o.2; omega)
  have HTL := Lib.hid (show (put t.list o.2).length ≤ 401 by have := put_length t.list o.2; rw [Tr.length] at this; omega)
  have HSP := Lib.hid (srt_put o.2 _ hs)
  clear hx1 hx2 hks hwv his hvs hml hpq hkind hF ht hx hm hk hv he hs hn hM hMf ho hv1 hc1 hh
  go_enter Try.func25, Try.ntmps25
  go_wp2_with (rw [← HW.out])
  refine HGT.out.mono ?_
  rintro e w2 ⟨rfl, hb2⟩
  have hbg2 := HBG.out.next hb2
  obtain ⟨d0, d1, d2⟩ := HROW.out _ _ _ _ _ hbg2
  have HP2 := Lib.hid (HPUT.out _ hbg2)
  have HBG2 := Lib.hid hbg2; clear hbg2
  clear b0 b1 b2 hb2 HGT HPUT HBG hcv
  go_wp2_with fail
  refine HP2.out.mono ?_
  rintro e w3 ⟨p', t', v', k', rfl, h1, h2, h3, h4, h5, h6⟩
  have hbg3 := HBG2.out.other h6 h1 h4
  obtain ⟨c0, c1, c2⟩ := HROW.out _ _ _ _ _ hbg3
  have cv := HCV.out _ _ _ _ _ hbg3
  have HR3 := Lib.hid (HRP.out _ _ _ _ _ hbg3)
  have HBG3 := Lib.hid hbg3; clear hbg3
  have H3 := Lib.hid h3; clear h3
  have H5 := Lib.hid h5; clear h5
  have H2 := Lib.hid h2; clear h2
  clear d0 d1 d2 HP2 h1 h4 h6 HBG2 HROW HCV HRP
  go_wp2_with fail
  refine HR3.out.mono ?_
  rintro e w4 ⟨A', c', rfl, hA, hb4⟩
  have hbg4 := HBG3.out.next hb4
  have hts : t'.size ≤ 401 := by rw [← Tr.length, H3.out]; exact HTL.out
  have S1 := Lib.hid (size_any hbg4.tre (by omega))
  have S2 := Lib.hid (sound_any hbg4.tre (by omega) H2.out (by rw [H3.out]; exact HSP.out))
  have HA4 := Lib.hid hA; clear hA
  have HBG4 := Lib.hid hbg4; clear hbg4
  obtain ⟨ts, hts1⟩ : ∃ k, k = t'.size := ⟨_, rfl⟩
  obtain ⟨pl, hpl1⟩ : ∃ k, k = pq.length := ⟨_, rfl⟩
  rw [← hts1] at S1
  rw [← hpl1]
  have HTS := Lib.hid hts1; clear hts1
  have HPS := Lib.hid hpl1; clear hpl1
  clear c0 c1 c2 cv HR3 hb4 HBG3 hts
  by_cases heq : ts = pl
  · subst heq
    go_wp2_with fail
    refine S1.out.mono ?_
    rintro e w' ⟨rfl, rfl⟩
    go_wp2_with fail
    refine S2.out.mono ?_
    rintro e w5 ⟨rfl, hb5⟩
    have HB5 := Lib.hid hb5; clear hb5
    go_wp2_with fail
    refine bodyPost_ret (results_three rfl _ _ _ _ _ rfl rfl rfl) rfl ?_
    have hbg5 := HBG4.out.next HB5.out
    exact ⟨p', t', A', c', v', k', by rw [← HTS.out, ← HPS.out]; simp, hbg5.tre, H2.out, H3.out, HA4.out.below HB5.out, hbg5.met, H5.out, hbg5.only⟩
  · have d1 : ((ts : Int) == (pl : Int)) = false := by simpa using (show ¬ (ts : Int) = pl by omega)
    go_wp2_with fail
    refine S1.out.mono ?_
    rintro e w' ⟨rfl, rfl⟩
    go_wp2_with fail
    refine bodyPost_ret (results_three rfl _ _ _ _ _ rfl rfl rfl) rfl ?_
    exact ⟨p', t', A', c', v', k', by rw [← HTS.out, ← HPS.out, decide_eq_false heq]; rfl, HBG4.out.tre, H2.out, H3.out, HA4.out, HBG4.out.met, H5.out, HBG4.out.only⟩
theorem step_del {F : Nat → Prop} {w : World} {t : Tr} {p m XA ka va : Option Addr} {M : List Pr} {o : Opn} {v c : Nat} (xc kc vc : Nat) (hF : Fut F w) (ht : Tre F w t p) (hx : Rcs w XA M) (hm : Met w m v c) (hk : Bts w ka o.2.1) (hv : Bts w va o.2.2) (he : t.even) (hs : srt t.list) (hn : t.size ≤ 400) (hM : M.length ≤ 400) (hv1 : v ≤ 1000) (hc1 : c ≤ 1000) (hh : t.high ≤ 1000) (hkind : o.1 = 2) (hMt : t.list = M) :
    Calls Try.prog 25 #[.pointer p, .slice XA M.length xc, .agg #[.int .i64 o.1, .slice ka o.2.1.length kc, .slice va o.2.2.length vc], .pointer m] w fun e w' => ∃ p' t' A' c' v' k', e = .returned (.tuple #[.pointer p', .slice A' (out M o.2.1).length c', .bool true]) ∧ Tre F w' t' p' ∧ t'.even ∧ t'.list = out M o.2.1 ∧ Rcs w' A' (out M o.2.1) ∧ Met w' m v' k' ∧ Count t v c v' k' ∧ Only m w w' := by
  have hbg := begun_new (kc := kc) (vc := vc) hF ht hx hm hk hv
  obtain ⟨w1, hw1⟩ : ∃ w1, w1 = w.alloc (.cells #[.int .i64 o.1, .slice ka o.2.1.length kc, .slice va o.2.2.length vc] 59) := ⟨_, rfl⟩
  rw [← hw1] at hbg
  have hcv := conv_any hbg.key kc
  have hgt := refVal_any hbg.rcs xc o.2.1 (by omega)
  obtain ⟨b0, b1, b2⟩ := row3 hbg.row
  have hrow := fun W t' p' v' c' (h : Begun F m XA t' p' M o ka va kc vc v' c' w.heap.size w W) => row3 h.row
  obtain ⟨x1, hx1⟩ : ∃ k, k = o.2.1.length := ⟨_, rfl⟩
  obtain ⟨x2, hx2⟩ : ∃ k, k = o.2.2.length := ⟨_, rfl⟩
  obtain ⟨ks, hks⟩ : ∃ s : ByteArray, s = ⟨o.2.1.toArray⟩ := ⟨_, rfl⟩
  obtain ⟨wv, hwv⟩ : ∃ s : ByteArray, s = ⟨(val M o.2.1).toArray⟩ := ⟨_, rfl⟩
  obtain ⟨is, his⟩ : ∃ b, b = has M o.2.1 := ⟨_, rfl⟩
  obtain ⟨ml, hml⟩ : ∃ k, k = M.length := ⟨_, rfl⟩
  have hdel := fun W (h : Begun F m XA t p M o ka va kc vc v c w.heap.size w W) => deleteAt F t W p m ka o.2.1 kc v c h.fut h.tre h.met h.key he hs (by omega) (by omega) (by omega)
  have hwo := fun W t' p' v' c' (h : Begun F m XA t' p' M o ka va kc vc v' c' w.heap.size w W) => without_any h.rcs xc o.2.1 (by omega)
  obtain ⟨pq, hpq⟩ : ∃ k, k = out M o.2.1 := ⟨_, rfl⟩
  simp only [hMt, hkind, ← hx1, ← hx2, ← hks, ← hwv, ← his, ← hml, ← hpq] at hcv hgt b0 b1 b2 hdel hwo hrow hw1 ⊢
  have HBG := Lib.hid hbg; clear hbg
  have HGT := Lib.hid hgt; clear hgt
  have HDEL := Lib.hid hdel; clear hdel
  have HWO := Lib.hid hwo; clear hwo
  have HROW := Lib.hid hrow; clear hrow
  have HW := Lib.hid hw1; clear hw1
  have HPL := Lib.hid (show pq.length ≤ 401 by rw [hpq]; have := out_length M o.2.1; omega)
  have HSP := Lib.hid (show srt pq by rw [hpq, ← hMt]; exact srt_out o.2.1 hs)
  clear hx1 hx2 hks hwv his hml hpq hkind hF ht hx hm hk hv he hs hn hM hv1 hc1 hh hMt
  go_enter Try.func25, Try.ntmps25
  go_wp2_with (rw [← HW.out])
  refine HGT.out.mono ?_
  rintro e w2 ⟨rfl, hb2⟩
  have hbg2 := HBG.out.next hb2
  obtain ⟨d0, d1, d2⟩ := HROW.out _ _ _ _ _ hbg2
  have HP2 := Lib.hid (HDEL.out _ hbg2)
  have HBG2 := Lib.hid hbg2; clear hbg2
  clear b0 b1 b2 hb2 HGT HDEL HBG hcv
  go_wp2_with fail
  refine HP2.out.mono ?_
  rintro e w3 ⟨p', t', v', k', rfl, h1, h2, h3, h4, h5, h6⟩
  have hbg3 := HBG2.out.other h6 h1 h4
  have HR3 := Lib.hid (HWO.out _ _ _ _ _ hbg3)
  have HBG3 := Lib.hid hbg3; clear hbg3
  have H3 := Lib.hid h3; clear h3
  have H5 := Lib.hid h5; clear h5
  have H2 := Lib.hid h2; clear h2
  have hbo : (is != is) = false := by cases is <;> rfl
  clear d0 d1 d2 HP2 h1 h4 h6 HBG2 HROW HWO
  go_wp2_with fail
  refine HR3.out.mono ?_
  rintro e w4 ⟨A', c', rfl, hA, hb4⟩
  have hbg4 := HBG3.out.next hb4
  have hts : t'.size = pq.length := by rw [← Tr.length, H3.out]
  have hpl := HPL.out
  have S1 := Lib.hid (size_any hbg4.tre (by omega))
  have S2 := Lib.hid (sound_any hbg4.tre (by omega) H2.out (by rw [H3.out]; exact HSP.out))
  have HA4 := Lib.hid hA; clear hA
  have HBG4 := Lib.hid hbg4; clear hbg4
  rw [hts] at S1
  obtain ⟨pl, hpl1⟩ : ∃ k, k = pq.length := ⟨_, rfl⟩
  rw [← hpl1] at S1 ⊢
  have HPS := Lib.hid hpl1; clear hpl1
  clear HR3 hb4 HBG3 hts hpl
  go_wp2_with fail
  refine S1.out.mono ?_
  rintro e w' ⟨rfl, rfl⟩
  go_wp2_with fail
  refine S2.out.mono ?_
  rintro e w5 ⟨rfl, hb5⟩
  have HB5 := Lib.hid hb5; clear hb5
  go_wp2_with fail
  refine bodyPost_ret (results_three rfl _ _ _ _ _ rfl rfl rfl) rfl ?_
  have hbg5 := HBG4.out.next HB5.out
  exact ⟨p', t', A', c', v', k', by rw [← HPS.out]; rfl, hbg5.tre, H2.out, H3.out, HA4.out.below HB5.out, hbg5.met, H5.out, hbg5.only⟩
theorem step_get {F : Nat → Prop} {w : World} {t : Tr} {p m XA ka va : Option Addr} {M : List Pr} {o : Opn} {v c : Nat} (xc kc vc : Nat) (hF : Fut F w) (ht : Tre F w t p) (hx : Rcs w XA M) (hm : Met w m v c) (hk : Bts w ka o.2.1) (hv : Bts w va o.2.2) (hs : srt t.list) (hM : M.length ≤ 400) (hMf : ∀ x ∈ M, x.1.length ≤ 100 ∧ x.2.length ≤ 100) (hv1 : v ≤ 1000) (hc1 : c ≤ v) (hh : t.high ≤ 1000) (hkind : o.1 = 3) (hMt : t.list = M) :
    Calls Try.prog 25 #[.pointer p, .slice XA M.length xc, .agg #[.int .i64 o.1, .slice ka o.2.1.length kc, .slice va o.2.2.length vc], .pointer m] w fun e w' => ∃ v' k', e = .returned (.tuple #[.pointer p, .slice XA M.length xc, .bool true]) ∧ Tre F w' t p ∧ Rcs w' XA M ∧ Met w' m v' k' ∧ Count t v c v' k' ∧ Only m w w' := by
  have hbg := begun_new (kc := kc) (vc := vc) hF ht hx hm hk hv
  obtain ⟨w1, hw1⟩ : ∃ w1, w1 = w.alloc (.cells #[.int .i64 o.1, .slice ka o.2.1.length kc, .slice va o.2.2.length vc] 59) := ⟨_, rfl⟩
  rw [← hw1] at hbg
  have hcv := conv_any hbg.key kc
  have hgt := refVal_any hbg.rcs xc o.2.1 (by omega)
  obtain ⟨b0, b1, b2⟩ := row3 hbg.row
  have hrow := fun W t' p' v' c' (h : Begun F m XA t' p' M o ka va kc vc v' c' w.heap.size w W) => row3 h.row
  obtain ⟨x1, hx1⟩ : ∃ k, k = o.2.1.length := ⟨_, rfl⟩
  obtain ⟨x2, hx2⟩ : ∃ k, k = o.2.2.length := ⟨_, rfl⟩
  obtain ⟨ks, hks⟩ : ∃ s : ByteArray, s = ⟨o.2.1.toArray⟩ := ⟨_, rfl⟩
  obtain ⟨wv, hwv⟩ : ∃ s : ByteArray, s = ⟨(val M o.2.1).toArray⟩ := ⟨_, rfl⟩
  obtain ⟨is, his⟩ : ∃ b, b = has M o.2.1 := ⟨_, rfl⟩
  obtain ⟨ml, hml⟩ : ∃ k, k = M.length := ⟨_, rfl⟩
  have hget := fun W (h : Begun F m XA t p M o ka va kc vc v c w.heap.size w W) => get_any kc h.tre h.met h.key (fun x hx => by have := (hMf x (hMt ▸ hx)).2; omega) hs (by omega) hc1
  simp only [hMt, hkind, ← hx1, ← hx2, ← hks, ← hwv, ← his, ← hml] at hcv hgt b0 b1 b2 hget hrow hw1 ⊢
  have HBG := Lib.hid hbg; clear hbg
  have HGT := Lib.hid hgt; clear hgt
  have HGET := Lib.hid hget; clear hget
  have HROW := Lib.hid hrow; clear hrow
  have HW := Lib.hid hw1; clear hw1
  have HWV := Lib.hid hwv; clear hwv
  clear hx1 hx2 hks his hml hkind hF ht hx hm hk hv hs hM hv1 hc1 hh hMt hMf
  go_enter Try.func25, Try.ntmps25
  go_wp2_with (rw [← HW.out])
  refine HGT.out.mono ?_
  rintro e w2 ⟨rfl, hb2⟩
  have hbg2 := HBG.out.next hb2
  obtain ⟨d0, d1, d2⟩ := HROW.out _ _ _ _ _ hbg2
  have HP2 := Lib.hid (HGET.out _ hbg2)
  have HBG2 := Lib.hid hbg2; clear hbg2
  clear b0 b1 b2 hb2 HGT HGET HBG hcv
  go_wp2_with fail
  refine HP2.out.mono ?_
  rintro e w3 ⟨A', cc, v', k', rfl, hA, h4, h5, h6⟩
  have hbg3 := HBG2.out.other h6 (HBG2.out.tre.only HBG2.out.met h6) h4
  have hzz : ∀ n, Below w3.heap.size w3 (w3.drewN n) := fun n => below_drewN (Below.refl _ _) n
  have cv : ∀ n, (convert 33 9 (.slice A' (val M o.2.1).length cc)).run Try.prog (w3.drewN n) = .ok (.string wv) (w3.drewN n) := fun n => by rw [HWV.out]; exact conv_any (hA.below (hzz n)) cc
  obtain ⟨vn, hvn⟩ : ∃ k, k = (val M o.2.1).length := ⟨_, rfl⟩
  rw [← hvn] at cv ⊢
  have hbo : (is == is) = true := by cases is <;> rfl
  have HBG3 := Lib.hid hbg3; clear hbg3
  have H5 := Lib.hid h5; clear h5
  have HZ := Lib.hid hzz; clear hzz
  clear d0 d1 d2 HP2 h4 h6 HBG2 HROW hA hvn
  go_wp2_with fail
  go_quiet (fail)
  go_wp2_with fail
  refine bodyPost_ret (results_three rfl _ _ _ _ _ rfl rfl rfl) rfl ?_
  have hbg5 := HBG3.out.next (HZ.out nq)
  exact ⟨v', k', rfl, hbg5.tre, hbg5.rcs, hbg5.met, H5.out, hbg5.only⟩
theorem step_none {F : Nat → Prop} {w : World} {t : Tr} {p m XA ka va : Option Addr} {M : List Pr} {o : Opn} {v c : Nat} (xc kc vc : Nat) (hF : Fut F w) (ht : Tre F w t p) (hx : Rcs w XA M) (hm : Met w m v c) (hk : Bts w ka o.2.1) (hv : Bts w va o.2.2) (he : t.even) (hs : srt t.list) (hn : t.size ≤ 400) (hM : M.length ≤ 400) (h1 : o.1 ≠ 1) (h2 : o.1 ≠ 2) (h3 : o.1 ≠ 3) :
    Calls Try.prog 25 #[.pointer p, .slice XA M.length xc, .agg #[.int .i64 o.1, .slice ka o.2.1.length kc, .slice va o.2.2.length vc], .pointer m] w fun e w' => e = .returned (.tuple #[.pointer p, .slice XA M.length xc, .bool (decide (t.size = M.length))]) ∧ Tre F w' t p ∧ Rcs w' XA M ∧ Met w' m v c ∧ Only m w w' := by
  have hbg := begun_new (kc := kc) (vc := vc) hF ht hx hm hk hv
  obtain ⟨w1, hw1⟩ : ∃ w1, w1 = w.alloc (.cells #[.int .i64 o.1, .slice ka o.2.1.length kc, .slice va o.2.2.length vc] 59) := ⟨_, rfl⟩
  rw [← hw1] at hbg
  have hcv := conv_any hbg.key kc
  have hgt := refVal_any hbg.rcs xc o.2.1 (by omega)
  obtain ⟨b0, b1, b2⟩ := row3 hbg.row
  have hrow := fun W t' p' v' c' (h : Begun F m XA t' p' M o ka va kc vc v' c' w.heap.size w W) => row3 h.row
  obtain ⟨x1, hx1⟩ : ∃ k, k = o.2.1.length := ⟨_, rfl⟩
  obtain ⟨x2, hx2⟩ : ∃ k, k = o.2.2.length := ⟨_, rfl⟩
  obtain ⟨ks, hks⟩ : ∃ s : ByteArray, s = ⟨o.2.1.toArray⟩ := ⟨_, rfl⟩
  obtain ⟨wv, hwv⟩ : ∃ s : ByteArray, s = ⟨(val M o.2.1).toArray⟩ := ⟨_, rfl⟩
  obtain ⟨is, his⟩ : ∃ b, b = has M o.2.1 := ⟨_, rfl⟩
  obtain ⟨ml, hml⟩ : ∃ k, k = M.length := ⟨_, rfl⟩
  have hsz := fun W (h : Begun F m XA t p M o ka va kc vc v c w.heap.size w W) => size_any h.tre (by omega)
  have hso := fun W (h : Begun F m XA t p M o ka va kc vc v c w.heap.size w W) => sound_any h.tre (by omega) he hs
  obtain ⟨z, hz⟩ : ∃ z, z = o.1 := ⟨_, rfl⟩
  obtain ⟨ts, hts⟩ : ∃ k, k = t.size := ⟨_, rfl⟩
  simp only [← hz, ← hx1, ← hx2, ← hks, ← hwv, ← his, ← hml, ← hts] at hcv hgt b0 b1 b2 hsz hrow hw1 h1 h2 h3 ⊢
  have d1 : (z == 1) = false := by simpa using h1
  have d2 : (z == 2) = false := by simpa using h2
  have d3 : (z == 3) = false := by simpa using h3
  have HBG := Lib.hid hbg; clear hbg
  have HGT := Lib.hid hgt; clear hgt
  have HSZ := Lib.hid hsz; clear hsz
  have HSO := Lib.hid hso; clear hso
  have HROW := Lib.hid hrow; clear hrow
  have HW := Lib.hid hw1; clear hw1
  clear hx1 hx2 hks hwv his hF ht hx hm hk hv he hs hn hM hz hts hml
  go_enter Try.func25, Try.ntmps25
  go_wp2_with (rw [← HW.out])
  refine HGT.out.mono ?_
  rintro e w2 ⟨rfl, hb2⟩
  have hbg2 := HBG.out.next hb2
  obtain ⟨r0, r1, r2⟩ := HROW.out _ _ _ _ _ hbg2
  have S1 := Lib.hid (HSZ.out _ hbg2)
  have S2 := Lib.hid (HSO.out _ hbg2)
  have HBG2 := Lib.hid hbg2; clear hbg2
  clear b0 b1 b2 hb2 HGT HSZ HSO HBG hcv HROW
  by_cases heq : ts = ml
  · subst heq
    go_wp2_with fail
    refine S1.out.mono ?_
    rintro e w' ⟨rfl, rfl⟩
    go_wp2_with fail
    refine S2.out.mono ?_
    rintro e w5 ⟨rfl, hb5⟩
    have HB5 := Lib.hid hb5; clear hb5
    go_wp2_with fail
    refine bodyPost_ret (results_three rfl _ _ _ _ _ rfl rfl rfl) rfl ?_
    have hbg5 := HBG2.out.next HB5.out
    exact ⟨by simp, hbg5.tre, hbg5.rcs, hbg5.met, hbg5.only⟩
  · have e1 : ((ts : Int) == (ml : Int)) = false := by simpa using (show ¬ (ts : Int) = ml by omega)
    go_wp2_with fail
    refine S1.out.mono ?_
    rintro e w' ⟨rfl, rfl⟩
    go_wp2_with fail
    refine bodyPost_ret (results_three rfl _ _ _ _ _ rfl rfl rfl) rfl ?_
    exact ⟨by rw [decide_eq_false heq]; rfl, HBG2.out.tre, HBG2.out.rcs, HBG2.out.met, HBG2.out.only⟩
/-- how many visits and compares a call may have -/
def CountO (t : Tr) (o : Opn) (v c v' c' : Nat) : Prop := v ≤ v' ∧ v' ≤ v + t.high ∧ c ≤ c' ∧ c' + v ≤ c + v' ∧ (1 ≤ o.1 → o.1 ≤ 3 → t ≠ .nil → v < v')
theorem Count.call {t : Tr} {v c v' c' : Nat} (h : Count t v c v' c') (o : Opn) : CountO t o v c v' c' := ⟨h.1, h.2.1, h.2.2.1, h.2.2.2.1, fun _ _ => h.2.2.2.2⟩
theorem step_any {F : Nat → Prop} {w : World} {t : Tr} {p m XA ka va : Option Addr} {M : List Pr} {o : Opn} {v c : Nat} (xc kc vc : Nat) (hF : Fut F w) (ht : Tre F w t p) (hx : Rcs w XA M) (hm : Met w m v c) (hk : Bts w ka o.2.1) (hv : Bts w va o.2.2) (he : t.even) (hs : srt M) (hM : M.length ≤ 400) (hMf : ∀ x ∈ M, x.1.length ≤ 100 ∧ x.2.length ≤ 100) (ho : o.2.1.length ≤ 100 ∧ o.2.2.length ≤ 100) (hv1 : v ≤ 900) (hc1 : c ≤ v) (hMt : t.list = M) :
    Calls Try.prog 25 #[.pointer p, .slice XA M.length xc, .agg #[.int .i64 o.1, .slice ka o.2.1.length kc, .slice va o.2.2.length vc], .pointer m] w fun e w' => ∃ p' t' A' c' v' k', e = .returned (.tuple #[.pointer p', .slice A' (play M o).length c', .bool true]) ∧ Tre F w' t' p' ∧ t'.even ∧ t'.list = play M o ∧ Rcs w' A' (play M o) ∧ Met w' m v' k' ∧ CountO t o v c v' k' ∧ Only m w w' := by
  have hn : t.size = M.length := by rw [← Tr.length, hMt]
  have hh := (Tr.high_cube he (by omega)).1
  by_cases h1 : o.1 = 1
  · refine (step_put xc kc vc hF ht hx hm hk hv he (by rw [hMt]; exact hs) (by omega) hM hMf ho (by omega) (by omega) (by omega) h1).mono ?_
    rintro e w' ⟨p', t', A', c', v', k', rfl, g1, g2, g3, g4, g5, g6, g7⟩
    have e1 : play M o = put M o.2 := by rw [play, if_pos h1]
    have e2 : t'.size = (put M o.2).length := by rw [← Tr.length, g3, hMt]
    rw [e1, ← hMt]
    rw [hMt] at g3 ⊢
    exact ⟨p', t', A', c', v', k', by rw [decide_eq_true e2], g1, g2, g3, g4, g5, g6.call o, g7⟩
  · by_cases h2 : o.1 = 2
    · refine (step_del xc kc vc hF ht hx hm hk hv he (by rw [hMt]; exact hs) (by omega) hM (by omega) (by omega) (by omega) h2 hMt).mono ?_
      rintro e w' ⟨p', t', A', c', v', k', rfl, g1, g2, g3, g4, g5, g6, g7⟩
      have e1 : play M o = out M o.2.1 := by rw [play, if_neg h1, if_pos h2]
      rw [e1]
      exact ⟨p', t', A', c', v', k', rfl, g1, g2, g3, g4, g5, g6.call o, g7⟩
    · have e1 : play M o = M := by rw [play, if_neg h1, if_neg h2]
      rw [e1]
      by_cases h3 : o.1 = 3
      · refine (step_get xc kc vc hF ht hx hm hk hv (by rw [hMt]; exact hs) hM hMf (by omega) hc1 (by omega) h3 hMt).mono ?_
        rintro e w' ⟨v', k', rfl, g1, g2, g3, g4, g5⟩
        exact ⟨p, t, XA, xc, v', k', rfl, g1, he, hMt, g2, g3, g4.call o, g5⟩
      · refine (step_none xc kc vc hF ht hx hm hk hv he (by rw [hMt]; exact hs) (by omega) hM h1 h2 h3).mono ?_
        rintro e w' ⟨rfl, g1, g2, g3, g4⟩
        exact ⟨p, t, XA, xc, v, c, by rw [decide_eq_true hn], g1, he, hMt, g2, g3, ⟨Nat.le_refl _, by omega, Nat.le_refl _, by omega, fun a b => by omega⟩, g4⟩
end Go.Proofs.Ytkcfanckkomdbaa
