/-
  Contracts of halves, parts, Cut, Out, Empty and Count: a tree cut at the bounds of a stretch.
-/
import Derived.Test.YthkecgafdjpddaaSplit
import Derived.Test.YthkecgafdjpddaaBelow
namespace Go.Proofs.Ythkecgafdjpddaa
open Go.RowKit
set_option maxHeartbeats 4000000
set_option maxRecDepth 100000
/-- a tree in memory, with just these pairs -/
def Is (F : Nat → Prop) (w : World) (L : List Pr) (p : Option Addr) : Prop := ∃ t : Tr, Tre F w t p ∧ t.even ∧ t.list = L
theorem Is.below {F : Nat → Prop} {w w' : World} {L : List Pr} {p : Option Addr} (h : Is F w L p) (hb : Below w.heap.size w w') : Is F w' L p := by
  obtain ⟨t, h1, h2, h3⟩ := h
  exact ⟨t, h1.below hb, h2, h3⟩
/-- what a list must be, to be cut -/
structure Fine (L : List Pr) : Prop where
  sorted : srt L
  few : L.length < 1500
  fits : ∀ x ∈ L, x.1.length ≤ 100000 ∧ x.2.length ≤ 100000
theorem Fine.part {L : List Pr} (h : Fine L) (P : Pr → Bool) : Fine (L.filter P) := ⟨h.sorted.filter _, Nat.lt_of_le_of_lt (List.length_filter_le _ _) h.few, fun x hx => h.fits x (mem_part hx)⟩
theorem Fine.lts {L : List Pr} (h : Fine L) (k : List UInt8) : Fine (lts L k) := h.part _
theorem Fine.oth {L : List Pr} (h : Fine L) (k : List UInt8) : Fine (oth L k) := h.part _
theorem Fine.ins {L : List Pr} (h : Fine L) (f t : List UInt8) (cl : Bool) : Fine (ins L f t cl) := h.part _
theorem Fine.outs {L : List Pr} (h : Fine L) (f t : List UInt8) (cl : Bool) : Fine (outs L f t cl) := h.part _
theorem split_any {F : Nat → Prop} {w : World} {L : List Pr} {p K : Option Addr} {key : List UInt8} (kc : Nat) (hF : Fut F w) (h : Is F w L p) (hf : Fine L) (hK : Bts w K key) : Calls Try.prog 10 #[.pointer p, .slice K key.length kc] w (CutP F L key w) := by
  obtain ⟨t, h1, h2, rfl⟩ := h
  exact at_any kc t w p hF h1 h2 hf.sorted (by rw [← Tr.length]; exact hf.few) hf.fits hK
def HalfP (F : Nat → Prop) (L : List Pr) (k : List UInt8) (w : World) (e : Ending) (w' : World) : Prop :=
  ∃ pl pr, e = .returned (.tuple #[.pointer pl, .pointer pr]) ∧ Is F w' (lts L k) pl ∧ Is F w' (oth L k) pr ∧ Below w.heap.size w w'
theorem halves_any {F : Nat → Prop} {w : World} {L : List Pr} {p K : Option Addr} {key : List UInt8} (kc : Nat) (hF : Fut F w) (h : Is F w L p) (hf : Fine L) (hK : Bts w K key) : Calls Try.prog 51 #[.pointer p, .slice K key.length kc] w (HalfP F L key w) := by
  have hat := split_any kc hF h hf hK
  have hj : ∀ W (va p1 : Option Addr) (vc : Nat) (t1 : Tr), Below w.heap.size w W → has L key = true → Bts W va (val L key) → Tre F W t1 p1 → t1.even → t1.list = gts L key →
      Calls Try.prog 20 #[.pointer none, .agg #[.slice K key.length kc, .slice va (val L key).length vc], .pointer p1] W fun e w' => ∃ p, e = .returned (.pointer p) ∧ Is F w' (oth L key) p ∧ Below W.heap.size W w' := by
    intro W va p1 vc t1 hW hh hv ht1 he1 hl1
    have e := oth_has hf.sorted hh
    have hm : (key, val L key) ∈ L := mem_part (P := fun x => !decide (cmp x.1 key < 0)) (by show _ ∈ oth L key; rw [e]; exact List.mem_cons_self)
    have hs : t1.size < 1500 := by
      rw [← Tr.length, hl1]
      exact Nat.lt_of_le_of_lt (List.length_filter_le _ _) hf.few
    refine (joinP_any (l := .nil) (q := (key, val L key)) kc vc (hF.later hW.size) rfl ht1 (hK.below hW) hv (hf.fits _ hm) trivial he1 (by simp only [Tr.size]; omega)).mono ?_
    rintro e' w' ⟨p, t, rfl, h1, h2, h3, h4⟩
    exact ⟨p, rfl, ⟨t, h1, h2, by rw [h3, hl1, e]; rfl⟩, h4⟩
  have hno := fun (h : has L key = false) => oth_not h
  obtain ⟨n, hn⟩ : ∃ n, n = key.length := ⟨_, rfl⟩
  rw [← hn] at hat hj ⊢
  have HA := Lib.hid hat; clear hat
  have HJ := Lib.hid hj; clear hj
  have HNO := Lib.hid hno; clear hno
  clear hF h hf hK hn
  go_enter Try.func51, Try.ntmps51
  go_wp2_with fail
  refine HA.out.mono ?_
  rintro e w2 ⟨pa, pb, va, vc, x, is, rfl, ⟨e1, e2, e3, a, b, ha, hb, ea, eb, la, lb⟩, hb2⟩
  cases is with
  | false =>
    have HR : Hid (Is F w2 (lts L key) pa ∧ Is F w2 (oth L key) pb ∧ Below w.heap.size w w2) := ⟨⟨a, ha, ea, la⟩, ⟨b, hb, eb, by rw [HNO.out e2.symm]; exact lb⟩, hb2⟩
    clear e1 e2 e3 ha hb ea eb la lb hb2 HA HJ HNO
    go_wp2_with fail
    go_ret2
    exact ⟨pa, pb, rfl, HR.out⟩
  | true =>
    have hjj := HJ.out w2 va pb vc b hb2 e2.symm e3 hb eb lb
    rw [← e1] at hjj
    have HJJ := Lib.hid hjj; clear hjj
    have HR : Hid (Is F w2 (lts L key) pa ∧ Below w.heap.size w w2) := ⟨⟨a, ha, ea, la⟩, hb2⟩
    clear e1 e2 e3 ha hb ea eb la lb hb2 HA HJ HNO
    go_wp2_with fail
    refine HJJ.out.mono ?_
    rintro e w3 ⟨p3, rfl, h3, hb3⟩
    have H3 := Lib.hid h3; clear h3
    have HB3 := Lib.hid hb3; clear hb3
    go_wp2_with fail
    go_ret2
    exact ⟨pa, p3, rfl, HR.out.1.below HB3.out, H3.out, below_then HR.out.2 HB3.out⟩
theorem pair_list {F : Nat → Prop} {w : World} {L M : List Pr} {pl pr : Option Addr} (hF : Fut F w) (hl : Is F w L pl) (hr : Is F w M pr) (hn : (L ++ M).length < 1500) :
    Calls Try.prog 19 #[.pointer pl, .pointer pr, .pointer none] w fun e w' => ∃ p, e = .returned (.pointer p) ∧ Is F w' (L ++ M) p ∧ Below w.heap.size w w' := by
  obtain ⟨a, h1, h2, rfl⟩ := hl
  obtain ⟨b, h3, h4, rfl⟩ := hr
  have hz : a.size + b.size < 1500 := by rw [← Tr.length, ← Tr.length, ← List.length_append]; exact hn
  have hh : ∀ t : Tr, t.high ≤ t.size := by
    intro t
    induction t with
    | nil => exact Nat.le_refl _
    | node l q r i1 i2 => simp only [Tr.high, Tr.size]; omega
  refine (pair_any (m := none) (v := 0) (c := 0) hF h1 h3 (.inl rfl) h2 h4 (by omega) (by have := hh b; omega)).mono ?_
  rintro e w' ⟨p, t, v', rfl, g1, g2, g3, _, _, _, g7⟩
  exact ⟨p, rfl, ⟨t, g1, g2, g3⟩, g7.nil⟩
theorem box_span (w : World) (a b c : Value) : ∃ w1, w1 = w.alloc (.cells #[a, b, c] 38) ∧ Below w.heap.size w w1 ∧
    ∀ W, Below w1.heap.size w1 W → W.cell? ⟨w.heap.size, 0, none⟩ = some a ∧ W.cell? ⟨w.heap.size, 1, none⟩ = some b ∧ W.cell? ⟨w.heap.size, 2, none⟩ = some c := by
  refine ⟨_, rfl, (Below.refl _ _).alloc (Nat.le_refl _) _, fun W hW => ?_⟩
  have r0 : W.heap[w.heap.size]? = some (.cells #[a, b, c] 38 (0, 0)) := (hW.block _ (by simp)).trans (heap_alloc_new w _)
  refine ⟨?_, ?_, ?_⟩
  · rw [cell_of_row W _ _ _ 38 (0, 0) r0]; rfl
  · rw [cell_of_row W _ _ _ 38 (0, 0) r0]; rfl
  · rw [cell_of_row W _ _ _ 38 (0, 0) r0]; rfl
/-- a stretch in memory -/
structure Spn (w : World) (A B : Option Addr) (f t : List UInt8) (x y : Nat) : Prop where
  frm : Bts w A f
  til : Bts w B t
  fl : x = f.length
  tl : y = t.length
theorem Spn.below {w w' : World} {A B : Option Addr} {f t : List UInt8} {x y : Nat} (h : Spn w A B f t x y) (hb : Below w.heap.size w w') : Spn w' A B f t x y := ⟨h.frm.below hb, h.til.below hb, h.fl, h.tl⟩
def PartP (F : Nat → Prop) (L : List Pr) (f t : List UInt8) (cl : Bool) (w : World) (e : Ending) (w' : World) : Prop :=
  ∃ pa pi pb La Lb, e = .returned (.tuple #[.pointer pa, .pointer pi, .pointer pb]) ∧ Is F w' La pa ∧ Is F w' (ins L f t cl) pi ∧ Is F w' Lb pb ∧ La ++ Lb = outs L f t cl ∧ Below w.heap.size w w'
theorem is_nil (F : Nat → Prop) (w : World) : Is F w [] none := ⟨.nil, rfl, trivial, rfl⟩
theorem parts_any {F : Nat → Prop} {w : World} {L : List Pr} {p A B : Option Addr} {f t : List UInt8} {x y : Nat} (fc tc : Nat) (cl : Bool) (hF : Fut F w) (h : Is F w L p) (hf : Fine L) (hs : Spn w A B f t x y) :
    Calls Try.prog 33 #[.pointer p, .agg #[.slice A x fc, .slice B y tc, .bool cl]] w (PartP F L f t cl w) := by
  obtain ⟨w1, hw1, hb1, hk1⟩ := box_span w (.slice A x fc) (.slice B y tc) (.bool cl)
  obtain ⟨c0, c1, c2⟩ := hk1 w1 (Below.refl _ _)
  have h1 := halves_any fc (hF.later hb1.size) (h.below hb1) hf (hs.frm.below hb1)
  have h2 := fun W pi (hW : Below w1.heap.size w1 W) (hi : Is F W (oth L f) pi) => halves_any tc ((hF.later hb1.size).later hW.size) hi (hf.oth f) ((hs.til.below hb1).below hW)
  rw [← hs.fl] at h1
  rw [← hs.tl] at h2
  have e1 := ins_open L f t
  have e2 := outs_open L f t
  have e3 := ins_closed L f t
  have e4 := outs_closed hf.sorted f t
  have HE := Lib.hid (And.intro (And.intro e1 e2) (And.intro e3 e4))
  have H1 := Lib.hid h1; clear h1
  have H2 := Lib.hid h2; clear h2
  have K1 := Lib.hid hk1; clear hk1
  have HW := Lib.hid hw1; clear hw1
  have HB := Lib.hid hb1; clear hb1
  clear e1 e2 e3 e4 hF h hf hs
  go_enter Try.func33, Try.ntmps33
  go_wp2_with (rw [← HW.out])
  refine H1.out.mono ?_
  rintro e w2 ⟨pl, pr, rfl, g1, g2, gb⟩
  clear c0 c1 c2
  obtain ⟨c0, c1, c2⟩ := K1.out w2 gb
  cases cl with
  | false =>
    have HR : Hid (PartP F L f t false w (.returned (.tuple #[.pointer pl, .pointer pr, .pointer none])) w2) := ⟨pl, pr, none, lts L f, [], rfl, g1, by rw [HE.out.1.1]; exact g2, is_nil _ _, by rw [HE.out.1.2, List.append_nil], below_then HB.out gb⟩
    clear g1 g2 gb H1 H2 K1 HE
    go_wp2_with fail
    go_ret3
    exact HR.out
  | true =>
    have G2 := Lib.hid (H2.out w2 pr gb g2)
    have HR := Lib.hid (And.intro g1 (below_then HB.out gb))
    clear g1 g2 gb H1 H2 K1
    go_wp2_with fail
    refine G2.out.mono ?_
    rintro e w3 ⟨pi, pb, rfl, g3, g4, gb3⟩
    have HP : Hid (PartP F L f t true w (.returned (.tuple #[.pointer pl, .pointer pi, .pointer pb])) w3) := ⟨pl, pi, pb, lts L f, oth (oth L f) t, rfl, HR.out.1.below gb3, by rw [HE.out.2.1]; exact g3, g4, HE.out.2.2.symm, below_then HR.out.2 gb3⟩
    clear g3 g4 gb3 G2 HR c0 c1 c2
    go_wp2_with fail
    go_ret3
    exact HP.out
theorem cut_any {F : Nat → Prop} {w : World} {L : List Pr} {p A B : Option Addr} {f t : List UInt8} {x y : Nat} (fc tc : Nat) (cl : Bool) (hF : Fut F w) (h : Is F w L p) (hf : Fine L) (hs : Spn w A B f t x y) :
    Calls Try.prog 16 #[.pointer p, .agg #[.slice A x fc, .slice B y tc, .bool cl]] w fun e w' => ∃ p', e = .returned (.pointer p') ∧ Is F w' (ins L f t cl) p' ∧ Below w.heap.size w w' := by
  obtain ⟨w1, hw1, hb1, hk1⟩ := box_span w (.slice A x fc) (.slice B y tc) (.bool cl)
  obtain ⟨c0, c1, c2⟩ := hk1 w1 (Below.refl _ _)
  have H1 := Lib.hid (parts_any fc tc cl (hF.later hb1.size) (h.below hb1) hf (hs.below hb1))
  have HW := Lib.hid hw1; clear hw1
  have HB := Lib.hid hb1; clear hb1
  clear hF h hf hs hk1
  go_enter Try.func16, Try.ntmps16
  go_wp2_with (rw [← HW.out])
  refine H1.out.mono ?_
  rintro e w2 ⟨pa, pi, pb, La, Lb, rfl, g1, g2, g3, g4, gb⟩
  have HR := Lib.hid (And.intro g2 (below_then HB.out gb))
  clear g1 g2 g3 g4 gb H1 c0 c1 c2
  go_wp2_with fail
  go_ret
  exact ⟨pi, rfl, HR.out⟩
theorem out_any {F : Nat → Prop} {w : World} {L : List Pr} {p A B : Option Addr} {f t : List UInt8} {x y : Nat} (fc tc : Nat) (cl : Bool) (hF : Fut F w) (h : Is F w L p) (hf : Fine L) (hs : Spn w A B f t x y) :
    Calls Try.prog 17 #[.pointer p, .agg #[.slice A x fc, .slice B y tc, .bool cl]] w fun e w' => ∃ p', e = .returned (.pointer p') ∧ Is F w' (outs L f t cl) p' ∧ Below w.heap.size w w' := by
  obtain ⟨w1, hw1, hb1, hk1⟩ := box_span w (.slice A x fc) (.slice B y tc) (.bool cl)
  obtain ⟨c0, c1, c2⟩ := hk1 w1 (Below.refl _ _)
  have hp := fun W (pa pb : Option Addr) (La Lb : List Pr) (hW : Below w1.heap.size w1 W) (h1 : Is F W La pa) (h2 : Is F W Lb pb) (h3 : La ++ Lb = outs L f t cl) =>
    pair_list ((hF.later hb1.size).later hW.size) h1 h2 (by rw [h3]; exact (hf.outs f t cl).few)
  have H1 := Lib.hid (parts_any fc tc cl (hF.later hb1.size) (h.below hb1) hf (hs.below hb1))
  have HP := Lib.hid hp; clear hp
  have HW := Lib.hid hw1; clear hw1
  have HB := Lib.hid hb1; clear hb1
  clear hF h hf hs hk1
  go_enter Try.func17, Try.ntmps17
  go_wp2_with (rw [← HW.out])
  refine H1.out.mono ?_
  rintro e w2 ⟨pa, pi, pb, La, Lb, rfl, g1, g2, g3, g4, gb⟩
  have hq := HP.out w2 pa pb La Lb gb g1 g3 g4
  rw [g4] at hq
  have HQ := Lib.hid hq; clear hq
  have HR := Lib.hid (below_then HB.out gb)
  clear g1 g2 g3 g4 gb H1 c0 c1 c2 HP
  go_wp2_with fail
  refine HQ.out.mono ?_
  rintro e w3 ⟨p3, rfl, g5, gb3⟩
  have H5 := Lib.hid g5; clear g5
  have H6 := Lib.hid gb3; clear gb3
  go_wp2_with fail
  go_ret
  exact ⟨p3, rfl, H5.out, below_then HR.out H6.out⟩
theorem empty_any {w : World} {A B : Option Addr} {f t : List UInt8} {x y : Nat} (fc tc : Nat) (cl : Bool) (hs : Spn w A B f t x y) :
    Calls Try.prog 34 #[.agg #[.slice A x fc, .slice B y tc, .bool cl]] w fun e w' => e = .returned (.bool (cl && decide (¬ cmp f t < 0))) ∧ Below w.heap.size w w' := by
  obtain ⟨w1, hw1, hb1, hk1⟩ := box_span w (.slice A x fc) (.slice B y tc) (.bool cl)
  obtain ⟨c0, c1, c2⟩ := hk1 w1 (Below.refl _ _)
  have hc := compare_any (hs.til.below hb1) (hs.frm.below hb1) tc fc
  rw [← hs.fl, ← hs.tl] at hc
  have ht := cmp_turn t f
  obtain ⟨z, hz⟩ : ∃ z, z = cmp t f := ⟨_, rfl⟩
  have hd : decide (¬ cmp f t < 0) = decide (z ≤ 0) := by rw [hz]; exact decide_eq_decide.2 (by omega)
  rw [hd]
  rw [← hz] at hc
  have HC := Lib.hid hc; clear hc
  have HW := Lib.hid hw1; clear hw1
  have HB := Lib.hid hb1; clear hb1
  clear hs hk1 ht hz hd
  cases cl with
  | false =>
    go_enter Try.func34, Try.ntmps34
    go_wp2_with (rw [← HW.out])
    go_ret
    exact ⟨rfl, HB.out⟩
  | true =>
    go_enter Try.func34, Try.ntmps34
    go_wp2_with (rw [← HW.out])
    refine HC.out.mono ?_
    rintro e w' ⟨rfl, rfl⟩
    go_wp2_with fail
    go_ret
    exact ⟨rfl, HB.out⟩
theorem count_any {F : Nat → Prop} {w : World} {L : List Pr} {p A B : Option Addr} {f t : List UInt8} {x y : Nat} (fc tc : Nat) (cl : Bool) (h : Is F w L p) (hf : Fine L) (hn : L.length ≤ 1000) (hs : Spn w A B f t x y) :
    Calls Try.prog 18 #[.pointer p, .agg #[.slice A x fc, .slice B y tc, .bool cl]] w fun e w' => e = .returned (.int .i64 ((ins L f t cl).length : Int)) ∧ Below w.heap.size w w' := by
  obtain ⟨w1, hw1, hb1, hk1⟩ := box_span w (.slice A x fc) (.slice B y tc) (.bool cl)
  obtain ⟨c0, c1, c2⟩ := hk1 w1 (Below.refl _ _)
  have hem := empty_any fc tc cl (hs.below hb1)
  have hr : ∀ W (K : Option Addr) (c : Nat) (k : List UInt8), Below w1.heap.size w1 W → Bts W K k → Calls Try.prog 35 #[.pointer p, .slice K k.length c] W fun e w' => e = .returned (.int .i64 (rank L k : Int)) ∧ Below W.heap.size W w' := by
    intro W K c k hW hK
    obtain ⟨t, h1, h2, rfl⟩ := (h.below hb1).below hW
    exact rank_any c h1 hf.sorted (by rw [← Tr.length]; exact hn) hf.fits hK
  have hrf := fun W (hW : Below w1.heap.size w1 W) => hr W A fc f hW ((hs.frm.below hb1).below hW)
  have hrt := fun W (hW : Below w1.heap.size w1 W) => hr W B tc t hW ((hs.til.below hb1).below hW)
  rw [← hs.fl] at hrf
  rw [← hs.tl] at hrt
  have hsz : ∀ W, Below w1.heap.size w1 W → Calls Try.prog 21 #[.pointer p] W fun e w' => e = .returned (.int .i64 (L.length : Int)) ∧ W = w' := by
    intro W hW
    obtain ⟨t, h1, h2, rfl⟩ := (h.below hb1).below hW
    rw [Tr.length]
    exact size_any h1 (by rw [← Tr.length]; omega)
  have q1 := ins_open L f t
  have q2 := oth_length hf.sorted f
  have q3 := @ins_empty f t L
  have q4 := @ins_count L f t hf.sorted
  have q5 := rank_le L f
  have q6 := rank_le L t
  obtain ⟨rf, hrf'⟩ : ∃ k, k = rank L f := ⟨_, rfl⟩
  obtain ⟨rt, hrt'⟩ : ∃ k, k = rank L t := ⟨_, rfl⟩
  obtain ⟨n, hn'⟩ : ∃ k, k = L.length := ⟨_, rfl⟩
  obtain ⟨z, hz⟩ : ∃ z, z = cmp f t := ⟨_, rfl⟩
  simp only [← hrf'] at hrf q2 q4 q5
  simp only [← hrt'] at hrt q4 q6
  simp only [← hn'] at hsz q2 q5 q6 hn
  simp only [← hz] at hem q3 q4
  have HEM := Lib.hid hem; clear hem
  have HRF := Lib.hid hrf; clear hrf
  have HRT := Lib.hid hrt; clear hrt
  have HSZ := Lib.hid hsz; clear hsz
  have K1 := Lib.hid hk1; clear hk1
  have HW := Lib.hid hw1; clear hw1
  have HB := Lib.hid hb1; clear hb1
  clear h hf hs hr hrf' hrt' hn' hz
  cases cl with
  | false =>
    have hm : ((ins L f t false).length : Int) = (n : Int) - (rf : Int) := by rw [q1]; omega
    rw [hm]
    clear q1 q2 q3 q4 q6 hm
    go_enter Try.func18, Try.ntmps18
    go_wp2_with (rw [← HW.out])
    refine HEM.out.mono ?_
    rintro e w2 ⟨rfl, gb⟩
    clear c0 c1 c2
    obtain ⟨c0, c1, c2⟩ := K1.out w2 gb
    have R1 := Lib.hid (HRF.out w2 gb)
    have GB := Lib.hid gb; clear gb
    clear HEM HRF HRT
    go_wp2_with fail
    refine R1.out.mono ?_
    rintro e w3 ⟨rfl, gb3⟩
    have gb13 := below_then GB.out gb3
    clear c0 c1 c2
    obtain ⟨c0, c1, c2⟩ := K1.out w3 gb13
    have S1 := Lib.hid (HSZ.out w3 gb13)
    have GB3 := Lib.hid gb13; clear gb13 gb3
    clear R1 HSZ K1 GB
    go_wp2_with fail
    refine S1.out.mono ?_
    rintro e w' ⟨rfl, rfl⟩
    clear S1
    go_wp2_with fail
    go_ret
    exact ⟨ret_int (by omega), below_then HB.out GB3.out⟩
  | true =>
    by_cases hc : z < 0
    · have hm : ((ins L f t true).length : Int) = (rt : Int) - (rf : Int) := by have := q4 hc; omega
      rw [hm]
      have hd : decide (¬ z < 0) = false := decide_eq_false (by omega)
      rw [hd] at HEM
      clear q1 q2 q3 q4 hm hd
      go_enter Try.func18, Try.ntmps18
      go_wp2_with (rw [← HW.out])
      refine HEM.out.mono ?_
      rintro e w2 ⟨rfl, gb⟩
      clear c0 c1 c2
      obtain ⟨c0, c1, c2⟩ := K1.out w2 gb
      have R1 := Lib.hid (HRF.out w2 gb)
      have GB := Lib.hid gb; clear gb
      clear HEM HRF
      go_wp2_with fail
      refine R1.out.mono ?_
      rintro e w3 ⟨rfl, gb3⟩
      have gb13 := below_then GB.out gb3
      clear c0 c1 c2
      obtain ⟨c0, c1, c2⟩ := K1.out w3 gb13
      have S1 := Lib.hid (HSZ.out w3 gb13)
      have R2 := Lib.hid (HRT.out w3 gb13)
      have GB3 := Lib.hid gb13; clear gb13 gb3
      clear R1 HSZ K1 GB HRT
      go_wp2_with fail
      refine S1.out.mono ?_
      rintro e w' ⟨rfl, rfl⟩
      clear S1
      go_wp2_with fail
      refine R2.out.mono ?_
      rintro e w4 ⟨rfl, gb4⟩
      have GB4 := Lib.hid gb4; clear gb4
      clear R2 c0 c1 c2
      go_wp2_with fail
      go_ret
      exact ⟨ret_int (by omega), below_then (below_then HB.out GB3.out) GB4.out⟩
    · have hm := q3 hc
      rw [hm]
      have hd : decide (¬ z < 0) = true := decide_eq_true hc
      rw [hd] at HEM
      clear q1 q2 q3 q4 q5 q6 hm hd hn
      go_enter Try.func18, Try.ntmps18
      go_wp2_with (rw [← HW.out])
      refine HEM.out.mono ?_
      rintro e w2 ⟨rfl, gb⟩
      have GB := Lib.hid gb; clear gb
      clear HEM HRF HRT HSZ K1 c0 c1 c2
      go_wp2_with fail
      go_ret
      exact ⟨rfl, below_then HB.out GB.out⟩
end Go.Proofs.Ythkecgafdjpddaa
