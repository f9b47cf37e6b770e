/-
  Contracts of Put, Delete and Get.
-/
import Derived.Test.YtkcfanckkomdbaaWith
namespace Go.Proofs.Ytkcfanckkomdbaa
open Go.RowKit
set_option maxHeartbeats 4000000
set_option maxRecDepth 100000
theorem put_any {F : Nat → Prop} {w : World} {t : Tr} {p m ka va : Option Addr} {q : Pr} {v c : Nat} (kc vc : Nat) (hF : Fut F w) (ht : Tre F w t p) (hm : Met w m v c) (hk : Bts w ka q.1) (hv : Bts w va q.2) (hn : q.1.length ≤ 100000 ∧ q.2.length ≤ 100000) (he : t.even) (hsr : srt t.list) (hs : t.size < 1400) (hv1 : v + t.high ≤ 1000000) (hc1 : c + t.high ≤ 1000000) :
    Calls Try.prog 41 #[.pointer p, .agg #[.slice ka q.1.length kc, .slice va q.2.length vc], .pointer m] w fun e w' => ∃ p' t' v' c', e = .returned (.pointer p') ∧ Tre F w' t' p' ∧ t'.even ∧ t'.list = put t.list q ∧ Met w' m v' c' ∧ Count t v c v' c' ∧ Only m w w' := by
  obtain ⟨w1, hw1, hb1, hsz, hbox⟩ := box_pair w ka va q.1.length kc q.2.length vc
  obtain ⟨b0, b1⟩ := hbox w1 (Below.refl _ _)
  have hkp := kept_any kc vc (hF.later (by omega)) (hk.below hb1) (hv.below hb1) hn
  have hj := fun w2 ja jc ua uc (h2 : Below w1.heap.size w1 w2) (h3 : Byt F w2 ja q.1) (h4 : Byt F w2 ua q.2) => withAt F t w2 p m ja ua q jc uc v c (hF.later (by have := h2.size; omega)) ((ht.below hb1).below h2) ((hm.below hb1).below h2) h3 h4 he hsr hs hv1 hc1
  obtain ⟨x1, hx1⟩ : ∃ k, k = q.1.length := ⟨_, rfl⟩
  obtain ⟨x2, hx2⟩ : ∃ k, k = q.2.length := ⟨_, rfl⟩
  simp only [← hx1, ← hx2] at hkp hj hw1 b0 b1 ⊢
  have HK := Lib.hid hkp; clear hkp
  have HJ := Lib.hid hj; clear hj
  have HW := Lib.hid hw1; clear hw1
  have HB := Lib.hid hb1; clear hb1
  clear hx1 hx2 hbox hF ht hm hk hv hn he hsr hs hsz hv1 hc1
  go_enter Try.func41, Try.ntmps41
  go_wp2_with fail
  rw [← HW.out]
  refine HK.out.mono ?_
  rintro e w2 ⟨ja, jc, ua, uc, rfl, h1, h2, h3⟩
  have HJ2 := Lib.hid (HJ.out w2 ja jc ua uc h3 h1 h2)
  have H3 := Lib.hid h3; clear h3
  clear h1 h2 HJ HK b0 b1
  go_wp2_with fail
  refine HJ2.out.mono ?_
  rintro e w3 ⟨p', t', v', c', rfl, h1, h2, h3, h4, h5, h6⟩
  have H1 := Lib.hid h1; clear h1
  have H4 := Lib.hid h4; clear h4
  have H3' := Lib.hid h3; clear h3
  have H5 := Lib.hid h5; clear h5
  have H6 := Lib.hid h6; clear h6
  go_wp2_with fail
  go_ret
  exact ⟨p', t', v', c', rfl, H1.out, h2, H3'.out, H4.out, H5.out, (Only.of (below_then HB.out H3.out)).trans H6.out⟩
/-- what Delete promises of a tree -/
def DeleteAt (F : Nat → Prop) (t : Tr) : Prop := ∀ (w : World) (p m A : Option Addr) (k : List UInt8) (kc v c : Nat), Fut F w → Tre F w t p → Met w m v c → Bts w A k → t.even → srt t.list → t.size < 1400 → v + t.high ≤ 1000000 → c + t.high ≤ 1000000 →
  Calls Try.prog 17 #[.pointer p, .slice A k.length kc, .pointer m] w fun e w' => ∃ p' t' v' c', e = .returned (.tuple #[.pointer p', .bool (has t.list k)]) ∧ Tre F w' t' p' ∧ t'.even ∧ t'.list = out t.list k ∧ Met w' m v' c' ∧ Count t v c v' c' ∧ Only m w w'
theorem delete_nil (F : Nat → Prop) : DeleteAt F .nil := fun w p m A k kc v c hF ht hm hk _ _ _ _ _ => by
  obtain rfl : p = none := ht
  have HM := Lib.hid hm; clear hm
  obtain ⟨x, hx⟩ : ∃ x, x = k.length := ⟨_, rfl⟩
  rw [← hx]
  clear hk hF hx
  go_enter Try.func17, Try.ntmps17
  go_wp2
  go_ret2
  exact ⟨none, .nil, v, c, rfl, rfl, trivial, rfl, HM.out, ⟨Nat.le_refl _, by omega, Nat.le_refl _, by omega, fun h => absurd rfl h⟩, Only.refl _ _⟩
theorem delete_here {F : Nat → Prop} {l r : Tr} {q0 : Pr} (w : World) (p m A : Option Addr) (k : List UInt8) (kc' v c : Nat) (hF : Fut F w) (ht : Tre F w (.node l q0 r) p) (hm : Met w m v c) (hk : Bts w A k) (he : (Tr.node l q0 r).even) (hs : l.size + r.size < 1400) (hv1 : v + 1 + r.high ≤ 1000000) (hc1 : c ≤ 1000000) (hz : cmp k q0.1 = 0) :
    Calls Try.prog 17 #[.pointer p, .slice A k.length kc', .pointer m] w fun e w' => ∃ p' t' v', e = .returned (.tuple #[.pointer p', .bool true]) ∧ Tre F w' t' p' ∧ t'.even ∧ t'.list = l.list ++ r.list ∧ Met w' m v' (c + 1) ∧ v + 1 ≤ v' ∧ v' ≤ v + 1 + r.high ∧ Only m w w' := by
  have hag := against_any kc' ht hm hk (by omega) hc1
  rw [hz] at hag
  obtain ⟨b, rka, rkc, rva, rvc, pl, pr, rfl, nd, hl, hr⟩ := ht
  have hpa := fun w2 (ho : Only m w w2) (hm2 : Met w2 m (v + 1) (c + 1)) W (hW : Below w2.heap.size w2 W) => pair_any ((hF.later ho.size).later hW.size) ((hl.only hm ho).below hW) ((hr.only hm ho).below hW) (hm2.below hW) he.2.1 he.2.2 (by omega) (by omega)
  have hnod := fun w2 (ho : Only m w w2) (hm2 : Met w2 m (v + 1) (c + 1)) W (hW : Only m w2 W) => (((nd.only hm ho).only hm2 hW)).cells
  have hkeep : ∀ w2, Only m w w2 → Met w2 m (v + 1) (c + 1) → ∀ W, Only m w2 W → W.cell? ⟨b, 2, none⟩ = some (.pointer pl) ∧ W.cell? ⟨b, 3, none⟩ = some (.pointer pr) := fun w2 ho hm2 W hW => ⟨(hnod w2 ho hm2 W hW).2.2.1, (hnod w2 ho hm2 W hW).2.2.2.1⟩
  obtain ⟨x, hx⟩ : ∃ x, x = k.length := ⟨_, rfl⟩
  rw [← hx] at hag ⊢
  have HA := Lib.hid hag; clear hag
  have HP := Lib.hid hpa; clear hpa
  have KEEP := Lib.hid hkeep; clear hkeep
  clear hnod nd hl hr hm hk he hs hv1 hc1 hz hx hF
  go_enter Try.func17, Try.ntmps17
  go_wp2_with fail
  refine HA.out.mono ?_
  rintro e w2 ⟨rfl, hm2, ho2⟩
  have KP := Lib.hid (KEEP.out w2 ho2 hm2)
  have HP2 := Lib.hid (HP.out w2 ho2 hm2)
  have HO2 := Lib.hid ho2; clear ho2
  clear hm2 KEEP HP HA
  have hz1 : Below w2.heap.size w2 w2.drew := (Below.refl _ _).drew
  have oz : Only m w2 w2.drew := Only.of hz1
  go_wp2_with fail
  go_region_held3 (fun W => W.cell? ⟨b, 2, none⟩ = some (.pointer pl) ∧ W.cell? ⟨b, 3, none⟩ = some (.pointer pr)) (first | exact KP.out _ oz | exact KP.out _ oA | fail) (first
    | (go_at_call 31; (with_reducible refine (HP2.out _ hz1).mono ?_); rintro e wA ⟨pA, tA, v', rfl, hA, hev, hli, hmA, hn1, hn2, hoA⟩; have oA := oz.trans hoA)
    | fail)
  all_goals
    go_wp2_with fail
    go_ret2
    exact ⟨pA, tA, v', rfl, hA, hev, hli, hmA, hn1, hn2, HO2.out.trans oA⟩
theorem delete_side {F : Nat → Prop} {l r : Tr} {q0 : Pr} (z : Int) (s : Tr) (w : World) (p m A : Option Addr) (k : List UInt8) (kc' v c : Nat) (ih : DeleteAt F s) (hF : Fut F w) (ht : Tre F w (.node l q0 r) p) (hm : Met w m v c) (hk : Bts w A k) (he : (Tr.node l q0 r).even) (hsr : srt (l.list ++ q0 :: r.list)) (hs : l.size + r.size < 1400) (hv1 : v + 1 + s.high ≤ 1000000) (hc1 : c + 1 + s.high ≤ 1000000) (hz : z = cmp k q0.1) (hz0 : z ≠ 0) (hside : (if z < 0 then l else r) = s) :
    Calls Try.prog 17 #[.pointer p, .slice A k.length kc', .pointer m] w fun e w' => ∃ p' t' v' c', e = .returned (.tuple #[.pointer p', .bool (has s.list k)]) ∧ Tre F w' t' p' ∧ t'.even ∧ t'.list = either z (out l.list k ++ q0 :: r.list) (l.list ++ q0 :: out r.list k) ∧ Met w' m v' c' ∧ v + 1 ≤ v' ∧ v' ≤ v + 1 + s.high ∧ c + 1 ≤ c' ∧ c' + v ≤ c + v' ∧ Only m w w' := by
  have hag := against_any kc' ht hm hk (by omega) (by omega)
  rw [← hz] at hag
  have hps := tre_some ht (by intro e; cases e)
  obtain ⟨bp, rfl, _⟩ := hps
  obtain ⟨p1, p2, p3, p4, p5⟩ := srt_parts hsr
  have es : s.even ∧ srt s.list ∧ s.size < 1400 := by
    rw [← hside]
    split
    · exact ⟨he.2.1, p1, by omega⟩
    · exact ⟨he.2.2, p2, by omega⟩
  have hsd := fun w2 (ho : Only m w w2) => side_any z (ht.only hm ho)
  rw [hside] at hsd
  have hwi := fun w2 (ho : Only m w w2) (hm2 : Met w2 m (v + 1) (c + 1)) ps (hps : Tre F w2 s ps) => ih w2 ps m A k kc' (v + 1) (c + 1) (hF.later ho.size) hps hm2 (hk.only hm ho) es.1 es.2.1 es.2.2 hv1 hc1
  have htr := fun w2 (ho : Only m w w2) (hm2 : Met w2 m (v + 1) (c + 1)) W (hW : Only m w2 W) => ((ht.only hm ho).only hm2 hW)
  have htu := fun w2 (ho : Only m w w2) (hm2 : Met w2 m (v + 1) (c + 1)) W (hW : Only m w2 W) o po (hpo : Tre F W o po) (eo : o.even) (hol : o.list = out s.list k) => turned_any z ((hF.later ho.size).later hW.size) ((ht.only hm ho).only hm2 hW) hpo he.2.1 he.2.2 eo (by have h := out_length s.list k; rw [← hol, Tr.length, Tr.length] at h; omega)
  have hlist : ∀ (o t : Tr), o.list = out s.list k → (t.list = if z < 0 then o.list ++ q0 :: r.list else l.list ++ q0 :: o.list) → t.list = either z (out l.list k ++ q0 :: r.list) (l.list ++ q0 :: out r.list k) := by
    intro o t h1 h2
    rw [h2, h1, ← hside]
    unfold either
    split <;> rfl
  have hsame : has s.list k = false → (Tr.node l q0 r).list = either z (out l.list k ++ q0 :: r.list) (l.list ++ q0 :: out r.list k) := by
    intro h
    have e : out s.list k = s.list := (out_none fun x hx e => by
      have : has s.list k = true := List.any_eq_true.2 ⟨x, hx, decide_eq_true e⟩
      rw [h] at this
      cases this).1
    rw [← hside] at e
    unfold either
    split
    · rename_i hlt
      rw [if_pos hlt] at e
      rw [e]; rfl
    · rename_i hlt
      rw [if_neg hlt] at e
      rw [e]; rfl
  obtain ⟨x, hx⟩ : ∃ x, x = k.length := ⟨_, rfl⟩
  obtain ⟨ok, hok⟩ : ∃ ok, ok = has s.list k := ⟨_, rfl⟩
  simp only [← hx, ← hok] at hag hwi hsame ⊢
  have d0 : (z == 0) = false := by simpa using hz0
  have HE := Lib.hid he; clear he
  have HA := Lib.hid hag; clear hag
  have HS := Lib.hid hsd; clear hsd
  have HWI := Lib.hid hwi; clear hwi
  have HT := Lib.hid htu; clear htu
  have HTR := Lib.hid htr; clear htr
  have HL := Lib.hid hlist; clear hlist
  have HSM := Lib.hid hsame; clear hsame
  clear hx hk hF ht hs hm hv1 hc1 hside hsr p1 p2 p3 p4 p5 es ih hz hok
  go_enter Try.func17, Try.ntmps17
  go_wp2_with fail
  refine HA.out.mono ?_
  rintro e w2 ⟨rfl, hm2, ho2⟩
  have HS2 := Lib.hid (HS.out w2 ho2)
  have HWI2 := Lib.hid (HWI.out w2 ho2 hm2)
  have HT2 := Lib.hid (HT.out w2 ho2 hm2)
  have HTR2 := Lib.hid (HTR.out w2 ho2 hm2)
  have HO2 := Lib.hid ho2; clear ho2
  clear hm2 HS HWI HT HA HTR
  go_wp2_with fail
  refine HS2.out.mono ?_
  rintro e wS ⟨⟨ps, rfl, hps⟩, rfl⟩
  have HWI3 := Lib.hid (HWI2.out ps hps)
  clear HWI2 hps HS2
  go_wp2_with fail
  refine HWI3.out.mono ?_
  rintro e wA ⟨pA, tA, v', c', rfl, hA, hev, hli, hmA, hcnt, hoA⟩
  have HT3 := Lib.hid (HT2.out wA hoA tA pA hA hev hli)
  have HTR3 := Lib.hid (HTR2.out wA hoA)
  have HLI := Lib.hid hli; clear hli
  have HMA := Lib.hid hmA; clear hmA
  have HCN := Lib.hid hcnt; clear hcnt
  have HOA := Lib.hid hoA; clear hoA
  clear HT2 HTR2 HWI3 hA hev
  cases ok with
  | false =>
    go_wp2_with fail
    go_ret2
    obtain ⟨n1, n2, n3, n4, n5⟩ := HCN.out
    exact ⟨_, _, v', c', rfl, HTR3.out, HE.out, HSM.out (by trivial), HMA.out, n1, n2, n3, by omega, HO2.out.trans HOA.out⟩
  | true =>
    go_wp2_with fail
    refine HT3.out.mono ?_
    rintro e wB ⟨pB, tB, rfl, hB, hevB, hliB, hbB⟩
    have HB := Lib.hid hB; clear hB
    have HLB := Lib.hid hliB; clear hliB
    have HBB := Lib.hid hbB; clear hbB
    go_wp2_with fail
    go_ret2
    obtain ⟨n1, n2, n3, n4, n5⟩ := HCN.out
    exact ⟨pB, tB, v', c', rfl, HB.out, hevB, HL.out _ _ HLI.out HLB.out, HMA.out.below HBB.out, n1, n2, n3, by omega, HO2.out.trans (HOA.out.trans (Only.of HBB.out))⟩
theorem deleteAt (F : Nat → Prop) : ∀ t : Tr, DeleteAt F t
  | .nil => delete_nil F
  | .node l q0 r => fun w p m A k kc v c hF ht hm hk he hs hsz hv1 hc1 => by
    have hs' : srt (l.list ++ q0 :: r.list) := hs
    have hsz' : l.size + r.size < 1400 := by simp only [Tr.size] at hsz; omega
    have hh : l.high + 1 ≤ (Tr.node l q0 r).high ∧ r.high + 1 ≤ (Tr.node l q0 r).high := by simp only [Tr.high]; omega
    by_cases hz : cmp k q0.1 = 0
    · obtain ⟨o1, o2, _⟩ := out_here hs' (cmp_zero _ _ hz)
      refine (delete_here w p m A k kc v c hF ht hm hk he hsz' (by omega) (by omega) hz).mono ?_
      rintro e w' ⟨p', t', v', rfl, h1, h2, h3, h4, h5, h6, h7⟩
      exact ⟨p', t', v', c + 1, by rw [show (Tr.node l q0 r).list = l.list ++ q0 :: r.list from rfl, o2], h1, h2, h3.trans o1.symm, h4, ⟨by omega, by omega, by omega, by omega, fun _ => by omega⟩, h7⟩
    · by_cases hn : cmp k q0.1 < 0
      · obtain ⟨o1, o2, _⟩ := out_left hs' hn
        refine (delete_side (cmp k q0.1) l w p m A k kc v c (deleteAt F l) hF ht hm hk he hs' hsz' (by omega) (by omega) rfl hz (if_pos hn)).mono ?_
        rintro e w' ⟨p', t', v', c', rfl, h1, h2, h3, h4, h5, h6, h7, h8, h9⟩
        rw [either, if_pos hn] at h3
        exact ⟨p', t', v', c', by rw [show (Tr.node l q0 r).list = l.list ++ q0 :: r.list from rfl, o2], h1, h2, h3.trans o1.symm, h4, ⟨by omega, by omega, by omega, h8, fun _ => by omega⟩, h9⟩
      · obtain ⟨o1, o2, _⟩ := out_right hs' (cmp_neg hn hz)
        refine (delete_side (cmp k q0.1) r w p m A k kc v c (deleteAt F r) hF ht hm hk he hs' hsz' (by omega) (by omega) rfl hz (if_neg hn)).mono ?_
        rintro e w' ⟨p', t', v', c', rfl, h1, h2, h3, h4, h5, h6, h7, h8, h9⟩
        rw [either, if_neg hn] at h3
        exact ⟨p', t', v', c', by rw [show (Tr.node l q0 r).list = l.list ++ q0 :: r.list from rfl, o2], h1, h2, h3.trans o1.symm, h4, ⟨by omega, by omega, by omega, h8, fun _ => by omega⟩, h9⟩
/-- how many pairs the tree at a pointer has, by its own count -/
def szAt (x : Value) (w : World) : Nat := match x with
  | .pointer (some a) => (match w.cell? ⟨a.block, 4, none⟩ with
    | some (.int _ n) => n.toNat + 1
    | _ => 0)
  | _ => 0
theorem szAt_tre {F : Nat → Prop} {w : World} {t : Tr} {p : Option Addr} (h : Tre F w t p) : szAt (.pointer p) w = t.size := by
  cases t with
  | nil => obtain rfl : p = none := h; rfl
  | node l q r =>
    obtain ⟨b, _, _, _, _, _, _, rfl, h, _⟩ := h
    simp only [szAt, h.cells.2.2.2.2, Tr.size]
    omega
/-- where a look for a key has come to -/
structure GetAt (F : Nat → Prop) (m : Option Addr) (k : List UInt8) (t : Tr) (w : World) (v c : Nat) (s : Tr) (ps : Option Addr) (wr : World) (v' c' : Nat) : Prop where
  tre : Tre F wr s ps
  met : Met wr m v' c'
  only : Only m w wr
  hasEq : has s.list k = has t.list k
  valEq : val s.list k = val t.list k
  sorted : srt s.list
  sub : ∀ x ∈ s.list, x ∈ t.list
  high : v' + s.high ≤ v + t.high
  vis : v ≤ v'
  cmps : c ≤ c'
  less : c' + v ≤ c + v'
  new : v = v' → s = t
theorem GetAt.next {F : Nat → Prop} {m : Option Addr} {k : List UInt8} {t : Tr} {w wr w2 : World} {v c v' c' : Nat} {l r : Tr} {q : Pr} {ps p2 : Option Addr} (h : GetAt F m k t w v c (.node l q r) ps wr v' c') (hm : Met w2 m (v' + 1) (c' + 1)) (ho : Only m wr w2) (hz : cmp k q.1 ≠ 0) (h2 : Tre F w2 (if cmp k q.1 < 0 then l else r) p2) :
    GetAt F m k t w v c (if cmp k q.1 < 0 then l else r) p2 w2 (v' + 1) (c' + 1) := by
  have hs : srt (l.list ++ q :: r.list) := h.sorted
  obtain ⟨s1, s2, _⟩ := srt_parts hs
  have hsub : ∀ x ∈ l.list ++ q :: r.list, x ∈ t.list := h.sub
  have hh := h.high
  have hv := h.vis
  have hc := h.cmps
  have hl := h.less
  simp only [Tr.high] at hh
  by_cases hn : cmp k q.1 < 0
  · obtain ⟨_, o2, o3⟩ := out_left hs hn
    rw [if_pos hn] at h2 ⊢
    exact ⟨h2, hm, h.only.trans ho, o2.symm.trans h.hasEq, o3.symm.trans h.valEq, s1, fun x hx => hsub x (by simp [hx]), by omega, by omega, by omega, by omega, fun e => by omega⟩
  · obtain ⟨_, o2, o3⟩ := out_right hs (cmp_neg hn hz)
    rw [if_neg hn] at h2 ⊢
    exact ⟨h2, hm, h.only.trans ho, o2.symm.trans h.hasEq, o3.symm.trans h.valEq, s2, fun x hx => hsub x (by simp [hx]), by omega, by omega, by omega, by omega, fun e => by omega⟩
theorem get_any {F : Nat → Prop} {w : World} {t : Tr} {p m A : Option Addr} {k : List UInt8} {v c : Nat} (kc : Nat) (ht : Tre F w t p) (hm : Met w m v c) (hk : Bts w A k) (hn : ∀ x ∈ t.list, x.2.length ≤ 100000) (hsr : srt t.list) (hv1 : v + t.high ≤ 1000000) (hc1 : c ≤ v) :
    Calls Try.prog 44 #[.pointer p, .slice A k.length kc, .pointer m] w fun e w' => ∃ A' cc v' c', e = .returned (.tuple #[.slice A' (val t.list k).length cc, .bool (has t.list k)]) ∧ Bts w' A' (val t.list k) ∧ Met w' m v' c' ∧ Count t v c v' c' ∧ Only m w w' := by
  have h0 : GetAt F m k t w v c t p w v c := ⟨ht, hm, Only.refl _ _, rfl, rfl, hsr, fun _ h => h, Nat.le_refl _, Nat.le_refl _, Nat.le_refl _, by omega, fun _ => rfl⟩
  have H0 := Lib.hid h0; clear h0
  have HK := Lib.hid hk; clear hk
  have HM := Lib.hid hm; clear hm
  have HN := Lib.hid hn; clear hn
  have HV := Lib.hid hv1; clear hv1
  have HC := Lib.hid hc1; clear hc1
  obtain ⟨x, hx⟩ : ∃ x, x = k.length := ⟨_, rfl⟩
  obtain ⟨vl, hvl⟩ : ∃ vl, vl = val t.list k := ⟨_, rfl⟩
  obtain ⟨hv, hhv⟩ : ∃ hv, hv = has t.list k := ⟨_, rfl⟩
  rw [← hx, ← hvl, ← hhv]
  have HX := Lib.hid hx; clear hx
  have HVL := Lib.hid hvl; clear hvl
  have HHV := Lib.hid hhv; clear hhv
  clear ht hsr
  go_enter Try.func44, Try.ntmps44
  go_wp2_with fail
  go_loopw [0] (fun y wr => ∃ (ps : Option Addr), y = .pointer ps ∧ Hid (∃ s v' c', GetAt F m k t w v c s ps wr v' c')) (fun y wr => szAt y wr)
  case atStart => exact ⟨p, rfl, t, v, c, H0.out⟩
  case round =>
    obtain ⟨ps, rfl, s, v', c', hg⟩ := hrel
    have hv2 : v' ≤ 1000000 ∧ c' ≤ 1000000 := by have := hg.high; have := hg.vis; have := hg.less; have := HV.out; have := HC.out; omega
    cases s with
    | nil =>
      obtain rfl : ps = none := hg.tre
      have HG := Lib.hid hg; clear hg
      clear hv2
      go_wp2_with fail
      go_ret2
      have e1 := HG.out.hasEq
      have e2 := HG.out.valEq
      have e3 := HG.out.vis
      have e4 := HG.out.high
      refine ⟨none, 0, v', c', ?_, .inl ?_, HG.out.met, ⟨e3, by omega, HG.out.cmps, HG.out.less, fun hne => ?_⟩, HG.out.only⟩
      · rw [HVL.out, HHV.out, ← e1, ← e2]; rfl
      · rw [HVL.out, ← e2]; rfl
      · rcases Nat.lt_or_eq_of_le e3 with h | h
        · exact h
        · exact absurd (HG.out.new h).symm hne
    | node l q r =>
      have hag := against_any kc hg.tre hg.met (HK.out.only HM.out hg.only) hv2.1 hv2.2
      obtain ⟨b, ka, kc0, va, vc, pl, pr, rfl, nd, hl, hr⟩ := hg.tre
      have hsz := szAt_tre hg.tre
      have HSZ := Lib.hid hsz; clear hsz
      by_cases hz : cmp k q.1 = 0
      · rw [hz, ← HX.out] at hag
        have hval : vl = q.2 ∧ hv = true := by
          obtain ⟨_, o2, o3⟩ := out_here (l := l.list) (r := r.list) hg.sorted (cmp_zero _ _ hz)
          exact ⟨by rw [HVL.out, ← hg.valEq]; exact o3, by rw [HHV.out, ← hg.hasEq]; exact o2⟩
        obtain ⟨hvq, rfl⟩ := hval
        have hlen : q.2.length ≤ 100000 := HN.out q (hg.sub q (by simp [Tr.list]))
        have hcp := fun w2 (ho : Only m wr w2) => copy_any (nd.only hg.met ho).2.2.2.bts vc hlen
        have hc1 := fun w2 (ho : Only m wr w2) => (nd.only hg.met ho).cells.2.1
        rw [← hvq] at hcp hc1
        obtain ⟨y, hy⟩ : ∃ y, y = vl.length := ⟨_, rfl⟩
        rw [← hy] at hcp hc1
        have HY := Lib.hid hy; clear hy
        have HA := Lib.hid hag; clear hag
        have HCP := Lib.hid hcp; clear hcp
        have HC1 := Lib.hid hc1; clear hc1
        have HG := Lib.hid hg; clear hg
        clear nd hl hr hvq hz hlen hv2 HSZ
        go_wp2_with fail
        refine HA.out.mono ?_
        rintro e w2 ⟨rfl, hm2, ho2⟩
        have HCP2 := Lib.hid (HCP.out w2 ho2)
        have c1 := HC1.out w2 ho2
        have HM2 := Lib.hid hm2; clear hm2
        have HO2 := Lib.hid ho2; clear ho2
        go_wp2_with fail
        refine HCP2.out.mono ?_
        rintro e w3 ⟨rfl, hrow, hb3⟩
        have HR := Lib.hid hrow; clear hrow
        have HB3 := Lib.hid hb3; clear hb3
        clear c1
        go_wp2_with fail
        go_ret2
        have e3 := HG.out.vis
        have e4 := HG.out.high
        have e5 := HG.out.cmps
        have e6 := HG.out.less
        simp only [Tr.high] at e4
        exact ⟨_, y, v' + 1, c' + 1, by rw [← HY.out]; rfl, bts_row HR.out, HM2.out.below HB3.out, ⟨by omega, by omega, by omega, by omega, fun _ => by omega⟩, (HG.out.only.trans HO2.out).trans (Only.of HB3.out)⟩
      · have hsd := fun w2 (ho : Only m wr w2) => side_any (cmp k q.1) (hg.tre.only hg.met ho)
        have hnx := fun w2 (hm2 : Met w2 m (v' + 1) (c' + 1)) (ho : Only m wr w2) p2 h2 => hg.next (p2 := p2) hm2 ho hz h2
        obtain ⟨z, hz1⟩ : ∃ z, z = cmp k q.1 := ⟨_, rfl⟩
        obtain ⟨sd, hsd1⟩ : ∃ sd, sd = if z < 0 then l else r := ⟨_, rfl⟩
        have hlt : sd.size < (Tr.node l q r).size := by rw [hsd1]; simp only [Tr.size]; split <;> omega
        simp only [← hz1, ← HX.out, ← hsd1] at hag hsd hnx hz
        have d0 : (z == 0) = false := by simpa using hz
        have HA := Lib.hid hag; clear hag
        have HS := Lib.hid hsd; clear hsd
        have HNX := Lib.hid hnx; clear hnx
        have HG := Lib.hid hg; clear hg
        have HLT := Lib.hid hlt; clear hlt
        clear nd hl hr hz1 hsd1 hv2
        go_wp2_with fail
        refine HA.out.mono ?_
        rintro e w2 ⟨rfl, hm2, ho2⟩
        have HS2 := Lib.hid (HS.out w2 ho2)
        have HNX2 := Lib.hid (HNX.out w2 hm2 ho2)
        clear hm2 ho2 HA HS HNX
        go_wp2_with fail
        refine HS2.out.mono ?_
        rintro e w3 ⟨⟨p2, rfl, h2⟩, rfl⟩
        have HN2 := Lib.hid (HNX2.out p2 h2)
        have HT2 := Lib.hid h2; clear h2
        clear HNX2 HS2
        go_wp2_with fail
        go_roundw
        case rel => exact ⟨p2, rfl, _, _, _, HN2.out⟩
        case measure => rw [szAt_tre HT2.out, HSZ.out]; exact HLT.out
end Go.Proofs.Ytkcfanckkomdbaa
