/-
  Contracts of find.isBranch and find.down: the way of a hash, from the top on, with a meter and without.
-/
import Derived.Test.YtajanacbifjmgaaDoorKins
import Derived.Test.YtajanacbifjmgaaDoorChunk
import Derived.Test.YtajanacbifjmgaaDoorNods
import Derived.Test.YtajanacbifjmgaaDoorLooks
import Derived.Deep.DeepCutAuto
import Derived.Test.YtajanacbifjmgaaDoorRefz
import Derived.Laws.StructEq
namespace Go.Proofs.YtajanacbifjmgaaDoor
open Go.RowKit
set_option maxHeartbeats 4000000
set_option maxRecDepth 100000
attribute [local irreducible] Bt.lst
theorem isBranch_any {F : Nat → Prop} {w : World} {x : Nd} {v : Value} (h : Nde F w x v) : Calls Tryd.prog 39 #[v] w fun e w' => e = .returned (.bool (x.kind == 3)) ∧ w = w' := by
  have H := Lib.hid (map_any h)
  clear h
  obtain ⟨b, hb⟩ : ∃ b, b = (x.kind == 3) := ⟨_, rfl⟩
  rw [← hb] at H ⊢
  clear hb
  go_enter Tryd.func39, Tryd.ntmps39
  go_wp2_with fail
  refine H.out.mono ?_
  rintro e w' ⟨rfl, rfl⟩
  go_wp2_with fail
  go_ret
  exact ⟨rfl, rfl⟩
theorem kept_only {F : Nat → Prop} {m : Option Addr} {w w' : World} (hF : ∀ a, m = some a → ¬ F a.block) (h : Only m w w') : Kept F w w' := fun b hb hl => h.block b hl (fun a e k => hF a e (k ▸ hb))
/-- how far a way down has come -/
structure Way18 (F : Nat → Prop) (m : Option Addr) (h : Nat) (x : Nd) (w : World) (vv c : Nat) (y : Nd) (v : Value) (wr : World) (l : Nat) : Prop where
  nde : Nde F wr y v
  ok : y.ok
  right : y.right l = true
  fin : y.endAt h l = x.endAt h 0
  deep : y.deep h l + l = x.deep h 0
  met : Met wr m (vv + l) c
  only : Only m w wr
/-- the child on the way, or none -/
theorem Way18.step {F : Nat → Prop} {m : Option Addr} {h : Nat} {x : Nd} {w : World} {vv c m' k : Nat} {kid : Nat → Nd} {v : Value} {wr : World} {l : Nat} (hy : Way18 F m h x w vv c (.bran m' k kid) v wr l) :
    ∀ W vk, Nde F W (if ((ch h l : Nat) : Int) ∈ (Nd.bran m' k kid).set then (Nd.bran m' k kid).kid (Bt.less (Nd.bran m' k kid).set ((ch h l : Nat) : Int)) else .none) vk → Met W m (vv + l + 1) c → Only m w W → ∃ y, Way18 F m h x w vv c y vk W (l + 1) := by
  intro W vk hn hm ho
  have h1 := hy.ok
  have h2 := hy.right
  have h3 := hy.fin
  have h4 := hy.deep
  rw [Nd.endAt] at h3
  rw [Nd.deep] at h4
  by_cases hc : ((ch h l : Nat) : Int) ∈ (Nd.bran m' k kid).set
  · have hc' : ((ch h l : Nat) : Int) ∈ Bt.lst m' 32 := hc
    rw [if_pos hc] at hn
    rw [if_pos hc'] at h3 h4
    have hlt := (less_at hc').1
    rw [h1.2.2.1] at hlt
    rw [Nd.right, Bool.and_eq_true, Bool.and_eq_true] at h2
    have hk := (allTo_iff _ _).1 h2.2.2 _ hlt
    rw [Bool.and_eq_true] at hk
    exact ⟨_, hn, (h1.2.2.2 _ hlt).2, hk.1, h3, by show (kid (Bt.less (Bt.lst m' 32) ((ch h l : Nat) : Int))).deep h (l + 1) + (l + 1) = _; omega, hm, ho⟩
  · have hc' : ¬ ((ch h l : Nat) : Int) ∈ Bt.lst m' 32 := hc
    rw [if_neg hc] at hn
    rw [if_neg hc'] at h3 h4
    exact ⟨.none, hn, trivial, rfl, h3, by show 0 + (l + 1) = _; omega, hm, ho⟩
theorem down_any {F : Nat → Prop} {w : World} {x : Nd} {v : Value} {m : Option Addr} {h vv c : Nat} (hn : Nde F w x v) (ho : x.ok) (hr : x.right 0 = true) (hm : Met w m vv c) (hF : ∀ a, m = some a → ¬ F a.block) (hh : h < 18446744073709551616) (hv : vv ≤ 900000) :
    Calls Tryd.prog 22 #[v, .int .u64 (h : Int), .pointer m] w fun e w' => ∃ ve, e = .returned ve ∧ Nde F w' (x.endAt h 0) ve ∧ Met w' m (vv + x.deep h 0) c ∧ Only m w w' := by
  have H0 : Hid (Way18 F m h x w vv c x v w 0) := ⟨hn, ho, hr, rfl, rfl, hm, Only.refl _ _⟩
  have HF := Lib.hid hF; clear hF
  clear hn ho hr hm
  go_enter Tryd.func22, Tryd.ntmps22
  go_wp2_with fail
  go_loopw [0, 7] (fun n lv wr => ∃ l : Nat, lv = .int .i64 l ∧ l ≤ 13 ∧ Hid (∃ y, Way18 F m h x w vv c y n wr l)) (fun _ lv _ => 14 - (intOf lv).toNat)
  case atStart => exact ⟨0, rfl, by omega, x, H0.out⟩
  case round =>
    obtain ⟨l, rfl, hl, y, hy⟩ := hrel
    have his := isBranch_any hy.nde
    cases hk : (y.kind == 3) with
    | false =>
      rw [hk] at his
      have HIS := Lib.hid his; clear his
      have hk3 : y.kind ≠ 3 := by simpa using hk
      have HE := Lib.hid (end_flat h l hk3)
      have HY := Lib.hid hy; clear hy
      clear hk hk3
      go_wp2_with fail
      refine HIS.out.mono ?_
      rintro e w2 ⟨rfl, rfl⟩
      go_wp2_with fail
      go_ret
      obtain ⟨e1, e2⟩ := HE.out
      have e3 := HY.out.deep
      have e4 := HY.out.met
      rw [e2] at e3
      rw [show l = x.deep h 0 by omega] at e4
      exact ⟨_, rfl, by rw [← HY.out.fin, e1]; exact HY.out.nde, e4, HY.out.only⟩
    | true =>
      rw [hk] at his
      have HIS := Lib.hid his; clear his
      have hk3 : y.kind = 3 := by simpa using hk
      cases y with
      | none => cases hk3
      | leaf _ _ => cases hk3
      | buck _ _ => cases hk3
      | bran m' k kid =>
        have hl12 : l ≤ 12 := by
          have := hy.right
          rw [Nd.right, Bool.and_eq_true] at this
          exact of_decide_eq_true this.1
        have hvis := visit_any hy.met (by omega)
        obtain ⟨ch1, hch⟩ : ∃ q, q = ch h l := ⟨_, rfl⟩
        have hat := fun W => at_nat h l W hh hl12
        have hkid := fun W (K : Kept F wr W) => kid_any (w := W) ((ch h l : Nat) : Int) (hy.nde.kept K) hy.ok
        have hst := hy.step
        simp only [← hch] at hat hkid hst
        obtain ⟨b, hb⟩ : ∃ b, b = decide ((ch1 : Int) ∈ (Nd.bran m' k kid).set) := ⟨_, rfl⟩
        simp only [← hb] at hkid
        have HVIS := Lib.hid hvis; clear hvis
        have HAT := Lib.hid hat; clear hat
        have HKID := Lib.hid hkid; clear hkid
        have HST := Lib.hid hst; clear hst
        have HON := Lib.hid hy.only
        clear hy hk hk3 hch hb
        go_wp2_with fail
        refine HIS.out.mono ?_
        rintro e w2 ⟨rfl, rfl⟩
        go_wp2_with fail
        refine HVIS.out.mono ?_
        rintro e w3 ⟨rfl, hm3, ho3⟩
        have HM3 := Lib.hid hm3; clear hm3
        have HO3 := Lib.hid ho3; clear ho3
        have HK3 := Lib.hid (kept_only HF.out HO3.out)
        go_wp2_with fail
        refine (HAT.out _).mono ?_
        rintro e w4 ⟨rfl, rfl⟩
        go_wp2_with fail
        refine (HKID.out _ HK3.out).mono ?_
        rintro e w5 ⟨⟨vk, rfl, hvk⟩, n5, rfl⟩
        have HVK := Lib.hid hvk; clear hvk
        go_wp2_with fail
        go_roundw
        case rel =>
          have o := HON.out.trans HO3.out
          exact ⟨l + 1, by go_num, by omega, HST.out _ _ (HVK.out.kept (show Kept F w3 (w3.drewN n5) from fun _ _ _ => rfl)) HM3.out ⟨o.os, o.tape, o.output, o.size, o.block⟩⟩
        case measure => simp [intOf]; omega
end Go.Proofs.YtajanacbifjmgaaDoor
/-
  Contracts of find.fromLeaf, find.Get, find.Depth: what is told of a key under a hash, and what is counted.
-/
namespace Go.Proofs.YtajanacbifjmgaaDoor
open Go.RowKit
set_option maxHeartbeats 4000000
set_option maxRecDepth 100000
attribute [local irreducible] Bt.lst
theorem one_here (p : Pr) : has [p] p.1 = true ∧ val [p] p.1 = p.2 := by simp [has, val]
theorem one_other {p : Pr} {k : List UInt8} (h : p.1 ≠ k) : has [p] k = false ∧ val [p] k = [] := by simp [has, val, h]
theorem fromLeaf_any {F : Nat → Prop} {w : World} {h : Nat} {p : Pr} {v : Value} {m A : Option Addr} {k : List UInt8} {vv c : Nat} (kc : Nat) (hn : Nde F w (.leaf h p) v) (ho : (Nd.leaf h p).ok) (hm : Met w m vv c) (hk : Bts w A k) (hc : c ≤ 900000) :
    Calls Tryd.prog 27 #[v, .slice A k.length kc, .pointer m] w fun e w' => ∃ A' cc, e = .returned (.tuple #[.slice A' (val [p] k).length cc, .bool (has [p] k)]) ∧ Bts w' A' (val [p] k) ∧ Met w' m vv (c + 1) ∧ Only m w w' := by
  have hp : Calls Tryd.prog 46 #[v] w fun e w' => ∃ A B c d, e = .returned (.tuple #[.agg #[.slice A p.1.length c, .slice B p.2.length d], .bool true]) ∧ Bts w' A p.1 ∧ Bts w' B p.2 ∧ Below w.heap.size w w' := pair_any hn ho
  obtain ⟨x1, hx1⟩ : ∃ x : Nat, x = p.1.length := ⟨_, rfl⟩
  obtain ⟨x2, hx2⟩ : ∃ x : Nat, x = p.2.length := ⟨_, rfl⟩
  obtain ⟨x3, hx3⟩ : ∃ x : Nat, x = k.length := ⟨_, rfl⟩
  rw [← hx1, ← hx2] at hp
  rw [← hx3]
  have HP := Lib.hid hp; clear hp
  have HM := Lib.hid hm; clear hm
  have HK := Lib.hid hk; clear hk
  have HX := Lib.hid (And.intro hx1 (And.intro hx2 hx3)); clear hx1 hx2 hx3
  clear hn ho
  go_enter Tryd.func27, Tryd.ntmps27
  go_wp2_with fail
  refine HP.out.mono ?_
  rintro e w2 ⟨A1, B1, c1, d1, rfl, hA, hB, b2⟩
  obtain ⟨gp, hgp⟩ : ∃ gp, gp = w2.heap.size := ⟨_, rfl⟩
  obtain ⟨w3, hw3⟩ : ∃ w3, w3 = w2.alloc (.cells #[.slice A1 x1 c1, .slice B1 x2 d1] 49) := ⟨_, rfl⟩
  have b23 : Below w2.heap.size w2 w3 := by rw [hw3]; exact (Below.refl _ _).alloc (Nat.le_refl _) _
  have hs3 : w3.heap.size = gp + 1 := by rw [hw3, hgp]; simp
  have r3 : w3.heap[gp]? = some (.cells #[.slice A1 x1 c1, .slice B1 x2 d1] 49 (0, 0)) := by rw [hw3, hgp]; exact heap_alloc_new w2 _
  have b3 := below_then b2 b23
  have hm3 := HM.out.below b3
  have hcm := mcompare_any hm3 (by omega) kc c1 (HK.out.below b3) (hA.below b23)
  rw [← HX.out.1, ← HX.out.2.2] at hcm
  obtain ⟨d0, d1', _, _⟩ := row2 r3
  have HST : Hid (∀ W, Only m w3 W → W.cell? ⟨gp, 1, none⟩ = some (.slice B1 x2 d1) ∧ Bts W B1 p.2) := fun W hW => by
    have := hW.cell hm3 (row2 r3).1 (by intro z e; cases e) (by omega)
    exact ⟨(row2 (this.trans r3)).2.1, (hB.below b23).only hm3 hW⟩
  have HCM := Lib.hid hcm; clear hcm
  have HB3 := Lib.hid b3; clear b3
  have HW3 := Lib.hid hw3; clear hw3
  have HGP := Lib.hid hgp; clear hgp
  clear hA hB b2 b23 r3 hs3 hm3 d1' HP
  go_wp2_with fail
  simp only [← HGP.out] at HW3 ⊢
  rw [← HW3.out]
  obtain ⟨z, hz⟩ : ∃ z, z = cmp k p.1 := ⟨_, rfl⟩
  rw [← hz] at HCM
  by_cases hz0 : z = 0
  · have hke : p.1 = k := (cmp_zero _ _ (hz.symm.trans hz0)).symm
    obtain ⟨e1, e2⟩ := one_here p
    rw [hke] at e1 e2
    have HE := Lib.hid (And.intro e1 e2)
    have hzb : (z != 0) = false := by simp [hz0]
    clear hke e1 e2 hz hz0
    go_wp2_with fail
    refine HCM.out.mono ?_
    rintro e w4 ⟨rfl, hm4, ho4⟩
    obtain ⟨q1, q2⟩ := HST.out w4 ho4
    have HQ2 := Lib.hid q2; clear q2
    have HM4 := Lib.hid hm4; clear hm4
    have HO4 := Lib.hid ho4; clear ho4
    go_wp2_with fail
    go_ret2
    rw [HE.out.1, HE.out.2, ← HX.out.2.1]
    exact ⟨_, d1, rfl, HQ2.out, HM4.out, (Only.of HB3.out).trans HO4.out⟩
  · have hke : p.1 ≠ k := fun e => hz0 (by rw [hz, e]; exact cmp_self k)
    obtain ⟨e1, e2⟩ := one_other hke
    have HE := Lib.hid (And.intro e1 e2)
    have hzb : (z != 0) = true := by simp [hz0]
    clear hke e1 e2 hz hz0
    go_wp2_with fail
    refine HCM.out.mono ?_
    rintro e w4 ⟨rfl, hm4, ho4⟩
    have HM4 := Lib.hid hm4; clear hm4
    have HO4 := Lib.hid ho4; clear ho4
    go_wp2_with fail
    go_ret2
    rw [HE.out.1, HE.out.2]
    exact ⟨none, 0, rfl, .inl rfl, HM4.out, (Only.of HB3.out).trans HO4.out⟩
/-- is a key in the node where a way ended, and its value, if that has the hash -/
def Nd.hasIn (y : Nd) (h : Nat) (k : List UInt8) : Bool := decide (y.kind ≠ 0 ∧ y.hash = h) && has y.prs k
def Nd.valIn (y : Nd) (h : Nat) (k : List UInt8) : List UInt8 := if y.kind ≠ 0 ∧ y.hash = h then val y.prs k else []
theorem key_in (x : Nd) (h : Nat) (k : List UInt8) : x.hasKey h k = (x.endAt h 0).hasIn h k ∧ x.valKey h k = (x.endAt h 0).valIn h k := ⟨rfl, rfl⟩
/-- what a look counts behind so many branches -/
def Seen (y : Nd) (h v c v' c' : Nat) : Prop :=
  (y.kind = 1 → v' = v + 1 ∧ c' = c + (if y.hash = h then 1 else 0)) ∧ (y.kind = 0 ∨ y.hash ≠ h ∧ y.kind = 2 → v' = v ∧ c' = c) ∧ (y.kind = 2 → y.hash = h → v < v' ∧ ∃ t : Tr, t.even ∧ t.list = y.prs ∧ v' ≤ v + t.high) ∧ c' + v ≤ c + v' ∧ c ≤ c'
theorem get18_any {F : Nat → Prop} {w : World} {x : Nd} {v : Value} {m A : Option Addr} {k : List UInt8} {h vv c : Nat} (kc : Nat) (hn : Nde F w x v) (ho : x.ok) (hr : x.right 0 = true) (hm : Met w m vv c) (hF : ∀ a, m = some a → ¬ F a.block) (hh : h < 18446744073709551616) (hk : Bts w A k) (hv : vv ≤ 800000) (hc : c ≤ vv) :
    Calls Tryd.prog 14 #[v, .int .u64 (h : Int), .slice A k.length kc, .pointer m] w fun e w' => ∃ A' cc v' c', e = .returned (.tuple #[.slice A' (x.valKey h k).length cc, .bool (x.hasKey h k)]) ∧ Bts w' A' (x.valKey h k) ∧ Met w' m v' c' ∧ Only m w w' ∧ Seen (x.endAt h 0) h (vv + x.deep h 0) c v' c' := by
  have hdn := down_any hn ho hr hm hF hh (by omega)
  obtain ⟨e1, e2⟩ := key_in x h k
  obtain ⟨hk3, hok⟩ := end_kind x h 0 ho
  have hd13 := deep_le x h 0 ho hr (by decide)
  rw [e1, e2]
  obtain ⟨Y, hY⟩ : ∃ Y, Y = x.endAt h 0 := ⟨_, rfl⟩
  obtain ⟨d, hd⟩ : ∃ d, d = x.deep h 0 := ⟨_, rfl⟩
  rw [← hY, ← hd] at hdn ⊢
  rw [← hY] at hk3 hok
  rw [← hd] at hd13
  obtain ⟨x3, hx3⟩ : ∃ x : Nat, x = k.length := ⟨_, rfl⟩
  rw [← hx3]
  have HX3 := Lib.hid hx3; clear hx3
  have HDN := Lib.hid hdn; clear hdn
  have HM := Lib.hid hm; clear hm
  have HK := Lib.hid hk; clear hk
  have HOK := Lib.hid hok; clear hok
  have HF := Lib.hid hF; clear hF
  clear hn ho hr e1 e2 hY hd
  cases Y with
  | bran _ _ _ => exact absurd rfl hk3
  | none =>
    have hha : ∀ W v, Nde F W .none v → Calls Tryd.prog 23 #[v] W fun e w' => e = .returned (.tuple #[.int .u64 0, .bool false]) ∧ W = w' := fun W v h => hash_any h
    have htr : ∀ W v, Nde F W .none v → Calls Tryd.prog 24 #[v] W fun e w' => (∃ p, e = .returned (.tuple #[.pointer p, .bool false])) ∧ W = w' := fun W v h => (tree_any h).mono fun e w' ⟨⟨p, h1, h2⟩, h3⟩ => ⟨⟨p, h1⟩, h3⟩
    have HHA := Lib.hid hha; clear hha
    have HTR := Lib.hid htr; clear htr
    clear hk3
    go_enter Tryd.func14, Tryd.ntmps14
    go_wp2_with fail
    refine HDN.out.mono ?_
    rintro e w2 ⟨ve, rfl, hn2, hm2, ho2⟩
    have N2 := Lib.hid hn2; clear hn2
    have M2 := Lib.hid hm2; clear hm2
    have O2 := Lib.hid ho2; clear ho2
    go_wp2_with fail
    refine (HHA.out w2 ve N2.out).mono ?_
    rintro e w' ⟨rfl, rfl⟩
    go_wp2_with fail
    refine (HTR.out w2 ve N2.out).mono ?_
    rintro e w' ⟨⟨p, rfl⟩, rfl⟩
    go_wp2_with fail
    go_ret2
    exact ⟨none, 0, vv + d, c, rfl, .inl rfl, M2.out, O2.out, fun e => (by cases e), fun _ => ⟨rfl, rfl⟩, fun e => (by cases e), by omega, Nat.le_refl _⟩
  | leaf h' p =>
    have hha : ∀ W v, Nde F W (.leaf h' p) v → Calls Tryd.prog 23 #[v] W fun e w' => e = .returned (.tuple #[.int .u64 (h' : Int), .bool true]) ∧ W = w' := fun W v h => hash_any h
    have htr : ∀ W v, Nde F W (.leaf h' p) v → Calls Tryd.prog 24 #[v] W fun e w' => (∃ p, e = .returned (.tuple #[.pointer p, .bool false])) ∧ W = w' := fun W v h => (tree_any h).mono fun e w' ⟨⟨p, h1, h2⟩, h3⟩ => ⟨⟨p, h1⟩, h3⟩
    have hvi := fun W (M : Met W m (vv + d) c) => visit_any M (by omega)
    have hfl := fun W v M B (hn : Nde F W (.leaf h' p) v) => fromLeaf_any (m := m) (A := A) (k := k) (vv := M) (c := B) kc hn HOK.out
    rw [← HX3.out] at hfl
    have HHA := Lib.hid hha; clear hha
    have HTR := Lib.hid htr; clear htr
    have HVI := Lib.hid hvi; clear hvi
    have HFL := Lib.hid hfl; clear hfl
    clear hk3
    go_enter Tryd.func14, Tryd.ntmps14
    go_wp2_with fail
    refine HDN.out.mono ?_
    rintro e w2 ⟨ve, rfl, hn2, hm2, ho2⟩
    have N2 := Lib.hid hn2; clear hn2
    have M2 := Lib.hid hm2; clear hm2
    have O2 := Lib.hid ho2; clear ho2
    go_wp2_with fail
    refine (HHA.out w2 ve N2.out).mono ?_
    rintro e w' ⟨rfl, rfl⟩
    go_wp2_with fail
    refine (HTR.out w2 ve N2.out).mono ?_
    rintro e w' ⟨⟨p0, rfl⟩, rfl⟩
    go_wp2_with fail
    refine (HVI.out w2 M2.out).mono ?_
    rintro e w3 ⟨rfl, hm3, ho3⟩
    have N3 := Lib.hid (N2.out.kept (kept_only HF.out ho3))
    have M3 := Lib.hid hm3; clear hm3
    have O3 := Lib.hid (O2.out.trans ho3); clear ho3
    by_cases he : h' = h
    · subst he
      have heb : ((h' : Int) != (h' : Int)) = false := by simp
      have J := Lib.hid (HFL.out w3 ve (vv + d + 1) c N3.out M3.out (HK.out.only HM.out O3.out) (by omega))
      go_wp2_with fail
      refine J.out.mono ?_
      rintro e w4 ⟨A', cc, rfl, hb4, hm4, ho4⟩
      have B4 := Lib.hid hb4; clear hb4
      have M4 := Lib.hid hm4; clear hm4
      have O4 := Lib.hid (O3.out.trans ho4); clear ho4
      go_wp2_with fail
      go_ret2
      have e1 : (Nd.leaf h' p).hasIn h' k = has [p] k := by simp [Nd.hasIn, Nd.kind, Nd.hash, Nd.prs]
      have e2 : (Nd.leaf h' p).valIn h' k = val [p] k := by simp [Nd.valIn, Nd.kind, Nd.hash, Nd.prs]
      rw [e1, e2]
      exact ⟨A', cc, vv + d + 1, c + 1, rfl, B4.out, M4.out, O4.out, fun _ => ⟨rfl, by rw [show (Nd.leaf h' p).hash = h' from rfl, if_pos rfl]⟩, fun e => (by rcases e with e | ⟨_, e⟩ <;> cases e), fun e => (by cases e), by omega, by omega⟩
    · have heb : ((h' : Int) != (h : Int)) = true := by simp; omega
      have HE := Lib.hid he; clear he
      go_wp2_with fail
      go_ret2
      have e0 : ¬ ((Nd.leaf h' p).kind ≠ 0 ∧ (Nd.leaf h' p).hash = h) := fun e => HE.out e.2
      have e1 : (Nd.leaf h' p).hasIn h k = false := by rw [Nd.hasIn, decide_eq_false e0]; rfl
      have e2 : (Nd.leaf h' p).valIn h k = [] := by rw [Nd.valIn, if_neg e0]
      rw [e1, e2]
      exact ⟨none, 0, vv + d + 1, c, rfl, .inl rfl, M3.out, O3.out, fun _ => ⟨rfl, by rw [show (Nd.leaf h' p).hash = h' from rfl, if_neg HE.out]; rfl⟩, fun e => (by rcases e with e | ⟨_, e⟩ <;> cases e), fun e => (by cases e), by omega, by omega⟩
  | buck h' L =>
    have hha : ∀ W v, Nde F W (.buck h' L) v → Calls Tryd.prog 23 #[v] W fun e w' => e = .returned (.tuple #[.int .u64 (h' : Int), .bool true]) ∧ W = w' := fun W v h => hash_any h
    have htr : ∀ W v, Nde F W (.buck h' L) v → Calls Tryd.prog 24 #[v] W fun e w' => (∃ p, e = .returned (.tuple #[.pointer p, .bool true]) ∧ ∃ t, Tre F W t p ∧ t.even ∧ t.list = L) ∧ W = w' := fun W v h => (tree_any h).mono fun e w' ⟨⟨p, h1, h2⟩, h3⟩ => ⟨⟨p, h1, by
      rcases h2 with ⟨h2, _⟩ | ⟨t, k1, k2, k3, _⟩
      · exact absurd rfl h2
      · exact ⟨t, k1, k2, k3⟩⟩, h3⟩
    have hL : ∀ x ∈ L, x.2.length ≤ 100000 := fun x hx => by have := HOK.out.2.2.2.2 x hx; omega
    have hgt := fun W (t : Tr) p (ht : Tre F W t p) (e : t.even) (hl : t.list = L) (M : Met W m (vv + d) c) (B : Bts W A k) => get_any (m := m) (A := A) (k := k) (v := vv + d) (c := c) kc ht M B (by rw [hl]; exact hL) (by rw [hl]; exact HOK.out.2.2.2.1) (by
      have h1 := (Tr.high_cube e (by rw [← Tr.length, hl]; have := HOK.out.2.2.1; omega)).1
      omega) (by omega)
    rw [← HX3.out] at hgt
    have HHA := Lib.hid hha; clear hha
    have HTR := Lib.hid htr; clear htr
    have HGT := Lib.hid hgt; clear hgt
    clear hk3 hL
    go_enter Tryd.func14, Tryd.ntmps14
    go_wp2_with fail
    refine HDN.out.mono ?_
    rintro e w2 ⟨ve, rfl, hn2, hm2, ho2⟩
    have N2 := Lib.hid hn2; clear hn2
    have M2 := Lib.hid hm2; clear hm2
    have O2 := Lib.hid ho2; clear ho2
    go_wp2_with fail
    refine (HHA.out w2 ve N2.out).mono ?_
    rintro e w' ⟨rfl, rfl⟩
    go_wp2_with fail
    refine (HTR.out w2 ve N2.out).mono ?_
    rintro e w' ⟨⟨p0, rfl, t, ht, hte, htl⟩, rfl⟩
    have HT := Lib.hid (And.intro ht (And.intro hte htl)); clear ht hte htl
    by_cases he : h' = h
    · subst he
      have heb : ((h' : Int) != (h' : Int)) = false := by simp
      have J := Lib.hid (HGT.out w2 t p0 HT.out.1 HT.out.2.1 HT.out.2.2 M2.out (HK.out.only HM.out O2.out))
      go_wp2_with fail
      refine J.out.mono ?_
      rintro e w4 ⟨A', cc, v', c', rfl, hb4, hm4, hct, ho4⟩
      have B4 := Lib.hid hb4; clear hb4
      have M4 := Lib.hid hm4; clear hm4
      have CT := Lib.hid hct; clear hct
      have O4 := Lib.hid (O2.out.trans ho4); clear ho4
      go_wp2_with fail
      go_ret2
      have e1 : (Nd.buck h' L).hasIn h' k = has t.list k := by simp [Nd.hasIn, Nd.kind, Nd.hash, Nd.prs, HT.out.2.2]
      have e2 : (Nd.buck h' L).valIn h' k = val t.list k := by simp [Nd.valIn, Nd.kind, Nd.hash, Nd.prs, HT.out.2.2]
      rw [e1, e2]
      obtain ⟨c1, c2, c3, c4, c5⟩ := CT.out
      refine ⟨A', cc, v', c', rfl, B4.out, M4.out, O4.out, fun e => (by cases e), fun e => ?_, fun _ _ => ⟨c5 fun e => ?_, t, HT.out.2.1, HT.out.2.2, c2⟩, by omega, c3⟩
      · rcases e with e | ⟨e, _⟩
        · cases e
        · exact absurd rfl e
      · have h1 := HT.out.2.2
        have h2 := HOK.out.2.1
        rw [e] at h1
        rw [← h1] at h2
        exact absurd h2 (by decide)
    · have heb : ((h' : Int) != (h : Int)) = true := by simp; omega
      have HE := Lib.hid he; clear he
      go_wp2_with fail
      go_ret2
      have e0 : ¬ ((Nd.buck h' L).kind ≠ 0 ∧ (Nd.buck h' L).hash = h) := fun e => HE.out e.2
      have e1 : (Nd.buck h' L).hasIn h k = false := by rw [Nd.hasIn, decide_eq_false e0]; rfl
      have e2 : (Nd.buck h' L).valIn h k = [] := by rw [Nd.valIn, if_neg e0]
      rw [e1, e2]
      exact ⟨none, 0, vv + d, c, rfl, .inl rfl, M2.out, O2.out, fun e => (by cases e), fun _ => ⟨rfl, rfl⟩, fun _ e => absurd e HE.out, by omega, Nat.le_refl _⟩
theorem depth_any {w : World} {x : Nd} {v : Value} {h : Nat} (hn : Nde (fun b => b < w.heap.size) w x v) (ho : x.ok) (hr : x.right 0 = true) (hh : h < 18446744073709551616) :
    Calls Tryd.prog 15 #[v, .int .u64 (h : Int)] w fun e w' => e = .returned (.int .i64 ((x.deep h 0 : Nat) : Int)) ∧ Below w.heap.size w w' := by
  obtain ⟨g, hg⟩ : ∃ g, g = w.heap.size := ⟨_, rfl⟩
  obtain ⟨w1, hw1⟩ : ∃ w1, w1 = w.alloc (.cells #[.int .i64 0, .int .i64 0] 54) := ⟨_, rfl⟩
  have hb1 : Below w.heap.size w w1 := by rw [hw1]; exact (Below.refl _ _).alloc (Nat.le_refl _) _
  have r1 : w1.heap[g]? = some (.cells #[.int .i64 0, .int .i64 0] 54 (0, 0)) := by rw [hw1, hg]; exact heap_alloc_new w _
  have hm : Met w1 (some ⟨g, 0, none⟩) 0 0 := .inr ⟨g, rfl, r1⟩
  have hd := down_any (hn.below hb1) ho hr hm (fun a e => by cases e; show ¬ g < w.heap.size; omega) hh (by decide)
  rw [Nat.zero_add] at hd
  obtain ⟨dd, hdd⟩ : ∃ d, d = x.deep h 0 := ⟨_, rfl⟩
  rw [← hdd] at hd ⊢
  have HD := Lib.hid hd; clear hd
  have HB := Lib.hid hb1; clear hb1
  have HW := Lib.hid hw1; clear hw1
  have HG := Lib.hid hg; clear hg
  clear hn ho hr hh r1 hm hdd
  go_enter Tryd.func15, Tryd.ntmps15
  go_wp2_with fail
  simp only [← HG.out] at HW ⊢
  rw [← HW.out]
  refine HD.out.mono ?_
  rintro e w2 ⟨ve, rfl, _, hm2, ho2⟩
  have HO2 : Hid (Below g w1 w2) := ho2.below (by have := HB.out.size; have := HG.out; omega) (Nat.le_refl _)
  obtain ⟨g2, hg2, r2⟩ : ∃ g2, (some (⟨g, 0, none⟩ : Addr)) = some ⟨g2, 0, none⟩ ∧ w2.heap[g2]? = some (.cells #[.int .i64 (dd : Int), .int .i64 ((0 : Nat) : Int)] 54 (0, 0)) := by
    rcases hm2 with h | h
    · cases h
    · exact h
  cases hg2
  have c0 := (row2 r2).1
  clear r2 hm2 ho2
  go_wp2_with fail
  go_ret
  have := HB.out
  rw [← HG.out] at this
  exact ⟨rfl, by rw [← HG.out]; exact this.trans HO2.out⟩
end Go.Proofs.YtajanacbifjmgaaDoor
/-
  Contract of the reference's Get of a map as a list, with the value; meters compared; entries that come to themselves.
-/
namespace Go.Proofs.YtajanacbifjmgaaDoor
open Go.RowKit
set_option maxHeartbeats 400000
set_option maxRecDepth 100000
theorem val_at {M : List Pr} {k : List UInt8} {j : Nat} (hj : j < M.length) (hno : has (M.take j) k = false) (he : (M[j]).1 = k) : val M k = (M[j]).2 := by
  have e : M = M.take j ++ (M[j] :: M.drop (j + 1)) := by rw [List.getElem_cons_drop, List.take_append_drop]
  have h0 : ∀ x ∈ M.take j, x.1 ≠ k := fun x hx hk => by
    have := List.any_eq_false.1 hno x hx
    simp [hk] at this
  have h1 : val M k = val (M[j] :: M.drop (j + 1)) k := by
    conv => lhs; rw [e]
    exact val_none h0
  rw [h1]
  unfold val
  rw [List.find?_cons_of_pos (by simpa using he)]
  rfl
theorem val_no {M : List Pr} {k : List UInt8} (hno : has M k = false) : val M k = [] := by
  have h0 : ∀ x ∈ M, x.1 ≠ k := fun x hx hk => by
    have := List.any_eq_false.1 hno x hx
    simp [hk] at this
  have := val_none (b := []) h0
  rw [List.append_nil] at this
  rw [this]
  rfl
theorem refGet_val {w : World} {A : Option Addr} {M : List Pr} (ha : Rcs w A M) (c : Nat) (k : List UInt8) (hlen : M.length ≤ 1000) :
    Calls Tryd.prog 13 #[.slice A M.length c, .string ⟨k.toArray⟩] w fun e w' => e = .returned (.tuple #[.string ⟨(val M k).toArray⟩, .bool (has M k)]) ∧ Below w.heap.size w w' := by
  have HA := Lib.hid ha; clear ha
  obtain ⟨kk, hkk⟩ : ∃ s : ByteArray, s = ⟨k.toArray⟩ := ⟨_, rfl⟩
  rw [← hkk]
  have HK := Lib.hid hkk; clear hkk
  obtain ⟨vv, hvv⟩ : ∃ s : ByteArray, s = ⟨(val M k).toArray⟩ := ⟨_, rfl⟩
  rw [← hvv]
  have HV := Lib.hid hvv; clear hvv
  go_enter Tryd.func13, Tryd.ntmps13
  go_wp2
  go_loopw [10] (fun i wr => ∃ j : Nat, i = .int .i64 j ∧ j ≤ M.length ∧ Hid (Below w.heap.size w wr) ∧ Hid (has (M.take j) k = false)) (fun i _ => M.length - (intOf i).toNat)
  case atStart => exact ⟨0, rfl, by omega, Below.refl _ _, by simp [Hid, has]⟩
  case round =>
    obtain ⟨j, rfl, hj, hbel, hno⟩ := hrel
    by_cases hlt : j < M.length
    · obtain ⟨b', rfl, hbl', k1, k2⟩ := (HA.out.below hbel.out).at hlt
      obtain ⟨s, hs⟩ : ∃ s : ByteArray, s = ⟨(M[j]).1.toArray⟩ := ⟨_, rfl⟩
      obtain ⟨t, ht⟩ : ∃ s : ByteArray, s = ⟨(M[j]).2.toArray⟩ := ⟨_, rfl⟩
      rw [← hs] at k1
      rw [← ht] at k2
      clear HA
      by_cases he : (M[j]).1 = k
      · have e1 : s = kk := by rw [hs, HK.out, he]
        subst e1
        have e2 : t = vv := by rw [ht, HV.out, val_at hlt hno.out he]
        subst e2
        have HE : Hid (has M k = true) := List.any_eq_true.2 ⟨M[j], List.getElem_mem hlt, by simpa using he⟩
        clear hs ht he
        go_wp2_with fail
        go_ret2
        exact ⟨by rw [HE.out]; rfl, hbel.out.alloc hbel.out.size _⟩
      · have e2 : (s.toList == kk.toList) = false := by rw [hs, HK.out]; exact bs_ne he
        have HE := Lib.hid (decide_eq_false he)
        clear hs ht he
        go_wp2_with fail
        go_roundw
        case rel => exact ⟨j + 1, by go_num, by omega, hbel.out.alloc hbel.out.size _, by show _ = _; rw [has_take hlt, hno.out, HE.out]; rfl⟩
        case measure => simp [intOf]; omega
    · obtain rfl : j = M.length := by omega
      have HE : Hid (has M k = false) := by
        have h := hno.out
        rw [List.take_length] at h
        exact h
      have HV2 : Hid (vv = ⟨#[]⟩) := by show _ = _; rw [HV.out, val_no HE.out]
      go_wp2_with fail
      go_ret2
      exact ⟨by rw [HE.out, HV2.out]; rfl, hbel.out⟩
/-! ### two meters compared -/
theorem eq_met (a b c d : Int) (w : World) : (binOp .eql 54 (.agg #[.int .i64 a, .int .i64 b]) (.agg #[.int .i64 c, .int .i64 d])).run Tryd.prog w = .ok (.bool (a == c && b == d)) w := by
  have u3 := Tryd.underlying3
  have a3 := Tryd.isAgg3
  have z3 := Tryd.sizeOf3
  have hS : Tryd.prog.underlying 54 = some (.struct (Tryd.prog.fieldsOf 54)) := by kernel_rfl
  have hp : Tryd.prog.stoodInHeld 54 = false := by kernel_rfl
  rw [run_eql_struct, show (10000 : Nat) = 9999 + 1 from rfl, run_equalIn_agg w 9999 54 _ _ hS hp]
  simp only [Program.fieldsOf, Tryd.underlying54]
  go_simp
  by_cases h0 : a = c <;> by_cases h1 : b = d <;> simp [h0, h1]
theorem guard_met (w : World) (x y : Operand) (xs ys : Array Value) : (eqGuard .eql 54 x y (.agg xs) (.agg ys)).run Tryd.prog w = .ok () w :=
  run_eqGuard_agg w .eql 54 x y _ _ (by kernel_rfl)
end Go.Proofs.YtajanacbifjmgaaDoor
