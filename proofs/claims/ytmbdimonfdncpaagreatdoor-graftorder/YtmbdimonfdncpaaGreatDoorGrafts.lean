/-
  Contracts of bits.Of and chunk.Common.
-/
import Derived.Test.YtmbdimonfdncpaaGreatDoorBuilts
import Derived.Test.YtmbdimonfdncpaaGreatDoorFinds
import Derived.Test.YtmbdimonfdncpaaGreatDoorBranch
import Derived.Test.YtmbdimonfdncpaaGreatDoorFrom
import Derived.Test.YtmbdimonfdncpaaGreatDoorKins
import Derived.Deep.RegionHeld3
import Derived.Deep.DeepCutAuto
import Derived.Test.YtmbdimonfdncpaaGreatDoorWeight
import Derived.Test.YtmbdimonfdncpaaGreatDoorLooks
namespace Go.Proofs.YtmbdimonfdncpaaGreatDoor
open Go.RowKit
set_option maxHeartbeats 4000000
set_option maxRecDepth 100000
attribute [local irreducible] Bt.lst
theorem bitsOf_any (L : List Int) (A : Option Addr) (c : Nat) (w : World) (hb : Bt.Ints w A L) (hL : L.length < 1000000000000) :
    Calls Tryz.prog 66 #[.slice A L.length c] w fun e w' => e = .returned (.int .u32 ((Bt.ofL L : Nat) : Int)) ∧ w = w' := by
  have HB := Lib.hid hb; clear hb
  go_enter Tryz.func66, Tryz.ntmps66
  go_wp2_with fail
  go_loop [3, 8] (fun a i => ∃ j n : Nat, i = .int .i64 j ∧ j ≤ L.length ∧ a = .int .u32 (n : Int) ∧ n < 4294967296 ∧ Hid (n = Bt.ofL (L.take j))) (fun _ i => L.length - (intOf i).toNat)
  case atStart => exact ⟨0, 0, rfl, by omega, rfl, by omega, by show _ = _; simp [Bt.ofL]⟩
  case round =>
    obtain ⟨j, n, rfl, hj, rfl, hn, hle⟩ := hrel
    by_cases hlt : j < L.length
    · obtain ⟨b, off, rfl, hcell⟩ := HB.out.at_ j hlt
      have hm : n ||| Bt.one L[j] = Bt.ofL (L.take (j + 1)) := by rw [hle.out, ← Bt.ofL_snoc, List.take_succ_eq_append_getElem hlt]
      obtain ⟨y, hy⟩ : ∃ y, y = L[j] := ⟨_, rfl⟩
      rw [← hy] at hcell hm
      have hw := with_any n y w hn
      have hlt2 : n ||| Bt.one y < 4294967296 := by rw [hm]; exact Bt.of_lt _
      obtain ⟨n2, hn2⟩ : ∃ n2, n2 = n ||| Bt.one y := ⟨_, rfl⟩
      rw [← hn2] at hw hm hlt2
      have HM := Lib.hid hm; clear hm
      have HW := Lib.hid hw; clear hw
      clear hy hle hn2
      go_wp2_with fail
      refine HW.out.mono ?_
      rintro e w' ⟨rfl, rfl⟩
      go_wp2_with fail
      go_round
      case rel => exact ⟨j + 1, n2, by go_num, by omega, rfl, hlt2, HM.out⟩
      case measure => simp [intOf]; omega
    · obtain rfl : j = L.length := by omega
      have hn3 : (n : Int) = ((Bt.ofL L : Nat) : Int) := by rw [hle.out, List.take_length]
      have HN3 := Lib.hid hn3
      clear hle hn3
      go_wp2
      go_ret
      exact ⟨ret_int HN3.out, rfl⟩
/-- the level at which two hashes part -/
theorem common_any (a b d : Nat) (w : World) (ha : a < 18446744073709551616) (hb : b < 18446744073709551616) (hd : d ≤ 12) (h1 : ∀ i, i < d → ch a i = ch b i) (h2 : ¬ ch a d = ch b d) :
    Calls Tryz.prog 64 #[.int .u64 (a : Int), .int .u64 (b : Int)] w fun e w' => e = .returned (.int .i64 (d : Int)) ∧ w = w' := by
  have H1 := Lib.hid h1; clear h1
  have H2 := Lib.hid h2; clear h2
  go_enter Tryz.func64, Tryz.ntmps64
  go_wp2_with fail
  go_loop [6] (fun i => ∃ j : Nat, j ≤ d ∧ i = .int .i64 j) (fun i => 13 - (intOf i).toNat)
  case atStart => exact ⟨0, by omega, rfl⟩
  case round =>
    obtain ⟨j, hj, rfl⟩ := hrel
    have k1 := at_nat a j w ha (by omega)
    have k2 := at_nat b j w hb (by omega)
    have hj13 : (j : Int) < 13 := by omega
    obtain ⟨x, hx⟩ : ∃ x, x = ch a j := ⟨_, rfl⟩
    obtain ⟨y, hy⟩ : ∃ y, y = ch b j := ⟨_, rfl⟩
    rw [← hx] at k1
    rw [← hy] at k2
    have K1 := Lib.hid k1; clear k1
    have K2 := Lib.hid k2; clear k2
    by_cases hlt : j < d
    · obtain rfl : x = y := by rw [hx, hy]; exact H1.out j hlt
      have hxx : ((x : Int) != (x : Int)) = false := by simp
      clear hx hy
      go_wp2_with fail
      refine K1.out.mono ?_
      rintro e w' ⟨rfl, rfl⟩
      go_wp2_with fail
      refine K2.out.mono ?_
      rintro e w' ⟨rfl, rfl⟩
      go_wp2_with fail
      go_round
      case rel => exact ⟨j + 1, by omega, by go_num⟩
      case measure => simp [intOf]; omega
    · obtain rfl : j = d := by omega
      have hne : ¬ x = y := by rw [hx, hy]; exact H2.out
      have hxx : ((x : Int) != (y : Int)) = true := by simp; omega
      clear hx hy
      go_wp2_with fail
      refine K1.out.mono ?_
      rintro e w' ⟨rfl, rfl⟩
      go_wp2_with fail
      refine K2.out.mono ?_
      rintro e w' ⟨rfl, rfl⟩
      go_wp2_with fail
      go_ret
      exact ⟨rfl, rfl⟩
end Go.Proofs.YtmbdimonfdncpaaGreatDoor
/-
  Contracts of graft's kindOf, alone, bucket and parted.
-/
namespace Go.Proofs.YtmbdimonfdncpaaGreatDoor
open Go.RowKit
set_option maxHeartbeats 4000000
set_option maxRecDepth 100000
attribute [local irreducible] Bt.lst
theorem kindOf_any {F : Nat → Prop} {w : World} {x : Nd} {v : Value} (h : Nde F w x v) : Calls Tryz.prog 25 #[v] w fun e w' => e = .returned (.int .i64 (x.kind : Int)) ∧ w = w' := by
  have hh := hash_any h
  have hm := map_any h
  by_cases hx : x = .none
  · subst hx
    obtain rfl : v = .nilIface := h
    have hh' : Calls Tryz.prog 30 #[.nilIface] w fun e w' => e = .returned (.tuple #[.int .u64 0, .bool false]) ∧ w = w' := hh
    have hm' : Calls Tryz.prog 31 #[.nilIface] w fun e w' => e = .returned (.tuple #[.int .u32 0, .bool false]) ∧ w = w' := hm
    have HH := Lib.hid hh'; clear hh hh'
    have HM := Lib.hid hm'; clear hm hm'
    go_enter Tryz.func25, Tryz.ntmps25
    go_wp2_with fail
    refine HH.out.mono ?_
    rintro e w' ⟨rfl, rfl⟩
    go_wp2_with fail
    refine HM.out.mono ?_
    rintro e w' ⟨rfl, rfl⟩
    go_wp2_with fail
    go_ret
    exact ⟨rfl, rfl⟩
  · obtain ⟨tk, bk, fk, hv0, hmk, hck, hcalk⟩ := kind_meth h hx
    subst hv0
    have hor : (!x.hashed && !(x.kind == 3)) = false := by cases x <;> first | exact absurd rfl hx | rfl
    have hck' := hcalk w (kept_below (Below.refl _ _))
    have m1 := hmk w
    have m3 := hck #[.pointer (some bk)] w
    obtain ⟨bh, hbh⟩ : ∃ b, b = x.hashed := ⟨_, rfl⟩
    obtain ⟨bm, hbm⟩ : ∃ b, b = (x.kind == 3) := ⟨_, rfl⟩
    obtain ⟨kd, hkd⟩ : ∃ k, k = x.kind := ⟨_, rfl⟩
    rw [← hbh] at hh
    rw [← hbm] at hm
    rw [← hbh, ← hbm] at hor
    rw [← hkd] at hck' ⊢
    have HH := Lib.hid hh; clear hh
    have HM := Lib.hid hm; clear hm
    have HCK := Lib.hid hck'; clear hck'
    clear hkd hbh hbm hcalk hmk hck hx h
    cases bh with
    | true =>
      go_enter Tryz.func25, Tryz.ntmps25
      go_wp2_with fail
      refine HH.out.mono ?_
      rintro e w' ⟨rfl, rfl⟩
      go_wp2_with fail
      refine HM.out.mono ?_
      rintro e w' ⟨rfl, rfl⟩
      go_wp2_with fail
      refine HCK.out.mono ?_
      rintro e w' ⟨rfl, rfl⟩
      go_wp2_with fail
      go_ret
      exact ⟨rfl, rfl⟩
    | false =>
      obtain rfl : bm = true := by cases bm <;> first | rfl | cases hor
      clear hor
      go_enter Tryz.func25, Tryz.ntmps25
      go_wp2_with fail
      refine HH.out.mono ?_
      rintro e w' ⟨rfl, rfl⟩
      go_wp2_with fail
      refine HM.out.mono ?_
      rintro e w' ⟨rfl, rfl⟩
      go_wp2_with fail
      refine HCK.out.mono ?_
      rintro e w' ⟨rfl, rfl⟩
      go_wp2_with fail
      go_ret
      exact ⟨rfl, rfl⟩
/-- the box of what is put -/
theorem box_put (w : World) (m : Option Addr) (h : Int) (ka va : Option Addr) (x kc y vc : Nat) : ∃ w1, w1 = w.alloc (.cells #[.pointer m, .int .u64 h, .slice ka x kc, .slice va y vc] 59) ∧ Below w.heap.size w w1 ∧ w1.heap.size = w.heap.size + 1 ∧
    ∀ W, Below w1.heap.size w1 W → W.cell? ⟨w.heap.size, 0, none⟩ = some (.pointer m) ∧ W.cell? ⟨w.heap.size, 1, none⟩ = some (.int .u64 h) ∧ W.cell? ⟨w.heap.size, 2, none⟩ = some (.slice ka x kc) ∧ W.cell? ⟨w.heap.size, 3, none⟩ = some (.slice va y vc) := by
  refine ⟨_, rfl, (Below.refl _ _).alloc (Nat.le_refl _) _, by simp, fun W hW => ?_⟩
  have r := (hW.block w.heap.size (by simp)).trans (heap_alloc_new w (.cells #[.pointer m, .int .u64 h, .slice ka x kc, .slice va y vc] 59))
  exact ⟨row_cell r rfl, row_cell r rfl, row_cell r rfl, row_cell r rfl⟩
/-- what a meter's call leaves of it, too -/
theorem only_box {w w1 W : World} {m m' : Option Addr} {h : Int} {ka va : Option Addr} {x kc y vc v c : Nat} (hw1 : w1 = w.alloc (.cells #[.pointer m', .int .u64 h, .slice ka x kc, .slice va y vc] 59)) (hm : Met w m v c) (ho : Only m w1 W) :
    W.cell? ⟨w.heap.size, 0, none⟩ = some (.pointer m') ∧ W.cell? ⟨w.heap.size, 1, none⟩ = some (.int .u64 h) ∧ W.cell? ⟨w.heap.size, 2, none⟩ = some (.slice ka x kc) ∧ W.cell? ⟨w.heap.size, 3, none⟩ = some (.slice va y vc) := by
  have r : W.heap[w.heap.size]? = some (.cells #[.pointer m', .int .u64 h, .slice ka x kc, .slice va y vc] 59 (0, 0)) := (ho.block w.heap.size (by rw [hw1]; simp) (fun a e => by
    rcases hm with h | ⟨g, h1, h2⟩
    · rw [h] at e; cases e
    · rw [h1] at e
      cases e
      have : g < w.heap.size := (Array.getElem?_eq_some_iff.1 h2).1
      show ¬ _ = g
      omega)).trans (by rw [hw1]; exact heap_alloc_new w _)
  exact ⟨row_cell r rfl, row_cell r rfl, row_cell r rfl, row_cell r rfl⟩
theorem alone_any {F : Nat → Prop} {w : World} {m ka va : Option Addr} {q : Pr} (h kc vc : Nat) (hF : Fut F w) (hk : Bts w ka q.1) (hv : Bts w va q.2) (hn : q.1.length ≤ 100000 ∧ q.2.length ≤ 100000) :
    Calls Tryz.prog 29 #[.agg #[.pointer m, .int .u64 (h : Int), .slice ka q.1.length kc, .slice va q.2.length vc]] w fun e w' => ∃ v, e = .returned v ∧ Nde F w' (.leaf h q) v ∧ Below w.heap.size w w' := by
  obtain ⟨w1, hw1, hb1, hz1, hbox⟩ := box_put w m (h : Int) ka va q.1.length kc q.2.length vc
  have hl := leaf_any h kc vc (hF.later (by omega : w.heap.size ≤ w1.heap.size)) (hk.below hb1) (hv.below hb1) hn
  obtain ⟨x, hx⟩ : ∃ x : Nat, x = q.1.length := ⟨_, rfl⟩
  obtain ⟨y, hy⟩ : ∃ y : Nat, y = q.2.length := ⟨_, rfl⟩
  simp only [← hx, ← hy] at hl hw1 ⊢
  have HL := Lib.hid hl; clear hl
  have HB := Lib.hid hb1; clear hb1
  have HW := Lib.hid hw1; clear hw1
  clear hx hy hbox hz1 hF hk hv hn
  go_enter Tryz.func29, Tryz.ntmps29
  go_wp2_with fail
  rw [← HW.out]
  refine HL.out.mono ?_
  rintro e w2 ⟨v, rfl, hn, hb⟩
  have N2 := Lib.hid hn; clear hn
  have B2 := Lib.hid (below_then HB.out hb); clear hb
  go_wp2_with fail
  go_ret
  exact ⟨v, rfl, N2.out, B2.out⟩
/-- a bucket of two pairs, or of more -/
theorem bucketP_any {F : Nat → Prop} {w : World} {m ka va A : Option Addr} {x y : Nat} (h kc vc c : Nat) {L : List Pr} (hF : Fut F w) (ha : Pcs w A L) (hc : L.length ≤ c) (hl : L.length ≤ 800) (h2 : 2 ≤ L.length) (hf : Fits L) :
    Calls Tryz.prog 45 #[.agg #[.pointer m, .int .u64 (h : Int), .slice ka x kc, .slice va y vc], .slice A L.length c] w fun e w' => ∃ v, e = .returned v ∧ Nde F w' (.buck h L) v ∧ Below w.heap.size w w' := by
  obtain ⟨w1, hw1, hb1, hz1, hbox⟩ := box_put w m (h : Int) ka va x kc y vc
  have hfr := fun W (hW : Below w1.heap.size w1 W) => from_any (hF.later (by have := hW.size; omega : w.heap.size ≤ W.heap.size)) ((ha.below hb1).below hW) hc (by omega) (fun q hq => by have := hf q hq; omega)
  have hbk := fun W t p (hW : w1.heap.size ≤ W.heap.size) (ht : Tre F W t p) (he : t.even) (hl : t.list = L) => bucket_any h (hF.later (by omega : w.heap.size ≤ W.heap.size)) ht he (by rw [← Tr.length, hl]; omega) (by rw [hl]; exact hf)
  have hif : ∀ t : Tr, t.list = L → (if t.list.length = 0 then Nd.none else if t.list.length = 1 then .leaf h (t.list.getD 0 ([], [])) else .buck h t.list) = .buck h L := fun t e => by
    rw [e, if_neg (by omega), if_neg (by omega)]
  obtain ⟨n, hn⟩ : ∃ n, n = L.length := ⟨_, rfl⟩
  simp only [← hn] at hfr ⊢
  have HFR := Lib.hid hfr; clear hfr
  have HBK := Lib.hid hbk; clear hbk
  have HIF := Lib.hid hif; clear hif
  have HB := Lib.hid hb1; clear hb1
  have HBX : Hid (∀ W, Below w1.heap.size w1 W → W.cell? ⟨w.heap.size, 1, none⟩ = some (.int .u64 (h : Int))) := fun W hW => (hbox W hW).2.1
  have HW := Lib.hid hw1; clear hw1
  clear hn hbox hz1 hF ha hc hl h2 hf
  go_enter Tryz.func45, Tryz.ntmps45
  go_upto_region 1 with fail
  rw [← HW.out]
  have hz0 : Below w1.heap.size w1 w1.drew := (Below.refl _ _).drew
  have c1 := HBX.out w1.drew hz0
  go_region_with (first
    | (go_at_call 67; refine (HFR.out _ hz0).mono ?_; rintro e w2 ⟨p2, t2, rfl, ht2, he2, hl2, hb2'⟩; have hb2 := below_then hz0 hb2'; have c2 := HBX.out w2 hb2)
    | (go_at_call 48; refine (HBK.out _ t2 p2 hb2.size ht2 he2 hl2).mono ?_; rintro e w3 ⟨v3, rfl, hn3, hb3⟩; have c3 := HBX.out w3 (below_then hb2 hb3)))
  all_goals
    go_wp2_with fail
    go_ret
    exact ⟨v3, rfl, by rw [HIF.out t2 hl2] at hn3; exact hn3, below_then (below_then HB.out hb2) hb3⟩
end Go.Proofs.YtmbdimonfdncpaaGreatDoor
/-
  Contracts of graft's parted and beside: what is put, beside a node of another hash.
-/
namespace Go.Proofs.YtmbdimonfdncpaaGreatDoor
open Go.RowKit
set_option maxHeartbeats 4000000
set_option maxRecDepth 100000
attribute [local irreducible] Bt.lst
/-- a branch of nodes in a row just made -/
theorem row_branch {F : Nat → Prop} {w : World} {m k : Nat} {kid : Nat → Nd} (vs : List Value) (hvs : vs.length = k) (h : ∀ i (hi : i < vs.length), Nde F w (kid i) vs[i]) (hF : Fut F w) (hm : m < 4294967296) (hlen : (Bt.lst m 32).length = k) (hk0 : 0 < k)
    (ho : ∀ i, i < k → kid i ≠ .none ∧ (kid i).ok) (hs : sumTo (fun i => (kid i).cnt) k ≤ 4611686018427387904) :
    Calls Tryz.prog 52 #[.int .u32 (m : Int), .slice (some ⟨w.heap.size, 0, none⟩) k k] (w.alloc (.cells vs.toArray 34)) fun e w' => ∃ v, e = .returned v ∧ Nde F w' (.bran m k kid) v ∧ Below w.heap.size w w' := by
  have hb : Below w.heap.size w (w.alloc (.cells vs.toArray 34)) := (Below.refl _ _).alloc (Nat.le_refl _) _
  have hr : (w.alloc (.cells vs.toArray 34)).heap[w.heap.size]? = some (.cells vs.toArray 34 (0, 0)) := heap_alloc_new w _
  have hA : Nds F (w.alloc (.cells vs.toArray 34)) (some ⟨w.heap.size, 0, none⟩) k kid := .inr ⟨_, vs, rfl, by simp, hvs, fun i hi => ⟨row_cell hr (by simp [hi]), (h i hi).below hb⟩⟩
  have hk := Bt.list_le m 32
  refine (branch_any k (hF.later hb.size) hm hA (by omega) (fun i hi => (ho i hi).2) hs).mono ?_
  rintro e w' ⟨v, rfl, hn, hb'⟩
  refine ⟨v, rfl, ?_, below_then hb hb'⟩
  have hso : someTo kid k = true := (someTo_iff kid k).2 fun i hi => (ho i hi).1
  rwa [Nd.branch, if_pos (by rw [decide_eq_true hk0, decide_eq_true hlen, hso]; rfl)] at hn
theorem two_ints (w : World) (a b : Int) : Bt.Ints (w.alloc (.cells #[.int .i64 a, .int .i64 b] 3)) (some ⟨w.heap.size, 0, none⟩) [a, b] := by
  refine .inr ⟨_, 0, rfl, by simp, fun i hi => ?_⟩
  have r := heap_alloc_new w (.cells #[.int .i64 a, .int .i64 b] 3)
  have hi2 : i < 2 := hi
  match i, hi2 with
  | 0, _ => exact row_cell r rfl
  | 1, _ => exact row_cell r rfl
theorem one_int (w : World) (a : Int) : Bt.Ints (w.alloc (.cells #[.int .i64 a] 3)) (some ⟨w.heap.size, 0, none⟩) [a] := by
  refine .inr ⟨_, 0, rfl, by simp, fun i hi => ?_⟩
  have r := heap_alloc_new w (.cells #[.int .i64 a] 3)
  have hi2 : i < 1 := hi
  match i, hi2 with
  | 0, _ => exact row_cell r rfl
theorem flatL_ne {L : List En} (h : L ≠ []) : flatL L ≠ .none := by
  have h0 : L.length ≠ 0 := fun e => h (List.length_eq_zero_iff.1 e)
  unfold flatL
  rw [if_neg h0]
  split <;> intro e <;> cases e
theorem parted_any {F : Nat → Prop} {w : World} {m ka va : Option Addr} {f lv g : Nat} {L : List En} {e : En} {v : Value} (kc vc : Nat) (hF : Fut F w) (hG : Good lv L) (hn : L ≠ []) (hs : ∀ a ∈ L, a.1 = g) (hu : Suits L e) (hc : ¬ ch g lv = ch e.1 lv) (hnd : Nde F w (flatL L) v)
    (hk : Bts w ka e.2.1) (hv : Bts w va e.2.2) (he : e.1 < 18446744073709551616 ∧ e.2.1.length ≤ 1000 ∧ e.2.2.length ≤ 1000) :
    Calls Tryz.prog 65 #[.agg #[.pointer m, .int .u64 (e.1 : Int), .slice ka e.2.1.length kc, .slice va e.2.2.length vc], v, .int .i64 ((ch g lv : Nat) : Int), .int .i64 ((ch e.1 lv : Nat) : Int)] w fun r w' => ∃ v', r = .returned v' ∧ Nde F w' (layL (f + 1) lv (putE L e)) v' ∧ Below w.heap.size w w' := by
  obtain ⟨kid, hlay, k0, k1, hlen⟩ := lay_parted (f := f) hn hs hu hc
  rw [hlay]
  obtain ⟨tv, bv, rfl⟩ : ∃ t b, v = .iface t (.pointer (some ⟨b, 0, none⟩)) := by
    rcases hnd.nil_iff with ⟨h, _⟩ | ⟨_, t, b, h⟩
    · exact absurd h (flatL_ne hn)
    · exact ⟨t, b, h⟩
  obtain ⟨w1, hw1, hb1, hz1, hbox⟩ := box_put w m (e.1 : Int) ka va e.2.1.length kc e.2.2.length vc
  obtain ⟨a, ha⟩ : ∃ a, a = ch g lv := ⟨_, rfl⟩
  obtain ⟨b, hb⟩ : ∃ b, b = ch e.1 lv := ⟨_, rfl⟩
  rw [← ha, ← hb] at hlen ⊢
  rw [← ha, ← hb] at k0 k1
  obtain ⟨w2, hw2⟩ : ∃ w2, w2 = w1.alloc (.cells #[.int .i64 (a : Int), .int .i64 (b : Int)] 3) := ⟨_, rfl⟩
  have hb2 : Below w1.heap.size w1 w2 := by rw [hw2]; exact (Below.refl _ _).alloc (Nat.le_refl _) _
  have hof : Calls Tryz.prog 66 #[.slice (some ⟨w1.heap.size, 0, none⟩) 2 2] w2 fun e w' => e = .returned (.int .u32 ((Bt.ofL [(a : Int), (b : Int)] : Nat) : Int)) ∧ w2 = w' := bitsOf_any [(a : Int), (b : Int)] _ 2 w2 (by rw [hw2]; exact two_ints w1 _ _) (by simp)
  have hbw2 := below_then hb1 hb2
  have hal := alone_any (F := F) (m := m) e.1 kc vc (hF.later hbw2.size) (hk.below hbw2) (hv.below hbw2) (by omega)
  have hm := Bt.of_lt [(a : Int), (b : Int)]
  have hokL := flatL_ok hG
  have hneL := flatL_ne hn
  have hcL := flatL_cnt hG
  have hlL := hG.len
  have hoke : (Nd.leaf e.1 e.2).ok := he
  obtain ⟨mm, hmm⟩ : ∃ mm, mm = Bt.ofL [(a : Int), (b : Int)] := ⟨_, rfl⟩
  rw [← hmm] at hof hm hlen ⊢
  have hrow : ∀ W v1, Below w2.heap.size w2 W → Nde F W (.leaf e.1 e.2) v1 → (if b < a then
      Calls Tryz.prog 52 #[.int .u32 (mm : Int), .slice (some ⟨W.heap.size, 0, none⟩) 2 2] (W.alloc (.cells #[v1, .iface tv (.pointer (some ⟨bv, 0, none⟩))] 34)) fun e w' => ∃ v, e = .returned v ∧ Nde F w' (.bran mm 2 kid) v ∧ Below W.heap.size W w'
      else Calls Tryz.prog 52 #[.int .u32 (mm : Int), .slice (some ⟨W.heap.size, 0, none⟩) 2 2] (W.alloc (.cells #[.iface tv (.pointer (some ⟨bv, 0, none⟩)), v1] 34)) fun e w' => ∃ v, e = .returned v ∧ Nde F w' (.bran mm 2 kid) v ∧ Below W.heap.size W w') := fun W v1 hW h1 => by
    have hWb := below_then hbw2 hW
    have hvW := hnd.below hWb
    have hFW := hF.later hWb.size
    by_cases hlt : b < a
    · rw [if_pos hlt] at k0 k1 ⊢
      refine row_branch [v1, .iface tv (.pointer (some ⟨bv, 0, none⟩))] rfl (fun i hi => ?_) hFW hm hlen (by decide) (fun i hi => ?_) (by show 0 + (kid 0).cnt + (kid 1).cnt ≤ _; rw [k0, k1, hcL]; show 0 + 1 + _ ≤ _; omega)
      · have hi2 : i < 2 := hi
        match i, hi2 with
        | 0, _ => rw [k0]; exact h1
        | 1, _ => rw [k1]; exact hvW
      · match i, hi with
        | 0, _ => rw [k0]; exact ⟨(by intro e; cases e), hoke⟩
        | 1, _ => rw [k1]; exact ⟨hneL, hokL⟩
    · rw [if_neg hlt] at k0 k1 ⊢
      refine row_branch [.iface tv (.pointer (some ⟨bv, 0, none⟩)), v1] rfl (fun i hi => ?_) hFW hm hlen (by decide) (fun i hi => ?_) (by show 0 + (kid 0).cnt + (kid 1).cnt ≤ _; rw [k0, k1, hcL]; show 0 + _ + 1 ≤ _; omega)
      · have hi2 : i < 2 := hi
        match i, hi2 with
        | 0, _ => rw [k0]; exact hvW
        | 1, _ => rw [k1]; exact h1
      · match i, hi with
        | 0, _ => rw [k0]; exact ⟨hneL, hokL⟩
        | 1, _ => rw [k1]; exact ⟨(by intro e; cases e), hoke⟩
  obtain ⟨x, hx⟩ : ∃ x : Nat, x = e.2.1.length := ⟨_, rfl⟩
  obtain ⟨y, hy⟩ : ∃ y : Nat, y = e.2.2.length := ⟨_, rfl⟩
  obtain ⟨q, hq⟩ : ∃ q : Nat, q = e.1 := ⟨_, rfl⟩
  rw [← hx, ← hy, ← hq] at hal
  rw [← hx, ← hy, ← hq] at hw1
  rw [← hx, ← hy, ← hq] at hbox
  rw [← hx, ← hy, ← hq]
  rw [← hq] at hrow
  have HOF := Lib.hid hof; clear hof
  have HAL := Lib.hid hal; clear hal
  have HROW := Lib.hid hrow; clear hrow
  have HBX : Hid (∀ W, Below w1.heap.size w1 W → W.cell? ⟨w.heap.size, 0, none⟩ = some (.pointer m) ∧ W.cell? ⟨w.heap.size, 1, none⟩ = some (.int .u64 (q : Int)) ∧ W.cell? ⟨w.heap.size, 2, none⟩ = some (.slice ka x kc) ∧ W.cell? ⟨w.heap.size, 3, none⟩ = some (.slice va y vc)) := hbox
  have HW1 := Lib.hid hw1; clear hw1
  have HW2 := Lib.hid hw2; clear hw2
  have HZ1 := Lib.hid hz1; clear hz1
  have HB2 := Lib.hid hb2; clear hb2
  have HBW := Lib.hid hbw2; clear hbw2
  clear hF hG hn hs hu hc hnd hk hv he hlay k0 k1 hlen hbox hb1 ha hb hm hokL hneL hcL hlL hoke hmm hx hy hq
  go_enter Tryz.func65, Tryz.ntmps65
  go_wp2_with fail
  rw [← HW1.out, ← HW2.out, ← HZ1.out]
  obtain ⟨c0, c1, c2, c3⟩ := HBX.out w2 HB2.out
  refine HOF.out.mono ?_
  rintro r w' ⟨rfl, rfl⟩
  by_cases hlt : b < a
  · have hd : decide ((b : Int) < (a : Int)) = true := decide_eq_true (by omega)
    go_wp2_with fail
    refine HAL.out.mono ?_
    rintro r w3 ⟨v1, rfl, hn1, hb3⟩
    have J := Lib.hid (HROW.out w3 v1 hb3 hn1)
    obtain ⟨t1, b1, rfl⟩ : ∃ t b, v1 = .iface t (.pointer (some ⟨b, 0, none⟩)) := by
      rcases hn1.nil_iff with ⟨h, _⟩ | ⟨_, t, b, h⟩
      · cases h
      · exact ⟨t, b, h⟩
    rw [if_pos hlt] at J
    have B3 := Lib.hid (below_then HBW.out hb3); clear hn1 hb3 HROW hlt
    go_wp2_with fail
    refine J.out.mono ?_
    rintro r w4 ⟨v', rfl, hn4, hb4⟩
    have N4 := Lib.hid hn4
    have B4 := Lib.hid (below_then B3.out hb4); clear hn4 hb4
    go_wp2_with fail
    go_ret
    exact ⟨v', rfl, N4.out, B4.out⟩
  · have hd : decide ((b : Int) < (a : Int)) = false := decide_eq_false (by omega)
    go_wp2_with fail
    refine HAL.out.mono ?_
    rintro r w3 ⟨v1, rfl, hn1, hb3⟩
    have J := Lib.hid (HROW.out w3 v1 hb3 hn1)
    obtain ⟨t1, b1, rfl⟩ : ∃ t b, v1 = .iface t (.pointer (some ⟨b, 0, none⟩)) := by
      rcases hn1.nil_iff with ⟨h, _⟩ | ⟨_, t, b, h⟩
      · cases h
      · exact ⟨t, b, h⟩
    rw [if_neg hlt] at J
    have B3 := Lib.hid (below_then HBW.out hb3); clear hn1 hb3 HROW hlt
    go_wp2_with fail
    refine J.out.mono ?_
    rintro r w4 ⟨v', rfl, hn4, hb4⟩
    have N4 := Lib.hid hn4
    have B4 := Lib.hid (below_then B3.out hb4); clear hn4 hb4
    go_wp2_with fail
    go_ret
    exact ⟨v', rfl, N4.out, B4.out⟩
theorem beside_any {F : Nat → Prop} {w : World} {m ka va : Option Addr} {f lv g : Nat} {L : List En} {e : En} {v : Value} (kc vc : Nat) (hf : f + lv = 13) (hF : Fut F w) (hG : Good lv L) (hn : L ≠ []) (hs : ∀ a ∈ L, a.1 = g) (hu : Suits L e) (hne : ¬ g = e.1) (hl : L.length ≤ 99)
    (hw : ∀ i, i < lv → ch g i = ch e.1 i) (hnd : Nde F w (flatL L) v) (hk : Bts w ka e.2.1) (hv : Bts w va e.2.2) (he : e.1 < 18446744073709551616 ∧ e.2.1.length ≤ 1000 ∧ e.2.2.length ≤ 1000) :
    Calls Tryz.prog 42 #[.agg #[.pointer m, .int .u64 (e.1 : Int), .slice ka e.2.1.length kc, .slice va e.2.2.length vc], v, .int .u64 (g : Int), .int .i64 (lv : Int)] w fun r w' => ∃ v', r = .returned v' ∧ Nde F w' (layL f lv (putE L e)) v' ∧ Below w.heap.size w w' := by
  have hg : g < 18446744073709551616 := by
    obtain ⟨a, ha⟩ := List.exists_mem_of_ne_nil _ hn
    have := (hG.fits a ha).1
    rwa [hs a ha] at this
  obtain ⟨d, hd12, hda, hdn⟩ := part_level hg he.1 hne
  have hld : lv ≤ d := by
    rcases Nat.lt_or_ge d lv with h | h
    · exact absurd (hw d h) hdn
    · exact h
  have hGd : ∀ j, Good j L := fun j => ⟨hG.apart, hG.fits, hG.len, fun x hx y hy i _ => by rw [hs x hx, hs y hy]⟩
  have hPd : ∀ j, j ≤ d → Good j (putE L e) := fun j hj => putE_good (hGd j) he hl fun x hx i hi => by rw [hs x hx]; exact hda i (by omega)
  have hal : alike (putE L e) = false := Bool.eq_false_iff.2 fun k => by
    obtain ⟨a, ha⟩ := List.exists_mem_of_ne_nil _ hn
    exact hne ((hs a ha).symm.trans ((alike_putE hu).1 k a ha))
  obtain ⟨w1, hw1, hb1, hz1, hbox⟩ := box_put w m (e.1 : Int) ka va e.2.1.length kc e.2.2.length vc
  have hcom : ∀ W, Calls Tryz.prog 64 #[.int .u64 (g : Int), .int .u64 (e.1 : Int)] W fun e w' => e = .returned (.int .i64 (d : Int)) ∧ W = w' := fun W => common_any g e.1 d W hg he.1 hd12 hda hdn
  have hat := fun W j z (hz : z = g ∨ z = e.1) (hj : j ≤ 12) => at_nat z j W (show z < 18446744073709551616 by rcases hz with rfl | rfl; exact hg; exact he.1) hj
  have hpar := fun W (hW : Below w1.heap.size w1 W) => parted_any (F := F) (m := m) (f := 12 - d) (lv := d) kc vc (hF.later (below_then hb1 hW).size) (hGd d) hn hs hu hdn (hnd.below (below_then hb1 hW)) (hk.below (below_then hb1 hW)) (hv.below (below_then hb1 hW)) he
  have hone : ∀ j, j < d → ∀ W vb, Below w1.heap.size w1 W → Nde F W (layL (13 - (j + 1)) (j + 1) (putE L e)) vb → Calls Tryz.prog 52 #[.int .u32 ((Bt.ofL [((ch e.1 j : Nat) : Int)] : Nat) : Int), .slice (some ⟨W.heap.size, 0, none⟩) 1 1] (W.alloc (.cells #[vb] 34)) fun r w' => ∃ v, r = .returned v ∧ Nde F w' (layL (13 - j) j (putE L e)) v ∧ Below W.heap.size W w' := fun j hj W vb hW hvb => by
    obtain ⟨kid, k1, k2, k3⟩ := lay_only (f := 13 - (j + 1)) (lv := j) (c := ch e.1 j) hal fun a ha => by
      rcases putE_mem.1 ha with rfl | ⟨ha, _⟩
      · rfl
      · rw [hs a ha]; exact hda j hj
    have hld := lay_laid (13 - (j + 1)) (j + 1) (putE L e) (by omega) (hPd (j + 1) (by omega))
    rw [show 13 - j = 13 - (j + 1) + 1 by omega, k1]
    refine row_branch [vb] rfl (fun i hi => ?_) (hF.later (below_then hb1 hW).size) (Bt.of_lt _) k3 (by decide) (fun i hi => ?_) (by show 0 + (kid 0).cnt ≤ _; rw [k2, hld.cnt]; have := (hPd 0 (by omega)).len; omega)
    · have hi2 : i < 1 := hi
      match i, hi2 with
      | 0, _ => rw [k2]; exact hvb
    · match i, hi with
      | 0, _ => rw [k2]; exact ⟨fun h => putE_ne L e (hld.nil.1 h), hld.ok⟩
  have hne0 : ∀ j, j ≤ d → ∀ W vb, Nde F W (layL (13 - j) j (putE L e)) vb → ∃ t b, vb = .iface t (.pointer (some ⟨b, 0, none⟩)) := fun j hj W vb h => by
    rcases h.nil_iff with ⟨h, _⟩ | ⟨_, t, b, h⟩
    · exact absurd ((lay_laid (13 - j) j (putE L e) (by omega) (hPd j hj)).nil.1 h) (putE_ne L e)
    · exact ⟨t, b, h⟩
  rw [show 12 - d + 1 = 13 - d by omega] at hpar
  obtain ⟨x, hx⟩ : ∃ x : Nat, x = e.2.1.length := ⟨_, rfl⟩
  obtain ⟨y, hy⟩ : ∃ y : Nat, y = e.2.2.length := ⟨_, rfl⟩
  obtain ⟨q, hq⟩ : ∃ q : Nat, q = e.1 := ⟨_, rfl⟩
  obtain ⟨Z, hZ⟩ : ∃ Z : Nat → Nat → Nd, Z = fun a j => layL a j (putE L e) := ⟨_, rfl⟩
  have hZa : ∀ a j, layL a j (putE L e) = Z a j := fun a j => by rw [hZ]
  simp only [hZa] at hpar hone hne0 ⊢
  simp only [← hx, ← hy, ← hq] at hw1 hbox hcom hat hpar hone ⊢
  obtain rfl : f = 13 - lv := by omega
  have HCOM := Lib.hid hcom; clear hcom
  have HAT := Lib.hid hat; clear hat
  have HPAR := Lib.hid hpar; clear hpar
  have HONE := Lib.hid hone; clear hone
  have HNE := Lib.hid hne0; clear hne0
  have HBX : Hid (∀ W, Below w1.heap.size w1 W → W.cell? ⟨w.heap.size, 0, none⟩ = some (.pointer m) ∧ W.cell? ⟨w.heap.size, 1, none⟩ = some (.int .u64 (q : Int)) ∧ W.cell? ⟨w.heap.size, 2, none⟩ = some (.slice ka x kc) ∧ W.cell? ⟨w.heap.size, 3, none⟩ = some (.slice va y vc)) := hbox
  have HW1 := Lib.hid hw1; clear hw1
  have HB1 := Lib.hid hb1; clear hb1
  clear hbox hz1 hF hG hn hs hu hne hl hw hnd hk hv he hg hda hdn hGd hPd hal hx hy hq hZ hZa
  go_enter Tryz.func42, Tryz.ntmps42
  go_wp2_with fail
  rw [← HW1.out]
  obtain ⟨c0, c1, c2, c3⟩ := HBX.out w1 (Below.refl _ _)
  refine (HCOM.out _).mono ?_
  rintro r w' ⟨rfl, rfl⟩
  go_upto_region 2 with fail
  go_cut [10] from 16 (fun s10 wx => Hid (Nde F wx (Z (13 - d) d) s10) ∧ Hid (Below w1.heap.size w1 wx))
  case first =>
    have hz0 : Below w1.heap.size w1 w1.drew := (Below.refl _ _).drew
    go_region_held3 (fun W => W.cell? ⟨w.heap.size, 0, none⟩ = some (.pointer m) ∧ W.cell? ⟨w.heap.size, 1, none⟩ = some (.int .u64 (q : Int)) ∧ W.cell? ⟨w.heap.size, 2, none⟩ = some (.slice ka x kc) ∧ W.cell? ⟨w.heap.size, 3, none⟩ = some (.slice va y vc)) (first | (with_reducible exact HBX.out _ hz0) | (with_reducible exact HBX.out _ hz1)) (first
      | (go_at_call 50; refine (HAT.out _ _ _ (by first | exact .inl rfl | exact .inr rfl) hd12).mono ?_; rintro r w' ⟨rfl, rfl⟩)
      | (go_at_call 65; refine (HPAR.out _ hz0).mono ?_; rintro r w3 ⟨v3, rfl, hn3, hb3⟩; have hz1 := below_then hz0 hb3))
    all_goals
      go_wp2_with fail
      go_meet
      exact ⟨hn3, hz1⟩
  case rest =>
    obtain ⟨hnc, hbc⟩ := hcut
    clear c0 c1 c2 c3 HCOM HPAR
    go_wp2_with fail
    go_loopw [10, 11] (fun b i wr => ∃ j : Nat, i = .int .i64 ((j : Int) - 1) ∧ lv ≤ j ∧ j ≤ d ∧ Hid (Nde F wr (Z (13 - j) j) b) ∧ Hid (Below w1.heap.size w1 wr)) (fun _ i _ => (intOf i + 1).toNat)
    case atStart => exact ⟨d, rfl, hld, Nat.le_refl _, hnc, hbc⟩
    case round =>
      obtain ⟨j, rfl, hlj, hjd, hn, hb⟩ := hrel
      obtain ⟨tb, bb, rfl⟩ := HNE.out j hjd _ _ hn.out
      clear hnc hbc
      by_cases hlt : lv < j
      · obtain ⟨i, rfl⟩ : ∃ i, j = i + 1 := ⟨j - 1, by omega⟩
        obtain ⟨e0, e1, e2, e3⟩ := HBX.out _ hb.out
        have hge : decide ((((i + 1 : Nat) : Int) - 1) ≥ (lv : Int)) = true := decide_eq_true (by omega)
        have hid : (((i + 1 : Nat) : Int) - 1) = (i : Int) := by omega
        rw [hid]
        obtain ⟨wi, hwi⟩ : ∃ wi, wi = wr.alloc (.cells #[.int .i64 ((ch q i : Nat) : Int)] 3) := ⟨_, rfl⟩
        have hbi : Below wr.heap.size wr wi := by rw [hwi]; exact (Below.refl _ _).alloc (Nat.le_refl _) _
        have hof : Calls Tryz.prog 66 #[.slice (some ⟨wr.heap.size, 0, none⟩) 1 1] wi fun e w' => e = .returned (.int .u32 ((Bt.ofL [((ch q i : Nat) : Int)] : Nat) : Int)) ∧ wi = w' := bitsOf_any [((ch q i : Nat) : Int)] _ 1 wi (by rw [hwi]; exact one_int wr _) (by simp)
        have hbw := below_then hb.out hbi
        have J := Lib.hid (HONE.out i (by omega) wi _ hbw (hn.out.below hbi))
        have HOF := Lib.hid hof; clear hof
        have HBI := Lib.hid hbw; clear hbw hbi
        have HWI := Lib.hid hwi; clear hwi hn hb
        have hge2 : decide ((lv : Int) ≤ (i : Int)) = true := decide_eq_true (by omega)
        have hge3 : (lv : Int) ≤ (i : Int) := by omega
        go_wp2_with fail
        refine (HAT.out _ i q (.inr rfl) (by omega)).mono ?_
        rintro r w' ⟨rfl, rfl⟩
        go_wp2_with fail
        rw [← HWI.out]
        refine HOF.out.mono ?_
        rintro r w' ⟨rfl, rfl⟩
        go_wp2_with fail
        refine J.out.mono ?_
        rintro r w5 ⟨v5, rfl, hn5, hb5⟩
        have N5 := Lib.hid hn5
        have B5 := Lib.hid (below_then HBI.out hb5); clear hn5 hb5
        go_wp2_with fail
        go_roundw
        case rel => exact ⟨i, rfl, by omega, by omega, N5.out, B5.out⟩
        case measure => simp [intOf]
      · obtain rfl : j = lv := by omega
        have hge2 : decide ((j : Int) ≤ (j : Int) - 1) = false := decide_eq_false (by omega)
        have hge3 : ¬ (j : Int) ≤ (j : Int) - 1 := by omega
        go_wp2_with fail
        go_ret
        exact ⟨_, rfl, hn.out, below_then HB1.out hb.out⟩
end Go.Proofs.YtmbdimonfdncpaaGreatDoor
/-
  Contract of graft's intoLeaf: what becomes of a leaf, and what is counted.
-/
namespace Go.Proofs.YtmbdimonfdncpaaGreatDoor
open Go.RowKit
set_option maxHeartbeats 4000000
set_option maxRecDepth 100000
attribute [local irreducible] Bt.lst
theorem kept_met {F : Nat → Prop} {m : Option Addr} {w w' : World} (hF : ∀ a, m = some a → ¬ F a.block) (h : Only m w w') : Kept F w w' := kept_only hF h
/-- one pair put to one -/
theorem put_one (a p : Pr) : put [a] p = if a.1 = p.1 then [p] else if cmp p.1 a.1 < 0 then [p, a] else [a, p] := by
  have e1 : put [a] p = (if !decide (cmp a.1 p.1 < 0) then [p] else []) ++ ((if a.1 = p.1 then [] else [a]) ++ (if decide (cmp a.1 p.1 < 0) then [p] else [])) := by
    simp only [put, putGo, Bool.false_or, Bool.not_false, Bool.true_and]
    cases decide (cmp a.1 p.1 < 0) <;> rfl
  rw [e1]
  by_cases h : a.1 = p.1
  · have h0 : ¬ cmp a.1 p.1 < 0 := by rw [h, cmp_self]; decide
    rw [if_pos h, if_pos h, decide_eq_false h0]
    rfl
  · rw [if_neg h, if_neg h]
    have hz : cmp p.1 a.1 ≠ 0 := fun e => h (cmp_zero _ _ e).symm
    by_cases h0 : cmp a.1 p.1 < 0
    · have h1 : ¬ cmp p.1 a.1 < 0 := by
        have := cmp_turn p.1 a.1
        omega
      rw [decide_eq_true h0, if_neg h1]
      rfl
    · have h1 : cmp p.1 a.1 < 0 := by
        have := cmp_turn p.1 a.1
        omega
      rw [decide_eq_false h0, if_pos h1]
      rfl
theorem seen_leaf {h h' : Nat} {p : Pr} {v c v' c' : Nat} (h1 : v' = v + 1) (h2 : c' = c + (if h' = h then 1 else 0)) : Seen (.leaf h' p) h v c v' c' := by
  refine ⟨fun _ => ⟨h1, h2⟩, fun e => ?_, fun e => (by cases e), ?_, ?_⟩
  · rcases e with e | ⟨_, e⟩ <;> cases e
  · split at h2 <;> omega
  · omega
/-- two pairs in a row just made -/
theorem two_pcs {w w1 : World} {ka va kb vb : Option Addr} {p q : Pr} {kc vc kd vd : Nat} (hw : w1 = w.alloc (.cells #[.slice ka p.1.length kc, .slice va p.2.length vc, .slice kb q.1.length kd, .slice vb q.2.length vd] 29)) (h1 : Bts w ka p.1) (h2 : Bts w va p.2) (h3 : Bts w kb q.1) (h4 : Bts w vb q.2) : Pcs w1 (some ⟨w.heap.size, 0, none⟩) [p, q] := by
  have hb : Below w.heap.size w w1 := by rw [hw]; exact (Below.refl _ _).alloc (Nat.le_refl _) _
  have r : w1.heap[w.heap.size]? = some (.cells #[.slice ka p.1.length kc, .slice va p.2.length vc, .slice kb q.1.length kd, .slice vb q.2.length vd] 29 (0, 0)) := by rw [hw]; exact heap_alloc_new w _
  refine .inr ⟨_, 0, rfl, (Array.getElem?_eq_some_iff.1 r).1, fun i hi => ?_⟩
  have hi2 : i < 2 := hi
  match i, hi2 with
  | 0, _ => exact ⟨ka, kc, va, vc, row_cell r rfl, row_cell r rfl, h1.below hb, h2.below hb⟩
  | 1, _ => exact ⟨kb, kd, vb, vd, row_cell r rfl, row_cell r rfl, h3.below hb, h4.below hb⟩
theorem intoLeaf_any {F : Nat → Prop} {w : World} {m ka va : Option Addr} {f lv : Nat} {a e : En} {v : Value} {vv c : Nat} (kc vc : Nat) (hf : f + lv = 13) (hF : Fut F w) (hN : Nde F w (.leaf a.1 a.2) v) (hG : Good lv [a]) (hu : Suits [a] e) (hw : ∀ i, i < lv → ch a.1 i = ch e.1 i)
    (hm : Met w m vv c) (hX : ∀ a, m = some a → ¬ F a.block) (hk : Bts w ka e.2.1) (hv : Bts w va e.2.2) (he : e.1 < 18446744073709551616 ∧ e.2.1.length ≤ 1000 ∧ e.2.2.length ≤ 1000) (hvv : vv ≤ 900000) (hc : c ≤ 900000) :
    Calls Tryz.prog 26 #[.agg #[.pointer m, .int .u64 (e.1 : Int), .slice ka e.2.1.length kc, .slice va e.2.2.length vc], v, .int .i64 (lv : Int)] w fun r w' =>
      ∃ v' vv' c', r = .returned (.tuple #[v', .bool (!hasE [a] e.2.1)]) ∧ Nde F w' (layL f lv (putE [a] e)) v' ∧ Met w' m vv' c' ∧ Only m w w' ∧ Seen (.leaf a.1 a.2) e.1 vv c vv' c' := by
  obtain ⟨w1, hw1, hb1, hz1, hbx0⟩ := box_put w m (e.1 : Int) ka va e.2.1.length kc e.2.2.length vc
  have hm1 := hm.below hb1
  have hvi := visit_any hm1 (by omega)
  have hbx : ∀ W, Only m w1 W → W.cell? ⟨w.heap.size, 0, none⟩ = some (.pointer m) ∧ W.cell? ⟨w.heap.size, 1, none⟩ = some (.int .u64 (e.1 : Int)) ∧ W.cell? ⟨w.heap.size, 2, none⟩ = some (.slice ka e.2.1.length kc) ∧ W.cell? ⟨w.heap.size, 3, none⟩ = some (.slice va e.2.2.length vc) := fun W hW => only_box hw1 hm hW
  have hnd : ∀ W, Only m w1 W → Nde F W (.leaf a.1 a.2) v := fun W hW => (hN.below hb1).kept (kept_met hX hW)
  have hby : ∀ W, Only m w1 W → Bts W ka e.2.1 ∧ Bts W va e.2.2 := fun W hW => ⟨(hk.below hb1).only hm1 hW, (hv.below hb1).only hm1 hW⟩
  have hfu : ∀ W, Only m w1 W → Fut F W := fun W hW => hF.later (by have := hW.size; omega)
  have hha : ∀ W, Only m w1 W → Calls Tryz.prog 30 #[v] W fun e w' => e = .returned (.tuple #[.int .u64 (a.1 : Int), .bool true]) ∧ W = w' := fun W hW => hash_any (hnd W hW)
  have hal : ∀ W, Only m w1 W → Calls Tryz.prog 29 #[.agg #[.pointer m, .int .u64 (e.1 : Int), .slice ka e.2.1.length kc, .slice va e.2.2.length vc]] W fun r w' => ∃ v, r = .returned v ∧ Nde F w' (.leaf e.1 e.2) v ∧ Below W.heap.size W w' := fun W hW => alone_any e.1 kc vc (hfu W hW) (hby W hW).1 (hby W hW).2 (by omega)
  have hpa : ∀ W, Only m w1 W → Calls Tryz.prog 43 #[v] W fun e w' => ∃ A B c d, e = .returned (.tuple #[.agg #[.slice A a.2.1.length c, .slice B a.2.2.length d], .bool true]) ∧ Bts w' A a.2.1 ∧ Bts w' B a.2.2 ∧ Below W.heap.size W w' := fun W hW => pair_any (hnd W hW) (hG.fits a (List.mem_singleton.2 rfl))
  by_cases hne : a.1 = e.1
  · have hhe : ((a.1 : Int) != (e.1 : Int)) = false := by simp [hne]
    have hlay : layL f lv (putE [a] e) = if cmp e.2.1 a.2.1 = 0 then .leaf e.1 e.2 else .buck e.1 (if cmp e.2.1 a.2.1 < 0 then [e.2, a.2] else [a.2, e.2]) := by
      have hal : alike (putE [a] e) = true := (alike_putE hu).2 fun x hx => by rw [List.mem_singleton.1 hx, hne]
      rw [lay_flat hal, flat_putE hG.apart (by simp) (fun x hx => by rw [List.mem_singleton.1 hx, hne])]
      have hh : hasE [a] e.2.1 = decide (a.2.1 = e.2.1) := by simp [hasE]
      by_cases hz : cmp e.2.1 a.2.1 = 0
      · have := cmp_zero _ _ hz
        rw [if_pos hz, if_pos ⟨rfl, by rw [hh, decide_eq_true this.symm]⟩]
      · have hz2 : ¬ a.2.1 = e.2.1 := fun e1 => hz (by rw [e1]; exact cmp_self _)
        rw [if_neg hz, if_neg (fun h => by rw [hh, decide_eq_false hz2] at h; cases h.2)]
        congr 1
        show put (put [] a.2) e.2 = _
        rw [show put [] a.2 = [a.2] from rfl, put_one, if_neg hz2]
    have hfr : (!hasE [a] e.2.1) = !decide (cmp e.2.1 a.2.1 = 0) := by
      have : hasE [a] e.2.1 = decide (cmp e.2.1 a.2.1 = 0) := by
        simp only [hasE, List.any_cons, List.any_nil, Bool.or_false]
        exact decide_eq_decide.2 ⟨fun h => by rw [h]; exact cmp_self _, fun h => (cmp_zero _ _ h).symm⟩
      rw [this]
    have hbuk : ∀ W A p q, Only m w1 W → Pcs W A [p, q] → p ∈ [a.2, e.2] → q ∈ [a.2, e.2] → Calls Tryz.prog 45 #[.agg #[.pointer m, .int .u64 (e.1 : Int), .slice ka e.2.1.length kc, .slice va e.2.2.length vc], .slice A 2 2] W fun r w' => ∃ v, r = .returned v ∧ Nde F w' (.buck e.1 [p, q]) v ∧ Below W.heap.size W w' := fun W A p q hW hp h1 h2 => by
      have hf : Fits [p, q] := fun x hx => by
        have ha := hG.fits a (List.mem_singleton.2 rfl)
        have key : ∀ z, z ∈ [a.2, e.2] → z.1.length ≤ 1000 ∧ z.2.length ≤ 1000 := fun z hz => by
          rcases List.mem_cons.1 hz with rfl | hz
          · omega
          · rw [List.mem_singleton.1 hz]; omega
        rcases List.mem_cons.1 hx with rfl | hx
        · exact key _ h1
        · rw [List.mem_singleton.1 hx]; exact key _ h2
      exact bucketP_any (L := [p, q]) e.1 kc vc 2 (hfu W hW) hp (Nat.le_refl _) (by simp) (by simp) hf
    rw [hlay, hfr]
    have hse : ∀ vv' c', vv' = vv + 1 → c' = c + 1 → Seen (.leaf a.1 a.2) e.1 vv c vv' c' := fun vv' c' h1 h2 => seen_leaf h1 (by rw [if_pos hne]; exact h2)
    have hcm := fun W A y (hW : Only m w1 W) (hM : Met W m (vv + 1) c) (hA : Bts W A a.2.1) => mcompare_any hM (by omega) kc y (hby W hW).1 hA
    obtain ⟨z, hz⟩ : ∃ z, z = cmp e.2.1 a.2.1 := ⟨_, rfl⟩
    simp only [← hz] at hcm ⊢
    obtain ⟨P, hP⟩ : ∃ P : Pr, P = e.2 := ⟨_, rfl⟩
    obtain ⟨Q, hQ⟩ : ∃ P : Pr, P = a.2 := ⟨_, rfl⟩
    obtain ⟨h, hh⟩ : ∃ h : Nat, h = e.1 := ⟨_, rfl⟩
    obtain ⟨g, hg⟩ : ∃ h : Nat, h = a.1 := ⟨_, rfl⟩
    rw [← hP, ← hh] at hw1
    simp only [← hP, ← hh, ← hg, ← hQ] at hbx hby hha hal hpa hbuk hse hhe hcm ⊢
    obtain ⟨x1, hx1⟩ : ∃ x : Nat, x = P.1.length := ⟨_, rfl⟩
    obtain ⟨x2, hx2⟩ : ∃ x : Nat, x = P.2.length := ⟨_, rfl⟩
    obtain ⟨y1, hy1⟩ : ∃ x : Nat, x = Q.1.length := ⟨_, rfl⟩
    obtain ⟨y2, hy2⟩ : ∃ x : Nat, x = Q.2.length := ⟨_, rfl⟩
    rw [← hx1, ← hx2] at hw1
    simp only [← hx1, ← hx2, ← hy1, ← hy2] at hbx hal hpa hbuk hcm ⊢
    obtain ⟨R, hR⟩ : ∃ R, R = (if z = 0 then Nd.leaf h P else .buck h (if z < 0 then [P, Q] else [Q, P])) := ⟨_, rfl⟩
    obtain ⟨fb, hfb⟩ : ∃ b, b = (!decide (z = 0)) := ⟨_, rfl⟩
    rw [← hR, ← hfb]
    have HR := Lib.hid (And.intro hR hfb); clear hR hfb
    have HBX := Lib.hid hbx; clear hbx
    have HBY := Lib.hid hby; clear hby
    have HVI := Lib.hid hvi; clear hvi
    have HHA := Lib.hid hha; clear hha
    have HAL := Lib.hid hal; clear hal
    have HPA := Lib.hid hpa; clear hpa
    have HBU := Lib.hid hbuk; clear hbuk
    have HSE := Lib.hid hse; clear hse
    have HCM := Lib.hid hcm; clear hcm
    have HW1 := Lib.hid hw1; clear hw1
    have HB1 := Lib.hid hb1; clear hb1
    have HX := Lib.hid (And.intro hx1 (And.intro hx2 (And.intro hy1 hy2))); clear hx1 hx2 hy1 hy2
    have HMM := Lib.hid (And.intro hm hm1); clear hm hm1
    clear hz1 hz hbx0 hnd hfu hF hN hG hu hw hX hk hv he hne hlay hfr hP hQ hh hg hf
    go_enter Tryz.func26, Tryz.ntmps26
    go_wp2_with fail
    rw [← HW1.out]
    refine HVI.out.mono ?_
    rintro r w2 ⟨rfl, hm2, ho2⟩
    have M2 := Lib.hid hm2; clear hm2
    have O2 := Lib.hid ho2
    obtain ⟨c0, c1, c2, c3⟩ := HBX.out w2 ho2
    clear ho2
    go_wp2_with fail
    refine (HHA.out w2 O2.out).mono ?_
    rintro r w' ⟨rfl, rfl⟩
    go_wp2_with fail
    refine (HPA.out w2 O2.out).mono ?_
    rintro r w3 ⟨A3, B3, c3', d3, rfl, hA3, hB3, hb3⟩
    clear c0 c1 c2 c3
    obtain ⟨gp, hgp⟩ : ∃ gp, gp = w3.heap.size := ⟨_, rfl⟩
    obtain ⟨w4, hw4⟩ : ∃ w4, w4 = w3.alloc (.cells #[.slice A3 y1 c3', .slice B3 y2 d3] 29) := ⟨_, rfl⟩
    have hb4 : Below w3.heap.size w3 w4 := by rw [hw4]; exact (Below.refl _ _).alloc (Nat.le_refl _) _
    have r4 : w4.heap[gp]? = some (.cells #[.slice A3 y1 c3', .slice B3 y2 d3] 29 (0, 0)) := by rw [hw4, hgp]; exact heap_alloc_new w3 _
    have hb24 := below_then hb3 hb4
    have O4 : Hid (Only m w1 w4) := O2.out.trans (Only.of hb24)
    have hm4 := M2.out.below hb24
    have HOW : Hid (∀ W, Only m w4 W → W.cell? ⟨gp, 0, none⟩ = some (.slice A3 y1 c3') ∧ W.cell? ⟨gp, 1, none⟩ = some (.slice B3 y2 d3) ∧ Bts W A3 Q.1 ∧ Bts W B3 Q.2) := fun W hW => by
      have := (hW.cell hm4 (row2 r4).1 (by intro z e; cases e) (Array.getElem?_eq_some_iff.1 r4).1).trans r4
      exact ⟨(row2 this).1, (row2 this).2.1, (hA3.below hb4).only hm4 hW, (hB3.below hb4).only hm4 hW⟩
    have J := Lib.hid (HCM.out w4 A3 c3' O4.out hm4 (hA3.below hb4))
    obtain ⟨c0, c1, c2, c3⟩ := HBX.out w4 O4.out
    obtain ⟨d0, d1, _, _⟩ := HOW.out w4 (Only.refl _ _)
    have HW4 := Lib.hid hw4; clear hw4
    have HGP := Lib.hid hgp; clear hgp
    clear hA3 hB3 hb3 hb4 r4 hb24 hm4 M2 HPA HCM
    go_upto_region 6 with fail
    simp only [← HGP.out] at HW4 ⊢
    rw [← HW4.out]
    go_wp2_with fail
    refine J.out.mono ?_
    rintro r w5 ⟨rfl, hm5, ho5⟩
    have O5 := Lib.hid (O4.out.trans ho5)
    have M5 := Lib.hid hm5; clear hm5
    obtain ⟨c0, c1, c2, c3⟩ := HBX.out w5 O5.out
    obtain ⟨d0, d1, hq1, hq2⟩ := HOW.out w5 ho5
    have HQ := Lib.hid (And.intro hq1 hq2)
    clear hq1 hq2 ho5 J HOW HVI HHA
    rcases Int.lt_trichotomy z 0 with hz | hz | hz
    · have z1 : decide (z < 0) = true := decide_eq_true hz
      have Z2 : Hid (R = .buck h [P, Q]) := by show _ = _; rw [HR.out.1, if_neg (by omega), if_pos hz]
      have Z3 : Hid (fb = true) := by show _ = _; rw [HR.out.2, decide_eq_false (by omega)]; rfl
      obtain ⟨w6, hw6⟩ : ∃ w6, w6 = w5.alloc (.cells #[.slice ka x1 kc, .slice va x2 vc, .slice A3 y1 c3', .slice B3 y2 d3] 29) := ⟨_, rfl⟩
      have hb6 : Below w5.heap.size w5 w6 := by rw [hw6]; exact (Below.refl _ _).alloc (Nat.le_refl _) _
      have O6 := Lib.hid (O5.out.trans (Only.of hb6))
      have hp6 : Pcs w6 (some ⟨w5.heap.size, 0, none⟩) [P, Q] := by
        obtain ⟨e1, e2⟩ := HBY.out w5 O5.out
        refine two_pcs (kc := kc) (vc := vc) (kd := c3') (vd := d3) ?_ e1 e2 HQ.out.1 HQ.out.2
        rw [hw6, HX.out.1, HX.out.2.1, HX.out.2.2.1, HX.out.2.2.2]
      have J := Lib.hid (HBU.out w6 _ P Q O6.out hp6 (by simp) (by simp))
      have HW6 := Lib.hid hw6; clear hw6
      have M6 := Lib.hid (M5.out.below hb6); clear hb6 hp6 hz
      go_wp2_with fail
      rw [← HW6.out]
      refine J.out.mono ?_
      rintro r w7 ⟨v7, rfl, hn7, hb7⟩
      have N7 := Lib.hid hn7
      have B7 := Lib.hid hb7; clear hn7 hb7
      go_wp2_with fail
      go_ret2
      rw [Z2.out, Z3.out]
      exact ⟨v7, vv + 1, c + 1, rfl, N7.out, M6.out.below B7.out, (Only.of HB1.out).trans (O6.out.trans (Only.of B7.out)), HSE.out _ _ rfl rfl⟩
    · subst hz
      have Z2 : Hid (R = .leaf h P) := HR.out.1
      have Z3 : Hid (fb = false) := HR.out.2
      have J := Lib.hid (HAL.out w5 O5.out)
      go_wp2_with fail
      refine J.out.mono ?_
      rintro r w7 ⟨v7, rfl, hn7, hb7⟩
      have N7 := Lib.hid hn7
      have B7 := Lib.hid hb7; clear hn7 hb7
      go_wp2_with fail
      go_ret2
      rw [Z2.out, Z3.out]
      exact ⟨v7, vv + 1, c + 1, rfl, N7.out, M5.out.below B7.out, (Only.of HB1.out).trans (O5.out.trans (Only.of B7.out)), HSE.out _ _ rfl rfl⟩
    · have z1 : decide (z < 0) = false := decide_eq_false (by omega)
      have z4 : decide (z > 0) = true := decide_eq_true hz
      have z5 : decide (0 < z) = true := decide_eq_true hz
      have Z2 : Hid (R = .buck h [Q, P]) := by show _ = _; rw [HR.out.1, if_neg (by omega), if_neg (by omega)]
      have Z3 : Hid (fb = true) := by show _ = _; rw [HR.out.2, decide_eq_false (by omega)]; rfl
      obtain ⟨w6, hw6⟩ : ∃ w6, w6 = w5.alloc (.cells #[.slice A3 y1 c3', .slice B3 y2 d3, .slice ka x1 kc, .slice va x2 vc] 29) := ⟨_, rfl⟩
      have hb6 : Below w5.heap.size w5 w6 := by rw [hw6]; exact (Below.refl _ _).alloc (Nat.le_refl _) _
      have O6 := Lib.hid (O5.out.trans (Only.of hb6))
      have hp6 : Pcs w6 (some ⟨w5.heap.size, 0, none⟩) [Q, P] := by
        obtain ⟨e1, e2⟩ := HBY.out w5 O5.out
        refine two_pcs (kc := c3') (vc := d3) (kd := kc) (vd := vc) ?_ HQ.out.1 HQ.out.2 e1 e2
        rw [hw6, HX.out.1, HX.out.2.1, HX.out.2.2.1, HX.out.2.2.2]
      have J := Lib.hid (HBU.out w6 _ Q P O6.out hp6 (by simp) (by simp))
      have HW6 := Lib.hid hw6; clear hw6
      have M6 := Lib.hid (M5.out.below hb6); clear hb6 hp6 hz
      go_wp2_with fail
      rw [← HW6.out]
      refine J.out.mono ?_
      rintro r w7 ⟨v7, rfl, hn7, hb7⟩
      have N7 := Lib.hid hn7
      have B7 := Lib.hid hb7; clear hn7 hb7
      go_wp2_with fail
      go_ret2
      rw [Z2.out, Z3.out]
      exact ⟨v7, vv + 1, c + 1, rfl, N7.out, M6.out.below B7.out, (Only.of HB1.out).trans (O6.out.trans (Only.of B7.out)), HSE.out _ _ rfl rfl⟩
  · have hhe : ((a.1 : Int) != (e.1 : Int)) = true := by simp; omega
    have hbe : ∀ W, Only m w1 W → Calls Tryz.prog 42 #[.agg #[.pointer m, .int .u64 (e.1 : Int), .slice ka e.2.1.length kc, .slice va e.2.2.length vc], v, .int .u64 (a.1 : Int), .int .i64 (lv : Int)] W fun r w' => ∃ v', r = .returned v' ∧ Nde F w' (layL f lv (putE [a] e)) v' ∧ Below W.heap.size W w' := fun W hW => beside_any kc vc hf (hfu W hW) hG (by simp) (fun x hx => by rw [List.mem_singleton.1 hx]) hu hne (by simp) hw (hnd W hW) (hby W hW).1 (hby W hW).2 he
    have hfr : (!hasE [a] e.2.1) = true := by rw [has_other hu (fun x hx => by rw [List.mem_singleton.1 hx]) hne]; rfl
    have hse : ∀ vv' c', vv' = vv + 1 → c' = c → Seen (.leaf a.1 a.2) e.1 vv c vv' c' := fun vv' c' h1 h2 => seen_leaf h1 (by rw [if_neg hne]; exact h2)
    rw [hfr]
    obtain ⟨h, hh⟩ : ∃ h : Nat, h = e.1 := ⟨_, rfl⟩
    obtain ⟨g, hg⟩ : ∃ h : Nat, h = a.1 := ⟨_, rfl⟩
    obtain ⟨x1, hx1⟩ : ∃ x : Nat, x = e.2.1.length := ⟨_, rfl⟩
    obtain ⟨x2, hx2⟩ : ∃ x : Nat, x = e.2.2.length := ⟨_, rfl⟩
    obtain ⟨Z, hZ⟩ : ∃ x, x = layL f lv (putE [a] e) := ⟨_, rfl⟩
    rw [← hh, ← hx1, ← hx2] at hw1
    simp only [← hh, ← hg, ← hx1, ← hx2, ← hZ] at hbx hha hbe hse hhe ⊢
    have HBX := Lib.hid hbx; clear hbx
    have HVI := Lib.hid hvi; clear hvi
    have HHA := Lib.hid hha; clear hha
    have HBE := Lib.hid hbe; clear hbe
    have HSE := Lib.hid hse; clear hse
    have HW1 := Lib.hid hw1; clear hw1
    have HB1 := Lib.hid hb1; clear hb1
    have HMM := Lib.hid (And.intro hm hm1); clear hm hm1
    clear hz1 hbx0 hnd hfu hF hN hG hu hw hX hk hv he hne hfr hh hg hf hx1 hx2 hZ hal hpa hby
    go_enter Tryz.func26, Tryz.ntmps26
    go_wp2_with fail
    rw [← HW1.out]
    refine HVI.out.mono ?_
    rintro r w2 ⟨rfl, hm2, ho2⟩
    have M2 := Lib.hid hm2; clear hm2
    have O2 := Lib.hid ho2
    obtain ⟨c0, c1, c2, c3⟩ := HBX.out w2 ho2
    clear ho2
    go_wp2_with fail
    refine (HHA.out w2 O2.out).mono ?_
    rintro r w' ⟨rfl, rfl⟩
    go_wp2_with fail
    refine (HBE.out w2 O2.out).mono ?_
    rintro r w3 ⟨v3, rfl, hn3, hb3⟩
    have N3 := Lib.hid hn3
    have B3 := Lib.hid hb3; clear hn3 hb3
    go_wp2_with fail
    go_ret2
    exact ⟨v3, vv + 1, c, rfl, N3.out, M2.out.below B3.out, (Only.of HB1.out).trans (O2.out.trans (Only.of B3.out)), HSE.out _ _ rfl rfl⟩
end Go.Proofs.YtmbdimonfdncpaaGreatDoor
/-
  Contract of graft's intoBucket: what becomes of a bucket, and what is counted.
-/
namespace Go.Proofs.YtmbdimonfdncpaaGreatDoor
open Go.RowKit
set_option maxHeartbeats 4000000
set_option maxRecDepth 100000
attribute [local irreducible] Bt.lst
theorem flat_buck {L : List En} {g : Nat} (h2 : 2 ≤ L.length) (hs : ∀ a ∈ L, a.1 = g) : flatL L = .buck g (come (eprs L)) := by
  have hn : L ≠ [] := fun e => by rw [e] at h2; exact absurd h2 (by decide)
  rw [flatL, if_neg (by omega), if_neg (by omega), hs _ (ehd_mem hn)]
theorem intoBucket_any {F : Nat → Prop} {w : World} {m ka va : Option Addr} {f lv g : Nat} {L : List En} {e : En} {v : Value} {vv c : Nat} (kc vc : Nat) (hf : f + lv = 13) (hF : Fut F w) (hN : Nde F w (flatL L) v) (hG : Good lv L) (h2 : 2 ≤ L.length) (h99 : L.length ≤ 99) (hs : ∀ a ∈ L, a.1 = g) (hu : Suits L e) (hw : ∀ i, i < lv → ch g i = ch e.1 i)
    (hm : Met w m vv c) (hX : ∀ a, m = some a → ¬ F a.block) (hk : Bts w ka e.2.1) (hv : Bts w va e.2.2) (he : e.1 < 18446744073709551616 ∧ e.2.1.length ≤ 1000 ∧ e.2.2.length ≤ 1000) (hvv : vv ≤ 900000) (hc : c ≤ 900000) :
    Calls Tryz.prog 27 #[.agg #[.pointer m, .int .u64 (e.1 : Int), .slice ka e.2.1.length kc, .slice va e.2.2.length vc], v, .int .i64 (lv : Int)] w fun r w' =>
      ∃ v' vv' c', r = .returned (.tuple #[v', .bool (!hasE L e.2.1)]) ∧ Nde F w' (layL f lv (putE L e)) v' ∧ Met w' m vv' c' ∧ Only m w w' ∧ Seen (flatL L) e.1 vv c vv' c' := by
  have hn : L ≠ [] := fun e => by rw [e] at h2; exact absurd h2 (by decide)
  have hok := flatL_ok hG
  have hfl := flat_buck h2 hs
  obtain ⟨w1, hw1, hb1, hz1, hbx0⟩ := box_put w m (e.1 : Int) ka va e.2.1.length kc e.2.2.length vc
  have hm1 := hm.below hb1
  have hbx : ∀ W, Only m w1 W → W.cell? ⟨w.heap.size, 0, none⟩ = some (.pointer m) ∧ W.cell? ⟨w.heap.size, 1, none⟩ = some (.int .u64 (e.1 : Int)) ∧ W.cell? ⟨w.heap.size, 2, none⟩ = some (.slice ka e.2.1.length kc) ∧ W.cell? ⟨w.heap.size, 3, none⟩ = some (.slice va e.2.2.length vc) := fun W hW => only_box hw1 hm hW
  have hnd : ∀ W, Only m w1 W → Nde F W (flatL L) v := fun W hW => (hN.below hb1).kept (kept_met hX hW)
  have hby : ∀ W, Only m w1 W → Bts W ka e.2.1 ∧ Bts W va e.2.2 := fun W hW => ⟨(hk.below hb1).only hm1 hW, (hv.below hb1).only hm1 hW⟩
  have hfu : ∀ W, Only m w1 W → Fut F W := fun W hW => hF.later (by have := hW.size; omega)
  have hbe := fun (hne : ¬ g = e.1) W (hW : Only m w1 W) => beside_any (m := m) kc vc hf (hfu W hW) hG hn hs hu hne h99 hw (hnd W hW) (hby W hW).1 (hby W hW).2 he
  rw [hfl] at hok ⊢
  simp only [hfl] at hnd
  have hha : ∀ W, Only m w1 W → Calls Tryz.prog 30 #[v] W fun e w' => e = .returned (.tuple #[.int .u64 (g : Int), .bool true]) ∧ W = w' := fun W hW => hash_any (hnd W hW)
  by_cases hne : g = e.1
  · have hhe : ((g : Int) != (e.1 : Int)) = false := by simp [hne]
    have hKl : (come (eprs L)).length = L.length := by
      rw [come_len (by rw [eprs_keys]; exact hG.apart)]
      simp [eprs]
    have hPl : (put (come (eprs L)) e.2).length = L.length + (if hasE L e.2.1 = true then 0 else 1) := by
      rw [← eprs_putE hG.apart, ← putE_len e hG.apart, come_len (by rw [eprs_keys]; exact putE_apart e hG.apart)]
      simp [eprs]
    have hlay : layL f lv (putE L e) = .buck e.1 (put (come (eprs L)) e.2) := by
      rw [lay_flat ((alike_putE hu).2 fun a ha => (hs a ha).trans hne), flat_putE hG.apart hn (fun a ha => (hs a ha).trans hne), if_neg (fun h => by omega)]
    have hPf : Fits (put (come (eprs L)) e.2) := fun x hx => by
      rcases (mem_put _ _ _).1 hx with rfl | ⟨hx, _⟩
      · exact ⟨he.2.1, he.2.2⟩
      · exact hok.2.2.2.2 x hx
    have hfr : decide (((put (come (eprs L)) e.2).length : Int) > ((come (eprs L)).length : Int)) = !hasE L e.2.1 := by
      rw [hPl, hKl]
      cases hasE L e.2.1 <;> simp
      omega
    rw [hlay]
    have hsr := hok.2.2.2.1
    obtain ⟨K, hK⟩ : ∃ K, K = come (eprs L) := ⟨_, rfl⟩
    obtain ⟨P, hP⟩ : ∃ K, K = put (come (eprs L)) e.2 := ⟨_, rfl⟩
    obtain ⟨fb, hfb⟩ : ∃ b, b = !hasE L e.2.1 := ⟨_, rfl⟩
    rw [← hP] at hPl hPf hfr ⊢
    rw [← hK] at hKl hfr ⊢ hsr
    rw [← hfb] at hfr ⊢
    have htr : ∀ W, Only m w1 W → Calls Tryz.prog 46 #[v] W fun e w' => (∃ p, e = .returned (.tuple #[.pointer p, .bool true]) ∧ ∃ t, Tre F W t p ∧ t.even ∧ t.list = K) ∧ W = w' := fun W hW => (tree_any (hnd W hW)).mono fun e w' ⟨⟨p, h1, h2⟩, h3⟩ => ⟨⟨p, h1, by
      rcases h2 with ⟨h2, _⟩ | ⟨t, k1, k2, k3, _⟩
      · exact absurd rfl h2
      · exact ⟨t, k1, k2, k3.trans hK.symm⟩⟩, h3⟩
    have hpu : ∀ W t p, Only m w1 W → Tre F W t p → t.even → t.list = K → Met W m vv c → Calls Tryz.prog 47 #[.pointer p, .agg #[.slice ka e.2.1.length kc, .slice va e.2.2.length vc], .pointer m] W fun r w' => ∃ p' t' v' c', r = .returned (.pointer p') ∧ (Tre F w' t' p' ∧ t'.even ∧ t'.list = P) ∧ Met w' m v' c' ∧ Count t vv c v' c' ∧ Only m W w' ∧ Tre F w' t p := fun W t p hW ht te tl hM => by
      have hh := (Tr.high_cube te (by rw [← Tr.length, tl, hKl]; omega)).1
      refine (put_any (q := e.2) kc vc (hfu W hW) ht hM (hby W hW).1 (hby W hW).2 (by omega) te (by rw [tl]; exact hsr) (by rw [← Tr.length, tl, hKl]; omega) (by omega) (by omega)).mono ?_
      rintro r w' ⟨p', t', v', c', h1, h2, h3, h4, h5, h6, h7⟩
      exact ⟨p', t', v', c', h1, ⟨h2, h3, by rw [h4, tl, hK, hP]⟩, h5, h6, h7, ht.kept (kept_met hX h7)⟩
    have hbk : ∀ W t p, Only m w1 W → Tre F W t p ∧ t.even ∧ t.list = P → Calls Tryz.prog 48 #[.int .u64 (e.1 : Int), .pointer p] W fun r w' => ∃ v, r = .returned v ∧ Nde F w' (.buck e.1 P) v ∧ Below W.heap.size W w' := fun W t p hW ⟨h1, h2, h3⟩ => by
      have h := bucket_any e.1 (hfu W hW) h1 h2 (by rw [← Tr.length, h3, hPl]; split <;> omega) (by rw [h3]; exact hPf)
      rw [h3, if_neg (by rw [hPl]; omega), if_neg (by rw [hPl]; omega)] at h
      exact h
    have hsz : ∀ W t p X, Tre F W t p → t.list = X → X.length ≤ 100 → Calls Tryz.prog 49 #[.pointer p] W fun e w' => e = .returned (.int .i64 (X.length : Int)) ∧ W = w' := fun W t p X ht hX hl => by
      have := size_any ht (by rw [← Tr.length, hX]; omega)
      rw [← Tr.length, hX] at this
      exact this
    have hse : ∀ (t : Tr) vv' c', t.even → t.list = K → Count t vv c vv' c' → Seen (.buck g K) e.1 vv c vv' c' := fun t vv' c' te tl ⟨c1, c2, c3, c4, c5⟩ => ⟨fun h => (by cases h), fun h => by
        rcases h with h | ⟨h, _⟩
        · cases h
        · exact absurd hne h, fun _ _ => ⟨c5 fun h => by
          rw [h] at tl
          rw [← tl] at hKl
          have : (Tr.list .nil).length = 0 := rfl
          omega, t, te, tl, c2⟩, by omega, c3⟩
    have hP100 : P.length ≤ 100 := by rw [hPl]; split <;> omega
    have hK100 : K.length ≤ 100 := by omega
    obtain ⟨pl, hpl⟩ : ∃ n, n = P.length := ⟨_, rfl⟩
    obtain ⟨kl, hkl⟩ : ∃ n, n = K.length := ⟨_, rfl⟩
    rw [← hpl, ← hkl] at hfr
    have HSP : Hid (∀ W t p, Tre F W t p → t.list = P → Calls Tryz.prog 49 #[.pointer p] W fun e w' => e = .returned (.int .i64 (pl : Int)) ∧ W = w') := fun W t p h1 h2 => by rw [hpl]; exact hsz W t p P h1 h2 hP100
    have HSK : Hid (∀ W t p, Tre F W t p → t.list = K → Calls Tryz.prog 49 #[.pointer p] W fun e w' => e = .returned (.int .i64 (kl : Int)) ∧ W = w') := fun W t p h1 h2 => by rw [hkl]; exact hsz W t p K h1 h2 hK100
    obtain ⟨h, hh⟩ : ∃ h : Nat, h = e.1 := ⟨_, rfl⟩
    obtain ⟨x1, hx1⟩ : ∃ x : Nat, x = e.2.1.length := ⟨_, rfl⟩
    obtain ⟨x2, hx2⟩ : ∃ x : Nat, x = e.2.2.length := ⟨_, rfl⟩
    rw [← hh, ← hx1, ← hx2] at hw1
    simp only [← hh, ← hx1, ← hx2] at hbx hbk hpu hse hhe ⊢
    have HBX := Lib.hid hbx; clear hbx
    have HHA := Lib.hid hha; clear hha
    have HTR := Lib.hid htr; clear htr
    have HPU := Lib.hid hpu; clear hpu
    have HBK := Lib.hid hbk; clear hbk
    have HSE := Lib.hid hse; clear hse
    have HW1 := Lib.hid hw1; clear hw1
    have HB1 := Lib.hid hb1; clear hb1
    have HM1 := Lib.hid hm1; clear hm1
    have hfr2 : decide ((kl : Int) < (pl : Int)) = fb := hfr
    have hfr3 : decide (kl < pl) = fb := by rw [← hfr2]; exact decide_eq_decide.2 (by omega)
    clear hz1 hbx0 hnd hfu hF hN hG hu hw hX hk hv he hne hh hx1 hx2 hby hm hf hn hok hfl hbe hKl hPl hlay hPf hsr hK hP hfb hsz hP100 hK100 hpl hkl h2 h99 hs hvv hc
    go_enter Tryz.func27, Tryz.ntmps27
    go_wp2_with fail
    rw [← HW1.out]
    obtain ⟨c0, c1, c2, c3⟩ := HBX.out w1 (Only.refl _ _)
    refine (HHA.out w1 (Only.refl _ _)).mono ?_
    rintro r w' ⟨rfl, rfl⟩
    go_wp2_with fail
    refine (HTR.out w1 (Only.refl _ _)).mono ?_
    rintro r w' ⟨⟨p, rfl, t, ht, te, tl⟩, rfl⟩
    have J := Lib.hid (HPU.out w1 t p (Only.refl _ _) ht te tl HM1.out)
    have HT := Lib.hid (And.intro te tl); clear ht te tl
    go_wp2_with fail
    refine J.out.mono ?_
    rintro r w2 ⟨p', t', v', c', rfl, ht2, hm2, hct, ho2, hto⟩
    have T2 := Lib.hid ht2
    have M2 := Lib.hid hm2
    have CT := Lib.hid hct
    have O2 := Lib.hid ho2
    have TO := Lib.hid hto
    clear c0 c1 c2 c3
    obtain ⟨c0, c1, c2, c3⟩ := HBX.out w2 ho2
    clear ht2 hm2 hct ho2 hto J
    go_wp2_with fail
    refine (HBK.out w2 t' p' O2.out T2.out).mono ?_
    rintro r w3 ⟨v3, rfl, hn3, hb3⟩
    have N3 := Lib.hid hn3
    have B3 := Lib.hid hb3
    have J1 := Lib.hid (HSP.out w3 t' p' (T2.out.1.below hb3) T2.out.2.2)
    have J2 := Lib.hid (HSK.out w3 t p (TO.out.below hb3) HT.out.2)
    clear hn3 hb3
    go_wp2_with fail
    refine J1.out.mono ?_
    rintro r w' ⟨rfl, rfl⟩
    go_wp2_with fail
    refine J2.out.mono ?_
    rintro r w' ⟨rfl, rfl⟩
    go_wp2_with fail
    go_ret2
    exact ⟨v3, v', c', rfl, N3.out, M2.out.below B3.out, (Only.of HB1.out).trans (O2.out.trans (Only.of B3.out)), HSE.out t _ _ HT.out.1 HT.out.2 CT.out⟩
  · have hhe : ((g : Int) != (e.1 : Int)) = true := by simp; omega
    have hbe' := hbe hne
    have hfr : (!hasE L e.2.1) = true := by rw [has_other hu hs hne]; rfl
    have hse : Seen (.buck g (come (eprs L))) e.1 vv c vv c := ⟨fun h => (by cases h), fun _ => ⟨rfl, rfl⟩, fun _ h => absurd h hne, by omega, Nat.le_refl _⟩
    rw [hfr]
    obtain ⟨h, hh⟩ : ∃ h : Nat, h = e.1 := ⟨_, rfl⟩
    obtain ⟨x1, hx1⟩ : ∃ x : Nat, x = e.2.1.length := ⟨_, rfl⟩
    obtain ⟨x2, hx2⟩ : ∃ x : Nat, x = e.2.2.length := ⟨_, rfl⟩
    obtain ⟨Z, hZ⟩ : ∃ x, x = layL f lv (putE L e) := ⟨_, rfl⟩
    rw [← hh, ← hx1, ← hx2] at hw1
    simp only [← hh, ← hx1, ← hx2, ← hZ] at hbx hbe' hse hhe ⊢
    have HBX := Lib.hid hbx; clear hbx
    have HHA := Lib.hid hha; clear hha
    have HBE := Lib.hid hbe'; clear hbe hbe'
    have HSE := Lib.hid hse; clear hse
    have HW1 := Lib.hid hw1; clear hw1
    have HB1 := Lib.hid hb1; clear hb1
    have HM1 := Lib.hid hm1; clear hm1
    clear hz1 hbx0 hnd hfu hF hN hG hu hw hX hk hv he hne hfr hh hx1 hx2 hZ hby hm hf hn hok hfl h2 h99 hs hvv hc
    go_enter Tryz.func27, Tryz.ntmps27
    go_wp2_with fail
    rw [← HW1.out]
    obtain ⟨c0, c1, c2, c3⟩ := HBX.out w1 (Only.refl _ _)
    refine (HHA.out w1 (Only.refl _ _)).mono ?_
    rintro r w' ⟨rfl, rfl⟩
    go_wp2_with fail
    refine (HBE.out w1 (Only.refl _ _)).mono ?_
    rintro r w3 ⟨v3, rfl, hn3, hb3⟩
    have N3 := Lib.hid hn3
    have B3 := Lib.hid hb3; clear hn3 hb3
    go_wp2_with fail
    go_ret2
    exact ⟨v3, vv, c, rfl, N3.out, HM1.out.below B3.out, (Only.of HB1.out).trans (Only.of B3.out), HSE.out⟩
end Go.Proofs.YtmbdimonfdncpaaGreatDoor
/-
  Contract of graft's intoBranch: what becomes of a branch, and what is counted.
-/
namespace Go.Proofs.YtmbdimonfdncpaaGreatDoor
open Go.RowKit Go.Shelf
set_option maxHeartbeats 4000000
set_option maxRecDepth 100000
attribute [local go_sem] Oper.semAt_some
attribute [local irreducible] Bt.lst
def GraftAt (f lv : Nat) : Prop := ∀ (F : Nat → Prop) (w : World) (m ka va : Option Addr) (L : List En) (e : En) (v : Value) (kc vc vv c : Nat), Fut F w → Tab w → Nde F w (layL f lv L) v → Good lv L → L.length ≤ 99 → Suits L e → (∀ x ∈ L, ∀ i, i < lv → ch x.1 i = ch e.1 i) →
  (e.1 < 18446744073709551616 ∧ e.2.1.length ≤ 1000 ∧ e.2.2.length ≤ 1000) → Met w m vv c → (∀ a, m = some a → ¬ F a.block) → Bts w ka e.2.1 → Bts w va e.2.2 → vv ≤ 800000 + lv → c ≤ vv →
  Calls Tryz.prog 17 #[.agg #[.pointer m, .int .u64 (e.1 : Int), .slice ka e.2.1.length kc, .slice va e.2.2.length vc], v, .int .i64 (lv : Int)] w fun r w' =>
    ∃ v' vv' c', r = .returned (.tuple #[v', .bool (!hasE L e.2.1)]) ∧ Nde F w' (layL f lv (putE L e)) v' ∧ Met w' m vv' c' ∧ Only m w w' ∧ Seen ((layL f lv L).endAt e.1 lv) e.1 (vv + (layL f lv L).deep e.1 lv) c vv' c'
theorem Tab.only {m : Option Addr} {w w' : World} {v c : Nat} (h : Tab w) (hm : Met w m v c) (ho : Only m w w') : Tab w' := fun j hj => (cell_kept (ho.cell hm (h 0 (by decide)) (by intro z e; cases e) h.lt)).trans (h j hj)
/-- the children listed so far: their variable in block KB, their row, themselves: all below KB -/
structure Kdl (F : Nat → Prop) (N KB : Nat) (kid : Nat → Nd) (j : Nat) (W : World) (vk : Value) (vs : List Value) : Prop where
  box : Boxed W KB 102 vk
  row : W.ownsRow N 34 1 vk j vs
  kids : ∀ i, i < j → ∃ v, vs[i]? = some v ∧ Nde (fun b => F b ∧ b < KB) W (kid i) v
theorem Kdl.len {F : Nat → Prop} {N KB : Nat} {kid : Nat → Nd} {j : Nat} {W : World} {vk : Value} {vs : List Value} (h : Kdl F N KB kid j W vk vs) : vs.length = j := by
  have := h.row.1
  omega
theorem Kdl.start (F : Nat → Prop) (N KB : Nat) (kid : Nat → Nd) (W : World) (h : Boxed W KB 102 (.slice none 0 0)) : Kdl F N KB kid 0 W (.slice none 0 0) [] := ⟨h, World.ownsRow_nil _ _ _ _, fun i hi => absurd hi (Nat.not_lt_zero i)⟩
theorem Kdl.but {F : Nat → Prop} {N KB : Nat} {kid : Nat → Nd} {j : Nat} {W W' : World} {vk : Value} {vs : List Value} {X : Nat → Prop} (h : Kdl F N KB kid j W vk vs) (hk : KB < W.heap.size) (hb : But X W W') (hX : ∀ k, X k → k < N ∧ KB < k) : Kdl F N KB kid j W' vk vs where
  box := (hb.block KB hk fun e => by have := (hX KB e).2; omega).trans h.box
  row := own_kept h.row fun g hg => hb.block g (own_lt h.row hg).2.1 fun e => by
    have h1 := (hX g e).1
    have h2 := (own_lt h.row hg).1
    omega
  kids := fun i hi => by
    obtain ⟨v, h1, h2⟩ := h.kids i hi
    exact ⟨v, h1, h2.kept fun b hF hl => hb.block b hl fun e => by
      have h3 := (hX b e).2
      have h4 := hF.2
      omega⟩
/-- a child more: the row grew from W1 to W2, the variable was set -/
theorem Kdl.add {F : Nat → Prop} {N KB : Nat} {kid : Nat → Nd} {j : Nat} {W W1 W2 : World} {vk vk' nv : Value} {vs : List Value} (h : Kdl F N KB kid j W vk vs) (hN : KB < N) (hk : KB < W.heap.size) (h1 : Below W.heap.size W W1) (hn : Nde (fun b => F b ∧ b < KB) W1 (kid j) nv) (hown : W2.ownsRow N 34 1 vk' (j + 1) (vs ++ [nv])) (hg : W1.grownBy W2 vk.ownBlock) :
    (W2.cell? ⟨KB, 0, none⟩ = some vk ∧ W2.frozen? ⟨KB, 0, none⟩ = false) ∧ Kdl F N KB kid (j + 1) (W2.setCell ⟨KB, 0, none⟩ vk') vk' (vs ++ [nv]) ∧ But (fun k => k = KB ∨ N ≤ k) W (W2.setCell ⟨KB, 0, none⟩ vk') := by
  have b1 : Boxed W1 KB 102 vk := (h1.block KB hk).trans h.box
  have hown1 : ∀ g, vk.ownBlock = some g → N ≤ g ∧ g < W.heap.size := fun g hg => ⟨(own_lt h.row hg).1, (own_lt h.row hg).2.1⟩
  have b2 : Boxed W2 KB 102 vk := (hg.block KB b1.lt fun e => by have := hown1 KB e.symm; omega).trans b1
  have hset : ∀ k, k ≠ KB → (W2.setCell ⟨KB, 0, none⟩ vk').heap[k]? = W2.heap[k]? := fun k hk => Below.heap_setCell W2 ⟨KB, 0, none⟩ vk' k hk
  have keepN : ∀ {x : Nd} {v : Value}, Nde (fun b => F b ∧ b < KB) W1 x v → Nde (fun b => F b ∧ b < KB) (W2.setCell ⟨KB, 0, none⟩ vk') x v := fun {x v} hx => hx.kept fun b hF hl => (hset b (by have := hF.2; omega)).trans (hg.block b hl fun e => by
    have := hown1 b e.symm
    have := hF.2
    omega)
  have hvl : vs.length = j := h.len
  refine ⟨⟨b2.cell, b2.frozen⟩, ⟨b2.set vk', own_kept hown fun g hgg => hset g fun e => by have := (own_lt hown hgg).1; omega, fun i hi => ?_⟩, ?_⟩
  · rcases Nat.eq_or_lt_of_le (Nat.lt_succ_iff.1 hi) with rfl | hi
    · refine ⟨nv, ?_, keepN hn⟩
      rw [List.getElem?_append_right (by omega), hvl, Nat.sub_self]
      rfl
    · obtain ⟨v, k1, k2⟩ := h.kids i hi
      exact ⟨v, by rw [List.getElem?_append_left (by omega)]; exact k1, keepN (k2.below h1)⟩
  · have k1 : But (fun k => k = KB ∨ N ≤ k) W1 W2 := ⟨hg.os, hg.tape, hg.output, hg.size, fun i hi hx => hg.block i hi fun e => hx (.inr (hown1 i e.symm).1)⟩
    exact ((But.of h1).trans k1).trans ((But.set W2 KB 0 vk').mono fun k e => .inl e)
theorem Only.above {m : Option Addr} {w a b : World} {v c k : Nat} (h : Only m a b) (hm : Met w m v c) (hk : w.heap.size ≤ k) (hl : k < a.heap.size) : b.heap[k]? = a.heap[k]? := h.block k hl fun q e => by
  rcases hm with h0 | ⟨g, h1, h2⟩
  · rw [h0] at e; cases e
  · rw [h1] at e
    cases e
    have : g < w.heap.size := (Array.getElem?_eq_some_iff.1 h2).1
    show ¬ _ = g
    omega
theorem Only.but {m : Option Addr} {w a b : World} {X : Nat → Prop} (h : Only m w a) (k : But X a b) (hX : ∀ i, X i → w.heap.size ≤ i) : Only m w b :=
  ⟨k.os.trans h.os, k.tape.trans h.tape, k.output.trans h.output, Nat.le_trans h.size k.size, fun i hi hm => (k.block i (Nat.lt_of_lt_of_le hi h.size) fun e => by have := hX i e; omega).trans (h.block i hi hm)⟩
theorem intoBranch_any {f lv : Nat} (hf : f + 1 + lv = 13) (ih : GraftAt f (lv + 1)) (F : Nat → Prop) (w : World) (m ka va : Option Addr) (L : List En) (e : En) (v : Value) (kc vc vv c : Nat) (hF : Fut F w) (hT : Tab w) (hN : Nde F w (layL (f + 1) lv L) v) (hG : Good lv L) (h99 : L.length ≤ 99) (hu : Suits L e) (hw : ∀ x ∈ L, ∀ i, i < lv → ch x.1 i = ch e.1 i)
    (he : e.1 < 18446744073709551616 ∧ e.2.1.length ≤ 1000 ∧ e.2.2.length ≤ 1000) (hm : Met w m vv c) (hX : ∀ a, m = some a → ¬ F a.block) (hk : Bts w ka e.2.1) (hv : Bts w va e.2.2) (hvv : vv ≤ 800000 + lv) (hc : c ≤ vv) (hal : alike L = false) :
    Calls Tryz.prog 28 #[.agg #[.pointer m, .int .u64 (e.1 : Int), .slice ka e.2.1.length kc, .slice va e.2.2.length vc], v, .int .i64 (lv : Int)] w fun r w' =>
      ∃ v' vv' c', r = .returned (.tuple #[v', .bool (!hasE L e.2.1)]) ∧ Nde F w' (layL (f + 1) lv (putE L e)) v' ∧ Met w' m vv' c' ∧ Only m w w' ∧ Seen ((layL (f + 1) lv L).endAt e.1 lv) e.1 (vv + (layL (f + 1) lv L).deep e.1 lv) c vv' c' := by
  have hal2 := unlike_putE hu hal
  have hG2 : Good lv (putE L e) := putE_good hG he h99 hw
  have hlay2 := lay_bran (f := f) (lv := lv) hal2
  have hmask := mask_putE (lv := lv) hu
  have hway := lay_way (f := f) (lv := lv) e.1 hal
  have hlaid := lay_laid (f + 1) lv L hf hG
  have hlay := lay_bran (f := f) (lv := lv) hal
  obtain ⟨tv, bv, rfl⟩ : ∃ t b, v = .iface t (.pointer (some ⟨b, 0, none⟩)) := by
    rcases hN.nil_iff with ⟨h, _⟩ | ⟨_, t, b, h⟩
    · rw [hlay] at h; cases h
    · exact ⟨t, b, h⟩
  obtain ⟨wA, hwA, hbA, hzA, hbx0⟩ := box_put w m (e.1 : Int) ka va e.2.1.length kc e.2.2.length vc
  obtain ⟨w1, hw1⟩ : ∃ w1, w1 = wA.alloc (.cells #[.iface tv (.pointer (some ⟨bv, 0, none⟩))] 34) := ⟨_, rfl⟩
  have hbA1 : Below wA.heap.size wA w1 := by rw [hw1]; exact (Below.refl _ _).alloc (Nat.le_refl _) _
  have hb1 := below_then hbA hbA1
  have hz1 : w1.heap.size = w.heap.size + 2 := by rw [hw1]; simp [hzA]
  have rn : w1.heap[w.heap.size + 1]? = some (.cells #[.iface tv (.pointer (some ⟨bv, 0, none⟩))] 34 (0, 0)) := by rw [hw1, ← hzA]; exact heap_alloc_new wA _
  have hm1 := hm.below hb1
  have hvi := visit_any hm1 (by omega)
  have hbx : ∀ W, Only m w1 W → W.cell? ⟨w.heap.size, 0, none⟩ = some (.pointer m) ∧ W.cell? ⟨w.heap.size, 1, none⟩ = some (.int .u64 (e.1 : Int)) ∧ W.cell? ⟨w.heap.size, 2, none⟩ = some (.slice ka e.2.1.length kc) ∧ W.cell? ⟨w.heap.size, 3, none⟩ = some (.slice va e.2.2.length vc) := fun W hW => only_box hwA hm ((Only.of hbA1).trans hW)
  have hnc : ∀ W, Only m w1 W → W.cell? ⟨w.heap.size + 1, 0, none⟩ = some (.iface tv (.pointer (some ⟨bv, 0, none⟩))) := fun W hW => row_cell ((hW.above hm (by omega) (by omega)).trans rn) rfl
  have hnd : ∀ W, Only m w1 W → Nde (fun b => F b ∧ b < w.heap.size) W (layL (f + 1) lv L) (.iface tv (.pointer (some ⟨bv, 0, none⟩))) := fun W hW => ((hN.mono (G := fun b => F b ∧ b < w.heap.size) fun b hl hb => ⟨hb, hl⟩).below hb1).kept (kept_met (fun a ha hb => hX a ha hb.1) hW)
  have hby : ∀ W, Only m w1 W → Bts W ka e.2.1 ∧ Bts W va e.2.2 := fun W hW => ⟨(hk.below hb1).only hm1 hW, (hv.below hb1).only hm1 hW⟩
  have hfu : ∀ W, Only m w1 W → Fut F W := fun W hW => hF.later (by have := hW.size; omega)
  have hta : ∀ W, Only m w1 W → Tab W := fun W hW => (hT.below hb1).only hm1 hW
  have hmp : ∀ W, Only m w1 W → Calls Tryz.prog 31 #[.iface tv (.pointer (some ⟨bv, 0, none⟩))] W fun e w' => e = .returned (.tuple #[.int .u32 ((mask lv L : Nat) : Int), .bool true]) ∧ W = w' := fun W hW => by
    have h := map_any (hnd W hW)
    rw [hlay] at h
    exact h
  have hkd : ∀ W z, Only m w1 W → Calls Tryz.prog 40 #[.iface tv (.pointer (some ⟨bv, 0, none⟩)), .int .i64 z] W fun e w' => (∃ vk b, e = .returned (.tuple #[vk, .bool b]) ∧ Nde (fun b => F b ∧ b < w.heap.size) W (layL f (lv + 1) (part lv L z)) vk) ∧ ∃ n, w' = W.drewN n := fun W z hW => by
    refine (kid_any z (hnd W hW) hlaid.ok).mono ?_
    rintro e w' ⟨⟨vk, h1, h2⟩, h3⟩
    refine ⟨⟨vk, _, h1, ?_⟩, h3⟩
    rw [hlay] at h2
    rw [← lay_kid f lv L z]
    split at h2
    · rename_i hz
      rw [if_pos (show z ∈ Bt.lst (mask lv L) 32 from hz)]
      exact h2
    · rename_i hz
      rw [if_neg (show ¬ z ∈ Bt.lst (mask lv L) 32 from hz)]
      exact h2
  have hin : ∀ W vk, Only m w1 W → Nde F W (layL f (lv + 1) (part lv L ((ch e.1 lv : Nat) : Int))) vk → Met W m (vv + 1) c → Calls Tryz.prog 17 #[.agg #[.pointer m, .int .u64 (e.1 : Int), .slice ka e.2.1.length kc, .slice va e.2.2.length vc], vk, .int .i64 ((lv : Int) + 1)] W fun r w' =>
      ∃ v' vv' c', r = .returned (.tuple #[v', .bool (!hasE L e.2.1)]) ∧ Nde F w' (layL f (lv + 1) (putE (part lv L ((ch e.1 lv : Nat) : Int)) e)) v' ∧ Met w' m vv' c' ∧ Only m W w' ∧ Seen ((layL (f + 1) lv L).endAt e.1 lv) e.1 (vv + (layL (f + 1) lv L).deep e.1 lv) c vv' c' := fun W vk hW hvk hM => by
    have h := ih F W m ka va (part lv L ((ch e.1 lv : Nat) : Int)) e vk kc vc (vv + 1) c (hfu W hW) (hta W hW) hvk (hG.part _) (Nat.le_trans (part_len lv L _) h99) (hu.part lv _) (fun x hx i hi => by
      rcases Nat.eq_or_lt_of_le (Nat.lt_succ_iff.1 hi) with rfl | hi
      · have := (part_mem.1 hx).2
        omega
      · exact hw x (part_mem.1 hx).1 i hi) he hM hX (hby W hW).1 (hby W hW).2 (by omega) (by omega)
    rw [has_part hu, show ((lv + 1 : Nat) : Int) = (lv : Int) + 1 from rfl] at h
    rw [hway.1, hway.2, show ∀ d, vv + (d + 1) = vv + 1 + d from fun d => by omega]
    exact h
  obtain ⟨cc, hcc⟩ : ∃ cc, cc = ch e.1 lv := ⟨_, rfl⟩
  obtain ⟨Mk, hMk⟩ : ∃ k, k = mask lv L := ⟨_, rfl⟩
  obtain ⟨M2, hM2⟩ : ∃ k, k = mask lv (putE L e) := ⟨_, rfl⟩
  have hM32 : M2 < 4294967296 := by rw [hM2]; exact mask_lt _ _
  have hat := fun W => at_nat e.1 lv W he.1 (by omega)
  have hwi := fun W => with_any Mk ((cc : Nat) : Int) W (by rw [hMk]; exact mask_lt _ _)
  have hme : Mk ||| Bt.one ((cc : Nat) : Int) = M2 := by rw [hM2, hmask, hMk, hcc]
  simp only [hme] at hwi
  simp only [← hcc] at hat hin
  simp only [← hMk] at hmp
  obtain ⟨kidF, hkidF⟩ : ∃ kidF : Nat → Nd, kidF = fun i => layL f (lv + 1) (part lv (putE L e) (nthc M2 i)) := ⟨_, rfl⟩
  have hres : layL (f + 1) lv (putE L e) = .bran M2 (Bt.lst M2 32).length kidF := by rw [hlay2, hkidF, hM2]
  have hpt : ∀ z i, nthc M2 i = z → kidF i = if (cc : Int) = z then layL f (lv + 1) (putE (part lv L z) e) else layL f (lv + 1) (part lv L z) := fun z i hz => by
    rw [hkidF]
    show layL f (lv + 1) (part lv (putE L e) (nthc M2 i)) = _
    rw [hz, part_putE hu, ← hcc]
    split <;> rfl
  have hkl : ∀ i, Laid (part lv (putE L e) (nthc M2 i)) (lv + 1) (kidF i) := fun i => by rw [hkidF]; exact lay_laid f (lv + 1) _ (by omega) (hG2.part _)
  have hsum : sumTo (fun i => (kidF i).cnt) (Bt.lst M2 32).length ≤ 4611686018427387904 := by
    have := (lay_laid (f + 1) lv (putE L e) hf hG2).cnt
    rw [hres] at this
    have h2 : sumTo (fun i => (kidF i).cnt) (Bt.lst M2 32).length = (putE L e).length := this
    rw [h2]
    have := hG2.len
    omega
  have hkne : ∀ i, i < (Bt.lst M2 32).length → kidF i ≠ .none := fun i hi h => by
    have := (lay_laid (f + 1) lv (putE L e) hf hG2).ok
    rw [hres] at this
    exact (this.2.2.2 i hi).1 h
  have hpos : 0 < (Bt.lst M2 32).length := by
    have := (lay_laid (f + 1) lv (putE L e) hf hG2).ok
    rw [hres] at this
    exact this.2.1
  obtain ⟨q, hq⟩ : ∃ q : Nat, q = e.1 := ⟨_, rfl⟩
  obtain ⟨x1, hx1⟩ : ∃ x : Nat, x = e.2.1.length := ⟨_, rfl⟩
  obtain ⟨x2, hx2⟩ : ∃ x : Nat, x = e.2.2.length := ⟨_, rfl⟩
  obtain ⟨fb, hfb⟩ : ∃ b, b = !hasE L e.2.1 := ⟨_, rfl⟩
  obtain ⟨Z, hZ⟩ : ∃ z, z = layL f (lv + 1) (part lv L (cc : Int)) := ⟨_, rfl⟩
  obtain ⟨Y, hY⟩ : ∃ z, z = layL f (lv + 1) (putE (part lv L (cc : Int)) e) := ⟨_, rfl⟩
  have hYne : Y ≠ .none := fun h => by
    have hl := lay_laid f (lv + 1) (putE (part lv L (cc : Int)) e) (by omega) (putE_good (hG.part _) he (Nat.le_trans (part_len lv L _) h99) fun x hx i hi => by
      rcases Nat.eq_or_lt_of_le (Nat.lt_succ_iff.1 hi) with rfl | hi
      · have := (part_mem.1 hx).2
        omega
      · exact hw x (part_mem.1 hx).1 i hi)
    rw [← hY] at hl
    exact putE_ne _ _ (hl.nil.1 h)
  obtain ⟨SN, hSN⟩ : ∃ S : Nat → Nat → Prop, S = fun a b => Seen ((layL (f + 1) lv L).endAt e.1 lv) e.1 (vv + (layL (f + 1) lv L).deep e.1 lv) c a b := ⟨_, rfl⟩
  have hSe : ∀ a b, Seen ((layL (f + 1) lv L).endAt e.1 lv) e.1 (vv + (layL (f + 1) lv L).deep e.1 lv) c a b = SN a b := fun a b => by rw [hSN]
  simp only [hSe, ← hY, ← hZ] at hin
  rw [← hq, ← hx1, ← hx2] at hwA
  simp only [← hq, ← hx1, ← hx2, ← hfb] at hbx hin hat
  simp only [hSe]
  rw [hres, ← hq, ← hx1, ← hx2, ← hfb]
  have HBX := Lib.hid hbx; clear hbx
  have HNC := Lib.hid hnc; clear hnc
  have HFU := Lib.hid hfu; clear hfu
  have HTA := Lib.hid hta; clear hta
  have HMP := Lib.hid hmp; clear hmp
  have HKD := Lib.hid hkd; clear hkd
  have HIN := Lib.hid hin; clear hin
  have HAT := Lib.hid hat; clear hat
  have HWI := Lib.hid hwi; clear hwi
  have HPT := Lib.hid hpt; clear hpt
  have HKL := Lib.hid hkl; clear hkl
  have HSM := Lib.hid (And.intro hsum (And.intro hkne hpos)); clear hsum hkne hpos
  have HWA := Lib.hid hwA; clear hwA
  have HW1 := Lib.hid hw1; clear hw1
  have HB1 := Lib.hid hb1; clear hb1
  have HZ1 := Lib.hid hz1; clear hz1
  have HM0 := Lib.hid hm; clear hm
  have HVI := Lib.hid hvi; clear hvi
  have HYN := Lib.hid hYne; clear hYne
  have HZY := Lib.hid (And.intro hZ hY); clear hZ hY
  have HX := Lib.hid hX; clear hX
  have HFF := Lib.hid hF; clear hF
  have hlv : lv ≤ 12 := by omega
  clear hT hN hG h99 hu hw he hk hv hvv hc hal hal2 hG2 hlay2 hmask hway hlaid hlay hbA hzA hbx0 hbA1 rn hm1 hnd hby hcc hMk hM2 hme hkidF hres hq hx1 hx2 hfb hSN hSe ih
  refine (callsIn_wide (n := 3)).1 ?_
  refine callsIn_of_wp_marks Tryz.func28 rfl trivial ?_ rfl
  simp only [Tryz.ntmps28, List.size_toArray, List.length_cons, List.length_nil, Nat.reduceAdd, Nat.reduceSub, Array.replicate_succ, Array.replicate_zero, List.push_toArray, List.append_toArray, List.nil_append, List.cons_append]
  refine wpIn_wide.2 ?_
  go_wp2_with fail
  rw [← HWA.out, ← HW1.out]
  refine HVI.out.mono ?_
  rintro r w2 ⟨rfl, hm2, ho2⟩
  have M2' := Lib.hid hm2; clear hm2
  have O2 := Lib.hid ho2
  obtain ⟨c0, c1, c2, c3⟩ := HBX.out w2 ho2
  have c4 := HNC.out w2 ho2
  clear ho2 HVI
  go_wp2_with fail
  refine (HMP.out w2 O2.out).mono ?_
  rintro r w' ⟨rfl, rfl⟩
  go_wp2_with fail
  refine (HAT.out w2).mono ?_
  rintro r w' ⟨rfl, rfl⟩
  obtain ⟨g3, hg3⟩ : ∃ g, g = w2.heap.size := ⟨_, rfl⟩
  obtain ⟨w3, hw3⟩ : ∃ w3, w3 = w2.alloc (.cells #[.int .i64 (cc : Int)] 3) := ⟨_, rfl⟩
  have hb3 : Below w2.heap.size w2 w3 := by rw [hw3]; exact (Below.refl _ _).alloc (Nat.le_refl _) _
  have r3 : w3.heap[g3]? = some (.cells #[.int .i64 (cc : Int)] 3 (0, 0)) := by rw [hw3, hg3]; exact heap_alloc_new w2 _
  have hg3l : g3 < w3.heap.size := (Array.getElem?_eq_some_iff.1 r3).1
  have hg3w : w1.heap.size ≤ g3 := by have := O2.out.size; omega
  have O3 := Lib.hid (O2.out.trans (Only.of hb3))
  have HOW : Hid (∀ W, Only m w3 W → W.cell? ⟨g3, 0, none⟩ = some (.int .i64 (cc : Int))) := fun W hW => row_cell ((hW.above HM0.out (by have := HZ1.out; omega) hg3l).trans r3) rfl
  have M3 := Lib.hid (M2'.out.below hb3)
  clear c0 c1 c2 c3 c4
  obtain ⟨c0, c1, c2, c3⟩ := HBX.out w3 O3.out
  have c4 := HNC.out w3 O3.out
  have c5 := HOW.out w3 (Only.refl _ _)
  have HG3 := Lib.hid (And.intro hg3l hg3w); clear hg3l hg3w
  have HW3 := Lib.hid hw3; clear hw3
  have HGE := Lib.hid hg3; clear hg3
  clear hb3 r3 M2' HMP HAT
  go_upto_region 4 with fail
  simp only [← HGE.out] at HW3 ⊢
  rw [← HW3.out]
  go_wp2_with fail
  refine (HKD.out w3 (cc : Int) O3.out).mono ?_
  rintro r w4 ⟨⟨vk, b4, rfl, hvk⟩, n4, rfl⟩
  have hb4 : Below w3.heap.size w3 (w3.drewN n4) := below_drewN (Below.refl _ _) _
  rw [← HZY.out.1] at hvk
  have N4 := Lib.hid ((hvk.below hb4).mono (G := F) fun b _ h => h.1)
  have M4 := Lib.hid (M3.out.below hb4)
  have O4 := Lib.hid (O3.out.trans (Only.of hb4))
  have P4 := Lib.hid (Only.of (m := m) hb4)
  obtain ⟨w4, hw4⟩ : ∃ w4, w4 = w3.drewN n4 := ⟨_, rfl⟩
  rw [← hw4] at N4 M4 O4 P4 ⊢
  have J := Lib.hid (HIN.out w4 vk O4.out N4.out M4.out)
  clear c0 c1 c2 c3 c4 c5 hvk hb4 hw4 M3
  obtain ⟨c0, c1, c2, c3⟩ := HBX.out w4 O4.out
  go_wp2_with fail
  refine J.out.mono ?_
  rintro r w5 ⟨mv, vv', c', rfl, hmv, hm5, ho5, hsn⟩
  obtain ⟨tm, bm, rfl⟩ : ∃ t b, mv = .iface t (.pointer (some ⟨b, 0, none⟩)) := by
    rcases hmv.nil_iff with ⟨h, _⟩ | ⟨_, t, b, h⟩
    · exact absurd h HYN.out
    · exact ⟨t, b, h⟩
  have P5 := Lib.hid (P4.out.trans ho5)
  have O5 := Lib.hid (O4.out.trans ho5)
  obtain ⟨g6, hg6⟩ : ∃ g, g = w5.heap.size := ⟨_, rfl⟩
  obtain ⟨w6, hw6⟩ : ∃ w6, w6 = w5.alloc (.cells #[.iface tm (.pointer (some ⟨bm, 0, none⟩))] 34) := ⟨_, rfl⟩
  have hb6 : Below w5.heap.size w5 w6 := by rw [hw6]; exact (Below.refl _ _).alloc (Nat.le_refl _) _
  have r6 : w6.heap[g6]? = some (.cells #[.iface tm (.pointer (some ⟨bm, 0, none⟩))] 34 (0, 0)) := by rw [hw6, hg6]; exact heap_alloc_new w5 _
  have hg6l : w6.heap.size = g6 + 1 := by rw [hw6, hg6]; simp
  have NY := Lib.hid (hmv.below hb6)
  have M6 := Lib.hid (hm5.below hb6)
  have O6 := Lib.hid (O5.out.trans (Only.of hb6))
  have P6 := Lib.hid (P5.out.trans (Only.of hb6))
  have SNN := Lib.hid hsn
  have R6 := Lib.hid (And.intro r6 hg6l)
  have c5 := HOW.out w6 P6.out
  have HW6 := Lib.hid hw6; clear hw6
  have HGS := Lib.hid hg6; clear hg6
  clear hmv hm5 ho5 hsn J hb6 r6 hg6l M4 N4 c0 c1 c2 c3
  go_upto_region 6 with fail
  simp only [← HGS.out] at HW6 ⊢
  rw [← HW6.out]
  go_wp2_with fail
  refine (HWI.out w6).mono ?_
  rintro r w' ⟨rfl, rfl⟩
  obtain ⟨KB, hKB⟩ : ∃ g, g = w6.heap.size := ⟨_, rfl⟩
  obtain ⟨w7, hw7⟩ : ∃ w7, w7 = w6.alloc (.cells #[.slice none 0 0] 102) := ⟨_, rfl⟩
  have b7 : Below w6.heap.size w6 w7 := by rw [hw7]; exact (Below.refl _ _).alloc (Nat.le_refl _) _
  have z7 : w7.heap.size = KB + 1 := by rw [hw7, hKB]; simp
  have k7 : Boxed w7 KB 102 (.slice none 0 0) := by rw [hw7, hKB]; exact Boxed.new w6 102 _
  have HALL := Lib.hid (fun W => all_any M2 W)
  have HW7 := Lib.hid hw7; clear hw7
  have HKB := Lib.hid hKB; clear hKB
  clear c5 HWI
  go_wp2_with fail
  simp only [← HKB.out] at HW7 ⊢
  rw [← HW7.out]
  refine (HALL.out _).mono ?_
  rintro r wy ⟨rfl, hwy⟩
  have b12 : Below w7.heap.size w7 wy := by rw [← hwy]; exact (Below.refl _ _).alloc (Nat.le_refl _) _
  have z2 : wy.heap.size = w7.heap.size + 1 := by rw [← hwy]; simp
  have rm : wy.heap[w7.heap.size]? = some (.cells #[.int .u32 (M2 : Int)] 62 (0, 0)) := by rw [← hwy]; exact heap_alloc_new w7 _
  have hef := fun lb : Array Value => (by kernel_rfl : Sem.run Tryz.prog (binOp BinOp.eql 89 (Value.func (Fn.func 58) #[] lb) Value.nilFunc) wy = .ok (.bool false) wy)
  clear hwy
  have bwy : Below w6.heap.size w6 wy := below_then b7 b12
  have Oy := Lib.hid (O6.out.trans (Only.of bwy))
  have Py := Lib.hid (P6.out.trans (Only.of bwy))
  have My := Lib.hid (M6.out.below bwy)
  have NYy := Lib.hid (NY.out.below bwy)
  have ky : Boxed wy KB 102 (.slice none 0 0) := (b12.block _ (by omega)).trans k7
  have hTy : Tab wy := HTA.out wy Oy.out
  obtain ⟨N, hN⟩ : ∃ N, N = wy.heap.size + 2 := ⟨_, rfl⟩
  have hK6 : w6.heap.size = KB := HKB.out.symm
  have hKB1 : w1.heap.size ≤ KB := by have := O6.out.size; omega
  have hKB0 : 0 < KB := by have := HZ1.out; omega
  have hg36 : g3 < KB ∧ g6 < KB := ⟨by have := HG3.out.1; have := P6.out.size; omega, by have := R6.out.2; omega⟩
  obtain ⟨X, hXX⟩ : ∃ X : Nat → Prop, X = fun k => k = KB ∨ N ≤ k := ⟨_, rfl⟩
  have hX0 : ¬ X 0 := by rw [hXX]; rintro (h | h) <;> omega
  have hseq : HandsK 2 Tryz.prog 58 #[.pointer (some ⟨w7.heap.size, 0, none⟩)] X (fun j vs W => But X wy W ∧ j < (Bt.lst M2 32).length ∧ vs = #[.int .i64 ((Bt.lst M2 32).getD j 0)]) (fun j => j = (Bt.lst M2 32).length) wy :=
    bits_handsK (by omega) hM32 (row_cell rm rfl) (by omega) hTy hX0
  obtain ⟨I, hI⟩ : ∃ I : Nat → World → Prop, I = fun (j : Nat) W => But X wy W ∧ ∃ vk vs, Kdl F N KB kidF j W vk vs := ⟨_, rfl⟩
  obtain ⟨Ix, hIx⟩ : ∃ Ix : Code → Nat → World → Prop, Ix = fun (_ : Code) (_ : Nat) _ => False := ⟨_, rfl⟩
  have sI : ∀ j A B, I j A → But (fun k => k = wy.heap.size ∨ k = wy.heap.size + 1) A B → I j B := by
    subst hI
    rintro j A B ⟨h1, vk, vs, h2⟩ k
    refine ⟨⟨k.os.trans h1.os, k.tape.trans h1.tape, k.output.trans h1.output, Nat.le_trans h1.size k.size, fun i hi hx => (k.block i (Nat.lt_of_lt_of_le hi h1.size) (by omega)).trans (h1.block i hi hx)⟩, vk, vs, h2.but (by have := h1.size; omega) k fun q hq => by omega⟩
  have I0 : I 0 wy := by
    subst hI
    exact ⟨But.refl _ _, _, _, Kdl.start F N KB kidF wy ky⟩
  have HI := Lib.hid (And.intro hI hXX); clear hXX
  have HKN : Hid (KB < wy.heap.size ∧ wy.heap.size + 2 = N ∧ KB + 2 = wy.heap.size ∧ w1.heap.size ≤ KB ∧ g3 < KB ∧ g6 < KB ∧ w3.heap.size ≤ KB ∧ w6.heap.size = KB) := ⟨by omega, by omega, by omega, hKB1, hg36.1, hg36.2, by have := P6.out.size; omega, by omega⟩
  have B6 := Lib.hid bwy
  have NY6 : Hid (Nde (fun b => F b ∧ b < KB) wy Y (.iface tm (.pointer (some ⟨bm, 0, none⟩)))) := (NY.out.mono (G := fun b => F b ∧ b < KB) fun b hl hb => ⟨hb, by omega⟩).below bwy
  clear b7 b12 bwy k7 rm ky HALL z7 z2 hN hKB1 hKB0 hg36 hK6 NY M6
  go_wp2_with fail
  clear hef
  refine (wpIn_wide (n := 3)).1 ?_
  refine wp_rangeK (n := 3) (gf := 58) (lb := #[.pointer (some ⟨w7.heap.size, 0, none⟩)]) rfl (enters_of Tryz.func58 (by kernel_rfl) rfl) I Ix hseq sI ?sIx ?hX I0 ?round ?done ?stop
  case sIx => subst hIx; exact fun c j A B h _ => h
  case hX =>
    rw [HI.out.2]
    have := HKN.out
    rintro k (h | h) <;> omega
  case stop =>
    intro d c j W hd hix hdf
    rw [hIx] at hix
    exact hix.elim
  case done =>
    clear hseq I0
    intro d jd W hd hD hi hdf
    rw [hI] at hi
    obtain ⟨g1, vks, vs, kds⟩ := hi
    have hkn := HKN.out
    have hk0 : 0 < (Bt.lst M2 32).length := HSM.out.2.2
    have hk32 := Bt.list_le M2 32
    have hvl := kds.len
    have hkcell : W.cell? ⟨KB, 0, none⟩ = some vks := kds.box.cell
    obtain ⟨_, Ak, ck, rfl, hck, hkg⟩ := row_reads1 kds.row
    obtain ⟨g, rfl, hgN, hgW, hgc⟩ := hkg (by omega)
    have hdl : d < W.heap.size := (Array.getElem?_eq_some_iff.1 hdf).1
    have hszW : wy.heap.size ≤ W.heap.size := g1.size
    have hw1y : w1.heap.size ≤ wy.heap.size := Oy.out.size
    have hww1 := HZ1.out
    have hXm : ∀ i, X i → KB ≤ i := fun i e => by
      rw [HI.out.2] at e
      rcases e with e | e <;> omega
    have hnds : Nds (fun b => F b ∧ b ≠ d) W (some ⟨g, 0, none⟩) jd kidF := .inr ⟨g, vs, rfl, hgW, hvl, fun i hi => by
      obtain ⟨v, e1, e2⟩ := kds.kids i (by omega)
      have e3 : v = vs[i] := by rw [List.getElem?_eq_getElem hi] at e1; exact (Option.some.inj e1).symm
      subst e3
      exact ⟨(hgc i (by omega)).trans e1, e2.mono fun b _ hF => ⟨hF.1, by have := hF.2; omega⟩⟩⟩
    have hFut : Fut (fun b => F b ∧ b ≠ d) W := fun b hb => ⟨HFF.out b (by omega), by omega⟩
    have hbr := branch_any ck hFut hM32 hnds (by omega) (fun i _ => (HKL.out i).ok) (by rw [hD]; exact HSM.out.1)
    have hbran : Nd.branch M2 jd kidF = .bran M2 (Bt.lst M2 32).length kidF := by
      have e2 : someTo kidF jd = true := (someTo_iff kidF jd).2 fun i hi => HSM.out.2.1 i (by omega)
      rw [Nd.branch, if_pos (by rw [decide_eq_true (show 0 < jd by omega), decide_eq_true hD.symm, e2]; rfl), hD]
    rw [hbran] at hbr
    have hfin : ∀ w' : World, Below W.heap.size W w' → w'.heap[d]? = some (.deferred (some [])) ∧ (∀ v, Nde (fun b => F b ∧ b ≠ d) w' (.bran M2 (Bt.lst M2 32).length kidF) v → Nde F (w'.putObj d (.deferred none)) (.bran M2 (Bt.lst M2 32).length kidF) v) ∧ Met (w'.putObj d (.deferred none)) m vv' c' ∧ Only m w (w'.putObj d (.deferred none)) := fun w' hb => by
      have p := But.put w' d (.deferred none)
      refine ⟨(hb.block d hdl).trans hdf, fun v hv => (hv.kept fun b hF hl => p.block b hl (by have := hF.2; omega)).mono fun b _ hF => hF.1, ?_, ?_⟩
      · rcases HM0.out with h0 | ⟨k0, e0, r0⟩
        · exact .inl h0
        · have hk0w : k0 < w.heap.size := (Array.getElem?_eq_some_iff.1 r0).1
          rcases My.out with h1 | ⟨k1, e1, r1⟩
          · exact .inl h1
          · rw [e0] at e1
            cases e1
            exact .inr ⟨k0, e0, (p.block k0 (by have := hb.size; omega) (by omega)).trans ((hb.block k0 (by omega)).trans ((g1.block k0 (by omega) fun e => by have := hXm k0 e; omega).trans r1))⟩
      · have o1 : Only m w wy := (Only.of HB1.out).trans Oy.out
        have o2 := (o1.but g1 fun i e => by have := hXm i e; omega).trans (Only.of (m := m) hb)
        exact o2.but p fun i e => by omega
    have HBR := Lib.hid hbr; clear hbr
    have HFIN := Lib.hid hfin; clear hfin
    have HJD := Lib.hid hD; clear hD
    clear hbran hFut hdl hszW hnds hgc hgW hgN hck hvl hk32 hk0 hkn kds g1 hdf hI hIx sI hd hw1y hww1 hXm
    go_wp2_with fail
    refine HBR.out.mono ?_
    rintro r w' ⟨v, rfl, hv, hb⟩
    obtain ⟨f1, f2, f3, f4⟩ := HFIN.out w' hb
    have HF2 := Lib.hid (f2 v hv); clear f2 hv hb
    have HF1 := Lib.hid f1; clear f1
    have HF3 := Lib.hid f3; clear f3
    have HF4 := Lib.hid f4; clear f4
    go_wp2_with fail
    refine ⟨by simp, .inl ⟨_, _, rfl, run_takeDeferred HF1.out, ?_⟩⟩
    refine ⟨.tuple #[v, .bool fb], ?_, ?_⟩
    · simp [results, Tryz.f28, go_sem]
    · exact ⟨v, vv', c', rfl, HF2.out, HF3.out, HF4.out, SNN.out⟩
  case round =>
    clear hseq I0
    rintro l jj vs W hl hlt hi ⟨hkw, hj, rfl⟩
    have hkn := HKN.out
    have hcm := nthc_mem hj
    obtain ⟨cN, hcN⟩ : ∃ cN : Nat, (cN : Int) = nthc M2 jj := ⟨(nthc M2 jj).toNat, by have := Bt.lst_lt M2 32 _ hcm; omega⟩
    have hcg : (Bt.lst M2 32).getD jj 0 = (cN : Int) := hcN.symm
    have hj32 : jj ≤ 32 := by have := Bt.list_le M2 32; omega
    rw [hcg]
    refine ⟨rfl, fun K hK => ?_⟩
    have HK := Lib.hid hK; clear hK
    have HII := Lib.hid hi; clear hi
    have HKW := Lib.hid hkw; clear hkw
    have HCN := Lib.hid hcN; clear hcN
    have HJJ := Lib.hid hj; clear hj
    clear hcg hcm
    gi_wp2_with fail
    refine HK.out _ _ (But.refl _ _) ?_
    rintro W2 hk2 ⟨r, hr⟩
    have hI2 := sI jj W W2 HII.out (hk2.mono fun k e => .inr (by omega))
    rw [hI] at hI2
    obtain ⟨g1, vk, vs, kds⟩ := hI2
    have hXm : ∀ i, X i → KB ≤ i := fun i e => by
      rw [HI.out.2] at e
      rcases e with e | e <;> omega
    have O7 := Lib.hid (Oy.out.but g1 fun i e => by have := hXm i e; omega)
    have P7 := Lib.hid (Py.out.but g1 fun i e => by have := hXm i e; omega)
    have r6 : W2.heap[g6]? = some (.cells #[.iface tm (.pointer (some ⟨bm, 0, none⟩))] 34 (0, 0)) := (g1.block g6 (by omega) fun e => by have := hXm g6 e; omega).trans ((B6.out.block g6 (by omega)).trans R6.out.1)
    have hX6 : Hid (Nde (fun b => F b ∧ b < KB) W2 Y (.iface tm (.pointer (some ⟨bm, 0, none⟩)))) := NY6.out.kept fun b hb hl => g1.block b hl fun e => by have := hXm b e; have := hb.2; omega
    have e0 := HNC.out W2 O7.out
    have J := Lib.hid (HKD.out W2 (cN : Int) O7.out)
    have R7 := Lib.hid r6
    have KDS := Lib.hid kds
    have G1 := Lib.hid g1
    have HJ3 := Lib.hid hj32
    have HVV := Lib.hid (kds.row)
    have HLL := Lib.hid hl
    have HLT : Hid (N ≤ W2.heap.size) := by have := hk2.size; show _ ≤ _; omega
    clear hk2 hr r6 kds g1 hXm hkn HII HKW sI hl
    gi_wp2_with fail
    refine ⟨trivial, (CallsIn.inRound l (callsIn_wide.2 J.out)).mono ?_⟩
    rintro r w' ⟨⟨vkd, bk0, rfl, hvkd⟩, n7, rfl⟩
    have hb23 : Below W2.heap.size W2 (W2.drewN n7) := below_drewN (Below.refl _ _) _
    obtain ⟨W3, hW3⟩ : ∃ W3, W3 = W2.drewN n7 := ⟨_, rfl⟩
    rw [← hW3] at hb23 ⊢
    have e1 := HOW.out W3 (P7.out.trans (Only.of hb23))
    have e2 : W3.cell? ⟨g6, 0, none⟩ = some (.iface tm (.pointer (some ⟨bm, 0, none⟩))) := row_cell ((hb23.block g6 (Array.getElem?_eq_some_iff.1 R7.out).1).trans R7.out) rfl
    have e3 : W3.cell? ⟨KB, 0, none⟩ = some vk := Boxed.cell (B := KB) (show Boxed W3 KB 102 vk from (hb23.block KB KDS.out.box.lt).trans KDS.out.box)
    obtain ⟨_, Ak, ck, rfl, _, _⟩ := row_reads1 HVV.out
    have hvk3 := hvkd.below hb23
    have B23 := Lib.hid hb23
    clear hW3 e0 hvkd hb23 J HVV
    by_cases hcc : cN = cc
    · have h1 : (((cN : Nat) : Int) == (cc : Int)) = true := by simp [hcc]
      have HNV : Hid (∀ W5, Below W3.heap.size W3 W5 → Nde (fun b => F b ∧ b < KB) W5 (kidF jj) (.iface tm (.pointer (some ⟨bm, 0, none⟩)))) := fun W5 h5 => by
        have := HPT.out (cc : Int) jj (by rw [← HCN.out, hcc])
        rw [if_pos rfl, ← HZY.out.2] at this
        rw [this]
        exact (hX6.out.below B23.out).below h5
      clear hvk3 hX6
      obtain ⟨W5, hW5⟩ : ∃ W, W = W3.alloc (.cells #[.iface tm (.pointer (some ⟨bm, 0, none⟩))] 34) := ⟨_, rfl⟩
      have hb5 : Below W3.heap.size W3 W5 := by rw [hW5]; exact (Below.refl _ _).alloc (Nat.le_refl _) _
      have r5 : W5.heap[W3.heap.size]? = some (.cells #[.iface tm (.pointer (some ⟨bm, 0, none⟩))] 34 (0, 0)) := by rw [hW5]; exact heap_alloc_new W3 _
      have hb25 : Below W2.heap.size W2 W5 := below_then B23.out hb5
      obtain ⟨i0, hi0, hz0, hz1, hz2⟩ := info_parts Tryz.info26
      obtain ⟨v', W4, hr, hown, hg4, _, hob⟩ := run_append_own_at (P := Tryz.prog) (w := W5) N 102 102 34 i0 .nilIface 1 16 Tryz.underlying102 hi0 hz0 hz1 hz2 rfl (by decide) _ jj vs (own_below KDS.out.row hb25) ⟨W3.heap.size, 0, none⟩ 1 1 [.iface tm (.pointer (some ⟨bm, 0, none⟩))] rfl
        (by
          intro q u hq
          rw [Go.WideShapes.add_plain, Nat.zero_add, cell_of_row _ W3.heap.size q _ 34 (0, 0) r5, ← hq]
          simp)
        (by
          intro u hu
          rw [List.mem_singleton] at hu
          subst hu
          rfl)
        (by unfold maxLen; omega) (by omega) (by have := hb25.size; have := HLT.out; omega)
      obtain ⟨⟨q1, q2⟩, q3, q4⟩ := KDS.out.add (W1 := W5) (W2 := W4) (nv := .iface tm (.pointer (some ⟨bm, 0, none⟩))) (vk' := v') (by have := HKN.out; omega) (by have := G1.out.size; have := HKN.out; omega) hb25 (HNV.out W5 hb5) hown hg4
      obtain ⟨_, A4, c4, rfl, _, _⟩ := row_reads1 hown
      have Q3 := Lib.hid (And.intro q3 q4)
      have HW5 := Lib.hid hW5; clear hW5
      have HR := Lib.hid hr
      clear hown hg4 hob hi0 hz0 hz1 hz2 r5 hb25 hb5 q3 q4 hr
      gi_wp2_with (gi_at_builtin; rw [← HW5.out]; refine listIn_app _ rfl rfl rfl rfl HR.out ?_)
      have hbX : But X W2 (W4.setCell ⟨KB, 0, none⟩ (.slice A4 (jj + 1) c4)) := by
        rw [HI.out.2]
        exact Q3.out.2
      refine ⟨hbX, ?_⟩
      rw [HI.out.1]
      exact ⟨G1.out.trans hbX, _, _, Q3.out.1⟩
    · have h1 : (((cN : Nat) : Int) == (cc : Int)) = false := by simp; omega
      have hkx : kidF jj = layL f (lv + 1) (part lv L (cN : Int)) := by
        have := HPT.out (cN : Int) jj HCN.out.symm
        rw [if_neg (by omega)] at this
        exact this
      rw [← hkx] at hvk3
      obtain ⟨tk, bk, rfl⟩ : ∃ t b, vkd = .iface t (.pointer (some ⟨b, 0, none⟩)) := by
        rcases hvk3.nil_iff with ⟨h, _⟩ | ⟨_, t, b, h⟩
        · exact absurd h (HSM.out.2.1 jj HJJ.out)
        · exact ⟨t, b, h⟩
      have HNV : Hid (∀ W5, Below W3.heap.size W3 W5 → Nde (fun b => F b ∧ b < KB) W5 (kidF jj) (.iface tk (.pointer (some ⟨bk, 0, none⟩)))) := fun W5 h5 => (hvk3.mono (G := fun b => F b ∧ b < KB) fun b _ h => ⟨h.1, by have := HKN.out; have := HZ1.out; have := h.2; omega⟩).below h5
      clear hvk3 hX6 hkx
      obtain ⟨W5, hW5⟩ : ∃ W, W = W3.alloc (.cells #[.iface tk (.pointer (some ⟨bk, 0, none⟩))] 34) := ⟨_, rfl⟩
      have hb5 : Below W3.heap.size W3 W5 := by rw [hW5]; exact (Below.refl _ _).alloc (Nat.le_refl _) _
      have r5 : W5.heap[W3.heap.size]? = some (.cells #[.iface tk (.pointer (some ⟨bk, 0, none⟩))] 34 (0, 0)) := by rw [hW5]; exact heap_alloc_new W3 _
      have hb25 : Below W2.heap.size W2 W5 := below_then B23.out hb5
      obtain ⟨i0, hi0, hz0, hz1, hz2⟩ := info_parts Tryz.info26
      obtain ⟨v', W4, hr, hown, hg4, _, hob⟩ := run_append_own_at (P := Tryz.prog) (w := W5) N 102 102 34 i0 .nilIface 1 16 Tryz.underlying102 hi0 hz0 hz1 hz2 rfl (by decide) _ jj vs (own_below KDS.out.row hb25) ⟨W3.heap.size, 0, none⟩ 1 1 [.iface tk (.pointer (some ⟨bk, 0, none⟩))] rfl
        (by
          intro q u hq
          rw [Go.WideShapes.add_plain, Nat.zero_add, cell_of_row _ W3.heap.size q _ 34 (0, 0) r5, ← hq]
          simp)
        (by
          intro u hu
          rw [List.mem_singleton] at hu
          subst hu
          rfl)
        (by unfold maxLen; omega) (by omega) (by have := hb25.size; have := HLT.out; omega)
      obtain ⟨⟨q1, q2⟩, q3, q4⟩ := KDS.out.add (W1 := W5) (W2 := W4) (nv := .iface tk (.pointer (some ⟨bk, 0, none⟩))) (vk' := v') (by have := HKN.out; omega) (by have := G1.out.size; have := HKN.out; omega) hb25 (HNV.out W5 hb5) hown hg4
      obtain ⟨_, A4, c4, rfl, _, _⟩ := row_reads1 hown
      have Q3 := Lib.hid (And.intro q3 q4)
      have HW5 := Lib.hid hW5; clear hW5
      have HR := Lib.hid hr
      clear hown hg4 hob hi0 hz0 hz1 hz2 r5 hb25 hb5 q3 q4 hr
      gi_wp2_with (gi_at_builtin; rw [← HW5.out]; refine listIn_app _ rfl rfl rfl rfl HR.out ?_)
      have hbX : But X W2 (W4.setCell ⟨KB, 0, none⟩ (.slice A4 (jj + 1) c4)) := by
        rw [HI.out.2]
        exact Q3.out.2
      refine ⟨hbX, ?_⟩
      rw [HI.out.1]
      exact ⟨G1.out.trans hbX, _, _, Q3.out.1⟩
end Go.Proofs.YtmbdimonfdncpaaGreatDoor
/-
  Contracts of graft's into, by induction on the level, and of Put: a layout with an entry more.
-/
namespace Go.Proofs.YtmbdimonfdncpaaGreatDoor
open Go.RowKit Go.Shelf
set_option maxHeartbeats 4000000
set_option maxRecDepth 100000
attribute [local irreducible] Bt.lst
theorem seen_none (h v c : Nat) : Seen .none h v c v c := ⟨fun e => (by cases e), fun _ => ⟨rfl, rfl⟩, fun e => (by cases e), by omega, Nat.le_refl _⟩
theorem graft_step {f lv : Nat} (hf : f + lv = 13) (ih : ∀ f', f = f' + 1 → GraftAt f' (lv + 1)) : GraftAt f lv := fun F w m ka va L e v kc vc vv c hF hT hN hG h99 hu hw he hm hX hk hv hvv hc => by
  obtain ⟨w1, hw1, hb1, hz1, hbx⟩ := box_put w m (e.1 : Int) ka va e.2.1.length kc e.2.2.length vc
  have hF1 : Fut F w1 := hF.later (by omega)
  have hN1 := hN.below hb1
  have hm1 := hm.below hb1
  have hk1 := hk.below hb1
  have hv1 := hv.below hb1
  have hkd := kindOf_any hN1
  obtain ⟨SN, hSN⟩ : ∃ S : Nat → Nat → Prop, S = fun a b => Seen ((layL f lv L).endAt e.1 lv) e.1 (vv + (layL f lv L).deep e.1 lv) c a b := ⟨_, rfl⟩
  have hSe : ∀ a b, Seen ((layL f lv L).endAt e.1 lv) e.1 (vv + (layL f lv L).deep e.1 lv) c a b = SN a b := fun a b => by rw [hSN]
  obtain ⟨fb, hfb⟩ : ∃ b, b = !hasE L e.2.1 := ⟨_, rfl⟩
  obtain ⟨Z, hZ⟩ : ∃ z, z = layL f lv (putE L e) := ⟨_, rfl⟩
  simp only [hSe]
  rw [← hfb, ← hZ]
  have hsf : (layL f lv L).kind ≠ 3 → ∀ a b, Seen (layL f lv L) e.1 vv c a b → SN a b := fun h3 a b hs => by
    obtain ⟨e1, e2⟩ := end_flat e.1 lv h3
    rw [hSN]
    show Seen ((layL f lv L).endAt e.1 lv) e.1 (vv + (layL f lv L).deep e.1 lv) c a b
    rw [e1, e2]
    exact hs
  -- what each kind's function leads to
  have hcase : ((layL f lv L).kind = 0 ∧ Calls Tryz.prog 29 #[.agg #[.pointer m, .int .u64 (e.1 : Int), .slice ka e.2.1.length kc, .slice va e.2.2.length vc]] w1 fun r w' => ∃ v', r = .returned v' ∧ fb = true ∧ Nde F w' Z v' ∧ Met w' m vv c ∧ Only m w w' ∧ SN vv c) ∨
      (∃ k fn, (layL f lv L).kind = k ∧ ((k = 1 ∧ fn = 26) ∨ (k = 2 ∧ fn = 27) ∨ (k = 3 ∧ fn = 28)) ∧ Calls Tryz.prog fn #[.agg #[.pointer m, .int .u64 (e.1 : Int), .slice ka e.2.1.length kc, .slice va e.2.2.length vc], v, .int .i64 (lv : Int)] w1 fun r w' =>
        ∃ v' vv' c', r = .returned (.tuple #[v', .bool fb]) ∧ Nde F w' Z v' ∧ Met w' m vv' c' ∧ Only m w w' ∧ SN vv' c') := by
    cases ha : alike L with
    | true =>
      have hl := lay_flat ha f lv
      have hal := (alike_iff L).1 ha
      match L, hl, hal with
      | [], hl, _ =>
        refine .inl ⟨by rw [hl]; rfl, ?_⟩
        refine (alone_any e.1 kc vc hF1 hk1 hv1 (by omega)).mono ?_
        rintro r w' ⟨v', rfl, h1, h2⟩
        exact ⟨v', rfl, hfb, by rw [hZ, putE_nil, lay_one]; exact h1, hm1.below h2, (Only.of hb1).trans (Only.of h2), hsf (by rw [hl]; intro h; cases h) vv c (by rw [hl]; exact seen_none _ _ _)⟩
      | [a], hl, _ =>
        have hla : flatL [a] = .leaf a.1 a.2 := rfl
        refine .inr ⟨1, _, by rw [hl]; rfl, .inl ⟨rfl, rfl⟩, ?_⟩
        rw [hl, hla] at hN1
        refine (intoLeaf_any kc vc hf hF1 hN1 hG hu (fun i hi => hw a (List.mem_singleton.2 rfl) i hi) hm1 hX hk1 hv1 he (by omega) (by omega)).mono ?_
        rintro r w' ⟨v', vv', c', h1, h2, h3, h4, h5⟩
        exact ⟨v', vv', c', by rw [h1, hfb], by rw [hZ]; exact h2, h3, (Only.of hb1).trans h4, hsf (by rw [hl, hla]; intro h; cases h) _ _ (by rw [hl, hla]; exact h5)⟩
      | a :: b :: t, hl, hal =>
        have h2 : 2 ≤ (a :: b :: t).length := by simp
        have hs : ∀ x ∈ (a :: b :: t), x.1 = a.1 := fun x hx => hal x hx a List.mem_cons_self
        have hfl := flat_buck h2 hs
        refine .inr ⟨2, _, by rw [hl, hfl]; rfl, .inr (.inl ⟨rfl, rfl⟩), ?_⟩
        rw [hl] at hN1
        refine (intoBucket_any kc vc hf hF1 hN1 hG h2 h99 hs hu (fun i hi => hw a List.mem_cons_self i hi) hm1 hX hk1 hv1 he (by omega) (by omega)).mono ?_
        rintro r w' ⟨v', vv', c', h1, h2, h3, h4, h5⟩
        exact ⟨v', vv', c', by rw [h1, hfb], by rw [hZ]; exact h2, h3, (Only.of hb1).trans h4, hsf (by rw [hl, hfl]; intro h; cases h) _ _ (by rw [hl]; exact h5)⟩
    | false =>
      cases f with
      | zero =>
        obtain rfl : lv = 13 := by omega
        rw [hG.top] at ha
        cases ha
      | succ f =>
        refine .inr ⟨3, _, by rw [lay_bran ha]; rfl, .inr (.inr ⟨rfl, rfl⟩), ?_⟩
        refine (intoBranch_any hf (ih f rfl) F w1 m ka va L e v kc vc vv c hF1 (hT.below hb1) hN1 hG h99 hu hw he hm1 hX hk1 hv1 hvv hc ha).mono ?_
        rintro r w' ⟨v', vv', c', h1, h2, h3, h4, h5⟩
        exact ⟨v', vv', c', by rw [h1, hfb], by rw [hZ]; exact h2, h3, (Only.of hb1).trans h4, by rw [← hSe]; exact h5⟩
  obtain ⟨x1, hx1⟩ : ∃ x : Nat, x = e.2.1.length := ⟨_, rfl⟩
  obtain ⟨x2, hx2⟩ : ∃ x : Nat, x = e.2.2.length := ⟨_, rfl⟩
  obtain ⟨q, hq⟩ : ∃ x : Nat, x = e.1 := ⟨_, rfl⟩
  obtain ⟨kk, hkk⟩ : ∃ x : Nat, x = (layL f lv L).kind := ⟨_, rfl⟩
  rw [← hx1, ← hx2, ← hq] at hw1 hcase ⊢
  rw [← hkk] at hkd hcase
  have HKD := Lib.hid hkd; clear hkd
  have HW1 := Lib.hid hw1; clear hw1
  clear hbx hz1 hb1 hF1 hN1 hm1 hk1 hv1 hSN hSe hfb hZ hsf hx1 hx2 hq hkk hF hT hN hG h99 hu hw he hm hX hk hv hvv hc ih
  rcases hcase with ⟨hk0, hcl⟩ | ⟨k, fn, hkf, hfn, hcl⟩
  · subst hk0
    have HCL := Lib.hid hcl; clear hcl
    go_enter Tryz.func17, Tryz.ntmps17
    go_wp2_with fail
    rw [← HW1.out]
    refine HKD.out.mono ?_
    rintro r w' ⟨rfl, rfl⟩
    rw [HW1.out]
    go_wp2_with fail
    rw [← HW1.out]
    refine HCL.out.mono ?_
    rintro r w2 ⟨v', rfl, h1, h2⟩
    have H1 := Lib.hid h1; clear h1
    have H2 := Lib.hid h2; clear h2
    go_wp2_with fail
    go_ret2
    exact ⟨v', vv, c, by rw [H1.out]; rfl, H2.out.1, H2.out.2.1, H2.out.2.2.1, H2.out.2.2.2⟩
  · rw [hkf] at HKD
    have HCL := Lib.hid hcl; clear hcl
    rcases hfn with ⟨rfl, rfl⟩ | ⟨rfl, rfl⟩ | ⟨rfl, rfl⟩
    all_goals
      clear hkf
      go_enter Tryz.func17, Tryz.ntmps17
      go_wp2_with fail
      rw [← HW1.out]
      refine HKD.out.mono ?_
      rintro r w' ⟨rfl, rfl⟩
      rw [HW1.out]
      go_wp2_with fail
      rw [← HW1.out]
      refine HCL.out.mono ?_
      rintro r w2 ⟨v', vv', c', rfl, h2⟩
      have H2 := Lib.hid h2; clear h2
      go_wp2_with fail
      go_ret2
      exact ⟨v', vv', c', rfl, H2.out.1, H2.out.2.1, H2.out.2.2.1, H2.out.2.2.2⟩
theorem graft_all : ∀ f lv, f + lv = 13 → GraftAt f lv
  | 0, _, h => graft_step h fun f' e => by cases e
  | f + 1, lv, h => graft_step h fun f' e => by
    obtain rfl : f = f' := by omega
    exact graft_all f (lv + 1) (by omega)
/-- Put: of a layout the layout with an entry more -/
theorem put19_any {F : Nat → Prop} {w : World} {m ka va : Option Addr} {L : List En} {e : En} {v : Value} {vv c : Nat} (kc vc : Nat) (hF : Fut F w) (hT : Tab w) (hN : Nde F w (layL 13 0 L) v) (hG : Good 0 L) (h99 : L.length ≤ 99) (hu : Suits L e) (he : e.1 < 18446744073709551616 ∧ e.2.1.length ≤ 1000 ∧ e.2.2.length ≤ 1000)
    (hm : Met w m vv c) (hX : ∀ a, m = some a → ¬ F a.block) (hk : Bts w ka e.2.1) (hv : Bts w va e.2.2) (hvv : vv ≤ 800000) (hc : c ≤ vv) :
    Calls Tryz.prog 8 #[v, .int .u64 (e.1 : Int), .agg #[.slice ka e.2.1.length kc, .slice va e.2.2.length vc], .pointer m] w fun r w' =>
      ∃ v' vv' c', r = .returned (.tuple #[v', .bool (!hasE L e.2.1)]) ∧ Nde F w' (layL 13 0 (putE L e)) v' ∧ Met w' m vv' c' ∧ Only m w w' ∧ Seen ((layL 13 0 L).endAt e.1 0) e.1 (vv + (layL 13 0 L).deep e.1 0) c vv' c' := by
  obtain ⟨wA, hwA, hbA, hzA, hbx⟩ := box_pair w ka va e.2.1.length kc e.2.2.length vc
  obtain ⟨w1, hw1, hb1, hz1, hbx1⟩ := box_put wA m (e.1 : Int) ka va e.2.1.length kc e.2.2.length vc
  have hb := below_then hbA hb1
  have hin := graft_all 13 0 rfl F w1 m ka va L e v kc vc vv c (hF.later hb.size) (hT.below hb) (hN.below hb) hG h99 hu (fun _ _ i hi => absurd hi (Nat.not_lt_zero i)) he (hm.below hb) hX (hk.below hb) (hv.below hb) (by omega) hc
  obtain ⟨x1, hx1⟩ : ∃ x : Nat, x = e.2.1.length := ⟨_, rfl⟩
  obtain ⟨x2, hx2⟩ : ∃ x : Nat, x = e.2.2.length := ⟨_, rfl⟩
  obtain ⟨q, hq⟩ : ∃ x : Nat, x = e.1 := ⟨_, rfl⟩
  obtain ⟨SN, hSN⟩ : ∃ S : Nat → Nat → Prop, S = fun a b => Seen ((layL 13 0 L).endAt e.1 0) e.1 (vv + (layL 13 0 L).deep e.1 0) c a b := ⟨_, rfl⟩
  have hSe : ∀ a b, Seen ((layL 13 0 L).endAt e.1 0) e.1 (vv + (layL 13 0 L).deep e.1 0) c a b = SN a b := fun a b => by rw [hSN]
  obtain ⟨fb, hfb⟩ : ∃ b, b = !hasE L e.2.1 := ⟨_, rfl⟩
  obtain ⟨Z, hZ⟩ : ∃ z, z = layL 13 0 (putE L e) := ⟨_, rfl⟩
  simp only [hSe, ← hfb, ← hZ] at hin ⊢
  rw [← hx1, ← hx2] at hwA
  have hcl := hbx1 w1 (Below.refl _ _)
  rw [← hx1, ← hx2, ← hq] at hw1 hin hcl ⊢
  have HIN := Lib.hid hin; clear hin
  have HWA := Lib.hid hwA; clear hwA
  have HW1 := Lib.hid hw1; clear hw1
  have HB := Lib.hid hb; clear hb
  have HZA := Lib.hid hzA; clear hzA
  clear hbx hbA hb1 hz1 hbx1 hSN hSe hfb hZ hx1 hx2 hq hF hT hN hG h99 hu he hm hX hk hv hvv hc
  go_enter Tryz.func8, Tryz.ntmps8
  go_upto_region 2 with fail
  rw [← HWA.out, ← HZA.out, ← HW1.out]
  obtain ⟨c0, c1, c2, c3⟩ := hcl
  go_wp2_with fail
  refine HIN.out.mono ?_
  rintro r w2 ⟨v', vv', c', rfl, h1, h2, h3, h4⟩
  have H2 := Lib.hid (And.intro h1 (And.intro h2 (And.intro ((Only.of HB.out).trans h3) h4))); clear h1 h2 h3 h4
  go_wp2_with fail
  go_ret2
  exact ⟨v', vv', c', rfl, H2.out.1, H2.out.2.1, H2.out.2.2.1, H2.out.2.2.2⟩
end Go.Proofs.YtmbdimonfdncpaaGreatDoor
