/-
  The contract of All's iterator (bits): a set's numbers, rising, one by one.
-/
import Derived.Test.YtmbdimonfdncpaaGreatDoorRange
import Derived.Test.YtmbdimonfdncpaaGreatDoorBits
import Derived.Shelf.Abstract
namespace Go.Proofs.YtmbdimonfdncpaaGreatDoor
open Go.RowKit Go.Shelf
set_option maxHeartbeats 1000000
set_option maxRecDepth 100000
attribute [local go_sem] Oper.semAt_some
attribute [local irreducible] Bt.lst
/-- the table of TrailingZeros32, where its variable lies -/
def Tab (w : World) : Prop := ∀ j, j < 32 → w.cell? ⟨0, j, none⟩ = some (.int .u8 (Lib.deBruijn32tab.getD j 0 : Nat))
theorem Tab.lt {w : World} (h : Tab w) : 0 < w.heap.size := by
  have h0 := h 0 (by omega)
  rcases Nat.lt_or_ge 0 w.heap.size with hlt | hge
  · exact hlt
  · simp [World.cell?, Array.getElem?_eq_none hge] at h0
theorem Tab.below {w w' : World} (h : Tab w) (hb : Below w.heap.size w w') : Tab w' := fun j hj => (hb.cell (p := ⟨0, j, none⟩) h.lt).trans (h j hj)
theorem Tab.but {X : Nat → Prop} {w w' : World} (h : Tab w) (hb : But X w w') (hx : ¬ X 0) : Tab w' := fun j hj => (cell_kept (hb.block 0 h.lt hx)).trans (h j hj)
theorem But.more {X : Nat → Prop} {w A B : World} {l : Nat} (h : But X w A) (k : But (fun q => X q ∨ q = l) A B) (hl : w.heap.size ≤ l) : But X w B :=
  ⟨k.os.trans h.os, k.tape.trans h.tape, k.output.trans h.output, Nat.le_trans h.size k.size, fun i hi hx => (k.block i (Nat.lt_of_lt_of_le hi h.size) (fun e => by
    rcases e with e | e
    · exact hx e
    · omega)).trans (h.block i hi hx)⟩
theorem tz_key (x a : Nat) (hx : x < 4294967296) (hx0 : x ≠ 0) (hlow : x &&& (4294967296 - x) = a) :
    bits BinOp.and IntKind.u32 (x : Int) (-(x : Int) % 4294967296) * 125613361 % 4294967296 / 134217728 = ((a * 125613361 % 4294967296 / 134217728 : Nat) : Int) := by
  have e1 : -(x : Int) % 4294967296 = ((4294967296 - x : Nat) : Int) := by omega
  rw [e1, Bt.and32 hx (by omega), hlow]
  omega
theorem tz_any (x : Nat) (w : World) (hx : x < 4294967296) (hx0 : x ≠ 0) (hT : Tab w) :
    Calls Tryz.prog 59 #[.int .u32 x] w fun e w' => e = .returned (.int .i64 (Lib.ctz 32 x : Nat)) ∧ w = w' := by
  obtain ⟨hlow, hk⟩ := Lib.lowest_bit 32 x hx0 hx
  obtain ⟨hi, htab⟩ := Lib.deBruijn32_at _ hk
  have hcell := hT _ hi
  rw [htab] at hcell
  have key := tz_key x _ hx hx0 hlow
  obtain ⟨idx, hidx⟩ : ∃ idx, idx = 2 ^ Lib.ctz 32 x * 125613361 % 4294967296 / 134217728 := ⟨_, rfl⟩
  rw [← hidx] at hi hcell key
  obtain ⟨k, hkk⟩ : ∃ k, k = Lib.ctz 32 x := ⟨_, rfl⟩
  rw [← hkk] at hk hcell ⊢
  have hne : ((x : Int) == 0) = false := by simp; omega
  clear hlow htab hidx hkk hT
  go_enter Tryz.func59, Tryz.ntmps59
  go_wp2_with (simp only [key])
  go_ret
  exact ⟨rfl, rfl⟩
theorem without_any (m : Nat) (z : Int) (w : World) (hm : m < 4294967296) :
    Calls Tryz.prog 60 #[.int .u32 m, .int .i64 z] w fun e w' => e = .returned (.int .u32 ((Bt.wo m (Bt.one z) : Nat) : Int)) ∧ w = w' := by
  have h := Bt.alone_any z w
  have hl := Bt.one_lt z
  obtain ⟨a, ha⟩ : ∃ a, a = Bt.one z := ⟨_, rfl⟩
  rw [← ha] at h hl ⊢
  have H := Lib.hid h; clear h ha
  go_enter Tryz.func60, Tryz.ntmps60
  go_wp2_with fail
  refine H.out.mono ?_
  rintro e w' ⟨rfl, rfl⟩
  go_wp2_with fail
  go_ret
  exact ⟨ret_int (Bt.wo32 hm hl), rfl⟩
theorem all_any (m : Nat) (w : World) :
    Calls Tryz.prog 39 #[.int .u32 m] w fun e w' => e = .returned (.func (.func 58) #[] #[.pointer (some ⟨w.heap.size, 0, none⟩)]) ∧ w.alloc (.cells #[.int .u32 m] 62) = w' := by
  go_enter Tryz.func39, Tryz.ntmps39
  go_wp2
  go_ret
  exact ⟨rfl, rfl⟩
theorem bits_hands {n : Nat} {w : World} {Bn m : Nat} {X : Nat → Prop} (hn : 1 ≤ n) (hm : m < 4294967296) (hc : w.cell? ⟨Bn, 0, none⟩ = some (.int .u32 (m : Int))) (hBn : Bn < w.heap.size) (hT : Tab w) (x2 : ¬ X 0) :
    Hands n Tryz.prog 58 #[.pointer (some ⟨Bn, 0, none⟩)] X (fun j vs W => But X w W ∧ j < (Bt.lst m 32).length ∧ vs = #[.int .i64 ((Bt.lst m 32).getD j 0)]) (fun j => j = (Bt.lst m 32).length) w := by
  intro l J Jx W hl hwl hbw hJ hJx hY h0
  have hK : But X w W := But.of hbw
  have hTK : ∀ V, But X w V → Tab V := fun V hV => hT.but hV x2
  have d0 := (hbw.cell (p := ⟨Bn, 0, none⟩) hBn).trans hc
  obtain ⟨L, hL⟩ : ∃ L, L = Bt.lst m 32 := ⟨_, rfl⟩
  simp only [← hL] at hY ⊢
  have HK := Lib.hid hK; clear hK
  have HT := Lib.hid hTK; clear hTK
  have HY := Lib.hid hY; clear hY
  have HJ := Lib.hid hJ; clear hJ
  have H0 := Lib.hid h0; clear h0
  have HL := Lib.hid hL; clear hL
  have HLW := Lib.hid hwl; clear hwl
  clear hc hT x2 hl hbw hJx
  refine callsIn_of_wp Tryz.func58 rfl trivial ?_ rfl
  simp only [Tryz.ntmps58, List.size_toArray, List.length_cons, List.length_nil, Nat.reduceAdd, Nat.reduceSub, Array.replicate_succ, Array.replicate_zero, List.push_toArray, List.append_toArray, List.nil_append, List.cons_append]
  gi_wp2_with fail
  gi_loopw [3] (fun p wr => ∃ (j r : Nat), p = .int .u32 r ∧ r < 4294967296 ∧ Hid (∃ pre : List Int, pre.length = j ∧ L = pre ++ Bt.lst r 32) ∧ Hid (But X w wr) ∧ Hid (J j wr))
    (fun p _ => (Bt.lst (intOf p).toNat 32).length)
  case atStart => exact ⟨0, m, rfl, hm, ⟨[], rfl, by rw [List.nil_append, HL.out]⟩, HK.out, H0.out⟩
  case round =>
    obtain ⟨j, r, rfl, hr, hx, hk, hJr⟩ := hrel
    by_cases hz : r = 0
    · subst hz
      have HX : Hid (j = L.length) := by
        obtain ⟨pre, h1, h2⟩ := hx.out
        show _ = _
        rw [h2, Bt.lst_zero, List.append_nil, h1]
      gi_wp2_with fail
      go_end0
      exact ⟨⟨_, rfl⟩, .inl ⟨j, HX.out, hJr.out⟩⟩
    · have hne : ((r : Int) != 0) = true := by simp; omega
      have hst := Bt.lst_step r hz hr
      have htz := tz_any r wr hr hz (HT.out wr hk.out)
      have hw := fun W => without_any r (Lib.ctz 32 r : Int) W hr
      have hwl : Bt.wo r (Bt.one (Lib.ctz 32 r : Int)) < 4294967296 := Bt.wo_lt hr
      obtain ⟨k, hkk⟩ : ∃ k, k = Lib.ctz 32 r := ⟨_, rfl⟩
      rw [← hkk] at hst htz hw hwl
      obtain ⟨s, hs⟩ : ∃ s, s = Bt.wo r (Bt.one (k : Int)) := ⟨_, rfl⟩
      rw [← hs] at hst hw hwl
      have hjl : j < L.length ∧ #[Value.int .i64 (k : Int)] = #[.int .i64 (L.getD j 0)] := by
        obtain ⟨pre, h1, h2⟩ := hx.out
        have h3 : L = pre ++ (k : Int) :: Bt.lst s 32 := by rw [h2, hst]
        have hlt : j < L.length := by rw [h3, List.length_append, List.length_cons]; omega
        have e : L[j] = (k : Int) := by
          have : L[j]? = some (k : Int) := by rw [h3, List.getElem?_append_right (by omega), ← h1, Nat.sub_self]; rfl
          rw [List.getElem?_eq_getElem hlt] at this
          exact Option.some.inj this
        exact ⟨hlt, by rw [List.getD_eq_getElem?_getD, List.getElem?_eq_getElem hlt, e]; rfl⟩
      have HX2 : Hid (∃ pre : List Int, pre.length = j + 1 ∧ L = pre ++ Bt.lst s 32) := by
        obtain ⟨pre, h1, h2⟩ := hx.out
        exact ⟨pre ++ [(k : Int)], by simp [h1], by rw [h2, hst]; simp⟩
      have HST := Lib.hid hst; clear hst
      have HTZ := Lib.hid htz; clear htz
      have HW := Lib.hid hw; clear hw
      clear hkk hs
      obtain ⟨fn, tmps, assign, body, hy, hR⟩ := HY.out j #[.int .i64 (k : Int)] wr hJr.out ⟨hk.out, hjl⟩
      have HR := Lib.hid hR; clear hR
      clear hjl
      gi_wp2_with fail
      refine ⟨trivial, (callsIn_wide.2 HTZ.out).mono ?_⟩
      rintro e w' ⟨rfl, rfl⟩
      gi_wp2_with fail
      refine HR.out.mono ?_
      rintro e W3 (⟨rfl, hJ3, hk3⟩ | ⟨rfl, hJx3⟩)
      · have HJ3 := Lib.hid hJ3; clear hJ3
        have HK3 := Lib.hid (hk.out.more hk3 HLW.out); clear hk3
        gi_wp2_with fail
        refine ⟨trivial, (callsIn_wide.2 (HW.out _)).mono ?_⟩
        rintro e w' ⟨rfl, rfl⟩
        gi_wp2_with fail
        go_roundw
        case rel => exact ⟨j + 1, s, rfl, hwl, HX2.out, HK3.out, HJ3.out⟩
        case measure =>
          show (Bt.lst s 32).length < (Bt.lst r 32).length
          rw [HST.out]
          simp
      · have HJ3 := Lib.hid hJx3; clear hJx3
        gi_wp2_with fail
        refine bodyPost_ret (results_none rfl _ _ _) rfl ?_
        exact ⟨⟨_, rfl⟩, .inr ⟨j + 1, HJ3.out⟩⟩
end Go.Proofs.YtmbdimonfdncpaaGreatDoor
