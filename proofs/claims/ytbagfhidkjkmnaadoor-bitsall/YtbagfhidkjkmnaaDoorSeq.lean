/-
  Contracts of TrailingZeros32, All, and what All hands back.
-/
import Derived.RangeFuncNested
import Derived.RangeFuncBound
import Derived.RangeFuncCalls
import Derived.RangeFuncLeaves
import Derived.Shelf.Abstract
import Derived.Shelf.RegionOpen
import Derived.WalkKit
import Derived.OwnWalkIn
import Derived.TacticsInMore
import Derived.LoopNIn
import Derived.LoopIn
import Derived.Test.YtbagfhidkjkmnaaDoorList
import Derived.Test.YtbagfhidkjkmnaaDoorLow
namespace Go.Proofs.YtbagfhidkjkmnaaDoor
open Go.RowKit Go.Shelf
set_option maxHeartbeats 1000000
set_option maxRecDepth 100000
attribute [local go_sem] Oper.semAt_some
attribute [local irreducible] lst
/-- the table of TrailingZeros32, where its variable lies -/
def Tab (w : World) : Prop := ∀ j, j < 32 → w.cell? ⟨0, j, none⟩ = some (.int .u8 (Lib.deBruijn32tab.getD j 0 : Nat))
theorem Tab.below {n₀ : Nat} {w w' : World} (h : Tab w) (hb : Below n₀ w w') (hn : 0 < n₀) : Tab w' := fun j hj => (hb.cell (p := ⟨0, j, none⟩) hn).trans (h j hj)
theorem Tab.lt {w : World} (h : Tab w) : 0 < w.heap.size := by
  have h0 := h 0 (by omega)
  rcases Nat.lt_or_ge 0 w.heap.size with hlt | hge
  · exact hlt
  · simp [World.cell?, Array.getElem?_eq_none hge] at h0
theorem tz_key (x a : Nat) (hx : x < 4294967296) (hx0 : x ≠ 0) (hlow : x &&& (4294967296 - x) = a) :
    bits BinOp.and IntKind.u32 (x : Int) (-(x : Int) % 4294967296) * 125613361 % 4294967296 / 134217728 = ((a * 125613361 % 4294967296 / 134217728 : Nat) : Int) := by
  have e1 : -(x : Int) % 4294967296 = ((4294967296 - x : Nat) : Int) := by omega
  rw [e1, and32 hx (by omega), hlow]
  omega
theorem tz_any (x : Nat) (w : World) (hx : x < 4294967296) (hx0 : x ≠ 0) (hT : Tab w) :
    Calls Tryd.prog 14 #[.int .u32 x] w fun e w' => e = .returned (.int .i64 (Lib.ctz 32 x : Nat)) ∧ w = w' := by
  obtain ⟨hlow, hk⟩ := Lib.lowest_bit 32 x hx0 hx
  obtain ⟨hi, htab⟩ := Lib.deBruijn32_at _ hk
  have hcell := hT _ hi
  rw [htab] at hcell
  have key := tz_key x _ hx hx0 hlow
  obtain ⟨idx, hidx⟩ : ∃ idx, idx = 2 ^ Lib.ctz 32 x * 125613361 % 4294967296 / 134217728 := ⟨_, rfl⟩
  rw [← hidx] at hi hcell key
  obtain ⟨k, hkk⟩ : ∃ k, k = Lib.ctz 32 x := ⟨_, rfl⟩
  rw [← hkk] at hk hcell ⊢
  have hne : ((x : Int) == 0) = false := by simp; omega
  clear hlow htab hidx hkk hT
  go_enter Tryd.func14, Tryd.ntmps14
  go_wp2_with (simp only [key])
  go_ret
  exact ⟨rfl, rfl⟩
theorem all_any (m : Nat) (w : World) :
    Calls Tryd.prog 9 #[.int .u32 m] w fun e w' => e = .returned (.func (.func 13) #[] #[.pointer (some ⟨w.heap.size, 0, none⟩)]) ∧ w.alloc (.cells #[.int .u32 m] 23) = w' := by
  go_enter Tryd.func9, Tryd.ntmps9
  go_wp2
  go_ret
  exact ⟨rfl, rfl⟩
/-- what All hands back: a set's numbers, rising, one by one, for every loop body that keeps what lay below n₀ -/
theorem all1_any (n l Bn n₀ m : Nat) (hn : 1 ≤ n) (hm : m < 4294967296) (J Jx : List Int → World → Prop)
    (hY : ∀ pre x W, J pre W → pre.length < (lst m 32).length → YieldAt Fence.wide (n - 1) Tryd.prog l #[.int .i64 x] W fun e W' =>
      (e = .returned (.bool true) ∧ J (pre ++ [x]) W' ∧ Below n₀ W W') ∨ (e = .returned (.bool false) ∧ Jx (pre ++ [x]) W'))
    (W : World) (hBn : W.cell? ⟨Bn, 0, none⟩ = some (.int .u32 m)) (hT : Tab W) (hn0 : 0 < n₀) (h0 : J [] W) :
    CallsIn Fence.wide n Tryd.prog 13 #[.func (.yield l) #[] #[], .pointer (some ⟨Bn, 0, none⟩)] W fun e W' => (∃ v, e = .returned v) ∧
      ((∃ ys, ys = lst m 32 ∧ J ys W') ∨ (∃ pre, pre <+: lst m 32 ∧ Jx pre W')) := by
  obtain ⟨L, hL⟩ : ∃ L, L = lst m 32 := ⟨_, rfl⟩
  rw [← hL] at hY ⊢
  refine callsIn_of_wp Tryd.func13 rfl trivial ?_ rfl
  simp only [Tryd.ntmps13, List.size_toArray, List.length_cons, List.length_nil, Nat.reduceAdd, Nat.reduceSub, Array.replicate_succ, Array.replicate_zero, List.push_toArray, List.append_toArray, List.nil_append, List.cons_append]
  gi_wp2
  gi_loopw [3] (fun p wr => ∃ (pre : List Int) (r : Nat), p = .int .u32 r ∧ r < 4294967296 ∧ Hid (L = pre ++ lst r 32) ∧ Hid (Tab wr) ∧ Hid (J pre wr))
    (fun p _ => (lst (intOf p).toNat 32).length)
  case atStart => exact ⟨[], m, rfl, hm, by show _ = _; rw [List.nil_append, hL], hT, h0⟩
  case round =>
    obtain ⟨pre, r, rfl, hr, hx, hTr, hJ⟩ := hrel
    by_cases hz : r = 0
    · subst hz
      gi_wp2
      go_end0
      exact ⟨⟨_, rfl⟩, .inl ⟨pre, by rw [hx.out, lst_zero, List.append_nil], hJ.out⟩⟩
    · have hne : ((r : Int) != 0) = true := by simp; omega
      have hst := lst_step r hz hr
      have htz := fun W hT => tz_any r W hr hz hT
      have hw := fun W => without_any r (Lib.ctz 32 r : Int) W hr
      have hwl : wo r (one (Lib.ctz 32 r : Int)) < 4294967296 := wo_lt hr
      obtain ⟨k, hk⟩ : ∃ k, k = Lib.ctz 32 r := ⟨_, rfl⟩
      rw [← hk] at hst htz hw hwl
      obtain ⟨s, hs⟩ : ∃ s, s = wo r (one (k : Int)) := ⟨_, rfl⟩
      rw [← hs] at hst hw hwl
      have HST := Lib.hid hst; clear hst
      have HTZ := Lib.hid htz; clear htz
      have HW := Lib.hid hw; clear hw
      clear hk hs
      obtain ⟨fn, tmps, assign, body, hy, hR⟩ := hY pre (k : Int) wr hJ.out (by rw [hx.out, HST.out]; simp)
      have HR := Lib.hid hR; clear hR
      gi_wp2_with fail
      refine ⟨trivial, (callsIn_wide.2 (HTZ.out _ hTr.out)).mono ?_⟩
      rintro e w' ⟨rfl, rfl⟩
      gi_wp2_with fail
      refine HR.out.mono ?_
      rintro e W3 (⟨rfl, hJ3, hk3⟩ | ⟨rfl, hJx3⟩)
      · have HJ3 := Lib.hid hJ3; clear hJ3
        have HT3 := Lib.hid (hTr.out.below hk3 hn0); clear hk3
        gi_wp2_with fail
        refine ⟨trivial, (callsIn_wide.2 (HW.out _)).mono ?_⟩
        rintro e w' ⟨rfl, rfl⟩
        gi_wp2_with fail
        go_roundw
        case rel => exact ⟨pre ++ [(k : Int)], s, rfl, hwl, by show _ = _; rw [hx.out, HST.out]; simp, HT3.out, HJ3.out⟩
        case measure =>
          show (lst s 32).length < (lst r 32).length
          rw [HST.out]
          simp
      · have HJ3 := Lib.hid hJx3; clear hJx3
        gi_wp2_with fail
        refine bodyPost_ret (results_none rfl _ _ _) rfl ?_
        exact ⟨⟨_, rfl⟩, .inr ⟨pre ++ [(k : Int)], ⟨lst s 32, by rw [hx.out, HST.out]; simp⟩, HJ3.out⟩⟩
theorem all_stops (n Bn n₀ m : Nat) (hn : 1 ≤ n) (hm : m < 4294967296) (w : World) (hBn : Bn < w.heap.size) (hc : w.cell? ⟨Bn, 0, none⟩ = some (.int .u32 m)) (hT : Tab w) (hn0 : 0 < n₀) :
    SeqStopsK Fence.wide n Tryd.prog 13 #[.pointer (some ⟨Bn, 0, none⟩)] (fun x : Int => #[Value.int .i64 x]) (Below n₀) (fun ys => ys = lst m 32) (fun pre => pre <+: lst m 32) (lst m 32).length w :=
  fun l J Jx W hW _ _ hY h0 => all1_any n l Bn n₀ m hn hm J Jx hY W ((hW.cell (p := ⟨Bn, 0, none⟩) hBn).trans hc) (hT.below hW hT.lt) hn0 h0
end Go.Proofs.YtbagfhidkjkmnaaDoor
