/-
  Contracts of alone, below, With, Without, Has, OnesCount32, Count, Place.
-/
import Derived.Test.YtngfbkkfnooobaaDoorRows
import Derived.Test.YtngfbkkfnooobaaDoorBMath
import Derived.WalkKit
import Derived.WalkLawsBesides
import Derived.Outline
import Derived.IntWalk
import Derived.Lib.Hide
import Derived.Laws.IdiomStrings
import Derived.Laws.MakeOwn
import Derived.OwnWalk
import Derived.Deep.QuietTactic
import Derived.BigQuiet
import Derived.WalkSmall
namespace Go.Proofs.YtngfbkkfnooobaaDoor.Bt
open Go.RowKit
set_option maxHeartbeats 400000
theorem below_then {w a b : World} (h : Below w.heap.size w a) (k : Below a.heap.size a b) : Below w.heap.size w b := h.trans (k.mono h.size)
theorem ret_int {k : IntKind} {a b : Int} (h : a = b) : Ending.returned (.int k a) = .returned (.int k b) := by rw [h]
theorem ret_bool {a b : Bool} (h : a = b) : Ending.returned (.bool a) = .returned (.bool b) := by rw [h]
theorem bv32 {a : Nat} (ha : a < 4294967296) : (BitVec.ofInt 32 (a : Int)).toNat = a := by
  rw [BitVec.ofInt_natCast, BitVec.toNat_ofNat]; exact Nat.mod_eq_of_lt ha
theorem wrap32 {a : Nat} (ha : a < 4294967296) : IntKind.u32.wrap (a : Int) = (a : Int) := by
  simp [IntKind.wrap, IntKind.signed, IntKind.bits]; omega
theorem and32 {a b : Nat} (ha : a < 4294967296) (hb : b < 4294967296) : bits .and .u32 (a : Int) (b : Int) = ((a &&& b : Nat) : Int) := by
  show IntKind.u32.wrap ((BitVec.ofInt 32 (a : Int) &&& BitVec.ofInt 32 (b : Int)).toNat : Int) = _
  rw [BitVec.toNat_and, bv32 ha, bv32 hb, wrap32 (and_lt ha)]
theorem or32 {a b : Nat} (ha : a < 4294967296) (hb : b < 4294967296) : bits .or .u32 (a : Int) (b : Int) = ((a ||| b : Nat) : Int) := by
  show IntKind.u32.wrap ((BitVec.ofInt 32 (a : Int) ||| BitVec.ofInt 32 (b : Int)).toNat : Int) = _
  rw [BitVec.toNat_or, bv32 ha, bv32 hb, wrap32 (or_lt ha hb)]
theorem bv_wo (x y : BitVec 32) : (x &&& ~~~y).toNat = wo x.toNat y.toNat := by
  apply Nat.eq_of_testBit_eq
  intro t
  rw [bit_wo, BitVec.toNat_and, Nat.testBit_and, BitVec.toNat_not]
  by_cases ht : t < 32
  · rw [show 2 ^ 32 - 1 - y.toNat = 2 ^ 32 - (y.toNat + 1) by omega, Nat.testBit_two_pow_sub_succ y.isLt]
    simp [ht]
  · rw [bits_of_lt (n := x.toNat) x.isLt t (by omega)]
    rfl
theorem wo32 {a b : Nat} (ha : a < 4294967296) (hb : b < 4294967296) : bits .andNot .u32 (a : Int) (b : Int) = ((wo a b : Nat) : Int) := by
  show IntKind.u32.wrap ((BitVec.ofInt 32 (a : Int) &&& ~~~ BitVec.ofInt 32 (b : Int)).toNat : Int) = _
  rw [bv_wo, bv32 ha, bv32 hb, wrap32 (wo_lt ha)]
theorem alone_any (z : Int) (w : World) :
    Calls Tryd.prog 72 #[.int .i64 z] w fun e w' => e = .returned (.int .u32 (one z : Nat)) ∧ w = w' := by
  rcases Int.lt_or_le z 0 with h0 | h0
  · go_enter Tryd.func72, Tryd.ntmps72
    go_wp2
    go_ret
    exact ⟨ret_int (by unfold one; rw [if_neg (by omega)]; rfl), rfl⟩
  · rcases Int.lt_or_le z 32 with h1 | h1
    · obtain ⟨n, rfl⟩ := Int.eq_ofNat_of_zero_le h0
      have hn : n < 32 := by omega
      go_enter Tryd.func72, Tryd.ntmps72
      go_wp2
      go_ret
      refine ⟨ret_int ?_, rfl⟩
      have hp : 2 ^ n < 4294967296 := Nat.pow_lt_pow_right (n := 32) (by decide) hn
      have := wrap32 hp
      unfold one
      rw [if_pos (by omega)]
      simp at this ⊢
      first | exact this | omega
    · go_enter Tryd.func72, Tryd.ntmps72
      go_wp2
      go_ret
      exact ⟨ret_int (by unfold one; rw [if_neg (by omega)]; rfl), rfl⟩
theorem bel_bits (h : Nat) (hh : h ≤ 32) : bits .andNot .u32 4294967295 (IntKind.u32.wrap (4294967295 * 2 ^ h)) = ((2 ^ h - 1 : Nat) : Int) := by
  have e : ∀ h : Fin 33, bits .andNot .u32 4294967295 (IntKind.u32.wrap (4294967295 * 2 ^ h.1)) = ((2 ^ h.1 - 1 : Nat) : Int) := by decide +kernel
  exact e ⟨h, by omega⟩
theorem below_any (z : Int) (w : World) :
    Calls Tryd.prog 76 #[.int .i64 z] w fun e w' => e = .returned (.int .u32 (bel z : Nat)) ∧ w = w' := by
  have key : ∀ h : Nat, h ≤ 32 → hl z = h → Ending.returned (.int .u32 (bits .andNot .u32 4294967295 (IntKind.u32.wrap (4294967295 * 2 ^ h)))) = .returned (.int .u32 (bel z : Nat)) := by
    intro h hh e
    rw [bel_bits h hh, ← e]
    rfl
  have KEY := Lib.hid key; clear key
  rcases Int.lt_or_le 0 z with h0 | h0
  · rcases Int.lt_or_le z 32 with h1 | h1
    · obtain ⟨n, rfl⟩ := Int.eq_ofNat_of_zero_le (Int.le_of_lt h0)
      have hn : n < 32 := by omega
      go_enter Tryd.func76, Tryd.ntmps76
      go_wp2
      go_ret
      exact ⟨KEY.out n (by omega) (by unfold hl; omega), rfl⟩
    · rcases Int.lt_or_le 32 z with h2 | h2
      · go_enter Tryd.func76, Tryd.ntmps76
        go_wp2
        go_ret
        exact ⟨KEY.out 32 (by omega) (by unfold hl; omega), rfl⟩
      · obtain rfl : z = 32 := by omega
        go_enter Tryd.func76, Tryd.ntmps76
        go_wp2
        go_ret
        exact ⟨KEY.out 32 (by omega) (by unfold hl; omega), rfl⟩
  · rcases Int.lt_or_le z 0 with h2 | h2
    · go_enter Tryd.func76, Tryd.ntmps76
      go_wp2
      go_ret
      exact ⟨KEY.out 0 (by omega) (by unfold hl; omega), rfl⟩
    · obtain rfl : z = 0 := by omega
      go_enter Tryd.func76, Tryd.ntmps76
      go_wp2
      go_ret
      exact ⟨KEY.out 0 (by omega) (by unfold hl; omega), rfl⟩
theorem has_any (m : Nat) (z : Int) (w : World) (hm : m < 4294967296) :
    Calls Tryd.prog 60 #[.int .u32 m, .int .i64 z] w fun e w' => e = .returned (.bool (decide (z ∈ lst m 32))) ∧ w = w' := by
  have h := alone_any z w
  have hl := one_lt z
  have ho := and_one m z
  have hb := and32 hm hl
  obtain ⟨a, ha⟩ : ∃ a, a = one z := ⟨_, rfl⟩
  rw [← ha] at h hl ho hb
  obtain ⟨x, hx⟩ : ∃ x, x = m &&& a := ⟨_, rfl⟩
  rw [← hx] at ho hb
  have H := Lib.hid h; clear h ha
  have HO := Lib.hid ho; clear ho hx
  go_enter Tryd.func60, Tryd.ntmps60
  go_wp2_with fail
  refine H.out.mono ?_
  rintro e w' ⟨rfl, rfl⟩
  go_wp2_with fail
  go_ret
  refine ⟨ret_bool ?_, rfl⟩
  have := HO.out
  by_cases e : z ∈ lst m 32
  · have h1 := this.2 e
    simp [e, h1]
  · have h1 : x = 0 := Classical.byContradiction fun h => e (this.1 h)
    simp [e, h1]
end Go.Proofs.YtngfbkkfnooobaaDoor.Bt
