/-
  Contracts of math/bits' Len64 and Mul64, sixLogs, the program's Bound, awake.
-/
import Derived.Test.YtlpngoaachdjhaaRows
import Derived.Test.YtlpngoaachdjhaaMath
import Derived.WalkKit
import Derived.WalkLawsBesides
import Derived.Outline
import Derived.IntWalk
import Derived.Lib.Hide
import Derived.Lib.Mul64
import Derived.Laws.Bits64b
import Derived.Laws.IdiomStrings
import Derived.OwnWalk
import Derived.Deep.QuietTactic
import Derived.BigQuiet
import Derived.WalkSmall
namespace Go.Proofs.Ytlpngoaachdjhaa
open Go.RowKit
set_option maxHeartbeats 400000
set_option maxRecDepth 100000
theorem below_then {w a b : World} (h : Below w.heap.size w a) (k : Below a.heap.size a b) : Below w.heap.size w b := h.trans (k.mono h.size)
theorem ret_int {k : IntKind} {a b : Int} (h : a = b) : Ending.returned (.int k a) = .returned (.int k b) := by rw [h]
theorem ret_bool {a b : Bool} (h : a = b) : Ending.returned (.bool a) = .returned (.bool b) := by rw [h]
theorem fold_len : ({ data := (([0, 1, 2, 2, 3, 3, 3, 3, 4, 4, 4, 4, 4, 4, 4, 4, 5, 5, 5, 5, 5, 5, 5, 5, 5, 5, 5, 5, 5, 5, 5, 5, 6, 6, 6, 6, 6, 6, 6, 6, 6, 6, 6, 6, 6, 6, 6, 6, 6, 6, 6, 6, 6, 6, 6, 6, 6, 6, 6, 6, 6, 6, 6, 6].append [7, 7, 7, 7, 7, 7, 7, 7, 7, 7, 7, 7, 7, 7, 7, 7, 7, 7, 7, 7, 7, 7, 7, 7, 7, 7, 7, 7, 7, 7, 7, 7, 7, 7, 7, 7, 7, 7, 7, 7, 7, 7, 7, 7, 7, 7, 7, 7, 7, 7, 7, 7, 7, 7, 7, 7, 7, 7, 7, 7, 7, 7, 7, 7]).append ([8, 8, 8, 8, 8, 8, 8, 8, 8, 8, 8, 8, 8, 8, 8, 8, 8, 8, 8, 8, 8, 8, 8, 8, 8, 8, 8, 8, 8, 8, 8, 8, 8, 8, 8, 8, 8, 8, 8, 8, 8, 8, 8, 8, 8, 8, 8, 8, 8, 8, 8, 8, 8, 8, 8, 8, 8, 8, 8, 8, 8, 8, 8, 8].append [8, 8, 8, 8, 8, 8, 8, 8, 8, 8, 8, 8, 8, 8, 8, 8, 8, 8, 8, 8, 8, 8, 8, 8, 8, 8, 8, 8, 8, 8, 8, 8, 8, 8, 8, 8, 8, 8, 8, 8, 8, 8, 8, 8, 8, 8, 8, 8, 8, 8, 8, 8, 8, 8, 8, 8, 8, 8, 8, 8, 8, 8, 8, 8])).toArray } : ByteArray) = Lib.len8tab := rfl
theorem run_len (q : Nat) (hq : q < 256) (w : World) : (Instr.index 9 (.string Lib.len8tab) (.int .u8 (q : Int))).run Try.prog w = .ok (.int .u8 ((bl q : Nat) : Int)) w := by
  rw [Lib.run_index_len8tab _ 9 .u8 (q : Int) Try.underlying9 (by omega) (by omega), Lib.len8_of (q : Int) (by omega) (by omega), Int.toNat_natCast, bitLen_bl q (by omega)]
theorem bl_cut (k x : Nat) (h : 2 ^ k ≤ x) : bl x = k + bl (x / 2 ^ k) := by
  have hp : 0 < 2 ^ k := Nat.two_pow_pos k
  have e := bl_shift (x / 2 ^ k) (x % 2 ^ k) k (by have := Nat.div_pos h hp; omega) (Nat.mod_lt _ hp)
  rw [show x % 2 ^ k + x / 2 ^ k * 2 ^ k = x by rw [Nat.mul_comm]; exact Nat.mod_add_div x (2 ^ k)] at e
  exact e
/-- the last step: of what is left, below 256, with n counted -/
theorem bl_byte {q : Nat} (h : q < 256) : bl q ≤ 8 := (bl_le q 8).2 h
theorem len_any (x : Nat) (w : World) (hx : x < 18446744073709551616) :
    Calls Try.prog 20 #[.int .u64 x] w fun e w' => e = .returned (.int .i64 (bl x : Nat)) ∧ w = w' := by
  obtain ⟨T, hT⟩ : ∃ T, T = Lib.len8tab := ⟨_, rfl⟩

  rcases Nat.lt_or_ge x 4294967296 with h32 | h32
  · rcases Nat.lt_or_ge x 65536 with h16 | h16
    · rcases Nat.lt_or_ge x 256 with h8 | h8
      · have q8 : x < 256 := by omega
        have ql := bl_byte q8
        have qr := fun W => run_len x q8 W
        obtain ⟨t, ht⟩ : ∃ t, t = bl x := ⟨_, rfl⟩
        rw [← ht] at ql
        simp only [← ht, ← hT] at qr
        have HB : Hid (bl x = 0 + t) := by show _ = _; rw [ht]; omega
        have k0 : decide ((4294967296 : Int) ≤ (x : Int)) = false := by rw [decide_eq_false_iff_not]; omega
        have k1 : decide ((65536 : Int) ≤ (x : Int)) = false := by rw [decide_eq_false_iff_not]; omega
        have k2 : decide ((256 : Int) ≤ (x : Int)) = false := by rw [decide_eq_false_iff_not]; omega
        clear ht
        go_enter Try.func20, Try.ntmps20
        simp only [fold_len]
        rw [← hT]
        clear hT
        go_wp2
        go_ret
        exact ⟨ret_int (by rw [HB.out]; omega), rfl⟩
      · obtain ⟨x1, d1⟩ : ∃ y, y = x / 256 := ⟨_, rfl⟩
        have e1 : (x : Int) / 256 = (x1 : Int) := by omega
        have b1 : bl x = 8 + bl x1 := by rw [d1]; exact bl_cut 8 x (by omega)
        have l1 : x1 < 256 := by omega
        have q8 : x1 < 256 := by omega
        have ql := bl_byte q8
        have qr := fun W => run_len x1 q8 W
        obtain ⟨t, ht⟩ : ∃ t, t = bl x1 := ⟨_, rfl⟩
        rw [← ht] at ql
        simp only [← ht, ← hT] at qr
        have HB : Hid (bl x = 8 + t) := by show _ = _; rw [ht]; omega
        have k0 : decide ((4294967296 : Int) ≤ (x : Int)) = false := by rw [decide_eq_false_iff_not]; omega
        have k1 : decide ((65536 : Int) ≤ (x : Int)) = false := by rw [decide_eq_false_iff_not]; omega
        have k2 : decide ((256 : Int) ≤ (x : Int)) = true := by rw [decide_eq_true_iff]; omega
        clear ht b1 d1
        go_enter Try.func20, Try.ntmps20
        simp only [fold_len]
        rw [← hT]
        clear hT
        go_wp2
        go_ret
        exact ⟨ret_int (by rw [HB.out]; omega), rfl⟩
    · obtain ⟨x1, d1⟩ : ∃ y, y = x / 65536 := ⟨_, rfl⟩
      have e1 : (x : Int) / 65536 = (x1 : Int) := by omega
      have b1 : bl x = 16 + bl x1 := by rw [d1]; exact bl_cut 16 x (by omega)
      have l1 : x1 < 65536 := by omega
      rcases Nat.lt_or_ge x1 256 with h8 | h8
      · have q8 : x1 < 256 := by omega
        have ql := bl_byte q8
        have qr := fun W => run_len x1 q8 W
        obtain ⟨t, ht⟩ : ∃ t, t = bl x1 := ⟨_, rfl⟩
        rw [← ht] at ql
        simp only [← ht, ← hT] at qr
        have HB : Hid (bl x = 16 + t) := by show _ = _; rw [ht]; omega
        have k0 : decide ((4294967296 : Int) ≤ (x : Int)) = false := by rw [decide_eq_false_iff_not]; omega
        have k1 : decide ((65536 : Int) ≤ (x : Int)) = true := by rw [decide_eq_true_iff]; omega
        have k2 : decide ((256 : Int) ≤ (x1 : Int)) = false := by rw [decide_eq_false_iff_not]; omega
        clear ht b1 d1
        go_enter Try.func20, Try.ntmps20
        simp only [fold_len]
        rw [← hT]
        clear hT
        go_wp2
        go_ret
        exact ⟨ret_int (by rw [HB.out]; omega), rfl⟩
      · obtain ⟨x2, d2⟩ : ∃ y, y = x1 / 256 := ⟨_, rfl⟩
        have e2 : (x1 : Int) / 256 = (x2 : Int) := by omega
        have b2 : bl x1 = 8 + bl x2 := by rw [d2]; exact bl_cut 8 x1 (by omega)
        have l2 : x2 < 256 := by omega
        have q8 : x2 < 256 := by omega
        have ql := bl_byte q8
        have qr := fun W => run_len x2 q8 W
        obtain ⟨t, ht⟩ : ∃ t, t = bl x2 := ⟨_, rfl⟩
        rw [← ht] at ql
        simp only [← ht, ← hT] at qr
        have HB : Hid (bl x = 24 + t) := by show _ = _; rw [ht]; omega
        have k0 : decide ((4294967296 : Int) ≤ (x : Int)) = false := by rw [decide_eq_false_iff_not]; omega
        have k1 : decide ((65536 : Int) ≤ (x : Int)) = true := by rw [decide_eq_true_iff]; omega
        have k2 : decide ((256 : Int) ≤ (x1 : Int)) = true := by rw [decide_eq_true_iff]; omega
        clear ht b1 d1 b2 d2
        go_enter Try.func20, Try.ntmps20
        simp only [fold_len]
        rw [← hT]
        clear hT
        go_wp2
        go_ret
        exact ⟨ret_int (by rw [HB.out]; omega), rfl⟩
  · obtain ⟨x1, d1⟩ : ∃ y, y = x / 4294967296 := ⟨_, rfl⟩
    have e1 : (x : Int) / 4294967296 = (x1 : Int) := by omega
    have b1 : bl x = 32 + bl x1 := by rw [d1]; exact bl_cut 32 x (by omega)
    have l1 : x1 < 4294967296 := by omega
    rcases Nat.lt_or_ge x1 65536 with h16 | h16
    · rcases Nat.lt_or_ge x1 256 with h8 | h8
      · have q8 : x1 < 256 := by omega
        have ql := bl_byte q8
        have qr := fun W => run_len x1 q8 W
        obtain ⟨t, ht⟩ : ∃ t, t = bl x1 := ⟨_, rfl⟩
        rw [← ht] at ql
        simp only [← ht, ← hT] at qr
        have HB : Hid (bl x = 32 + t) := by show _ = _; rw [ht]; omega
        have k0 : decide ((4294967296 : Int) ≤ (x : Int)) = true := by rw [decide_eq_true_iff]; omega
        have k1 : decide ((65536 : Int) ≤ (x1 : Int)) = false := by rw [decide_eq_false_iff_not]; omega
        have k2 : decide ((256 : Int) ≤ (x1 : Int)) = false := by rw [decide_eq_false_iff_not]; omega
        clear ht b1 d1
        go_enter Try.func20, Try.ntmps20
        simp only [fold_len]
        rw [← hT]
        clear hT
        go_wp2
        go_ret
        exact ⟨ret_int (by rw [HB.out]; omega), rfl⟩
      · obtain ⟨x2, d2⟩ : ∃ y, y = x1 / 256 := ⟨_, rfl⟩
        have e2 : (x1 : Int) / 256 = (x2 : Int) := by omega
        have b2 : bl x1 = 8 + bl x2 := by rw [d2]; exact bl_cut 8 x1 (by omega)
        have l2 : x2 < 256 := by omega
        have q8 : x2 < 256 := by omega
        have ql := bl_byte q8
        have qr := fun W => run_len x2 q8 W
        obtain ⟨t, ht⟩ : ∃ t, t = bl x2 := ⟨_, rfl⟩
        rw [← ht] at ql
        simp only [← ht, ← hT] at qr
        have HB : Hid (bl x = 40 + t) := by show _ = _; rw [ht]; omega
        have k0 : decide ((4294967296 : Int) ≤ (x : Int)) = true := by rw [decide_eq_true_iff]; omega
        have k1 : decide ((65536 : Int) ≤ (x1 : Int)) = false := by rw [decide_eq_false_iff_not]; omega
        have k2 : decide ((256 : Int) ≤ (x1 : Int)) = true := by rw [decide_eq_true_iff]; omega
        clear ht b1 d1 b2 d2
        go_enter Try.func20, Try.ntmps20
        simp only [fold_len]
        rw [← hT]
        clear hT
        go_wp2
        go_ret
        exact ⟨ret_int (by rw [HB.out]; omega), rfl⟩
    · obtain ⟨x2, d2⟩ : ∃ y, y = x1 / 65536 := ⟨_, rfl⟩
      have e2 : (x1 : Int) / 65536 = (x2 : Int) := by omega
      have b2 : bl x1 = 16 + bl x2 := by rw [d2]; exact bl_cut 16 x1 (by omega)
      have l2 : x2 < 65536 := by omega
      rcases Nat.lt_or_ge x2 256 with h8 | h8
      · have q8 : x2 < 256 := by omega
        have ql := bl_byte q8
        have qr := fun W => run_len x2 q8 W
        obtain ⟨t, ht⟩ : ∃ t, t = bl x2 := ⟨_, rfl⟩
        rw [← ht] at ql
        simp only [← ht, ← hT] at qr
        have HB : Hid (bl x = 48 + t) := by show _ = _; rw [ht]; omega
        have k0 : decide ((4294967296 : Int) ≤ (x : Int)) = true := by rw [decide_eq_true_iff]; omega
        have k1 : decide ((65536 : Int) ≤ (x1 : Int)) = true := by rw [decide_eq_true_iff]; omega
        have k2 : decide ((256 : Int) ≤ (x2 : Int)) = false := by rw [decide_eq_false_iff_not]; omega
        clear ht b1 d1 b2 d2
        go_enter Try.func20, Try.ntmps20
        simp only [fold_len]
        rw [← hT]
        clear hT
        go_wp2
        go_ret
        exact ⟨ret_int (by rw [HB.out]; omega), rfl⟩
      · obtain ⟨x3, d3⟩ : ∃ y, y = x2 / 256 := ⟨_, rfl⟩
        have e3 : (x2 : Int) / 256 = (x3 : Int) := by omega
        have b3 : bl x2 = 8 + bl x3 := by rw [d3]; exact bl_cut 8 x2 (by omega)
        have l3 : x3 < 256 := by omega
        have q8 : x3 < 256 := by omega
        have ql := bl_byte q8
        have qr := fun W => run_len x3 q8 W
        obtain ⟨t, ht⟩ : ∃ t, t = bl x3 := ⟨_, rfl⟩
        rw [← ht] at ql
        simp only [← ht, ← hT] at qr
        have HB : Hid (bl x = 56 + t) := by show _ = _; rw [ht]; omega
        have k0 : decide ((4294967296 : Int) ≤ (x : Int)) = true := by rw [decide_eq_true_iff]; omega
        have k1 : decide ((65536 : Int) ≤ (x1 : Int)) = true := by rw [decide_eq_true_iff]; omega
        have k2 : decide ((256 : Int) ≤ (x2 : Int)) = true := by rw [decide_eq_true_iff]; omega
        clear ht b1 d1 b2 d2 b3 d3
        go_enter Try.func20, Try.ntmps20
        simp only [fold_len]
        rw [← hT]
        clear hT
        go_wp2
        go_ret
        exact ⟨ret_int (by rw [HB.out]; omega), rfl⟩
theorem low_half (a : Nat) (ha : a < 18446744073709551616) : bits .and .u64 (a : Int) 4294967295 = ((a % 4294967296 : Nat) : Int) := by
  have h := bits_and_u64_nat a 4294967295 ha (by omega)
  rw [Nat.and_two_pow_sub_one_eq_mod (n := 32)] at h
  exact h
theorem wrap_cut (z : Nat) : IntKind.u64.wrap (z : Int) = ((z % 18446744073709551616 : Nat) : Int) := by rw [IntKind.wrap_u64]; omega
theorem wrap_same (z : Nat) (h : z < 18446744073709551616) : IntKind.u64.wrap (z : Int) = (z : Int) := by rw [IntKind.wrap_u64]; omega
theorem name_mul {a b p : Nat} (h : p = a * b) (hp : p < 18446744073709551616) : IntKind.u64.wrap ((a : Int) * (b : Int)) = (p : Int) := by rw [h, ← Int.natCast_mul, wrap_same _ (by omega)]
theorem name_add {a b p : Nat} (h : p = a + b) (hp : p < 18446744073709551616) : IntKind.u64.wrap ((a : Int) + (b : Int)) = (p : Int) := by rw [h, ← Int.natCast_add, wrap_same _ (by omega)]
theorem mul_any (x y : Nat) (w : World) (hx : x < 18446744073709551616) (hy : y < 18446744073709551616) (hi lo : Nat) (hh : hi = x * y / 18446744073709551616) (hl : lo = x * y % 18446744073709551616) :
    Calls Try.prog 19 #[.int .u64 x, .int .u64 y] w fun e w' => e = .returned (.tuple #[.int .u64 (hi : Nat), .int .u64 (lo : Nat)]) ∧ w = w' := by
  obtain ⟨bd, bt, bw, hhi⟩ := Lib.mul64_hi x y hx hy
  rw [← hh] at hhi
  have hhl : hi < 18446744073709551616 := by
    have := Nat.mul_le_mul (Nat.le_of_lt hx) (Nat.le_of_lt hy)
    rw [hh, Nat.div_lt_iff_lt_mul (by decide)]
    exact Nat.mul_lt_mul_of_lt_of_le hx (Nat.le_of_lt hy) (by decide)
  have a1 := low_half x hx
  have a2 := low_half y hy
  have a3 : (x : Int) / 4294967296 = ((x / 4294967296 : Nat) : Int) := by omega
  have a4 : (y : Int) / 4294967296 = ((y / 4294967296 : Nat) : Int) := by omega
  have a5 : IntKind.u64.wrap ((x : Int) * (y : Int)) = (lo : Int) := by rw [← Int.natCast_mul, wrap_cut, ← hl]
  obtain ⟨x0, hx0⟩ : ∃ q, q = x % 4294967296 := ⟨_, rfl⟩
  obtain ⟨x1, hx1⟩ : ∃ q, q = x / 4294967296 := ⟨_, rfl⟩
  obtain ⟨y0, hy0⟩ : ∃ q, q = y % 4294967296 := ⟨_, rfl⟩
  obtain ⟨y1, hy1⟩ : ∃ q, q = y / 4294967296 := ⟨_, rfl⟩
  have lx0 : x0 < 4294967296 := by omega
  have lx1 : x1 < 4294967296 := by omega
  have ly0 : y0 < 4294967296 := by omega
  have ly1 : y1 < 4294967296 := by omega
  rw [← hx0] at a1
  rw [← hy0] at a2
  rw [← hx1] at a3
  rw [← hy1] at a4
  rw [← hx0, ← hx1, ← hy0, ← hy1] at hhi
  rw [← hx0, ← hy0] at bd
  rw [← hx0, ← hx1, ← hy0] at bt
  rw [← hx0, ← hx1, ← hy0, ← hy1] at bw
  clear hx0 hx1 hy0 hy1 hh hl
  have lp := Lib.half_mul_le (a := x1) (b := y0) (by omega) (by omega)
  have lq := Lib.half_mul_le (a := x0) (b := y1) (by omega) (by omega)
  have lr := Lib.half_mul_le (a := x1) (b := y1) (by omega) (by omega)
  obtain ⟨w0, h0⟩ : ∃ q, q = x0 * y0 := ⟨_, rfl⟩
  obtain ⟨p, hp⟩ : ∃ q, q = x1 * y0 := ⟨_, rfl⟩
  obtain ⟨q, hq⟩ : ∃ q, q = x0 * y1 := ⟨_, rfl⟩
  obtain ⟨r, hr⟩ : ∃ q, q = x1 * y1 := ⟨_, rfl⟩
  rw [← h0, ← hp, ← hq, ← hr] at hhi
  rw [← h0] at bd
  rw [← h0, ← hp] at bt
  rw [← h0, ← hp, ← hq] at bw
  rw [← hp] at lp
  rw [← hq] at lq
  rw [← hr] at lr
  have b1 := name_mul h0 bd
  have b2 := name_mul hp (by omega)
  have b3 := name_mul hq (by omega)
  have b4 := name_mul hr (by omega)
  clear h0 hp hq hr
  obtain ⟨wh, g1⟩ : ∃ q, q = w0 / 4294967296 := ⟨_, rfl⟩
  have c1 : (w0 : Int) / 4294967296 = (wh : Int) := by omega
  rw [← g1] at hhi bt bw
  obtain ⟨t, g2⟩ : ∃ q, q = p + wh := ⟨_, rfl⟩
  rw [← g2] at hhi bt bw
  have c2 := name_add g2 bt
  have c3 := low_half t bt
  obtain ⟨v1, g3⟩ : ∃ q, q = t % 4294967296 := ⟨_, rfl⟩
  obtain ⟨v2, g4⟩ : ∃ q, q = t / 4294967296 := ⟨_, rfl⟩
  have c4 : (t : Int) / 4294967296 = (v2 : Int) := by omega
  rw [← g3] at hhi c3 bw
  rw [← g4] at hhi
  obtain ⟨u, g5⟩ : ∃ z, z = v1 + q := ⟨_, rfl⟩
  rw [← g5] at hhi bw
  have c5 := name_add g5 bw
  obtain ⟨uh, g6⟩ : ∃ q, q = u / 4294967296 := ⟨_, rfl⟩
  have c6 : (u : Int) / 4294967296 = (uh : Int) := by omega
  rw [← g6] at hhi
  obtain ⟨s, g7⟩ : ∃ q, q = r + v2 := ⟨_, rfl⟩
  rw [← g7] at hhi
  have c7 := name_add g7 (by omega)
  have c8 := name_add hhi.symm hhl
  clear g1 g2 g3 g4 g5 g6 g7 hhi bd bt bw lp lq lr
  go_enter Try.func19, Try.ntmps19
  go_wp2
  go_ret2
  exact ⟨rfl, rfl⟩
/-- six logarithms, cut -/
theorem six_any (x b : Nat) (w : World) (h1 : 1 ≤ x) (h2 : x ≤ 1048577) (hb : b + 1 = bl (x ^ 6)) :
    Calls Try.prog 14 #[.int .u64 x] w fun e w' => e = .returned (.int .i64 (b : Nat)) ∧ w = w' := by
  obtain ⟨l1, l2⟩ := cube_lt h2
  have e6 := cube_six x
  obtain ⟨s, hs⟩ : ∃ s, s = x * x := ⟨_, rfl⟩
  rw [← hs] at l1 l2 e6
  obtain ⟨c, hc⟩ : ∃ c, c = s * x := ⟨_, rfl⟩
  rw [← hc] at l2 e6
  have n1 := name_mul hs l1
  have n2 := name_mul hc l2
  obtain ⟨hi, hhi⟩ : ∃ p, p = c * c / 18446744073709551616 := ⟨_, rfl⟩
  obtain ⟨lo, hlo⟩ : ∃ p, p = c * c % 18446744073709551616 := ⟨_, rfl⟩
  have M := mul_any c c w l2 l2 hi lo hhi hlo
  have hil : hi < 18446744073709551616 := by
    rw [hhi, Nat.div_lt_iff_lt_mul (by decide)]
    exact Nat.mul_lt_mul_of_lt_of_le l2 (Nat.le_of_lt l2) (by decide)
  have lol : lo < 18446744073709551616 := by rw [hlo]; exact Nat.mod_lt _ (by decide)
  have hbl := (bl_six h1 h2).2
  by_cases h0 : hi = 0
  · have e := bl_low (c * c) (by rw [← hhi]; exact h0)
    rw [← hlo, e6, ← hb] at e
    have K := len_any lo w lol
    rw [← e] at K
    subst h0
    have HM := Lib.hid M; clear M
    have HK := Lib.hid K; clear K
    have hbb : b ≤ 125 := by omega
    clear hs hc hhi hlo hb hbl e e6 hil lol h1 h2 l1
    go_enter Try.func14, Try.ntmps14
    go_wp2_with fail
    refine HM.out.mono ?_
    rintro e w' ⟨rfl, rfl⟩
    go_wp2_with fail
    refine HK.out.mono ?_
    rintro e w' ⟨rfl, rfl⟩
    go_wp2_with fail
    go_ret
    exact ⟨ret_int (by omega), rfl⟩
  · have e := bl_parts (c * c) (by rw [← hhi]; exact h0)
    rw [← hhi, e6] at e
    have K := len_any hi w hil
    obtain ⟨d, hd⟩ : ∃ d, d = bl hi := ⟨_, rfl⟩
    rw [← hd] at K e
    have hn : ((hi : Int) == 0) = false := by
      rw [beq_eq_false_iff_ne]
      omega
    have HM := Lib.hid M; clear M
    have HK := Lib.hid K; clear K
    have hdd : d ≤ 64 := by omega
    have HB : Hid (b + 1 = 64 + d) := by show _ = _; omega
    clear hs hc hhi hlo hb hbl e e6 hil lol h1 h2 l1 hd h0
    go_enter Try.func14, Try.ntmps14
    go_wp2_with fail
    refine HM.out.mono ?_
    rintro e w' ⟨rfl, rfl⟩
    go_wp2_with fail
    refine HK.out.mono ?_
    rintro e w' ⟨rfl, rfl⟩
    go_wp2_with fail
    go_ret
    exact ⟨ret_int (by have := HB.out; omega), rfl⟩
theorem bound_arm (z : Int) (h b : Nat) (w : World) (hh : h = held z) (hb : bnd z = 17 + b) :
    Calls Try.prog 14 #[.int .u64 ((h : Int) + 1)] w fun e w' => e = .returned (.int .i64 (b : Nat)) ∧ w = w' := by
  have hl := held_le z
  have k := six_any (h + 1) b w (by omega) (by omega) (by rw [hh]; unfold bnd at hb; omega)
  rw [show (((h + 1 : Nat)) : Int) = (h : Int) + 1 by omega] at k
  exact k
/-- the program's Bound -/
theorem bound_any (z : Int) (w : World) :
    Calls Try.prog 6 #[.int .i64 z] w fun e w' => e = .returned (.int .i64 (bnd z : Nat)) ∧ w = w' := by
  have hbd := bnd_lt z
  obtain ⟨b, hb⟩ : ∃ b, bnd z = 17 + b := ⟨bnd z - 17, by omega⟩
  rw [hb] at hbd ⊢
  have hbl : b ≤ 125 := by omega
  obtain ⟨h, hh⟩ : ∃ h, h = held z := ⟨_, rfl⟩
  have k := bound_arm z h b w hh hb
  have hhl : h ≤ 1048576 := by rw [hh]; exact held_le z
  clear hbd hb
  unfold held at hh
  rcases Int.lt_or_le z 0 with h1 | h1
  · obtain rfl : h = 0 := by omega
    have K : Hid (Calls Try.prog 14 #[.int .u64 1] w fun e w' => e = .returned (.int .i64 (b : Nat)) ∧ w = w') := k
    clear k hh hhl
    go_enter Try.func6, Try.ntmps6
    go_wp2_with fail
    refine K.out.mono ?_
    rintro e w' ⟨rfl, rfl⟩
    go_wp2_with fail
    go_ret
    exact ⟨ret_int (by omega), rfl⟩
  · rcases Int.lt_or_le 1048576 z with h2 | h2
    · obtain rfl : h = 1048576 := by omega
      have K : Hid (Calls Try.prog 14 #[.int .u64 1048577] w fun e w' => e = .returned (.int .i64 (b : Nat)) ∧ w = w') := k
      clear k hh hhl
      go_enter Try.func6, Try.ntmps6
      go_wp2_with fail
      refine K.out.mono ?_
      rintro e w' ⟨rfl, rfl⟩
      go_wp2_with fail
      go_ret
      exact ⟨ret_int (by omega), rfl⟩
    · obtain rfl : z = (h : Int) := by omega
      clear hh
      by_cases h3 : h = 0
      · subst h3
        have K : Hid (Calls Try.prog 14 #[.int .u64 1] w fun e w' => e = .returned (.int .i64 (b : Nat)) ∧ w = w') := k
        clear k hhl h1 h2
        go_enter Try.func6, Try.ntmps6
        go_wp2_with fail
        refine K.out.mono ?_
        rintro e w' ⟨rfl, rfl⟩
        go_wp2_with fail
        go_ret
        exact ⟨ret_int (by omega), rfl⟩
      · by_cases h4 : h = 1048576
        · subst h4
          have K : Hid (Calls Try.prog 14 #[.int .u64 1048577] w fun e w' => e = .returned (.int .i64 (b : Nat)) ∧ w = w') := k
          clear k hhl h1 h2
          go_enter Try.func6, Try.ntmps6
          go_wp2_with fail
          refine K.out.mono ?_
          rintro e w' ⟨rfl, rfl⟩
          go_wp2_with fail
          go_ret
          exact ⟨ret_int (by omega), rfl⟩
        · have h5 : 0 < h := by omega
          have h6 : h < 1048576 := by omega
          have K := Lib.hid k; clear k
          clear h1 h2 hhl h3 h4
          go_enter Try.func6, Try.ntmps6
          go_wp2_with fail
          refine K.out.mono ?_
          rintro e w' ⟨rfl, rfl⟩
          go_wp2_with fail
          go_ret
          exact ⟨ret_int (by omega), rfl⟩
/-- the document's examples -/
theorem awake_any (w : World) : Calls Try.prog 9 #[] w fun e w' => e = .returned (.bool true) ∧ w = w' := by
  have h1 : ∀ W, Calls Try.prog 6 #[.int .i64 0] W fun e w' => e = .returned (.int .i64 17) ∧ W = w' := fun W => by have h := bound_any 0 W; rw [bnd_0] at h; exact h
  have h2 : ∀ W, Calls Try.prog 6 #[.int .i64 1] W fun e w' => e = .returned (.int .i64 23) ∧ W = w' := fun W => by have h := bound_any 1 W; rw [bnd_1] at h; exact h
  have h3 : ∀ W, Calls Try.prog 6 #[.int .i64 3] W fun e w' => e = .returned (.int .i64 29) ∧ W = w' := fun W => by have h := bound_any 3 W; rw [bnd_3] at h; exact h
  have H1 := Lib.hid h1; clear h1
  have H2 := Lib.hid h2; clear h2
  have H3 := Lib.hid h3; clear h3
  go_enter Try.func9, Try.ntmps9
  go_wp2_with fail
  refine (H1.out _).mono ?_
  rintro e w' ⟨rfl, rfl⟩
  go_wp2_with fail
  refine (H2.out _).mono ?_
  rintro e w' ⟨rfl, rfl⟩
  go_wp2_with fail
  refine (H3.out _).mono ?_
  rintro e w' ⟨rfl, rfl⟩
  go_wp2_with fail
  go_ret
  exact ⟨rfl, rfl⟩
end Go.Proofs.Ytlpngoaachdjhaa
