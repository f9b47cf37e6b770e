import Derived.WalkKit
import Derived.Laws.BitsAllLaws
import Derived.Laws.ShiftsVarLaws
namespace Go.Proofs.Ytjhbekopcikdkaa
/-- the top bits of a word from bit k on. -/
theorem wrap_top (k : Nat) (hk : k ≤ 64) : IntKind.u64.wrap (18446744073709551615 * 2 ^ k) = ((2 ^ 64 - 2 ^ k : Nat) : Int) := by
  rw [IntKind.wrap_u64]
  have hp : (2 : Nat) ^ k ≤ 2 ^ 64 := Nat.pow_le_pow_right (by decide) hk
  have hp0 : 0 < (2 : Nat) ^ k := Nat.two_pow_pos k
  have e : ((2 : Int) ^ k) = ((2 ^ k : Nat) : Int) := by simp
  rw [e]
  generalize (2 : Nat) ^ k = q at *
  have h1 : (18446744073709551615 * (q : Int)) = ((2 ^ 64 - q : Nat) : Int) + 18446744073709551616 * ((q : Int) - 1) := by omega
  rw [h1, Int.add_mul_emod_self_left]
  omega
theorem low_mask (y k : Nat) (hk : k ≤ 64) : y &&& (18446744073709551615 - (2 ^ 64 - 2 ^ k)) = y % 2 ^ k := by
  have hp : (2 : Nat) ^ k ≤ 2 ^ 64 := Nat.pow_le_pow_right (by decide) hk
  have hp0 : 0 < (2 : Nat) ^ k := Nat.two_pow_pos k
  have e : 18446744073709551615 - (2 ^ 64 - 2 ^ k) = 2 ^ k - 1 := by generalize (2 : Nat) ^ k = q at *; omega
  rw [e, Nat.and_two_pow_sub_one_eq_mod]
/-- what Cut comes to. -/
def cutN (x f k : Nat) : Nat := x / 2 ^ f % 2 ^ k
theorem cut_bits (x f k : Nat) (hx : x < 18446744073709551616) (hk : k ≤ 64) :
    bits .andNot .u64 ((x : Int) / 2 ^ f) (IntKind.u64.wrap (18446744073709551615 * 2 ^ k)) = ((cutN x f k : Nat) : Int) := by
  have hy : x / 2 ^ f < 18446744073709551616 := Nat.lt_of_le_of_lt (Nat.div_le_self _ _) hx
  have e : ((x : Int) / 2 ^ f) = ((x / 2 ^ f : Nat) : Int) := by simp
  have hp0 : 0 < (2 : Nat) ^ k := Nat.two_pow_pos k
  rw [wrap_top k hk, e, u64_andNot_nat _ _ hy (by omega)]
  rw [low_mask _ k hk]
  rfl
theorem cutN_lt (x f k : Nat) (hx : x < 18446744073709551616) : cutN x f k < 18446744073709551616 := by
  unfold cutN
  exact Nat.lt_of_le_of_lt (Nat.mod_le _ _) (Nat.lt_of_le_of_lt (Nat.div_le_self _ _) hx)
theorem parts_nat (x k : Nat) : (x / 2 ^ k) * 2 ^ k ||| x % 2 ^ k = x := by
  have h := Nat.two_pow_add_eq_or_of_lt (i := k) (b := x % 2 ^ k) (Nat.mod_lt _ (Nat.two_pow_pos k)) (x / 2 ^ k)
  rw [Nat.mul_comm, ← h]
  exact Nat.div_add_mod x (2 ^ k)
theorem parts (x k : Nat) (hx : x < 18446744073709551616) :
    bits .or .u64 (IntKind.u64.wrap (((cutN x k 64 : Nat) : Int) * 2 ^ k)) ((cutN x 0 k : Nat) : Int) = (x : Int) := by
  have hy : x / 2 ^ k < 18446744073709551616 := Nat.lt_of_le_of_lt (Nat.div_le_self _ _) hx
  have e1 : cutN x k 64 = x / 2 ^ k := Nat.mod_eq_of_lt hy
  have e2 : cutN x 0 k = x % 2 ^ k := by simp [cutN]
  have hm : x / 2 ^ k * 2 ^ k ≤ x := Nat.div_mul_le_self _ _
  have e3 : (((x / 2 ^ k : Nat) : Int) * 2 ^ k) = ((x / 2 ^ k * 2 ^ k : Nat) : Int) := by simp
  rw [e1, e2, e3, IntKind.wrap_u64]
  have e4 : ((x / 2 ^ k * 2 ^ k : Nat) : Int) % 18446744073709551616 = ((x / 2 ^ k * 2 ^ k : Nat) : Int) := by generalize x / 2 ^ k * 2 ^ k = q at *; omega
  rw [e4, u64_or_nat _ _ (by omega) (Nat.lt_of_le_of_lt (Nat.mod_le _ _) hx), parts_nat]
/-- the k lowest bytes of n, the highest first. -/
def be (n : Nat) : Nat → List UInt8
  | 0 => []
  | j + 1 => UInt8.ofNat (n / 256 ^ j) :: be n j
theorem be_length (n k : Nat) : (be n k).length = k := by
  induction k with
  | zero => rfl
  | succ k ih => simp [be, ih]
theorem be_get (n k j : Nat) (h : j < k) : (be n k)[j]? = some (UInt8.ofNat (n / 256 ^ (k - 1 - j))) := by
  induction k generalizing j with
  | zero => omega
  | succ k ih =>
    cases j with
    | zero => simp [be]
    | succ j => simp only [be, List.getElem?_cons_succ]; rw [ih j (by omega)]; congr 4; omega
/-- the number of bytes, the highest first. -/
def num (l : List UInt8) : Nat := l.foldl (fun a b => a * 256 + b.toNat) 0
theorem num_from (l : List UInt8) (a : Nat) : l.foldl (fun a b => a * 256 + b.toNat) a = a * 256 ^ l.length + num l := by
  induction l generalizing a with
  | nil => simp [num]
  | cons b l ih =>
    simp only [num, List.foldl_cons, List.length_cons]
    rw [ih, ih (0 * 256 + b.toNat), Nat.pow_succ]
    simp only [Nat.add_mul, Nat.zero_mul, Nat.zero_add, Nat.mul_assoc, Nat.add_assoc]
    rw [Nat.mul_comm 256 (256 ^ l.length)]
theorem num_snoc (l : List UInt8) (b : UInt8) : num (l ++ [b]) = num l * 256 + b.toNat := by simp [num]
theorem num_cons (l : List UInt8) (b : UInt8) : num (b :: l) = b.toNat * 256 ^ l.length + num l := by
  show l.foldl _ (0 * 256 + b.toNat) = _
  rw [num_from]; simp
theorem num_lt (l : List UInt8) : num l < 256 ^ l.length := by
  induction l with
  | nil => simp [num]
  | cons b l ih =>
    rw [num_cons, List.length_cons, Nat.pow_succ]
    have hb : b.toNat < 256 := b.toNat_lt
    have h1 : (b.toNat + 1) * 256 ^ l.length ≤ 256 * 256 ^ l.length := Nat.mul_le_mul_right _ hb
    rw [Nat.add_mul, Nat.one_mul] at h1
    rw [Nat.mul_comm (256 ^ l.length) 256]
    omega
theorem num_be (n k : Nat) : num (be n k) = n % 256 ^ k := by
  induction k with
  | zero => simp [be, num, Nat.mod_one]
  | succ k ih =>
    rw [be, num_cons, ih, be_length, UInt8.toNat_ofNat']
    have e := Nat.mod_mul (a := 256 ^ k) (b := 256) (x := n)
    have e2 : (256 : Nat) ^ (k + 1) = 256 ^ k * 256 := Nat.pow_succ ..
    have e3 : n / 256 ^ k % 2 ^ 8 = n / 256 ^ k % 256 := rfl
    rw [e2, e, e3, Nat.mul_comm, Nat.add_comm]
theorem num_lt64 (l : List UInt8) (h : l.length ≤ 8) : num l < 18446744073709551616 :=
  Nat.lt_of_lt_of_le (num_lt l) (Nat.pow_le_pow_right (n := 256) (by decide) h)
theorem take_snoc' (l : List UInt8) (k : Nat) (h : k < l.length) : l.take (k + 1) = l.take k ++ [l[k]] := by
  rw [List.take_succ_eq_append_getElem h]
theorem num_take (l : List UInt8) (k : Nat) (h : k < l.length) : num (l.take (k + 1)) = num (l.take k) * 256 + l[k].toNat := by
  rw [take_snoc' l k h, num_snoc]
theorem num_rev_take (l : List UInt8) (k : Nat) (h : k < l.length) : num (l.take (k + 1)).reverse = l[k].toNat * 256 ^ k + num (l.take k).reverse := by
  rw [take_snoc' l k h, List.reverse_append, List.reverse_singleton, List.singleton_append, num_cons, List.length_reverse, List.length_take, Nat.min_eq_left (by omega)]
/-- one step of Get. -/
theorem get_step (a b : Nat) (h : a * 256 + b < 18446744073709551616) (hb : b < 256) :
    bits .or .u64 (IntKind.u64.wrap ((a : Int) * 256)) (b : Int) = ((a * 256 + b : Nat) : Int) := by
  rw [IntKind.wrap_u64]
  have h5 : a * 256 < 18446744073709551616 := Nat.lt_of_le_of_lt (Nat.le_add_right _ _) h
  have h6 : b < 18446744073709551616 := Nat.lt_of_lt_of_le hb (by decide)
  have e5 := u64_or_nat (a * 256) b h5 h6
  have e : ((a : Int) * 256) % 18446744073709551616 = ((a * 256 : Nat) : Int) := by clear e5; omega
  rw [e, e5]
  have h2 : 2 ^ 8 * a + b = 2 ^ 8 * a ||| b := Nat.two_pow_add_eq_or_of_lt (i := 8) (b := b) (by omega) a
  have h3 : a * 256 + b = a * 256 ||| b := by
    have h4 : 2 ^ 8 * a = a * 256 := by omega
    rw [h4] at h2; exact h2
  rw [h3]
/-- one step of Low. -/
theorem low_step (a b i : Nat) (ha : a < 256 ^ i) (hb : b < 256) (hi : i < 8) :
    bits .or .u64 (a : Int) (IntKind.u64.wrap ((b : Int) * 2 ^ (8 * i))) = ((b * 256 ^ i + a : Nat) : Int) := by
  have e0 : (256 : Nat) ^ i = 2 ^ (8 * i) := by rw [show (256 : Nat) = 2 ^ 8 from rfl, ← Nat.pow_mul]
  have e1 : ((b : Int) * 2 ^ (8 * i)) = ((b * 2 ^ (8 * i) : Nat) : Int) := by simp
  have h8 : (2 : Nat) ^ (8 * i) * 256 ≤ 18446744073709551616 := by
    rw [show (256 : Nat) = 2 ^ 8 from rfl, ← Nat.pow_add]
    exact Nat.pow_le_pow_right (n := 2) (i := 8 * i + 8) (j := 64) (by decide) (by omega)
  rw [e0] at ha ⊢
  have hb2 : (b + 1) * 2 ^ (8 * i) ≤ 256 * 2 ^ (8 * i) := Nat.mul_le_mul_right _ hb
  rw [Nat.add_mul, Nat.one_mul] at hb2
  have hlt : b * 2 ^ (8 * i) + a < 18446744073709551616 := by omega
  rw [e1, IntKind.wrap_u64]
  have e2 : ((b * 2 ^ (8 * i) : Nat) : Int) % 18446744073709551616 = ((b * 2 ^ (8 * i) : Nat) : Int) := by omega
  rw [e2, u64_or_nat _ _ (by omega) (by omega), Nat.or_comm]
  have := Nat.two_pow_add_eq_or_of_lt (i := 8 * i) (b := a) ha b
  rw [Nat.mul_comm b]; rw [this]
/-- a bit, as a number -/
theorem bit_testBit (x i : Nat) : x / 2 ^ i % 2 = (x.testBit i).toNat := by
  rw [Nat.toNat_testBit]
theorem cut_bit (x f k i : Nat) : cutN x f k / 2 ^ i % 2 = if i < k then x / 2 ^ (f + i) % 2 else 0 := by
  rw [bit_testBit, bit_testBit]
  unfold cutN
  rw [Nat.testBit_mod_two_pow, Nat.testBit_div_two_pow]
  by_cases h : i < k
  · simp [h, Nat.add_comm]
  · simp [h]
/-- what Turn comes to -/
def turnN (x q : Nat) : Nat := (x * 2 ^ q) % 18446744073709551616 ||| x / 2 ^ (64 - q)
theorem turnN_lt (x q : Nat) (hx : x < 18446744073709551616) : turnN x q < 18446744073709551616 := by
  have h : turnN x q < 2 ^ 64 := Nat.or_lt_two_pow (Nat.mod_lt _ (by decide)) (Nat.lt_of_le_of_lt (Nat.div_le_self _ _) hx)
  exact h
theorem turn_bit (x q i : Nat) (hx : x < 18446744073709551616) (hq : q < 64) (hi : i < 64) : turnN x q / 2 ^ ((i + q) % 64) % 2 = x / 2 ^ i % 2 := by
  rw [bit_testBit, bit_testBit]
  congr 1
  unfold turnN
  have e : (18446744073709551616 : Nat) = 2 ^ 64 := rfl
  rw [e] at hx ⊢
  rw [Nat.testBit_or, Nat.testBit_mod_two_pow, Nat.mul_comm, Nat.testBit_two_pow_mul, Nat.testBit_div_two_pow]
  by_cases h : i + q < 64
  · have h1 : (i + q) % 64 = i + q := Nat.mod_eq_of_lt h
    have h2 : x.testBit (i + q + (64 - q)) = false := Nat.testBit_lt_two_pow (Nat.lt_of_lt_of_le hx (Nat.pow_le_pow_right (by decide) (by omega)))
    rw [h1, h2]
    simp [h]
  · have h1 : (i + q) % 64 = i + q - 64 := by omega
    have h3 : i + q - 64 + (64 - q) = i := by omega
    have h4 : ¬ q ≤ i + q - 64 := by omega
    rw [h1, h3]
    simp [h4]
theorem puts_mod (x q : Nat) : ∃ Z : Nat, (q < 8 → IntKind.u64.wrap (2 ^ (8 * q)) = (Z : Int)) ∧ 0 < Z ∧ num (be x q) = (if q < 8 then x % Z else x % 256 ^ q) := by
  refine ⟨2 ^ (8 * q), ?_, Nat.two_pow_pos _, ?_⟩
  · intro h
    have h8 : (2 : Nat) ^ (8 * q) < 18446744073709551616 := Nat.pow_lt_pow_right (a := 2) (m := 8 * q) (n := 64) (by decide) (by omega)
    have e : ((2 : Int) ^ (8 * q)) = ((2 ^ (8 * q) : Nat) : Int) := by simp
    rw [e, IntKind.wrap_u64]
    generalize (2 : Nat) ^ (8 * q) = z at *
    omega
  · have e4 : (256 : Nat) ^ q = 2 ^ (8 * q) := by rw [show (256 : Nat) = 2 ^ 8 from rfl, ← Nat.pow_mul]
    rw [num_be, e4]; simp
end Go.Proofs.Ytjhbekopcikdkaa
