/-
  Plain mathematics of layer 5, no program: sums, turns and rounds of numbers of 64 bits, whole and as two halves; a round loses nothing; numbers of bytes, the lowest first; the hash of a key.
-/
import Derived.WalkKit
import Derived.Laws.BitsAllLaws
import Derived.Laws.ShiftsVarLaws
namespace Go.Proofs.Ytmkibkeacbhhaaa
/-- a sum of 64 bits -/
def addN (a b : Nat) : Nat := (a + b) % 18446744073709551616
/-- what Turn comes to -/
def turnN (x q : Nat) : Nat := (x * 2 ^ q) % 18446744073709551616 ||| x / 2 ^ (64 - q)
theorem turnN_lt (x q : Nat) (hx : x < 18446744073709551616) : turnN x q < 18446744073709551616 := by
  have h : turnN x q < 2 ^ 64 := Nat.or_lt_two_pow (Nat.mod_lt _ (by decide)) (Nat.lt_of_le_of_lt (Nat.div_le_self _ _) hx)
  exact h
theorem addN_lt (a b : Nat) : addN a b < 18446744073709551616 := Nat.mod_lt _ (by decide)
theorem xor_lt (a b : Nat) (ha : a < 18446744073709551616) (hb : b < 18446744073709551616) : a ^^^ b < 18446744073709551616 :=
  Nat.xor_lt_two_pow (n := 64) ha hb
/-- a turn by k, as a sum -/
theorem turn_sum (x q : Nat) (hx : x < 18446744073709551616) (hq : q ≤ 64) : turnN x q = (x * 2 ^ q) % 18446744073709551616 + x / 2 ^ (64 - q) := by
  unfold turnN
  have e : (18446744073709551616 : Nat) = 2 ^ (64 - q) * 2 ^ q := by rw [← Nat.pow_add, Nat.sub_add_cancel hq]
  have h1 : (x * 2 ^ q) % 18446744073709551616 = 2 ^ q * (x % 2 ^ (64 - q)) := by
    rw [e, Nat.mul_mod_mul_right, Nat.mul_comm]
  have h2 : x / 2 ^ (64 - q) < 2 ^ q := by
    rw [Nat.div_lt_iff_lt_mul (Nat.two_pow_pos _), Nat.mul_comm, ← e]; exact hx
  rw [h1, ← Nat.two_pow_add_eq_or_of_lt h2]
theorem turn13 (x : Nat) (hx : x < 18446744073709551616) : turnN x 13 = (x * 8192) % 18446744073709551616 + x / 2251799813685248 := turn_sum x 13 hx (by decide)
theorem turn16 (x : Nat) (hx : x < 18446744073709551616) : turnN x 16 = (x * 65536) % 18446744073709551616 + x / 281474976710656 := turn_sum x 16 hx (by decide)
theorem turn17 (x : Nat) (hx : x < 18446744073709551616) : turnN x 17 = (x * 131072) % 18446744073709551616 + x / 140737488355328 := turn_sum x 17 hx (by decide)
theorem turn21 (x : Nat) (hx : x < 18446744073709551616) : turnN x 21 = (x * 2097152) % 18446744073709551616 + x / 8796093022208 := turn_sum x 21 hx (by decide)
theorem turn32 (x : Nat) (hx : x < 18446744073709551616) : turnN x 32 = (x * 4294967296) % 18446744073709551616 + x / 4294967296 := turn_sum x 32 hx (by decide)
/-- a turn loses nothing -/
theorem turn_inj (q : Nat) (hq : q ≤ 64) {x y : Nat} (hx : x < 18446744073709551616) (hy : y < 18446744073709551616) (h : turnN x q = turnN y q) : x = y := by
  rw [turn_sum x q hx hq, turn_sum y q hy hq] at h
  have e : (18446744073709551616 : Nat) = 2 ^ (64 - q) * 2 ^ q := by rw [← Nat.pow_add, Nat.sub_add_cancel hq]
  have hx2 : x / 2 ^ (64 - q) < 2 ^ q := by
    rw [Nat.div_lt_iff_lt_mul (Nat.two_pow_pos _), Nat.mul_comm, ← e]; exact hx
  have hy2 : y / 2 ^ (64 - q) < 2 ^ q := by
    rw [Nat.div_lt_iff_lt_mul (Nat.two_pow_pos _), Nat.mul_comm, ← e]; exact hy
  rw [e, Nat.mul_mod_mul_right, Nat.mul_mod_mul_right] at h
  have h3 : x / 2 ^ (64 - q) = y / 2 ^ (64 - q) := by
    have := congrArg (· % 2 ^ q) h
    simp only [Nat.mul_add_mod_self_right] at this
    rwa [Nat.mod_eq_of_lt hx2, Nat.mod_eq_of_lt hy2] at this
  have h4 : x % 2 ^ (64 - q) = y % 2 ^ (64 - q) := by
    rw [h3] at h
    exact Nat.eq_of_mul_eq_mul_right (Nat.two_pow_pos q) (Nat.add_right_cancel h)
  rw [← Nat.div_add_mod x (2 ^ (64 - q)), h3, h4, Nat.div_add_mod]
theorem add_inj {a b c : Nat} (ha : a < 18446744073709551616) (hb : b < 18446744073709551616) (h : addN a c = addN b c) : a = b := by
  unfold addN at h; omega
theorem xor_inj {a b c : Nat} (h : a ^^^ c = b ^^^ c) : a = b := by
  have := congrArg (· ^^^ c) h
  simpa [Nat.xor_assoc] using this
/-- four numbers -/
structure St where
  p : Nat
  q : Nat
  r : Nat
  s : Nat
deriving DecidableEq
def St.ok (x : St) : Prop := x.p < 18446744073709551616 ∧ x.q < 18446744073709551616 ∧ x.r < 18446744073709551616 ∧ x.s < 18446744073709551616
def St.round (x : St) : St :=
  let p1 := addN x.p x.q
  let q1 := turnN x.q 13 ^^^ p1
  let p2 := turnN p1 32
  let r1 := addN x.r x.s
  let s1 := turnN x.s 16 ^^^ r1
  let p3 := addN p2 s1
  let s2 := turnN s1 21 ^^^ p3
  let r2 := addN r1 q1
  let q2 := turnN q1 17 ^^^ r2
  let r3 := turnN r2 32
  ⟨p3, q2, r3, s2⟩
theorem St.round_ok {x : St} (h : x.ok) : x.round.ok := by
  obtain ⟨_, hq, _, hs⟩ := h
  have hq1 := xor_lt _ _ (turnN_lt x.q 13 hq) (addN_lt x.p x.q)
  have hs1 := xor_lt _ _ (turnN_lt x.s 16 hs) (addN_lt x.r x.s)
  exact ⟨addN_lt _ _, xor_lt _ _ (turnN_lt _ 17 hq1) (addN_lt _ _), turnN_lt _ 32 (addN_lt _ _), xor_lt _ _ (turnN_lt _ 21 hs1) (addN_lt _ _)⟩
/-- a round loses nothing -/
theorem St.round_inj {x y : St} (hx : x.ok) (hy : y.ok) (h : x.round = y.round) : x = y := by
  obtain ⟨xp, xq, xr, xs⟩ := x
  obtain ⟨yp, yq, yr, ys⟩ := y
  obtain ⟨hxp, hxq, hxr, hxs⟩ := hx
  obtain ⟨hyp, hyq, hyr, hys⟩ := hy
  simp only at hxp hxq hxr hxs hyp hyq hyr hys
  simp only [St.round, St.mk.injEq] at h
  obtain ⟨h1, h2, h3, h4⟩ := h
  have hxq1 := xor_lt _ _ (turnN_lt xq 13 hxq) (addN_lt xp xq)
  have hyq1 := xor_lt _ _ (turnN_lt yq 13 hyq) (addN_lt yp yq)
  have hxs1 := xor_lt _ _ (turnN_lt xs 16 hxs) (addN_lt xr xs)
  have hys1 := xor_lt _ _ (turnN_lt ys 16 hys) (addN_lt yr ys)
  have e3 := turn_inj 32 (by decide) (addN_lt _ _) (addN_lt _ _) h3
  rw [e3] at h2
  have eq1 := turn_inj 17 (by decide) hxq1 hyq1 (xor_inj h2)
  rw [eq1] at e3
  have er1 := add_inj (addN_lt _ _) (addN_lt _ _) e3
  rw [h1] at h4
  have es1 := turn_inj 21 (by decide) hxs1 hys1 (xor_inj h4)
  rw [es1] at h1
  have ep2 := add_inj (turnN_lt _ 32 (addN_lt _ _)) (turnN_lt _ 32 (addN_lt _ _)) h1
  have ep1 := turn_inj 32 (by decide) (addN_lt _ _) (addN_lt _ _) ep2
  rw [er1] at es1
  have es := turn_inj 16 (by decide) hxs hys (xor_inj es1)
  rw [es] at er1
  have er := add_inj hxr hyr er1
  rw [ep1] at eq1
  have eq := turn_inj 13 (by decide) hxq hyq (xor_inj eq1)
  rw [eq] at ep1
  have ep := add_inj hxp hyp ep1
  rw [ep, eq, er, es]
def St.rounds : Nat → St → St
  | 0, x => x
  | n + 1, x => (St.rounds n x).round
theorem St.rounds_zero (x : St) : St.rounds 0 x = x := by rw [St.rounds]
theorem St.rounds_succ (n : Nat) (x : St) : St.rounds (n + 1) x = (St.rounds n x).round := by rw [St.rounds]
theorem St.rounds_ok (n : Nat) {x : St} (h : x.ok) : (St.rounds n x).ok := by
  induction n with
  | zero => rw [St.rounds_zero]; exact h
  | succ n ih => rw [St.rounds_succ]; exact St.round_ok ih
def St.take (x : St) (m : Nat) : St :=
  ⟨(St.rounds 2 ⟨x.p, x.q, x.r, x.s ^^^ m⟩).p ^^^ m, (St.rounds 2 ⟨x.p, x.q, x.r, x.s ^^^ m⟩).q, (St.rounds 2 ⟨x.p, x.q, x.r, x.s ^^^ m⟩).r, (St.rounds 2 ⟨x.p, x.q, x.r, x.s ^^^ m⟩).s⟩
theorem St.take_ok {x : St} {m : Nat} (h : x.ok) (hm : m < 18446744073709551616) : (x.take m).ok := by
  obtain ⟨h1, h2, h3, h4⟩ := h
  have hy := St.rounds_ok 2 (x := ⟨x.p, x.q, x.r, x.s ^^^ m⟩) ⟨h1, h2, h3, xor_lt _ _ h4 hm⟩
  generalize hz : St.rounds 2 ⟨x.p, x.q, x.r, x.s ^^^ m⟩ = z at hy
  unfold St.take
  rw [hz]
  exact ⟨xor_lt _ _ hy.1 hm, hy.2.1, hy.2.2.1, hy.2.2.2⟩
def St.fin (x : St) : Nat :=
  (St.rounds 4 ⟨x.p, x.q, x.r ^^^ 255, x.s⟩).p ^^^ (St.rounds 4 ⟨x.p, x.q, x.r ^^^ 255, x.s⟩).q ^^^ (St.rounds 4 ⟨x.p, x.q, x.r ^^^ 255, x.s⟩).r ^^^ (St.rounds 4 ⟨x.p, x.q, x.r ^^^ 255, x.s⟩).s
theorem St.fin_lt {x : St} (h : x.ok) : x.fin < 18446744073709551616 := by
  obtain ⟨h1, h2, h3, h4⟩ := h
  have hy := St.rounds_ok 4 (x := ⟨x.p, x.q, x.r ^^^ 255, x.s⟩) ⟨h1, h2, xor_lt _ _ h3 (by decide), h4⟩
  generalize hz : St.rounds 4 ⟨x.p, x.q, x.r ^^^ 255, x.s⟩ = z at hy
  unfold St.fin
  rw [hz]
  exact xor_lt _ _ (xor_lt _ _ (xor_lt _ _ hy.1 hy.2.1) hy.2.2.1) hy.2.2.2
/-- the number of bytes, the lowest first -/
def lowN : List UInt8 → Nat
  | [] => 0
  | b :: l => b.toNat + 256 * lowN l
theorem lowN_lt : ∀ (l : List UInt8), lowN l < 256 ^ l.length
  | [] => by simp [lowN]
  | b :: l => by
    have h := lowN_lt l
    have hb := b.toNat_lt
    rw [lowN, List.length_cons, Nat.pow_succ]
    omega
theorem lowN_lt64 (l : List UInt8) (h : l.length ≤ 8) : lowN l < 18446744073709551616 :=
  Nat.lt_of_lt_of_le (lowN_lt l) (Nat.pow_le_pow_right (n := 256) (by decide) h)
theorem lowN_lt56 (l : List UInt8) (h : l.length ≤ 7) : lowN l < 72057594037927936 :=
  Nat.lt_of_lt_of_le (lowN_lt l) (Nat.pow_le_pow_right (n := 256) (by decide) h)
theorem lowN_snoc : ∀ (l : List UInt8) (b : UInt8), lowN (l ++ [b]) = b.toNat * 256 ^ l.length + lowN l
  | [], b => by simp [lowN]
  | c :: l, b => by
    have h := lowN_snoc l b
    rw [List.cons_append, lowN, h, lowN, List.length_cons, Nat.pow_succ, ← Nat.mul_assoc]
    omega
theorem lowN_take (l : List UInt8) (k : Nat) (h : k < l.length) : lowN (l.take (k + 1)) = l[k].toNat * 256 ^ k + lowN (l.take k) := by
  rw [List.take_succ_eq_append_getElem h, lowN_snoc, List.length_take, Nat.min_eq_left (by omega)]
theorem lowN_drop (l : List UInt8) (k : Nat) (h : k < l.length) : lowN (l.drop k) = lowN (l.drop (k + 1)) * 256 + l[k].toNat := by
  rw [List.drop_eq_getElem_cons h, lowN]
  omega
theorem lowN_zero (l : List UInt8) : lowN (l ++ [0]) = lowN l := by rw [lowN_snoc]; simp
/-- where a seed begins -/
def St.start (l : List UInt8) : St :=
  ⟨lowN (l.take 8) ^^^ 8317987319222330741, lowN (l.drop 8) ^^^ 7237128888997146477, lowN (l.take 8) ^^^ 7816392313619706465, lowN (l.drop 8) ^^^ 8387220255154660723⟩
theorem St.start_ok {l : List UInt8} (h : l.length = 16) : (St.start l).ok := by
  have h1 := lowN_lt64 (l.take 8) (by rw [List.length_take]; omega)
  have h2 := lowN_lt64 (l.drop 8) (by rw [List.length_drop]; omega)
  exact ⟨xor_lt _ _ h1 (by decide), xor_lt _ _ h2 (by decide), xor_lt _ _ h1 (by decide), xor_lt _ _ h2 (by decide)⟩
/-- the number of the eight bytes from 8 j on -/
def part (key : List UInt8) (j : Nat) : Nat := lowN ((key.drop (8 * j)).take 8)
theorem part_lt (key : List UInt8) (j : Nat) : part key j < 18446744073709551616 := lowN_lt64 _ (by rw [List.length_take]; omega)
/-- the last number -/
def lastN (key : List UInt8) : Nat := lowN (key.drop (8 * (key.length / 8))) + key.length % 256 * 72057594037927936
theorem last_small (key : List UInt8) : lowN (key.drop (8 * (key.length / 8))) < 72057594037927936 := lowN_lt56 _ (by rw [List.length_drop]; omega)
theorem lastN_lt (key : List UInt8) : lastN key < 18446744073709551616 := by
  have h := last_small key
  unfold lastN
  omega
/-- the state behind j numbers of the key -/
def St.mid (x : St) (key : List UInt8) : Nat → St
  | 0 => x
  | j + 1 => (St.mid x key j).take (part key j)
theorem St.mid_ok {x : St} (h : x.ok) (key : List UInt8) : ∀ j, (St.mid x key j).ok
  | 0 => h
  | j + 1 => St.take_ok (St.mid_ok h key j) (part_lt key j)
/-- the hash -/
def hashN (seed key : List UInt8) : Nat := ((St.mid (St.start seed) key (key.length / 8)).take (lastN key)).fin
theorem hash_awake : hashN [0, 1, 2, 3, 4, 5, 6, 7, 8, 9, 10, 11, 12, 13, 14, 15] [0, 1, 2, 3, 4, 5, 6, 7, 8, 9, 10, 11, 12, 13, 14] = 11613035633349379557 := by decide +kernel
/-! halves -/
theorem plus_hi (a b : Nat) : (a / 4294967296 + b / 4294967296 + (a % 4294967296 + b % 4294967296) / 4294967296) % 4294967296 = addN a b / 4294967296 := by unfold addN; omega
theorem plus_lo (a b : Nat) : (a % 4294967296 + b % 4294967296) % 4294967296 = addN a b % 4294967296 := by unfold addN; omega
theorem xor_hi (a b : Nat) : (a / 4294967296) ^^^ (b / 4294967296) = (a ^^^ b) / 4294967296 := (Nat.xor_div_two_pow (n := 32)).symm
theorem xor_lo (a b : Nat) : (a % 4294967296) ^^^ (b % 4294967296) = (a ^^^ b) % 4294967296 := (Nat.xor_mod_two_pow (n := 32)).symm
theorem four (a K L : Nat) (hK : 0 < K) : ∃ u v s t : Nat, v < K ∧ t < K ∧ a / L = u * K + v ∧ a % L = s * K + t :=
  ⟨a / L / K, a / L % K, a % L / K, a % L % K, Nat.mod_lt _ hK, Nat.mod_lt _ hK, (Nat.div_add_mod' _ _).symm, (Nat.div_add_mod' _ _).symm⟩
theorem shift (u v K p L : Nat) (hL : K * p = L) (hv : v < K) (hp : 0 < p) : (u * K + v) * p % L = v * p ∧ (u * K + v) * p / L = u := by
  have e : (u * K + v) * p = v * p + L * u := by rw [Nat.add_mul, Nat.mul_assoc, hL, Nat.mul_comm u L, Nat.add_comm]
  have h : v * p < L := by rw [← hL]; exact Nat.mul_lt_mul_of_pos_right hv hp
  rw [e, Nat.add_mul_mod_self_left, Nat.add_mul_div_left _ _ (Nat.zero_lt_of_lt h), Nat.mod_eq_of_lt h, Nat.div_eq_of_lt h, Nat.zero_add]
  exact ⟨rfl, rfl⟩
theorem half13 (a : Nat) (ha : a < 18446744073709551616) : a / 4294967296 * 8192 % 4294967296 + a % 4294967296 * 8192 / 4294967296 = turnN a 13 / 4294967296 ∧ a % 4294967296 * 8192 % 4294967296 + a / 4294967296 * 8192 / 4294967296 = turnN a 13 % 4294967296 := by
  rw [turn13 a ha]
  obtain ⟨u, v, s, t, hv, ht, h1, h2⟩ := four a 524288 4294967296 (by decide)
  have hu : u < 8192 := by omega
  have hs : s < 8192 := by omega
  have ea : a = u * 2251799813685248 + (v * 4294967296 + (s * 524288 + t)) := by omega
  rw [h1, h2]
  obtain ⟨e1, e4⟩ := shift u v 524288 8192 4294967296 (by decide) hv (by decide)
  obtain ⟨e3, e2⟩ := shift s t 524288 8192 4294967296 (by decide) ht (by decide)
  have hR : v * 4294967296 + (s * 524288 + t) < 2251799813685248 := by omega
  obtain ⟨e6, _⟩ := shift u (v * 4294967296 + (s * 524288 + t)) 2251799813685248 8192 18446744073709551616 (by decide) hR (by decide)
  rw [← ea] at e6
  have e5 : a / 2251799813685248 = u := by rw [ea, Nat.mul_comm, Nat.mul_add_div (by decide), Nat.div_eq_of_lt hR, Nat.add_zero]
  rw [e1, e2, e3, e4, e5, e6]
  clear e1 e2 e3 e4 e5 e6 ea h1 h2 ha
  constructor <;> omega
theorem half16 (a : Nat) (ha : a < 18446744073709551616) : a / 4294967296 * 65536 % 4294967296 + a % 4294967296 * 65536 / 4294967296 = turnN a 16 / 4294967296 ∧ a % 4294967296 * 65536 % 4294967296 + a / 4294967296 * 65536 / 4294967296 = turnN a 16 % 4294967296 := by
  rw [turn16 a ha]
  obtain ⟨u, v, s, t, hv, ht, h1, h2⟩ := four a 65536 4294967296 (by decide)
  have hu : u < 65536 := by omega
  have hs : s < 65536 := by omega
  have ea : a = u * 281474976710656 + (v * 4294967296 + (s * 65536 + t)) := by omega
  rw [h1, h2]
  obtain ⟨e1, e4⟩ := shift u v 65536 65536 4294967296 (by decide) hv (by decide)
  obtain ⟨e3, e2⟩ := shift s t 65536 65536 4294967296 (by decide) ht (by decide)
  have hR : v * 4294967296 + (s * 65536 + t) < 281474976710656 := by omega
  obtain ⟨e6, _⟩ := shift u (v * 4294967296 + (s * 65536 + t)) 281474976710656 65536 18446744073709551616 (by decide) hR (by decide)
  rw [← ea] at e6
  have e5 : a / 281474976710656 = u := by rw [ea, Nat.mul_comm, Nat.mul_add_div (by decide), Nat.div_eq_of_lt hR, Nat.add_zero]
  rw [e1, e2, e3, e4, e5, e6]
  clear e1 e2 e3 e4 e5 e6 ea h1 h2 ha
  constructor <;> omega
theorem half17 (a : Nat) (ha : a < 18446744073709551616) : a / 4294967296 * 131072 % 4294967296 + a % 4294967296 * 131072 / 4294967296 = turnN a 17 / 4294967296 ∧ a % 4294967296 * 131072 % 4294967296 + a / 4294967296 * 131072 / 4294967296 = turnN a 17 % 4294967296 := by
  rw [turn17 a ha]
  obtain ⟨u, v, s, t, hv, ht, h1, h2⟩ := four a 32768 4294967296 (by decide)
  have hu : u < 131072 := by omega
  have hs : s < 131072 := by omega
  have ea : a = u * 140737488355328 + (v * 4294967296 + (s * 32768 + t)) := by omega
  rw [h1, h2]
  obtain ⟨e1, e4⟩ := shift u v 32768 131072 4294967296 (by decide) hv (by decide)
  obtain ⟨e3, e2⟩ := shift s t 32768 131072 4294967296 (by decide) ht (by decide)
  have hR : v * 4294967296 + (s * 32768 + t) < 140737488355328 := by omega
  obtain ⟨e6, _⟩ := shift u (v * 4294967296 + (s * 32768 + t)) 140737488355328 131072 18446744073709551616 (by decide) hR (by decide)
  rw [← ea] at e6
  have e5 : a / 140737488355328 = u := by rw [ea, Nat.mul_comm, Nat.mul_add_div (by decide), Nat.div_eq_of_lt hR, Nat.add_zero]
  rw [e1, e2, e3, e4, e5, e6]
  clear e1 e2 e3 e4 e5 e6 ea h1 h2 ha
  constructor <;> omega
theorem half21 (a : Nat) (ha : a < 18446744073709551616) : a / 4294967296 * 2097152 % 4294967296 + a % 4294967296 * 2097152 / 4294967296 = turnN a 21 / 4294967296 ∧ a % 4294967296 * 2097152 % 4294967296 + a / 4294967296 * 2097152 / 4294967296 = turnN a 21 % 4294967296 := by
  rw [turn21 a ha]
  obtain ⟨u, v, s, t, hv, ht, h1, h2⟩ := four a 2048 4294967296 (by decide)
  have hu : u < 2097152 := by omega
  have hs : s < 2097152 := by omega
  have ea : a = u * 8796093022208 + (v * 4294967296 + (s * 2048 + t)) := by omega
  rw [h1, h2]
  obtain ⟨e1, e4⟩ := shift u v 2048 2097152 4294967296 (by decide) hv (by decide)
  obtain ⟨e3, e2⟩ := shift s t 2048 2097152 4294967296 (by decide) ht (by decide)
  have hR : v * 4294967296 + (s * 2048 + t) < 8796093022208 := by omega
  obtain ⟨e6, _⟩ := shift u (v * 4294967296 + (s * 2048 + t)) 8796093022208 2097152 18446744073709551616 (by decide) hR (by decide)
  rw [← ea] at e6
  have e5 : a / 8796093022208 = u := by rw [ea, Nat.mul_comm, Nat.mul_add_div (by decide), Nat.div_eq_of_lt hR, Nat.add_zero]
  rw [e1, e2, e3, e4, e5, e6]
  clear e1 e2 e3 e4 e5 e6 ea h1 h2 ha
  constructor <;> omega
theorem turn_half (a k : Nat) (ha : a < 18446744073709551616) (hk : k = 13 ∨ k = 16 ∨ k = 17 ∨ k = 21) :
    a / 4294967296 * 2 ^ k % 4294967296 + a % 4294967296 * 2 ^ k / 4294967296 = turnN a k / 4294967296 ∧ a % 4294967296 * 2 ^ k % 4294967296 + a / 4294967296 * 2 ^ k / 4294967296 = turnN a k % 4294967296 := by
  rcases hk with rfl | rfl | rfl | rfl
  · exact half13 a ha
  · exact half16 a ha
  · exact half17 a ha
  · exact half21 a ha
theorem swap_hi (a : Nat) (ha : a < 18446744073709551616) : turnN a 32 / 4294967296 = a % 4294967296 := by rw [turn32 a ha]; omega
theorem swap_lo (a : Nat) (ha : a < 18446744073709551616) : turnN a 32 % 4294967296 = a / 4294967296 := by rw [turn32 a ha]; omega
/-! the bytes of a number, the lowest first -/
def le (m : Nat) : Nat → List UInt8
  | 0 => []
  | j + 1 => le m j ++ [UInt8.ofNat (m / 256 ^ j)]
theorem le_length (m k : Nat) : (le m k).length = k := by
  induction k with
  | zero => rfl
  | succ k ih => simp [le, ih]
theorem lowN_le (m k : Nat) : lowN (le m k) = m % 256 ^ k := by
  induction k with
  | zero => simp [le, lowN, Nat.mod_one]
  | succ k ih =>
    rw [le, lowN_snoc, ih, le_length, UInt8.toNat_ofNat']
    have e := Nat.mod_mul (a := 256 ^ k) (b := 256) (x := m)
    have e2 : (256 : Nat) ^ (k + 1) = 256 ^ k * 256 := Nat.pow_succ ..
    have e3 : m / 256 ^ k % 2 ^ 8 = m / 256 ^ k % 256 := rfl
    rw [e2, e, e3, Nat.mul_comm, Nat.add_comm]
/-- the key of whole numbers -/
def keyOf : List Nat → List UInt8
  | [] => []
  | m :: l => le m 8 ++ keyOf l
theorem keyOf_length : ∀ l, (keyOf l).length = 8 * l.length
  | [] => rfl
  | m :: l => by rw [keyOf, List.length_append, le_length, keyOf_length l, List.length_cons]; omega
theorem keyOf_snoc : ∀ (l : List Nat) (m : Nat), keyOf (l ++ [m]) = keyOf l ++ le m 8
  | [], m => by simp [keyOf]
  | a :: l, m => by rw [List.cons_append, keyOf, keyOf_snoc l m, keyOf, List.append_assoc]
theorem part_keyOf : ∀ (l : List Nat) (j : Nat) (h : j < l.length), l[j] < 18446744073709551616 → part (keyOf l) j = l[j]
  | m :: l, 0, _, hm => by
    have e : (le m 8 ++ keyOf l).take 8 = le m 8 := by rw [List.take_append_of_le_length (by rw [le_length]; omega), List.take_of_length_le (by rw [le_length]; omega)]
    simp only [part, keyOf, Nat.mul_zero, List.drop_zero, e, lowN_le, List.getElem_cons_zero]
    simp only [List.getElem_cons_zero] at hm
    exact Nat.mod_eq_of_lt hm
  | m :: l, j + 1, h, hm => by
    have ih := part_keyOf l j (by simpa using h) (by simpa using hm)
    have e : (le m 8 ++ keyOf l).drop (8 * (j + 1)) = (keyOf l).drop (8 * j) := by
      rw [List.drop_append, le_length, List.drop_of_length_le (by rw [le_length]; omega), List.nil_append]
      congr 1
    simp only [part, keyOf, e, List.getElem_cons_succ]
    exact ih
theorem lastN_keyOf (l : List Nat) : lastN (keyOf l) = 8 * l.length % 256 * 72057594037927936 := by
  have h := keyOf_length l
  unfold lastN
  rw [h, List.drop_of_length_le (by omega)]
  simp [lowN]
def St.takes (x : St) (l : List Nat) : St := l.foldl St.take x
theorem St.takes_nil (x : St) : x.takes [] = x := by rw [St.takes, List.foldl_nil]
theorem St.takes_snoc (l : List Nat) (x : St) (m : Nat) : x.takes (l ++ [m]) = (x.takes l).take m := by
  rw [St.takes, List.foldl_append, List.foldl_cons, List.foldl_nil, St.takes]
theorem mid_keyOf (x : St) (l : List Nat) (hl : ∀ m ∈ l, m < 18446744073709551616) : ∀ j, j ≤ l.length → St.mid x (keyOf l) j = x.takes (l.take j)
  | 0, _ => by rw [List.take_zero, St.takes_nil, St.mid]
  | j + 1, h => by
    rw [List.take_succ_eq_append_getElem (by omega), St.takes_snoc, St.mid, mid_keyOf x l hl j (by omega), part_keyOf l j (by omega) (hl _ (List.getElem_mem _))]
theorem hash_keyOf (seed : List UInt8) (l : List Nat) (hl : ∀ m ∈ l, m < 18446744073709551616) :
    hashN seed (keyOf l) = (((St.start seed).takes l).take (8 * l.length % 256 * 72057594037927936)).fin := by
  unfold hashN
  rw [lastN_keyOf, keyOf_length, Nat.mul_div_cancel_left _ (by decide), mid_keyOf _ l hl _ (Nat.le_refl _), List.take_length]
theorem takes_ok (l : List Nat) {x : St} (h : x.ok) (hl : ∀ m ∈ l, m < 18446744073709551616) : (x.takes l).ok := by
  induction l generalizing x with
  | nil => rw [St.takes_nil]; exact h
  | cons m l ih =>
    rw [St.takes, List.foldl_cons]
    exact ih (St.take_ok h (hl m (by simp))) (fun a ha => hl a (by simp [ha]))
/-! what the key's numbers come to, taken one by one -/
def nums (key : List UInt8) (j : Nat) : List Nat := (List.range j).map (part key)
theorem nums_snoc (key : List UInt8) (j : Nat) : nums key (j + 1) = nums key j ++ [part key j] := by simp [nums, List.range_succ]
theorem mid_nums (x : St) (key : List UInt8) : ∀ j, St.mid x key j = x.takes (nums key j)
  | 0 => by rw [nums, List.range_zero, List.map_nil, St.takes_nil, St.mid]
  | j + 1 => by rw [nums_snoc, St.takes_snoc, St.mid, mid_nums x key j]
/-- all numbers of a key -/
def allN (key : List UInt8) : List Nat := nums key (key.length / 8) ++ [lastN key]
theorem hash_all (seed key : List UInt8) : hashN seed key = ((St.start seed).takes (allN key)).fin := by
  unfold hashN allN
  rw [St.takes_snoc, mid_nums]
theorem allN_lt (key : List UInt8) : ∀ m ∈ allN key, m < 18446744073709551616 := by
  intro m hm
  simp only [allN, nums, List.mem_append, List.mem_map, List.mem_singleton] at hm
  rcases hm with ⟨j, _, rfl⟩ | rfl
  · exact part_lt key j
  · exact lastN_lt key
/-! what the walk's words come to -/
theorem bits_xor (a b : Nat) (ha : a < 18446744073709551616) (hb : b < 18446744073709551616) : bits .xor .u64 (a : Int) (b : Int) = ((a ^^^ b : Nat) : Int) := u64_xor_nat a b ha hb
theorem wrap_add (a b : Nat) : IntKind.u64.wrap ((a : Int) + (b : Int)) = ((addN a b : Nat) : Int) := by
  rw [IntKind.wrap_u64]; unfold addN; omega
/-- one step of Low -/
theorem low_step (a b i : Nat) (ha : a < 256 ^ i) (hb : b < 256) (hi : i < 8) :
    bits .or .u64 (a : Int) (IntKind.u64.wrap ((b : Int) * 2 ^ (8 * i))) = ((b * 256 ^ i + a : Nat) : Int) := by
  have e0 : (256 : Nat) ^ i = 2 ^ (8 * i) := by rw [show (256 : Nat) = 2 ^ 8 from rfl, ← Nat.pow_mul]
  have e1 : ((b : Int) * 2 ^ (8 * i)) = ((b * 2 ^ (8 * i) : Nat) : Int) := by simp
  have h8 : (2 : Nat) ^ (8 * i) * 256 ≤ 18446744073709551616 := by
    rw [show (256 : Nat) = 2 ^ 8 from rfl, ← Nat.pow_add]
    exact Nat.pow_le_pow_right (n := 2) (i := 8 * i + 8) (j := 64) (by decide) (by omega)
  rw [e0] at ha ⊢
  have hb2 : (b + 1) * 2 ^ (8 * i) ≤ 256 * 2 ^ (8 * i) := Nat.mul_le_mul_right _ hb
  rw [Nat.add_mul, Nat.one_mul] at hb2
  have hlt : b * 2 ^ (8 * i) + a < 18446744073709551616 := by omega
  rw [e1, IntKind.wrap_u64]
  have e2 : ((b * 2 ^ (8 * i) : Nat) : Int) % 18446744073709551616 = ((b * 2 ^ (8 * i) : Nat) : Int) := by omega
  rw [e2, u64_or_nat _ _ (by omega) (by omega), Nat.or_comm]
  have := Nat.two_pow_add_eq_or_of_lt (i := 8 * i) (b := a) ha b
  rw [Nat.mul_comm b]; rw [this]
/-- the last number: what is left, and the length -/
theorem last_bits (a n : Nat) (ha : a < 72057594037927936) (hn : n < 256) :
    bits .or .u64 (a : Int) (IntKind.u64.wrap ((n : Int) * 72057594037927936)) = ((a + n * 72057594037927936 : Nat) : Int) := by
  have e1 : ((n : Int) * 72057594037927936) = ((n * 72057594037927936 : Nat) : Int) := by simp
  rw [e1, IntKind.wrap_u64]
  have e2 : ((n * 72057594037927936 : Nat) : Int) % 18446744073709551616 = ((n * 72057594037927936 : Nat) : Int) := by omega
  rw [e2, u64_or_nat _ _ (by omega) (by omega), Nat.or_comm]
  have := Nat.two_pow_add_eq_or_of_lt (i := 56) (b := a) ha n
  have e3 : n * 72057594037927936 = 2 ^ 56 * n := by omega
  rw [e3, ← this, Nat.add_comm]
end Go.Proofs.Ytmkibkeacbhhaaa
