/-
  Arithmetic of layer 9: how many bits a number has (bl), numbers of digits to the base 65536 (val), the bound (bnd). No program in this text.
-/
import Derived.Lib.BitFns
import Derived.Test.YtmbdimonfdncpaaGreatDoorWalks
import Derived.Maps.AppendAt
namespace Go.Proofs.YtmbdimonfdncpaaGreatDoor.Dg
/-- how many bits a number has -/
def bl (n : Nat) : Nat := if n = 0 then 0 else n.log2 + 1
theorem bl_le (n k : Nat) : bl n ≤ k ↔ n < 2 ^ k := by
  unfold bl
  by_cases h : n = 0
  · subst h
    simp [Nat.two_pow_pos]
  · rw [if_neg h, ← Nat.log2_lt h]
    exact Nat.succ_le_iff
theorem bl_mono {a b : Nat} (h : a ≤ b) : bl a ≤ bl b := by
  rw [bl_le]
  exact Nat.lt_of_le_of_lt h ((bl_le b _).1 (Nat.le_refl _))
theorem bl_pos {n : Nat} (h : n ≠ 0) : 1 ≤ bl n := by
  unfold bl
  rw [if_neg h]
  omega
theorem bl_zero : bl 0 = 0 := rfl
/-- the high digits alone tell it -/
theorem bl_shift (h l s : Nat) (h0 : h ≠ 0) (hl : l < 2 ^ s) : bl (l + h * 2 ^ s) = s + bl h := by
  have hp : 0 < 2 ^ s := Nat.two_pow_pos s
  apply Nat.le_antisymm
  · rw [bl_le, Nat.pow_add, Nat.mul_comm (2 ^ s)]
    have h1 : h < 2 ^ bl h := (bl_le h _).1 (Nat.le_refl _)
    have h2 : (h + 1) * 2 ^ s ≤ 2 ^ bl h * 2 ^ s := Nat.mul_le_mul_right _ h1
    rw [Nat.add_mul] at h2
    omega
  · apply Nat.le_of_not_lt
    intro hlt
    have hb := bl_pos h0
    have h1 : bl (l + h * 2 ^ s) ≤ s + (bl h - 1) := by omega
    rw [bl_le, Nat.pow_add, Nat.mul_comm (2 ^ s)] at h1
    have h2 : h * 2 ^ s < 2 ^ (bl h - 1) * 2 ^ s := by omega
    have h3 : h < 2 ^ (bl h - 1) := Nat.lt_of_mul_lt_mul_right h2
    rw [← bl_le] at h3
    omega
theorem bl_half (n : Nat) (h : n ≠ 0) : bl n = 1 + bl (n / 2) := by
  by_cases h2 : n / 2 = 0
  · have e : n = 1 := by omega
    subst e
    decide
  · have e := bl_shift (n / 2) (n % 2) 1 h2 (by omega)
    rw [show n % 2 + n / 2 * 2 ^ 1 = n by omega] at e
    exact e
theorem aux_bl : ∀ f n : Nat, n < 2 ^ f → Lib.bitLenAux f n = bl n
  | 0, n, h => by
    have : n = 0 := by simpa using h
    subst this
    rfl
  | f + 1, n, h => by
    rw [Lib.bitLenAux]
    by_cases h0 : n = 0
    · rw [if_pos h0, h0]; rfl
    · rw [if_neg h0, bl_half n h0, aux_bl f (n / 2) (by rw [Nat.pow_succ] at h; omega)]
theorem bitLen_bl (n : Nat) (h : n < 18446744073709551616) : Lib.bitLen n = bl n := aux_bl 64 n h
/-- a number of digits, the lowest first -/
def val : List Nat → Nat
  | [] => 0
  | d :: t => d + 65536 * val t
theorem val_snoc : ∀ (l : List Nat) (d : Nat), val (l ++ [d]) = val l + d * 65536 ^ l.length
  | [], d => by simp [val]
  | a :: l, d => by
    rw [List.cons_append, val, val, val_snoc l d, List.length_cons, Nat.pow_succ, Nat.mul_add, Nat.mul_left_comm, Nat.mul_comm 65536 (65536 ^ _)]
    omega
theorem val_lt : ∀ l : List Nat, (∀ d ∈ l, d < 65536) → val l < 65536 ^ l.length
  | [], _ => by simp [val]
  | a :: l, h => by
    have h1 := h a (by simp)
    have h2 := val_lt l (fun d hd => h d (by simp [hd]))
    rw [val, List.length_cons, Nat.pow_succ]
    omega
theorem take_next {l : List Nat} {j : Nat} (h : j < l.length) : val (l.take (j + 1)) = val (l.take j) + l[j] * 65536 ^ j := by
  rw [List.take_succ_eq_append_getElem h, val_snoc, List.length_take, Nat.min_eq_left (by omega)]
theorem times_in (D : List Nat) (c P v n x : Nat) (h : val D + c * P = v * n) : val D + (c + x * n) * P = (v + x * P) * n := by
  rw [Nat.add_mul, Nat.add_mul, ← h, Nat.mul_right_comm x n P]
  omega
theorem times_out (D : List Nat) (c j : Nat) (h : D.length = j) : val (D ++ [c % 65536]) + c / 65536 * 65536 ^ (j + 1) = val D + c * 65536 ^ j := by
  rw [val_snoc, h, Nat.pow_succ]
  have e : c = c % 65536 + c / 65536 * 65536 := by omega
  have e2 : c * 65536 ^ j = c % 65536 * 65536 ^ j + c / 65536 * (65536 ^ j * 65536) := by
    rw [Nat.mul_comm (65536 ^ j) 65536, ← Nat.mul_assoc, ← Nat.add_mul, ← e]
  omega
theorem pow_digits (i : Nat) : 65536 ^ i = 2 ^ (16 * i) := by
  rw [Nat.pow_mul]
theorem bl_top {l : List Nat} {i : Nat} (h : i < l.length) (hd : ∀ d ∈ l, d < 65536) (h0 : l[i] ≠ 0) : bl (val (l.take (i + 1))) = 16 * i + bl l[i] := by
  rw [take_next h, pow_digits]
  refine bl_shift _ _ _ h0 ?_
  have hv := val_lt (l.take i) (fun d hm => hd d (List.mem_of_mem_take hm))
  rw [List.length_take, Nat.min_eq_left (by omega), pow_digits] at hv
  exact hv
theorem val_none {l : List Nat} {i : Nat} (h : i < l.length) (h0 : l[i] = 0) : val (l.take (i + 1)) = val (l.take i) := by
  rw [take_next h, h0]
  omega
/-- a number of keys, held -/
def held (z : Int) : Nat := (max 0 (min z 1048576)).toNat
/-- the bound -/
def bnd (z : Int) : Nat := 16 + bl ((held z + 1) ^ 6)
theorem held_le (z : Int) : held z ≤ 1048576 := by unfold held; omega
theorem held_mono {a b : Int} (h : a ≤ b) : held a ≤ held b := by unfold held; omega
theorem held_held (z : Int) : held (held z : Int) = held z := by unfold held; omega
theorem bnd_held (z : Int) : bnd (held z : Int) = bnd z := by unfold bnd; rw [held_held]
theorem bnd_mono {a b : Int} (h : a ≤ b) : bnd a ≤ bnd b := by
  unfold bnd
  have h1 : (held a + 1) ^ 6 ≤ (held b + 1) ^ 6 := Nat.pow_le_pow_left (Nat.succ_le_succ (held_mono h)) 6
  have := bl_mono h1
  omega
theorem six_lt {x : Nat} (h : x ≤ 1048577) : x ^ 6 < 2 ^ 126 := by
  have h1 : x ^ 6 ≤ (2 ^ 21) ^ 6 := Nat.pow_le_pow_left (Nat.le_trans h (by decide)) 6
  rw [← Nat.pow_mul] at h1
  have h2 : x ^ 6 ≤ 1048577 ^ 6 := Nat.pow_le_pow_left h 6
  exact Nat.lt_of_le_of_lt h2 (by decide)
theorem six_pos {x : Nat} (h : 1 ≤ x) : x ^ 6 ≠ 0 := by
  have := Nat.pow_le_pow_left h 6
  rw [Nat.one_pow] at this
  omega
theorem bl_six {x : Nat} (h1 : 1 ≤ x) (h : x ≤ 1048577) : 1 ≤ bl (x ^ 6) ∧ bl (x ^ 6) ≤ 126 :=
  ⟨bl_pos (six_pos h1), (bl_le _ _).2 (six_lt h)⟩
theorem bnd_lt (z : Int) : 17 ≤ bnd z ∧ bnd z ≤ 142 := by
  have h := bl_six (x := held z + 1) (by omega) (by have := held_le z; omega)
  unfold bnd
  omega
theorem cube_six (x : Nat) : x * x * x * (x * x * x) = x ^ 6 := by
  rw [show x ^ 6 = x ^ 3 * x ^ 3 from (Nat.pow_add x 3 3), show x ^ 3 = x * x * x by rw [Nat.pow_succ, Nat.pow_succ, Nat.pow_one]]
theorem cube_lt {x : Nat} (h : x ≤ 1048577) : x * x < 18446744073709551616 ∧ x * x * x < 18446744073709551616 := by
  have h1 : x * x ≤ 1048577 * 1048577 := Nat.mul_le_mul h h
  have h2 : x * x * x ≤ 1048577 * 1048577 * 1048577 := Nat.mul_le_mul h1 h
  exact ⟨by omega, by omega⟩
/-- the bits of a product out of its halves -/
theorem bl_parts (p : Nat) (h : p / 18446744073709551616 ≠ 0) : bl p = 64 + bl (p / 18446744073709551616) := by
  have e := bl_shift (p / 18446744073709551616) (p % 18446744073709551616) 64 h (Nat.mod_lt _ (by decide))
  rw [show p % 18446744073709551616 + p / 18446744073709551616 * 2 ^ 64 = p by
    have := Nat.mod_add_div p 18446744073709551616
    rw [Nat.mul_comm] at this
    exact this] at e
  exact e
theorem bl_low (p : Nat) (h : p / 18446744073709551616 = 0) : bl p = bl (p % 18446744073709551616) := by
  have e : p % 18446744073709551616 = p := by omega
  rw [e]
theorem bnd_0 : bnd 0 = 17 := by decide
theorem bnd_1 : bnd 1 = 23 := by decide
theorem bnd_3 : bnd 3 = 29 := by decide
end Go.Proofs.YtmbdimonfdncpaaGreatDoor.Dg
/-
  Rows of digits that a call owns; contracts of the reference's times, length, Bound, Held.
-/
namespace Go.Proofs.YtmbdimonfdncpaaGreatDoor.Dg
open Go.RowKit
set_option maxHeartbeats 400000
set_option maxRecDepth 100000
theorem Tryz.info3 : (Tryz.prog.info? 3).map (fun i => (i.zero, i.size, i.bytes)) = some (some (.int .i64 0), 1, 8) := by kernel_rfl
theorem grown_then {w a b : World} {r : Option Nat} (h : w.grownBy a none) (k : a.grownBy b r) : w.grownBy b r :=
  ⟨k.os.trans h.os, k.tape.trans h.tape, k.output.trans h.output, Nat.le_trans h.size k.size, fun i hi hr => (k.block i (Nat.lt_of_lt_of_le hi h.size) hr).trans (h.block i hi (by simp))⟩
/-- append of one number that was laid into a block of its own just ahead -/
theorem list_app1 {B : Nat} {w : World} {ops : Array Oper} {rest : List Oper} {o : Oper} {a : Act} {Q : Exit → Act → World → Prop} (t e : TypeId) (z : Value) (bytes : Nat) (hu : Tryz.prog.underlying t = some (.slice e)) (hinf : (Tryz.prog.info? e).map (fun i => (i.zero, i.size, i.bytes)) = some (some z, 1, bytes)) (hz : z.cells.size = 1) (hby : bytes ≤ 100)
    (hgd : o.guard = none) (s x : Operand) (ho : o.op = .call { callee := .builtin .append, args := #[s, x], argTypes := #[t, t] }) (v : Value) (n : Nat) (xs : List Value) (h : w.ownsRow B e 1 v n xs) (x1 : Value) (h1 : x1.oneCell' = true) (hs : a.eval s = v) (hx : a.eval x = .slice (some ⟨w.heap.size, 0, none⟩) 1 1) (hn : n ≤ 1000) (hB : B ≤ w.heap.size)
    (hK : ∀ v' w', w'.ownsRow B e 1 v' (n + 1) (xs ++ [x1]) → w.grownBy w' v.ownBlock → wpList Tryz.prog ops Q rest (a.put o.dst v') w') : wpList Tryz.prog ops Q (o :: rest) a (w.alloc (.cells #[x1] e)) := by
  obtain ⟨i0, hi, hz0, hz1, hz2⟩ := info_parts hinf
  have hnew : (w.alloc (.cells #[x1] e)).heap[w.heap.size]? = some (.cells #[x1] e (0, 0)) := heap_alloc_new w _
  obtain ⟨v', w', hr, hown, hg, _⟩ := run_append_own (P := Tryz.prog) (w.alloc (.cells #[x1] e)) B t o.type e i0 z 1 bytes hu hi hz0 hz1 hz2 hz (by decide) v n xs (World.ownsRow.alloc h _) ⟨w.heap.size, 0, none⟩ 1 1 [x1] rfl
    (by
      intro j u hj
      rw [Go.WideShapes.add_plain, Nat.zero_add, cell_of_row _ w.heap.size j _ e (0, 0) hnew, ← hj]
      simp)
    (by
      intro u hu
      rcases List.mem_cons.1 hu with rfl | hu
      · exact h1
      · cases hu)
    (by unfold maxLen; omega) (by have := Nat.mul_le_mul (show n + 1 ≤ 1001 by omega) hby; omega) (by simp; omega)
  have hg2 : w.grownBy w' v.ownBlock := grown_then (World.grownBy_alloc w _ none) hg
  refine wpList_plain hgd fun _ hk => ?_
  unfold Oper.wp execOp
  simp only [ho, resolve, invoke, builtin, Sem.run_bind, Sem.run_pure, Result.andThen_ok, List.map_toArray, List.map_cons, List.map_nil, hs, hx, hr]
  exact hk _ _ (hK v' w' hown hg2)
/-- how a row reads -/
theorem row_reads {w : World} {B e n : Nat} {v : Value} {xs : List Value} (h : w.ownsRow B e 1 v n xs) : ∃ A c, v = .slice A n c ∧ n ≤ c ∧ (0 < n → ∃ g, A = some ⟨g, 0, none⟩ ∧ g < w.heap.size ∧ ∀ j, j < n → w.cell? ⟨g, j, none⟩ = xs[j]?) := by
  obtain ⟨hl, h⟩ := h
  rcases h with ⟨rfl, rfl⟩ | ⟨g, cap, cur, rfl, hb, hg, hc1, _, hsz, htk⟩
  · exact ⟨none, 0, rfl, Nat.le_refl _, fun h => by omega⟩
  · refine ⟨_, _, rfl, hc1, fun _ => ⟨g, rfl, (Array.getElem?_eq_some_iff.1 hg).1, fun j hj => ?_⟩⟩
    rw [cell_of_row w g j cur e (0, 0) hg, ← htk, List.getElem?_take_of_lt (by omega)]
    simp
/-- the slice at A reads as the digits L, in blocks that are there -/
def Digs (w : World) (A : Option Addr) (L : List Nat) : Prop :=
  L = [] ∨ ∃ b off, A = some ⟨b, off, none⟩ ∧ b < w.heap.size ∧ ∀ i (h : i < L.length), w.cell? ⟨b, off + i, none⟩ = some (.int .i64 (L[i] : Int))
theorem Digs.below {w w' : World} {A : Option Addr} {l : List Nat} (h : Digs w A l) (hb : Below w.heap.size w w') : Digs w' A l := by
  rcases h with h | ⟨b, off, rfl, hlt, hc⟩
  · exact .inl h
  · exact .inr ⟨b, off, rfl, Nat.lt_of_lt_of_le hlt hb.size, fun i hi => (hb.cell (p := ⟨b, off + i, none⟩) hlt).trans (hc i hi)⟩
theorem Digs.at_ {w : World} {A : Option Addr} {l : List Nat} (h : Digs w A l) (k : Nat) (hk : k < l.length) :
    ∃ b off, A = some ⟨b, off, none⟩ ∧ w.cell? ⟨b, off + k, none⟩ = some (.int .i64 (l[k] : Int)) := by
  rcases h with h | ⟨b, off, rfl, _, hc⟩
  · subst h; simp at hk
  · exact ⟨b, off, rfl, hc k hk⟩
def icells (l : List Nat) : List Value := l.map (fun (z : Nat) => Value.int .i64 (z : Int))
theorem icells_snoc (l : List Nat) (z : Nat) : icells (l ++ [z]) = icells l ++ [.int .i64 (z : Int)] := by simp [icells]
theorem digs_own {w : World} {B n : Nat} {v : Value} {l : List Nat} (h : w.ownsRow B 3 1 v n (icells l)) (hn : l.length = n) : ∃ A c, v = .slice A l.length c ∧ l.length ≤ c ∧ Digs w A l := by
  subst hn
  obtain ⟨A, c, rfl, hc, hr⟩ := row_reads h
  refine ⟨A, c, rfl, hc, ?_⟩
  rcases Nat.eq_zero_or_pos l.length with h0 | h0
  · exact .inl (List.eq_nil_of_length_eq_zero h0)
  · obtain ⟨g, rfl, hg, hcl⟩ := hr h0
    refine .inr ⟨g, 0, rfl, hg, fun i hi => ?_⟩
    rw [Nat.zero_add, hcl i hi]
    simp [icells, hi]
/-- how far the loop of times has come: j digits made, k to be carried -/
structure Far (L D : List Nat) (n j k : Nat) : Prop where
  len : D.length = j
  dig : ∀ d ∈ D, d < 65536
  eq : val D + k * 65536 ^ j = val (L.take j) * n
  in_ : j ≤ L.length → k < n
  one : j = L.length + 1 → k < 32
  two : j = L.length + 2 → k = 0
theorem Far.next {L D : List Nat} {n j k : Nat} (h : Far L D n j k) (hj : j < L.length) (x p c : Nat) (hx : x = L[j]) (hx2 : x < 65536) (hp : p = x * n) (hc : c = k + p) : Far L (D ++ [c % 65536]) n (j + 1) (c / 65536) := by
  have hk := h.in_ (by omega)
  have hp2 : p ≤ 65535 * n := by rw [hp]; exact Nat.mul_le_mul_right _ (by omega)
  refine ⟨by simp [h.len], ?_, ?_, fun _ => by omega, fun e => by omega, fun e => by omega⟩
  · intro d hd
    rcases List.mem_append.1 hd with g | g
    · exact h.dig d g
    · simp at g
      omega
  · rw [times_out D c j h.len, take_next hj, ← hx, hc, hp]
    exact times_in D k (65536 ^ j) (val (L.take j)) n x h.eq
theorem Far.past {L D : List Nat} {n j k : Nat} (h : Far L D n j k) (hn : n ≤ 1048577) (hj : L.length ≤ j) (hk : 0 < k) (hj2 : j ≤ L.length + 2) : Far L (D ++ [k % 65536]) n (j + 1) (k / 65536) := by
  have h0 := h.in_
  have h1 := h.one
  have h2 := h.two
  refine ⟨by simp [h.len], ?_, ?_, fun _ => by omega, fun e => by omega, fun e => by omega⟩
  · intro d hd
    rcases List.mem_append.1 hd with g | g
    · exact h.dig d g
    · simp at g
      omega
  · rw [times_out D k j h.len, h.eq, List.take_of_length_le hj, List.take_of_length_le (by omega)]
theorem times_any (L : List Nat) (A : Option Addr) (c : Nat) (n : Nat) (w : World) (hb : Digs w A L) (hL : L.length ≤ 100) (hd : ∀ d ∈ L, d < 65536) (h1 : 1 ≤ n) (hn : n ≤ 1048577) :
    Calls Tryz.prog 23 #[.slice A L.length c, .int .i64 (n : Int)] w fun e w' => (∃ (A' : Option Addr) (c' : Nat) (D : List Nat), e = .returned (.slice A' D.length c') ∧ D.length ≤ c' ∧ Digs w' A' D ∧ D.length ≤ L.length + 2 ∧ (∀ d ∈ D, d < 65536) ∧ val D = val L * n) ∧ Below w.heap.size w w' := by
  have HB := Lib.hid hb; clear hb
  have HD := Lib.hid hd; clear hd
  go_enter Tryz.func23, Tryz.ntmps23
  go_wp2_with fail
  go_loopw [5, 6, 7] (fun v cc i wr => ∃ (j k : Nat) (D : List Nat), i = .int .i64 j ∧ cc = .int .i64 k ∧ j ≤ L.length + 2 ∧ k < 1048577 ∧ Hid (Far L D n j k) ∧ Hid (Below w.heap.size w wr ∧ wr.ownsRow w.heap.size 3 1 v j (icells D))) (fun _ cc i _ => (L.length - (intOf i).toNat) * 4194304 + (intOf cc).toNat)
  case atStart => exact ⟨0, 0, [], rfl, rfl, by omega, by omega, ⟨rfl, by simp, by simp [val], fun _ => by omega, fun e => by omega, fun e => by omega⟩, Below.refl _ _, rfl, .inl ⟨rfl, rfl⟩⟩
  case round =>
    obtain ⟨j, k, D, rfl, rfl, hj, hk, hfar, hown⟩ := hrel
    by_cases hlt : j < L.length
    · obtain ⟨b, off, rfl, hcell⟩ := (HB.out.below hown.out.1).at_ j hlt
      have hx2 : L[j] < 65536 := HD.out _ (List.getElem_mem hlt)
      obtain ⟨x, hx⟩ : ∃ x, x = L[j] := ⟨_, rfl⟩
      rw [← hx] at hcell hx2
      obtain ⟨p, hp⟩ : ∃ p, p = x * n := ⟨_, rfl⟩
      have hpl : p ≤ 65535 * 1048577 := by rw [hp]; exact Nat.mul_le_mul (by omega) hn
      have m1 : (x : Int) * (n : Int) = (p : Int) := by rw [hp, Int.natCast_mul]
      obtain ⟨c2, hc2⟩ : ∃ c2, c2 = k + p := ⟨_, rfl⟩
      have HN : Hid (Far L (D ++ [c2 % 65536]) n (j + 1) (c2 / 65536)) := hfar.out.next hlt x p c2 hx hx2 hp hc2
      have m2 : (k : Int) + (p : Int) = (c2 : Int) := by omega
      have hcl : c2 < 100000000000 := by omega
      obtain ⟨d, hdd⟩ : ∃ d, d = c2 % 65536 := ⟨_, rfl⟩
      obtain ⟨q, hqq⟩ : ∃ q, q = c2 / 65536 := ⟨_, rfl⟩
      have m3 : (c2 : Int).tmod 65536 = (d : Int) := by rw [Int.tmod_eq_emod_of_nonneg (by omega)]; omega
      have m4 : (c2 : Int) % 65536 = (d : Int) := by omega
      have m5 : (c2 : Int).tdiv 65536 = (q : Int) := by rw [Int.tdiv_eq_ediv_of_nonneg (by omega)]; omega
      have m6 : (c2 : Int) / 65536 = (q : Int) := by omega
      rw [← hdd, ← hqq] at HN
      have hql : q < 1048577 := by
        have := HN.out.in_ (by omega)
        omega
      clear hx hp hc2 hdd hqq hfar
      go_wp2_with (at_builtin; refine list_app1 (B := w.heap.size) (w := wr) 41 3 _ 8 Tryz.underlying41 Tryz.info3 rfl (by decide) rfl (.tmp 30) (.tmp 33) rfl _ j _ hown.out.2 (.int .i64 (d : Int)) rfl rfl rfl (by omega) hown.out.1.size ?_; intro v1 w3 ho3 hg3)
      go_roundw
      case rel =>
        refine ⟨j + 1, q, D ++ [d], by go_num, rfl, by omega, hql, HN.out, hown.out.1.grown hg3 (by have := hown.out.1.size; omega) (fun q hq => by have := (hown.out.2.lt q hq).1; omega), ?_⟩
        rw [icells_snoc]
        exact ho3
      case measure => simp [intOf]; omega
    · by_cases hk0 : 0 < k
      · have HN : Hid (Far L (D ++ [k % 65536]) n (j + 1) (k / 65536)) := hfar.out.past hn (by omega) hk0 hj
        have hj1 : j + 1 ≤ L.length + 2 := by
          have := hfar.out.two
          omega
        obtain ⟨d, hdd⟩ : ∃ d, d = k % 65536 := ⟨_, rfl⟩
        obtain ⟨q, hqq⟩ : ∃ q, q = k / 65536 := ⟨_, rfl⟩
        have m3 : (k : Int).tmod 65536 = (d : Int) := by rw [Int.tmod_eq_emod_of_nonneg (by omega)]; omega
        have m4 : (k : Int) % 65536 = (d : Int) := by omega
        have m5 : (k : Int).tdiv 65536 = (q : Int) := by rw [Int.tdiv_eq_ediv_of_nonneg (by omega)]; omega
        have m6 : (k : Int) / 65536 = (q : Int) := by omega
        rw [← hdd, ← hqq] at HN
        have hql : q < k := by omega
        clear hdd hqq hfar HB
        go_wp2_with (at_builtin; refine list_app1 (B := w.heap.size) (w := wr) 41 3 _ 8 Tryz.underlying41 Tryz.info3 rfl (by decide) rfl (.tmp 30) (.tmp 33) rfl _ j _ hown.out.2 (.int .i64 (d : Int)) rfl rfl rfl (by omega) hown.out.1.size ?_; intro v1 w3 ho3 hg3)
        go_roundw
        case rel =>
          refine ⟨j + 1, q, D ++ [d], by go_num, rfl, by omega, by omega, HN.out, hown.out.1.grown hg3 (by have := hown.out.1.size; omega) (fun q hq => by have := (hown.out.2.lt q hq).1; omega), ?_⟩
          rw [icells_snoc]
          exact ho3
        case measure => simp [intOf]; omega
      · obtain rfl : k = 0 := by omega
        have hv : val D = val L * n := by
          have e := hfar.out.eq
          rw [List.take_of_length_le (by omega)] at e
          omega
        obtain ⟨A', c', rfl, hc, hI⟩ := digs_own hown.out.2 hfar.out.len
        have hlen : D.length ≤ L.length + 2 := by have := hfar.out.len; omega
        have HV := Lib.hid hv; clear hv
        have HC := Lib.hid hc; clear hc
        have HI := Lib.hid hI; clear hI
        have HLN := Lib.hid hlen; clear hlen
        go_wp2_with fail
        go_ret
        exact ⟨⟨A', c', D, rfl, HC.out, HI.out, HLN.out, hfar.out.dig, HV.out⟩, hown.out.1⟩
end Go.Proofs.YtmbdimonfdncpaaGreatDoor.Dg
/-
  Contracts of the reference's length, Bound, Held.
-/
namespace Go.Proofs.YtmbdimonfdncpaaGreatDoor.Dg
open Go.RowKit
set_option maxHeartbeats 400000
set_option maxRecDepth 100000
theorem length_any (L : List Nat) (A : Option Addr) (c : Nat) (w : World) (hb : Digs w A L) (hL : L.length ≤ 100) (hd : ∀ d ∈ L, d < 65536) (m : Nat) (hm : m = bl (val L)) :
    Calls Tryz.prog 24 #[.slice A L.length c] w fun e w' => e = .returned (.int .i64 (m : Nat)) ∧ w = w' := by
  have HB := Lib.hid hb; clear hb
  have HD := Lib.hid hd; clear hd
  have HM := Lib.hid hm; clear hm
  go_enter Tryz.func24, Tryz.ntmps24
  go_wp2_with fail
  go_loop [3] (fun i => ∃ k : Nat, k ≤ L.length ∧ i = .int .i64 ((k : Int) - 1) ∧ Hid (m = bl (val (L.take k)))) (fun i => ((intOf i) + 1).toNat)
  case atStart => exact ⟨L.length, by omega, rfl, by show _ = _; rw [List.take_length]; exact HM.out⟩
  case round =>
    obtain ⟨k, hk, rfl, hmk⟩ := hrel
    by_cases h0 : k = 0
    · subst h0
      have hz : m = 0 := hmk.out
      subst hz
      clear HM hmk
      go_wp2_with fail
      go_ret
      exact ⟨rfl, rfl⟩
    · obtain ⟨j, rfl⟩ : ∃ j, k = j + 1 := ⟨k - 1, by omega⟩
      have ej : (((j + 1 : Nat) : Int) - 1) = (j : Int) := by omega
      rw [ej]
      have hlt : j < L.length := by omega
      obtain ⟨b, off, rfl, hcell⟩ := HB.out.at_ j hlt
      have hx2 : L[j] < 65536 := HD.out _ (List.getElem_mem hlt)
      have htop : L[j] ≠ 0 → m = 16 * j + bl L[j] := fun h => hmk.out.trans (bl_top hlt HD.out h)
      have hnone : L[j] = 0 → m = bl (val (L.take j)) := fun h => hmk.out.trans (by rw [val_none hlt h])
      obtain ⟨x, hx⟩ : ∃ x, x = L[j] := ⟨_, rfl⟩
      rw [← hx] at hcell hx2 htop hnone
      have HT := Lib.hid htop; clear htop
      have HN := Lib.hid hnone; clear hnone
      have HX := Lib.hid ((bl_le x 16).2 hx2)
      clear hx hmk h0 ej
      go_wp2_with fail
      go_loop [4, 5] (fun n y => ∃ a q : Nat, n = .int .i64 a ∧ y = .int .i64 q ∧ q < 65536 ∧ a ≤ 16 ∧ Hid (a + bl q = bl x)) (fun _ y => (intOf y).toNat)
      case atStart => exact ⟨0, x, rfl, rfl, hx2, by omega, by show _ = _; omega⟩
      case round =>
        obtain ⟨a, q, rfl, rfl, hq, ha, hsum⟩ := hrel
        by_cases hq0 : q = 0
        · subst hq0
          have he : a = bl x := by have := hsum.out; rw [bl_zero] at this; omega
          by_cases ha0 : 0 < a
          · have hmm : m = 16 * j + a := by
              have hx0 : x ≠ 0 := fun e => by rw [e, bl_zero] at he; omega
              rw [he]
              exact HT.out hx0
            have HMM := Lib.hid hmm; clear hmm
            clear he hsum
            go_wp2_with fail
            change bodyPost Tryz.prog Tryz.f24 (fun e w' => _) Exit.ret _ _
            go_ret
            exact ⟨ret_int (by have := HMM.out; omega), rfl⟩
          · obtain rfl : a = 0 := by omega
            have hx0 : x = 0 := by
              rcases Nat.eq_zero_or_pos x with h | h
              · exact h
              · have := bl_pos (n := x) (by omega)
                omega
            have HMM : Hid (m = bl (val (L.take j))) := HN.out hx0
            clear he hsum hx0
            go_wp2_with fail
            go_round
            case rel => exact ⟨j, by omega, rfl, HMM.out⟩
            case measure => simp [intOf]
        · obtain ⟨r, hr⟩ : ∃ r, r = q / 2 := ⟨_, rfl⟩
          have e1 : (q : Int).tdiv 2 = (r : Int) := by rw [Int.tdiv_eq_ediv_of_nonneg (by omega)]; omega
          have e2 : (q : Int) / 2 = (r : Int) := by omega
          have hs2 : a + 1 + bl r = bl x := by
            have := bl_half q hq0
            have := hsum.out
            rw [hr]
            omega
          have ha1 : a + 1 ≤ 16 := by have := HX.out; omega
          have hrq : r < q := by omega
          have hqp : 0 < q := by omega
          have HS := Lib.hid hs2; clear hs2
          clear hr hq0 hsum
          go_wp2_with fail
          go_round
          case rel => exact ⟨a + 1, r, by go_num, rfl, by omega, ha1, HS.out⟩
          case measure => simp [intOf]; omega
theorem one_digs (w : World) : Digs (w.alloc (.cells #[.int .i64 1] 3)) (some ⟨w.heap.size, 0, none⟩) [1] := by
  refine .inr ⟨_, _, rfl, by simp, fun i hi => ?_⟩
  rw [Nat.zero_add, cell_of_row _ _ _ _ _ _ (heap_alloc_new w _)]
  have hi2 : i < 1 := hi
  match i, hi2 with
  | 0, _ => rfl
/-- the reference's Bound, of a number that is held -/
theorem refBound_any (h : Nat) (w : World) (hh : h ≤ 1048576) (b : Nat) (hb : b = 16 + bl ((h + 1) ^ 6)) :
    Calls Tryz.prog 14 #[.int .i64 (h : Int)] w fun e w' => e = .returned (.int .i64 (b : Nat)) ∧ Below w.heap.size w w' := by
  have HBB := Lib.hid hb; clear hb
  go_enter Tryz.func14, Tryz.ntmps14
  go_wp2_with fail
  go_loopw [3, 4] (fun p i wr => ∃ (j c : Nat) (A : Option Addr) (D : List Nat), i = .int .i64 j ∧ j ≤ 6 ∧ p = .slice A D.length c ∧ Hid (D.length ≤ 1 + 2 * j) ∧ Hid (Digs wr A D) ∧ Hid (∀ d ∈ D, d < 65536) ∧ Hid (val D = (h + 1) ^ j) ∧ Hid (Below w.heap.size w wr)) (fun _ i _ => 6 - (intOf i).toNat)
  case atStart => exact ⟨0, 1, _, [1], rfl, by omega, rfl, by show _ ≤ _; simp, one_digs w, by simp [Hid], by simp [Hid, val], (Below.refl _ _).alloc (Nat.le_refl _) _⟩
  case round =>
    obtain ⟨j, c, A, D, rfl, hj, rfl, hlen, hdg, hdd, hval, hbl⟩ := hrel
    by_cases hlt : j < 6
    · have ht := times_any D A c (h + 1) wr hdg.out (by have := hlen.out; omega) hdd.out (by omega) (by omega)
      rw [show (((h + 1 : Nat)) : Int) = (h : Int) + 1 by omega] at ht
      have HT := Lib.hid ht; clear ht
      clear hdg hdd
      go_wp2_with fail
      refine HT.out.mono ?_
      rintro e w2 ⟨⟨A', c', D', rfl, hc', hd', hl', hg', hv'⟩, hb2⟩
      have HL : Hid (D'.length ≤ 1 + 2 * (j + 1)) := by have := hlen.out; show _ ≤ _; omega
      have HV : Hid (val D' = (h + 1) ^ (j + 1)) := by show _ = _; rw [hv', hval.out, Nat.pow_succ]
      have HD' := Lib.hid hd'; clear hd'
      have HG' := Lib.hid hg'; clear hg'
      have HB2 := Lib.hid hb2; clear hb2
      clear hv' hl' hc' HT hlen hval
      go_wp2_with fail
      go_roundw
      case rel => exact ⟨j + 1, c', A', D', by go_num, by omega, rfl, HL.out, HD'.out, HG'.out, HV.out, below_then hbl.out HB2.out⟩
      case measure => simp [intOf]; omega
    · obtain rfl : j = 6 := by omega
      obtain ⟨m, hm⟩ : ∃ m, m = bl (val D) := ⟨_, rfl⟩
      have hl := length_any D A c wr hdg.out (by have := hlen.out; omega) hdd.out m hm
      have HL := Lib.hid hl; clear hl
      have hm2 := hm
      rw [hval.out] at hm2
      have hms := bl_six (x := h + 1) (by omega) (by omega)
      rw [← hm2] at hms
      have hbm : b = 16 + m := by rw [hm2]; exact HBB.out
      have HBM := Lib.hid hbm; clear hbm
      have hm126 := hms.2
      clear hm hm2 hms hval hdd hdg hlen HBB
      go_wp2_with fail
      refine HL.out.mono ?_
      rintro e w2 ⟨rfl, rfl⟩
      go_wp2_with fail
      go_ret
      exact ⟨ret_int (by have := HBM.out; omega), hbl.out⟩
/-- the reference's Bound of what its Held answers -/
theorem refBnd_any (z : Int) (w : World) : Calls Tryz.prog 14 #[.int .i64 (held z : Nat)] w fun e w' => e = .returned (.int .i64 (bnd z : Nat)) ∧ Below w.heap.size w w' :=
  refBound_any (held z) w (held_le z) (bnd z) rfl
end Go.Proofs.YtmbdimonfdncpaaGreatDoor.Dg
