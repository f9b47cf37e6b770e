import Derived.Test.YtjhbekopcikdkaaRows
import Derived.Test.YtjhbekopcikdkaaMath
import Derived.WalkKit
import Derived.WalkLawsBesides
import Derived.Outline
import Derived.IntWalk
import Derived.Lib.Hide
import Derived.Laws.IdiomStrings
import Derived.Laws.MakeOwn
import Derived.OwnWalk
import Derived.Deep.QuietTactic
import Derived.BigQuiet
import Derived.WalkSmall
namespace Go.Proofs.Ytjhbekopcikdkaa
open Go.RowKit
set_option maxHeartbeats 400000
theorem below_then {w a b : World} (h : Below w.heap.size w a) (k : Below a.heap.size a b) : Below w.heap.size w b := h.trans (k.mono h.size)
theorem ret_int {k : IntKind} {a b : Int} (h : a = b) : Ending.returned (.int k a) = .returned (.int k b) := by rw [h]
theorem held_any (n m : Int) (w : World) (h : 0 ≤ m) :
    Calls Try.prog 19 #[.int .i64 n, .int .i64 m] w fun e w' => e = .returned (.int .i64 (max 0 (min n m))) ∧ w = w' := by
  go_enter Try.func19, Try.ntmps19
  go_wp2
  all_goals go_ret
  all_goals exact ⟨ret_int (by omega), rfl⟩
theorem cut_any (x : Nat) (f k : Int) (w : World) (hx : x < 18446744073709551616) :
    Calls Try.prog 18 #[.int .u64 x, .int .i64 f, .int .i64 k] w fun e w' => e = .returned (.int .u64 (cutN x (max 0 (min f 64)).toNat (max 0 (min k 64)).toNat : Nat)) ∧ w = w' := by
  go_enter Try.func18, Try.ntmps18
  go_wp2_with (go_at_call 19; refine (held_any _ _ _ (by omega)).mono ?_; rintro e w' ⟨rfl, rfl⟩)
  go_ret
  exact ⟨ret_int (cut_bits x _ _ hx (by omega)), rfl⟩
theorem refHeld_any (n a b : Int) (w : World) (h : a ≤ b) :
    Calls Try.prog 8 #[.int .i64 n, .int .i64 a, .int .i64 b] w fun e w' => e = .returned (.int .i64 (max a (min n b))) ∧ w = w' := by
  go_enter Try.func8, Try.ntmps8
  go_wp2
  all_goals go_ret
  all_goals exact ⟨ret_int (by omega), rfl⟩
/-- a one-byte slice as a string -/
theorem conv_one (v : Int) (W : World) : (convert 24 9 (.slice (some ⟨W.heap.size, 0, none⟩) 1 1)).run Try.prog (W.alloc (.cells #[.int .u8 v] 5)) = .ok (.string ⟨#[UInt8.ofNat v.toNat]⟩) (W.alloc (.cells #[.int .u8 v] 5)) :=
  run_convert_bytes_arg _ 24 5 Try.underlying24 Try.underlying5 _ 0 1 1 [v] rfl (by intro i hi; have h0 : i = 0 := by omega
                                                                                    subst h0; simp) 9 Try.underlying9
theorem str_snoc (x : UInt8) (l : List UInt8) : (ByteArray.mk #[x]) ++ (ByteArray.mk l.toArray) = ByteArray.mk (x :: l).toArray := by
  apply ByteArray.ext; simp
theorem ret_str {a b : ByteArray} (h : a = b) : Ending.returned (.string a) = .returned (.string b) := by rw [h]
theorem text_step (n m j : Nat) (h : m = n / 256 ^ j) : UInt8.ofNat (m % 256) :: be n j = be n (j + 1) := by
  rw [be, ← h]
  congr 1
  apply UInt8.toNat.inj; simp
theorem text_any (n : Nat) (k : Nat) (w : World) (hn : n < 18446744073709551616) (hk8 : k ≤ 8) :
    Calls Try.prog 10 #[.int .u64 n, .int .i64 k] w fun e w' => e = .returned (.string ⟨(be n k).toArray⟩) ∧ Below w.heap.size w w' := by
  have hcv := conv_one
  go_enter Try.func10, Try.ntmps10
  go_wp2
  go_loopw [0, 5, 6] (fun a s i wr => ∃ j m : Nat, j ≤ k ∧ i = .int .i64 j ∧ a = .int .u64 (m : Int) ∧ Below w.heap.size w wr ∧ s = .string ⟨(be n j).toArray⟩ ∧ Hid (m = n / 256 ^ j)) (fun _ _ i _ => k - (intOf i).toNat)
  case atStart => exact ⟨0, n, by omega, rfl, by simp, Below.refl _ _, rfl, by simp [Hid]⟩
  case round =>
    obtain ⟨j, m, hj, rfl, rfl, hg, rfl, hm⟩ := hrel
    have hm2 : m < 18446744073709551616 := by rw [hm.out]; exact Nat.lt_of_le_of_lt (Nat.div_le_self _ _) hn
    have hbl := be_length n j
    by_cases hlt : j < k
    · go_wp2
      go_roundw
      case rel =>
        refine ⟨j + 1, m / 256, by omega, by go_num, ?_, hg.alloc hg.size _, ?_, ?_⟩
        · congr 1
        · rw [str_snoc, text_step n m j hm.out]
        · show _ = _
          rw [hm.out, Nat.pow_succ, Nat.div_div_eq_div_mul]
      case measure => simp [intOf]; omega
    · go_wp2
      go_ret
      have e : j = k := by omega
      exact ⟨ret_str (by rw [e]), hg⟩
theorem bit_any (x k : Nat) (w : World) (hx : x < 18446744073709551616) :
    Calls Try.prog 17 #[.int .u64 x, .int .i64 k] w fun e w' => e = .returned (.int .i64 ((x / 2 ^ k % 2 : Nat) : Int)) ∧ w = w' := by
  by_cases hk : k ≤ 63
  · go_enter Try.func17, Try.ntmps17
    go_wp2
    go_loop [0, 5] (fun a i => ∃ j m : Nat, j ≤ k ∧ i = .int .i64 j ∧ a = .int .u64 (m : Int) ∧ Hid (m = x / 2 ^ j)) (fun _ i => k - (intOf i).toNat)
    case atStart => exact ⟨0, x, by omega, rfl, by simp, by simp [Hid]⟩
    case round =>
      obtain ⟨j, m, hj, rfl, rfl, hm⟩ := hrel
      have hm2 : m < 18446744073709551616 := by rw [hm.out]; exact Nat.lt_of_le_of_lt (Nat.div_le_self _ _) hx
      by_cases hlt : j < k
      · go_wp2
        go_round
        case rel =>
          refine ⟨j + 1, m / 2, by omega, by go_num, ?_, ?_⟩
          · congr 1
          · show _ = _
            rw [hm.out, Nat.pow_succ, Nat.div_div_eq_div_mul]
        case measure => simp [intOf]; omega
      · go_wp2
        go_ret
        have e : j = k := by omega
        have e2 : ((m : Int) % 2) = ((m % 2 : Nat) : Int) := by omega
        exact ⟨ret_int (by rw [e2, ← e, hm.out]; simp), rfl⟩
  · go_enter Try.func17, Try.ntmps17
    go_wp2
    go_ret
    refine ⟨ret_int ?_, rfl⟩
    have : x < 2 ^ k := Nat.lt_of_lt_of_le hx (Nat.pow_le_pow_right (n := 2) (i := 64) (by decide) (by omega))
    rw [Nat.div_eq_of_lt this]; rfl
theorem turn_bits (x q : Nat) (hx : x < 18446744073709551616) :
    bits .or .u64 (IntKind.u64.wrap ((x : Int) * 2 ^ q)) ((x : Int) / 2 ^ (64 - q)) = ((turnN x q : Nat) : Int) := by
  have e1 : ((x : Int) * 2 ^ q) = ((x * 2 ^ q : Nat) : Int) := by simp
  have e2 : ((x : Int) / 2 ^ (64 - q)) = ((x / 2 ^ (64 - q) : Nat) : Int) := by simp
  have e3 : ((x * 2 ^ q : Nat) : Int) % 18446744073709551616 = ((x * 2 ^ q % 18446744073709551616 : Nat) : Int) := by omega
  rw [e1, e2, IntKind.wrap_u64, e3, u64_or_nat _ _ (Nat.mod_lt _ (by decide)) (Nat.lt_of_le_of_lt (Nat.div_le_self _ _) hx)]
  rfl
theorem turn_by (k : Int) (h1 : -9223372036854775808 ≤ k) (h2 : k ≤ 9223372036854775807) : ∃ q : Nat, (wrap64 (k.tmod 64 + 64)).tmod 64 = (q : Int) ∧ q = (k % 64).toNat ∧ q < 64 := by
  refine ⟨(k % 64).toNat, ?_, rfl, by omega⟩
  have hw : wrap64 (k.tmod 64 + 64) = k.tmod 64 + 64 := by
    have h3 : -64 < k.tmod 64 ∧ k.tmod 64 < 64 := by
      rcases Int.le_total 0 k with h | h
      · rw [Int.tmod_eq_emod_of_nonneg h]; omega
      · have : k.tmod 64 = -((-k).tmod 64) := by rw [Int.neg_tmod]; simp
        rw [this, Int.tmod_eq_emod_of_nonneg (by omega)]; omega
    unfold wrap64; omega
  rw [hw]
  rcases Int.le_total 0 k with h | h
  · rw [Int.tmod_eq_emod_of_nonneg h, Int.tmod_eq_emod_of_nonneg (by omega)]; omega
  · have h4 : k.tmod 64 = -((-k) % 64) := by
      have : k.tmod 64 = -((-k).tmod 64) := by rw [Int.neg_tmod]; simp
      rw [this, Int.tmod_eq_emod_of_nonneg (by omega)]
    rw [h4, Int.tmod_eq_emod_of_nonneg (by omega)]; omega
theorem turn_any (x : Nat) (k : Int) (w : World) (hx : x < 18446744073709551616) (h1 : -9223372036854775808 ≤ k) (h2 : k ≤ 9223372036854775807) :
    Calls Try.prog 16 #[.int .u64 x, .int .i64 k] w fun e w' => e = .returned (.int .u64 ((turnN x (k % 64).toNat : Nat) : Int)) ∧ Below w.heap.size w w' := by
  obtain ⟨q, hq, hq2, hq3⟩ := turn_by k h1 h2
  have H2 := Lib.hid hq2; clear hq2
  go_enter Try.func16, Try.ntmps16
  go_wp2
  go_quiet (fail)
  go_wp2
  go_ret
  exact ⟨ret_int (by rw [turn_bits x q hx, H2.out]), below_drewN (Below.refl _ _) _⟩
theorem number_any (s : ByteArray) (w : World) (hs : s.size ≤ 8) :
    Calls Try.prog 13 #[.string s] w fun e w' => e = .returned (.int .u64 ((num s.data.toList : Nat) : Int)) ∧ w = w' := by
  go_enter Try.func13, Try.ntmps13
  go_wp2
  go_loop [3, 4] (fun a i => ∃ j m : Nat, j ≤ s.size ∧ i = .int .i64 j ∧ a = .int .u64 (m : Int) ∧ Hid (m = num (s.data.toList.take j))) (fun _ i => s.size - (intOf i).toNat)
  case atStart => exact ⟨0, 0, by omega, rfl, by simp, by simp [Hid, num]⟩
  case round =>
    obtain ⟨j, m, hj, rfl, rfl, hm⟩ := hrel
    by_cases hlt : j < s.size
    · go_wp2
      go_round
      case rel =>
        have hl : j < s.data.toList.length := by simpa using hlt
        have hn := num_take s.data.toList j hl
        have hlt2 := num_lt64 (s.data.toList.take (j + 1)) (by rw [List.length_take]; omega)
        have e5 : s.data.toList[j] = s[j] := rfl
        rw [e5, ← hm.out] at hn
        refine ⟨j + 1, m * 256 + s[j].toNat, by omega, by go_num, ?_, hn.symm⟩
        rw [hn] at hlt2
        congr 1
        rw [IntKind.wrap_u64, IntKind.wrap_u64, IntKind.wrap_u64]
        have hb : s[j].toNat < 256 := s[j].toNat_lt
        generalize s[j].toNat = b at *
        clear hn hm
        omega
      case measure => simp [intOf]; omega
    · go_wp2
      go_ret
      exact ⟨ret_int (by rw [hm.out, List.take_of_length_le (by simp; omega)]), rfl⟩
/-- the bytes turned about -/
theorem back_any (s : ByteArray) (w : World) (hs : s.size ≤ 8) :
    Calls Try.prog 15 #[.string s] w fun e w' => e = .returned (.string ⟨s.data.toList.reverse.toArray⟩) ∧ Below w.heap.size w w' := by
  have hcv := conv_one
  go_enter Try.func15, Try.ntmps15
  go_wp2
  go_loopw [3, 4] (fun o i wr => ∃ (j : Nat) (l : List UInt8), j ≤ s.size ∧ i = .int .i64 j ∧ o = .string ⟨l.toArray⟩ ∧ Below w.heap.size w wr ∧ Hid (l = (s.data.toList.take j).reverse)) (fun _ i _ => s.size - (intOf i).toNat)
  case atStart => exact ⟨0, [], by omega, rfl, rfl, Below.refl _ _, by simp [Hid]⟩
  case round =>
    obtain ⟨j, l, hj, rfl, rfl, hg, hm⟩ := hrel
    by_cases hlt : j < s.size
    · have hll : l.length ≤ 8 := by rw [hm.out]; simp; omega
      go_wp2
      go_roundw
      case rel =>
        have hl : j < s.data.toList.length := by simpa using hlt
        refine ⟨j + 1, s[j] :: l, by omega, by go_num, ?_, hg.alloc hg.size _, ?_⟩
        · rw [str_snoc]
        · show _ = _
          rw [take_snoc' _ j hl, hm.out, List.reverse_append]; rfl
      case measure => simp [intOf]; omega
    · go_wp2
      go_ret
      exact ⟨ret_str (by rw [hm.out, List.take_of_length_le (by simp; omega)]), hg⟩
/-- the slice at A reads as the bytes l, in blocks that are there -/
def Bts (w : World) (A : Option Addr) (l : List UInt8) : Prop :=
  l = [] ∨ ∃ b off, A = some ⟨b, off, none⟩ ∧ b < w.heap.size ∧ ∀ i (h : i < l.length), w.cell? ⟨b, off + i, none⟩ = some (.int .u8 (l[i].toNat : Int))
theorem Bts.below {w w' : World} {A : Option Addr} {l : List UInt8} (h : Bts w A l) (hb : Below w.heap.size w w') : Bts w' A l := by
  rcases h with h | ⟨b, off, rfl, hlt, hc⟩
  · exact .inl h
  · exact .inr ⟨b, off, rfl, Nat.lt_of_lt_of_le hlt hb.size, fun i hi => (hb.cell (p := ⟨b, off + i, none⟩) hlt).trans (hc i hi)⟩
theorem Bts.at_ {w : World} {A : Option Addr} {l : List UInt8} (h : Bts w A l) (k : Nat) (hk : k < l.length) :
    ∃ b off, A = some ⟨b, off, none⟩ ∧ w.cell? ⟨b, off + k, none⟩ = some (.int .u8 (l[k].toNat : Int)) := by
  rcases h with h | ⟨b, off, rfl, _, hc⟩
  · subst h; simp at hk
  · exact ⟨b, off, rfl, hc k hk⟩
theorem wrap_byte (b : UInt8) : IntKind.u64.wrap (b.toNat : Int) = (b.toNat : Int) := by
  have hb : b.toNat < 256 := b.toNat_lt
  rw [IntKind.wrap_u64]; omega
theorem get_any (l : List UInt8) (A : Option Addr) (c : Nat) (w : World) (hl : l.length ≤ c) (hc : c ≤ maxLen) (hb : Bts w A l) :
    Calls Try.prog 11 #[.slice A l.length c] w fun e w' => e = .returned (.int .u64 ((num (l.take 8) : Nat) : Int)) ∧ w = w' := by
  have hb2 := Lib.hid hb; clear hb
  unfold maxLen at hc
  obtain ⟨n8, hn8⟩ : ∃ n8, n8 = min l.length 8 := ⟨_, rfl⟩
  have e8 : (if (8 : Int) < (l.length : Int) then 8 else (l.length : Int)) = (n8 : Int) := by split <;> omega
  have h8 : n8 ≤ l.length := by omega
  have h88 : n8 ≤ 8 := by omega
  have H8 := Lib.hid hn8; clear hn8
  go_enter Try.func11, Try.ntmps11
  go_wp2
  go_loop [3, 8] (fun a i => ∃ j m : Nat, j ≤ n8 ∧ i = .int .i64 j ∧ a = .int .u64 (m : Int) ∧ Hid (m = num (l.take j))) (fun _ i => n8 - (intOf i).toNat)
  case atStart => exact ⟨0, 0, by omega, rfl, by simp, by simp [Hid, num]⟩
  case round =>
    obtain ⟨j, m, hj, rfl, rfl, hm⟩ := hrel
    by_cases hlt : j < n8
    · obtain ⟨b, off, rfl, hcell⟩ := hb2.out.at_ j (by omega)
      go_wp2
      go_round
      case rel =>
        have hn := num_take l j (by omega)
        have hlt2 := num_lt64 (l.take (j + 1)) (by rw [List.length_take]; omega)
        rw [← hm.out] at hn
        refine ⟨j + 1, m * 256 + l[j].toNat, by omega, by go_num, ?_, hn.symm⟩
        rw [hn] at hlt2
        rw [wrap_byte, get_step m _ hlt2 l[j].toNat_lt]
      case measure => simp [intOf]; omega
    · go_wp2
      go_ret
      refine ⟨ret_int ?_, rfl⟩
      have e : j = n8 := by omega
      rw [hm.out, e, H8.out]
      by_cases h : l.length ≤ 8
      · rw [Nat.min_eq_left h, List.take_of_length_le (Nat.le_refl _), List.take_of_length_le h]
      · rw [Nat.min_eq_right (by omega)]
theorem low_any (l : List UInt8) (A : Option Addr) (c : Nat) (w : World) (hl : l.length ≤ c) (hc : c ≤ maxLen) (hb : Bts w A l) :
    Calls Try.prog 14 #[.slice A l.length c] w fun e w' => e = .returned (.int .u64 ((num (l.take 8).reverse : Nat) : Int)) ∧ w = w' := by
  have hb2 := Lib.hid hb; clear hb
  unfold maxLen at hc
  obtain ⟨n8, hn8⟩ : ∃ n8, n8 = min l.length 8 := ⟨_, rfl⟩
  have e8 : (if (8 : Int) < (l.length : Int) then 8 else (l.length : Int)) = (n8 : Int) := by split <;> omega
  have h8 : n8 ≤ l.length := by omega
  have h88 : n8 ≤ 8 := by omega
  have H8 := Lib.hid hn8; clear hn8
  go_enter Try.func14, Try.ntmps14
  go_wp2
  go_loop [3, 8] (fun a i => ∃ j m : Nat, j ≤ n8 ∧ i = .int .i64 j ∧ a = .int .u64 (m : Int) ∧ Hid (m = num (l.take j).reverse)) (fun _ i => n8 - (intOf i).toNat)
  case atStart => exact ⟨0, 0, by omega, rfl, by simp, by simp [Hid, num]⟩
  case round =>
    obtain ⟨j, m, hj, rfl, rfl, hm⟩ := hrel
    by_cases hlt : j < n8
    · obtain ⟨b, off, rfl, hcell⟩ := hb2.out.at_ j (by omega)
      go_wp2
      go_round
      case rel =>
        have hn := num_rev_take l j (by omega)
        have hlt2 := num_lt (l.take j).reverse
        rw [← hm.out, List.length_reverse, List.length_take, Nat.min_eq_left (by omega)] at hlt2
        rw [← hm.out] at hn
        refine ⟨j + 1, l[j].toNat * 256 ^ j + m, by omega, by go_num, ?_, hn.symm⟩
        rw [wrap_byte]
        first | rw [low_step m _ j hlt2 l[j].toNat_lt (by omega)] | skip
      case measure => simp [intOf]; omega
    · go_wp2
      go_ret
      refine ⟨ret_int ?_, rfl⟩
      have e : j = n8 := by omega
      rw [hm.out, e, H8.out]
      by_cases h : l.length ≤ 8
      · rw [Nat.min_eq_left h, List.take_of_length_le (Nat.le_refl _), List.take_of_length_le h]
      · rw [Nat.min_eq_right (by omega)]
/-- the cells of Put's slice behind i rounds -/
def pcells (n k i : Nat) : List Value := List.replicate (k - i) (.int .u8 0) ++ (be n i).map (fun b => .int .u8 (b.toNat : Int))
theorem pcells_at (n k j : Nat) (h : j < k) : (pcells n k j)[k - 1 - j]? = some (.int .u8 0) := by
  unfold pcells
  rw [List.getElem?_append_left (by rw [List.length_replicate]; omega), List.getElem?_replicate, if_pos (by omega)]
theorem pcells_set (n k j : Nat) (h : j < k) : (pcells n k j).set (k - 1 - j) (.int .u8 ((n : Int) / 2 ^ (8 * j) % 256)) = pcells n k (j + 1) := by
  unfold pcells
  have e : k - j = (k - 1 - j) + 1 := by omega
  have e2 : k - (j + 1) = k - 1 - j := by omega
  have e3 : ((n : Int) / 2 ^ (8 * j) % 256) = ((UInt8.ofNat (n / 256 ^ j)).toNat : Int) := by
    have e4 : (256 : Nat) ^ j = 2 ^ (8 * j) := by rw [show (256 : Nat) = 2 ^ 8 from rfl, ← Nat.pow_mul]
    have e5 : ((n : Int) / 2 ^ (8 * j)) = ((n / 2 ^ (8 * j) : Nat) : Int) := by simp
    rw [UInt8.toNat_ofNat', e4, e5]
    generalize n / 2 ^ (8 * j) = m
    omega
  have e6 : (List.replicate (k - 1 - j) (Value.int .u8 0)).length = k - 1 - j := List.length_replicate ..
  rw [e, e2, e3, List.replicate_succ', List.append_assoc, List.set_append, e6, if_neg (Nat.lt_irrefl _), Nat.sub_self]
  rfl
theorem Try.info5 : (Try.prog.info? 5).map (fun i => (i.zero, i.size, i.bytes)) = some (some (.int .u8 0), 1, 1) := by kernel_rfl
theorem made_one (k : Nat) (v : Value) : madeCells #[v] k = (List.replicate k v).toArray := by
  unfold madeCells
  apply Array.ext
  · simp
  · intro i h1 h2
    simp [Nat.mod_one]
theorem put_made (k : Nat) (W : World) (hk : k ≤ 8) : (Instr.makeSlice 24 (.int .i64 (k : Int)) (.int .i64 (k : Int))).run Try.prog W = .ok (.slice (some ⟨W.heap.size, 0, none⟩) k k) (W.alloc (.cells (List.replicate k (Value.int .u8 0)).toArray 5)) := by
  obtain ⟨i0, hi, hz0, hz1, hz2⟩ := info_parts Try.info5
  have h := run_make (P := Try.prog) W 24 5 i0 (.int .u8 0) Try.underlying24 hi hz0 .i64 .i64 k k (by omega) (by omega) (by rw [hz2]; omega) (by omega)
  rw [Int.toNat_natCast, hz1, Nat.mul_one, show (Value.int .u8 0).cells = #[Value.int .u8 0] from rfl, made_one] at h
  exact h
theorem put_any (n : Nat) (k : Int) (q : Nat) (w : World) (hq : (max 0 (min k 8)) = (q : Int)) :
    Calls Try.prog 9 #[.int .u64 n, .int .i64 k] w fun e w' => e = .returned (.slice (some ⟨w.heap.size, 0, none⟩) q q) ∧ w.alloc (.cells (pcells n q q).toArray 5) = w' := by
  have hq8 : q ≤ 8 := by omega
  have hmk := fun W => put_made q W hq8
  go_enter Try.func9, Try.ntmps9
  go_wp2_with (go_at_call 19; refine (held_any _ _ _ (by omega)).mono ?_; rintro e w' ⟨rfl, rfl⟩)
  go_loopw [12] (fun i wr => ∃ j : Nat, j ≤ q ∧ i = .int .i64 j ∧ wr = w.alloc (.cells (pcells n q j).toArray 5)) (fun i _ => q - (intOf i).toNat)
  case atStart => exact ⟨0, by omega, rfl, by simp [pcells, be]⟩
  case round =>
    obtain ⟨j, hj, rfl, rfl⟩ := hrel
    by_cases hlt : j < q
    · have hat := pcells_at n q j hlt
      go_wp2
      go_roundw
      case rel =>
        refine ⟨j + 1, by omega, by go_num, ?_⟩
        rw [← pcells_set n q j hlt]
      case measure => simp [intOf]; omega
    · go_wp2
      go_ret
      have e : j = q := by omega
      subst e
      exact ⟨rfl, rfl⟩
theorem pcells_bts (w : World) (n q : Nat) : Bts (w.alloc (.cells (pcells n q q).toArray 5)) (some ⟨w.heap.size, 0, none⟩) (be n q) := by
  refine .inr ⟨_, _, rfl, by simp, fun i hi => ?_⟩
  have : pcells n q q = (be n q).map (fun b => .int .u8 (b.toNat : Int)) := by simp [pcells]
  rw [this]
  simp [hi]
/-- 'string(b)' of a slice of bytes -/
theorem conv_bts (w : World) (l : List UInt8) (b off c : Nat) (h : ∀ i (h : i < l.length), w.cell? ⟨b, off + i, none⟩ = some (.int .u8 (l[i].toNat : Int))) :
    (convert 24 9 (.slice (some ⟨b, off, none⟩) l.length c)).run Try.prog w = .ok (.string ⟨l.toArray⟩) w :=
  run_convert_bytes_back w 24 9 5 _ c l Try.underlying24 Try.underlying5 Try.underlying9 (fun j hj => by rw [Go.WideShapes.add_plain]; exact h j hj)
theorem conv_any {w : World} {A : Option Addr} {l : List UInt8} (h : Bts w A l) (c : Nat) : (convert 24 9 (.slice A l.length c)).run Try.prog w = .ok (.string ⟨l.toArray⟩) w := by
  rcases h with rfl | ⟨b, off, rfl, _, hc⟩
  · cases A with
    | none => exact run_convert_bytes_nil w 24 5 Try.underlying24 Try.underlying5 0 c 9 Try.underlying9
    | some a => exact run_convert_bytes_back w 24 9 5 a c [] Try.underlying24 Try.underlying5 Try.underlying9 (fun j hj => by simp at hj)
  · exact conv_bts w l b off c hc
theorem Bts.take {w : World} {A : Option Addr} {l : List UInt8} (h : Bts w A l) (k : Nat) : Bts w A (l.take k) := by
  rcases h with rfl | ⟨b, off, rfl, hlt, hc⟩
  · left; simp
  · right; exact ⟨b, off, rfl, hlt, fun i hi => by rw [List.getElem_take]; exact hc i (by simp at hi; omega)⟩
theorem conv_258 (W : World) : (convert 24 9 (.slice (some ⟨W.heap.size, 0, none⟩) 3 3)).run Try.prog (W.alloc (.cells (pcells 258 3 3).toArray 5)) = .ok (.string ⟨#[0, 1, 2]⟩) (W.alloc (.cells (pcells 258 3 3).toArray 5)) := by
  have hb := pcells_bts W 258 3
  rcases hb with h | ⟨b, off, e, _, hc⟩
  · cases h
  · obtain ⟨rfl, rfl⟩ : W.heap.size = b ∧ 0 = off := by simpa using e
    exact conv_bts _ (be 258 3) _ _ 3 hc
theorem low_12 (w : World) (b : Nat) (hb : b = w.heap.size) : Calls Try.prog 14 #[.slice (some ⟨b, 0, none⟩) 2 2] (w.alloc (.cells #[.int .u8 1, .int .u8 2] 5)) fun e w' => e = .returned (.int .u64 513) ∧ (w.alloc (.cells #[.int .u8 1, .int .u8 2] 5)) = w' := by
  subst hb
  exact low_any [1, 2] _ 2 _ (by decide) (by decide) (.inr ⟨_, _, rfl, by simp, fun i hi => by
    match i, hi with
    | 0, _ => simp
    | 1, _ => simp⟩)
theorem cut_abc (w : World) : Calls Try.prog 18 #[.int .u64 2748, .int .i64 4, .int .i64 4] w fun e w' => e = .returned (.int .u64 11) ∧ w = w' :=
  cut_any 2748 4 4 w (by decide)
theorem awake_any (w : World) : Calls Try.prog 12 #[] w fun e w' => e = .returned (.bool true) ∧ Below w.heap.size w w' := by
  have hcv := conv_258
  go_enter Try.func12, Try.ntmps12
  go_wp2_with fail
  refine (put_any 258 3 3 _ (by decide)).mono ?_
  rintro e w' ⟨rfl, rfl⟩
  go_wp2_with fail
  refine (low_12 _ _ (by simp)).mono ?_
  rintro e w' ⟨rfl, rfl⟩
  go_wp2_with fail
  refine (cut_abc _).mono ?_
  rintro e w' ⟨rfl, rfl⟩
  go_wp2_with fail
  go_ret
  exact ⟨rfl, ((Below.refl _ _).alloc (Nat.le_refl _) _).alloc (by simp) _⟩
end Go.Proofs.Ytjhbekopcikdkaa
