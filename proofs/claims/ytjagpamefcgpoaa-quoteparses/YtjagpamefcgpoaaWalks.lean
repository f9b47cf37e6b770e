/-
  Contracts of quote.isStray, appendDigits, appendRune and of utf8.AppendRune, each for every input within its stated bounds.
-/
import Derived.Test.YtjagpamefcgpoaaBuf
namespace Go.Proofs.Ytjagpamefcgpoaa
open Go.RowKit
set_option maxHeartbeats 400000
theorem stray_any (s : ByteArray) (r : Nat) (w : World) (hr : r ≤ 1114111) :
    Calls Try.prog 15 #[.string s, .int .i32 (r : Int)] w fun e w' => e = .returned (.bool (decide (r = 65533) && !Lib.hasPrefix s.data.toList [239, 191, 189])) ∧ w = w' := by
  by_cases h : r = 65533
  · subst h
    go_enter Try.func15, Try.ntmps15
    go_wp2_with (go_at_call 22; refine (Try.strings_HasPrefix _ _ _).mono ?_; rintro e w' ⟨rfl, rfl⟩)
    go_ret
    exact ⟨ret_bool (by simp), rfl⟩
  · have hd : (((r : Int)) == 65533) = false := by simp; omega
    have H := Lib.hid h; clear h
    go_enter Try.func15, Try.ntmps15
    go_wp2_with (go_at_call 22; refine (Try.strings_HasPrefix _ _ _).mono ?_; rintro e w' ⟨rfl, rfl⟩)
    go_ret
    exact ⟨ret_bool (by simp [H.out]), rfl⟩
theorem and15 (n e : Nat) (hn : n ≤ 1114111) : bits .and .i32 ((n : Int) / 2 ^ (4 * e)) 15 = ((n / 16 ^ e % 16 : Nat) : Int) := by
  have e1 : ((n : Int) / 2 ^ (4 * e)) = ((n / 16 ^ e : Nat) : Int) := by
    rw [show (16 : Nat) ^ e = 2 ^ (4 * e) by rw [show (16 : Nat) = 2 ^ 4 from rfl, ← Nat.pow_mul]]
    simp
  have h2 : n / 16 ^ e ≤ n := Nat.div_le_self _ _
  rw [e1]
  generalize n / 16 ^ e = q at *
  have := bits_mask .i32 31 (by decide) wraps_i32 4 (by decide) (q : Int) (by omega) (by omega)
  rw [show (2 : Int) ^ 4 - 1 = 15 by decide, show (2 : Int) ^ 4 = 16 by decide] at this
  rw [this]; omega
theorem digit_at (d : Nat) (hd : d < 16) (h : d < (⟨#[48, 49, 50, 51, 52, 53, 54, 55, 56, 57, 97, 98, 99, 100, 101, 102]⟩ : ByteArray).size) :
    (⟨#[48, 49, 50, 51, 52, 53, 54, 55, 56, 57, 97, 98, 99, 100, 101, 102]⟩ : ByteArray)[d] = hexd d := by
  have : ∀ d : Fin 16, (⟨#[48, 49, 50, 51, 52, 53, 54, 55, 56, 57, 97, 98, 99, 100, 101, 102]⟩ : ByteArray)[d.val]'(d.isLt) = hexd d.val := by decide
  exact this ⟨d, hd⟩
theorem digs_take (n k j : Nat) (h : j < k) : (digs n k).take (j + 1) = (digs n k).take j ++ [hexd (n / 16 ^ (k - 1 - j) % 16)] := by
  have h2 := digs_get n k j h
  have hl : j < (digs n k).length := by rw [digs_length]; exact h
  rw [List.getElem?_eq_getElem hl] at h2
  rw [List.take_succ_eq_append_getElem hl, Option.some.inj h2]
theorem digits_any (B : Nat) (v : Value) (l : List UInt8) (n k : Nat) (w : World) (hn : n ≤ 1114111) (hk : k ≤ 4) (hb : Buf B w v l) (hl : l.length ≤ 900000) (hB : B ≤ w.heap.size) :
    Calls Try.prog 16 #[v, .int .i32 (n : Int), .int .i64 (k : Int)] w fun e w' => ∃ v', e = .returned v' ∧ Buf B w' v' (l ++ digs n k) ∧ Steps B w w' := by
  have HB := Lib.hid hb; clear hb
  go_enter Try.func16, Try.ntmps16
  go_wp2
  go_loopw [0, 9] (fun t i wr => ∃ (j : Nat), j ≤ k ∧ i = .int .i64 j ∧ Hid (Buf B wr t (l ++ (digs n k).take j)) ∧ Hid (Steps B w wr)) (fun _ i _ => k - (intOf i).toNat)
  case atStart => exact ⟨0, by omega, rfl, by simpa [Hid] using HB.out, Steps.refl _ _⟩
  case round =>
    obtain ⟨j, hj, rfl, hbuf, hst⟩ := hrel
    by_cases hlt : j < k
    · have hbit := and15 n (k - 1 - j) hn
      obtain ⟨d, hd⟩ : ∃ d, d = n / 16 ^ (k - 1 - j) % 16 := ⟨_, rfl⟩
      rw [← hd] at hbit
      have hd16 : d < 16 := by rw [hd]; exact Nat.mod_lt _ (by decide)
      have HD := Lib.hid hd; clear hd
      have hlen : (l ++ (digs n k).take j).length + 1 ≤ 1000000 := by
        rw [List.length_append, List.length_take, digs_length]; omega
      have hBr : B ≤ wr.heap.size := Nat.le_trans hB hst.out.1.size
      go_wp2_with (at_builtin; refine list_app_new rfl (.tmp 12) (.tmp 22) rfl _ _ [hexd d] (Nat.zero_lt_one) _ (by simp [digit_at d hd16, Lib.byteCells]) 1 1 rfl hbuf.out rfl rfl hlen hBr ?_; intro v1 w1 hb1 hs1)
      go_roundw
      case rel =>
        refine ⟨j + 1, by omega, by go_num, ?_, hst.out.trans hs1⟩
        rw [digs_take n k j hlt, ← HD.out, ← List.append_assoc]
        exact .inl hb1
      case measure => simp [intOf]; omega
    · go_wp2
      go_ret
      have e : j = k := by omega
      subst e
      refine ⟨_, rfl, ?_, hst.out⟩
      have h := hbuf.out
      rw [List.take_of_length_le (by rw [digs_length]; exact Nat.le_refl _)] at h
      exact h
theorem rune_two (B : Nat) (v : Value) (l : List UInt8) (r : Int) (w : World) (h0 : 128 ≤ r) (h1 : r ≤ 2047) (hb : Buf B w v l) (hl : l.length ≤ 900000) (hB : B ≤ w.heap.size) :
    Calls Try.prog 31 #[v, .int .i32 r] w fun e w' => ∃ v', e = .returned v' ∧ Own B w' v' (l ++ Lib.encodeRune r) ∧ Steps B w w' := by
  have hce : Lib.byteCells (Lib.encodeRune r) = [.int .u8 (192 + r / 64), .int .u8 (128 + r % 64)] := by rw [Lib.byteCells_encodeRune, Lib.runeCells, Lib.encodeRuneZ_two h0 h1]; rfl
  have hll : (Lib.encodeRune r).length = 2 := by rw [Lib.encodeRune, Lib.encodeRuneZ_two h0 h1]; rfl
  have HB := Lib.hid hb; clear hb
  have HC := Lib.hid hce; clear hce
  have HL := Lib.hid hll; clear hll
  go_enter Try.func31, Try.ntmps31
  go_wp2_with (at_builtin; refine list_app_new rfl _ _ rfl _ l (Lib.encodeRune r) (by rw [HL.out]; decide) _ (by rw [HC.out]) 2 2 HL.out.symm HB.out rfl rfl (by rw [HL.out]; omega) hB ?_; intro v1 w1 hb1 hs1)
  go_ret
  exact ⟨_, rfl, hb1, hs1⟩
theorem rune_three (B : Nat) (v : Value) (l : List UInt8) (r : Int) (w : World) (h : (2048 ≤ r ∧ r < 55296) ∨ (57343 < r ∧ r ≤ 65535)) (hb : Buf B w v l) (hl : l.length ≤ 900000) (hB : B ≤ w.heap.size) :
    Calls Try.prog 31 #[v, .int .i32 r] w fun e w' => ∃ v', e = .returned v' ∧ Own B w' v' (l ++ Lib.encodeRune r) ∧ Steps B w w' := by
  have hce : Lib.byteCells (Lib.encodeRune r) = [.int .u8 (224 + r / 4096), .int .u8 (128 + r / 64 % 64), .int .u8 (128 + r % 64)] := by rw [Lib.byteCells_encodeRune, Lib.runeCells, Lib.encodeRuneZ_three h]; rfl
  have hll : (Lib.encodeRune r).length = 3 := by rw [Lib.encodeRune, Lib.encodeRuneZ_three h]; rfl
  have HB := Lib.hid hb; clear hb
  have HC := Lib.hid hce; clear hce
  have HL := Lib.hid hll; clear hll
  rcases h with ⟨h0, h1⟩ | ⟨h0, h1⟩
  all_goals
    go_enter Try.func31, Try.ntmps31
    go_wp2_with (at_builtin; refine list_app_new rfl _ _ rfl _ l (Lib.encodeRune r) (by rw [HL.out]; decide) _ (by rw [HC.out]) 3 3 HL.out.symm HB.out rfl rfl (by rw [HL.out]; omega) hB ?_; intro v1 w1 hb1 hs1)
    go_ret
    exact ⟨_, rfl, hb1, hs1⟩
theorem rune_four (B : Nat) (v : Value) (l : List UInt8) (r : Int) (w : World) (h0 : 65536 ≤ r) (h1 : r ≤ 1114111) (hb : Buf B w v l) (hl : l.length ≤ 900000) (hB : B ≤ w.heap.size) :
    Calls Try.prog 31 #[v, .int .i32 r] w fun e w' => ∃ v', e = .returned v' ∧ Own B w' v' (l ++ Lib.encodeRune r) ∧ Steps B w w' := by
  have hce : Lib.byteCells (Lib.encodeRune r) = [.int .u8 (240 + r / 262144), .int .u8 (128 + r / 4096 % 64), .int .u8 (128 + r / 64 % 64), .int .u8 (128 + r % 64)] := by rw [Lib.byteCells_encodeRune, Lib.runeCells, Lib.encodeRuneZ_four h0 h1]; rfl
  have hll : (Lib.encodeRune r).length = 4 := by rw [Lib.encodeRune, Lib.encodeRuneZ_four h0 h1]; rfl
  have HB := Lib.hid hb; clear hb
  have HC := Lib.hid hce; clear hce
  have HL := Lib.hid hll; clear hll
  go_enter Try.func31, Try.ntmps31
  go_wp2_with (at_builtin; refine list_app_new rfl _ _ rfl _ l (Lib.encodeRune r) (by rw [HL.out]; decide) _ (by rw [HC.out]) 4 4 HL.out.symm HB.out rfl rfl (by rw [HL.out]; omega) hB ?_; intro v1 w1 hb1 hs1)
  go_ret
  exact ⟨_, rfl, hb1, hs1⟩
theorem rune_bad (B : Nat) (v : Value) (l : List UInt8) (r : Int) (w : World) (h0 : 55296 ≤ r) (h1 : r ≤ 57343) (hb : Buf B w v l) (hl : l.length ≤ 900000) (hB : B ≤ w.heap.size) :
    Calls Try.prog 31 #[v, .int .i32 r] w fun e w' => ∃ v', e = .returned v' ∧ Own B w' v' (l ++ Lib.encodeRune r) ∧ Steps B w w' := by
  have hce : Lib.byteCells (Lib.encodeRune r) = [.int .u8 239, .int .u8 191, .int .u8 189] := by rw [Lib.byteCells_encodeRune, Lib.runeCells, Lib.encodeRuneZ_bad (by omega)]; rfl
  have hll : (Lib.encodeRune r).length = 3 := by rw [Lib.encodeRune, Lib.encodeRuneZ_bad (by omega)]; rfl
  have HB := Lib.hid hb; clear hb
  have HC := Lib.hid hce; clear hce
  have HL := Lib.hid hll; clear hll
  go_enter Try.func31, Try.ntmps31
  go_wp2_with (at_builtin; refine list_app_new rfl _ _ rfl _ l (Lib.encodeRune r) (by rw [HL.out]; decide) _ (by rw [HC.out]) 3 3 HL.out.symm HB.out rfl rfl (by rw [HL.out]; omega) hB ?_; intro v1 w1 hb1 hs1)
  go_ret
  exact ⟨_, rfl, hb1, hs1⟩
theorem rune_any (B : Nat) (v : Value) (l : List UInt8) (r : Nat) (w : World) (hr : r ≤ 1114111) (hb : Buf B w v l) (hl : l.length ≤ 900000) (hB : B ≤ w.heap.size) :
    Calls Try.prog 23 #[v, .int .i32 (r : Int)] w fun e w' => ∃ v', e = .returned v' ∧ Own B w' v' (l ++ Lib.encodeRune (r : Int)) ∧ Steps B w w' := by
  by_cases h7 : r ≤ 127
  · have hce : Lib.byteCells (Lib.encodeRune r) = [.int .u8 (r : Int)] := by rw [Lib.byteCells_encodeRune, Lib.runeCells, Lib.encodeRuneZ_one (by omega) (by omega)]; rfl
    have hll : (Lib.encodeRune (r : Int)).length = 1 := by rw [Lib.encodeRune, Lib.encodeRuneZ_one (by omega) (by omega)]; rfl
    have HB := Lib.hid hb; clear hb
    have HC := Lib.hid hce; clear hce
    have HL := Lib.hid hll; clear hll
    go_enter Try.func23, Try.ntmps23
    go_wp2_with (at_builtin; refine list_app_new rfl _ _ rfl _ l (Lib.encodeRune r) (by rw [HL.out]; decide) _ (by rw [HC.out]) 1 1 HL.out.symm HB.out rfl rfl (by rw [HL.out]; omega) hB ?_; intro v1 w1 hb1 hs1)
    go_ret
    exact ⟨_, rfl, hb1, hs1⟩
  · have H : Calls Try.prog 31 #[v, .int .i32 (r : Int)] w fun e w' => ∃ v', e = .returned v' ∧ Own B w' v' (l ++ Lib.encodeRune (r : Int)) ∧ Steps B w w' := by
      by_cases h2 : r ≤ 2047
      · exact rune_two B v l r w (by omega) (by omega) hb hl hB
      · by_cases h3 : (2048 ≤ (r : Int) ∧ (r : Int) < 55296) ∨ (57343 < (r : Int) ∧ (r : Int) ≤ 65535)
        · exact rune_three B v l r w h3 hb hl hB
        · by_cases h4 : 65536 ≤ r
          · exact rune_four B v l r w (by omega) (by omega) hb hl hB
          · exact rune_bad B v l r w (by omega) (by omega) hb hl hB
    have HH := Lib.hid H; clear H hb
    go_enter Try.func23, Try.ntmps23
    go_wp2_with fail
    refine HH.out.mono ?_
    rintro e w1 ⟨v1, rfl, hb1, hs1⟩
    go_wp2_with fail
    go_ret
    exact ⟨_, rfl, hb1, hs1⟩
theorem spell_any (B : Nat) (v : Value) (l : List UInt8) (r : Nat) (w : World) (hr : r ≤ 1114111) (hb : Buf B w v l) (hl : l.length ≤ 800000) (hB : B ≤ w.heap.size) :
    Calls Try.prog 17 #[v, .int .i32 (r : Int)] w fun e w' => ∃ v', e = .returned v' ∧ Buf B w' v' (l ++ spell r) ∧ Steps B w w' := by
  have HB := Lib.hid hb; clear hb
  by_cases h1 : r = 34 ∨ r = 92
  · have hsp : spell r = 92 :: Lib.encodeRune (r : Int) := by rw [spell, if_pos h1]
    have HS := Lib.hid hsp; clear hsp
    have ht : ((r : Int) == 34) = true ∨ (((r : Int) == 34) = false ∧ ((r : Int) == 92) = true) := by
      rcases h1 with h | h
      · left; simp; omega
      · right; simp; omega
    clear h1
    rcases ht with ht | ⟨ht, ht2⟩
    all_goals
      go_enter Try.func17, Try.ntmps17
      go_wp2_with (at_builtin; refine list_app_str rfl (.tmp 12) (.const (.string ⟨#[92]⟩)) rfl _ l [92] (by decide) HB.out rfl rfl (by simp; omega) hB ?_; intro v1 w1 hb1 hs1)
      refine (rune_any B v1 (l ++ [92]) r w1 hr (.inl hb1) (by simp; omega) (Nat.le_trans hB hs1.1.size)).mono ?_
      rintro e w2 ⟨v2, rfl, hb2, hs2⟩
      go_wp2_with fail
      go_ret
      exact ⟨_, rfl, .inl (by rw [HS.out]; simpa using hb2), hs1.trans hs2⟩
  · have n1 : ((r : Int) == 34) = false := by simp; omega
    have n2 : ((r : Int) == 92) = false := by simp; omega
    by_cases h2 : r < 32 ∨ (127 ≤ r ∧ r < 160)
    · have hsp : spell r = 92 :: 117 :: digs r 4 := by rw [spell, if_neg h1, if_pos h2]
      have HS := Lib.hid hsp; clear hsp
      clear h1
      rcases h2 with h2 | ⟨h2, h3⟩
      · have a1 : (r : Int) < 32 := by omega
        go_enter Try.func17, Try.ntmps17
        go_wp2_with (at_builtin; refine list_app_str rfl (.tmp 27) (.const (.string ⟨#[92, 117]⟩)) rfl _ l [92, 117] (by decide) HB.out rfl rfl (by simp; omega) hB ?_; intro v1 w1 hb1 hs1)
        refine (digits_any B v1 (l ++ [92, 117]) r 4 w1 hr (by decide) (.inl hb1) (by simp; omega) (Nat.le_trans hB hs1.1.size)).mono ?_
        rintro e w2 ⟨v2, rfl, hb2, hs2⟩
        go_wp2_with fail
        go_ret
        exact ⟨_, rfl, by rw [HS.out]; simpa using hb2, hs1.trans hs2⟩
      · have a1 : ¬ (r : Int) < 32 := by omega
        have a2 : (127 : Int) ≤ (r : Int) := by omega
        have a3 : (r : Int) < 160 := by omega
        go_enter Try.func17, Try.ntmps17
        go_wp2_with (at_builtin; refine list_app_str rfl (.tmp 27) (.const (.string ⟨#[92, 117]⟩)) rfl _ l [92, 117] (by decide) HB.out rfl rfl (by simp; omega) hB ?_; intro v1 w1 hb1 hs1)
        refine (digits_any B v1 (l ++ [92, 117]) r 4 w1 hr (by decide) (.inl hb1) (by simp; omega) (Nat.le_trans hB hs1.1.size)).mono ?_
        rintro e w2 ⟨v2, rfl, hb2, hs2⟩
        go_wp2_with fail
        go_ret
        exact ⟨_, rfl, by rw [HS.out]; simpa using hb2, hs1.trans hs2⟩
    · have hsp : spell r = Lib.encodeRune (r : Int) := by rw [spell, if_neg h1, if_neg h2]
      have HS := Lib.hid hsp; clear hsp
      have a1 : ¬ (r : Int) < 32 := by omega
      have ha : (¬ (127 : Int) ≤ (r : Int)) ∨ ((127 : Int) ≤ (r : Int) ∧ ¬ (r : Int) < 160) := by omega
      clear h1 h2
      rcases ha with a2 | ⟨a2, a3⟩
      all_goals
        go_enter Try.func17, Try.ntmps17
        go_wp2_with fail
        refine (rune_any B v l r w hr HB.out (by omega) hB).mono ?_
        rintro e w2 ⟨v2, rfl, hb2, hs2⟩
        go_wp2_with fail
        go_ret
        exact ⟨_, rfl, .inl (by rw [HS.out]; exact hb2), hs2⟩
end Go.Proofs.Ytjagpamefcgpoaa
