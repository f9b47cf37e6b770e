/-
  Contracts of strings.IndexRune over the digits, and of quote.number.
-/
import Derived.Test.YtjagpamefcgpoaaTold
import Derived.Lib.ConvBytes
import Derived.Laws.Runes
import Derived.WalkMore
namespace Go.Proofs.Ytjagpamefcgpoaa
open Go.RowKit
set_option maxHeartbeats 400000
set_option maxRecDepth 100000
/-- the digits -/
def digitsB : ByteArray := ⟨#[48, 49, 50, 51, 52, 53, 54, 55, 56, 57, 97, 98, 99, 100, 101, 102]⟩
set_option maxRecDepth 1000000 in
theorem index_digit (c : UInt8) : Lib.indexByte [48, 49, 50, 51, 52, 53, 54, 55, 56, 57, 97, 98, 99, 100, 101, 102] c = match hexv c with | some d => (d : Int) | none => -1 := by
  have h : ∀ n : Fin 256, Lib.indexByte [48, 49, 50, 51, 52, 53, 54, 55, 56, 57, 97, 98, 99, 100, 101, 102] (UInt8.ofNat n.val) = match hexv (UInt8.ofNat n.val) with | some d => (d : Int) | none => -1 := by decide
  have := h ⟨c.toNat, c.toNat_lt⟩
  simpa using this
theorem index_none {l : List UInt8} {c : UInt8} (h : Lib.indexByte l c = -1) : ∀ x ∈ l, x ≠ c := by
  induction l with
  | nil => intro x hx; simp at hx
  | cons b l ih =>
    rw [Lib.indexByte] at h
    by_cases hb : (b == c) = true
    · rw [if_pos hb] at h; cases h
    · rw [if_neg hb] at h
      have hl : Lib.indexByte l c = -1 := by
        by_cases h2 : (Lib.indexByte l c == -1) = true
        · simpa using h2
        · rw [if_neg h2] at h
          have := Lib.indexByte_ge l c
          simp at h2; omega
      intro x hx
      rcases List.mem_cons.1 hx with rfl | hx
      · intro e; exact hb (by simp [e])
      · exact ih hl x hx
theorem index_of_none {l : List UInt8} {c : UInt8} (h : ∀ x ∈ l, x ≠ c) : Lib.indexByte l c = -1 := by
  induction l with
  | nil => rfl
  | cons b l ih =>
    have hb : (b == c) = false := by simpa using h b (by simp)
    rw [Lib.indexByte, hb, ih (fun x hx => h x (by simp [hx]))]
    rfl
theorem index_some {l : List UInt8} {c : UInt8} (h : Lib.indexByte l c ≠ -1) : ∃ i : Nat, Lib.indexByte l c = i ∧ i < l.length ∧ l = l.take i ++ c :: l.drop (i + 1) ∧ ∀ x ∈ l.take i, x ≠ c := by
  induction l with
  | nil => exact absurd rfl h
  | cons b l ih =>
    by_cases hb : (b == c) = true
    · refine ⟨0, by rw [Lib.indexByte, if_pos hb]; rfl, by simp, ?_, by simp⟩
      have : b = c := by simpa using hb
      simp [this]
    · have h2 : Lib.indexByte l c ≠ -1 := by
        intro e
        rw [Lib.indexByte, if_neg hb, e] at h
        exact h rfl
      obtain ⟨i, h3, h4, h5, h6⟩ := ih h2
      refine ⟨i + 1, ?_, by simp; omega, ?_, ?_⟩
      · rw [Lib.indexByte, if_neg hb, if_neg (by simpa using h2), h3]; rfl
      · simp only [List.take_succ_cons, List.drop_succ_cons, List.cons_append]
        rw [← h5]
      · intro x hx
        simp only [List.take_succ_cons, List.mem_cons] at hx
        rcases hx with rfl | hx
        · intro e; exact hb (by simp [e])
        · exact h6 x hx
theorem indexRune_error (s : ByteArray) (w : World) (hsz : s.size ≤ 1000) (hascii : ∀ b ∈ s.data.toList, b.toNat < 128) :
    Calls Try.prog 38 #[.string s, .int .i32 65533] w fun e w' => e = .returned (.int .i64 (-1)) ∧ Below w.heap.size w w' := by
  have HA := Lib.hid hascii; clear hascii
  go_enter Try.func38, Try.ntmps38
  go_wp2_with fail
  go_loopw [] (fun wr => ∃ pos : Nat, wr = w.iter s pos ∧ pos ≤ s.size) (fun wr => s.size - wr.iterPos w.heap.size)
  case atStart => exact ⟨0, rfl, by omega⟩
  case round =>
    obtain ⟨pos, rfl, hps⟩ := hrel
    by_cases hp : pos < s.size
    · have ha : (s[pos]'hp).toNat < 128 := HA.out _ (List.mem_of_getElem? (at_list s pos hp))
      have hnx : ∀ ty, (Instr.next (.pointer (some ⟨w.heap.size, 0, none⟩)) true ty).run Try.prog (w.iter s pos) = _ := fun ty => run_next_ascii w s pos ty hp ha
      have hne : (((s[pos]'hp).toNat : Int) == 65533) = false := by simp; omega
      go_wp2_with fail
      go_roundw
      case rel => exact ⟨pos + 1, rfl, by omega⟩
      case measure => simp only [World.iterPos_iter]; omega
    · have hnx : ∀ ty, (Instr.next (.pointer (some ⟨w.heap.size, 0, none⟩)) true ty).run Try.prog (w.iter s pos) = _ := fun ty => run_next_end w s pos ty hp
      go_wp2_with fail
      go_ret
      exact ⟨rfl, (Below.refl _ w).alloc (Nat.le_refl _) _⟩
theorem indexRune_high (s : ByteArray) (r : Nat) (w : World) (h128 : 128 ≤ r) (hr : r ≤ 1114111) (hne : r ≠ 65533) (h4 : 4 ≤ s.size) (hsz : s.size ≤ 1000) (hascii : ∀ b ∈ s.data.toList, b.toNat < 128) :
    Calls Try.prog 38 #[.string s, .int .i32 (r : Int)] w fun e w' => e = .returned (.int .i64 (-1)) ∧ Below w.heap.size w w' := by
  have c1 : ¬ (r : Int) < 128 := by omega
  have c2 : ((r : Int) == 65533) = false := by simp; omega
  by_cases hv : Lib.validRune (r : Int) = true
  · have hv2 : Utf8.valid (r : Int) = true := by rw [validRune_eq]; exact hv
    obtain ⟨f1, f2, f3⟩ := encode_facts (r : Int) hv2 (by omega)
    obtain ⟨t, ht⟩ : ∃ t, t = Utf8.encode (r : Int) := ⟨_, rfl⟩
    rw [← ht] at f1 f2 f3
    obtain ⟨n, hn⟩ : ∃ n, n = t.size - 1 := ⟨_, rfl⟩
    have hnt : n < t.size := by omega
    have hn3 : n ≤ 3 := by omega
    have hn1 : 1 ≤ n := by omega
    have hns : n < s.size := by omega
    have hlast : 128 ≤ (t[n]'hnt).toNat := by subst hn; exact f3 hnt
    have hsn : (s[n]'hns).toNat < 128 := hascii _ (List.mem_of_getElem? (at_list s n hns))
    have hix : ∀ W, Calls Try.prog 43 #[.string (s.extract (n + 1) s.size), .int .u8 ((t[n]'hnt).toNat : Int)] W fun e w' => e = .returned (.int .i64 (-1)) ∧ W = w' := by
      intro W
      refine (Try.strings_IndexByte _ _ W).mono ?_
      rintro e w' ⟨rfl, rfl⟩
      refine ⟨ret_int ?_, rfl⟩
      rw [rest_list]
      apply index_of_none
      intro x hx e
      have h1 := hascii x (List.mem_of_mem_drop hx)
      have h2 : ((t[n]'hnt).toNat : Int).toNat.toUInt8 = t[n]'hnt := by simp
      rw [h2] at e
      rw [e] at h1
      omega
    have hv3 : Calls Try.prog 44 #[.int .i32 (r : Int)] w fun e w' => e = .returned (.bool true) ∧ w = w' := by
      refine (Try.utf8_ValidRune (r : Int) w).mono ?_
      rintro e w' ⟨rfl, rfl⟩
      rw [hv]
      exact ⟨rfl, rfl⟩
    have hcv : ∀ W, (convert 21 9 (.int .i32 (r : Int))).run Try.prog W = .ok (.string t) W := by
      intro W; rw [ht]; exact run_convert_int_string W 21 9 .i32 (r : Int) (by rw [Try.underlying21]; rfl) Try.underlying9
    have htz : (t.size : Int) - 1 = (n : Int) := by omega
    have hdf : (((s[n]'hns).toNat : Int) != ((t[n]'hnt).toNat : Int)) = true := by simp; omega
    have HX := Lib.hid hix; clear hix
    have HV := Lib.hid hv3; clear hv3
    clear f3 ht hascii hv hv2 hn hne
    go_enter Try.func38, Try.ntmps38
    go_wp2_with fail
    refine HV.out.mono ?_
    rintro e w' ⟨rfl, rfl⟩
    go_wp2_with fail
    go_step3
    go_wp2_with fail
    go_loop [9] (fun i => i = .int .i64 (n : Int)) (fun _ => 0)
    case atStart => rfl
    case round =>
      obtain rfl := hrel
      have g1 : (0 : Int) ≤ (n : Int) + 1 := by omega
      have g2 : (n : Int) + 1 ≤ (s.size : Int) := by omega
      go_wp2_with fail
      go_step3
      go_wp2_with fail
      go_quiet (fail)
      go_wp2_with fail
      have g3 : IntKind.i64.wrap ((n : Int) + 1) = (n : Int) + 1 := IntWalk.i64_in _ (by omega)
      have g4 : ((n : Int) + 1).toNat = n + 1 := by omega
      go_region_held3 (fun _ => True) (trivial) ((go_at_call 43; refine (HX.out _).mono ?_; rintro e w' ⟨rfl, rfl⟩))
      all_goals
        clear g3 g4
        go_wp2_with fail
        change bodyPost Try.prog Try.f38 (fun e w' => e = Ending.returned (.int .i64 (-1)) ∧ Below w.heap.size w w') Exit.ret _ _
        go_ret
        exact ⟨rfl, below_drewN (Below.refl _ _) _⟩
  · have hv3 : Calls Try.prog 44 #[.int .i32 (r : Int)] w fun e w' => e = .returned (.bool false) ∧ w = w' := by
      refine (Try.utf8_ValidRune (r : Int) w).mono ?_
      rintro e w' ⟨rfl, rfl⟩
      refine ⟨ret_bool ?_, rfl⟩
      simpa using hv
    have HV := Lib.hid hv3; clear hv3 hv hascii
    go_enter Try.func38, Try.ntmps38
    go_wp2_with fail
    refine HV.out.mono ?_
    rintro e w' ⟨rfl, rfl⟩
    go_wp2_with fail
    go_ret
    exact ⟨rfl, Below.refl _ _⟩
theorem indexRune_digits (r : Nat) (w : World) (h128 : 128 ≤ r) (hr : r ≤ 1114111) :
    Calls Try.prog 38 #[.string ⟨#[48, 49, 50, 51, 52, 53, 54, 55, 56, 57, 97, 98, 99, 100, 101, 102]⟩, .int .i32 (r : Int)] w fun e w' => e = .returned (.int .i64 (-1)) ∧ Below w.heap.size w w' := by
  have ha : ∀ b ∈ (⟨#[48, 49, 50, 51, 52, 53, 54, 55, 56, 57, 97, 98, 99, 100, 101, 102]⟩ : ByteArray).data.toList, b.toNat < 128 := by decide
  by_cases h : r = 65533
  · subst h; exact indexRune_error _ w (by decide) ha
  · exact indexRune_high _ r w h128 hr h (by decide) (by decide) ha
theorem indexRune_digit (c : UInt8) (w : World) (hc : c.toNat < 128) :
    Calls Try.prog 38 #[.string ⟨#[48, 49, 50, 51, 52, 53, 54, 55, 56, 57, 97, 98, 99, 100, 101, 102]⟩, .int .i32 (c.toNat : Int)] w fun e w' => e = .returned (.int .i64 (match hexv c with | some d => (d : Int) | none => -1)) ∧ w = w' := by
  refine (Try.strings_IndexRune_ascii _ (c.toNat : Int) w (by omega) (by omega)).mono ?_
  rintro e w' ⟨rfl, rfl⟩
  refine ⟨ret_int ?_, rfl⟩
  rw [← index_digit c]
  have : ((c.toNat : Int)).toNat.toUInt8 = c := by simp
  rw [this]
theorem runeOf_high {q : List UInt8} (hq : q ≠ []) (h : 128 ≤ (q.getD 0 0).toNat) : 128 ≤ runeOf q := by
  by_cases hw : width q = 0
  · simp [runeOf, hw]
  · cases kind_of hw with
    | one a r hk => simp at h; omega
    | two a b r h1 h2 h3 h4 => simp [runeOf, width_two h1 h2 h3 h4]; omega
    | three a b c r h1 h2 h3 h4 h5 h6 h7 h8 => simp [runeOf, width_three h1 h2 h3 h4 h5 h6 h7 h8]; omega
    | four a b c d r h1 h2 h3 h4 h5 h6 h7 h8 h9 h10 => simp [runeOf, width_four h1 h2 h3 h4 h5 h6 h7 h8 h9 h10]; omega
theorem numL_none {n : Nat} {c : UInt8} {l : List UInt8} (h : hexv c = none) : numL n (c :: l) = none := by simp [numL, h]
theorem numL_some {n d : Nat} {c : UInt8} {l : List UInt8} (h : hexv c = some d) : numL n (c :: l) = numL (n * 16 + d) l := by simp [numL, h]
def numAns (o : Option Nat) : Value := match o with
  | some n => .tuple #[.int .i32 (n : Int), .bool true]
  | none => .tuple #[.int .i32 0, .bool false]
theorem or_digit (m d : Nat) (hm : m < 4096) (hd : d < 16) : bits .or .i32 ((m : Int) * 16) (d : Int) = ((m * 16 + d : Nat) : Int) := by
  have := bits_join .i32 31 (by decide) wraps_i32 4 ((m : Int) * 16) (d : Int) (by omega) (by omega) (by omega) (by omega) (by omega) (by omega)
  rw [this]; omega
theorem number_short (s : ByteArray) (k : Nat) (w : World) (hs : s.size < k) :
    Calls Try.prog 35 #[.string s, .int .i64 (k : Int)] w fun e w' => e = .returned (numAns none) ∧ Below w.heap.size w w' := by
  go_enter Try.func35, Try.ntmps35
  go_wp2_with fail
  go_ret2
  exact ⟨rfl, Below.refl _ _⟩
theorem number_any (s : ByteArray) (k : Nat) (w : World) (hs : k ≤ s.size) (hk : k ≤ 4) :
    Calls Try.prog 35 #[.string s, .int .i64 (k : Int)] w fun e w' => e = .returned (numAns (numL 0 (s.data.toList.take k))) ∧ Below w.heap.size w w' := by
  obtain ⟨t, ht⟩ : ∃ t : ByteArray, t = s.extract 0 k := ⟨_, rfl⟩
  have htl : t.data.toList = s.data.toList.take k := by rw [ht, Lib.extract_data]; simp
  have htz : t.size = k := by rw [Lib.size_eq, htl, List.length_take, ← Lib.size_eq]; omega
  rw [← htl]
  clear htl
  have htk : t.size ≤ 4 := by omega
  have HTZ := Lib.hid htz; clear htz
  have hsl : s.extract 0 k = t := ht.symm
  clear ht
  have hd0 : decide (s.size < k) = false := by simp; omega
  go_enter Try.func35, Try.ntmps35
  go_wp2_with fail
  go_loopw [6] (fun x wr => ∃ (pos m : Nat), x = .int .i32 (m : Int) ∧ wr = w.iter t pos ∧ pos ≤ t.size ∧ m < 16 ^ pos ∧ Hid (numL 0 t.data.toList = numL m (t.data.toList.drop pos))) (fun _ wr => t.size - wr.iterPos w.heap.size)
  case atStart => exact ⟨0, 0, rfl, rfl, by omega, by decide, rfl⟩
  case round =>
    obtain ⟨pos, m, rfl, rfl, hps, hm, hnum⟩ := hrel
    clear hsl
    by_cases hp : pos < t.size
    · have hm4 : m < 4096 := by
        have : 16 ^ pos ≤ 16 ^ 3 := Nat.pow_le_pow_right (by decide) (by omega)
        omega
      have hcons : t.data.toList.drop pos = (t[pos]'hp) :: t.data.toList.drop (pos + 1) := by
        have hl : pos < t.data.toList.length := by rw [← Lib.size_eq]; exact hp
        rw [List.drop_eq_getElem_cons hl]
        rfl
      by_cases ha : (t[pos]'hp).toNat < 128
      · have hnx : ∀ ty, (Instr.next (.pointer (some ⟨w.heap.size, 0, none⟩)) true ty).run Try.prog (w.iter t pos) = _ := fun ty => run_next_ascii w t pos ty hp ha
        have hix := fun W => indexRune_digit (t[pos]'hp) W ha
        cases hd : hexv (t[pos]'hp) with
        | none =>
          rw [hd] at hix
          have hfin : numL 0 t.data.toList = none := by rw [hnum.out, hcons, numL_none hd]
          have HX := Lib.hid hix; clear hix
          have HF := Lib.hid hfin; clear hfin hcons hd
          go_wp2_with fail
          refine (HX.out _).mono ?_
          rintro e w' ⟨rfl, rfl⟩
          go_wp2_with fail
          go_ret2
          exact ⟨by rw [HF.out]; rfl, (Below.refl _ w).alloc (Nat.le_refl _) _⟩
        | some d =>
          rw [hd] at hix
          have hd16 := (hexv_lt hd).1
          have hfin : numL 0 t.data.toList = numL (m * 16 + d) (t.data.toList.drop (pos + 1)) := by rw [hnum.out, hcons, numL_some hd]
          have HX := Lib.hid hix; clear hix
          have HF := Lib.hid hfin; clear hfin hcons hd
          go_wp2_with fail
          refine (HX.out _).mono ?_
          rintro e w' ⟨rfl, rfl⟩
          go_wp2_with fail
          go_roundw
          case rel =>
            refine ⟨pos + 1, m * 16 + d, ?_, rfl, by omega, by rw [Nat.pow_succ]; omega, HF⟩
            rw [or_digit m d hm4 hd16]
          case measure => simp only [World.iterPos_iter]; omega
      · have hdc := decode_eq t pos hp
        have hnx : ∀ ty, (Instr.next (.pointer (some ⟨w.heap.size, 0, none⟩)) true ty).run Try.prog (w.iter t pos) = _ := fun ty => run_next_any w t pos ty hp
        rw [hdc] at hnx
        have hhi := runeOf_high (drop_ne hp) (by rw [hcons]; simp; omega)
        have hle := runeOf_le (t.data.toList.drop pos)
        have hfin : numL 0 t.data.toList = none := by
          rw [hnum.out, hcons, numL_none]
          cases hx : hexv (t[pos]'hp) with
          | none => rfl
          | some d => exact absurd (hexv_lt hx).2 ha
        have HF := Lib.hid hfin; clear hfin hcons hdc
        obtain ⟨r, hr⟩ : ∃ r, r = runeOf (t.data.toList.drop pos) := ⟨_, rfl⟩
        obtain ⟨st, hst⟩ : ∃ st, st = step (t.data.toList.drop pos) := ⟨_, rfl⟩
        rw [← hr, ← hst] at hnx
        rw [← hr] at hhi hle
        clear hr hst
        go_wp2_with fail
        refine (indexRune_digits r _ hhi hle).mono ?_
        rintro e w2 ⟨rfl, hb2⟩
        go_wp2_with fail
        go_ret2
        exact ⟨by rw [HF.out]; rfl, below_then ((Below.refl _ w).alloc (Nat.le_refl _) _) hb2⟩
    · have hnx : ∀ ty, (Instr.next (.pointer (some ⟨w.heap.size, 0, none⟩)) true ty).run Try.prog (w.iter t pos) = _ := fun ty => run_next_end w t pos ty hp
      have hfin : numL 0 t.data.toList = some m := by
        rw [hnum.out, List.drop_eq_nil_of_le (by rw [← Lib.size_eq]; omega)]
        rfl
      have HF := Lib.hid hfin; clear hfin
      go_wp2_with fail
      go_ret2
      exact ⟨by rw [HF.out]; rfl, (Below.refl _ w).alloc (Nat.le_refl _) _⟩
end Go.Proofs.Ytjagpamefcgpoaa
