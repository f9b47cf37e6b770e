/-
  The plain mathematics of quoted texts: widths of runes, the pieces, what is parsed, and that it leads back. No program in it.
-/
import Derived.WalkKit
import Derived.Laws.RangeAny
import Derived.Lib.Strings
import Derived.Lib.RuneBytes
namespace Go.Proofs.Ytjagpamefcgpoaa
/-- is there a byte from lo to hi at that place? -/
def moreB (l : List UInt8) (k lo hi : Nat) : Bool :=
  match l[k]? with
  | some c => decide (lo ≤ c.toNat) && decide (c.toNat ≤ hi)
  | none => false
/-- how many bytes the first rune has; 0: a stray byte stands first -/
def width : List UInt8 → Nat
  | [] => 0
  | c :: l =>
    if c.toNat < 128 then 1
    else if 194 ≤ c.toNat ∧ c.toNat ≤ 223 then (if moreB l 0 128 191 then 2 else 0)
    else if 224 ≤ c.toNat ∧ c.toNat ≤ 239 then (if moreB l 0 (if c.toNat = 224 then 160 else 128) (if c.toNat = 237 then 159 else 191) && moreB l 1 128 191 then 3 else 0)
    else if 240 ≤ c.toNat ∧ c.toNat ≤ 244 then (if moreB l 0 (if c.toNat = 240 then 144 else 128) (if c.toNat = 244 then 143 else 191) && moreB l 1 128 191 && moreB l 2 128 191 then 4 else 0)
    else 0
/-- the kinds of a first rune, by its bytes -/
inductive Kind : List UInt8 → Prop
  | one (a : UInt8) (r : List UInt8) (h : a.toNat < 128) : Kind (a :: r)
  | two (a b : UInt8) (r : List UInt8) (h1 : 194 ≤ a.toNat) (h2 : a.toNat ≤ 223) (h3 : 128 ≤ b.toNat) (h4 : b.toNat ≤ 191) : Kind (a :: b :: r)
  | three (a b c : UInt8) (r : List UInt8) (h1 : 224 ≤ a.toNat) (h2 : a.toNat ≤ 239) (h3 : 128 ≤ b.toNat) (h4 : b.toNat ≤ 191) (h5 : a.toNat = 224 → 160 ≤ b.toNat) (h6 : a.toNat = 237 → b.toNat ≤ 159) (h7 : 128 ≤ c.toNat) (h8 : c.toNat ≤ 191) : Kind (a :: b :: c :: r)
  | four (a b c d : UInt8) (r : List UInt8) (h1 : 240 ≤ a.toNat) (h2 : a.toNat ≤ 244) (h3 : 128 ≤ b.toNat) (h4 : b.toNat ≤ 191) (h5 : a.toNat = 240 → 144 ≤ b.toNat) (h6 : a.toNat = 244 → b.toNat ≤ 143) (h7 : 128 ≤ c.toNat) (h8 : c.toNat ≤ 191) (h9 : 128 ≤ d.toNat) (h10 : d.toNat ≤ 191) : Kind (a :: b :: c :: d :: r)
theorem width_one {a : UInt8} {r : List UInt8} (h : a.toNat < 128) : width (a :: r) = 1 := by simp [width, h]
theorem width_two {a b : UInt8} {r : List UInt8} (h1 : 194 ≤ a.toNat) (h2 : a.toNat ≤ 223) (h3 : 128 ≤ b.toNat) (h4 : b.toNat ≤ 191) : width (a :: b :: r) = 2 := by
  have n1 : ¬ a.toNat < 128 := by omega
  simp [width, moreB, n1, h1, h2, h3, h4]
theorem width_three {a b c : UInt8} {r : List UInt8} (h1 : 224 ≤ a.toNat) (h2 : a.toNat ≤ 239) (h3 : 128 ≤ b.toNat) (h4 : b.toNat ≤ 191) (h5 : a.toNat = 224 → 160 ≤ b.toNat) (h6 : a.toNat = 237 → b.toNat ≤ 159) (h7 : 128 ≤ c.toNat) (h8 : c.toNat ≤ 191) : width (a :: b :: c :: r) = 3 := by
  have n1 : ¬ a.toNat < 128 := by omega
  have n2 : ¬ (194 ≤ a.toNat ∧ a.toNat ≤ 223) := by omega
  have e1 : (if a.toNat = 224 then 160 else 128) ≤ b.toNat := by split <;> omega
  have e2 : b.toNat ≤ (if a.toNat = 237 then 159 else 191) := by split <;> omega
  rw [width, if_neg n1, if_neg n2, if_pos ⟨h1, h2⟩]
  simp [moreB, e1, e2, h7, h8]
theorem width_four {a b c d : UInt8} {r : List UInt8} (h1 : 240 ≤ a.toNat) (h2 : a.toNat ≤ 244) (h3 : 128 ≤ b.toNat) (h4 : b.toNat ≤ 191) (h5 : a.toNat = 240 → 144 ≤ b.toNat) (h6 : a.toNat = 244 → b.toNat ≤ 143) (h7 : 128 ≤ c.toNat) (h8 : c.toNat ≤ 191) (h9 : 128 ≤ d.toNat) (h10 : d.toNat ≤ 191) : width (a :: b :: c :: d :: r) = 4 := by
  have n1 : ¬ a.toNat < 128 := by omega
  have n2 : ¬ (194 ≤ a.toNat ∧ a.toNat ≤ 223) := by omega
  have n3 : ¬ (224 ≤ a.toNat ∧ a.toNat ≤ 239) := by omega
  have e1 : (if a.toNat = 240 then 144 else 128) ≤ b.toNat := by split <;> omega
  have e2 : b.toNat ≤ (if a.toNat = 244 then 143 else 191) := by split <;> omega
  rw [width, if_neg n1, if_neg n2, if_neg n3, if_pos ⟨h1, h2⟩]
  simp [moreB, e1, e2, h7, h8, h9, h10]
theorem moreB_some {l : List UInt8} {k lo hi : Nat} (h : moreB l k lo hi = true) : ∃ c, l[k]? = some c ∧ lo ≤ c.toNat ∧ c.toNat ≤ hi := by
  unfold moreB at h
  cases hc : l[k]? with
  | none => rw [hc] at h; cases h
  | some c => rw [hc] at h; simp at h; exact ⟨c, rfl, h.1, h.2⟩
theorem kind_of {l : List UInt8} (h : width l ≠ 0) : Kind l := by
  cases l with
  | nil => exact absurd rfl h
  | cons a r =>
    rw [width] at h
    by_cases n1 : a.toNat < 128
    · exact .one a r n1
    rw [if_neg n1] at h
    by_cases n2 : 194 ≤ a.toNat ∧ a.toNat ≤ 223
    · rw [if_pos n2] at h
      have hm : moreB r 0 128 191 = true := by
        cases hm : moreB r 0 128 191 with
        | true => rfl
        | false => simp [hm] at h
      obtain ⟨b, hb, h3, h4⟩ := moreB_some hm
      cases r with
      | nil => simp at hb
      | cons b' r => simp at hb; subst hb; exact .two a b' r n2.1 n2.2 h3 h4
    rw [if_neg n2] at h
    by_cases n3 : 224 ≤ a.toNat ∧ a.toNat ≤ 239
    · rw [if_pos n3] at h
      have hm : (moreB r 0 (if a.toNat = 224 then 160 else 128) (if a.toNat = 237 then 159 else 191) && moreB r 1 128 191) = true := by
        cases hm : (moreB r 0 (if a.toNat = 224 then 160 else 128) (if a.toNat = 237 then 159 else 191) && moreB r 1 128 191) with
        | true => rfl
        | false => simp [hm] at h
      rw [Bool.and_eq_true] at hm
      obtain ⟨b, hb, h3, h4⟩ := moreB_some hm.1
      obtain ⟨c, hc, h7, h8⟩ := moreB_some hm.2
      match r, hb, hc with
      | b' :: c' :: r, hb, hc =>
        simp at hb hc
        subst hb; subst hc
        exact .three a b' c' r n3.1 n3.2 (by split at h3 <;> omega) (by split at h4 <;> omega) (fun e => by rw [if_pos e] at h3; exact h3) (fun e => by rw [if_pos e] at h4; exact h4) h7 h8
    rw [if_neg n3] at h
    by_cases n4 : 240 ≤ a.toNat ∧ a.toNat ≤ 244
    · rw [if_pos n4] at h
      have hm : (moreB r 0 (if a.toNat = 240 then 144 else 128) (if a.toNat = 244 then 143 else 191) && moreB r 1 128 191 && moreB r 2 128 191) = true := by
        cases hm : (moreB r 0 (if a.toNat = 240 then 144 else 128) (if a.toNat = 244 then 143 else 191) && moreB r 1 128 191 && moreB r 2 128 191) with
        | true => rfl
        | false => simp [hm] at h
      rw [Bool.and_eq_true, Bool.and_eq_true] at hm
      obtain ⟨b, hb, h3, h4⟩ := moreB_some hm.1.1
      obtain ⟨c, hc, h7, h8⟩ := moreB_some hm.1.2
      obtain ⟨d, hd, h9, h10⟩ := moreB_some hm.2
      match r, hb, hc, hd with
      | b' :: c' :: d' :: r, hb, hc, hd =>
        simp at hb hc hd
        subst hb; subst hc; subst hd
        exact .four a b' c' d' r n4.1 n4.2 (by split at h3 <;> omega) (by split at h4 <;> omega) (fun e => by rw [if_pos e] at h3; exact h3) (fun e => by rw [if_pos e] at h4; exact h4) h7 h8 h9 h10
    rw [if_neg n4] at h
    exact absurd rfl h
theorem width_kind {l : List UInt8} (k : Kind l) : width l ≠ 0 := by
  cases k with
  | one a r h => rw [width_one h]; decide
  | two a b r h1 h2 h3 h4 => rw [width_two h1 h2 h3 h4]; decide
  | three a b c r h1 h2 h3 h4 h5 h6 h7 h8 => rw [width_three h1 h2 h3 h4 h5 h6 h7 h8]; decide
  | four a b c d r h1 h2 h3 h4 h5 h6 h7 h8 h9 h10 => rw [width_four h1 h2 h3 h4 h5 h6 h7 h8 h9 h10]; decide
/-- the number of the first rune; 65533 for a stray byte -/
def runeOf (l : List UInt8) : Nat :=
  if width l = 1 then (l.getD 0 0).toNat
  else if width l = 2 then ((l.getD 0 0).toNat % 32) * 64 + (l.getD 1 0).toNat % 64
  else if width l = 3 then ((l.getD 0 0).toNat % 16) * 4096 + ((l.getD 1 0).toNat % 64) * 64 + (l.getD 2 0).toNat % 64
  else if width l = 4 then ((l.getD 0 0).toNat % 8) * 262144 + ((l.getD 1 0).toNat % 64) * 4096 + ((l.getD 2 0).toNat % 64) * 64 + (l.getD 3 0).toNat % 64
  else 65533
def step (l : List UInt8) : Nat := if width l = 0 then 1 else width l
theorem step_pos (l : List UInt8) : 1 ≤ step l := by unfold step; split <;> omega
theorem width_le (l : List UInt8) : width l ≤ l.length := by
  by_cases h : width l = 0
  · omega
  · cases kind_of h with
    | one a r hk => rw [width_one hk]; simp
    | two a b r h1 h2 h3 h4 => rw [width_two h1 h2 h3 h4]; simp
    | three a b c r h1 h2 h3 h4 h5 h6 h7 h8 => rw [width_three h1 h2 h3 h4 h5 h6 h7 h8]; simp
    | four a b c d r h1 h2 h3 h4 h5 h6 h7 h8 h9 h10 => rw [width_four h1 h2 h3 h4 h5 h6 h7 h8 h9 h10]; simp
theorem step_le (l : List UInt8) (h : l ≠ []) : step l ≤ l.length := by
  have := width_le l
  have : 0 < l.length := List.length_pos_iff.2 h
  unfold step; split <;> omega
theorem width_le4 (l : List UInt8) : width l ≤ 4 := by
  by_cases h : width l = 0
  · omega
  · cases kind_of h with
    | one a r hk => rw [width_one hk]; decide
    | two a b r h1 h2 h3 h4 => rw [width_two h1 h2 h3 h4]; decide
    | three a b c r h1 h2 h3 h4 h5 h6 h7 h8 => rw [width_three h1 h2 h3 h4 h5 h6 h7 h8]; decide
    | four a b c d r h1 h2 h3 h4 h5 h6 h7 h8 h9 h10 => rw [width_four h1 h2 h3 h4 h5 h6 h7 h8 h9 h10]; decide

/-! ### what ranging over a string reads -/
def decL (l : List UInt8) : Nat × Nat :=
  let at' (k : Nat) : Nat := (l.getD k 0).toNat
  let cont (k : Nat) : Bool := decide (k < l.length) && at' k / 64 == 2
  let b0 := at' 0
  if b0 < 0x80 then (b0, 1)
  else if b0 / 32 == 6 && cont 1 then
    let c := (b0 % 32) * 64 + at' 1 % 64
    if c ≥ 0x80 then (c, 2) else (Utf8.runeError, 1)
  else if b0 / 16 == 14 && cont 1 && cont 2 then
    let c := (b0 % 16) * 4096 + (at' 1 % 64) * 64 + at' 2 % 64
    if c ≥ 0x800 && Utf8.valid c then (c, 3) else (Utf8.runeError, 1)
  else if b0 / 8 == 30 && cont 1 && cont 2 && cont 3 then
    let c := (b0 % 8) * 262144 + (at' 1 % 64) * 4096 + (at' 2 % 64) * 64 + at' 3 % 64
    if c ≥ 0x10000 && Utf8.valid c then (c, 4) else (Utf8.runeError, 1)
  else (Utf8.runeError, 1)
theorem get_getD (s : ByteArray) (k : Nat) : s.get! k = s.data.toList.getD k 0 := by
  obtain ⟨⟨l⟩⟩ := s
  simp [ByteArray.get!, List.getD_eq_getElem?_getD]
  rfl
theorem decode_decL (s : ByteArray) (pos : Nat) : Utf8.decode s pos = decL (s.data.toList.drop pos) := by
  have e1 : ∀ k, s.get! (pos + k) = (s.data.toList.drop pos).getD k 0 := by
    intro k; rw [get_getD]; simp [List.getD_eq_getElem?_getD, List.getElem?_drop]
  have e2 : ∀ k, (pos + k < s.size) = (k < (s.data.toList.drop pos).length) := by
    intro k; rw [List.length_drop, Lib.size_eq]; apply propext; omega
  unfold Utf8.decode decL
  simp only [e1, e2]
theorem decL_stray {l : List UInt8} (hl : l ≠ []) (h : width l = 0) : decL l = (65533, 1) := by
  cases l with
  | nil => exact absurd rfl hl
  | cons a r =>
    have ha : a.toNat < 256 := a.toNat_lt
    have hno : ¬ Kind (a :: r) := fun k => width_kind k h
    unfold decL
    simp only [List.getD_cons_zero]
    split
    · rename_i h1; exact absurd (.one a r h1) hno
    split
    · rename_i h1 h2
      simp only [Bool.and_eq_true, decide_eq_true_eq, beq_iff_eq] at h2
      obtain ⟨h2, h3, h4⟩ := h2
      match r, h3, h4, hno with
      | b :: r, _, h4, hno =>
        simp only [List.getD_cons_succ, List.getD_cons_zero] at h4
        have hb : b.toNat < 256 := b.toNat_lt
        simp only [List.getD_cons_succ, List.getD_cons_zero]
        split
        · rename_i h5; exact absurd (.two a b r (by omega) (by omega) (by omega) (by omega)) hno
        · rfl
    split
    · rename_i h1 _ h2
      simp only [Bool.and_eq_true, decide_eq_true_eq, beq_iff_eq] at h2
      obtain ⟨⟨h2, h3, h4⟩, h5, h6⟩ := h2
      match r, h4, h5, h6, hno with
      | b :: c :: r, h4, _, h6, hno =>
        simp only [List.getD_cons_succ, List.getD_cons_zero] at h4 h6
        have hb : b.toNat < 256 := b.toNat_lt
        have hc : c.toNat < 256 := c.toNat_lt
        simp only [List.getD_cons_succ, List.getD_cons_zero]
        split
        · rename_i h7
          simp [Utf8.valid] at h7
          exact absurd (.three a b c r (by omega) (by omega) (by omega) (by omega) (by omega) (by omega) (by omega) (by omega)) hno
        · rfl
    split
    · rename_i h1 _ _ h2
      simp only [Bool.and_eq_true, decide_eq_true_eq, beq_iff_eq] at h2
      obtain ⟨⟨⟨h2, h3, h4⟩, h5, h6⟩, h7, h8⟩ := h2
      match r, h4, h6, h7, h8, hno with
      | b :: c :: d :: r, h4, h6, _, h8, hno =>
        simp only [List.getD_cons_succ, List.getD_cons_zero] at h4 h6 h8
        have hb : b.toNat < 256 := b.toNat_lt
        have hc : c.toNat < 256 := c.toNat_lt
        have hd : d.toNat < 256 := d.toNat_lt
        simp only [List.getD_cons_succ, List.getD_cons_zero]
        split
        · rename_i h7
          simp [Utf8.valid] at h7
          exact absurd (.four a b c d r (by omega) (by omega) (by omega) (by omega) (by omega) (by omega) (by omega) (by omega) (by omega) (by omega)) hno
        · rfl
    rfl
theorem decL_eq {l : List UInt8} (hl : l ≠ []) : decL l = (runeOf l, step l) := by
  by_cases h : width l = 0
  · rw [decL_stray hl h]; simp [runeOf, step, h]
  · have k := kind_of h
    clear h hl
    cases k with
    | one a r h =>
      simp [decL, runeOf, step, width_one h, h]
    | two a b r h1 h2 h3 h4 =>
      have n1 : ¬ a.toNat < 128 := by omega
      have n2 : a.toNat / 32 = 6 := by omega
      have n3 : b.toNat / 64 = 2 := by omega
      have n4 : 128 ≤ a.toNat % 32 * 64 + b.toNat % 64 := by omega
      simp [decL, runeOf, step, width_two h1 h2 h3 h4, n1, n2, n3, n4]
    | three a b c r h1 h2 h3 h4 h5 h6 h7 h8 =>
      have n1 : ¬ a.toNat < 128 := by omega
      have n2 : ¬ a.toNat / 32 = 6 := by omega
      have n3 : a.toNat / 16 = 14 := by omega
      have n4 : b.toNat / 64 = 2 := by omega
      have n5 : c.toNat / 64 = 2 := by omega
      have n6 : 2048 ≤ a.toNat % 16 * 4096 + b.toNat % 64 * 64 + c.toNat % 64 := by omega
      have n7 : Utf8.valid ((a.toNat : Int) % 16 * 4096 + (b.toNat : Int) % 64 * 64 + (c.toNat : Int) % 64) = true := by
        simp [Utf8.valid]; omega
      simp only [decL, runeOf, step, width_three h1 h2 h3 h4 h5 h6 h7 h8, List.getD_cons_zero, List.getD_cons_succ, n1, n3, n4, n5]
      simp [n2, n6, n7]
    | four a b c d r h1 h2 h3 h4 h5 h6 h7 h8 h9 h10 =>
      have n1 : ¬ a.toNat < 128 := by omega
      have n2 : ¬ a.toNat / 32 = 6 := by omega
      have n3 : ¬ a.toNat / 16 = 14 := by omega
      have n3b : a.toNat / 8 = 30 := by omega
      have n4 : b.toNat / 64 = 2 := by omega
      have n5 : c.toNat / 64 = 2 := by omega
      have n5b : d.toNat / 64 = 2 := by omega
      have n6 : 65536 ≤ a.toNat % 8 * 262144 + b.toNat % 64 * 4096 + c.toNat % 64 * 64 + d.toNat % 64 := by omega
      have n7 : Utf8.valid ((a.toNat : Int) % 8 * 262144 + (b.toNat : Int) % 64 * 4096 + (c.toNat : Int) % 64 * 64 + (d.toNat : Int) % 64) = true := by
        simp [Utf8.valid]; omega
      simp only [decL, runeOf, step, width_four h1 h2 h3 h4 h5 h6 h7 h8 h9 h10, List.getD_cons_zero, List.getD_cons_succ, n1, n3b, n4, n5, n5b]
      simp [n2, n3, n6, n7]
theorem drop_ne {s : ByteArray} {pos : Nat} (h : pos < s.size) : s.data.toList.drop pos ≠ [] := by
  intro e
  have : (s.data.toList.drop pos).length = 0 := by rw [e]; rfl
  rw [List.length_drop, ← Lib.size_eq] at this
  omega
theorem decode_eq (s : ByteArray) (pos : Nat) (h : pos < s.size) : Utf8.decode s pos = (runeOf (s.data.toList.drop pos), step (s.data.toList.drop pos)) := by
  rw [decode_decL, decL_eq (drop_ne h)]
/-! ### a rune's bytes -/
theorem u8_of (x : Int) (a : UInt8) (h : x = (a.toNat : Int)) : x.toNat.toUInt8 = a := by
  apply UInt8.toNat.inj
  have := a.toNat_lt
  rw [h]; simp
theorem encode_kind {l : List UInt8} (k : Kind l) : Lib.encodeRune (runeOf l : Nat) = l.take (width l) := by
  cases k with
  | one a r h =>
    rw [show runeOf (a :: r) = a.toNat by simp [runeOf, width_one h], width_one h]
    rw [Lib.encodeRune, Lib.encodeRuneZ_one (by omega) (by omega)]
    simp
  | two a b r h1 h2 h3 h4 =>
    rw [show runeOf (a :: b :: r) = a.toNat % 32 * 64 + b.toNat % 64 by simp [runeOf, width_two h1 h2 h3 h4], width_two h1 h2 h3 h4]
    rw [Lib.encodeRune, Lib.encodeRuneZ_two (by omega) (by omega)]
    simp only [List.map_cons, List.map_nil]
    rw [u8_of _ a (by omega), u8_of _ b (by omega)]
    rfl
  | three a b c r h1 h2 h3 h4 h5 h6 h7 h8 =>
    rw [show runeOf (a :: b :: c :: r) = a.toNat % 16 * 4096 + b.toNat % 64 * 64 + c.toNat % 64 by simp [runeOf, width_three h1 h2 h3 h4 h5 h6 h7 h8], width_three h1 h2 h3 h4 h5 h6 h7 h8]
    rw [Lib.encodeRune, Lib.encodeRuneZ_three (by omega)]
    simp only [List.map_cons, List.map_nil]
    rw [u8_of _ a (by omega), u8_of _ b (by omega), u8_of _ c (by omega)]
    rfl
  | four a b c d r h1 h2 h3 h4 h5 h6 h7 h8 h9 h10 =>
    rw [show runeOf (a :: b :: c :: d :: r) = a.toNat % 8 * 262144 + b.toNat % 64 * 4096 + c.toNat % 64 * 64 + d.toNat % 64 by simp [runeOf, width_four h1 h2 h3 h4 h5 h6 h7 h8 h9 h10], width_four h1 h2 h3 h4 h5 h6 h7 h8 h9 h10]
    rw [Lib.encodeRune, Lib.encodeRuneZ_four (by omega) (by omega)]
    simp only [List.map_cons, List.map_nil]
    rw [u8_of _ a (by omega), u8_of _ b (by omega), u8_of _ c (by omega), u8_of _ d (by omega)]
    rfl
theorem runeOf_le (l : List UInt8) : runeOf l ≤ 1114111 := by
  by_cases h : width l = 0
  · simp [runeOf, h]
  · cases kind_of h with
    | one a r hk => simp [runeOf, width_one hk]; omega
    | two a b r h1 h2 h3 h4 => simp [runeOf, width_two h1 h2 h3 h4]; omega
    | three a b c r h1 h2 h3 h4 h5 h6 h7 h8 => simp [runeOf, width_three h1 h2 h3 h4 h5 h6 h7 h8]; omega
    | four a b c d r h1 h2 h3 h4 h5 h6 h7 h8 h9 h10 => simp [runeOf, width_four h1 h2 h3 h4 h5 h6 h7 h8 h9 h10]; omega
/-- what isStray asks tells a stray byte -/
theorem stray_iff (l : List UInt8) (hl : l ≠ []) : (decide (runeOf l = 65533) && !Lib.hasPrefix l [239, 191, 189]) = decide (width l = 0) := by
  by_cases h : width l = 0
  · have e : runeOf l = 65533 := by simp [runeOf, h]
    have np : Lib.hasPrefix l [239, 191, 189] = false := by
      cases hp : Lib.hasPrefix l [239, 191, 189] with
      | false => rfl
      | true =>
        exfalso
        unfold Lib.hasPrefix at hp
        rw [List.isPrefixOf_iff_prefix] at hp
        obtain ⟨r, rfl⟩ := hp
        have : width ([239, 191, 189] ++ r) = 3 := width_three (a := 239) (b := 191) (c := 189) (by decide) (by decide) (by decide) (by decide) (by decide) (by decide) (by decide) (by decide)
        omega
    simp [h, e, np]
  · rw [decide_eq_false h]
    by_cases e : runeOf l = 65533
    · have k := kind_of h
      have he := encode_kind k
      rw [e] at he
      have hp : Lib.hasPrefix l [239, 191, 189] = true := by
        unfold Lib.hasPrefix
        rw [List.isPrefixOf_iff_prefix]
        have e2 : Lib.encodeRune ((65533 : Nat) : Int) = [239, 191, 189] := by decide
        rw [e2] at he
        rw [he]
        exact List.take_prefix _ _
      simp [hp]
    · simp [e]
/-! ### quoted texts -/
def hexd (d : Nat) : UInt8 := if d < 10 then UInt8.ofNat (48 + d) else UInt8.ofNat (87 + d)
def digs (n : Nat) : Nat → List UInt8
  | 0 => []
  | k + 1 => hexd (n / 16 ^ k % 16) :: digs n k
theorem digs_length (n k : Nat) : (digs n k).length = k := by
  induction k with
  | zero => rfl
  | succ k ih => simp [digs, ih]
theorem digs_get (n k i : Nat) (h : i < k) : (digs n k)[i]? = some (hexd (n / 16 ^ (k - 1 - i) % 16)) := by
  induction k generalizing i with
  | zero => omega
  | succ k ih =>
    cases i with
    | zero => simp [digs]
    | succ i =>
      simp only [digs, List.getElem?_cons_succ]
      rw [ih i (by omega)]
      congr 5
      omega
/-- what stands for the first rune, or stray byte -/
def oneL (l : List UInt8) : List UInt8 :=
  let c := (l.getD 0 0).toNat
  if width l = 0 then [92, 120, hexd (c / 16), hexd (c % 16)]
  else if width l = 1 ∧ (c = 34 ∨ c = 92) then 92 :: l.take 1
  else if width l = 1 ∧ (c < 32 ∨ c = 127) then [92, 117, 48, 48, hexd (c / 16), hexd (c % 16)]
  else if width l = 2 ∧ c = 194 ∧ (l.getD 1 0).toNat < 160 then [92, 117, 48, 48, hexd ((l.getD 1 0).toNat / 16), hexd ((l.getD 1 0).toNat % 16)]
  else l.take (width l)
/-- how appendRune spells a rune -/
def spell (r : Nat) : List UInt8 :=
  if r = 34 ∨ r = 92 then 92 :: Lib.encodeRune (r : Int)
  else if r < 32 ∨ (127 ≤ r ∧ r < 160) then 92 :: 117 :: digs r 4
  else Lib.encodeRune (r : Int)
theorem digs_two (c : Nat) (h : c < 256) : digs c 2 = [hexd (c / 16), hexd (c % 16)] := by
  simp [digs]
  congr 1
  omega
theorem digs_four (c : Nat) (h : c < 256) : digs c 4 = [48, 48, hexd (c / 16), hexd (c % 16)] := by
  have e1 : c / 4096 % 16 = 0 := by omega
  have e2 : c / 256 % 16 = 0 := by omega
  have e3 : c / 16 % 16 = c / 16 := by omega
  simp [digs, e1, e2, e3]
  decide
theorem spell_kind {l : List UInt8} (k : Kind l) : spell (runeOf l) = oneL l := by
  have he := encode_kind k
  cases k with
  | one a r h =>
    have er : runeOf (a :: r) = a.toNat := by simp [runeOf, width_one h]
    rw [er] at he
    rw [er, spell, oneL, he, width_one h]
    simp only [List.getD_cons_zero]
    by_cases h1 : a.toNat = 34 ∨ a.toNat = 92
    · simp [h1]
    · by_cases h2 : a.toNat < 32 ∨ (127 ≤ a.toNat ∧ a.toNat < 160)
      · have h3 : a.toNat < 32 ∨ a.toNat = 127 := by omega
        rw [if_neg h1, if_pos h2, digs_four _ a.toNat_lt]
        simp [h1, h3]
      · have h3 : ¬ (a.toNat < 32 ∨ a.toNat = 127) := by omega
        simp [h1, h2, h3]
  | two a b r h1 h2 h3 h4 =>
    have er : runeOf (a :: b :: r) = a.toNat % 32 * 64 + b.toNat % 64 := by simp [runeOf, width_two h1 h2 h3 h4]
    rw [er] at he
    rw [er, spell, oneL, he, width_two h1 h2 h3 h4]
    simp only [List.getD_cons_zero, List.getD_cons_succ]
    rw [if_neg (by omega)]
    by_cases h5 : a.toNat = 194 ∧ b.toNat < 160
    · have e : a.toNat % 32 * 64 + b.toNat % 64 = b.toNat := by omega
      rw [if_pos (by omega), e, digs_four _ b.toNat_lt]
      simp [h5]
    · rw [if_neg (by omega)]
      simp only [h5]
      simp
  | three a b c r h1 h2 h3 h4 h5 h6 h7 h8 =>
    have er : runeOf (a :: b :: c :: r) = a.toNat % 16 * 4096 + b.toNat % 64 * 64 + c.toNat % 64 := by simp [runeOf, width_three h1 h2 h3 h4 h5 h6 h7 h8]
    rw [er] at he
    rw [er, spell, oneL, he, width_three h1 h2 h3 h4 h5 h6 h7 h8, if_neg (by omega), if_neg (by omega)]
    simp
  | four a b c d r h1 h2 h3 h4 h5 h6 h7 h8 h9 h10 =>
    have er : runeOf (a :: b :: c :: d :: r) = a.toNat % 8 * 262144 + b.toNat % 64 * 4096 + c.toNat % 64 * 64 + d.toNat % 64 := by simp [runeOf, width_four h1 h2 h3 h4 h5 h6 h7 h8 h9 h10]
    rw [er] at he
    rw [er, spell, oneL, he, width_four h1 h2 h3 h4 h5 h6 h7 h8 h9 h10, if_neg (by omega), if_neg (by omega)]
    simp
theorem stray_one {l : List UInt8} (h : width l = 0) : 92 :: 120 :: digs (l.getD 0 0).toNat 2 = oneL l := by
  rw [digs_two _ (l.getD 0 0).toNat_lt, oneL]
  simp [h]
theorem oneL_le (l : List UInt8) : (oneL l).length ≤ 6 := by
  have := width_le4 l
  unfold oneL
  simp only []
  repeat' split
  all_goals simp
  all_goals omega
/-- what stands between the signs -/
def body (l : List UInt8) : List UInt8 :=
  if _h : l = [] then [] else oneL l ++ body (l.drop (step l))
termination_by l.length
decreasing_by
  have h1 := step_pos l
  have h2 : 0 < l.length := List.length_pos_iff.2 _h
  rw [List.length_drop]; omega
theorem body_nil : body [] = [] := by rw [body]; simp
theorem body_step {l : List UInt8} (h : l ≠ []) : body l = oneL l ++ body (l.drop (step l)) := by rw [body]; simp [h]
def printL (l : List UInt8) : List UInt8 := 34 :: (body l ++ [34])
/-- by a rune or stray byte at a time -/
theorem by_runes {P : List UInt8 → Prop} (h0 : P []) (hs : ∀ l, l ≠ [] → P (l.drop (step l)) → P l) : ∀ l, P l := by
  intro l
  generalize hn : l.length = n
  induction n using Nat.strongRecOn generalizing l with
  | _ n ih =>
    by_cases h : l = []
    · rw [h]; exact h0
    · refine hs l h (ih _ ?_ _ rfl)
      have h1 := step_pos l
      have h2 : 0 < l.length := List.length_pos_iff.2 h
      rw [List.length_drop]; omega
theorem body_le (l : List UInt8) : (body l).length ≤ 6 * l.length := by
  refine by_runes (P := fun l => (body l).length ≤ 6 * l.length) (by simp [body_nil]) ?_ l
  intro l h ih
  have h1 := step_pos l
  have h2 : 0 < l.length := List.length_pos_iff.2 h
  have h3 := oneL_le l
  rw [body_step h, List.length_append]
  rw [List.length_drop] at ih
  omega
/-! ### the way back -/
def hexv (c : UInt8) : Option Nat :=
  if 48 ≤ c.toNat ∧ c.toNat ≤ 57 then some (c.toNat - 48) else if 97 ≤ c.toNat ∧ c.toNat ≤ 102 then some (c.toNat - 87) else none
theorem hexv_hexd (d : Nat) (h : d < 16) : hexv (hexd d) = some d := by
  have : ∀ d, d < 16 → hexv (hexd d) = some d := by decide
  exact this d h
theorem hexv_lt {c : UInt8} {d : Nat} (h : hexv c = some d) : d < 16 ∧ c.toNat < 128 := by
  unfold hexv at h
  split at h
  · simp at h; omega
  · split at h
    · simp at h; omega
    · cases h
def numL : Nat → List UInt8 → Option Nat
  | n, [] => some n
  | n, c :: l => match hexv c with
    | some d => numL (n * 16 + d) l
    | none => none
def escL : List UInt8 → List UInt8 × Nat
  | [] => ([], 0)
  | c :: r =>
    if c = 34 ∨ c = 92 then ([c], 1)
    else if c = 120 then (if r.length < 2 then ([], 0) else match numL 0 (r.take 2) with
      | some n => ([UInt8.ofNat n], 3)
      | none => ([], 0))
    else if c = 117 then (if r.length < 4 then ([], 0) else match numL 0 (r.take 4) with
      | some n => (Lib.encodeRune (n : Int), 5)
      | none => ([], 0))
    else ([], 0)
def unesc (l : List UInt8) : Option (List UInt8) :=
  match l with
  | [] => some []
  | c :: r => if c = 92 then (if (escL r).2 = 0 then none else (unesc (r.drop (escL r).2)).map ((escL r).1 ++ ·)) else (unesc r).map (c :: ·)
termination_by l.length
decreasing_by
  · simp only [List.length_drop, List.length_cons]; omega
  · simp
theorem unesc_nil : unesc [] = some [] := by rw [unesc]
theorem unesc_slash (r : List UInt8) : unesc (92 :: r) = if (escL r).2 = 0 then none else (unesc (r.drop (escL r).2)).map ((escL r).1 ++ ·) := by rw [unesc]; simp
theorem unesc_other {c : UInt8} (h : c ≠ 92) (r : List UInt8) : unesc (c :: r) = (unesc r).map (c :: ·) := by rw [unesc]; simp [h]
theorem unesc_plain {p : List UInt8} (h : ∀ c ∈ p, c ≠ 92) (r : List UInt8) : unesc (p ++ r) = (unesc r).map (p ++ ·) := by
  induction p with
  | nil => simp
  | cons c p ih =>
    rw [List.cons_append, unesc_other (h c (by simp)), ih (fun x hx => h x (by simp [hx])), Option.map_map]
    rfl
theorem numL_two (a b : Nat) (ha : a < 16) (hb : b < 16) : numL 0 [hexd a, hexd b] = some (a * 16 + b) := by
  simp [numL, hexv_hexd a ha, hexv_hexd b hb]
theorem numL_four (a b : Nat) (ha : a < 16) (hb : b < 16) : numL 0 [48, 48, hexd a, hexd b] = some (a * 16 + b) := by
  have e : hexv 48 = some 0 := by decide
  simp [numL, e, hexv_hexd a ha, hexv_hexd b hb]
theorem esc_x (c : UInt8) (r : List UInt8) : escL (120 :: hexd (c.toNat / 16) :: hexd (c.toNat % 16) :: r) = ([c], 3) := by
  have hc := c.toNat_lt
  have h1 : numL 0 (List.take 2 (hexd (c.toNat / 16) :: hexd (c.toNat % 16) :: r)) = some c.toNat := by
    rw [List.take_succ_cons, List.take_succ_cons, List.take_zero, numL_two _ _ (by omega) (by omega)]
    congr 1; omega
  rw [escL, h1]
  simp
theorem esc_u (n : Nat) (hn : n < 256) (r : List UInt8) : escL (117 :: 48 :: 48 :: hexd (n / 16) :: hexd (n % 16) :: r) = (Lib.encodeRune (n : Int), 5) := by
  have h1 : numL 0 (List.take 4 (48 :: 48 :: hexd (n / 16) :: hexd (n % 16) :: r)) = some n := by
    rw [List.take_succ_cons, List.take_succ_cons, List.take_succ_cons, List.take_succ_cons, List.take_zero, numL_four _ _ (by omega) (by omega)]
    congr 1; omega
  rw [escL, h1]
  simp
theorem unesc_one {l : List UInt8} (hl : l ≠ []) (r : List UInt8) : unesc (oneL l ++ r) = (unesc r).map (l.take (step l) ++ ·) := by
  by_cases h : width l = 0
  · obtain ⟨c, q, rfl⟩ := List.exists_cons_of_ne_nil hl
    have e : oneL (c :: q) = [92, 120, hexd (c.toNat / 16), hexd (c.toNat % 16)] := by simp [oneL, h]
    rw [e]
    simp only [List.cons_append, List.nil_append]
    rw [unesc_slash, esc_x]
    simp [step, h]
  · have k := kind_of h
    have hs : step l = width l := by simp [step, h]
    rw [hs]
    clear hs hl
    have he := encode_kind k
    cases k with
    | one a q hk =>
      rw [width_one hk] at he
      by_cases h1 : a.toNat = 34 ∨ a.toNat = 92
      · have e : oneL (a :: q) = [92, a] := by simp [oneL, width_one hk, h1]
        have e2 : a = 34 ∨ a = 92 := by
          rcases h1 with h1 | h1
          · left; exact UInt8.toNat.inj h1
          · right; exact UInt8.toNat.inj h1
        have e3 : escL (a :: r) = ([a], 1) := by simp [escL, e2]
        rw [e]
        simp only [List.cons_append, List.nil_append]
        rw [unesc_slash, e3, width_one hk]
        simp
      · by_cases h2 : a.toNat < 32 ∨ a.toNat = 127
        · have e : oneL (a :: q) = [92, 117, 48, 48, hexd (a.toNat / 16), hexd (a.toNat % 16)] := by simp [oneL, width_one hk, h1, h2]
          have er : runeOf (a :: q) = a.toNat := by simp [runeOf, width_one hk]
          rw [er] at he
          rw [e]
          simp only [List.cons_append, List.nil_append]
          rw [unesc_slash, esc_u _ a.toNat_lt, he, width_one hk]
          simp
        · have e : oneL (a :: q) = (a :: q).take 1 := by simp [oneL, width_one hk, h1, h2]
          rw [e, width_one hk, unesc_plain]
          intro c hc
          simp at hc
          subst hc
          intro hh; subst hh; exact h1 (.inr rfl)
    | two a b q h1 h2 h3 h4 =>
      rw [width_two h1 h2 h3 h4] at he ⊢
      by_cases h5 : a.toNat = 194 ∧ b.toNat < 160
      · have e : oneL (a :: b :: q) = [92, 117, 48, 48, hexd (b.toNat / 16), hexd (b.toNat % 16)] := by simp [oneL, width_two h1 h2 h3 h4, h5]
        have er : runeOf (a :: b :: q) = b.toNat := by simp [runeOf, width_two h1 h2 h3 h4]; omega
        rw [er] at he
        rw [e]
        simp only [List.cons_append, List.nil_append]
        rw [unesc_slash, esc_u _ b.toNat_lt, he]
        simp
      · have e : oneL (a :: b :: q) = (a :: b :: q).take 2 := by simp only [oneL, width_two h1 h2 h3 h4, List.getD_cons_zero, List.getD_cons_succ, h5]; simp
        rw [e, unesc_plain]
        intro c hc
        simp at hc
        rintro rfl
        rcases hc with rfl | rfl <;> simp at h1 h3
    | three a b c q h1 h2 h3 h4 h5 h6 h7 h8 =>
      have e : oneL (a :: b :: c :: q) = (a :: b :: c :: q).take 3 := by simp [oneL, width_three h1 h2 h3 h4 h5 h6 h7 h8]
      rw [e, width_three h1 h2 h3 h4 h5 h6 h7 h8, unesc_plain]
      intro x hc
      simp at hc
      rintro rfl
      rcases hc with rfl | rfl | rfl <;> simp at h1 h3 h7
    | four a b c d q h1 h2 h3 h4 h5 h6 h7 h8 h9 h10 =>
      have e : oneL (a :: b :: c :: d :: q) = (a :: b :: c :: d :: q).take 4 := by simp [oneL, width_four h1 h2 h3 h4 h5 h6 h7 h8 h9 h10]
      rw [e, width_four h1 h2 h3 h4 h5 h6 h7 h8 h9 h10, unesc_plain]
      intro x hc
      simp at hc
      rintro rfl
      rcases hc with rfl | rfl | rfl | rfl <;> simp at h1 h3 h7 h9
theorem unesc_body (l : List UInt8) : unesc (body l) = some l := by
  refine by_runes (P := fun l => unesc (body l) = some l) (by rw [body_nil, unesc_nil]) ?_ l
  intro l h ih
  rw [body_step h, unesc_one h, ih]
  simp
theorem body_inj {a b : List UInt8} (h : body a = body b) : a = b := by
  have := unesc_body a
  rw [h, unesc_body] at this
  exact (Option.some.inj this).symm
theorem printL_inj {a b : List UInt8} (h : printL a = printL b) : a = b := by
  unfold printL at h
  injection h with _ h
  exact body_inj (List.append_cancel_right h)
/-- what withoutSigns leaves -/
def insideL (s : List UInt8) : List UInt8 := Lib.trimSuffix (Lib.trimPrefix s [34]) [34]
def signsL (s : List UInt8) : Bool := Lib.hasPrefix s [34] && Lib.hasSuffix (Lib.trimPrefix s [34]) [34]
def parseL (s : List UInt8) : Option (List UInt8) :=
  if signsL s = true then
    match unesc (insideL s) with
    | some b => if printL b = s then some b else none
    | none => none
  else none
theorem parse_print (l : List UInt8) : parseL (printL l) = some l := by
  have h1 : Lib.hasPrefix (printL l) [34] = true := by simp [Lib.hasPrefix, printL]
  have h2 : Lib.trimPrefix (printL l) [34] = body l ++ [34] := by simp [Lib.trimPrefix, h1]; simp [printL]
  have h3 : Lib.hasSuffix (body l ++ [34]) [34] = true := by simp [Lib.hasSuffix, List.isSuffixOf_iff_suffix]
  have h4 : insideL (printL l) = body l := by simp [insideL, h2, Lib.trimSuffix, h3]
  simp [parseL, signsL, h1, h2, h3, h4, unesc_body]
theorem print_parse {s b : List UInt8} (h : parseL s = some b) : printL b = s := by
  unfold parseL at h
  split at h
  · split at h
    · split at h
      · cases h; assumption
      · cases h
    · cases h
  · cases h
/-! ### counts -/
def countL (l : List UInt8) : Nat × Nat :=
  if h : l = [] then (0, 0) else ((countL (l.drop (step l))).1 + (if width l = 0 then 0 else 1), (countL (l.drop (step l))).2 + (if width l = 0 then 1 else 0))
termination_by l.length
decreasing_by
  all_goals
    have h1 := step_pos l
    have h2 : 0 < l.length := List.length_pos_iff.2 h
    rw [List.length_drop]; omega
theorem countL_nil : countL [] = (0, 0) := by rw [countL]; simp
theorem countL_step {l : List UInt8} (h : l ≠ []) : countL l = ((countL (l.drop (step l))).1 + (if width l = 0 then 0 else 1), (countL (l.drop (step l))).2 + (if width l = 0 then 1 else 0)) := by
  rw [countL]; simp [h]
/-! ### texts that can be read -/
def okRune (r : Nat) : Bool := decide (32 ≤ r) && !(decide (127 ≤ r) && decide (r < 160))
inductive Plain : List UInt8 → Prop
  | nil : Plain []
  | cons (l : List UInt8) (hw : width l ≠ 0) (hr : okRune (runeOf l) = true) (h : Plain (l.drop (width l))) : Plain l
theorem kind_append {a : List UInt8} (k : Kind a) (b : List UInt8) : width (a ++ b) = width a ∧ runeOf (a ++ b) = runeOf a := by
  cases k with
  | one x r h => simp only [List.cons_append]; simp [runeOf, width_one h]
  | two x y r h1 h2 h3 h4 => simp only [List.cons_append]; simp [runeOf, width_two h1 h2 h3 h4]
  | three x y z r h1 h2 h3 h4 h5 h6 h7 h8 => simp only [List.cons_append]; simp [runeOf, width_three h1 h2 h3 h4 h5 h6 h7 h8]
  | four x y z t r h1 h2 h3 h4 h5 h6 h7 h8 h9 h10 => simp only [List.cons_append]; simp [runeOf, width_four h1 h2 h3 h4 h5 h6 h7 h8 h9 h10]
theorem Plain.append {a b : List UInt8} (ha : Plain a) (hb : Plain b) : Plain (a ++ b) := by
  induction ha with
  | nil => exact hb
  | cons l hw hr h ih =>
    obtain ⟨e1, e2⟩ := kind_append (kind_of hw) b
    refine .cons _ (by rw [e1]; exact hw) (by rw [e2]; exact hr) ?_
    rw [e1, List.drop_append_of_le_length (width_le l)]
    exact ih
theorem plain_ascii : ∀ {l : List UInt8}, (∀ c ∈ l, 32 ≤ c.toNat ∧ c.toNat < 127) → Plain l
  | [], _ => .nil
  | c :: l, h => by
    have hc := h c (by simp)
    have hw : width (c :: l) = 1 := width_one (by omega)
    refine .cons _ (by rw [hw]; decide) ?_ (by rw [hw]; exact plain_ascii (fun x hx => h x (List.mem_cons_of_mem _ hx)))
    rw [show runeOf (c :: l) = c.toNat by simp [runeOf, hw]]
    simp [okRune]; omega
theorem hexd_ascii (d : Nat) (h : d < 16) : 32 ≤ (hexd d).toNat ∧ (hexd d).toNat < 127 := by
  have : ∀ d, d < 16 → 32 ≤ (hexd d).toNat ∧ (hexd d).toNat < 127 := by decide
  exact this d h
theorem plain_take {l : List UInt8} (hw : width l ≠ 0) (hr : okRune (runeOf l) = true) : Plain (l.take (width l)) := by
  have k := kind_of hw
  have e : width (l.take (width l)) = width l ∧ runeOf (l.take (width l)) = runeOf l := by
    cases k with
    | one x r h => simp [runeOf, width_one h]
    | two x y r h1 h2 h3 h4 => simp [runeOf, width_two h1 h2 h3 h4]
    | three x y z r h1 h2 h3 h4 h5 h6 h7 h8 => simp [runeOf, width_three h1 h2 h3 h4 h5 h6 h7 h8]
    | four x y z t r h1 h2 h3 h4 h5 h6 h7 h8 h9 h10 => simp [runeOf, width_four h1 h2 h3 h4 h5 h6 h7 h8 h9 h10]
  refine .cons _ (by rw [e.1]; exact hw) (by rw [e.2]; exact hr) ?_
  rw [e.1, List.drop_eq_nil_of_le (by rw [List.length_take]; omega)]
  exact .nil
theorem plain_one {l : List UInt8} (hl : l ≠ []) : Plain (oneL l) := by
  by_cases h : width l = 0
  · have hc := (l.getD 0 0).toNat_lt
    have a1 := hexd_ascii ((l.getD 0 0).toNat / 16) (by omega)
    have a2 := hexd_ascii ((l.getD 0 0).toNat % 16) (by omega)
    have e : oneL l = [92, 120, hexd ((l.getD 0 0).toNat / 16), hexd ((l.getD 0 0).toNat % 16)] := by simp only [oneL, h, if_true]
    rw [e]
    refine plain_ascii ?_
    intro c hc
    simp only [List.mem_cons, List.not_mem_nil, or_false] at hc
    rcases hc with rfl | rfl | rfl | rfl
    · decide
    · decide
    · exact a1
    · exact a2
  · have k := kind_of h
    have hu : ∀ n : Nat, n < 256 → Plain [92, 117, 48, 48, hexd (n / 16), hexd (n % 16)] := by
      intro n hn
      have a1 := hexd_ascii (n / 16) (by omega)
      have a2 := hexd_ascii (n % 16) (by omega)
      refine plain_ascii ?_
      intro c hc
      simp only [List.mem_cons, List.not_mem_nil, or_false] at hc
      rcases hc with rfl | rfl | rfl | rfl | rfl | rfl
      · decide
      · decide
      · decide
      · decide
      · exact a1
      · exact a2
    unfold oneL
    simp only []
    rw [if_neg h]
    split
    · rename_i g1
      refine plain_ascii ?_
      intro c hc
      obtain ⟨x, q, rfl⟩ := List.exists_cons_of_ne_nil hl
      simp at hc g1
      rcases hc with rfl | rfl
      · decide
      · omega
    · rename_i g1
      split
      · exact hu _ (l.getD 0 0).toNat_lt
      · rename_i g2
        split
        · exact hu _ (l.getD 1 0).toNat_lt
        · rename_i g3
          refine plain_take h ?_
          cases k with
          | one a r hk =>
            rw [show runeOf (a :: r) = a.toNat by simp [runeOf, width_one hk]]
            simp [width_one hk] at g2
            simp [okRune]; omega
          | two a b r h1 h2 h3' h4 =>
            rw [show runeOf (a :: b :: r) = a.toNat % 32 * 64 + b.toNat % 64 by simp [runeOf, width_two h1 h2 h3' h4]]
            simp [width_two h1 h2 h3' h4] at g3
            simp [okRune]; omega
          | three a b c r h1 h2 h3 h4 h5 h6 h7 h8 =>
            rw [show runeOf (a :: b :: c :: r) = a.toNat % 16 * 4096 + b.toNat % 64 * 64 + c.toNat % 64 by simp [runeOf, width_three h1 h2 h3 h4 h5 h6 h7 h8]]
            simp [okRune]; omega
          | four a b c d r h1 h2 h3 h4 h5 h6 h7 h8 h9 h10 =>
            rw [show runeOf (a :: b :: c :: d :: r) = a.toNat % 8 * 262144 + b.toNat % 64 * 4096 + c.toNat % 64 * 64 + d.toNat % 64 by simp [runeOf, width_four h1 h2 h3 h4 h5 h6 h7 h8 h9 h10]]
            simp [okRune]; omega
theorem plain_body (l : List UInt8) : Plain (body l) := by
  refine by_runes (P := fun l => Plain (body l)) (by rw [body_nil]; exact .nil) ?_ l
  intro l h ih
  rw [body_step h]
  exact (plain_one h).append ih
theorem plain_print (l : List UInt8) : Plain (printL l) := by
  have h : Plain [34] := plain_ascii (by intro c hc; simp at hc; subst hc; decide)
  exact h.append ((plain_body l).append h)
theorem plain_count {l : List UInt8} (h : Plain l) : (countL l).2 = 0 := by
  induction h with
  | nil => rw [countL_nil]
  | cons l hw hr h ih =>
    have hl : l ≠ [] := by rintro rfl; exact hw rfl
    rw [countL_step hl]
    simp [step, hw, ih]
end Go.Proofs.Ytjagpamefcgpoaa
