/-
  The contract of quote.escape.
-/
import Derived.Test.YtjagpamefcgpoaaParse
namespace Go.Proofs.Ytjagpamefcgpoaa
open Go.RowKit
set_option maxHeartbeats 400000
set_option maxRecDepth 100000
theorem numL_lt {l : List UInt8} : ∀ {m n : Nat}, numL m l = some n → n < (m + 1) * 16 ^ l.length := by
  induction l with
  | nil => intro m n h; simp [numL] at h; subst h; simp
  | cons c l ih =>
    intro m n h
    cases hd : hexv c with
    | none => rw [numL_none hd] at h; cases h
    | some d =>
      rw [numL_some hd] at h
      have h1 := ih h
      have h2 := (hexv_lt hd).1
      have h3 : (m * 16 + d + 1) * 16 ^ l.length ≤ ((m + 1) * 16) * 16 ^ l.length := Nat.mul_le_mul_right _ (by omega)
      rw [List.length_cons, Nat.pow_succ, Nat.mul_comm (16 ^ l.length) 16, ← Nat.mul_assoc]
      omega
theorem prefix_any (s : ByteArray) (x : UInt8) (b : Bool) (w : World) (hb : Lib.hasPrefix s.data.toList [x] = b) :
    Calls Try.prog 22 #[.string s, .string ⟨#[x]⟩] w fun e w' => e = .returned (.bool b) ∧ w = w' := by
  refine (Try.strings_HasPrefix s ⟨#[x]⟩ w).mono ?_
  rintro e w' ⟨rfl, rfl⟩
  exact ⟨ret_bool hb, rfl⟩
def EscPost (l : List UInt8) (w : World) (e : Ending) (w' : World) : Prop :=
  ∃ A c, e = .returned (.tuple #[.slice A (escL l).1.length c, .int .i64 ((escL l).2 : Int)]) ∧ Bts w' A (escL l).1 ∧ Below w.heap.size w w'
theorem prefix_cons {s : ByteArray} {c : UInt8} {r : List UInt8} (h : s.data.toList = c :: r) (x : UInt8) : Lib.hasPrefix s.data.toList [x] = (x == c) := by
  rw [h]; simp [Lib.hasPrefix, List.isPrefixOf]
theorem below_bytes (w : World) (s : ByteArray) : Below w.heap.size w (Lib.bytesWorld w 5 s) := by
  have h : (Lib.bytesWorld w 5 s).heap.size = w.heap.size + 1 := Lib.bytesWorld_size w 5 s
  refine ⟨?_, ?_, ?_, by omega, fun k hk => Lib.bytesWorld_at_old w 5 s k hk⟩
  all_goals
    unfold Lib.bytesWorld World.freeze
    split <;> rfl
theorem bts_bytes (w : World) (s : ByteArray) : Bts (Lib.bytesWorld w 5 s) (some ⟨w.heap.size, 0, none⟩) s.data.toList := by
  refine .inr ⟨w.heap.size, 0, rfl, by rw [Lib.bytesWorld_size]; omega, fun i hi => ?_⟩
  rw [Nat.zero_add, Lib.bytesWorld_cell w 5 s i (by rw [Lib.size_eq]; exact hi)]
  congr 2
  rw [List.getD_eq_getElem?_getD, List.getElem?_eq_getElem hi]; rfl
theorem conv_bytes (s : ByteArray) (w : World) : (convert 9 22 (.string s)).run Try.prog w = .ok (.slice (some ⟨w.heap.size, 0, none⟩) s.size (grownCap w s.size 0 5)) (Lib.bytesWorld w 5 s) :=
  Lib.run_convert_string_bytes w 9 22 5 s Try.underlying9 Try.underlying22 Try.underlying5
theorem esc_sign (s : ByteArray) (c : UInt8) (r : List UInt8) (w : World) (hs : s.data.toList = c :: r) (hz : s.size ≤ 5000) (hc : c = 34 ∨ c = 92) :
    Calls Try.prog 27 #[.string s] w (EscPost s.data.toList w) := by
  have hsz : 1 ≤ s.size := by rw [Lib.size_eq, hs]; simp
  have he : escL s.data.toList = ([c], 1) := by rw [hs]; simp [escL, hc]
  have hcv := conv_bytes (s.extract 0 1)
  have hx : (s.extract 0 1).data.toList = [c] := by rw [Lib.extract_data, hs]; simp
  have hxs : (s.extract 0 1).size = 1 := by rw [Lib.size_eq, hx]; rfl
  have p1 := prefix_any s 34 _ w (prefix_cons hs 34)
  have p2 := prefix_any s 92 _ w (prefix_cons hs 92)
  have HE := Lib.hid he; clear he
  have HX := Lib.hid hx; clear hx
  have HXS := Lib.hid hxs; clear hxs
  have HS := Lib.hid hs; clear hs
  rcases hc with rfl | rfl
  all_goals
    have P1 := Lib.hid p1; clear p1
    have P2 := Lib.hid p2; clear p2
    go_enter Try.func27, Try.ntmps27
    go_wp2_with fail
    refine P1.out.mono ?_
    rintro e w' ⟨rfl, rfl⟩
    go_wp2_with fail
    try (refine P2.out.mono ?_; rintro e w' ⟨rfl, rfl⟩)
    go_wp2_with fail
    go_ret2
    refine ⟨some ⟨w.heap.size, 0, none⟩, grownCap w (s.extract 0 1).size 0 5, ?_, ?_, below_bytes w _⟩
    · rw [HE.out, HXS.out]; rfl
    · rw [HE.out, ← HX.out]; exact bts_bytes w _
theorem esc_none (s : ByteArray) (w : World) (h1 : Lib.hasPrefix s.data.toList [34] = false) (h2 : Lib.hasPrefix s.data.toList [92] = false) (h3 : Lib.hasPrefix s.data.toList [120] = false) (h4 : Lib.hasPrefix s.data.toList [117] = false) (he : escL s.data.toList = ([], 0)) :
    Calls Try.prog 27 #[.string s] w (EscPost s.data.toList w) := by
  have P1 := Lib.hid (prefix_any s 34 _ w h1)
  have P2 := Lib.hid (prefix_any s 92 _ w h2)
  have P3 := Lib.hid (prefix_any s 120 _ w h3)
  have P4 := Lib.hid (prefix_any s 117 _ w h4)
  have HE := Lib.hid he; clear he h1 h2 h3 h4
  go_enter Try.func27, Try.ntmps27
  go_wp2_with fail
  refine P1.out.mono ?_
  rintro e w' ⟨rfl, rfl⟩
  go_wp2_with fail
  refine P2.out.mono ?_
  rintro e w' ⟨rfl, rfl⟩
  go_wp2_with fail
  refine P3.out.mono ?_
  rintro e w' ⟨rfl, rfl⟩
  go_wp2_with fail
  refine P4.out.mono ?_
  rintro e w' ⟨rfl, rfl⟩
  go_wp2_with fail
  go_ret2
  exact ⟨none, 0, by rw [HE.out]; rfl, by rw [HE.out]; exact .inl rfl, Below.refl _ _⟩
theorem number_list (s : ByteArray) (k : Nat) (w : World) (hk : k ≤ 4) :
    Calls Try.prog 35 #[.string s, .int .i64 (k : Int)] w fun e w' => e = .returned (numAns (if s.data.toList.length < k then none else numL 0 (s.data.toList.take k))) ∧ Below w.heap.size w w' := by
  by_cases h : s.data.toList.length < k
  · rw [if_pos h]
    exact number_short s k w (by rw [Lib.size_eq]; exact h)
  · rw [if_neg h]
    exact number_any s k w (by rw [Lib.size_eq]; omega) hk
theorem esc_x_any (s : ByteArray) (r : List UInt8) (w : World) (hs : s.data.toList = 120 :: r) (hz : s.size ≤ 5000) :
    Calls Try.prog 27 #[.string s] w (EscPost s.data.toList w) := by
  have hsz : 1 ≤ s.size := by rw [Lib.size_eq, hs]; simp
  have hx : (s.extract 1 s.size).data.toList = r := by rw [rest_list, hs]; simp
  have hn := number_list (s.extract 1 s.size) 2 w (by decide)
  rw [hx] at hn
  have P1 := Lib.hid (prefix_any s 34 _ w (prefix_cons hs 34))
  have P2 := Lib.hid (prefix_any s 92 _ w (prefix_cons hs 92))
  have P3 := Lib.hid (prefix_any s 120 _ w (prefix_cons hs 120))
  have he : escL s.data.toList = match (if r.length < 2 then none else numL 0 (r.take 2)) with | some n => ([UInt8.ofNat n], 3) | none => ([], 0) := by
    rw [hs, escL, if_neg (by decide), if_pos rfl]
    split <;> rfl
  cases ho : (if r.length < 2 then none else numL 0 (r.take 2)) with
  | none =>
    rw [ho] at hn he
    simp only [] at he
    have HE := Lib.hid he; clear he
    have HN := Lib.hid hn; clear hn
    clear hs hx ho
    go_enter Try.func27, Try.ntmps27
    go_wp2_with fail
    refine P1.out.mono ?_
    rintro e w' ⟨rfl, rfl⟩
    go_wp2_with fail
    refine P2.out.mono ?_
    rintro e w' ⟨rfl, rfl⟩
    go_wp2_with fail
    refine P3.out.mono ?_
    rintro e w' ⟨rfl, rfl⟩
    go_wp2_with fail
    refine HN.out.mono ?_
    rintro e w1 ⟨rfl, hb1⟩
    unfold numAns
    go_wp2_with fail
    go_ret2
    exact ⟨none, 0, by rw [HE.out]; rfl, by rw [HE.out]; exact .inl rfl, hb1⟩
  | some n =>
    have hn256 : n < 256 := by
      split at ho
      · cases ho
      · have h1 := numL_lt ho
        have h2 : (r.take 2).length = 2 := by rw [List.length_take]; omega
        rw [h2] at h1
        omega
    rw [ho] at hn he
    simp only [] at he
    have HE := Lib.hid he; clear he
    have HN := Lib.hid hn; clear hn
    clear hs hx ho
    go_enter Try.func27, Try.ntmps27
    go_wp2_with fail
    refine P1.out.mono ?_
    rintro e w' ⟨rfl, rfl⟩
    go_wp2_with fail
    refine P2.out.mono ?_
    rintro e w' ⟨rfl, rfl⟩
    go_wp2_with fail
    refine P3.out.mono ?_
    rintro e w' ⟨rfl, rfl⟩
    go_wp2_with fail
    refine HN.out.mono ?_
    rintro e w1 ⟨rfl, hb1⟩
    unfold numAns
    go_wp2_with fail
    go_ret2
    refine ⟨some ⟨w1.heap.size, 0, none⟩, 1, by rw [HE.out]; rfl, ?_, hb1.alloc hb1.size _⟩
    rw [HE.out]
    refine .inr ⟨w1.heap.size, 0, rfl, by simp, fun i hi => ?_⟩
    have h0 : i = 0 := by simpa using hi
    subst h0
    simp
    omega
theorem esc_u_any (s : ByteArray) (r : List UInt8) (w : World) (hs : s.data.toList = 117 :: r) (hz : s.size ≤ 5000) :
    Calls Try.prog 27 #[.string s] w (EscPost s.data.toList w) := by
  have hsz : 1 ≤ s.size := by rw [Lib.size_eq, hs]; simp
  have hx : (s.extract 1 s.size).data.toList = r := by rw [rest_list, hs]; simp
  have hn := number_list (s.extract 1 s.size) 4 w (by decide)
  rw [hx] at hn
  have P1 := Lib.hid (prefix_any s 34 _ w (prefix_cons hs 34))
  have P2 := Lib.hid (prefix_any s 92 _ w (prefix_cons hs 92))
  have P3 := Lib.hid (prefix_any s 120 _ w (prefix_cons hs 120))
  have P4 := Lib.hid (prefix_any s 117 _ w (prefix_cons hs 117))
  have he : escL s.data.toList = match (if r.length < 4 then none else numL 0 (r.take 4)) with | some n => (Lib.encodeRune (n : Int), 5) | none => ([], 0) := by
    rw [hs, escL, if_neg (by decide), if_neg (by decide), if_pos rfl]
    split <;> rfl
  cases ho : (if r.length < 4 then none else numL 0 (r.take 4)) with
  | none =>
    rw [ho] at hn he
    simp only [] at he
    have HE := Lib.hid he; clear he
    have HN := Lib.hid hn; clear hn
    clear hs hx ho
    go_enter Try.func27, Try.ntmps27
    go_wp2_with fail
    refine P1.out.mono ?_
    rintro e w' ⟨rfl, rfl⟩
    go_wp2_with fail
    refine P2.out.mono ?_
    rintro e w' ⟨rfl, rfl⟩
    go_wp2_with fail
    refine P3.out.mono ?_
    rintro e w' ⟨rfl, rfl⟩
    go_wp2_with fail
    refine P4.out.mono ?_
    rintro e w' ⟨rfl, rfl⟩
    go_wp2_with fail
    refine HN.out.mono ?_
    rintro e w1 ⟨rfl, hb1⟩
    unfold numAns
    go_wp2_with fail
    go_ret2
    exact ⟨none, 0, by rw [HE.out]; rfl, by rw [HE.out]; exact .inl rfl, hb1⟩
  | some n =>
    have hn256 : n < 65536 := by
      split at ho
      · cases ho
      · have h1 := numL_lt ho
        have h2 : (r.take 4).length = 4 := by rw [List.length_take]; omega
        rw [h2] at h1
        omega
    rw [ho] at hn he
    simp only [] at he
    have HE := Lib.hid he; clear he
    have HN := Lib.hid hn; clear hn
    clear hs hx ho
    go_enter Try.func27, Try.ntmps27
    go_wp2_with fail
    refine P1.out.mono ?_
    rintro e w' ⟨rfl, rfl⟩
    go_wp2_with fail
    refine P2.out.mono ?_
    rintro e w' ⟨rfl, rfl⟩
    go_wp2_with fail
    refine P3.out.mono ?_
    rintro e w' ⟨rfl, rfl⟩
    go_wp2_with fail
    refine P4.out.mono ?_
    rintro e w' ⟨rfl, rfl⟩
    go_wp2_with fail
    refine HN.out.mono ?_
    rintro e w1 ⟨rfl, hb1⟩
    unfold numAns
    go_wp2_with fail
    refine (rune_any w1.heap.size (.slice none 0 0) [] n w1 (by omega) (.inl (World.ownsRow_nil w1 _ 5 1)) (by simp) (Nat.le_refl _)).mono ?_
    rintro e w2 ⟨v2, rfl, hb2, hs2⟩
    obtain ⟨A, c, rfl, _, _, hbt⟩ := hb2.form
    simp only [List.nil_append] at hbt ⊢
    go_wp2_with fail
    go_ret2
    exact ⟨A, c, by rw [HE.out]; rfl, by rw [HE.out]; exact hbt, below_then hb1 hs2.1⟩
theorem esc_any (s : ByteArray) (w : World) (hz : s.size ≤ 5000) : Calls Try.prog 27 #[.string s] w (EscPost s.data.toList w) := by
  cases hs : s.data.toList with
  | nil =>
    rw [← hs]
    exact esc_none s w (by rw [hs]; rfl) (by rw [hs]; rfl) (by rw [hs]; rfl) (by rw [hs]; rfl) (by rw [hs]; rfl)
  | cons c r =>
    rw [← hs]
    by_cases h1 : c = 34 ∨ c = 92
    · exact esc_sign s c r w hs hz h1
    · by_cases h2 : c = 120
      · subst h2; exact esc_x_any s r w hs hz
      · by_cases h3 : c = 117
        · subst h3; exact esc_u_any s r w hs hz
        · have g1 : c ≠ 34 := fun e => h1 (.inl e)
          have g2 : c ≠ 92 := fun e => h1 (.inr e)
          refine esc_none s w ?_ ?_ ?_ ?_ ?_
          · rw [prefix_cons hs]; simpa using Ne.symm g1
          · rw [prefix_cons hs]; simpa using Ne.symm g2
          · rw [prefix_cons hs]; simpa using Ne.symm h2
          · rw [prefix_cons hs]; simpa using Ne.symm h3
          · rw [hs, escL, if_neg h1, if_neg h2, if_neg h3]
theorem esc_le (l : List UInt8) : (escL l).1.length ≤ (escL l).2 ∧ (escL l).2 ≤ l.length ∧ ((escL l).2 ≠ 0 → 0 < (escL l).1.length) := by
  cases l with
  | nil => simp [escL]
  | cons c r =>
    rw [escL]
    have he : ∀ n : Nat, n < 65536 → (Lib.encodeRune (n : Int)).length ≤ 4 ∧ 0 < (Lib.encodeRune (n : Int)).length := by
      intro n _
      have h := Lib.runeCells_le (n : Int)
      rw [Lib.runeCells_length] at h
      omega
    split
    · simp
    · split
      · split
        · simp
        · split
          · rename_i h3 n hn
            simp; omega
          · simp
      · split
        · split
          · simp
          · split
            · rename_i h3 n hn
              have h1 := numL_lt hn
              have h2 : (r.take 4).length = 4 := by rw [List.length_take]; omega
              rw [h2] at h1
              have := he n (by omega)
              refine ⟨?_, ?_, ?_⟩
              · show (Lib.encodeRune (n : Int)).length ≤ 5
                omega
              · show 5 ≤ (c :: r).length
                simp; omega
              · intro _; exact this.2
            · simp
        · simp
end Go.Proofs.Ytjagpamefcgpoaa
