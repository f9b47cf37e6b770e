/-
  The contract of quote.Parse, for texts of up to 5000 bytes.
-/
import Derived.Test.YtjagpamefcgpoaaUn
namespace Go.Proofs.Ytjagpamefcgpoaa
open Go.RowKit
set_option maxHeartbeats 400000
set_option maxRecDepth 100000
theorem unesc_le : ∀ (k : Nat) (l b : List UInt8), l.length ≤ k → unesc l = some b → b.length ≤ l.length := by
  intro k
  induction k with
  | zero =>
    intro l b hk h
    have : l = [] := List.eq_nil_of_length_eq_zero (by omega)
    subst this
    rw [unesc_nil] at h; cases h; simp
  | succ k ih =>
    intro l b hk h
    cases l with
    | nil => rw [unesc_nil] at h; cases h; simp
    | cons c r =>
      by_cases hc : c = 92
      · subst hc
        rw [unesc_slash] at h
        have he := esc_le r
        split at h
        · cases h
        · rename_i h0
          cases hu : unesc (r.drop (escL r).2) with
          | none => rw [hu] at h; cases h
          | some x =>
            rw [hu] at h
            simp at h
            have h1 := ih _ x (by rw [List.length_drop]; simp at hk; omega) hu
            rw [List.length_drop] at h1
            rw [← h, List.length_append, List.length_cons]
            omega
      · rw [unesc_other hc] at h
        cases hu : unesc r with
        | none => rw [hu] at h; cases h
        | some x =>
          rw [hu] at h
          simp at h
          have h1 := ih _ x (by simp at hk; omega) hu
          rw [← h]; simp; omega
def ParsePost (B : Nat) (o : Option (List UInt8)) (w : World) (e : Ending) (w' : World) : Prop :=
  match o with
  | some b => ∃ v, e = .returned (.tuple #[v, .int .i64 0]) ∧ Own B w' v b ∧ Below w.heap.size w w'
  | none => e = .returned (.tuple #[.slice none 0 0, .int .i64 2]) ∧ Below w.heap.size w w'
theorem inside_le (l : List UInt8) : (insideL l).length ≤ l.length :=
  Nat.le_trans (Lib.trimSuffix_le _ _) (Lib.trimPrefix_le _ _)
theorem parse_any (s : ByteArray) (w : World) (hz : s.size ≤ 5000) : Calls Try.prog 11 #[.string s] w (ParsePost w.heap.size (parseL s.data.toList) w) := by
  have h1 := signs_any s w hz
  obtain ⟨ib, hib⟩ : ∃ ib : ByteArray, ib = ⟨(insideL s.data.toList).toArray⟩ := ⟨_, rfl⟩
  rw [← hib] at h1
  have hil : ib.data.toList = insideL s.data.toList := by rw [hib]
  have hiz : ib.size ≤ 5000 := by
    have := inside_le s.data.toList
    rw [Lib.size_eq] at hz
    rw [Lib.size_eq, hil]
    omega
  have h2 := un_any ib w hiz
  have hpl : parseL s.data.toList = if signsL s.data.toList = true then (match unesc ib.data.toList with | some b => if printL b = s.data.toList then some b else none | none => none) else none := by
    rw [parseL, hil]
    rfl
  cases hsg : signsL s.data.toList with
  | false =>
    rw [hsg] at h1 hpl
    rw [if_neg (by decide)] at hpl
    rw [hpl]
    have H1 := Lib.hid h1; clear h1 hsg hpl h2 hil hib
    go_enter Try.func11, Try.ntmps11
    go_wp2_with fail
    refine H1.out.mono ?_
    rintro e w' ⟨rfl, rfl⟩
    go_wp2_with fail
    go_ret2
    exact ⟨rfl, Below.refl _ _⟩
  | true =>
    rw [hsg] at h1 hpl
    rw [if_pos rfl] at hpl
    have H1 := Lib.hid h1; clear h1 hsg
    cases hu : unesc ib.data.toList with
    | none =>
      rw [hu] at h2 hpl
      simp only [] at hpl
      rw [hpl]
      have h2' : Calls Try.prog 19 #[.string ib] w fun e w' => e = .returned (.tuple #[.slice none 0 0, .bool false]) ∧ Below w.heap.size w w' := h2
      have H2 := Lib.hid h2'; clear h2' h2 hpl hu hil hib
      go_enter Try.func11, Try.ntmps11
      go_wp2_with fail
      refine H1.out.mono ?_
      rintro e w' ⟨rfl, rfl⟩
      go_wp2_with fail
      refine H2.out.mono ?_
      rintro e w1 ⟨rfl, hb1⟩
      go_wp2_with fail
      go_ret2
      exact ⟨rfl, hb1⟩
    | some b =>
      rw [hu] at h2 hpl
      simp only [] at hpl
      have hbl : b.length ≤ 10000 := by
        have := unesc_le _ _ b (Nat.le_refl _) hu
        rw [← Lib.size_eq] at this
        omega
      have h2' : Calls Try.prog 19 #[.string ib] w fun e w' => ∃ v, e = .returned (.tuple #[v, .bool true]) ∧ Own w.heap.size w' v b ∧ Below w.heap.size w w' := h2
      have H2 := Lib.hid h2'; clear h2' h2 hu hil hib
      obtain ⟨p, hp⟩ : ∃ p : ByteArray, p = ⟨(printL b).toArray⟩ := ⟨_, rfl⟩
      have hpr : ∀ W A c, Bts W A b → Calls Try.prog 10 #[.slice A b.length c] W fun e w' => e = .returned (.string p) ∧ Below W.heap.size W w' := by
        intro W A c hB
        rw [hp]; exact print_any b A c W hB hbl
      have HPR := Lib.hid hpr; clear hpr
      by_cases hq : printL b = s.data.toList
      · have e0 : p = s := by rw [hp, hq, Lib.mk_data]
        subst e0
        rw [if_pos hq] at hpl
        rw [hpl]
        clear hp hpl hq
        go_enter Try.func11, Try.ntmps11
        go_wp2_with fail
        refine H1.out.mono ?_
        rintro e w' ⟨rfl, rfl⟩
        go_wp2_with fail
        refine H2.out.mono ?_
        rintro e w1 ⟨v, rfl, hown, hb1⟩
        obtain ⟨A, c, hv, _, _, hbt⟩ := hown.form
        subst hv
        go_wp2_with fail
        refine (HPR.out w1 A c hbt).mono ?_
        rintro e w2 ⟨rfl, hb2⟩
        go_wp2_with fail
        go_ret2
        exact ⟨_, rfl, hown.keep hb2, below_then hb1 hb2⟩
      · have e1 : (p.toList != s.toList) = true := by
          rw [bne_iff_ne, ByteArray.toList_eq, ByteArray.toList_eq, hp]; exact hq
        have e2 : (p.toList == s.toList) = false := by
          rw [beq_eq_false_iff_ne, ByteArray.toList_eq, ByteArray.toList_eq, hp]; exact hq
        rw [if_neg hq] at hpl
        rw [hpl]
        clear hp hpl hq
        go_enter Try.func11, Try.ntmps11
        go_wp2_with fail
        refine H1.out.mono ?_
        rintro e w' ⟨rfl, rfl⟩
        go_wp2_with fail
        refine H2.out.mono ?_
        rintro e w1 ⟨v, rfl, hown, hb1⟩
        obtain ⟨A, c, hv, _, _, hbt⟩ := hown.form
        subst hv
        go_wp2_with fail
        refine (HPR.out w1 A c hbt).mono ?_
        rintro e w2 ⟨rfl, hb2⟩
        go_wp2_with fail
        go_ret2
        exact ⟨rfl, below_then hb1 hb2⟩
theorem parse_le {s b : List UInt8} (h : parseL s = some b) : b.length ≤ s.length := by
  unfold parseL at h
  split at h
  · split at h
    · rename_i x hx
      split at h
      · cases h
        exact Nat.le_trans (unesc_le _ _ _ (Nat.le_refl _) hx) (inside_le s)
      · cases h
    · cases h
  · cases h
end Go.Proofs.Ytjagpamefcgpoaa
