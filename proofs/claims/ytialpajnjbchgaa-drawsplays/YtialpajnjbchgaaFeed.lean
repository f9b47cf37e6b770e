/-
  Contracts of Left, Taken, Feed, New.
-/
import Derived.Test.YtialpajnjbchgaaLies
namespace Go.Proofs.Ytialpajnjbchgaa
open Go.RowKit
set_option maxHeartbeats 400000
set_option maxRecDepth 100000
theorem left_any {B s n : Nat} {w : World} {v : Value} {l : List UInt8} (h : Src B w s v l n) :
    Calls Try.prog 11 #[.pointer (some ⟨s, 0, none⟩)] w fun e w' => e = .returned (.int .i64 (l.length : Int)) ∧ w' = w := by
  obtain ⟨c0, _⟩ := h.cells
  obtain ⟨A, c, rfl, _, _⟩ := h.2.2.bts
  clear h
  go_enter Try.func11, Try.ntmps11
  go_wp2_with fail
  go_ret
  exact ⟨rfl, rfl⟩
theorem taken_any {B s n : Nat} {w : World} {v : Value} {l : List UInt8} (h : Src B w s v l n) :
    Calls Try.prog 12 #[.pointer (some ⟨s, 0, none⟩)] w fun e w' => e = .returned (.int .i64 (n : Int)) ∧ w' = w := by
  obtain ⟨_, c1, _⟩ := h.cells
  clear h
  go_enter Try.func12, Try.ntmps12
  go_wp2_with fail
  go_ret
  exact ⟨rfl, rfl⟩
/-- the source behind what was fed -/
theorem Src.fed {B s n : Nat} {w w' : World} {v v' : Value} {l l' : List UInt8} (h : Src B w s v l n) (hl : Lies B w' v' l') (hg : w.grownBy w' v.ownBlock) : Src B (w'.setCell ⟨s, 0, none⟩ v') s v' l' n ∧ Kept (fun k => k = s ∨ v.ownBlock = some k) w (w'.setCell ⟨s, 0, none⟩ v') := by
  have hs : w'.heap[s]? = some (.cells #[v, .int .i64 (n : Int)] 45 (0, 0)) := (hg.block s h.lt (fun e => h.ne h.2.2 e.symm)).trans h.2.1
  have hn : v'.ownBlock ≠ some s := by
    intro e
    obtain ⟨_, _, cur, hc⟩ := hl.lt e
    rw [hs] at hc
    injection hc with hc
    injection hc with _ hc
    cases hc
  refine ⟨⟨h.1, ?_, hl.keep fun k hk => heap_setCell_other w' ⟨s, 0, none⟩ k _ (fun e => hn (by rw [hk]; exact congrArg some e))⟩, (Kept.of_grown hg fun k e => .inr e).trans (Kept.set (.inl rfl) _)⟩
  rw [heap_setCell_same w' s 0 _ 45 _ hs]
  rfl
theorem feed_any {B s n : Nat} {w : World} {v : Value} {l : List UInt8} (h : Src B w s v l n) {A : Option Addr} {m : List UInt8} (hm : Bts w A m) (c : Nat) (hl : l.length + m.length ≤ 16777216) :
    Calls Try.prog 8 #[.pointer (some ⟨s, 0, none⟩), .slice A m.length c] w fun e w' => e = .returned (.int .i64 0) ∧ ∃ v', Src B w' s v' (l ++ m) n ∧ (v'.ownBlock = v.ownBlock ∨ v'.ownBlock = some w.heap.size) ∧ Kept (fun k => k = s ∨ v.ownBlock = some k) w w' := by
  obtain ⟨c0, _, f0, _⟩ := h.cells
  have HB := Lib.hid (Nat.le_trans h.1 (Nat.le_of_lt h.lt))
  have HH := Lib.hid h
  have HM := Lib.hid hm
  obtain ⟨A0, cp, rfl, hcp, _⟩ := h.2.2.bts
  have hK : ∀ v' w', Lies B w' v' (l ++ m) → w.grownBy w' (Value.slice A0 l.length cp).ownBlock → w'.cell? ⟨s, 0, none⟩ = some (.slice A0 l.length cp) ∧ w'.frozen? ⟨s, 0, none⟩ = false := by
    intro v' w' _ hg
    have e := hg.block s h.lt (fun e => h.ne h.2.2 e.symm)
    exact ⟨(World.cell?_of_block (a := ⟨s, 0, none⟩) e).trans c0, (World.frozen?_of_block (a := ⟨s, 0, none⟩) e).trans f0⟩
  have HK := Lib.hid hK; clear hK
  clear h hm
  go_enter Try.func8, Try.ntmps8
  go_wp2_with (at_builtin; refine list_app (B := B) (w := w) rfl (.tmp 18) (.tmp 19) rfl _ l m A c HH.out.2.2 HM.out rfl rfl (by omega) HB.out ?_; intro v' w' hv' hg' ho'; obtain ⟨A', c', rfl, _, _⟩ := hv'.bts; rw [List.length_append] at hv' ho' ⊢; have HV := Lib.hid hv'; clear hv'; have HG := Lib.hid hg'; clear hg'; have HO := Lib.hid ho'; clear ho'; obtain ⟨k1, k2⟩ := HK.out _ _ HV.out HG.out)
  go_ret
  exact ⟨rfl, _, (HH.out.fed HV.out HG.out).1, HO.out, (HH.out.fed HV.out HG.out).2⟩
theorem feed_big {B s n : Nat} {w : World} {v : Value} {l : List UInt8} (h : Src B w s v l n) {A : Option Addr} {m : List UInt8} (c : Nat) (hl : l.length ≤ 16777216) (hb : 16777216 < l.length + m.length) :
    Calls Try.prog 8 #[.pointer (some ⟨s, 0, none⟩), .slice A m.length c] w fun e w' => e = .returned (.int .i64 4) ∧ w' = w := by
  obtain ⟨c0, _, f0, _⟩ := h.cells
  obtain ⟨A0, cp, rfl, hcp, _⟩ := h.2.2.bts
  clear h
  go_enter Try.func8, Try.ntmps8
  go_wp2_with fail
  go_ret
  exact ⟨rfl, rfl⟩
/-- a source just made -/
theorem src_new (w : World) : Src w.heap.size (w.alloc (.cells #[.slice none 0 0, .int .i64 0] 45)) w.heap.size (.slice none 0 0) [] 0 :=
  ⟨Nat.le_refl _, heap_alloc_new w _, Lies.nil _ _⟩
theorem new_any {w : World} {A : Option Addr} {m : List UInt8} (hm : Bts w A m) (c : Nat) (hc : m.length ≤ c) :
    Calls Try.prog 7 #[.slice A m.length c] w fun e w' => e = .returned (.pointer (some ⟨w.heap.size, 0, none⟩)) ∧ ∃ v, Src w.heap.size w' w.heap.size v (m.take 16777216) 0 ∧ Below w.heap.size w w' := by
  have hf : ∀ (X : Option Addr) (c' k : Nat), (m.length = 0 ∨ X = A) → k = min m.length 16777216 → Calls Try.prog 8 #[.pointer (some ⟨w.heap.size, 0, none⟩), .slice X k c'] (w.alloc (.cells #[.slice none 0 0, .int .i64 0] 45)) fun e w' => e = .returned (.int .i64 0) ∧ Hid (∃ v, Src w.heap.size w' w.heap.size v (m.take 16777216) 0 ∧ Below w.heap.size w w') := by
    intro X c' k hX hk
    have hb : Below w.heap.size w (w.alloc (.cells #[.slice none 0 0, .int .i64 0] 45)) := (Below.refl _ _).alloc (Nat.le_refl _) _
    have hA : Bts (w.alloc (.cells #[.slice none 0 0, .int .i64 0] 45)) X (m.take 16777216) := by
      rcases hX with h | rfl
      · rw [List.eq_nil_of_length_eq_zero h]; exact .inl (by simp)
      · exact (hm.take _).below hb
    have h := feed_any (src_new w) hA c' (by rw [List.length_take]; simp; omega)
    rw [List.length_take, Nat.min_comm, ← hk] at h
    refine h.mono ?_
    rintro e w' ⟨rfl, v', h1, _, h3⟩
    refine ⟨rfl, v', h1, hb.trans (h3.below hb.size ?_)⟩
    rintro j hj (rfl | h)
    · exact Nat.lt_irrefl _ hj
    · simp [Value.ownBlock] at h
  have hp : 0 < m.length → ∃ b off, A = some ⟨b, off, none⟩ := by
    intro h
    rcases hm with rfl | ⟨b, off, rfl, _⟩
    · simp at h
    · exact ⟨b, off, rfl⟩
  have HF := Lib.hid hf; clear hf
  clear hm
  obtain ⟨n, hn⟩ : ∃ n, n = m.length := ⟨_, rfl⟩
  rw [← hn] at hp HF hc ⊢
  have HN := Lib.hid hn; clear hn
  rcases Nat.eq_zero_or_pos n with h0 | h0
  · subst h0
    clear hp
    cases A with
    | none =>
      go_enter Try.func7, Try.ntmps7
      go_wp2_with fail
      refine (HF.out _ _ 0 (by simp) (by omega)).mono ?_
      rintro e w' ⟨rfl, hw'⟩
      go_wp2_with fail
      go_ret
      exact ⟨rfl, hw'.out⟩
    | some a =>
      by_cases hc0 : c = 0
      · subst hc0
        go_enter Try.func7, Try.ntmps7
        go_wp2_with fail
        refine (HF.out _ _ 0 (by simp) (by omega)).mono ?_
        rintro e w' ⟨rfl, hw'⟩
        go_wp2_with fail
        go_ret
        exact ⟨rfl, hw'.out⟩
      · go_enter Try.func7, Try.ntmps7
        go_wp2_with fail
        refine (HF.out _ _ 0 (by simp) (by omega)).mono ?_
        rintro e w' ⟨rfl, hw'⟩
        go_wp2_with fail
        go_ret
        exact ⟨rfl, hw'.out⟩
  · obtain ⟨b, off, rfl⟩ := hp h0
    clear hp
    by_cases hl : n ≤ 16777216
    · go_enter Try.func7, Try.ntmps7
      go_wp2_with fail
      refine (HF.out _ _ n (.inr rfl) (by omega)).mono ?_
      rintro e w' ⟨rfl, hw'⟩
      go_wp2_with fail
      go_ret
      exact ⟨rfl, hw'.out⟩
    · go_enter Try.func7, Try.ntmps7
      go_wp2_with fail
      refine (HF.out _ _ 16777216 (.inr rfl) (by omega)).mono ?_
      rintro e w' ⟨rfl, hw'⟩
      go_wp2_with fail
      go_ret
      exact ⟨rfl, hw'.out⟩
end Go.Proofs.Ytialpajnjbchgaa
