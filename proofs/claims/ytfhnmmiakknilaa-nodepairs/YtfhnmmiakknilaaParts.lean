/-
  Contracts of Hash, Pair, Tree, Map, Kid.
-/
import Derived.Test.YtfhnmmiakknilaaLeafs
namespace Go.Proofs.Ytfhnmmiakknilaa
open Go.RowKit
set_option maxHeartbeats 4000000
set_option maxRecDepth 100000
def Nd.hashed (x : Nd) : Bool := x.kind == 1 || x.kind == 2
def Nd.pr : Nd → Pr
  | .leaf _ p => p
  | _ => ([], [])
def Nd.map : Nd → Nat
  | .bran m _ _ => m
  | _ => 0
theorem hash_any {F : Nat → Prop} {w : World} {x : Nd} {v : Value} (h : Nde F w x v) : Calls Try.prog 25 #[v] w fun e w' => e = .returned (.tuple #[.int .u64 (x.hash : Int), .bool x.hashed]) ∧ w = w' := by
  cases x with
  | none =>
    obtain rfl : v = .nilIface := h
    have h1 := ta84_nil
    have h2 := ta91_nil
    go_enter Try.func25, Try.ntmps25
    go_wp2
    go_ret2
    exact ⟨rfl, rfl⟩
  | leaf h' p =>
    obtain ⟨b, ka, kc, va, vc, rfl, _, hr, _⟩ := h
    have c0 := row_cell (i := 0) hr rfl
    have h1 := ta84_84 (.pointer (some ⟨b, 0, none⟩))
    clear hr
    go_enter Try.func25, Try.ntmps25
    go_wp2
    go_ret2
    exact ⟨rfl, rfl⟩
  | buck h' L =>
    obtain ⟨b, p, t, rfl, _, hr, _⟩ := h
    have c0 := row_cell (i := 0) hr rfl
    have h1 := ta84_91 (.pointer (some ⟨b, 0, none⟩))
    have h2 := ta91_91 (.pointer (some ⟨b, 0, none⟩))
    clear hr
    go_enter Try.func25, Try.ntmps25
    go_wp2
    go_ret2
    exact ⟨rfl, rfl⟩
  | bran m k kid =>
    obtain ⟨b, g, c, rfl, _⟩ := h
    have h1 := ta84_100 (.pointer (some ⟨b, 0, none⟩))
    have h2 := ta91_100 (.pointer (some ⟨b, 0, none⟩))
    go_enter Try.func25, Try.ntmps25
    go_wp2
    go_ret2
    exact ⟨rfl, rfl⟩
theorem tree_any {F : Nat → Prop} {w : World} {x : Nd} {v : Value} (h : Nde F w x v) : Calls Try.prog 27 #[v] w fun e w' => (∃ p, e = .returned (.tuple #[.pointer p, .bool (x.kind == 2)]) ∧
    ((x.kind ≠ 2 ∧ p = none) ∨ ∃ t, Tre F w t p ∧ t.even ∧ t.list = x.prs ∧ x.kind = 2)) ∧ w = w' := by
  have nope : ∀ v, x.kind ≠ 2 → (∀ w, (Instr.typeAssert v 26 91 true).run Try.prog w = .ok (.tuple #[.pointer none, .bool false]) w) → Calls Try.prog 27 #[v] w fun e w' => (∃ p, e = .returned (.tuple #[.pointer p, .bool (x.kind == 2)]) ∧
      ((x.kind ≠ 2 ∧ p = none) ∨ ∃ t, Tre F w t p ∧ t.even ∧ t.list = x.prs ∧ x.kind = 2)) ∧ w = w' := by
    intro v hk h1
    have hb : (x.kind == 2) = false := by simpa using hk
    rw [hb]
    have HK := Lib.hid hk; clear hk hb h
    go_enter Try.func27, Try.ntmps27
    go_wp2
    go_ret2
    exact ⟨⟨none, rfl, .inl ⟨HK.out, rfl⟩⟩, rfl⟩
  cases x with
  | none => obtain rfl : v = .nilIface := h; exact nope _ (by simp [Nd.kind]) ta91_nil
  | leaf h' p => obtain ⟨b, _, _, _, _, rfl, _⟩ := h; exact nope _ (by simp [Nd.kind]) (ta91_84 _)
  | bran m k kid => obtain ⟨b, _, _, rfl, _⟩ := h; exact nope _ (by simp [Nd.kind]) (ta91_100 _)
  | buck h' L =>
    obtain ⟨b, p, t, rfl, _, hr, ht, he, hl⟩ := h
    have c1 := row_cell (i := 1) hr rfl
    have h1 := ta91_91 (.pointer (some ⟨b, 0, none⟩))
    have HT := Lib.hid (And.intro ht (And.intro he hl))
    clear hr nope ht he hl
    go_enter Try.func27, Try.ntmps27
    go_wp2
    go_ret2
    exact ⟨⟨p, rfl, .inr ⟨t, HT.out.1, HT.out.2.1, HT.out.2.2, rfl⟩⟩, rfl⟩
theorem map_any {F : Nat → Prop} {w : World} {x : Nd} {v : Value} (h : Nde F w x v) : Calls Try.prog 28 #[v] w fun e w' => e = .returned (.tuple #[.int .u32 (x.map : Int), .bool (x.kind == 3)]) ∧ w = w' := by
  have nope : ∀ v, x.kind ≠ 3 → x.map = 0 → (∀ w, (Instr.typeAssert v 26 100 true).run Try.prog w = .ok (.tuple #[.pointer none, .bool false]) w) → Calls Try.prog 28 #[v] w fun e w' => e = .returned (.tuple #[.int .u32 (x.map : Int), .bool (x.kind == 3)]) ∧ w = w' := by
    intro v hk hm h1
    have hb : (x.kind == 3) = false := by simpa using hk
    rw [hb, hm]
    clear hk hb h hm
    go_enter Try.func28, Try.ntmps28
    go_wp2
    go_ret2
    exact ⟨rfl, rfl⟩
  cases x with
  | none => obtain rfl : v = .nilIface := h; exact nope _ (by simp [Nd.kind]) rfl ta100_nil
  | leaf h' p => obtain ⟨b, _, _, _, _, rfl, _⟩ := h; exact nope _ (by simp [Nd.kind]) rfl (ta100_84 _)
  | buck h' L => obtain ⟨b, _, _, rfl, _⟩ := h; exact nope _ (by simp [Nd.kind]) rfl (ta100_91 _)
  | bran m k kid =>
    obtain ⟨b, g, c, rfl, _, hr, _⟩ := h
    have c0 := row_cell (i := 0) hr rfl
    have h1 := ta100_100 (.pointer (some ⟨b, 0, none⟩))
    clear hr nope
    go_enter Try.func28, Try.ntmps28
    go_wp2
    go_ret2
    exact ⟨rfl, rfl⟩
theorem pair_any {F : Nat → Prop} {w : World} {x : Nd} {v : Value} (h : Nde F w x v) (ho : x.ok) : Calls Try.prog 26 #[v] w fun e w' => ∃ A B c d, e = .returned (.tuple #[.agg #[.slice A x.pr.1.length c, .slice B x.pr.2.length d], .bool (x.kind == 1)]) ∧
    Bts w' A x.pr.1 ∧ Bts w' B x.pr.2 ∧ Below w.heap.size w w' := by
  have r0 : (w.alloc (.cells #[.slice none 0 0, .slice none 0 0] 54)).heap[w.heap.size]? = some (.cells #[.slice none 0 0, .slice none 0 0] 54 (0, 0)) := heap_alloc_new w _
  have hb0 : Below w.heap.size w (w.alloc (.cells #[.slice none 0 0, .slice none 0 0] 54)) := (Below.refl _ _).alloc (Nat.le_refl _) _
  have nope : ∀ v, x.kind ≠ 1 → x.pr = ([], []) → (∀ w, (Instr.typeAssert v 26 84 true).run Try.prog w = .ok (.tuple #[.pointer none, .bool false]) w) → Calls Try.prog 26 #[v] w fun e w' => ∃ A B c d, e = .returned (.tuple #[.agg #[.slice A x.pr.1.length c, .slice B x.pr.2.length d], .bool (x.kind == 1)]) ∧
      Bts w' A x.pr.1 ∧ Bts w' B x.pr.2 ∧ Below w.heap.size w w' := by
    intro v hk hp h1
    have hb : (x.kind == 1) = false := by simpa using hk
    rw [hb, hp]
    obtain ⟨e0, e1, f0, f1⟩ := row2 r0
    have HS := Lib.hid r0
    have HB := Lib.hid hb0
    clear hk hb h hp r0 hb0 ho
    go_enter Try.func26, Try.ntmps26
    go_wp2
    refine bodyPost_ret (results_two rfl _ _ w.heap.size 54 _ (0, 0) _ _ rfl HS.out rfl Try.underlying54 rfl (by kernel_rfl)) rfl ?_
    exact ⟨none, none, 0, 0, rfl, .inl rfl, .inl rfl, HB.out⟩
  cases x with
  | none => obtain rfl : v = .nilIface := h; exact nope _ (by simp [Nd.kind]) rfl ta84_nil
  | buck h' L => obtain ⟨b, _, _, rfl, _⟩ := h; exact nope _ (by simp [Nd.kind]) rfl (ta84_91 _)
  | bran m k kid => obtain ⟨b, _, _, rfl, _⟩ := h; exact nope _ (by simp [Nd.kind]) rfl (ta84_100 _)
  | leaf h' p =>
    clear nope
    obtain ⟨b, ka, kc, va, vc, rfl, _, hr, hk, hv⟩ := h
    obtain ⟨w1, hw1⟩ : ∃ w1, w1 = w.alloc (.cells #[.slice none 0 0, .slice none 0 0] 54) := ⟨_, rfl⟩
    have hsz : w1.heap.size = w.heap.size + 1 := by rw [hw1]; simp
    rw [← hw1] at r0 hb0
    have hr1 := (hb0.block b (Array.getElem?_eq_some_iff.1 hr).1).trans hr
    have c1 := row_cell (i := 1) hr1 rfl
    have c2 := row_cell (i := 2) hr1 rfl
    have h1 := ta84_84 (.pointer (some ⟨b, 0, none⟩))
    have own := owned_any kc vc (hk.below hb0).bts (hv.below hb0).bts (by have := ho.2; omega)
    simp only [Nd.pr]
    obtain ⟨n1, hn1⟩ : ∃ k, k = p.1.length := ⟨_, rfl⟩
    obtain ⟨n2, hn2⟩ : ∃ k, k = p.2.length := ⟨_, rfl⟩
    rw [← hn1] at c1
    rw [← hn2] at c2
    simp only [← hn1, ← hn2] at own ⊢
    have OWN := Lib.hid own; clear own
    have R0 := Lib.hid r0; clear r0
    have HB0 := Lib.hid hb0; clear hb0
    have HW := Lib.hid hw1; clear hw1
    have HSZ := Lib.hid hsz; clear hsz
    clear hr hr1 hk hv ho hn1 hn2
    go_enter Try.func26, Try.ntmps26
    go_wp2_with (rw [← HW.out])
    refine OWN.out.mono ?_
    rintro e w2 ⟨g1, g2, rfl, k1, k2, hb⟩
    have r2 := (hb.block w.heap.size (by have := HSZ.out; omega)).trans R0.out
    obtain ⟨d0, d1, f0, f1⟩ := row2 r2
    have HS := Lib.hid (set2 r2 (.slice (some ⟨g1, 0, none⟩) n1 n1) (.slice (some ⟨g2, 0, none⟩) n2 n2))
    have HB2 := Lib.hid (below_set2 (w := w2) (g := w.heap.size) (.slice (some ⟨g1, 0, none⟩) n1 n1) (.slice (some ⟨g2, 0, none⟩) n2 n2) (Nat.le_refl _))
    have K1 := Lib.hid k1; clear k1
    have K2 := Lib.hid k2; clear k2
    have HB3 := Lib.hid hb; clear hb
    clear c1 c2 r2
    go_wp2_with fail
    refine bodyPost_ret (results_two rfl _ _ w.heap.size 54 _ (0, 0) _ _ rfl HS.out.1 rfl Try.underlying54 rfl (by kernel_rfl)) rfl ?_
    have hz := HSZ.out
    have a1 := K1.out.1
    have a2 := K2.out.1
    refine ⟨_, _, _, _, rfl, bts_row ((HS.out.2 g1 (by omega)).trans K1.out.2), bts_row ((HS.out.2 g2 (by omega)).trans K2.out.2), ?_⟩
    exact (below_then HB0.out HB3.out).trans HB2.out
/-- the child for a number of the set -/
theorem kid_any {F : Nat → Prop} {w : World} {x : Nd} {v : Value} (c : Int) (h : Nde F w x v) (ho : x.ok) : Calls Try.prog 32 #[v, .int .i64 c] w fun e w' => (∃ vk, e = .returned (.tuple #[vk, .bool (decide (c ∈ x.set))]) ∧
    Nde F w (if c ∈ x.set then x.kid (Bt.less x.set c) else .none) vk) ∧ ∃ n, w' = w.drewN n := by
  have nope : ∀ v, x.set = [] → (∀ w, (Instr.typeAssert v 26 100 true).run Try.prog w = .ok (.tuple #[.pointer none, .bool false]) w) → Calls Try.prog 32 #[v, .int .i64 c] w fun e w' => (∃ vk, e = .returned (.tuple #[vk, .bool (decide (c ∈ x.set))]) ∧
      Nde F w (if c ∈ x.set then x.kid (Bt.less x.set c) else .none) vk) ∧ ∃ n, w' = w.drewN n := by
    intro v hs h1
    have hm : ¬ c ∈ x.set := by rw [hs]; exact List.not_mem_nil
    rw [decide_eq_false hm, if_neg hm]
    clear h hm hs ho
    go_enter Try.func32, Try.ntmps32
    go_wp2
    go_ret2
    exact ⟨⟨_, rfl, rfl⟩, 0, rfl⟩
  cases x with
  | none => obtain rfl : v = .nilIface := h; exact nope _ rfl ta100_nil
  | leaf h' p => obtain ⟨b, _, _, _, _, rfl, _⟩ := h; exact nope _ rfl (ta100_84 _)
  | buck h' L => obtain ⟨b, _, _, rfl, _⟩ := h; exact nope _ rfl (ta100_91 _)
  | bran m k kid =>
    clear nope
    obtain ⟨b, g, cc, rfl, _, hr, _, hg, hk⟩ := h
    have c0 := row_cell (i := 0) hr rfl
    have c1 := row_cell (i := 1) hr rfl
    have h1 := ta100_100 (.pointer (some ⟨b, 0, none⟩))
    have hh := fun W => Bt.has_any m c W ho.1
    have hp := fun W => Bt.place_any m c W ho.1
    by_cases hm : c ∈ (Nd.bran m k kid).set
    · have hlt : Bt.less (Bt.lst m 32) c < k := by
        rw [← ho.2.2.1]
        refine Nat.lt_of_le_of_ne (Bt.less_le _ _) fun e => ?_
        unfold Bt.less at e
        have := (List.length_filter_eq_length_iff.1 e) c hm
        simp at this
      rw [decide_eq_true hm, if_pos hm]
      simp only [Nd.set, Nd.kid]
      simp only [show decide (c ∈ Bt.lst m 32) = true from decide_eq_true hm] at hh
      obtain ⟨j, hj⟩ : ∃ j, j = Bt.less (Bt.lst m 32) c := ⟨_, rfl⟩
      simp only [← hj] at hp hlt ⊢
      obtain ⟨vi, k1, k2⟩ := hk j hlt
      have HH := Lib.hid hh; clear hh
      have HP := Lib.hid hp; clear hp
      have K2 := Lib.hid k2; clear k2
      clear hr hk hj hm ho hg
      go_enter Try.func32, Try.ntmps32
      go_wp2_with fail
      refine (HH.out _).mono ?_
      rintro e w' ⟨rfl, rfl⟩
      go_wp2_with fail
      go_quiet (first | (go_at_call 57; refine Calls.quiet_of (HP.out _)))
      go_wp2_with fail
      go_ret2
      exact ⟨⟨vi, rfl, K2.out⟩, _, rfl⟩
    · rw [decide_eq_false hm, if_neg hm]
      simp only [show decide (c ∈ Bt.lst m 32) = false from decide_eq_false hm] at hh
      have HH := Lib.hid hh; clear hh
      clear hr hk hm ho hg hp
      go_enter Try.func32, Try.ntmps32
      go_wp2_with fail
      refine (HH.out _).mono ?_
      rintro e w' ⟨rfl, rfl⟩
      go_wp2_with fail
      go_ret2
      exact ⟨⟨_, rfl, rfl⟩, 0, rfl⟩
end Go.Proofs.Ytfhnmmiakknilaa
