/-
  Contracts of Hash, Pair, Tree, Map, Kid.
-/
import Derived.Test.YtngfbkkfnooobaaDoorLeafs
namespace Go.Proofs.YtngfbkkfnooobaaDoor
open Go.RowKit
set_option maxHeartbeats 4000000
set_option maxRecDepth 100000
def Nd.hashed (x : Nd) : Bool := x.kind == 1 || x.kind == 2
def Nd.pr : Nd → Pr
  | .leaf _ p => p
  | _ => ([], [])
def Nd.map : Nd → Nat
  | .bran m _ _ => m
  | _ => 0
theorem hash_any {F : Nat → Prop} {w : World} {x : Nd} {v : Value} (h : Nde F w x v) : Calls Tryd.prog 36 #[v] w fun e w' => e = .returned (.tuple #[.int .u64 (x.hash : Int), .bool x.hashed]) ∧ w = w' := by
  cases x with
  | none =>
    obtain rfl : v = .nilIface := h
    have h1 := ta84_nil
    have h2 := ta91_nil
    go_enter Tryd.func36, Tryd.ntmps36
    go_wp2
    go_ret2
    exact ⟨rfl, rfl⟩
  | leaf h' p =>
    obtain ⟨b, ka, kc, va, vc, rfl, _, hr, _⟩ := h
    have c0 := row_cell (i := 0) hr rfl
    have h1 := ta84_84 (.pointer (some ⟨b, 0, none⟩))
    clear hr
    go_enter Tryd.func36, Tryd.ntmps36
    go_wp2
    go_ret2
    exact ⟨rfl, rfl⟩
  | buck h' L =>
    obtain ⟨b, p, t, rfl, _, hr, _⟩ := h
    have c0 := row_cell (i := 0) hr rfl
    have h1 := ta84_91 (.pointer (some ⟨b, 0, none⟩))
    have h2 := ta91_91 (.pointer (some ⟨b, 0, none⟩))
    clear hr
    go_enter Tryd.func36, Tryd.ntmps36
    go_wp2
    go_ret2
    exact ⟨rfl, rfl⟩
  | bran m k kid =>
    obtain ⟨b, g, c, rfl, _⟩ := h
    have h1 := ta84_100 (.pointer (some ⟨b, 0, none⟩))
    have h2 := ta91_100 (.pointer (some ⟨b, 0, none⟩))
    go_enter Tryd.func36, Tryd.ntmps36
    go_wp2
    go_ret2
    exact ⟨rfl, rfl⟩
theorem map_any {F : Nat → Prop} {w : World} {x : Nd} {v : Value} (h : Nde F w x v) : Calls Tryd.prog 37 #[v] w fun e w' => e = .returned (.tuple #[.int .u32 (x.map : Int), .bool (x.kind == 3)]) ∧ w = w' := by
  have nope : ∀ v, x.kind ≠ 3 → x.map = 0 → (∀ w, (Instr.typeAssert v 41 100 true).run Tryd.prog w = .ok (.tuple #[.pointer none, .bool false]) w) → Calls Tryd.prog 37 #[v] w fun e w' => e = .returned (.tuple #[.int .u32 (x.map : Int), .bool (x.kind == 3)]) ∧ w = w' := by
    intro v hk hm h1
    have hb : (x.kind == 3) = false := by simpa using hk
    rw [hb, hm]
    clear hk hb h hm
    go_enter Tryd.func37, Tryd.ntmps37
    go_wp2
    go_ret2
    exact ⟨rfl, rfl⟩
  cases x with
  | none => obtain rfl : v = .nilIface := h; exact nope _ (by simp [Nd.kind]) rfl ta100_nil
  | leaf h' p => obtain ⟨b, _, _, _, _, rfl, _⟩ := h; exact nope _ (by simp [Nd.kind]) rfl (ta100_84 _)
  | buck h' L => obtain ⟨b, _, _, rfl, _⟩ := h; exact nope _ (by simp [Nd.kind]) rfl (ta100_91 _)
  | bran m k kid =>
    obtain ⟨b, g, c, rfl, _, hr, _⟩ := h
    have c0 := row_cell (i := 0) hr rfl
    have h1 := ta100_100 (.pointer (some ⟨b, 0, none⟩))
    clear hr nope
    go_enter Tryd.func37, Tryd.ntmps37
    go_wp2
    go_ret2
    exact ⟨rfl, rfl⟩
/-- the child for a number of the set -/
theorem kid_any {F : Nat → Prop} {w : World} {x : Nd} {v : Value} (c : Int) (h : Nde F w x v) (ho : x.ok) : Calls Tryd.prog 42 #[v, .int .i64 c] w fun e w' => (∃ vk, e = .returned (.tuple #[vk, .bool (decide (c ∈ x.set))]) ∧
    Nde F w (if c ∈ x.set then x.kid (Bt.less x.set c) else .none) vk) ∧ ∃ n, w' = w.drewN n := by
  have nope : ∀ v, x.set = [] → (∀ w, (Instr.typeAssert v 41 100 true).run Tryd.prog w = .ok (.tuple #[.pointer none, .bool false]) w) → Calls Tryd.prog 42 #[v, .int .i64 c] w fun e w' => (∃ vk, e = .returned (.tuple #[vk, .bool (decide (c ∈ x.set))]) ∧
      Nde F w (if c ∈ x.set then x.kid (Bt.less x.set c) else .none) vk) ∧ ∃ n, w' = w.drewN n := by
    intro v hs h1
    have hm : ¬ c ∈ x.set := by rw [hs]; exact List.not_mem_nil
    rw [decide_eq_false hm, if_neg hm]
    clear h hm hs ho
    go_enter Tryd.func42, Tryd.ntmps42
    go_wp2
    go_ret2
    exact ⟨⟨_, rfl, rfl⟩, 0, rfl⟩
  cases x with
  | none => obtain rfl : v = .nilIface := h; exact nope _ rfl ta100_nil
  | leaf h' p => obtain ⟨b, _, _, _, _, rfl, _⟩ := h; exact nope _ rfl (ta100_84 _)
  | buck h' L => obtain ⟨b, _, _, rfl, _⟩ := h; exact nope _ rfl (ta100_91 _)
  | bran m k kid =>
    clear nope
    obtain ⟨b, g, cc, rfl, _, hr, _, hg, hk⟩ := h
    have c0 := row_cell (i := 0) hr rfl
    have c1 := row_cell (i := 1) hr rfl
    have h1 := ta100_100 (.pointer (some ⟨b, 0, none⟩))
    have hh := fun W => Bt.has_any m c W ho.1
    have hp := fun W => Bt.place_any m c W ho.1
    by_cases hm : c ∈ (Nd.bran m k kid).set
    · have hlt : Bt.less (Bt.lst m 32) c < k := by
        rw [← ho.2.2.1]
        refine Nat.lt_of_le_of_ne (Bt.less_le _ _) fun e => ?_
        unfold Bt.less at e
        have := (List.length_filter_eq_length_iff.1 e) c hm
        simp at this
      rw [decide_eq_true hm, if_pos hm]
      simp only [Nd.set, Nd.kid]
      simp only [show decide (c ∈ Bt.lst m 32) = true from decide_eq_true hm] at hh
      obtain ⟨j, hj⟩ : ∃ j, j = Bt.less (Bt.lst m 32) c := ⟨_, rfl⟩
      simp only [← hj] at hp hlt ⊢
      obtain ⟨vi, k1, k2⟩ := hk j hlt
      have HH := Lib.hid hh; clear hh
      have HP := Lib.hid hp; clear hp
      have K2 := Lib.hid k2; clear k2
      clear hr hk hj hm ho hg
      go_enter Tryd.func42, Tryd.ntmps42
      go_wp2_with fail
      refine (HH.out _).mono ?_
      rintro e w' ⟨rfl, rfl⟩
      go_wp2_with fail
      go_quiet (first | (go_at_call 61; refine Calls.quiet_of (HP.out _)))
      go_wp2_with fail
      go_ret2
      exact ⟨⟨vi, rfl, K2.out⟩, _, rfl⟩
    · rw [decide_eq_false hm, if_neg hm]
      simp only [show decide (c ∈ Bt.lst m 32) = false from decide_eq_false hm] at hh
      have HH := Lib.hid hh; clear hh
      clear hr hk hm ho hg hp
      go_enter Tryd.func42, Tryd.ntmps42
      go_wp2_with fail
      refine (HH.out _).mono ?_
      rintro e w' ⟨rfl, rfl⟩
      go_wp2_with fail
      go_ret2
      exact ⟨⟨_, rfl, rfl⟩, 0, rfl⟩
end Go.Proofs.YtngfbkkfnooobaaDoor
