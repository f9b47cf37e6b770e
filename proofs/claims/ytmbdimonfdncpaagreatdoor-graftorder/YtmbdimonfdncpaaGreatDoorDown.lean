/-
  Contract of goDown: it hands on a node's shape, spot by spot, to a yield that always goes on.
-/
import Derived.Test.YtmbdimonfdncpaaGreatDoorOf
namespace Go.Proofs.YtmbdimonfdncpaaGreatDoor
open Go.RowKit Go.Shelf
set_option maxHeartbeats 4000000
set_option maxRecDepth 100000
attribute [local go_sem] Oper.semAt_some
attribute [local irreducible] Bt.lst
theorem yieldAt_wide {m m' : Nat} {P : Program} {l : Nat} {args : Array Value} {W : World} {R : Ending → World → Prop} (h : YieldAt Fence.wide m P l args W R) : YieldAt Fence.wide m' P l args W R :=
  let ⟨fn, tmps, assign, body, hy, h1, h2⟩ := h
  ⟨fn, tmps, assign, body, hy, h1, fun c cs _ => h2 c cs (room_wide _)⟩
/-- what the yields of a loop (its record in block l) do: they take the spots sp one by one, and go on; they change the blocks of X, the record, and blocks O of their own, new ones among them -/
structure Ylds (l B0 : Nat) (X : Nat → Prop) (O : World → Nat → Prop) (J : Nat → World → Prop) (sp : Nat → Sp) (T : Nat) : Prop where
  hl : B0 ≤ l
  hB : 0 < B0
  hX : ∀ k, X k → B0 ≤ k ∧ k < l
  size : ∀ j A, J j A → l < A.heap.size
  lt : ∀ j A k, J j A → O A k → B0 ≤ k ∧ k < A.heap.size
  stab : ∀ j A B (Z : Nat → Prop), J j A → But Z A B → (∀ k, Z k → l < k ∧ ¬ O A k) → J j B ∧ ∀ k, O B k → O A k
  yield : ∀ j A, j < T → J j A → YieldAt Fence.wide 1 Tryz.prog l #[(sp j).agg] A fun e B => e = .returned (.bool true) ∧ J (j + 1) B ∧ But (fun k => X k ∨ k = l ∨ O A k) A B ∧ ∀ k, O B k → O A k ∨ A.heap.size ≤ k
theorem Ylds.later {l B0 : Nat} {X : Nat → Prop} {O : World → Nat → Prop} {J : Nat → World → Prop} {sp : Nat → Sp} {T : Nat} (h : Ylds l B0 X O J sp T) {j : Nat} {A B : World} (hJ : J j A) (hb : Below A.heap.size A B) : J j B ∧ ∀ k, O B k → O A k :=
  h.stab j A B (fun k => A.heap.size ≤ k) hJ ⟨hb.os, hb.tape, hb.output, hb.size, fun k hk _ => hb.block k hk⟩ fun k hk => ⟨by have := h.size j A hJ; omega, fun ho => by have := (h.lt j A k hJ ho).2; omega⟩
theorem set_bits (x : Nd) : x.set = Bt.lst x.bits 32 := by
  cases x with
  | bran m k kid => rfl
  | _ => exact (Bt.lst_zero 32).symm
theorem num_bits {x : Nd} (h : x.ok) : (Bt.lst x.bits 32).length = x.num := by
  cases x with
  | bran m k kid => exact h.2.2.1
  | none => show (Bt.lst 0 32).length = 0; rw [Bt.lst_zero]; rfl
  | leaf h p => show (Bt.lst 0 32).length = 0; rw [Bt.lst_zero]; rfl
  | buck h L => show (Bt.lst 0 32).length = 0; rw [Bt.lst_zero]; rfl
theorem right_kid {x : Nd} {lv i : Nat} (h : x.right lv = true) (hi : i < x.num) : lv ≤ 12 ∧ (x.kid i).right (lv + 1) = true := by
  cases x with
  | bran m k kid =>
    rw [Nd.right, Bool.and_eq_true, Bool.and_eq_true, allTo_iff, decide_eq_true_eq] at h
    have := h.2.2 i hi
    rw [Bool.and_eq_true] at this
    exact ⟨h.1, this.1⟩
  | _ => exact absurd hi (Nat.not_lt_zero _)
theorem catS_get {f : Nat → List Sp} {i t : Nat} : ∀ {n : Nat}, i < n → t < (f i).length → (catS f n)[(catS f i).length + t]? = (f i)[t]?
  | 0, h, _ => absurd h (Nat.not_lt_zero i)
  | n + 1, h, ht => by
    rw [catS]
    rcases Nat.eq_or_lt_of_le (Nat.lt_succ_iff.1 h) with rfl | h
    · rw [List.getElem?_append_right (Nat.le_add_right _ _), Nat.add_sub_cancel_left]
    · have h2 : (catS f i).length + t < (catS f n).length := by
        have := catS_le f (show i + 1 ≤ n from h)
        rw [catS, List.length_append] at this
        omega
      rw [List.getElem?_append_left h2, catS_get h ht]
/-- what goDown leaves -/
def DPost (l : Nat) (X : Nat → Prop) (O : World → Nat → Prop) (J : Nat → World → Prop) (j : Nat) (w : World) (e : Ending) (w' : World) : Prop :=
  e = .returned (.bool true) ∧ J j w' ∧ But (fun k => X k ∨ k = l ∨ O w k) w w' ∧ ∀ k, O w' k → O w k ∨ w.heap.size ≤ k
end Go.Proofs.YtmbdimonfdncpaaGreatDoor
