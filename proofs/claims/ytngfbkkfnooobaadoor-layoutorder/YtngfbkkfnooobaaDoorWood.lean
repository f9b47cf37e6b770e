/-
  Plain facts on sizes and trees: held, even, the least size of a height; trees of pairs, their sizes, heights, lists; that one turn, or two, are enough behind a join. No program is named here.
-/
import Derived.Test.YtngfbkkfnooobaaDoorMath
namespace Go.Proofs.YtngfbkkfnooobaaDoor
def hd (z : Int) : Nat := (max 0 (min z 1048576)).toNat
theorem hd_le (z : Int) : hd z ≤ 1048576 := by unfold hd; omega
theorem hd_nat (n : Nat) (h : n ≤ 1048576) : hd (n : Int) = n := by unfold hd; omega
def ev (a b : Nat) : Bool := decide (a + 1 ≤ 3 * (b + 1)) && decide (b + 1 ≤ 3 * (a + 1))
theorem ev_true {a b : Nat} : ev a b = true ↔ a + 1 ≤ 3 * (b + 1) ∧ b + 1 ≤ 3 * (a + 1) := by
  unfold ev; rw [Bool.and_eq_true, decide_eq_true_iff, decide_eq_true_iff]
theorem ev_false {a b : Nat} : ev a b = false ↔ ¬ (a + 1 ≤ 3 * (b + 1) ∧ b + 1 ≤ 3 * (a + 1)) := by
  rw [← ev_true]; simp
theorem ev_turn (a b : Nat) : ev b a = ev a b := by unfold ev; exact Bool.and_comm _ _
def step (s : Nat) : Nat := 1 + s + s / 3
def low : Nat → Nat
  | 0 => 0
  | n + 1 => step (low n)
theorem low_step (n : Nat) : low (n + 1) = 1 + low n + low n / 3 := rfl
theorem low_lt (n : Nat) : low n < low (n + 1) := by rw [low_step]; omega
theorem low_mono {a b : Nat} (h : a ≤ b) : low a ≤ low b := by
  induction h with
  | refl => exact Nat.le_refl _
  | step _ ih => exact Nat.le_trans ih (Nat.le_of_lt (low_lt _))
theorem low_few : 1000 < low 40 := by decide
theorem low_cube : ∀ h : Fin 41, 2 ^ (h.val - 2) ≤ (low h.val + 1) * (low h.val + 1) * (low h.val + 1) := by decide
theorem cube_le {a b : Nat} (h : a ≤ b) : a * a * a ≤ b * b * b := Nat.mul_le_mul (Nat.mul_le_mul h h) h
/-- a tree of pairs -/
inductive Tr where
  | nil : Tr
  | node (l : Tr) (p : Pr) (r : Tr) : Tr
namespace Tr
def size : Tr → Nat
  | nil => 0
  | node l _ r => l.size + r.size + 1
def high : Tr → Nat
  | nil => 0
  | node l _ r => 1 + max l.high r.high
def list : Tr → List Pr
  | nil => []
  | node l p r => l.list ++ p :: r.list
/-- it is even, all the way down -/
def even : Tr → Prop
  | nil => True
  | node l _ r => ev l.size r.size = true ∧ l.even ∧ r.even
theorem length : ∀ t : Tr, t.list.length = t.size
  | nil => rfl
  | node l p r => by simp [list, size, length l, length r]; omega
theorem low_size : ∀ t : Tr, t.even → low t.high ≤ t.size
  | nil, _ => Nat.le_refl _
  | node l p r, h => by
    obtain ⟨h1, h2, h3⟩ := h
    have a := low_size l h2
    have b := low_size r h3
    rw [ev_true] at h1
    simp only [size, high]
    rcases Nat.le_total l.high r.high with k | k
    · rw [Nat.max_eq_right k, Nat.add_comm 1, low_step]
      have : low r.high / 3 ≤ l.size := by omega
      omega
    · rw [Nat.max_eq_left k, Nat.add_comm 1, low_step]
      have : low l.high / 3 ≤ r.size := by omega
      omega
/-- a tree of few pairs is low -/
theorem high_cube {t : Tr} (h : t.even) (hs : t.size ≤ 1000) : t.high < 40 ∧ 2 ^ (t.high - 2) ≤ (t.size + 1) * (t.size + 1) * (t.size + 1) := by
  have h1 := low_size t h
  have h2 : t.high < 40 := by
    rcases Nat.lt_or_ge t.high 40 with g | g
    · exact g
    · have := low_mono g
      have := low_few
      omega
  refine ⟨h2, Nat.le_trans (low_cube ⟨t.high, by omega⟩) (cube_le ?_)⟩
  show low t.high + 1 ≤ t.size + 1
  omega
theorem high_zero : ∀ t : Tr, t.high = 0 → t = nil
  | nil, _ => rfl
  | node l p r, h => by simp [high] at h
end Tr
/-- one turn, or two, are enough behind a join: a is the side that stayed, b what the other one was, c what came in -/
theorem joined (a b c i o : Nat) (h1 : ev a b = true) (h2 : 3 * (c + 1) < a + b + 2) (hs : i + o + 1 = b + c + 1) (h3 : ev a (i + o + 1) = false) (h4 : ev i o = true) :
    ((ev a i && ev (a + i + 1) o) = false → 2 ≤ i) ∧ ∀ x y, x + y + 1 = i → ev x y = true → (ev a i && ev (a + i + 1) o) = false →
      ev a x = true ∧ ev y o = true ∧ ev (a + x + 1) (y + o + 1) = true := by
  rw [ev_false] at h3
  rw [ev_true] at h1 h4
  refine ⟨fun h => ?_, fun x y hx h5 h => ?_⟩
  · rw [Bool.and_eq_false_iff, ev_false, ev_false] at h
    omega
  · rw [Bool.and_eq_false_iff, ev_false, ev_false] at h
    simp only [ev_true] at h5 ⊢
    omega
end Go.Proofs.YtngfbkkfnooobaaDoor
