/-
  Merging in place, plain: stretches of a list of places turned about (rot), that two sorted stretches, cut at places that fit, lead to one sorted stretch of the same; sorting by blocks. No program.
-/
import Derived.Sort.Statements
import Derived.Sort.LotA
import Derived.Test.YtmbdimonfdncpaaGreatDoorWalks
import Derived.Shelf.SlSortCmp.KitK
import Derived.Sort.WalkB2
import Derived.Sort.WalkB12
import Derived.Deep.LoopGhost
import Derived.Shelf.SlSortCmp.PdqK
namespace Go.Proofs.YtmbdimonfdncpaaGreatDoor
open Go.Sort
set_option maxHeartbeats 400000
set_option linter.unusedSectionVars false
set_option linter.unusedVariables false
section
variable {α : Type}
/-- the stretch of n places from a on -/
def sl (f : Nat → α) (a n : Nat) : List α := (List.range' a n).map f
theorem sl_add (f : Nat → α) (a n m : Nat) : sl f a (n + m) = sl f a n ++ sl f (a + n) m := by
  unfold sl
  rw [← List.map_append, List.range'_append_1]
theorem sl_cut (f : Nat → α) {a b c : Nat} (h1 : a ≤ b) (h2 : b ≤ c) : sl f a (c - a) = sl f a (b - a) ++ sl f b (c - b) := by
  have e : c - a = (b - a) + (c - b) := by omega
  have e2 : a + (b - a) = b := by omega
  rw [e, sl_add, e2]
theorem sl_congr {f g : Nat → α} {a n b : Nat} (h : ∀ x, x < n → f (a + x) = g (b + x)) : sl f a n = sl g b n := by
  unfold sl
  refine List.ext_getElem (by simp) fun i h1 h2 => ?_
  simp only [List.length_map, List.length_range'] at h1
  simp only [List.getElem_map, List.getElem_range', Nat.one_mul]
  exact h i h1
theorem sl_length (f : Nat → α) (a n : Nat) : (sl f a n).length = n := by simp [sl]
theorem mem_sl (f : Nat → α) (a n : Nat) (v : α) : v ∈ sl f a n ↔ ∃ x, a ≤ x ∧ x < a + n ∧ f x = v := by
  unfold sl
  simp only [List.mem_map, List.mem_range'_1]
  constructor
  · rintro ⟨x, ⟨h1, h2⟩, h3⟩; exact ⟨x, h1, h2, h3⟩
  · rintro ⟨x, h1, h2, h3⟩; exact ⟨x, ⟨h1, h2⟩, h3⟩
/-- [a, m) and [m, b) change places -/
def rotf (f : Nat → α) (a m b x : Nat) : α := if a ≤ x ∧ x < a + (b - m) then f (x + (m - a)) else if a + (b - m) ≤ x ∧ x < b then f (x - (b - m)) else f x
/-- [a, a + n) and [b, b + n) change places -/
def swapf (f : Nat → α) (a b n x : Nat) : α := if a ≤ x ∧ x < a + n then f (x - a + b) else if b ≤ x ∧ x < b + n then f (x - b + a) else f x
/-- two places change -/
def sw1 (f : Nat → α) (i j x : Nat) : α := if x = j then f i else if x = i then f j else f x
theorem swapf_zero (f : Nat → α) (a b : Nat) : swapf f a b 0 = f := by
  funext x
  unfold swapf
  rw [if_neg (by omega), if_neg (by omega)]
theorem swapf_step (f : Nat → α) {a b i n : Nat} (h : a + n ≤ b) (hi : i < n) : sw1 (swapf f a b i) (a + i) (b + i) = swapf f a b (i + 1) := by
  funext x
  unfold sw1 swapf
  repeat' split
  all_goals first | rfl | omega | (congr 1; omega)
theorem rotf_left (f : Nat → α) (m b : Nat) : rotf f m m b = f := by
  funext x
  unfold rotf
  repeat' split
  all_goals first | rfl | omega | (congr 1; omega)
theorem rotf_right (f : Nat → α) (a m : Nat) (h : a ≤ m) : rotf f a m m = f := by
  funext x
  unfold rotf
  split
  · omega
  · split
    · congr 1; omega
    · rfl
theorem rotf_more (f : Nat → α) {m i j : Nat} (h : j < i) (hm : i ≤ m) : rotf f (m - i) m (m + j) = rotf (swapf f (m - i) m j) (m - (i - j)) m (m + j) := by
  funext x
  unfold rotf swapf
  repeat' split
  all_goals first | rfl | omega | (congr 1; omega)
theorem rotf_less (f : Nat → α) {m i j : Nat} (h : i < j) (hm : i ≤ m) : rotf f (m - i) m (m + j) = rotf (swapf f (m - i) (m + j - i) i) (m - i) m (m + (j - i)) := by
  funext x
  unfold rotf swapf
  repeat' split
  all_goals first | rfl | omega | (congr 1; omega)
theorem rotf_even (f : Nat → α) {m i : Nat} (hm : i ≤ m) : rotf f (m - i) m (m + i) = swapf f (m - i) m i := by
  funext x
  unfold rotf swapf
  repeat' split
  all_goals first | rfl | omega | (congr 1; omega)
/-- one place goes up -/
theorem rotf_up (f : Nat → α) (a k : Nat) (h : a ≤ k) : sw1 (rotf f a (a + 1) (k + 1)) k (k + 1) = rotf f a (a + 1) (k + 2) := by
  funext x
  unfold sw1 rotf
  repeat' split
  all_goals first | rfl | omega | (congr 1; omega)
/-- one place goes down -/
theorem rotf_down (f : Nat → α) (k m : Nat) (h : k + 1 ≤ m) : sw1 (rotf f (k + 1) m (m + 1)) (k + 1) k = rotf f k m (m + 1) := by
  funext x
  unfold sw1 rotf
  repeat' split
  all_goals first | rfl | omega | (congr 1; omega)
theorem rotf_perm (f : Nat → α) {a s m e b : Nat} (h1 : a ≤ s) (h2 : s ≤ m) (h3 : m ≤ e) (h4 : e ≤ b) : (sl (rotf f s m e) a (b - a)).Perm (sl f a (b - a)) := by
  have e1 : sl (rotf f s m e) a (s - a) = sl f a (s - a) := sl_congr fun x hx => by unfold rotf; rw [if_neg (by omega), if_neg (by omega)]
  have e2 : sl (rotf f s m e) s (s + (e - m) - s) = sl f m (e - m) := by
    rw [show s + (e - m) - s = e - m by omega]
    exact sl_congr fun x hx => by unfold rotf; rw [if_pos (by omega)]; congr 1; omega
  have e3 : sl (rotf f s m e) (s + (e - m)) (e - (s + (e - m))) = sl f s (m - s) := by
    rw [show e - (s + (e - m)) = m - s by omega]
    exact sl_congr fun x hx => by unfold rotf; rw [if_neg (by omega), if_pos (by omega)]; congr 1; omega
  have e4 : sl (rotf f s m e) e (b - e) = sl f e (b - e) := sl_congr fun x hx => by unfold rotf; rw [if_neg (by omega), if_neg (by omega)]
  rw [sl_cut _ (show a ≤ s by omega) (show s ≤ b by omega), sl_cut _ (show s ≤ s + (e - m) by omega) (show s + (e - m) ≤ b by omega), sl_cut _ (show s + (e - m) ≤ e by omega) (show e ≤ b by omega), e1, e2, e3, e4,
    sl_cut f (show a ≤ s by omega) (show s ≤ b by omega), sl_cut f (show s ≤ m by omega) (show m ≤ b by omega), sl_cut f (show m ≤ e by omega) (show e ≤ b by omega)]
  refine List.Perm.append_left _ ?_
  rw [← List.append_assoc, ← List.append_assoc]
  exact List.Perm.append_right _ List.perm_append_comm
/-- sorted on [a, b) -/
def Asc (lt : α → α → Bool) (f : Nat → α) (a b : Nat) : Prop := ∀ i j, a ≤ i → i < j → j < b → lt (f j) (f i) = false
/-- f' has the places of [a, b) sorted, and all else as f -/
structure Mgd (lt : α → α → Bool) (f f' : Nat → α) (a b : Nat) : Prop where
  out : ∀ x, x < a ∨ b ≤ x → f' x = f x
  perm : (sl f' a (b - a)).Perm (sl f a (b - a))
  asc : Asc lt f' a b
variable {lt : α → α → Bool}
theorem Asc.congr {f g : Nat → α} {a b : Nat} (h : Asc lt f a b) (e : ∀ x, a ≤ x → x < b → g x = f x) : Asc lt g a b := fun i j hi hij hj => by
  rw [e i hi (by omega), e j (by omega) hj]
  exact h i j hi hij hj
theorem Mgd.refl {f : Nat → α} {a b : Nat} (h : Asc lt f a b) : Mgd lt f f a b := ⟨fun _ _ => rfl, List.Perm.refl _, h⟩
theorem Mgd.mem {f f' : Nat → α} {a b x : Nat} (h : Mgd lt f f' a b) (h1 : a ≤ x) (h2 : x < b) : ∃ y, a ≤ y ∧ y < b ∧ f' x = f y := by
  have g : f' x ∈ sl f a (b - a) := h.perm.mem_iff.1 ((mem_sl _ _ _ _).2 ⟨x, h1, by omega, rfl⟩)
  obtain ⟨y, h3, h4, h5⟩ := (mem_sl _ _ _ _).1 g
  exact ⟨y, h3, by omega, h5.symm⟩
/-- sorted below mid, sorted from mid on, and no one from mid on is less than one below: sorted -/
theorem Asc.glue (_hS : SWO lt) {f : Nat → α} {a mid b : Nat} (h1 : Asc lt f a mid) (h2 : Asc lt f mid b) (h3 : ∀ x y, a ≤ x → x < mid → mid ≤ y → y < b → lt (f y) (f x) = false) : Asc lt f a b := fun i j hi hij hj => by
  rcases Nat.lt_or_ge j mid with g | g
  · exact h1 i j hi hij g
  · rcases Nat.lt_or_ge i mid with k | k
    · exact h3 i j hi k g hj
    · exact h2 i j k hij hj
/-- le goes on -/
theorem le_trans' (hS : SWO lt) {x y z : α} (h1 : lt y x = false) (h2 : lt z y = false) : lt z x = false := hS.ntrans _ _ _ h2 h1
theorem le_of_lt' (hS : SWO lt) {x y : α} (h : lt x y = true) : lt y x = false := by
  cases g : lt y x
  · rfl
  · have := hS.trans _ _ _ h g
    rw [hS.irrefl] at this
    cases this
theorem Asc.le (hS : SWO lt) {f : Nat → α} {a b : Nat} (h : Asc lt f a b) {i j : Nat} (hi : a ≤ i) (hij : i ≤ j) (hj : j < b) : lt (f j) (f i) = false := by
  rcases Nat.lt_or_ge i j with g | g
  · exact h i j hi g hj
  · obtain rfl : i = j := by omega
    exact hS.irrefl _
section
variable (hS : SWO lt) {f : Nat → α} {a s m e b : Nat} (h1 : a ≤ s) (h2 : s ≤ m) (h3 : m ≤ e) (h4 : e ≤ b) (A : Asc lt f a m) (B : Asc lt f m b)
include h1 h2 h3 h4 A B
theorem rot_p1 : Asc lt (rotf f s m e) a s := fun i j hi hij hj => by
  have := A i j hi hij (by omega)
  unfold rotf
  rw [if_neg (by omega), if_neg (by omega), if_neg (by omega), if_neg (by omega)]
  exact this
theorem rot_p2 : Asc lt (rotf f s m e) s (s + (e - m)) := fun i j hi hij hj => by
  have := B (i + (m - s)) (j + (m - s)) (by omega) (by omega) (by omega)
  unfold rotf
  rw [if_pos (by omega), if_pos (by omega)]
  exact this
theorem rot_p3 : Asc lt (rotf f s m e) (s + (e - m)) e := fun i j hi hij hj => by
  have := A (i - (e - m)) (j - (e - m)) (by omega) (by omega) (by omega)
  unfold rotf
  rw [if_neg (by omega), if_pos (by omega), if_neg (by omega), if_pos (by omega)]
  exact this
theorem rot_p4 : Asc lt (rotf f s m e) e b := fun i j hi hij hj => by
  have := B i j (by omega) hij hj
  unfold rotf
  rw [if_neg (by omega), if_neg (by omega), if_neg (by omega), if_neg (by omega)]
  exact this
include hS
theorem rot_cross (c1 : s = a ∨ e = b ∨ lt (f e) (f (s - 1)) = false) (c2 : s = m ∨ e = m ∨ lt (f s) (f (e - 1)) = false) :
    ∀ x y, a ≤ x → x < s + (e - m) → s + (e - m) ≤ y → y < b → lt (rotf f s m e y) (rotf f s m e x) = false := fun x y hx hx2 hy hy2 => by
  have ex : (x < s ∧ rotf f s m e x = f x) ∨ (s ≤ x ∧ rotf f s m e x = f (x + (m - s))) := by
    unfold rotf
    rcases Nat.lt_or_ge x s with g | g
    · exact .inl ⟨g, by rw [if_neg (by omega), if_neg (by omega)]⟩
    · exact .inr ⟨g, by rw [if_pos (by omega)]⟩
  have ey : (y < e ∧ rotf f s m e y = f (y - (e - m))) ∨ (e ≤ y ∧ rotf f s m e y = f y) := by
    unfold rotf
    rcases Nat.lt_or_ge y e with g | g
    · exact .inl ⟨g, by rw [if_neg (by omega), if_pos (by omega)]⟩
    · exact .inr ⟨g, by rw [if_neg (by omega), if_neg (by omega)]⟩
  rcases ex with ⟨gx, ex⟩ | ⟨gx, ex⟩ <;> rcases ey with ⟨gy, ey⟩ | ⟨gy, ey⟩ <;> rw [ex, ey]
  · exact A _ _ hx (by omega) (by omega)
  · rcases c1 with c | c | c
    · omega
    · omega
    · refine le_trans' hS (A.le hS hx (show x ≤ s - 1 by omega) (by omega)) (le_trans' hS c (B.le hS h3 gy hy2))
  · rcases c2 with c | c | c
    · omega
    · omega
    · refine le_trans' hS (B.le hS (show m ≤ x + (m - s) by omega) (show x + (m - s) ≤ e - 1 by omega) (by omega)) (le_trans' hS c (A.le hS h1 (show s ≤ y - (e - m) by omega) (by omega)))
  · exact B _ _ (by omega) (by omega) hy2
end
/-- the merge, cut at s and e: both halves merged -/
theorem mgd_halves (hS : SWO lt) {f f2 f3 : Nat → α} {a s m e b mid : Nat} (h1 : a ≤ s) (h2 : s ≤ m) (h3 : m ≤ e) (h4 : e ≤ b) (hm : s + (e - m) = mid) (A : Asc lt f a m) (B : Asc lt f m b)
    (c1 : s = a ∨ e = b ∨ lt (f e) (f (s - 1)) = false) (c2 : s = m ∨ e = m ∨ lt (f s) (f (e - 1)) = false)
    (M2 : Mgd lt (rotf f s m e) f2 a mid) (M3 : Mgd lt f2 f3 mid b) : Mgd lt f f3 a b := by
  subst hm
  have C := rot_cross hS h1 h2 h3 h4 A B c1 c2
  refine ⟨fun x hx => ?_, ?_, ?_⟩
  · rw [M3.out x (by omega), M2.out x (by omega)]
    unfold rotf
    rw [if_neg (by omega), if_neg (by omega)]
  · refine List.Perm.trans ?_ (rotf_perm f h1 h2 h3 h4)
    rw [sl_cut f3 (show a ≤ s + (e - m) by omega) (show s + (e - m) ≤ b by omega), sl_cut (rotf f s m e) (show a ≤ s + (e - m) by omega) (show s + (e - m) ≤ b by omega)]
    have e1 : sl f3 a (s + (e - m) - a) = sl f2 a (s + (e - m) - a) := sl_congr fun x hx => M3.out _ (by omega)
    have e2 : sl f2 (s + (e - m)) (b - (s + (e - m))) = sl (rotf f s m e) (s + (e - m)) (b - (s + (e - m))) := sl_congr fun x hx => M2.out _ (by omega)
    rw [e1, ← e2]
    exact M2.perm.append M3.perm
  · refine Asc.glue hS (M2.asc.congr fun x _ hx => M3.out x (by omega)) M3.asc fun x y hx hx2 hy hy2 => ?_
    rw [M3.out x (by omega)]
    obtain ⟨x', k1, k2, k3⟩ := M2.mem hx hx2
    obtain ⟨y', k4, k5, k6⟩ := M3.mem hy hy2
    rw [k3, k6, M2.out y' (by omega)]
    exact C x' y' k1 k2 k4 k5
/-- one ahead of a sorted stretch -/
theorem mgd_up (hS : SWO lt) {f : Nat → α} {a i b : Nat} (h1 : a + 1 ≤ i) (h2 : i ≤ b) (B : Asc lt f (a + 1) b) (c1 : i = a + 1 ∨ lt (f (i - 1)) (f a) = true) (c2 : i = b ∨ lt (f i) (f a) = false) : Mgd lt f (rotf f a (a + 1) i) a b := by
  have A : Asc lt f a (a + 1) := fun x y hx hxy hy => by omega
  have hc2 : a = a + 1 ∨ i = a + 1 ∨ lt (f a) (f (i - 1)) = false := by
    rcases c1 with c | c
    · exact .inr (.inl c)
    · exact .inr (.inr (le_of_lt' hS c))
  have C := rot_cross hS (Nat.le_refl a) (Nat.le_succ a) h1 h2 A B (.inl rfl) hc2
  refine ⟨fun x hx => by unfold rotf; rw [if_neg (by omega), if_neg (by omega)], rotf_perm f (Nat.le_refl a) (Nat.le_succ a) h1 h2, Asc.glue hS (mid := a + (i - (a + 1))) (rot_p2 (Nat.le_refl a) (Nat.le_succ a) h1 h2 A B) ?_ C⟩
  intro x y hx hxy hy
  rcases Nat.lt_or_ge x i with g | g
  · have ex : rotf f a (a + 1) i x = f a := by
      unfold rotf
      rw [if_neg (by omega), if_pos (by omega)]; congr 1; omega
    have ey : rotf f a (a + 1) i y = f y := by
      unfold rotf
      rw [if_neg (by omega), if_neg (by omega)]
    rw [ex, ey]
    rcases c2 with c | c
    · omega
    · exact le_trans' hS c (B.le hS (show a + 1 ≤ i by omega) (show i ≤ y by omega) hy)
  · exact rot_p4 (Nat.le_refl a) (Nat.le_succ a) h1 h2 A B x y g hxy hy
/-- one behind a sorted stretch -/
theorem mgd_down (hS : SWO lt) {f : Nat → α} {a i m : Nat} (h1 : a ≤ i) (h2 : i ≤ m) (A : Asc lt f a m) (c1 : i = a ∨ lt (f m) (f (i - 1)) = false) (c2 : i = m ∨ lt (f m) (f i) = true) : Mgd lt f (rotf f i m (m + 1)) a (m + 1) := by
  have B : Asc lt f m (m + 1) := fun x y hx hxy hy => by omega
  have hc1 : i = a ∨ m + 1 = m + 1 ∨ lt (f (m + 1)) (f (i - 1)) = false := .inr (.inl rfl)
  have hc2 : i = m ∨ m + 1 = m ∨ lt (f i) (f (m + 1 - 1)) = false := by
    rcases c2 with c | c
    · exact .inl c
    · exact .inr (.inr (le_of_lt' hS c))
  have C := rot_cross hS h1 h2 (Nat.le_succ m) (Nat.le_refl _) A B hc1 hc2
  refine ⟨fun x hx => by unfold rotf; rw [if_neg (by omega), if_neg (by omega)], rotf_perm f h1 h2 (Nat.le_succ m) (Nat.le_refl _), Asc.glue hS (mid := i + (m + 1 - m)) ?_ (rot_p3 h1 h2 (Nat.le_succ m) (Nat.le_refl _) A B) C⟩
  intro x y hx hxy hy
  rcases Nat.lt_or_ge y i with g | g
  · exact rot_p1 h1 h2 (Nat.le_succ m) (Nat.le_refl _) A B x y hx hxy g
  · have ey : rotf f i m (m + 1) y = f m := by
      unfold rotf
      rw [if_pos (by omega)]; congr 1; omega
    have ex : rotf f i m (m + 1) x = f x := by
      unfold rotf
      rw [if_neg (by omega), if_neg (by omega)]
    rw [ex, ey]
    rcases c1 with c | c
    · omega
    · exact le_trans' hS (A.le hS hx (show x ≤ i - 1 by omega) (by omega)) c
end
end Go.Proofs.YtmbdimonfdncpaaGreatDoor
namespace Go.Proofs.YtmbdimonfdncpaaGreatDoor
open Go.Sort
set_option maxHeartbeats 400000
section
variable {α : Type} {lt : α → α → Bool} {f f' : Nat → α}
/-- the blocks of size s from lo on, up to hi, are sorted -/
def Blk (lt : α → α → Bool) (s : Nat) (f : Nat → α) (lo hi : Nat) : Prop := ∀ y, s ∣ y → lo ≤ y → y < hi → Asc lt f y (min (y + s) hi)
theorem dvd_step {s y a : Nat} (h1 : s ∣ y) (h2 : s ∣ a) (h : y < a) : y + s ≤ a := by
  obtain ⟨p, rfl⟩ := h1
  obtain ⟨q, rfl⟩ := h2
  have : p < q := Nat.lt_of_mul_lt_mul_left h
  have h3 : s * (p + 1) ≤ s * q := Nat.mul_le_mul_left s this
  rw [Nat.mul_add, Nat.mul_one] at h3
  exact h3
theorem mgd_whole {a b n : Nat} (h : Mgd lt f f' a b) (h1 : a ≤ b) (h2 : b ≤ n) : (sl f' 0 n).Perm (sl f 0 n) := by
  have e : ∀ g : Nat → α, sl g 0 n = sl g 0 (a - 0) ++ (sl g a (b - a) ++ sl g b (n - b)) := fun g => by
    rw [← sl_cut g h1 h2, show n - a = n - a from rfl]
    have := sl_cut g (show 0 ≤ a by omega) (show a ≤ n by omega)
    rw [Nat.sub_zero] at this
    exact this
  have e1 : sl f' 0 (a - 0) = sl f 0 (a - 0) := sl_congr fun x hx => h.out _ (by omega)
  have e2 : sl f' b (n - b) = sl f b (n - b) := sl_congr fun x hx => h.out _ (by omega)
  rw [e f', e f, e1, e2]
  exact List.Perm.append_left _ (List.Perm.append_right _ h.perm)
theorem blk_none (s : Nat) (lo : Nat) : Blk lt s f lo lo := fun y _ h1 h2 => absurd h2 (by omega)
/-- one block more -/
theorem blk_next {s a b : Nat} (hs : s ∣ a) (h : Blk lt s f 0 a) (M : Mgd lt f f' a b) (hb : b ≤ a + s) (hab : a ≤ b) : Blk lt s f' 0 b := fun y h1 _ h3 => by
  rcases Nat.lt_or_ge y a with g | g
  · have h4 := dvd_step h1 hs g
    have := h y h1 (Nat.zero_le _) g
    rw [show min (y + s) a = y + s by omega] at this
    rw [show min (y + s) b = y + s by omega]
    exact this.congr fun x _ h6 => M.out x (by omega)
  · have e : y = a := by
      rcases Nat.eq_or_lt_of_le g with e | e
      · exact e.symm
      · have := dvd_step hs h1 e
        omega
    subst e
    rw [show min (y + s) b = b by omega]
    exact M.asc
/-- two blocks become one -/
theorem blk_two {s a b n : Nat} (hs : 2 * s ∣ a) (h : Blk lt (2 * s) f 0 a) (hr : Blk lt s f a n) (M : Mgd lt f f' a b) (hb : b = a + 2 * s) : Blk lt (2 * s) f' 0 b ∧ Blk lt s f' b n := by
  refine ⟨blk_next hs h M (by omega) (by omega), fun y h1 h2 h3 => ?_⟩
  exact (hr y h1 (by omega) h3).congr fun x h5 h6 => M.out x (by omega)
theorem blk_last {s a n : Nat} (hs : 2 * s ∣ a) (h : Blk lt (2 * s) f 0 a) (M : Mgd lt f f' a n) (hn : n < a + 2 * s) (han : a ≤ n) : Blk lt (2 * s) f' 0 n := blk_next hs h M (by omega) han
theorem blk_rest {s a n : Nat} (hs : 2 * s ∣ a) (h : Blk lt (2 * s) f 0 a) (hr : Blk lt s f a n) (hn : n ≤ a + s) (han : a ≤ n) : Blk lt (2 * s) f 0 n := by
  have A : Asc lt f a n := by
    rcases Nat.eq_or_lt_of_le han with e | e
    · subst e
      exact fun i j h1 h2 h3 => absurd h3 (by omega)
    · have := hr a (Nat.dvd_trans ⟨2, by omega⟩ hs) (Nat.le_refl _) e
      rwa [show min (a + s) n = n by omega] at this
  exact blk_next hs h (Mgd.refl A) (by omega) han
theorem blk_end {s n : Nat} (h : Blk lt s f 0 n) (hn : n ≤ s) : Asc lt f 0 n := by
  rcases Nat.eq_zero_or_pos n with rfl | h0
  · exact fun i j h1 h2 h3 => absurd h3 (by omega)
  · have := h 0 (Nat.dvd_zero s) (Nat.le_refl _) h0
    rwa [show min (0 + s) n = n by omega] at this
/-- the two blocks at a -/
theorem blk_at {s a n : Nat} (h : Blk lt s f a n) (hs : s ∣ a) (h0 : 0 < s) (hb : a + s < n) : Asc lt f a (a + s) ∧ Asc lt f (a + s) (min (a + 2 * s) n) := by
  refine ⟨?_, ?_⟩
  · have := h a hs (Nat.le_refl _) (by omega)
    rwa [show min (a + s) n = a + s by omega] at this
  · have := h (a + s) ((Nat.dvd_add_right hs).2 (Nat.dvd_refl s)) (by omega) hb
    rwa [show a + s + s = a + 2 * s by omega] at this
theorem dvd_two {s a : Nat} (h : 2 * s ∣ a) : s ∣ a ∧ 2 * s ∣ a + 2 * s := ⟨Nat.dvd_trans ⟨2, by omega⟩ h, (Nat.dvd_add_right h).2 (Nat.dvd_refl _)⟩
end
theorem extract_sl {α : Type} [Inhabited α] (d : Array α) {a b : Nat} (h1 : a ≤ b) (h2 : b ≤ d.size) : (d.extract a b).toList = sl (fun x => d[x]!) a (b - a) := by
  unfold sl
  refine List.ext_getElem (by simp; omega) fun i h3 h4 => ?_
  simp only [Array.length_toList, Array.size_extract] at h3
  have : a + i < d.size := by omega
  simp [this]
theorem mgd_of_sorted {α : Type} [Inhabited α] {lt : α → α → Bool} {d d' : Array α} {a b : Nat} (h1 : a ≤ b) (h2 : b ≤ d.size) (P : PermIn a b d d') (S : SortedIn lt a b d') : Mgd lt (fun x => d[x]!) (fun x => d'[x]!) a b := by
  obtain ⟨hs, ho, hp⟩ := P
  refine ⟨fun x hx => ho x (by omega), ?_, S⟩
  rw [← extract_sl d' h1 (by omega), ← extract_sl d h1 h2]
  exact hp
end Go.Proofs.YtmbdimonfdncpaaGreatDoor
/-
  slices.swapRangeCmpFunc and slices.rotateCmpFunc at pairs: contracts from a world of the sort's to a world of the sort's.
-/
namespace Go.Proofs.YtmbdimonfdncpaaGreatDoor
open Go.Shelf Go.RowKit Go.Lib Go.Sort Go.Proofs
set_option maxHeartbeats 4000000
set_option maxRecDepth 1000000
/-- the places of an array -/
def pl {α : Type} [Inhabited α] (d : Array α) (x : Nat) : α := d[x]!
theorem pl_swp {α : Type} [Inhabited α] (d : Array α) {i j : Nat} (hi : i < d.size) (hj : j < d.size) : pl (swp d i j) = sw1 (pl d) i j := by
  funext x
  unfold pl sw1 swp
  by_cases hx : x = j
  · subst hx
    rw [if_pos rfl]
    simp [hj, Array.getElem!_eq_getD, Array.getD_eq_getD_getElem?]
  · rw [if_neg hx]
    by_cases hxi : x = i
    · subst hxi
      rw [if_pos rfl]
      have : j ≠ x := fun e => hx e.symm
      simp [this, hi, Array.getElem!_eq_getD, Array.getD_eq_getD_getElem?]
    · rw [if_neg hxi]
      have h1 : j ≠ x := fun e => hx e.symm
      have h2 : i ≠ x := fun e => hxi e.symm
      simp [h1, h2, Array.getElem!_eq_getD, Array.getD_eq_getD_getElem?]
theorem ext_pl {α : Type} [Inhabited α] {d e : Array α} (hs : d.size = e.size) (h : pl d = pl e) : d = e := by
  refine Array.ext hs fun i h1 h2 => ?_
  have := congrFun h i
  unfold pl at this
  simpa [h1, h2] using this
/-- where a pair's bytes lie -/
structure PV where
  a : Option Addr
  n : Nat
  c : Nat
  b : Option Addr
  m : Nat
  d : Nat
def enc2 (g : Nat → PV) (i : Nat) : List Value := [.slice (g i).a (g i).n (g i).c, .slice (g i).b (g i).m (g i).d]
theorem enc2_two (g : Nat → PV) (x : Nat) : (enc2 g x).length = 2 := rfl
theorem row_two {g : Nat → PV} {W : World} {blk off : Nat} {d : Array Nat} (H : HoldsK (enc2 g) 2 W blk off d) {i : Nat} (hi : i < d.size) :
    W.cell? ⟨blk, off + i * 2, none⟩ = some (.slice (g d[i]!).a (g d[i]!).n (g d[i]!).c) ∧ W.cell? ⟨blk, off + i * 2 + 1, none⟩ = some (.slice (g d[i]!).b (g d[i]!).m (g d[i]!).d) ∧ W.frozen? ⟨blk, off + i * 2, none⟩ = false ∧ W.frozen? ⟨blk, off + i * 2 + 1, none⟩ = false := by
  have h0 := H.cell hi (show 0 < 2 by decide)
  have h1 := H.cell hi (show 1 < 2 by decide)
  exact ⟨h0.1, h1.1, h0.2, h1.2⟩
variable {g : Nat → PV} {w0 : World} {blk off : Nat} {d0 : Array Nat}
/-- what an exchange reads and writes, and what it comes to -/
theorem SWK.exch {W : World} {dk : Array Nat} (h : SWK (enc2 g) 2 w0 blk off dk W) (R : RowK (enc2 g) 2 w0 blk off d0) (hs : dk.size = d0.size) {i j : Nat} (hi : i < dk.size) (hj : j < dk.size) (hij : i ≠ j) :
    ∃ pa pn pc qa qn qc ra rn rc sa sn sc, W.cell? ⟨blk, off + i * 2, none⟩ = some (.slice pa pn pc) ∧ W.cell? ⟨blk, off + i * 2 + 1, none⟩ = some (.slice qa qn qc) ∧ W.cell? ⟨blk, off + j * 2, none⟩ = some (.slice ra rn rc) ∧ W.cell? ⟨blk, off + j * 2 + 1, none⟩ = some (.slice sa sn sc) ∧
      W.frozen? ⟨blk, off + i * 2, none⟩ = false ∧ W.frozen? ⟨blk, off + i * 2 + 1, none⟩ = false ∧ W.frozen? ⟨blk, off + j * 2, none⟩ = false ∧ W.frozen? ⟨blk, off + j * 2 + 1, none⟩ = false ∧
      (W.setCell ⟨blk, off + i * 2, none⟩ (.slice ra rn rc)).cell? ⟨blk, off + i * 2 + 1, none⟩ = some (.slice qa qn qc) ∧ ((W.setCell ⟨blk, off + i * 2, none⟩ (.slice ra rn rc)).setCell ⟨blk, off + i * 2 + 1, none⟩ (.slice sa sn sc)).cell? ⟨blk, off + j * 2, none⟩ = some (.slice ra rn rc) ∧ (((W.setCell ⟨blk, off + i * 2, none⟩ (.slice ra rn rc)).setCell ⟨blk, off + i * 2 + 1, none⟩ (.slice sa sn sc)).setCell ⟨blk, off + j * 2, none⟩ (.slice pa pn pc)).cell? ⟨blk, off + j * 2 + 1, none⟩ = some (.slice sa sn sc) ∧
      SWK (enc2 g) 2 w0 blk off (swp dk i j) ((((W.setCell ⟨blk, off + i * 2, none⟩ (.slice ra rn rc)).setCell ⟨blk, off + i * 2 + 1, none⟩ (.slice sa sn sc)).setCell ⟨blk, off + j * 2, none⟩ (.slice pa pn pc)).setCell ⟨blk, off + j * 2 + 1, none⟩ (.slice qa qn qc)).drew := by
  obtain ⟨x1, x2, x3, x4⟩ := row_two (h.holds R.hblk R.hH hs) hi
  obtain ⟨y1, y2, y3, y4⟩ := row_two (h.holds R.hblk R.hH hs) hj
  have S := h.swapped R i j hi hj
  simp only [enc2, World.setCells] at S
  have n1 : off + i * 2 + 1 ≠ off + i * 2 := by omega
  have n2 : off + j * 2 ≠ off + i * 2 := by omega
  have n3 : off + j * 2 ≠ off + i * 2 + 1 := by omega
  have n4 : off + j * 2 + 1 ≠ off + i * 2 := by omega
  have n5 : off + j * 2 + 1 ≠ off + i * 2 + 1 := by omega
  have n6 : off + j * 2 + 1 ≠ off + j * 2 := by omega
  refine ⟨_, _, _, _, _, _, _, _, _, _, _, _, x1, x2, y1, y2, x3, x4, y3, y4, ?_, ?_, ?_, S⟩
  · rw [World.cell?_setCell_other (h := fun e => n1 (congrArg Addr.off e).symm)]; exact x2
  · rw [World.cell?_setCell_other (h := fun e => n3 (congrArg Addr.off e).symm), World.cell?_setCell_other (h := fun e => n2 (congrArg Addr.off e).symm)]; exact y1
  · rw [World.cell?_setCell_other (h := fun e => n6 (congrArg Addr.off e).symm), World.cell?_setCell_other (h := fun e => n5 (congrArg Addr.off e).symm), World.cell?_setCell_other (h := fun e => n4 (congrArg Addr.off e).symm)]; exact y2
theorem swapRange_any (R : RowK (enc2 g) 2 w0 blk off d0) (cap a b n : Nat) (fn : Value) {w : World} {d : Array Nat} (hW : SWK (enc2 g) 2 w0 blk off d w) (hs : d.size = d0.size) (hsz : d0.size < 4611686018427387904) (h1 : a + n ≤ b) (h2 : b + n ≤ d0.size) :
    Calls Tryz.prog 95 #[.slice (some ⟨blk, off, none⟩) d0.size cap, .int .i64 (a : Int), .int .i64 (b : Int), .int .i64 (n : Int), fn] w fun e w' => e = .returned (.tuple #[]) ∧ ∃ d', SWK (enc2 g) 2 w0 blk off d' w' ∧ d'.size = d0.size ∧ pl d' = swapf (pl d) a b n := by
  have S0 : Hid (SWK (enc2 g) 2 w0 blk off d w) := hW
  have HR : Hid (RowK (enc2 g) 2 w0 blk off d0) := R
  obtain ⟨sz, hz⟩ : ∃ sz, sz = d0.size := ⟨_, rfl⟩
  rw [← hz] at hs hsz h2 ⊢
  have HZ := Lib.hid hz
  clear hW hz R
  have mixed : Tryz.prog.follows .mixedOrders = true := by kernel_rfl
  go_enter Tryz.func95, Tryz.ntmps95
  go_wp2_with fail
  go_loopg [10] n (fun kx s10 wr => ∃ (i : Nat) (dk : Array Nat), s10 = .int .i64 (i : Int) ∧ i ≤ n ∧ n - i ≤ kx ∧ dk.size = sz ∧ Hid (SWK (enc2 g) 2 w0 blk off dk wr) ∧ Hid (pl dk = swapf (pl d) a b i))
  case atStart => exact ⟨0, d, rfl, by omega, by omega, hs, S0.out, (swapf_zero _ _ _).symm⟩
  case round =>
    clear S0
    obtain ⟨i, dk, rfl, hi, hkx, hds, S1, hpl⟩ := hrel
    by_cases hlt : i < n
    · have hltz : (i : Int) < (n : Int) := by omega
      go_wp2_with fail
      have ea : ((a : Int) + (i : Int)).toNat = a + i := by omega
      have pa : (0 : Int) ≤ (a : Int) + (i : Int) := by omega
      have ba : (a : Int) + (i : Int) < (sz : Int) := by omega
      have ra : IntKind.i64.wrap ((a : Int) + (i : Int)) = (a : Int) + (i : Int) := by rw [IntKind.wrap_i64]; omega
      have eb : ((b : Int) + (i : Int)).toNat = b + i := by omega
      have pb : (0 : Int) ≤ (b : Int) + (i : Int) := by omega
      have bb : (b : Int) + (i : Int) < (sz : Int) := by omega
      have rb : IntKind.i64.wrap ((b : Int) + (i : Int)) = (b : Int) + (i : Int) := by rw [IntKind.wrap_i64]; omega
      obtain ⟨pa', pn, pc, qa, qn, qc, ra', rn, rc, sa, sn, sc, c1, c2, c3, c4, f1, f2, f3, f4, c5, c6, c7, hS⟩ := SWK.exch S1.out HR.out (hds.trans HZ.out) (show a + i < dk.size by omega) (show b + i < dk.size by omega) (by omega)
      have S2 := Lib.hid hS; clear hS
      have hp2 : Hid (pl (swp dk (a + i) (b + i)) = swapf (pl d) a b (i + 1)) := by
        show _ = _
        rw [pl_swp dk (by omega) (by omega), hpl.out, swapf_step _ h1 hlt]
      have hs2 : Hid ((swp dk (a + i) (b + i)).size = sz) := by show _ = _; rw [size_swp]; exact hds
      clear S1
      go_wp2_with fail
      go_big_region_o
      all_goals
        clear c1 c2 c3 c4 f1 f2 f3 f4 c5 c6 c7
        generalize ((((wr.setCell ⟨blk, off + (a + i) * 2, none⟩ (.slice ra' rn rc)).setCell ⟨blk, off + (a + i) * 2 + 1, none⟩ (.slice sa sn sc)).setCell ⟨blk, off + (b + i) * 2, none⟩ (.slice pa' pn pc)).setCell ⟨blk, off + (b + i) * 2 + 1, none⟩ (.slice qa qn qc)).drew = w2 at S2 ⊢
        go_wp2_with fail
        go_roundg (n - (i + 1))
        case measure => omega
        case rel => exact ⟨i + 1, _, by go_num, by omega, by omega, hs2.out, S2.out, hp2.out⟩
    · obtain rfl : n = i := by omega
      go_wp2_with fail
      go_end0
      exact ⟨rfl, dk, S1.out, by rw [hds, HZ.out], hpl.out⟩
theorem rotate_any (R : RowK (enc2 g) 2 w0 blk off d0) (cap a m b : Nat) (fn : Value) {w : World} {d : Array Nat} (hW : SWK (enc2 g) 2 w0 blk off d w) (hs : d.size = d0.size) (hsz : d0.size < 4611686018427387904) (h1 : a < m) (h2 : m < b) (h3 : b ≤ d0.size) :
    Calls Tryz.prog 93 #[.slice (some ⟨blk, off, none⟩) d0.size cap, .int .i64 (a : Int), .int .i64 (m : Int), .int .i64 (b : Int), fn] w fun e w' => e = .returned (.tuple #[]) ∧ ∃ d', SWK (enc2 g) 2 w0 blk off d' w' ∧ d'.size = d0.size ∧ pl d' = rotf (pl d) a m b := by
  have S0 : Hid (SWK (enc2 g) 2 w0 blk off d w) := hW
  have SR := Lib.hid (fun (x y n : Nat) (W : World) (D : Array Nat) (hS : SWK (enc2 g) 2 w0 blk off D W) (hD : D.size = d0.size) (k1 : x + n ≤ y) (k2 : y + n ≤ d0.size) => swapRange_any R cap x y n fn hS hD hsz k1 k2)
  obtain ⟨sz, hz⟩ : ∃ sz, sz = d0.size := ⟨_, rfl⟩
  rw [← hz] at hs hsz h3 SR ⊢
  have HZ := Lib.hid hz
  clear hW hz R
  have e1 : IntKind.i64.wrap ((m : Int) - (a : Int)) = ((m - a : Nat) : Int) := by rw [IntKind.wrap_i64]; omega
  have e2 : IntKind.i64.wrap ((b : Int) - (m : Int)) = ((b - m : Nat) : Int) := by rw [IntKind.wrap_i64]; omega
  have e3 : (m : Int) - (a : Int) = ((m - a : Nat) : Int) := by omega
  have e4 : (b : Int) - (m : Int) = ((b - m : Nat) : Int) := by omega
  go_enter Tryz.func93, Tryz.ntmps93
  go_wp2_with fail
  go_loopg [10, 11] (b - a) (fun kx s10 s11 wr => ∃ (i j : Nat) (dk : Array Nat), s10 = .int .i64 (i : Int) ∧ s11 = .int .i64 (j : Int) ∧ 0 < i ∧ 0 < j ∧ i ≤ m - a ∧ j ≤ b - m ∧ i + j ≤ kx ∧ dk.size = sz ∧ Hid (SWK (enc2 g) 2 w0 blk off dk wr) ∧ Hid (rotf (pl dk) (m - i) m (m + j) = rotf (pl d) a m b))
  case atStart => exact ⟨m - a, b - m, d, rfl, rfl, by omega, by omega, by omega, by omega, by omega, hs, S0.out, by show _ = _; rw [show m - (m - a) = a by omega, show m + (b - m) = b by omega]⟩
  case round =>
    clear S0
    obtain ⟨i, j, dk, rfl, rfl, hi0, hj0, hi, hj, hkx, hds, S1, hpl⟩ := hrel
    by_cases hne : i = j
    · subst hne
      have hme : IntKind.i64.wrap ((m : Int) - (i : Int)) = ((m - i : Nat) : Int) := by rw [IntKind.wrap_i64]; omega
      have hme2 : (m : Int) - (i : Int) = ((m - i : Nat) : Int) := by omega
      have J := Lib.hid (SR.out (m - i) m i wr dk S1.out hds (by omega) (by omega))
      have t1 : ((i : Int) != (i : Int)) = false := by simp
      go_wp2_with fail
      refine J.out.mono ?_
      rintro e w2 ⟨rfl, d', h5, h6, h7⟩
      have HS := Lib.hid h5; clear h5
      have HP := Lib.hid h7; clear h7
      go_wp2_with fail
      go_end0
      refine ⟨rfl, d', HS.out, by rw [h6, HZ.out], ?_⟩
      rw [HP.out, ← hpl.out, rotf_even (pl dk) (by omega)]
    · have t1 : ((i : Int) != (j : Int)) = true := by
        have : ¬ (i : Int) = (j : Int) := by omega
        simpa using this
      by_cases hlt : j < i
      · have t2 : (j : Int) < (i : Int) := by omega
        have hme : IntKind.i64.wrap ((m : Int) - (i : Int)) = ((m - i : Nat) : Int) := by rw [IntKind.wrap_i64]; omega
        have hme2 : (m : Int) - (i : Int) = ((m - i : Nat) : Int) := by omega
        have J := Lib.hid (SR.out (m - i) m j wr dk S1.out hds (by omega) (by omega))
        have hi2 : IntKind.i64.wrap ((i : Int) - (j : Int)) = ((i - j : Nat) : Int) := by rw [IntKind.wrap_i64]; omega
        have hi3 : (i : Int) - (j : Int) = ((i - j : Nat) : Int) := by omega
        go_wp2_with fail
        refine J.out.mono ?_
        rintro e w2 ⟨rfl, d', h5, h6, h7⟩
        have HS := Lib.hid h5; clear h5
        have HP : Hid (rotf (pl d') (m - (i - j)) m (m + j) = rotf (pl d) a m b) := by
          show _ = _
          rw [h7, ← hpl.out, rotf_more (pl dk) hlt (by omega)]
        clear h7
        go_wp2_with fail
        go_roundg (i - j + j)
        case measure => omega
        case rel => exact ⟨i - j, j, d', by go_num, rfl, by omega, by omega, by omega, by omega, by omega, h6, HS.out, HP.out⟩
      · have t2 : (i : Int) < (j : Int) := by omega
        have t3 : ¬ (j : Int) < (i : Int) := by omega
        have hme : IntKind.i64.wrap ((m : Int) - (i : Int)) = ((m - i : Nat) : Int) := by rw [IntKind.wrap_i64]; omega
        have hme2 : (m : Int) - (i : Int) = ((m - i : Nat) : Int) := by omega
        obtain ⟨q, hq⟩ : ∃ q, q = m + j - i := ⟨_, rfl⟩
        have J := Lib.hid (SR.out (m - i) q i wr dk S1.out hds (by omega) (by omega))
        have hmf : IntKind.i64.wrap ((m : Int) + (j : Int)) = (m : Int) + (j : Int) := by rw [IntKind.wrap_i64]; omega
        have hmg : IntKind.i64.wrap ((m : Int) + (j : Int) - (i : Int)) = (q : Int) := by rw [IntKind.wrap_i64]; omega
        have hmg3 : (m : Int) + (j : Int) - (i : Int) = (q : Int) := by omega
        have HQ := Lib.hid hq; clear hq
        have hi2 : IntKind.i64.wrap ((j : Int) - (i : Int)) = ((j - i : Nat) : Int) := by rw [IntKind.wrap_i64]; omega
        have hi3 : (j : Int) - (i : Int) = ((j - i : Nat) : Int) := by omega
        go_wp2_with fail
        refine J.out.mono ?_
        rintro e w2 ⟨rfl, d', h5, h6, h7⟩
        have HS := Lib.hid h5; clear h5
        have HP : Hid (rotf (pl d') (m - i) m (m + (j - i)) = rotf (pl d) a m b) := by
          show _ = _
          rw [h7, HQ.out, ← hpl.out, rotf_less (pl dk) (by omega) (by omega)]
        clear h7
        go_wp2_with fail
        go_roundg (i + (j - i))
        case measure => omega
        case rel => exact ⟨i, j - i, d', rfl, by go_num, by omega, by omega, by omega, by omega, by omega, h6, HS.out, HP.out⟩
end Go.Proofs.YtmbdimonfdncpaaGreatDoor
/-
  slices.symMergeCmpFunc at pairs, where the first stretch is one place; where the second is.
-/
namespace Go.Proofs.YtmbdimonfdncpaaGreatDoor
open Go.Shelf Go.RowKit Go.Lib Go.Sort Go.Proofs
set_option maxHeartbeats 4000000
set_option maxRecDepth 1000000
variable {g : Nat → PV} {w0 : World} {blk off : Nat} {d0 : Array Nat} {cf : Nat → Nat → Int}
/-- what a test reads: two pairs, in every world of the class, and what it tells there -/
theorem SWK.test {W : World} {dk : Array Nat} (h : SWK (enc2 g) 2 w0 blk off dk W) (R : RowK (enc2 g) 2 w0 blk off d0) (hC : CmpLays Tryz.prog 37 #[] (enc2 g) 2 cf blk off d0.size w0) (hs : dk.size = d0.size) {i j : Nat} (hi : i < dk.size) (hj : j < dk.size) :
    ∃ pa pn pc qa qn qc ra rn rc sa sn sc, (∀ n os, (grow (W.drewN n) os).cell? ⟨blk, off + i * 2, none⟩ = some (.slice pa pn pc) ∧ (grow (W.drewN n) os).cell? ⟨blk, off + i * 2 + 1, none⟩ = some (.slice qa qn qc) ∧ (grow (W.drewN n) os).cell? ⟨blk, off + j * 2, none⟩ = some (.slice ra rn rc) ∧ (grow (W.drewN n) os).cell? ⟨blk, off + j * 2 + 1, none⟩ = some (.slice sa sn sc)) ∧
      (∀ n os, Calls Tryz.prog 37 #[.agg #[.slice pa pn pc, .slice qa qn qc], .agg #[.slice ra rn rc, .slice sa sn sc]] (grow (W.drewN n) os) fun e w' => e = .returned (.int .i64 (cf (pl dk i) (pl dk j))) ∧ ∃ q os', w' = grow ((grow (W.drewN n) os).drewN q) os') := by
  refine ⟨(g dk[i]!).a, (g dk[i]!).n, (g dk[i]!).c, (g dk[i]!).b, (g dk[i]!).m, (g dk[i]!).d, (g dk[j]!).a, (g dk[j]!).n, (g dk[j]!).c, (g dk[j]!).b, (g dk[j]!).m, (g dk[j]!).d, fun n os => ?_, fun n os => h.cmp hC hs (dk[i]!) (dk[j]!) n os⟩
  obtain ⟨x1, x2, _, _⟩ := row_two ((h.grown n os).holds R.hblk R.hH hs) hi
  obtain ⟨y1, y2, _, _⟩ := row_two ((h.grown n os).holds R.hblk R.hH hs) hj
  exact ⟨x1, x2, y1, y2⟩
theorem sym_up (R : RowK (enc2 g) 2 w0 blk off d0) (hC : CmpLays Tryz.prog 37 #[] (enc2 g) 2 cf blk off d0.size w0) (hS : SWO (ltOf cf)) (cap a b : Nat) {w : World} {d : Array Nat} (hW : SWK (enc2 g) 2 w0 blk off d w) (hs : d.size = d0.size) (hsz : d0.size < 4611686018427387904) (h1 : a + 1 < b) (h2 : b ≤ d0.size) (B : Asc (ltOf cf) (pl d) (a + 1) b) :
    Calls Tryz.prog 82 #[.slice (some ⟨blk, off, none⟩) d0.size cap, .int .i64 (a : Int), .int .i64 ((a + 1 : Nat) : Int), .int .i64 (b : Int), .func (.func 37) #[] #[]] w fun e w' => e = .returned (.tuple #[]) ∧ ∃ d', SWK (enc2 g) 2 w0 blk off d' w' ∧ d'.size = d0.size ∧ Mgd (ltOf cf) (pl d) (pl d') a b := by
  have S0 : Hid (SWK (enc2 g) 2 w0 blk off d w) := hW
  have HR : Hid (RowK (enc2 g) 2 w0 blk off d0) := R
  have HC : Hid (CmpLays Tryz.prog 37 #[] (enc2 g) 2 cf blk off d0.size w0) := hC
  have HS := Lib.hid hS
  have HB := Lib.hid B
  obtain ⟨sz, hz⟩ : ∃ sz, sz = d0.size := ⟨_, rfl⟩
  obtain ⟨m, hm⟩ : ∃ m, m = a + 1 := ⟨_, rfl⟩
  rw [← hz] at hs hsz h2 ⊢
  rw [← hm] at h1 ⊢
  have HZ := Lib.hid hz
  have HM := Lib.hid hm
  have e1 : IntKind.i64.wrap ((m : Int) - (a : Int)) = 1 := by rw [IntKind.wrap_i64]; omega
  have e2 : (m : Int) - (a : Int) = 1 := by omega
  clear hW hz R hC hS B hm
  have mixed : Tryz.prog.follows .mixedOrders = true := by kernel_rfl
  go_enter Tryz.func82, Tryz.ntmps82
  go_wp2_with fail
  go_loopg [10, 11, 12] (b - m) (fun kx s10 s11 s12 wr => ∃ (i j : Nat), s10 = .int .i64 (i : Int) ∧ s11 = .int .i64 (j : Int) ∧ m ≤ i ∧ i ≤ j ∧ j ≤ b ∧ j - i ≤ kx ∧ Hid (SWK (enc2 g) 2 w0 blk off d wr) ∧ Hid (i = m ∨ ltOf cf (pl d (i - 1)) (pl d a) = true) ∧ Hid (j = b ∨ ltOf cf (pl d j) (pl d a) = false))
  case atStart => exact ⟨m, b, rfl, rfl, by omega, by omega, by omega, by omega, S0.out, .inl rfl, .inl rfl⟩
  case round =>
    clear S0
    obtain ⟨i, j, rfl, rfl, hmi, hij, hjb, hkx, S1, hci, hcj⟩ := hrel
    by_cases hlt : i < j
    · have hltz : (i : Int) < (j : Int) := by omega
      obtain ⟨h, hh⟩ : ∃ h, h = (i + j) / 2 := ⟨_, rfl⟩
      have a1 : IntKind.i64.wrap ((i : Int) + (j : Int)) = (i : Int) + (j : Int) := by rw [IntKind.wrap_i64]; omega
      have a2 : ((i : Int) + (j : Int)) / 2 = (h : Int) := by omega
      obtain ⟨pa, pn, pc, qa, qn, qc, ra, rn, rc, sa, sn, sc, hcell, hcall⟩ := SWK.test S1.out HR.out HC.out (hs.trans HZ.out) (show h < d.size by omega) (show a < d.size by omega)
      have HH : Hid (h = (i + j) / 2) := hh
      have hih : i ≤ h := by omega
      have hhj : h < j := by omega
      have hzh : (h : Int) < (sz : Int) := by omega
      have hza : (a : Int) < (sz : Int) := by omega
      clear hh
      have q1 := fun n os => (hcell n os).1
      have q2 := fun n os => (hcell n os).2.1
      have q3 := fun n os => (hcell n os).2.2.1
      have q4 := fun n os => (hcell n os).2.2.2
      obtain ⟨c, hc⟩ : ∃ c, c = cf (pl d h) (pl d a) := ⟨_, rfl⟩
      rw [← hc] at hcall
      have hlc : ltOf cf (pl d h) (pl d a) = decide (c < 0) := by rw [hc]; rfl
      have HLC := Lib.hid hlc; clear hlc hc hcell
      have kw : IntKind.i64.wrap ((h : Int) + 1) = (h : Int) + 1 := by rw [IntKind.wrap_i64]; omega
      by_cases hv : c < 0
      · go_wp2_with fail
        go_quiet_grown (first | (go_at_call 37; refine Calls.grown_of (hcall _ _)))
        have hS2 := Lib.hid (S1.out.grown nq osq)
        have hn1 : Hid (h + 1 = m ∨ ltOf cf (pl d (h + 1 - 1)) (pl d a) = true) := .inr (by rw [Nat.add_sub_cancel, HLC.out]; exact decide_eq_true hv)
        clear q1 q2 q3 q4 hcall S1
        generalize grow (wr.drewN nq) osq = w2 at hS2 ⊢
        go_wp2_with fail
        go_roundg (j - (h + 1))
        case measure => omega
        case rel => exact ⟨h + 1, j, by go_num, rfl, by omega, by omega, by omega, by omega, hS2.out, hn1.out, hcj.out⟩
      · go_wp2_with fail
        go_quiet_grown (first | (go_at_call 37; refine Calls.grown_of (hcall _ _)))
        have hS2 := Lib.hid (S1.out.grown nq osq)
        have hn1 : Hid (h = b ∨ ltOf cf (pl d h) (pl d a) = false) := .inr (by rw [HLC.out]; exact decide_eq_false (by omega))
        clear q1 q2 q3 q4 hcall S1
        generalize grow (wr.drewN nq) osq = w2 at hS2 ⊢
        go_wp2_with fail
        go_roundg (h - i)
        case measure => omega
        case rel => exact ⟨i, h, rfl, by go_num, by omega, by omega, by omega, by omega, hS2.out, hci.out, hn1.out⟩
    · obtain rfl : i = j := by omega
      have kw : IntKind.i64.wrap ((i : Int) - 1) = (i : Int) - 1 := by rw [IntKind.wrap_i64]; omega
      go_wp2_with fail
      go_loopg [13] (i - a) (fun kx s13 wr2 => ∃ (k : Nat) (dk : Array Nat), s13 = .int .i64 (k : Int) ∧ a ≤ k ∧ k + 1 ≤ i ∧ i - k ≤ kx ∧ dk.size = sz ∧ Hid (SWK (enc2 g) 2 w0 blk off dk wr2) ∧ Hid (pl dk = rotf (pl d) a (a + 1) (k + 1)))
      case atStart => exact ⟨a, d, rfl, by omega, by omega, by omega, hs, S1.out, (rotf_right (pl d) a (a + 1) (by omega)).symm⟩
      case round =>
        clear S1
        obtain ⟨k, dk, rfl, hak, hki, hkx2, hds, S1, hpl⟩ := hrel
        by_cases hlt2 : k + 1 < i
        · have hltz : (k : Int) < (i : Int) - 1 := by omega
          have ra : IntKind.i64.wrap ((k : Int) + 1) = (k : Int) + 1 := by rw [IntKind.wrap_i64]; omega
          have ea : ((k : Int) + 1).toNat = k + 1 := by omega
          have pa : (0 : Int) ≤ (k : Int) + 1 := by omega
          have ba : (k : Int) + 1 < (sz : Int) := by omega
          have ba2 : (k : Int) < (sz : Int) := by omega
          go_wp2_with fail
          obtain ⟨pa', pn, pc, qa, qn, qc, ra', rn, rc, sa, sn, sc, c1, c2, c3, c4, f1, f2, f3, f4, c5, c6, c7, hS⟩ := SWK.exch S1.out HR.out (hds.trans HZ.out) (show k < dk.size by omega) (show k + 1 < dk.size by omega) (by omega)
          have S2 := Lib.hid hS; clear hS
          have hp2 : Hid (pl (swp dk k (k + 1)) = rotf (pl d) a (a + 1) (k + 2)) := by
            show _ = _
            rw [pl_swp dk (by omega) (by omega), hpl.out, rotf_up _ _ _ hak]
          have hs2 : Hid ((swp dk k (k + 1)).size = sz) := by show _ = _; rw [size_swp]; exact hds
          clear S1
          go_wp2_with fail
          go_big_region_o
          all_goals
            clear c1 c2 c3 c4 f1 f2 f3 f4 c5 c6 c7
            generalize ((((wr.setCell ⟨blk, off + k * 2, none⟩ (.slice ra' rn rc)).setCell ⟨blk, off + k * 2 + 1, none⟩ (.slice sa sn sc)).setCell ⟨blk, off + (k + 1) * 2, none⟩ (.slice pa' pn pc)).setCell ⟨blk, off + (k + 1) * 2 + 1, none⟩ (.slice qa qn qc)).drew = w2 at S2 ⊢
            go_wp2_with fail
            go_roundg (i - (k + 1))
            case measure => omega
            case rel => exact ⟨k + 1, _, by go_num, by omega, by omega, by omega, hs2.out, S2.out, hp2.out⟩
        · obtain rfl : i = k + 1 := by omega
          have hnl : ¬ (k : Int) < ((k + 1 : Nat) : Int) - 1 := by omega
          go_wp2_with fail
          refine bodyPost_ret (results_none rfl _ _ _) rfl ?_
          refine ⟨rfl, dk, S1.out, by rw [hds, HZ.out], ?_⟩
          rw [hpl.out]
          have hmm := HM.out
          exact mgd_up HS.out (by omega) (by omega) HB.out (hmm ▸ hci.out) hcj.out
end Go.Proofs.YtmbdimonfdncpaaGreatDoor
namespace Go.Proofs.YtmbdimonfdncpaaGreatDoor
open Go.Shelf Go.RowKit Go.Lib Go.Sort Go.Proofs
set_option maxHeartbeats 4000000
set_option maxRecDepth 1000000
variable {g : Nat → PV} {w0 : World} {blk off : Nat} {d0 : Array Nat} {cf : Nat → Nat → Int}
theorem sym_down (R : RowK (enc2 g) 2 w0 blk off d0) (hC : CmpLays Tryz.prog 37 #[] (enc2 g) 2 cf blk off d0.size w0) (hS : SWO (ltOf cf)) (cap a m : Nat) {w : World} {d : Array Nat} (hW : SWK (enc2 g) 2 w0 blk off d w) (hs : d.size = d0.size) (hsz : d0.size < 4611686018427387904) (h1 : a + 1 < m) (h2 : m + 1 ≤ d0.size) (A : Asc (ltOf cf) (pl d) a m) :
    Calls Tryz.prog 82 #[.slice (some ⟨blk, off, none⟩) d0.size cap, .int .i64 (a : Int), .int .i64 (m : Int), .int .i64 ((m + 1 : Nat) : Int), .func (.func 37) #[] #[]] w fun e w' => e = .returned (.tuple #[]) ∧ ∃ d', SWK (enc2 g) 2 w0 blk off d' w' ∧ d'.size = d0.size ∧ Mgd (ltOf cf) (pl d) (pl d') a (m + 1) := by
  have S0 : Hid (SWK (enc2 g) 2 w0 blk off d w) := hW
  have HR : Hid (RowK (enc2 g) 2 w0 blk off d0) := R
  have HC : Hid (CmpLays Tryz.prog 37 #[] (enc2 g) 2 cf blk off d0.size w0) := hC
  have HS := Lib.hid hS
  have HA := Lib.hid A
  obtain ⟨sz, hz⟩ : ∃ sz, sz = d0.size := ⟨_, rfl⟩
  obtain ⟨b, hb⟩ : ∃ b, b = m + 1 := ⟨_, rfl⟩
  rw [← hz] at hs hsz h2 ⊢
  rw [← hb] at h2 ⊢
  have HZ := Lib.hid hz
  have HBB := Lib.hid hb
  have e1 : IntKind.i64.wrap ((m : Int) - (a : Int)) = (m : Int) - (a : Int) := by rw [IntKind.wrap_i64]; omega
  have e3 : ((m : Int) - (a : Int) == 1) = false := by
    have : ¬ (m : Int) - (a : Int) = 1 := by omega
    simpa using this
  have e4 : ¬ (m : Int) - (a : Int) = 1 := by omega
  have e5 : IntKind.i64.wrap ((b : Int) - (m : Int)) = 1 := by rw [IntKind.wrap_i64]; omega
  have e6 : (b : Int) - (m : Int) = 1 := by omega
  have hmsz : m < sz := by omega
  clear hW hz R hC hS A hb
  have mixed : Tryz.prog.follows .mixedOrders = true := by kernel_rfl
  go_enter Tryz.func82, Tryz.ntmps82
  go_wp2_with fail
  go_loopg [14, 15, 16] (m - a) (fun kx s10 s11 s12 wr => ∃ (i j : Nat), s10 = .int .i64 (i : Int) ∧ s11 = .int .i64 (j : Int) ∧ a ≤ i ∧ i ≤ j ∧ j ≤ m ∧ j - i ≤ kx ∧ Hid (SWK (enc2 g) 2 w0 blk off d wr) ∧ Hid (i = a ∨ ltOf cf (pl d m) (pl d (i - 1)) = false) ∧ Hid (j = m ∨ ltOf cf (pl d m) (pl d j) = true))
  case atStart => exact ⟨a, m, rfl, rfl, by omega, by omega, by omega, by omega, S0.out, .inl rfl, .inl rfl⟩
  case round =>
    clear S0
    obtain ⟨i, j, rfl, rfl, hmi, hij, hjb, hkx, S1, hci, hcj⟩ := hrel
    by_cases hlt : i < j
    · have hltz : (i : Int) < (j : Int) := by omega
      obtain ⟨h, hh⟩ : ∃ h, h = (i + j) / 2 := ⟨_, rfl⟩
      have a1 : IntKind.i64.wrap ((i : Int) + (j : Int)) = (i : Int) + (j : Int) := by rw [IntKind.wrap_i64]; omega
      have a2 : ((i : Int) + (j : Int)) / 2 = (h : Int) := by omega
      obtain ⟨pa, pn, pc, qa, qn, qc, ra, rn, rc, sa, sn, sc, hcell, hcall⟩ := SWK.test S1.out HR.out HC.out (hs.trans HZ.out) (show m < d.size by omega) (show h < d.size by omega)
      have HH : Hid (h = (i + j) / 2) := hh
      have hih : i ≤ h := by omega
      have hhj : h < j := by omega
      have hzh : (h : Int) < (sz : Int) := by omega
      have hza : (m : Int) < (sz : Int) := by omega
      clear hh
      have q1 := fun n os => (hcell n os).1
      have q2 := fun n os => (hcell n os).2.1
      have q3 := fun n os => (hcell n os).2.2.1
      have q4 := fun n os => (hcell n os).2.2.2
      obtain ⟨c, hc⟩ : ∃ c, c = cf (pl d m) (pl d h) := ⟨_, rfl⟩
      rw [← hc] at hcall
      have hlc : ltOf cf (pl d m) (pl d h) = decide (c < 0) := by rw [hc]; rfl
      have HLC := Lib.hid hlc; clear hlc hc hcell
      have kw : IntKind.i64.wrap ((h : Int) + 1) = (h : Int) + 1 := by rw [IntKind.wrap_i64]; omega
      by_cases hv : c < 0
      · go_wp2_with fail
        go_quiet_grown (first | (go_at_call 37; refine Calls.grown_of (hcall _ _)))
        have hS2 := Lib.hid (S1.out.grown nq osq)
        have hn1 : Hid (h = m ∨ ltOf cf (pl d m) (pl d h) = true) := .inr (by rw [HLC.out]; exact decide_eq_true hv)
        clear q1 q2 q3 q4 hcall S1
        generalize grow (wr.drewN nq) osq = w2 at hS2 ⊢
        go_wp2_with fail
        go_roundg (h - i)
        case measure => omega
        case rel => exact ⟨i, h, rfl, by go_num, by omega, by omega, by omega, by omega, hS2.out, hci.out, hn1.out⟩
      · have hnv : decide (c < 0) = false := decide_eq_false (by omega)
        have hnw : (!decide (c < 0)) = true := by rw [hnv]; rfl
        go_wp2_with fail
        go_quiet_grown (first | (go_at_call 37; refine Calls.grown_of (hcall _ _)))
        have hS2 := Lib.hid (S1.out.grown nq osq)
        have hn1 : Hid (h + 1 = a ∨ ltOf cf (pl d m) (pl d (h + 1 - 1)) = false) := .inr (by rw [Nat.add_sub_cancel, HLC.out]; exact decide_eq_false (by omega))
        clear q1 q2 q3 q4 hcall S1
        generalize grow (wr.drewN nq) osq = w2 at hS2 ⊢
        go_wp2_with fail
        go_roundg (j - (h + 1))
        case measure => omega
        case rel => exact ⟨h + 1, j, by go_num, rfl, by omega, by omega, by omega, by omega, hS2.out, hn1.out, hcj.out⟩
    · obtain rfl : i = j := by omega
      go_wp2_with fail
      go_loopg [17] (m - i) (fun kx s13 wr2 => ∃ (k : Nat) (dk : Array Nat), s13 = .int .i64 (k : Int) ∧ i ≤ k ∧ k ≤ m ∧ k - i ≤ kx ∧ dk.size = sz ∧ Hid (SWK (enc2 g) 2 w0 blk off dk wr2) ∧ Hid (pl dk = rotf (pl d) k m (m + 1)))
      case atStart => exact ⟨m, d, rfl, by omega, by omega, by omega, hs, S1.out, (rotf_left (pl d) m (m + 1)).symm⟩
      case round =>
        clear S1
        obtain ⟨k0, dk, rfl, hak, hki, hkx2, hds, S1, hpl⟩ := hrel
        by_cases hlt2 : i < k0
        · obtain ⟨k, rfl⟩ : ∃ k, k0 = k + 1 := ⟨k0 - 1, by omega⟩
          have hltz : (i : Int) < (k : Int) + 1 := by omega
          have hwp : IntKind.i64.wrap (k : Int) = (k : Int) := by rw [IntKind.wrap_i64]; omega
          have ra : IntKind.i64.wrap ((k : Int) + 1 - 1) = (k : Int) := by rw [IntKind.wrap_i64]; omega
          have ea : ((k : Int) + 1).toNat = k + 1 := by omega
          have pa : (0 : Int) ≤ (k : Int) + 1 := by omega
          have ba : (k : Int) + 1 < (sz : Int) := by omega
          have ba2 : (k : Int) < (sz : Int) := by omega
          go_wp2_with fail
          obtain ⟨pa', pn, pc, qa, qn, qc, ra', rn, rc, sa, sn, sc, c1, c2, c3, c4, f1, f2, f3, f4, c5, c6, c7, hS⟩ := SWK.exch S1.out HR.out (hds.trans HZ.out) (show k + 1 < dk.size by omega) (show k < dk.size by omega) (by omega)
          have S2 := Lib.hid hS; clear hS
          have hp2 : Hid (pl (swp dk (k + 1) k) = rotf (pl d) k m (m + 1)) := by
            show _ = _
            rw [pl_swp dk (by omega) (by omega), hpl.out, rotf_down _ _ _ (by omega)]
          have hs2 : Hid ((swp dk (k + 1) k).size = sz) := by show _ = _; rw [size_swp]; exact hds
          clear S1
          go_wp2_with fail
          go_big_region_o
          all_goals
            clear c1 c2 c3 c4 f1 f2 f3 f4 c5 c6 c7
            generalize ((((wr.setCell ⟨blk, off + (k + 1) * 2, none⟩ (.slice ra' rn rc)).setCell ⟨blk, off + (k + 1) * 2 + 1, none⟩ (.slice sa sn sc)).setCell ⟨blk, off + k * 2, none⟩ (.slice pa' pn pc)).setCell ⟨blk, off + k * 2 + 1, none⟩ (.slice qa qn qc)).drew = w2 at S2 ⊢
            go_wp2_with fail
            go_roundg (k - i)
            case measure => omega
            case rel => exact ⟨k, _, by go_num, by omega, by omega, by omega, hs2.out, S2.out, hp2.out⟩
        · obtain rfl : i = k0 := by omega
          go_wp2_with fail
          refine bodyPost_ret (results_none rfl _ _ _) rfl ?_
          refine ⟨rfl, dk, S1.out, by rw [hds, HZ.out], ?_⟩
          rw [hpl.out, HBB.out]
          exact mgd_down HS.out (by omega) (by omega) HA.out hci.out hcj.out
end Go.Proofs.YtmbdimonfdncpaaGreatDoor
/-
  slices.symMergeCmpFunc at pairs, in full: the third arm.
-/
namespace Go.Proofs.YtmbdimonfdncpaaGreatDoor
open Go.Shelf Go.RowKit Go.Lib Go.Sort Go.Proofs
set_option maxHeartbeats 4000000
set_option maxRecDepth 1000000
variable {g : Nat → PV} {w0 : World} {blk off : Nat} {d0 : Array Nat} {cf : Nat → Nat → Int}
theorem mgd_eq {lt : Nat → Nat → Bool} {f h : Nat → Nat} {a b : Nat} (e : h = f) (A : Asc lt f a b) : Mgd lt f h a b := by
  subst e
  exact Mgd.refl A
theorem sym_cut (R : RowK (enc2 g) 2 w0 blk off d0) (hC : CmpLays Tryz.prog 37 #[] (enc2 g) 2 cf blk off d0.size w0) (hS : SWO (ltOf cf)) (cap a m b : Nat) {w : World} {d : Array Nat} (hW : SWK (enc2 g) 2 w0 blk off d w) (hs : d.size = d0.size) (hsz : d0.size < 4611686018427387904) (h1 : a + 1 < m) (h2 : m + 1 < b) (h3 : b ≤ d0.size) (A : Asc (ltOf cf) (pl d) a m) (B : Asc (ltOf cf) (pl d) m b)
    (ih : ∀ (x y z : Nat) (W : World) (D : Array Nat), z - x < b - a → x < y → y < z → z ≤ d0.size → SWK (enc2 g) 2 w0 blk off D W → D.size = d0.size → Asc (ltOf cf) (pl D) x y → Asc (ltOf cf) (pl D) y z →
      Calls Tryz.prog 82 #[.slice (some ⟨blk, off, none⟩) d0.size cap, .int .i64 (x : Int), .int .i64 (y : Int), .int .i64 (z : Int), .func (.func 37) #[] #[]] W fun e w' => e = .returned (.tuple #[]) ∧ ∃ d', SWK (enc2 g) 2 w0 blk off d' w' ∧ d'.size = d0.size ∧ Mgd (ltOf cf) (pl D) (pl d') x z) :
    Calls Tryz.prog 82 #[.slice (some ⟨blk, off, none⟩) d0.size cap, .int .i64 (a : Int), .int .i64 (m : Int), .int .i64 (b : Int), .func (.func 37) #[] #[]] w fun e w' => e = .returned (.tuple #[]) ∧ ∃ d', SWK (enc2 g) 2 w0 blk off d' w' ∧ d'.size = d0.size ∧ Mgd (ltOf cf) (pl d) (pl d') a b := by
  have S0 : Hid (SWK (enc2 g) 2 w0 blk off d w) := hW
  have HR : Hid (RowK (enc2 g) 2 w0 blk off d0) := R
  have HC : Hid (CmpLays Tryz.prog 37 #[] (enc2 g) 2 cf blk off d0.size w0) := hC
  have HS := Lib.hid hS
  have HA := Lib.hid A
  have HB := Lib.hid B
  have ROT := Lib.hid (fun (x y z : Nat) (W : World) (D : Array Nat) (k1 : x < y) (k2 : y < z) (k3 : z ≤ d0.size) (hS : SWK (enc2 g) 2 w0 blk off D W) (hD : D.size = d0.size) => rotate_any R cap x y z (.func (.func 37) #[] #[]) hS hD hsz k1 k2 k3)
  have IH := Lib.hid ih
  obtain ⟨sz, hz⟩ : ∃ sz, sz = d0.size := ⟨_, rfl⟩
  rw [← hz] at hs hsz h3 ROT IH ⊢
  have HZ := Lib.hid hz
  obtain ⟨mid, hmid⟩ : ∃ mid, mid = (a + b) / 2 := ⟨_, rfl⟩
  have hm1 : 2 * mid ≤ a + b := by omega
  have hm2 : a + b ≤ 2 * mid + 1 := by omega
  have f1 : IntKind.i64.wrap ((a : Int) + (b : Int)) = (a : Int) + (b : Int) := by rw [IntKind.wrap_i64]; omega
  have f2 : ((a : Int) + (b : Int)) / 2 = (mid : Int) := by omega
  obtain ⟨n, hn⟩ : ∃ n, n = mid + m := ⟨_, rfl⟩
  have f3 : IntKind.i64.wrap ((mid : Int) + (m : Int)) = (n : Int) := by rw [IntKind.wrap_i64]; omega
  have f4 : (mid : Int) + (m : Int) = (n : Int) := by omega
  obtain ⟨p, hp⟩ : ∃ p, p = n - 1 := ⟨_, rfl⟩
  have f5 : IntKind.i64.wrap ((n : Int) - 1) = (p : Int) := by rw [IntKind.wrap_i64]; omega
  have f6 : (n : Int) - 1 = (p : Int) := by omega
  have e1 : IntKind.i64.wrap ((m : Int) - (a : Int)) = (m : Int) - (a : Int) := by rw [IntKind.wrap_i64]; omega
  have e3 : ((m : Int) - (a : Int) == 1) = false := by
    have : ¬ (m : Int) - (a : Int) = 1 := by omega
    simpa using this
  have e4 : ¬ (m : Int) - (a : Int) = 1 := by omega
  have e5 : IntKind.i64.wrap ((b : Int) - (m : Int)) = (b : Int) - (m : Int) := by rw [IntKind.wrap_i64]; omega
  have e6 : ((b : Int) - (m : Int) == 1) = false := by
    have : ¬ (b : Int) - (m : Int) = 1 := by omega
    simpa using this
  have e7 : ¬ (b : Int) - (m : Int) = 1 := by omega
  have HN := Lib.hid (And.intro hmid (And.intro hn hp))
  clear hW hz R hC hS A B ih hmid hn hp
  have mixed : Tryz.prog.follows .mixedOrders = true := by kernel_rfl
  by_cases hmm : mid < m
  · obtain ⟨lo, hlo⟩ : ∃ lo, lo = n - b := ⟨_, rfl⟩
    have g1 : IntKind.i64.wrap ((n : Int) - (b : Int)) = (lo : Int) := by have := HN.out.2.1; rw [IntKind.wrap_i64]; omega
    have g2 : (n : Int) - (b : Int) = (lo : Int) := by have := HN.out.2.1; omega
    have g3 : (mid : Int) < (m : Int) := by omega
    have HL := Lib.hid hlo; clear hlo
    go_enter Tryz.func82, Tryz.ntmps82
    go_wp2_with fail
    go_loopg [20, 21, 23] (mid - lo) (fun kx s10 s11 s12 wr => ∃ (i j : Nat), s10 = .int .i64 (i : Int) ∧ s11 = .int .i64 (j : Int) ∧ lo ≤ i ∧ i ≤ j ∧ j ≤ mid ∧ j - i ≤ kx ∧ Hid (SWK (enc2 g) 2 w0 blk off d wr) ∧ Hid (i = lo ∨ ltOf cf (pl d (p - (i - 1))) (pl d (i - 1)) = false) ∧ Hid (j = mid ∨ ltOf cf (pl d (p - j)) (pl d j) = true))
    case atStart => exact ⟨lo, mid, rfl, rfl, by omega, by have := HL.out; have := HN.out; omega, by omega, by omega, S0.out, .inl rfl, .inl rfl⟩
    case round =>
      clear S0
      obtain ⟨i, j, rfl, rfl, hmi, hij, hjb, hkx, S1, hci, hcj⟩ := hrel
      by_cases hlt : i < j
      · have hltz : (i : Int) < (j : Int) := by omega
        obtain ⟨h, hh⟩ : ∃ h, h = (i + j) / 2 := ⟨_, rfl⟩
        have a1 : IntKind.i64.wrap ((i : Int) + (j : Int)) = (i : Int) + (j : Int) := by rw [IntKind.wrap_i64]; omega
        have a2 : ((i : Int) + (j : Int)) / 2 = (h : Int) := by omega
        obtain ⟨q, hq⟩ : ∃ q, q = p - h := ⟨_, rfl⟩
        have hll := HL.out
        have hnn := HN.out
        have a3 : IntKind.i64.wrap ((p : Int) - (h : Int)) = (q : Int) := by rw [IntKind.wrap_i64]; omega
        have a4 : (p : Int) - (h : Int) = (q : Int) := by omega
        have hqz : q < sz := by omega
        have a5 : IntKind.i64.wrap (q : Int) = (q : Int) := by rw [IntKind.wrap_i64]; omega
        obtain ⟨pa, pn, pc, qa, qn, qc, ra, rn, rc, sa, sn, sc, hcell, hcall⟩ := SWK.test S1.out HR.out HC.out (hs.trans HZ.out) (show q < d.size by omega) (show h < d.size by omega)
        have hih : i ≤ h := by omega
        have hhj : h < j := by omega
        have hzh : (h : Int) < (sz : Int) := by omega
        have hza : (q : Int) < (sz : Int) := by omega
        have q1 := fun n os => (hcell n os).1
        have q2 := fun n os => (hcell n os).2.1
        have q3 := fun n os => (hcell n os).2.2.1
        have q4 := fun n os => (hcell n os).2.2.2
        obtain ⟨c, hc⟩ : ∃ c, c = cf (pl d q) (pl d h) := ⟨_, rfl⟩
        rw [← hc] at hcall
        have hlc : ltOf cf (pl d (p - h)) (pl d h) = decide (c < 0) := by rw [hc, ← hq]; rfl
        have HLC := Lib.hid hlc
        have kw : IntKind.i64.wrap ((h : Int) + 1) = (h : Int) + 1 := by rw [IntKind.wrap_i64]; omega
        clear hlc hc hcell hh hq hll hnn
        by_cases hv : c < 0
        · go_wp2_with fail
          go_quiet_grown (first | (go_at_call 37; refine Calls.grown_of (hcall _ _)))
          have hS2 := Lib.hid (S1.out.grown nq osq)
          have hn1 : Hid (h = mid ∨ ltOf cf (pl d (p - h)) (pl d h) = true) := .inr (by rw [HLC.out]; exact decide_eq_true hv)
          clear q1 q2 q3 q4 hcall S1
          generalize grow (wr.drewN nq) osq = w2 at hS2 ⊢
          go_wp2_with fail
          go_roundg (h - i)
          case measure => omega
          case rel => exact ⟨i, h, rfl, by go_num, by omega, by omega, by omega, by omega, hS2.out, hci.out, hn1.out⟩
        · have hnv : decide (c < 0) = false := decide_eq_false (by omega)
          have hnw : (!decide (c < 0)) = true := by rw [hnv]; rfl
          go_wp2_with fail
          go_quiet_grown (first | (go_at_call 37; refine Calls.grown_of (hcall _ _)))
          have hS2 := Lib.hid (S1.out.grown nq osq)
          have hn1 : Hid (h + 1 = lo ∨ ltOf cf (pl d (p - (h + 1 - 1))) (pl d (h + 1 - 1)) = false) := .inr (by rw [Nat.add_sub_cancel, HLC.out]; exact decide_eq_false (by omega))
          clear q1 q2 q3 q4 hcall S1
          generalize grow (wr.drewN nq) osq = w2 at hS2 ⊢
          go_wp2_with fail
          go_roundg (j - (h + 1))
          case measure => omega
          case rel => exact ⟨h + 1, j, by go_num, rfl, by omega, by omega, by omega, by omega, hS2.out, hn1.out, hcj.out⟩
      · obtain rfl : i = j := by omega
        have hnn := HN.out
        have hll := HL.out
        obtain ⟨e, he⟩ : ∃ e, e = n - i := ⟨_, rfl⟩
        have b1 : IntKind.i64.wrap ((n : Int) - (i : Int)) = (e : Int) := by rw [IntKind.wrap_i64]; omega
        have b2 : (n : Int) - (i : Int) = (e : Int) := by omega
        have b3 : IntKind.i64.wrap (e : Int) = (e : Int) := by rw [IntKind.wrap_i64]; omega
        have x1 : a ≤ i := by omega
        have x2 : i ≤ m := by omega
        have x3 : m ≤ e := by omega
        have x4 : e ≤ b := by omega
        have x5 : i + (e - m) = mid := by omega
        have C1 : i = a ∨ e = b ∨ ltOf cf (pl d e) (pl d (i - 1)) = false := by
          by_cases h0 : i = lo
          · exact .inr (.inl (by omega))
          · rcases hci.out with h | h
            · exact absurd h h0
            · refine .inr (.inr ?_)
              rwa [show p - (i - 1) = e by omega] at h
        have C2 : i = m ∨ e = m ∨ ltOf cf (pl d i) (pl d (e - 1)) = false := by
          rcases hcj.out with h | h
          · exact .inr (.inl (by omega))
          · refine .inr (.inr (le_of_lt' HS.out ?_))
            rwa [show p - i = e - 1 by omega] at h
        have P1 := rot_p1 x1 x2 x3 x4 HA.out HB.out
        have P2 := rot_p2 x1 x2 x3 x4 HA.out HB.out
        have P3 := rot_p3 x1 x2 x3 x4 HA.out HB.out
        have P4 := rot_p4 x1 x2 x3 x4 HA.out HB.out
        rw [x5] at P2 P3
        have HG := Lib.hid (fun (f2 f3 : Nat → Nat) (M2 : Mgd (ltOf cf) (rotf (pl d) i m e) f2 a mid) (M3 : Mgd (ltOf cf) f2 f3 mid b) => mgd_halves HS.out x1 x2 x3 x4 x5 HA.out HB.out C1 C2 M2 M3)
        have HP := Lib.hid (And.intro P1 (And.intro P2 (And.intro P3 P4)))
        have HX := Lib.hid (And.intro he (And.intro hnn hll))
        clear C1 C2 P1 P2 P3 P4 hci hcj he hnn hll
        by_cases y0 : i < mid ∧ i < m
        · by_cases y1 : a < i
          · by_cases y2 : e < b
            · have g1 : (i : Int) < (m : Int) := by have := HX.out; omega
              have g2 : (m : Int) < (e : Int) := by have := HX.out; omega
              have g4 : (i : Int) < (mid : Int) := by have := HX.out; omega
              have g5 : (mid : Int) < (e : Int) := by have := HX.out; omega
              have g3 : (a : Int) < (i : Int) := by have := HX.out; omega
              have g6 : (e : Int) < (b : Int) := by have := HX.out; omega
              go_wp2_with fail
              refine (ROT.out i m e wr d (by omega) (by omega) (by omega) S1.out hs).mono ?_
              rintro e9 w7 ⟨rfl, dr, s7, z7, p7⟩
              have S7 := Lib.hid s7; clear s7
              have Z7 : dr.size = sz := z7
              have HP7 : Hid (pl dr = rotf (pl d) i m e) := p7
              clear p7 z7
              go_wp2_with fail
              refine (IH.out a i mid w7 dr (by omega) (by omega) (by omega) (by omega) S7.out Z7 (by rw [HP7.out]; exact HP.out.1) (by rw [HP7.out]; exact HP.out.2.1)).mono ?_
              rintro e9 w8 ⟨rfl, df, s8, z8, M8⟩
              have S8 := Lib.hid s8; clear s8
              have Z8 : df.size = sz := z8
              have M2 : Hid (Mgd (ltOf cf) (rotf (pl d) i m e) (pl df) a mid) := by
                rw [HP7.out] at M8
                exact M8
              clear M8 z8
              go_wp2_with fail
              refine (IH.out mid e b w8 df (by omega) (by omega) (by omega) (by omega) S8.out Z8 (HP.out.2.2.1.congr fun x h1 h2 => M2.out.out x (by omega)) (HP.out.2.2.2.congr fun x h1 h2 => M2.out.out x (by omega))).mono ?_
              rintro e9 w9 ⟨rfl, dg, s9, z9, M9⟩
              have S9 := Lib.hid s9; clear s9
              have M3 := Lib.hid M9; clear M9
              have Z9 := Lib.hid z9; clear z9
              go_wp2_with fail
              go_end0
              exact ⟨rfl, dg, S9.out, Z9.out, HG.out _ _ M2.out M3.out⟩
            · have g1 : (i : Int) < (m : Int) := by have := HX.out; omega
              have g2 : (m : Int) < (e : Int) := by have := HX.out; omega
              have g4 : (i : Int) < (mid : Int) := by have := HX.out; omega
              have g5 : (mid : Int) < (e : Int) := by have := HX.out; omega
              have g3 : (a : Int) < (i : Int) := by have := HX.out; omega
              have g6 : ¬ (e : Int) < (b : Int) := by have := HX.out; omega
              go_wp2_with fail
              refine (ROT.out i m e wr d (by omega) (by omega) (by omega) S1.out hs).mono ?_
              rintro e9 w7 ⟨rfl, dr, s7, z7, p7⟩
              have S7 := Lib.hid s7; clear s7
              have Z7 : dr.size = sz := z7
              have HP7 : Hid (pl dr = rotf (pl d) i m e) := p7
              clear p7 z7
              go_wp2_with fail
              refine (IH.out a i mid w7 dr (by omega) (by omega) (by omega) (by omega) S7.out Z7 (by rw [HP7.out]; exact HP.out.1) (by rw [HP7.out]; exact HP.out.2.1)).mono ?_
              rintro e9 w8 ⟨rfl, df, s8, z8, M8⟩
              have S8 := Lib.hid s8; clear s8
              have Z8 : df.size = sz := z8
              have M2 : Hid (Mgd (ltOf cf) (rotf (pl d) i m e) (pl df) a mid) := by
                rw [HP7.out] at M8
                exact M8
              clear M8 z8
              go_wp2_with fail
              go_end0
              exact ⟨rfl, df, S8.out, Z8, HG.out _ _ M2.out (Mgd.refl (by first | (rw [show mid = e by omega]; exact HP.out.2.2.2.congr fun x h1 h2 => M2.out.out x (by omega)) | (rw [show b = e by omega]; exact HP.out.2.2.1.congr fun x h1 h2 => M2.out.out x (by omega))))⟩
          · by_cases y2 : e < b
            · have g1 : (i : Int) < (m : Int) := by have := HX.out; omega
              have g2 : (m : Int) < (e : Int) := by have := HX.out; omega
              have g4 : (i : Int) < (mid : Int) := by have := HX.out; omega
              have g5 : (mid : Int) < (e : Int) := by have := HX.out; omega
              have g3 : ¬ (a : Int) < (i : Int) := by have := HX.out; omega
              have g6 : (e : Int) < (b : Int) := by have := HX.out; omega
              go_wp2_with fail
              refine (ROT.out i m e wr d (by omega) (by omega) (by omega) S1.out hs).mono ?_
              rintro e9 w7 ⟨rfl, dr, s7, z7, p7⟩
              have S7 := Lib.hid s7; clear s7
              have Z7 : dr.size = sz := z7
              have HP7 : Hid (pl dr = rotf (pl d) i m e) := p7
              clear p7 z7
              go_wp2_with fail
              have M2 : Hid (Mgd (ltOf cf) (rotf (pl d) i m e) (pl dr) a mid) := by
                have q : Asc (ltOf cf) (rotf (pl d) i m e) a mid := by first | (rw [show a = i by omega]; exact HP.out.2.1) | (rw [show mid = i by omega]; exact HP.out.1)
                exact mgd_eq HP7.out q
              refine (IH.out mid e b w7 dr (by omega) (by omega) (by omega) (by omega) S7.out Z7 (HP.out.2.2.1.congr fun x h1 h2 => M2.out.out x (by omega)) (HP.out.2.2.2.congr fun x h1 h2 => M2.out.out x (by omega))).mono ?_
              rintro e9 w9 ⟨rfl, dg, s9, z9, M9⟩
              have S9 := Lib.hid s9; clear s9
              have M3 := Lib.hid M9; clear M9
              have Z9 := Lib.hid z9; clear z9
              go_wp2_with fail
              go_end0
              exact ⟨rfl, dg, S9.out, Z9.out, HG.out _ _ M2.out M3.out⟩
            · have g1 : (i : Int) < (m : Int) := by have := HX.out; omega
              have g2 : (m : Int) < (e : Int) := by have := HX.out; omega
              have g4 : (i : Int) < (mid : Int) := by have := HX.out; omega
              have g5 : (mid : Int) < (e : Int) := by have := HX.out; omega
              have g3 : ¬ (a : Int) < (i : Int) := by have := HX.out; omega
              have g6 : ¬ (e : Int) < (b : Int) := by have := HX.out; omega
              go_wp2_with fail
              refine (ROT.out i m e wr d (by omega) (by omega) (by omega) S1.out hs).mono ?_
              rintro e9 w7 ⟨rfl, dr, s7, z7, p7⟩
              have S7 := Lib.hid s7; clear s7
              have Z7 : dr.size = sz := z7
              have HP7 : Hid (pl dr = rotf (pl d) i m e) := p7
              clear p7 z7
              go_wp2_with fail
              have M2 : Hid (Mgd (ltOf cf) (rotf (pl d) i m e) (pl dr) a mid) := by
                have q : Asc (ltOf cf) (rotf (pl d) i m e) a mid := by first | (rw [show a = i by omega]; exact HP.out.2.1) | (rw [show mid = i by omega]; exact HP.out.1)
                exact mgd_eq HP7.out q
              go_end0
              exact ⟨rfl, dr, S7.out, Z7, HG.out _ _ M2.out (Mgd.refl (by first | (rw [show mid = e by omega]; exact HP.out.2.2.2.congr fun x h1 h2 => M2.out.out x (by omega)) | (rw [show b = e by omega]; exact HP.out.2.2.1.congr fun x h1 h2 => M2.out.out x (by omega))))⟩
        · have g1 : (i : Int) < (m : Int) := by have := HX.out; omega
          have g2 : ¬ (m : Int) < (e : Int) := by have := HX.out; omega
          have g3 : (a : Int) < (i : Int) := by have := HX.out; omega
          have g4 : ¬ (i : Int) < (mid : Int) := by have := HX.out; omega
          have g5 : (mid : Int) < (e : Int) := by have := HX.out; omega
          have g6 : (e : Int) < (b : Int) := by have := HX.out; omega
          go_wp2_with fail
          have HP7 : Hid (pl d = rotf (pl d) i m e) := by
            show _ = _
            first | (rw [show e = m by omega, rotf_right _ _ _ (by omega)]) | (rw [show i = m by omega, rotf_left])
          have M2 : Hid (Mgd (ltOf cf) (rotf (pl d) i m e) (pl d) a mid) := by
            have q : Asc (ltOf cf) (rotf (pl d) i m e) a mid := by first | (rw [show a = i by omega]; exact HP.out.2.1) | (rw [show mid = i by omega]; exact HP.out.1)
            exact mgd_eq HP7.out q
          refine (IH.out mid e b wr d (by omega) (by omega) (by omega) (by omega) S1.out hs (HP.out.2.2.1.congr fun x h1 h2 => M2.out.out x (by omega)) (HP.out.2.2.2.congr fun x h1 h2 => M2.out.out x (by omega))).mono ?_
          rintro e9 w9 ⟨rfl, dg, s9, z9, M9⟩
          have S9 := Lib.hid s9; clear s9
          have M3 := Lib.hid M9; clear M9
          have Z9 := Lib.hid z9; clear z9
          go_wp2_with fail
          go_end0
          exact ⟨rfl, dg, S9.out, Z9.out, HG.out _ _ M2.out M3.out⟩
  · have g3 : ¬ (mid : Int) < (m : Int) := by omega
    have HL := Lib.hid (show a ≤ m by omega)
    go_enter Tryz.func82, Tryz.ntmps82
    go_wp2_with fail
    go_loopg [20, 21, 23] (m - a) (fun kx s10 s11 s12 wr => ∃ (i j : Nat), s10 = .int .i64 (i : Int) ∧ s11 = .int .i64 (j : Int) ∧ a ≤ i ∧ i ≤ j ∧ j ≤ m ∧ j - i ≤ kx ∧ Hid (SWK (enc2 g) 2 w0 blk off d wr) ∧ Hid (i = a ∨ ltOf cf (pl d (p - (i - 1))) (pl d (i - 1)) = false) ∧ Hid (j = m ∨ ltOf cf (pl d (p - j)) (pl d j) = true))
    case atStart => exact ⟨a, m, rfl, rfl, by omega, by have := HL.out; have := HN.out; omega, by omega, by omega, S0.out, .inl rfl, .inl rfl⟩
    case round =>
      clear S0
      obtain ⟨i, j, rfl, rfl, hmi, hij, hjb, hkx, S1, hci, hcj⟩ := hrel
      by_cases hlt : i < j
      · have hltz : (i : Int) < (j : Int) := by omega
        obtain ⟨h, hh⟩ : ∃ h, h = (i + j) / 2 := ⟨_, rfl⟩
        have a1 : IntKind.i64.wrap ((i : Int) + (j : Int)) = (i : Int) + (j : Int) := by rw [IntKind.wrap_i64]; omega
        have a2 : ((i : Int) + (j : Int)) / 2 = (h : Int) := by omega
        obtain ⟨q, hq⟩ : ∃ q, q = p - h := ⟨_, rfl⟩
        have hll := HL.out
        have hnn := HN.out
        have a3 : IntKind.i64.wrap ((p : Int) - (h : Int)) = (q : Int) := by rw [IntKind.wrap_i64]; omega
        have a4 : (p : Int) - (h : Int) = (q : Int) := by omega
        have hqz : q < sz := by omega
        have a5 : IntKind.i64.wrap (q : Int) = (q : Int) := by rw [IntKind.wrap_i64]; omega
        obtain ⟨pa, pn, pc, qa, qn, qc, ra, rn, rc, sa, sn, sc, hcell, hcall⟩ := SWK.test S1.out HR.out HC.out (hs.trans HZ.out) (show q < d.size by omega) (show h < d.size by omega)
        have hih : i ≤ h := by omega
        have hhj : h < j := by omega
        have hzh : (h : Int) < (sz : Int) := by omega
        have hza : (q : Int) < (sz : Int) := by omega
        have q1 := fun n os => (hcell n os).1
        have q2 := fun n os => (hcell n os).2.1
        have q3 := fun n os => (hcell n os).2.2.1
        have q4 := fun n os => (hcell n os).2.2.2
        obtain ⟨c, hc⟩ : ∃ c, c = cf (pl d q) (pl d h) := ⟨_, rfl⟩
        rw [← hc] at hcall
        have hlc : ltOf cf (pl d (p - h)) (pl d h) = decide (c < 0) := by rw [hc, ← hq]; rfl
        have HLC := Lib.hid hlc
        have kw : IntKind.i64.wrap ((h : Int) + 1) = (h : Int) + 1 := by rw [IntKind.wrap_i64]; omega
        clear hlc hc hcell hh hq hll hnn
        by_cases hv : c < 0
        · go_wp2_with fail
          go_quiet_grown (first | (go_at_call 37; refine Calls.grown_of (hcall _ _)))
          have hS2 := Lib.hid (S1.out.grown nq osq)
          have hn1 : Hid (h = m ∨ ltOf cf (pl d (p - h)) (pl d h) = true) := .inr (by rw [HLC.out]; exact decide_eq_true hv)
          clear q1 q2 q3 q4 hcall S1
          generalize grow (wr.drewN nq) osq = w2 at hS2 ⊢
          go_wp2_with fail
          go_roundg (h - i)
          case measure => omega
          case rel => exact ⟨i, h, rfl, by go_num, by omega, by omega, by omega, by omega, hS2.out, hci.out, hn1.out⟩
        · have hnv : decide (c < 0) = false := decide_eq_false (by omega)
          have hnw : (!decide (c < 0)) = true := by rw [hnv]; rfl
          go_wp2_with fail
          go_quiet_grown (first | (go_at_call 37; refine Calls.grown_of (hcall _ _)))
          have hS2 := Lib.hid (S1.out.grown nq osq)
          have hn1 : Hid (h + 1 = a ∨ ltOf cf (pl d (p - (h + 1 - 1))) (pl d (h + 1 - 1)) = false) := .inr (by rw [Nat.add_sub_cancel, HLC.out]; exact decide_eq_false (by omega))
          clear q1 q2 q3 q4 hcall S1
          generalize grow (wr.drewN nq) osq = w2 at hS2 ⊢
          go_wp2_with fail
          go_roundg (j - (h + 1))
          case measure => omega
          case rel => exact ⟨h + 1, j, by go_num, rfl, by omega, by omega, by omega, by omega, hS2.out, hn1.out, hcj.out⟩
      · obtain rfl : i = j := by omega
        have hnn := HN.out
        have hll := HL.out
        obtain ⟨e, he⟩ : ∃ e, e = n - i := ⟨_, rfl⟩
        have b1 : IntKind.i64.wrap ((n : Int) - (i : Int)) = (e : Int) := by rw [IntKind.wrap_i64]; omega
        have b2 : (n : Int) - (i : Int) = (e : Int) := by omega
        have b3 : IntKind.i64.wrap (e : Int) = (e : Int) := by rw [IntKind.wrap_i64]; omega
        have x1 : a ≤ i := by omega
        have x2 : i ≤ m := by omega
        have x3 : m ≤ e := by omega
        have x4 : e ≤ b := by omega
        have x5 : i + (e - m) = mid := by omega
        have C1 : i = a ∨ e = b ∨ ltOf cf (pl d e) (pl d (i - 1)) = false := by
          by_cases h0 : i = a
          · exact .inl h0
          · rcases hci.out with h | h
            · exact absurd h h0
            · refine .inr (.inr ?_)
              rwa [show p - (i - 1) = e by omega] at h
        have C2 : i = m ∨ e = m ∨ ltOf cf (pl d i) (pl d (e - 1)) = false := by
          by_cases h1 : i = m
          · exact .inl h1
          · rcases hcj.out with h | h
            · exact absurd h h1
            · refine .inr (.inr (le_of_lt' HS.out ?_))
              rwa [show p - i = e - 1 by omega] at h
        have P1 := rot_p1 x1 x2 x3 x4 HA.out HB.out
        have P2 := rot_p2 x1 x2 x3 x4 HA.out HB.out
        have P3 := rot_p3 x1 x2 x3 x4 HA.out HB.out
        have P4 := rot_p4 x1 x2 x3 x4 HA.out HB.out
        rw [x5] at P2 P3
        have HG := Lib.hid (fun (f2 f3 : Nat → Nat) (M2 : Mgd (ltOf cf) (rotf (pl d) i m e) f2 a mid) (M3 : Mgd (ltOf cf) f2 f3 mid b) => mgd_halves HS.out x1 x2 x3 x4 x5 HA.out HB.out C1 C2 M2 M3)
        have HP := Lib.hid (And.intro P1 (And.intro P2 (And.intro P3 P4)))
        have HX := Lib.hid (And.intro he (And.intro hnn hll))
        clear C1 C2 P1 P2 P3 P4 hci hcj he hnn hll
        by_cases y0 : i < mid ∧ i < m
        · by_cases y1 : a < i
          · by_cases y2 : e < b
            · have g1 : (i : Int) < (m : Int) := by have := HX.out; omega
              have g2 : (m : Int) < (e : Int) := by have := HX.out; omega
              have g4 : (i : Int) < (mid : Int) := by have := HX.out; omega
              have g5 : (mid : Int) < (e : Int) := by have := HX.out; omega
              have g3 : (a : Int) < (i : Int) := by have := HX.out; omega
              have g6 : (e : Int) < (b : Int) := by have := HX.out; omega
              go_wp2_with fail
              refine (ROT.out i m e wr d (by omega) (by omega) (by omega) S1.out hs).mono ?_
              rintro e9 w7 ⟨rfl, dr, s7, z7, p7⟩
              have S7 := Lib.hid s7; clear s7
              have Z7 : dr.size = sz := z7
              have HP7 : Hid (pl dr = rotf (pl d) i m e) := p7
              clear p7 z7
              go_wp2_with fail
              refine (IH.out a i mid w7 dr (by omega) (by omega) (by omega) (by omega) S7.out Z7 (by rw [HP7.out]; exact HP.out.1) (by rw [HP7.out]; exact HP.out.2.1)).mono ?_
              rintro e9 w8 ⟨rfl, df, s8, z8, M8⟩
              have S8 := Lib.hid s8; clear s8
              have Z8 : df.size = sz := z8
              have M2 : Hid (Mgd (ltOf cf) (rotf (pl d) i m e) (pl df) a mid) := by
                rw [HP7.out] at M8
                exact M8
              clear M8 z8
              go_wp2_with fail
              refine (IH.out mid e b w8 df (by omega) (by omega) (by omega) (by omega) S8.out Z8 (HP.out.2.2.1.congr fun x h1 h2 => M2.out.out x (by omega)) (HP.out.2.2.2.congr fun x h1 h2 => M2.out.out x (by omega))).mono ?_
              rintro e9 w9 ⟨rfl, dg, s9, z9, M9⟩
              have S9 := Lib.hid s9; clear s9
              have M3 := Lib.hid M9; clear M9
              have Z9 := Lib.hid z9; clear z9
              go_wp2_with fail
              go_end0
              exact ⟨rfl, dg, S9.out, Z9.out, HG.out _ _ M2.out M3.out⟩
            · have g1 : (i : Int) < (m : Int) := by have := HX.out; omega
              have g2 : (m : Int) < (e : Int) := by have := HX.out; omega
              have g4 : (i : Int) < (mid : Int) := by have := HX.out; omega
              have g5 : (mid : Int) < (e : Int) := by have := HX.out; omega
              have g3 : (a : Int) < (i : Int) := by have := HX.out; omega
              have g6 : ¬ (e : Int) < (b : Int) := by have := HX.out; omega
              go_wp2_with fail
              refine (ROT.out i m e wr d (by omega) (by omega) (by omega) S1.out hs).mono ?_
              rintro e9 w7 ⟨rfl, dr, s7, z7, p7⟩
              have S7 := Lib.hid s7; clear s7
              have Z7 : dr.size = sz := z7
              have HP7 : Hid (pl dr = rotf (pl d) i m e) := p7
              clear p7 z7
              go_wp2_with fail
              refine (IH.out a i mid w7 dr (by omega) (by omega) (by omega) (by omega) S7.out Z7 (by rw [HP7.out]; exact HP.out.1) (by rw [HP7.out]; exact HP.out.2.1)).mono ?_
              rintro e9 w8 ⟨rfl, df, s8, z8, M8⟩
              have S8 := Lib.hid s8; clear s8
              have Z8 : df.size = sz := z8
              have M2 : Hid (Mgd (ltOf cf) (rotf (pl d) i m e) (pl df) a mid) := by
                rw [HP7.out] at M8
                exact M8
              clear M8 z8
              go_wp2_with fail
              go_end0
              exact ⟨rfl, df, S8.out, Z8, HG.out _ _ M2.out (Mgd.refl (by first | (rw [show mid = e by omega]; exact HP.out.2.2.2.congr fun x h1 h2 => M2.out.out x (by omega)) | (rw [show b = e by omega]; exact HP.out.2.2.1.congr fun x h1 h2 => M2.out.out x (by omega))))⟩
          · by_cases y2 : e < b
            · have g1 : (i : Int) < (m : Int) := by have := HX.out; omega
              have g2 : (m : Int) < (e : Int) := by have := HX.out; omega
              have g4 : (i : Int) < (mid : Int) := by have := HX.out; omega
              have g5 : (mid : Int) < (e : Int) := by have := HX.out; omega
              have g3 : ¬ (a : Int) < (i : Int) := by have := HX.out; omega
              have g6 : (e : Int) < (b : Int) := by have := HX.out; omega
              go_wp2_with fail
              refine (ROT.out i m e wr d (by omega) (by omega) (by omega) S1.out hs).mono ?_
              rintro e9 w7 ⟨rfl, dr, s7, z7, p7⟩
              have S7 := Lib.hid s7; clear s7
              have Z7 : dr.size = sz := z7
              have HP7 : Hid (pl dr = rotf (pl d) i m e) := p7
              clear p7 z7
              go_wp2_with fail
              have M2 : Hid (Mgd (ltOf cf) (rotf (pl d) i m e) (pl dr) a mid) := by
                have q : Asc (ltOf cf) (rotf (pl d) i m e) a mid := by first | (rw [show a = i by omega]; exact HP.out.2.1) | (rw [show mid = i by omega]; exact HP.out.1)
                exact mgd_eq HP7.out q
              refine (IH.out mid e b w7 dr (by omega) (by omega) (by omega) (by omega) S7.out Z7 (HP.out.2.2.1.congr fun x h1 h2 => M2.out.out x (by omega)) (HP.out.2.2.2.congr fun x h1 h2 => M2.out.out x (by omega))).mono ?_
              rintro e9 w9 ⟨rfl, dg, s9, z9, M9⟩
              have S9 := Lib.hid s9; clear s9
              have M3 := Lib.hid M9; clear M9
              have Z9 := Lib.hid z9; clear z9
              go_wp2_with fail
              go_end0
              exact ⟨rfl, dg, S9.out, Z9.out, HG.out _ _ M2.out M3.out⟩
            · have g1 : (i : Int) < (m : Int) := by have := HX.out; omega
              have g2 : (m : Int) < (e : Int) := by have := HX.out; omega
              have g4 : (i : Int) < (mid : Int) := by have := HX.out; omega
              have g5 : (mid : Int) < (e : Int) := by have := HX.out; omega
              have g3 : ¬ (a : Int) < (i : Int) := by have := HX.out; omega
              have g6 : ¬ (e : Int) < (b : Int) := by have := HX.out; omega
              go_wp2_with fail
              refine (ROT.out i m e wr d (by omega) (by omega) (by omega) S1.out hs).mono ?_
              rintro e9 w7 ⟨rfl, dr, s7, z7, p7⟩
              have S7 := Lib.hid s7; clear s7
              have Z7 : dr.size = sz := z7
              have HP7 : Hid (pl dr = rotf (pl d) i m e) := p7
              clear p7 z7
              go_wp2_with fail
              have M2 : Hid (Mgd (ltOf cf) (rotf (pl d) i m e) (pl dr) a mid) := by
                have q : Asc (ltOf cf) (rotf (pl d) i m e) a mid := by first | (rw [show a = i by omega]; exact HP.out.2.1) | (rw [show mid = i by omega]; exact HP.out.1)
                exact mgd_eq HP7.out q
              go_end0
              exact ⟨rfl, dr, S7.out, Z7, HG.out _ _ M2.out (Mgd.refl (by first | (rw [show mid = e by omega]; exact HP.out.2.2.2.congr fun x h1 h2 => M2.out.out x (by omega)) | (rw [show b = e by omega]; exact HP.out.2.2.1.congr fun x h1 h2 => M2.out.out x (by omega))))⟩
        · by_cases y1 : i < mid
          · have g1 : ¬ (i : Int) < (m : Int) := by have := HX.out; omega
            have g3 : (a : Int) < (i : Int) := by have := HX.out; omega
            have g4 : (i : Int) < (mid : Int) := by have := HX.out; omega
            have g5 : ¬ (mid : Int) < (e : Int) := by have := HX.out; omega
            go_wp2_with fail
            have HP7 : Hid (pl d = rotf (pl d) i m e) := by
              show _ = _
              first | (rw [show e = m by omega, rotf_right _ _ _ (by omega)]) | (rw [show i = m by omega, rotf_left])
            refine (IH.out a i mid wr d (by omega) (by omega) (by omega) (by omega) S1.out hs (by rw [HP7.out]; exact HP.out.1) (by rw [HP7.out]; exact HP.out.2.1)).mono ?_
            rintro e9 w8 ⟨rfl, df, s8, z8, M8⟩
            have S8 := Lib.hid s8; clear s8
            have Z8 : df.size = sz := z8
            have M2 : Hid (Mgd (ltOf cf) (rotf (pl d) i m e) (pl df) a mid) := by
              rw [HP7.out] at M8
              exact M8
            clear M8 z8
            go_wp2_with fail
            go_end0
            exact ⟨rfl, df, S8.out, Z8, HG.out _ _ M2.out (Mgd.refl (by first | (rw [show mid = e by omega]; exact HP.out.2.2.2.congr fun x h1 h2 => M2.out.out x (by omega)) | (rw [show b = e by omega]; exact HP.out.2.2.1.congr fun x h1 h2 => M2.out.out x (by omega))))⟩
          · have g1 : ¬ (i : Int) < (m : Int) := by have := HX.out; omega
            have g3 : (a : Int) < (i : Int) := by have := HX.out; omega
            have g4 : ¬ (i : Int) < (mid : Int) := by have := HX.out; omega
            have g5 : ¬ (mid : Int) < (e : Int) := by have := HX.out; omega
            go_wp2_with fail
            have HP7 : Hid (pl d = rotf (pl d) i m e) := by
              show _ = _
              first | (rw [show e = m by omega, rotf_right _ _ _ (by omega)]) | (rw [show i = m by omega, rotf_left])
            have M2 : Hid (Mgd (ltOf cf) (rotf (pl d) i m e) (pl d) a mid) := by
              have q : Asc (ltOf cf) (rotf (pl d) i m e) a mid := by first | (rw [show a = i by omega]; exact HP.out.2.1) | (rw [show mid = i by omega]; exact HP.out.1)
              exact mgd_eq HP7.out q
            go_end0
            exact ⟨rfl, d, S1.out, hs, HG.out _ _ M2.out (Mgd.refl (by first | (rw [show mid = e by omega]; exact HP.out.2.2.2.congr fun x h1 h2 => M2.out.out x (by omega)) | (rw [show b = e by omega]; exact HP.out.2.2.1.congr fun x h1 h2 => M2.out.out x (by omega))))⟩
theorem sym_any (R : RowK (enc2 g) 2 w0 blk off d0) (hC : CmpLays Tryz.prog 37 #[] (enc2 g) 2 cf blk off d0.size w0) (hS : SWO (ltOf cf)) (cap : Nat) (hsz : d0.size < 4611686018427387904) : ∀ (N a m b : Nat), b - a ≤ N → ∀ (w : World) (d : Array Nat), a < m → m < b → b ≤ d0.size → SWK (enc2 g) 2 w0 blk off d w → d.size = d0.size → Asc (ltOf cf) (pl d) a m → Asc (ltOf cf) (pl d) m b →
    Calls Tryz.prog 82 #[.slice (some ⟨blk, off, none⟩) d0.size cap, .int .i64 (a : Int), .int .i64 (m : Int), .int .i64 (b : Int), .func (.func 37) #[] #[]] w fun e w' => e = .returned (.tuple #[]) ∧ ∃ d', SWK (enc2 g) 2 w0 blk off d' w' ∧ d'.size = d0.size ∧ Mgd (ltOf cf) (pl d) (pl d') a b := by
  intro N
  induction N with
  | zero => intro a m b h w d h1 h2; omega
  | succ N ih =>
    intro a m b h w d h1 h2 h3 hW hs A B
    by_cases e1 : m = a + 1
    · subst e1
      exact sym_up R hC hS cap a b hW hs hsz h2 h3 B
    · by_cases e2 : b = m + 1
      · subst e2
        exact sym_down R hC hS cap a m hW hs hsz (by omega) h3 A
      · exact sym_cut R hC hS cap a m b hW hs hsz (by omega) (by omega) h3 A B fun x y z W D k1 k2 k3 k4 k5 k6 k7 k8 => ih x y z (by omega) W D k2 k3 k4 k5 k6 k7 k8
end Go.Proofs.YtmbdimonfdncpaaGreatDoor
/-
  slices.stableCmpFunc at pairs: the comparator's contract; blocks of twenty sorted by insertion, then merged.
-/
namespace Go.Proofs.YtmbdimonfdncpaaGreatDoor
open Go.Shelf Go.RowKit Go.Lib Go.Sort Go.Proofs
set_option maxHeartbeats 4000000
set_option maxRecDepth 1000000
variable {g : Nat → PV} {w0 : World} {blk off : Nat} {d0 : Array Nat} {cf : Nat → Nat → Int}
def Tryz.insL_ren : Ren := ⟨fun | 20 => 81 | n => n, fun | 22 => 23 | 24 => 29 | 25 => 87 | n => n, fun n => n⟩
theorem Tryz.insL : SlLaysF0.n20 Tryz.prog Tryz.insL_ren := {
  mixed := by kernel_rfl
  f20 := ⟨Tryz.f81.name, by decide, Tryz.func81.trans (congrArg some (by kernel_rfl))⟩
  t0 := Tryz.underlying0
  a0 := Tryz.isAgg0
  z0 := Tryz.sizeOf0
  v0 := Tryz.zeroValue0
  t3 := Tryz.underlying3
  a3 := Tryz.isAgg3
  z3 := Tryz.sizeOf3
  v3 := Tryz.zeroValue3
  t4 := Tryz.underlying4
  a4 := Tryz.isAgg4
  z4 := Tryz.sizeOf4
  v4 := Tryz.zeroValue4
  t22 := Tryz.underlying23
  a22 := Tryz.isAgg23
  z22 := Tryz.sizeOf39
  v22 := Tryz.zeroValue23
  t25 := Tryz.underlying87
  a25 := Tryz.isAgg87
  z25 := Tryz.sizeOf89
  v25 := Tryz.zeroValue87 }
/-- the order of keys -/
def kcf (key : Nat → List UInt8) (x y : Nat) : Int := cmp (key x) (key y)
theorem kcf_swo (key : Nat → List UInt8) : SWO (ltOf (kcf key)) where
  irrefl x := decide_eq_false (by show ¬ cmp (key x) (key x) < 0; rw [cmp_self]; omega)
  trans x y z h1 h2 := decide_eq_true (cmp_lt_trans (of_decide_eq_true h1) (of_decide_eq_true h2))
  ntrans x y z h1 h2 := decide_eq_false fun h => by
    have a1 : ¬ cmp (key x) (key y) < 0 := of_decide_eq_false h1
    have a2 : ¬ cmp (key y) (key z) < 0 := of_decide_eq_false h2
    have t1 := cmp_turn (key x) (key y)
    have t2 := cmp_turn (key y) (key z)
    have t3 := cmp_turn (key x) (key z)
    have := cmp_trans (key z) (key y) (key x) (by omega) (by omega)
    have h : cmp (key x) (key z) < 0 := h
    omega
theorem sort_other {dk : Array Nat} {n : Nat} {os : Array Obj} {q : Nat} (hq : q < w0.heap.size) (hb : q ≠ blk) (i : Nat) : (sortWorldK (enc2 g) 2 w0 blk off n dk os).cell? ⟨q, i, none⟩ = w0.cell? ⟨q, i, none⟩ := by
  unfold sortWorldK
  rw [cell?_grow _ _ _ (by rw [size_putRowK]; exact hq), cell?_putRowK_other (enc2 g) 2 _ blk off dk _ hb]
  rfl
/-- the bytes of the pairs lie beside the row -/
def Keyed (g : Nat → PV) (key : Nat → List UInt8) (w0 : World) (blk : Nat) : Prop :=
  ∀ x, (g x).n = (key x).length ∧ (key x = [] ∨ ∃ q o, (g x).a = some ⟨q, o, none⟩ ∧ q < w0.heap.size ∧ q ≠ blk ∧ ∀ i (h : i < (key x).length), w0.cell? ⟨q, o + i, none⟩ = some (.int .u8 (((key x)[i].toNat : Nat) : Int)))
theorem keyed_bts {key : Nat → List UInt8} (h : Keyed g key w0 blk) (n : Nat) (dk : Array Nat) (os : Array Obj) (x : Nat) : Bts (sortWorldK (enc2 g) 2 w0 blk off n dk os) (g x).a (key x) := by
  rcases (h x).2 with e | ⟨q, o, e, hq, hb, hc⟩
  · exact .inl e
  · refine .inr ⟨q, o, e, Nat.lt_of_lt_of_le hq (size_sortWorldK_c (enc2 g) 2 w0 blk off n dk os), fun i hi => ?_⟩
    rw [sort_other hq hb]
    exact hc i hi
theorem pairs1_any {w : World} {A B C D : Option Addr} {l m : List UInt8} (ha : Bts w A l) (hb : Bts w B m) (c d n1 n2 c1 c2 : Nat) :
    Calls Tryz.prog 37 #[.agg #[.slice A l.length c, .slice C n1 c1], .agg #[.slice B m.length d, .slice D n2 c2]] w fun e w' => e = .returned (.int .i64 (cmp l m)) ∧ w' = (w.alloc (.cells #[.slice A l.length c, .slice C n1 c1] 29)).alloc (.cells #[.slice B m.length d, .slice D n2 c2] 29) := by
  obtain ⟨w2, hw2⟩ : ∃ w2, w2 = (w.alloc (.cells #[.slice A l.length c, .slice C n1 c1] 29)).alloc (.cells #[.slice B m.length d, .slice D n2 c2] 29) := ⟨_, rfl⟩
  have hb2 : Below w.heap.size w w2 := by rw [hw2]; exact ((Below.refl _ _).alloc (Nat.le_refl _) _).alloc (by simp) _
  have H := Lib.hid (compare_any (ha.below hb2) (hb.below hb2) c d)
  have r0 : w2.heap[w.heap.size]? = some (.cells #[.slice A l.length c, .slice C n1 c1] 29 (0, 0)) := by rw [hw2]; exact heap_alloc2_old w _ _
  have r1 : w2.heap[w.heap.size + 1]? = some (.cells #[.slice B m.length d, .slice D n2 c2] 29 (0, 0)) := by rw [hw2]; exact heap_alloc2_new w _ _
  have d0 : w2.cell? ⟨w.heap.size, 0, none⟩ = some (.slice A l.length c) := by rw [cell_of_row _ _ _ _ _ _ r0]; rfl
  have d1 : w2.cell? ⟨w.heap.size + 1, 0, none⟩ = some (.slice B m.length d) := by rw [cell_of_row _ _ _ _ _ _ r1]; rfl
  rw [← hw2]
  obtain ⟨x1, hx1⟩ : ∃ x, x = l.length := ⟨_, rfl⟩
  obtain ⟨x2, hx2⟩ : ∃ x, x = m.length := ⟨_, rfl⟩
  obtain ⟨r, hr⟩ : ∃ r, r = cmp l m := ⟨_, rfl⟩
  rw [← hx1, ← hx2] at H hw2 ⊢
  rw [← hr] at H ⊢
  rw [← hx1] at d0
  rw [← hx2] at d1
  have e0 := d0
  have e1 := d1
  rw [hw2] at e0 e1
  have HW := Lib.hid hw2; clear hw2
  clear r0 r1 hb2 ha hb hx1 hx2 hr
  go_enter Tryz.func37, Tryz.ntmps37
  go_wp2_with fail
  rw [← HW.out]
  refine H.out.mono ?_
  rintro e w' ⟨rfl, rfl⟩
  go_wp2_with fail
  go_ret
  exact ⟨rfl, rfl⟩
theorem cmp_lays {key : Nat → List UInt8} (h : Keyed g key w0 blk) (size : Nat) : CmpLays Tryz.prog 37 #[] (enc2 g) 2 (kcf key) blk off size w0 := by
  intro n os dk _ x y
  have a := pairs1_any (C := (g x).b) (D := (g y).b) (keyed_bts (off := off) h n dk os x) (keyed_bts (off := off) h n dk os y) (g x).c (g y).c (g x).m (g y).m (g x).d (g y).d
  rw [← (h x).1, ← (h y).1] at a
  refine a.mono ?_
  rintro e w' ⟨rfl, rfl⟩
  refine ⟨rfl, 0, (#[.cells #[.slice (g x).a (g x).n (g x).c, .slice (g x).b (g x).m (g x).d] 29] : Array Obj) ++ #[.cells #[.slice (g y).a (g y).n (g y).c, .slice (g y).b (g y).m (g y).d] 29], ?_⟩
  rw [alloc_eq_grow, alloc_eq_grow, grow_grow]
  rfl
theorem ins_any (R : RowK (enc2 g) 2 w0 blk off d0) (hC : CmpLays Tryz.prog 37 #[] (enc2 g) 2 cf blk off d0.size w0) (hS : SWO (ltOf cf)) (cap a b : Nat) {w : World} {d : Array Nat} (hW : SWK (enc2 g) 2 w0 blk off d w) (hs : d.size = d0.size) (hsz : d0.size < 4611686018427387904) (h1 : a ≤ b) (h2 : b ≤ d0.size) :
    Calls Tryz.prog 81 #[.slice (some ⟨blk, off, none⟩) d0.size cap, .int .i64 (a : Int), .int .i64 (b : Int), .func (.func 37) #[] #[]] w fun e w' => e = .returned (.tuple #[]) ∧ ∃ d', SWK (enc2 g) 2 w0 blk off d' w' ∧ d'.size = d0.size ∧ Mgd (ltOf cf) (pl d) (pl d') a b := by
  have h := AnyQ.insertionSortCmpFunc_w Tryz.insL 2 Tryz.isAgg29 Tryz.sizeOf29 (enc2 g) cf 37 #[] blk off cap a b d0 d w0 w (enters_of Tryz.func37 (by kernel_rfl) rfl) hC R hs.symm hW hS h1 (by omega) (by omega)
  rw [hs] at h
  obtain ⟨p1, p2⟩ := insertionSort_holds hS d a b h1 (by omega)
  refine h.mono ?_
  rintro e w' ⟨rfl, hk⟩
  exact ⟨rfl, _, hk, p1.1.trans hs, mgd_of_sorted h1 (by omega) p1 p2⟩
theorem stable_any (R : RowK (enc2 g) 2 w0 blk off d0) (hC : CmpLays Tryz.prog 37 #[] (enc2 g) 2 cf blk off d0.size w0) (hS : SWO (ltOf cf)) (cap : Nat) {w : World} (hW : SWK (enc2 g) 2 w0 blk off d0 w) (hsz : d0.size < 1000000000000) :
    Calls Tryz.prog 56 #[.slice (some ⟨blk, off, none⟩) d0.size cap, .int .i64 (d0.size : Int), .func (.func 37) #[] #[]] w fun e w' => e = .returned (.tuple #[]) ∧ ∃ d', SWK (enc2 g) 2 w0 blk off d' w' ∧ d'.size = d0.size ∧ (sl (pl d') 0 d0.size).Perm (sl (pl d0) 0 d0.size) ∧ Asc (ltOf cf) (pl d') 0 d0.size := by
  have INS := Lib.hid (fun (x y : Nat) (W : World) (D : Array Nat) (hS1 : SWK (enc2 g) 2 w0 blk off D W) (hD : D.size = d0.size) (k1 : x ≤ y) (k2 : y ≤ d0.size) => ins_any R hC hS cap x y hS1 hD (by omega) k1 k2)
  have SYM := Lib.hid (fun (x y z : Nat) (W : World) (D : Array Nat) (k1 : x < y) (k2 : y < z) (k3 : z ≤ d0.size) (hS1 : SWK (enc2 g) 2 w0 blk off D W) (hD : D.size = d0.size) (A : Asc (ltOf cf) (pl D) x y) (B : Asc (ltOf cf) (pl D) y z) => sym_any R hC hS cap (by omega) (z - x) x y z (Nat.le_refl _) W D k1 k2 k3 hS1 hD A B)
  have S0 : Hid (SWK (enc2 g) 2 w0 blk off d0 w) := hW
  obtain ⟨n, hn⟩ : ∃ n, n = d0.size := ⟨_, rfl⟩
  have HD0 : Hid (d0.size = n) := hn.symm
  rw [← hn] at hsz INS SYM ⊢
  clear hW R hC hS hn
  go_enter Tryz.func56, Tryz.ntmps56
  go_wp2_with fail
  go_loopg [7, 8] (n + 20 - 0) (fun kx s7 s8 wr => ∃ (a : Nat) (dk : Array Nat), s7 = .int .i64 (a : Int) ∧ s8 = .int .i64 ((a + 20 : Nat) : Int) ∧ a ≤ n ∧ n - a ≤ kx ∧ Hid (20 ∣ a) ∧ Hid (dk.size = n) ∧ Hid (SWK (enc2 g) 2 w0 blk off dk wr) ∧ Hid ((sl (pl dk) 0 n).Perm (sl (pl d0) 0 n)) ∧ Hid (Blk (ltOf cf) 20 (pl dk) 0 a))
  case atStart => exact ⟨0, d0, rfl, rfl, by omega, by omega, ⟨0, rfl⟩, HD0.out, S0.out, List.Perm.refl _, blk_none _ _⟩
  case round =>
    clear S0
    obtain ⟨a, dk, rfl, rfl, han, hkx, hdv, hds, S1, hpm, hbl⟩ := hrel
    by_cases hlt : a + 20 ≤ n
    · have hltz : ((a + 20 : Nat) : Int) ≤ (n : Int) := by omega
      have J := Lib.hid (INS.out a (a + 20) wr dk S1.out hds.out (by omega) hlt)
      clear S1
      go_wp2_with fail
      refine J.out.mono ?_
      rintro e w2 ⟨rfl, d', h5, h6, h7⟩
      have S2 := Lib.hid h5; clear h5
      have Z2 := Lib.hid h6; clear h6
      have P2 : Hid ((sl (pl d') 0 n).Perm (sl (pl d0) 0 n)) := (mgd_whole h7 (by omega) hlt).trans hpm.out
      have B2 : Hid (Blk (ltOf cf) 20 (pl d') 0 (a + 20)) := blk_next hdv.out hbl.out h7 (Nat.le_refl _) (by omega)
      have V2 : Hid (20 ∣ a + 20) := (Nat.dvd_add_right hdv.out).2 (Nat.dvd_refl _)
      clear h7 J
      go_wp2_with fail
      go_roundg (n - (a + 20))
      case measure => omega
      case rel => exact ⟨a + 20, d', rfl, by go_num, hlt, by omega, V2.out, Z2.out, S2.out, P2.out, B2.out⟩
    · have hltz : ¬ ((a + 20 : Nat) : Int) ≤ (n : Int) := by omega
      have J := Lib.hid (INS.out a n wr dk S1.out hds.out han (Nat.le_refl _))
      clear S1
      go_wp2_with fail
      refine J.out.mono ?_
      rintro e w2 ⟨rfl, d', h5, h6, h7⟩
      have S2 := Lib.hid h5; clear h5
      have Z2 := Lib.hid h6; clear h6
      have P2 : Hid ((sl (pl d') 0 n).Perm (sl (pl d0) 0 n)) := (mgd_whole h7 han (Nat.le_refl _)).trans hpm.out
      have B2 : Hid (Blk (ltOf cf) 20 (pl d') 0 n) := blk_next hdv.out hbl.out h7 (by omega) han
      clear h7 J hdv hds hpm hbl hkx
      go_wp2_with fail
      go_loopg [6, 7, 8, 9] (n) (fun kx s6 s7 s8 s9 wr => ∃ (s : Nat) (dk : Array Nat), s6 = .int .i64 (s : Int) ∧ 20 ≤ s ∧ s ≤ 2 * n + 20 ∧ n - s ≤ kx ∧ Hid (dk.size = n) ∧ Hid (SWK (enc2 g) 2 w0 blk off dk wr) ∧ Hid ((sl (pl dk) 0 n).Perm (sl (pl d0) 0 n)) ∧ Hid (Blk (ltOf cf) s (pl dk) 0 n))
      case atStart => exact ⟨20, d', rfl, by omega, by omega, by omega, Z2.out, S2.out, P2.out, B2.out⟩
      case round =>
        clear S2 Z2 P2 B2
        obtain ⟨s, dk, rfl, hs20, hs2n, hkx, hds, S1, hpm, hbl⟩ := hrel
        by_cases hsn : s < n
        · have hsz2 : (s : Int) < (n : Int) := by omega
          obtain ⟨o, ho⟩ : ∃ o, o = 2 * s := ⟨_, rfl⟩
          have m1 : IntKind.i64.wrap (2 * (s : Int)) = (o : Int) := by rw [IntKind.wrap_i64]; omega
          have m2 : 2 * (s : Int) = (o : Int) := by omega
          have m3 : IntKind.i64.wrap ((s : Int) * 2) = (o : Int) := by rw [IntKind.wrap_i64]; omega
          have m4 : (s : Int) * 2 = (o : Int) := by omega
          have m5 : IntKind.i64.wrap (o : Int) = (o : Int) := by rw [IntKind.wrap_i64]; omega
          have HO := Lib.hid ho; clear ho
          go_wp2_with fail
          go_loopg [7, 8] (n) (fun ky s7 s8 wr => ∃ (a : Nat) (dk : Array Nat), s7 = .int .i64 (a : Int) ∧ s8 = .int .i64 ((a + o : Nat) : Int) ∧ a ≤ n ∧ n - a ≤ ky ∧ Hid (2 * s ∣ a) ∧ Hid (dk.size = n) ∧ Hid (SWK (enc2 g) 2 w0 blk off dk wr) ∧ Hid ((sl (pl dk) 0 n).Perm (sl (pl d0) 0 n)) ∧ Hid (Blk (ltOf cf) (2 * s) (pl dk) 0 a) ∧ Hid (Blk (ltOf cf) s (pl dk) a n))
          case atStart => exact ⟨0, dk, rfl, by go_num, by omega, by omega, Nat.dvd_zero _, hds.out, S1.out, hpm.out, blk_none _ _, hbl.out⟩
          case round =>
            clear S1 hds hpm hbl
            obtain ⟨a, dk, rfl, rfl, han, hky, hdv, hds, S1, hpm, hb1, hb2⟩ := hrel
            have ho2 := HO.out
            by_cases hlt : a + o ≤ n
            · have hltz : ((a + o : Nat) : Int) ≤ (n : Int) := by omega
              have n1 : IntKind.i64.wrap ((a : Int) + (s : Int)) = ((a + s : Nat) : Int) := by rw [IntKind.wrap_i64]; omega
              have n2 : (a : Int) + (s : Int) = ((a + s : Nat) : Int) := by omega
              have n3 : IntKind.i64.wrap (((a + o : Nat) : Int) + (o : Int)) = ((a + o : Nat) : Int) + (o : Int) := by rw [IntKind.wrap_i64]; omega
              obtain ⟨q1, q2⟩ := blk_at hb2.out (dvd_two hdv.out).1 (by omega) (by omega)
              rw [show min (a + 2 * s) n = a + o by omega] at q2
              have J := Lib.hid (SYM.out a (a + s) (a + o) wr dk (by omega) (by omega) hlt S1.out hds.out q1 q2)
              obtain ⟨c1, hc1⟩ : ∃ c, c = a + s := ⟨_, rfl⟩
              obtain ⟨c2, hc2⟩ : ∃ c, c = a + o := ⟨_, rfl⟩
              rw [← hc1] at J n1 n2
              rw [← hc2] at J n3 hltz ⊢
              have HC := Lib.hid (And.intro hc1 hc2)
              clear S1 q1 q2 ho2 hc1 hc2
              go_wp2_with fail
              refine J.out.mono ?_
              rintro e w3 ⟨rfl, d3, h5, h6, h7⟩
              have S3 := Lib.hid h5; clear h5
              have Z3 := Lib.hid h6; clear h6
              have ho2 := HO.out
              have hc := HC.out
              have P3 : Hid ((sl (pl d3) 0 n).Perm (sl (pl d0) 0 n)) := (mgd_whole h7 (by omega) (by omega)).trans hpm.out
              obtain ⟨b1, b2⟩ := blk_two hdv.out hb1.out hb2.out h7 (by omega)
              have B3 := Lib.hid b1; clear b1
              have B4 := Lib.hid b2; clear b2
              have V3 : Hid (2 * s ∣ c2) := by
                show _ ∣ _
                rw [show c2 = a + 2 * s by omega]
                exact (dvd_two hdv.out).2
              clear h7 J ho2 hc
              go_wp2_with fail
              go_roundg (n - c2)
              case measure => have := HC.out; have := HO.out; omega
              case rel => exact ⟨c2, d3, rfl, by go_num, by have := HC.out; omega, by omega, V3.out, Z3.out, S3.out, P3.out, B3.out, B4.out⟩
            · have hltz : ¬ ((a + o : Nat) : Int) ≤ (n : Int) := by omega
              have n1 : IntKind.i64.wrap ((a : Int) + (s : Int)) = ((a + s : Nat) : Int) := by rw [IntKind.wrap_i64]; omega
              have n2 : (a : Int) + (s : Int) = ((a + s : Nat) : Int) := by omega
              by_cases hm : a + s < n
              · have hmz : ((a + s : Nat) : Int) < (n : Int) := by omega
                obtain ⟨q1, q2⟩ := blk_at hb2.out (dvd_two hdv.out).1 (by omega) hm
                rw [show min (a + 2 * s) n = n by omega] at q2
                have J := Lib.hid (SYM.out a (a + s) n wr dk (by omega) hm (Nat.le_refl _) S1.out hds.out q1 q2)
                obtain ⟨c1, hc1⟩ : ∃ c, c = a + s := ⟨_, rfl⟩
                rw [← hc1] at J n1 n2 hmz
                have HC := Lib.hid hc1
                clear S1 q1 q2 ho2 hc1 hm
                go_wp2_with fail
                refine J.out.mono ?_
                rintro e w3 ⟨rfl, d3, h5, h6, h7⟩
                have S3 := Lib.hid h5; clear h5
                have Z3 := Lib.hid h6; clear h6
                have ho2 := HO.out
                have P3 : Hid ((sl (pl d3) 0 n).Perm (sl (pl d0) 0 n)) := (mgd_whole h7 (by omega) (by omega)).trans hpm.out
                have B3 : Hid (Blk (ltOf cf) o (pl d3) 0 n) := by
                  show Blk _ _ _ _ _
                  rw [ho2]
                  exact blk_last hdv.out hb1.out h7 (by omega) han
                clear h7 J ho2
                go_wp2_with fail
                go_roundg (n - o)
                case measure => have := HO.out; omega
                case rel => exact ⟨o, d3, rfl, by have := HO.out; omega, by have := HO.out; omega, by omega, Z3.out, S3.out, P3.out, B3.out⟩
              · have hmz : ¬ ((a + s : Nat) : Int) < (n : Int) := by omega
                have B3 : Hid (Blk (ltOf cf) o (pl dk) 0 n) := by
                  show Blk _ _ _ _ _
                  rw [ho2]
                  exact blk_rest hdv.out hb1.out hb2.out (by omega) han
                obtain ⟨c1, hc1⟩ : ∃ c, c = a + s := ⟨_, rfl⟩
                rw [← hc1] at n1 n2 hmz
                have HC := Lib.hid hc1
                clear ho2 hc1 hm
                go_wp2_with fail
                go_roundg (n - o)
                case measure => have := HO.out; omega
                case rel => exact ⟨o, dk, rfl, by have := HO.out; omega, by have := HO.out; omega, by omega, hds.out, S1.out, hpm.out, B3.out⟩
        · have hsz2 : ¬ (s : Int) < (n : Int) := by omega
          go_wp2_with fail
          go_end0
          exact ⟨rfl, dk, S1.out, hds.out, hpm.out, blk_end hbl.out (by omega)⟩
end Go.Proofs.YtmbdimonfdncpaaGreatDoor
