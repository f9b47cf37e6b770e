/-
  Merging in place, plain: stretches of a list of places turned about (rot), that two sorted stretches, cut at places that fit, lead to one sorted stretch of the same; sorting by blocks. No program.
-/
import Derived.Sort.Statements
import Derived.Sort.LotA
namespace Go.Proofs.Ytfhnmmiakknilaa
open Go.Sort
set_option maxHeartbeats 400000
set_option linter.unusedSectionVars false
set_option linter.unusedVariables false
section
variable {α : Type}
/-- the stretch of n places from a on -/
def sl (f : Nat → α) (a n : Nat) : List α := (List.range' a n).map f
theorem sl_add (f : Nat → α) (a n m : Nat) : sl f a (n + m) = sl f a n ++ sl f (a + n) m := by
  unfold sl
  rw [← List.map_append, List.range'_append_1]
theorem sl_cut (f : Nat → α) {a b c : Nat} (h1 : a ≤ b) (h2 : b ≤ c) : sl f a (c - a) = sl f a (b - a) ++ sl f b (c - b) := by
  have e : c - a = (b - a) + (c - b) := by omega
  have e2 : a + (b - a) = b := by omega
  rw [e, sl_add, e2]
theorem sl_congr {f g : Nat → α} {a n b : Nat} (h : ∀ x, x < n → f (a + x) = g (b + x)) : sl f a n = sl g b n := by
  unfold sl
  refine List.ext_getElem (by simp) fun i h1 h2 => ?_
  simp only [List.length_map, List.length_range'] at h1
  simp only [List.getElem_map, List.getElem_range', Nat.one_mul]
  exact h i h1
theorem sl_length (f : Nat → α) (a n : Nat) : (sl f a n).length = n := by simp [sl]
theorem mem_sl (f : Nat → α) (a n : Nat) (v : α) : v ∈ sl f a n ↔ ∃ x, a ≤ x ∧ x < a + n ∧ f x = v := by
  unfold sl
  simp only [List.mem_map, List.mem_range'_1]
  constructor
  · rintro ⟨x, ⟨h1, h2⟩, h3⟩; exact ⟨x, h1, h2, h3⟩
  · rintro ⟨x, h1, h2, h3⟩; exact ⟨x, ⟨h1, h2⟩, h3⟩
/-- [a, m) and [m, b) change places -/
def rotf (f : Nat → α) (a m b x : Nat) : α := if a ≤ x ∧ x < a + (b - m) then f (x + (m - a)) else if a + (b - m) ≤ x ∧ x < b then f (x - (b - m)) else f x
/-- [a, a + n) and [b, b + n) change places -/
def swapf (f : Nat → α) (a b n x : Nat) : α := if a ≤ x ∧ x < a + n then f (x - a + b) else if b ≤ x ∧ x < b + n then f (x - b + a) else f x
/-- two places change -/
def sw1 (f : Nat → α) (i j x : Nat) : α := if x = j then f i else if x = i then f j else f x
theorem swapf_zero (f : Nat → α) (a b : Nat) : swapf f a b 0 = f := by
  funext x
  unfold swapf
  rw [if_neg (by omega), if_neg (by omega)]
theorem swapf_step (f : Nat → α) {a b i n : Nat} (h : a + n ≤ b) (hi : i < n) : sw1 (swapf f a b i) (a + i) (b + i) = swapf f a b (i + 1) := by
  funext x
  unfold sw1 swapf
  repeat' split
  all_goals first | rfl | omega | (congr 1; omega)
theorem rotf_left (f : Nat → α) (m b : Nat) : rotf f m m b = f := by
  funext x
  unfold rotf
  repeat' split
  all_goals first | rfl | omega | (congr 1; omega)
theorem rotf_right (f : Nat → α) (a m : Nat) (h : a ≤ m) : rotf f a m m = f := by
  funext x
  unfold rotf
  split
  · omega
  · split
    · congr 1; omega
    · rfl
theorem rotf_more (f : Nat → α) {m i j : Nat} (h : j < i) (hm : i ≤ m) : rotf f (m - i) m (m + j) = rotf (swapf f (m - i) m j) (m - (i - j)) m (m + j) := by
  funext x
  unfold rotf swapf
  repeat' split
  all_goals first | rfl | omega | (congr 1; omega)
theorem rotf_less (f : Nat → α) {m i j : Nat} (h : i < j) (hm : i ≤ m) : rotf f (m - i) m (m + j) = rotf (swapf f (m - i) (m + j - i) i) (m - i) m (m + (j - i)) := by
  funext x
  unfold rotf swapf
  repeat' split
  all_goals first | rfl | omega | (congr 1; omega)
theorem rotf_even (f : Nat → α) {m i : Nat} (hm : i ≤ m) : rotf f (m - i) m (m + i) = swapf f (m - i) m i := by
  funext x
  unfold rotf swapf
  repeat' split
  all_goals first | rfl | omega | (congr 1; omega)
/-- one place goes up -/
theorem rotf_up (f : Nat → α) (a k : Nat) (h : a ≤ k) : sw1 (rotf f a (a + 1) (k + 1)) k (k + 1) = rotf f a (a + 1) (k + 2) := by
  funext x
  unfold sw1 rotf
  repeat' split
  all_goals first | rfl | omega | (congr 1; omega)
/-- one place goes down -/
theorem rotf_down (f : Nat → α) (k m : Nat) (h : k + 1 ≤ m) : sw1 (rotf f (k + 1) m (m + 1)) (k + 1) k = rotf f k m (m + 1) := by
  funext x
  unfold sw1 rotf
  repeat' split
  all_goals first | rfl | omega | (congr 1; omega)
theorem rotf_perm (f : Nat → α) {a s m e b : Nat} (h1 : a ≤ s) (h2 : s ≤ m) (h3 : m ≤ e) (h4 : e ≤ b) : (sl (rotf f s m e) a (b - a)).Perm (sl f a (b - a)) := by
  have e1 : sl (rotf f s m e) a (s - a) = sl f a (s - a) := sl_congr fun x hx => by unfold rotf; rw [if_neg (by omega), if_neg (by omega)]
  have e2 : sl (rotf f s m e) s (s + (e - m) - s) = sl f m (e - m) := by
    rw [show s + (e - m) - s = e - m by omega]
    exact sl_congr fun x hx => by unfold rotf; rw [if_pos (by omega)]; congr 1; omega
  have e3 : sl (rotf f s m e) (s + (e - m)) (e - (s + (e - m))) = sl f s (m - s) := by
    rw [show e - (s + (e - m)) = m - s by omega]
    exact sl_congr fun x hx => by unfold rotf; rw [if_neg (by omega), if_pos (by omega)]; congr 1; omega
  have e4 : sl (rotf f s m e) e (b - e) = sl f e (b - e) := sl_congr fun x hx => by unfold rotf; rw [if_neg (by omega), if_neg (by omega)]
  rw [sl_cut _ (show a ≤ s by omega) (show s ≤ b by omega), sl_cut _ (show s ≤ s + (e - m) by omega) (show s + (e - m) ≤ b by omega), sl_cut _ (show s + (e - m) ≤ e by omega) (show e ≤ b by omega), e1, e2, e3, e4,
    sl_cut f (show a ≤ s by omega) (show s ≤ b by omega), sl_cut f (show s ≤ m by omega) (show m ≤ b by omega), sl_cut f (show m ≤ e by omega) (show e ≤ b by omega)]
  refine List.Perm.append_left _ ?_
  rw [← List.append_assoc, ← List.append_assoc]
  exact List.Perm.append_right _ List.perm_append_comm
/-- sorted on [a, b) -/
def Asc (lt : α → α → Bool) (f : Nat → α) (a b : Nat) : Prop := ∀ i j, a ≤ i → i < j → j < b → lt (f j) (f i) = false
/-- f' has the places of [a, b) sorted, and all else as f -/
structure Mgd (lt : α → α → Bool) (f f' : Nat → α) (a b : Nat) : Prop where
  out : ∀ x, x < a ∨ b ≤ x → f' x = f x
  perm : (sl f' a (b - a)).Perm (sl f a (b - a))
  asc : Asc lt f' a b
variable {lt : α → α → Bool}
theorem Asc.congr {f g : Nat → α} {a b : Nat} (h : Asc lt f a b) (e : ∀ x, a ≤ x → x < b → g x = f x) : Asc lt g a b := fun i j hi hij hj => by
  rw [e i hi (by omega), e j (by omega) hj]
  exact h i j hi hij hj
theorem Mgd.refl {f : Nat → α} {a b : Nat} (h : Asc lt f a b) : Mgd lt f f a b := ⟨fun _ _ => rfl, List.Perm.refl _, h⟩
theorem Mgd.mem {f f' : Nat → α} {a b x : Nat} (h : Mgd lt f f' a b) (h1 : a ≤ x) (h2 : x < b) : ∃ y, a ≤ y ∧ y < b ∧ f' x = f y := by
  have g : f' x ∈ sl f a (b - a) := h.perm.mem_iff.1 ((mem_sl _ _ _ _).2 ⟨x, h1, by omega, rfl⟩)
  obtain ⟨y, h3, h4, h5⟩ := (mem_sl _ _ _ _).1 g
  exact ⟨y, h3, by omega, h5.symm⟩
/-- sorted below mid, sorted from mid on, and no one from mid on is less than one below: sorted -/
theorem Asc.glue (_hS : SWO lt) {f : Nat → α} {a mid b : Nat} (h1 : Asc lt f a mid) (h2 : Asc lt f mid b) (h3 : ∀ x y, a ≤ x → x < mid → mid ≤ y → y < b → lt (f y) (f x) = false) : Asc lt f a b := fun i j hi hij hj => by
  rcases Nat.lt_or_ge j mid with g | g
  · exact h1 i j hi hij g
  · rcases Nat.lt_or_ge i mid with k | k
    · exact h3 i j hi k g hj
    · exact h2 i j k hij hj
/-- le goes on -/
theorem le_trans' (hS : SWO lt) {x y z : α} (h1 : lt y x = false) (h2 : lt z y = false) : lt z x = false := hS.ntrans _ _ _ h2 h1
theorem le_of_lt' (hS : SWO lt) {x y : α} (h : lt x y = true) : lt y x = false := by
  cases g : lt y x
  · rfl
  · have := hS.trans _ _ _ h g
    rw [hS.irrefl] at this
    cases this
theorem Asc.le (hS : SWO lt) {f : Nat → α} {a b : Nat} (h : Asc lt f a b) {i j : Nat} (hi : a ≤ i) (hij : i ≤ j) (hj : j < b) : lt (f j) (f i) = false := by
  rcases Nat.lt_or_ge i j with g | g
  · exact h i j hi g hj
  · obtain rfl : i = j := by omega
    exact hS.irrefl _
section
variable (hS : SWO lt) {f : Nat → α} {a s m e b : Nat} (h1 : a ≤ s) (h2 : s ≤ m) (h3 : m ≤ e) (h4 : e ≤ b) (A : Asc lt f a m) (B : Asc lt f m b)
include h1 h2 h3 h4 A B
theorem rot_p1 : Asc lt (rotf f s m e) a s := fun i j hi hij hj => by
  have := A i j hi hij (by omega)
  unfold rotf
  rw [if_neg (by omega), if_neg (by omega), if_neg (by omega), if_neg (by omega)]
  exact this
theorem rot_p2 : Asc lt (rotf f s m e) s (s + (e - m)) := fun i j hi hij hj => by
  have := B (i + (m - s)) (j + (m - s)) (by omega) (by omega) (by omega)
  unfold rotf
  rw [if_pos (by omega), if_pos (by omega)]
  exact this
theorem rot_p3 : Asc lt (rotf f s m e) (s + (e - m)) e := fun i j hi hij hj => by
  have := A (i - (e - m)) (j - (e - m)) (by omega) (by omega) (by omega)
  unfold rotf
  rw [if_neg (by omega), if_pos (by omega), if_neg (by omega), if_pos (by omega)]
  exact this
theorem rot_p4 : Asc lt (rotf f s m e) e b := fun i j hi hij hj => by
  have := B i j (by omega) hij hj
  unfold rotf
  rw [if_neg (by omega), if_neg (by omega), if_neg (by omega), if_neg (by omega)]
  exact this
include hS
theorem rot_cross (c1 : s = a ∨ e = b ∨ lt (f e) (f (s - 1)) = false) (c2 : s = m ∨ e = m ∨ lt (f s) (f (e - 1)) = false) :
    ∀ x y, a ≤ x → x < s + (e - m) → s + (e - m) ≤ y → y < b → lt (rotf f s m e y) (rotf f s m e x) = false := fun x y hx hx2 hy hy2 => by
  have ex : (x < s ∧ rotf f s m e x = f x) ∨ (s ≤ x ∧ rotf f s m e x = f (x + (m - s))) := by
    unfold rotf
    rcases Nat.lt_or_ge x s with g | g
    · exact .inl ⟨g, by rw [if_neg (by omega), if_neg (by omega)]⟩
    · exact .inr ⟨g, by rw [if_pos (by omega)]⟩
  have ey : (y < e ∧ rotf f s m e y = f (y - (e - m))) ∨ (e ≤ y ∧ rotf f s m e y = f y) := by
    unfold rotf
    rcases Nat.lt_or_ge y e with g | g
    · exact .inl ⟨g, by rw [if_neg (by omega), if_pos (by omega)]⟩
    · exact .inr ⟨g, by rw [if_neg (by omega), if_neg (by omega)]⟩
  rcases ex with ⟨gx, ex⟩ | ⟨gx, ex⟩ <;> rcases ey with ⟨gy, ey⟩ | ⟨gy, ey⟩ <;> rw [ex, ey]
  · exact A _ _ hx (by omega) (by omega)
  · rcases c1 with c | c | c
    · omega
    · omega
    · refine le_trans' hS (A.le hS hx (show x ≤ s - 1 by omega) (by omega)) (le_trans' hS c (B.le hS h3 gy hy2))
  · rcases c2 with c | c | c
    · omega
    · omega
    · refine le_trans' hS (B.le hS (show m ≤ x + (m - s) by omega) (show x + (m - s) ≤ e - 1 by omega) (by omega)) (le_trans' hS c (A.le hS h1 (show s ≤ y - (e - m) by omega) (by omega)))
  · exact B _ _ (by omega) (by omega) hy2
end
/-- the merge, cut at s and e: both halves merged -/
theorem mgd_halves (hS : SWO lt) {f f2 f3 : Nat → α} {a s m e b mid : Nat} (h1 : a ≤ s) (h2 : s ≤ m) (h3 : m ≤ e) (h4 : e ≤ b) (hm : s + (e - m) = mid) (A : Asc lt f a m) (B : Asc lt f m b)
    (c1 : s = a ∨ e = b ∨ lt (f e) (f (s - 1)) = false) (c2 : s = m ∨ e = m ∨ lt (f s) (f (e - 1)) = false)
    (M2 : Mgd lt (rotf f s m e) f2 a mid) (M3 : Mgd lt f2 f3 mid b) : Mgd lt f f3 a b := by
  subst hm
  have C := rot_cross hS h1 h2 h3 h4 A B c1 c2
  refine ⟨fun x hx => ?_, ?_, ?_⟩
  · rw [M3.out x (by omega), M2.out x (by omega)]
    unfold rotf
    rw [if_neg (by omega), if_neg (by omega)]
  · refine List.Perm.trans ?_ (rotf_perm f h1 h2 h3 h4)
    rw [sl_cut f3 (show a ≤ s + (e - m) by omega) (show s + (e - m) ≤ b by omega), sl_cut (rotf f s m e) (show a ≤ s + (e - m) by omega) (show s + (e - m) ≤ b by omega)]
    have e1 : sl f3 a (s + (e - m) - a) = sl f2 a (s + (e - m) - a) := sl_congr fun x hx => M3.out _ (by omega)
    have e2 : sl f2 (s + (e - m)) (b - (s + (e - m))) = sl (rotf f s m e) (s + (e - m)) (b - (s + (e - m))) := sl_congr fun x hx => M2.out _ (by omega)
    rw [e1, ← e2]
    exact M2.perm.append M3.perm
  · refine Asc.glue hS (M2.asc.congr fun x _ hx => M3.out x (by omega)) M3.asc fun x y hx hx2 hy hy2 => ?_
    rw [M3.out x (by omega)]
    obtain ⟨x', k1, k2, k3⟩ := M2.mem hx hx2
    obtain ⟨y', k4, k5, k6⟩ := M3.mem hy hy2
    rw [k3, k6, M2.out y' (by omega)]
    exact C x' y' k1 k2 k4 k5
/-- one ahead of a sorted stretch -/
theorem mgd_up (hS : SWO lt) {f : Nat → α} {a i b : Nat} (h1 : a + 1 ≤ i) (h2 : i ≤ b) (B : Asc lt f (a + 1) b) (c1 : i = a + 1 ∨ lt (f (i - 1)) (f a) = true) (c2 : i = b ∨ lt (f i) (f a) = false) : Mgd lt f (rotf f a (a + 1) i) a b := by
  have A : Asc lt f a (a + 1) := fun x y hx hxy hy => by omega
  have hc2 : a = a + 1 ∨ i = a + 1 ∨ lt (f a) (f (i - 1)) = false := by
    rcases c1 with c | c
    · exact .inr (.inl c)
    · exact .inr (.inr (le_of_lt' hS c))
  have C := rot_cross hS (Nat.le_refl a) (Nat.le_succ a) h1 h2 A B (.inl rfl) hc2
  refine ⟨fun x hx => by unfold rotf; rw [if_neg (by omega), if_neg (by omega)], rotf_perm f (Nat.le_refl a) (Nat.le_succ a) h1 h2, Asc.glue hS (mid := a + (i - (a + 1))) (rot_p2 (Nat.le_refl a) (Nat.le_succ a) h1 h2 A B) ?_ C⟩
  intro x y hx hxy hy
  rcases Nat.lt_or_ge x i with g | g
  · have ex : rotf f a (a + 1) i x = f a := by
      unfold rotf
      rw [if_neg (by omega), if_pos (by omega)]; congr 1; omega
    have ey : rotf f a (a + 1) i y = f y := by
      unfold rotf
      rw [if_neg (by omega), if_neg (by omega)]
    rw [ex, ey]
    rcases c2 with c | c
    · omega
    · exact le_trans' hS c (B.le hS (show a + 1 ≤ i by omega) (show i ≤ y by omega) hy)
  · exact rot_p4 (Nat.le_refl a) (Nat.le_succ a) h1 h2 A B x y g hxy hy
/-- one behind a sorted stretch -/
theorem mgd_down (hS : SWO lt) {f : Nat → α} {a i m : Nat} (h1 : a ≤ i) (h2 : i ≤ m) (A : Asc lt f a m) (c1 : i = a ∨ lt (f m) (f (i - 1)) = false) (c2 : i = m ∨ lt (f m) (f i) = true) : Mgd lt f (rotf f i m (m + 1)) a (m + 1) := by
  have B : Asc lt f m (m + 1) := fun x y hx hxy hy => by omega
  have hc1 : i = a ∨ m + 1 = m + 1 ∨ lt (f (m + 1)) (f (i - 1)) = false := .inr (.inl rfl)
  have hc2 : i = m ∨ m + 1 = m ∨ lt (f i) (f (m + 1 - 1)) = false := by
    rcases c2 with c | c
    · exact .inl c
    · exact .inr (.inr (le_of_lt' hS c))
  have C := rot_cross hS h1 h2 (Nat.le_succ m) (Nat.le_refl _) A B hc1 hc2
  refine ⟨fun x hx => by unfold rotf; rw [if_neg (by omega), if_neg (by omega)], rotf_perm f h1 h2 (Nat.le_succ m) (Nat.le_refl _), Asc.glue hS (mid := i + (m + 1 - m)) ?_ (rot_p3 h1 h2 (Nat.le_succ m) (Nat.le_refl _) A B) C⟩
  intro x y hx hxy hy
  rcases Nat.lt_or_ge y i with g | g
  · exact rot_p1 h1 h2 (Nat.le_succ m) (Nat.le_refl _) A B x y hx hxy g
  · have ey : rotf f i m (m + 1) y = f m := by
      unfold rotf
      rw [if_pos (by omega)]; congr 1; omega
    have ex : rotf f i m (m + 1) x = f x := by
      unfold rotf
      rw [if_neg (by omega), if_neg (by omega)]
    rw [ex, ey]
    rcases c1 with c | c
    · omega
    · exact le_trans' hS (A.le hS hx (show x ≤ i - 1 by omega) (by omega)) c
end
end Go.Proofs.Ytfhnmmiakknilaa
namespace Go.Proofs.Ytfhnmmiakknilaa
open Go.Sort
set_option maxHeartbeats 400000
section
variable {α : Type} {lt : α → α → Bool} {f f' : Nat → α}
/-- the blocks of size s from lo on, up to hi, are sorted -/
def Blk (lt : α → α → Bool) (s : Nat) (f : Nat → α) (lo hi : Nat) : Prop := ∀ y, s ∣ y → lo ≤ y → y < hi → Asc lt f y (min (y + s) hi)
theorem dvd_step {s y a : Nat} (h1 : s ∣ y) (h2 : s ∣ a) (h : y < a) : y + s ≤ a := by
  obtain ⟨p, rfl⟩ := h1
  obtain ⟨q, rfl⟩ := h2
  have : p < q := Nat.lt_of_mul_lt_mul_left h
  have h3 : s * (p + 1) ≤ s * q := Nat.mul_le_mul_left s this
  rw [Nat.mul_add, Nat.mul_one] at h3
  exact h3
theorem mgd_whole {a b n : Nat} (h : Mgd lt f f' a b) (h1 : a ≤ b) (h2 : b ≤ n) : (sl f' 0 n).Perm (sl f 0 n) := by
  have e : ∀ g : Nat → α, sl g 0 n = sl g 0 (a - 0) ++ (sl g a (b - a) ++ sl g b (n - b)) := fun g => by
    rw [← sl_cut g h1 h2, show n - a = n - a from rfl]
    have := sl_cut g (show 0 ≤ a by omega) (show a ≤ n by omega)
    rw [Nat.sub_zero] at this
    exact this
  have e1 : sl f' 0 (a - 0) = sl f 0 (a - 0) := sl_congr fun x hx => h.out _ (by omega)
  have e2 : sl f' b (n - b) = sl f b (n - b) := sl_congr fun x hx => h.out _ (by omega)
  rw [e f', e f, e1, e2]
  exact List.Perm.append_left _ (List.Perm.append_right _ h.perm)
theorem blk_none (s : Nat) (lo : Nat) : Blk lt s f lo lo := fun y _ h1 h2 => absurd h2 (by omega)
/-- one block more -/
theorem blk_next {s a b : Nat} (hs : s ∣ a) (h : Blk lt s f 0 a) (M : Mgd lt f f' a b) (hb : b ≤ a + s) (hab : a ≤ b) : Blk lt s f' 0 b := fun y h1 _ h3 => by
  rcases Nat.lt_or_ge y a with g | g
  · have h4 := dvd_step h1 hs g
    have := h y h1 (Nat.zero_le _) g
    rw [show min (y + s) a = y + s by omega] at this
    rw [show min (y + s) b = y + s by omega]
    exact this.congr fun x _ h6 => M.out x (by omega)
  · have e : y = a := by
      rcases Nat.eq_or_lt_of_le g with e | e
      · exact e.symm
      · have := dvd_step hs h1 e
        omega
    subst e
    rw [show min (y + s) b = b by omega]
    exact M.asc
/-- two blocks become one -/
theorem blk_two {s a b n : Nat} (hs : 2 * s ∣ a) (h : Blk lt (2 * s) f 0 a) (hr : Blk lt s f a n) (M : Mgd lt f f' a b) (hb : b = a + 2 * s) : Blk lt (2 * s) f' 0 b ∧ Blk lt s f' b n := by
  refine ⟨blk_next hs h M (by omega) (by omega), fun y h1 h2 h3 => ?_⟩
  exact (hr y h1 (by omega) h3).congr fun x h5 h6 => M.out x (by omega)
theorem blk_last {s a n : Nat} (hs : 2 * s ∣ a) (h : Blk lt (2 * s) f 0 a) (M : Mgd lt f f' a n) (hn : n < a + 2 * s) (han : a ≤ n) : Blk lt (2 * s) f' 0 n := blk_next hs h M (by omega) han
theorem blk_rest {s a n : Nat} (hs : 2 * s ∣ a) (h : Blk lt (2 * s) f 0 a) (hr : Blk lt s f a n) (hn : n ≤ a + s) (han : a ≤ n) : Blk lt (2 * s) f 0 n := by
  have A : Asc lt f a n := by
    rcases Nat.eq_or_lt_of_le han with e | e
    · subst e
      exact fun i j h1 h2 h3 => absurd h3 (by omega)
    · have := hr a (Nat.dvd_trans ⟨2, by omega⟩ hs) (Nat.le_refl _) e
      rwa [show min (a + s) n = n by omega] at this
  exact blk_next hs h (Mgd.refl A) (by omega) han
theorem blk_end {s n : Nat} (h : Blk lt s f 0 n) (hn : n ≤ s) : Asc lt f 0 n := by
  rcases Nat.eq_zero_or_pos n with rfl | h0
  · exact fun i j h1 h2 h3 => absurd h3 (by omega)
  · have := h 0 (Nat.dvd_zero s) (Nat.le_refl _) h0
    rwa [show min (0 + s) n = n by omega] at this
/-- the two blocks at a -/
theorem blk_at {s a n : Nat} (h : Blk lt s f a n) (hs : s ∣ a) (h0 : 0 < s) (hb : a + s < n) : Asc lt f a (a + s) ∧ Asc lt f (a + s) (min (a + 2 * s) n) := by
  refine ⟨?_, ?_⟩
  · have := h a hs (Nat.le_refl _) (by omega)
    rwa [show min (a + s) n = a + s by omega] at this
  · have := h (a + s) ((Nat.dvd_add_right hs).2 (Nat.dvd_refl s)) (by omega) hb
    rwa [show a + s + s = a + 2 * s by omega] at this
theorem dvd_two {s a : Nat} (h : 2 * s ∣ a) : s ∣ a ∧ 2 * s ∣ a + 2 * s := ⟨Nat.dvd_trans ⟨2, by omega⟩ h, (Nat.dvd_add_right h).2 (Nat.dvd_refl _)⟩
end
theorem extract_sl {α : Type} [Inhabited α] (d : Array α) {a b : Nat} (h1 : a ≤ b) (h2 : b ≤ d.size) : (d.extract a b).toList = sl (fun x => d[x]!) a (b - a) := by
  unfold sl
  refine List.ext_getElem (by simp; omega) fun i h3 h4 => ?_
  simp only [Array.length_toList, Array.size_extract] at h3
  have : a + i < d.size := by omega
  simp [this]
theorem mgd_of_sorted {α : Type} [Inhabited α] {lt : α → α → Bool} {d d' : Array α} {a b : Nat} (h1 : a ≤ b) (h2 : b ≤ d.size) (P : PermIn a b d d') (S : SortedIn lt a b d') : Mgd lt (fun x => d[x]!) (fun x => d'[x]!) a b := by
  obtain ⟨hs, ho, hp⟩ := P
  refine ⟨fun x hx => ho x (by omega), ?_, S⟩
  rw [← extract_sl d' h1 (by omega), ← extract_sl d h1 h2]
  exact hp
end Go.Proofs.Ytfhnmmiakknilaa
