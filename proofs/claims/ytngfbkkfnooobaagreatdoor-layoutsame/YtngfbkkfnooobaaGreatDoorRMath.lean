/-
  Whether a node is right at a level: plainly, and by the way that leads to each hash. No program.
-/
import Derived.Test.YtngfbkkfnooobaaGreatDoorNodes
namespace Go.Proofs.YtngfbkkfnooobaaGreatDoor
set_option maxHeartbeats 400000
/-- the chunk of h at level i -/
def ch (h i : Nat) : Nat := h / 32 ^ i % 32
theorem ch_lt (h i : Nat) : ch h i < 32 := Nat.mod_lt _ (by decide)
/-- all below n -/
def allTo (f : Nat → Bool) : Nat → Bool
  | 0 => true
  | n + 1 => allTo f n && f n
theorem allTo_iff (f : Nat → Bool) : ∀ n, allTo f n = true ↔ ∀ i, i < n → f i = true
  | 0 => ⟨fun _ i hi => absurd hi (Nat.not_lt_zero i), fun _ => rfl⟩
  | n + 1 => by
    rw [allTo, Bool.and_eq_true, allTo_iff f n]
    refine ⟨fun h i hi => ?_, fun h => ⟨fun i hi => h i (by omega), h n (by omega)⟩⟩
    rcases Nat.eq_or_lt_of_le (Nat.lt_succ_iff.1 hi) with rfl | hi
    · exact h.2
    · exact h.1 i hi
theorem allTo_false {f : Nat → Bool} {n i : Nat} (hi : i < n) (h : f i = false) : allTo f n = false := by
  cases e : allTo f n
  · rfl
  · have := (allTo_iff f n).1 e i hi
    rw [h] at this
    cases this
theorem allTo_congr {f g : Nat → Bool} {n : Nat} (h : ∀ i, i < n → f i = g i) : allTo f n = allTo g n := by
  induction n with
  | zero => rfl
  | succ n ih => rw [allTo, allTo, ih (fun i hi => h i (by omega)), h n (by omega)]
theorem allTo_and (f g : Nat → Bool) : ∀ n, allTo (fun i => f i && g i) n = (allTo f n && allTo g n)
  | 0 => rfl
  | n + 1 => by
    rw [allTo, allTo, allTo, allTo_and f g n]
    cases allTo f n <;> cases allTo g n <;> cases f n <;> cases g n <;> rfl
/-- the lists up to n, one behind the other -/
def catTo (f : Nat → List Nat) : Nat → List Nat
  | 0 => []
  | n + 1 => catTo f n ++ f n
theorem all_catTo (f : Nat → List Nat) (P : Nat → Bool) : ∀ n, (catTo f n).all P = allTo (fun i => (f i).all P) n
  | 0 => rfl
  | n + 1 => by rw [catTo, List.all_append, all_catTo f P n]; rfl
theorem catTo_le (f : Nat → List Nat) {j k : Nat} (h : j ≤ k) : (catTo f j).length ≤ (catTo f k).length := by
  induction k with
  | zero => obtain rfl : j = 0 := by omega
            exact Nat.le_refl _
  | succ k ih =>
    rcases Nat.eq_or_lt_of_le h with rfl | h
    · exact Nat.le_refl _
    · rw [catTo, List.length_append]; exact Nat.le_trans (ih (by omega)) (Nat.le_add_right _ _)
/-- the hashes in it -/
def Nd.hashes : Nd → List Nat
  | .bran _ k kid => catTo (fun i => (kid i).hashes) k
  | .leaf h _ => [h]
  | .buck h _ => [h]
  | .none => [0]
/-- no child could stand in the branch's own place -/
def Nd.needed (x : Nd) : Bool := decide (x.num ≠ 1 ∨ (x.kid 0).kind = 3)
/-- right at a level, by the document -/
def Nd.right : Nd → Nat → Bool
  | .bran m k kid, lv => decide (lv ≤ 12) && (decide (k ≠ 1 ∨ (kid 0).kind = 3) && allTo (fun i => (kid i).right (lv + 1) && (kid i).hashes.all fun h => decide ((ch h lv : Int) = (Bt.lst m 32).getD i 0)) k)
  | _, _ => true
/-- a way's numbers, from a level on, lead to a hash -/
def led (fr : Nat) (ns : List Int) (h : Nat) : Bool := allTo (fun i => decide ((ch h (fr + i) : Int) = ns.getD i 0)) ns.length
theorem led_snoc (fr : Nat) (ns : List Int) (c : Int) (h : Nat) : led fr (ns ++ [c]) h = (led fr ns h && decide ((ch h (fr + ns.length) : Int) = c)) := by
  unfold led
  rw [List.length_append, List.length_singleton, allTo]
  have e : (ns ++ [c]).getD ns.length 0 = c := by simp [List.getD_eq_getElem?_getD]
  rw [e]
  congr 1
  refine allTo_congr fun i hi => ?_
  have e2 : (ns ++ [c]).getD i 0 = ns.getD i 0 := by simp [List.getD_eq_getElem?_getD, List.getElem?_append_left hi]
  rw [e2]
/-- right, where a way leads to, by the program -/
def Nd.rway : Nd → Nat → List Int → Bool
  | .bran m k kid, fr, ns => decide (fr + ns.length ≤ 12) && (decide (k ≠ 1 ∨ (kid 0).kind = 3) && allTo (fun i => (kid i).rway fr (ns ++ [(Bt.lst m 32).getD i 0])) k)
  | .leaf h _, fr, ns => led fr ns h
  | .buck h _, fr, ns => led fr ns h
  | .none, _, _ => false
theorem rway_right : ∀ (x : Nd) (fr : Nat) (ns : List Int), x.ok → x ≠ .none → x.rway fr ns = (x.right (fr + ns.length) && x.hashes.all (led fr ns))
  | .none, _, _, _, h => absurd rfl h
  | .leaf h p, fr, ns, _, _ => by simp [Nd.rway, Nd.right, Nd.hashes]
  | .buck h L, fr, ns, _, _ => by simp [Nd.rway, Nd.right, Nd.hashes]
  | .bran m k kid, fr, ns, ho, _ => by
    have key : allTo (fun i => (kid i).rway fr (ns ++ [(Bt.lst m 32).getD i 0])) k = (allTo (fun i => (kid i).right (fr + ns.length + 1) && (kid i).hashes.all fun h => decide ((ch h (fr + ns.length) : Int) = (Bt.lst m 32).getD i 0)) k && (Nd.bran m k kid).hashes.all (led fr ns)) := by
      rw [Nd.hashes, all_catTo, ← allTo_and]
      refine allTo_congr fun i hi => ?_
      rw [rway_right (kid i) fr _ (ho.2.2.2 i hi).2 (ho.2.2.2 i hi).1, List.length_append, List.length_singleton, ← Nat.add_assoc]
      have e : (kid i).hashes.all (led fr (ns ++ [(Bt.lst m 32).getD i 0])) = ((kid i).hashes.all (led fr ns) && (kid i).hashes.all fun h => decide ((ch h (fr + ns.length) : Int) = (Bt.lst m 32).getD i 0)) := by
        induction (kid i).hashes with
        | nil => rfl
        | cons a l ih =>
          rw [List.all_cons, List.all_cons, List.all_cons, ih, led_snoc]
          cases led fr ns a <;> cases l.all (led fr ns) <;> simp
      rw [e]
      cases (kid i).right (fr + ns.length + 1) <;> cases (kid i).hashes.all (led fr ns) <;> simp
    rw [Nd.rway, Nd.right, key]
    cases decide (fr + ns.length ≤ 12) <;> cases decide (k ≠ 1 ∨ (kid 0).kind = 3) <;> simp
/-- at the start of a way -/
theorem rway_start {x : Nd} (lv : Nat) (ho : x.ok) (hx : x ≠ .none) : x.rway lv [] = x.right lv := by
  rw [rway_right x lv [] ho hx]
  have : x.hashes.all (led lv []) = true := by
    rw [List.all_eq_true]
    intro h _
    rfl
  rw [this, Bool.and_true]
  rfl
end Go.Proofs.YtngfbkkfnooobaaGreatDoor
