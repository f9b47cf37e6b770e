/-
  Plain facts on places in sorted lists: the pair at a place, how many keys lie below a bound. No program is named here.
-/
import Derived.Test.YtkcfanckkomdbaaLists
namespace Go.Proofs.Ytkcfanckkomdbaa
/-- the pair at a place, if there is one -/
def nth (L : List Pr) (z : Int) : Option Pr := if z < 0 then none else L[z.toNat]?
theorem nth_neg (L : List Pr) {z : Int} (h : z < 0) : nth L z = none := by rw [nth, if_pos h]
theorem nth_nil (z : Int) : nth [] z = none := by unfold nth; split <;> simp
theorem nth_nat (L : List Pr) (i : Nat) : nth L (i : Int) = L[i]? := by rw [nth, if_neg (by omega), Int.toNat_natCast]
theorem nth_out {L : List Pr} {z : Int} (h : (L.length : Int) ≤ z) : nth L z = none := by
  rw [nth, if_neg (by omega)]
  exact List.getElem?_eq_none (by omega)
theorem nth_at {L : List Pr} {i : Nat} (h : i < L.length) : nth L (i : Int) = some L[i] := by rw [nth_nat, List.getElem?_eq_getElem h]
theorem nth_here {l r : List Pr} {q : Pr} : nth (l ++ q :: r) (l.length : Int) = some q := by rw [nth_nat]; simp
theorem nth_left {l r : List Pr} {q : Pr} {z : Int} (h : z < (l.length : Int)) : nth (l ++ q :: r) z = nth l z := by
  unfold nth
  split
  · rfl
  · rw [List.getElem?_append_left (by omega)]
theorem nth_right {l r : List Pr} {q : Pr} {z : Int} (h : (l.length : Int) < z) : nth (l ++ q :: r) z = nth r (z - ((l.length : Int) + 1)) := by
  unfold nth
  rw [if_neg (by omega), if_neg (by omega), List.getElem?_append_right (by omega)]
  have e : z.toNat - l.length = (z - ((l.length : Int) + 1)).toNat + 1 := by omega
  rw [e, List.getElem?_cons_succ]
/-- a pair, or nothing -/
def od (o : Option Pr) : Pr := o.getD ([], [])
/-- how many keys lie below a bound -/
def below (P : List UInt8 → Bool) (L : List Pr) : Nat := L.countP fun x => P x.1
/-- what is less than something below the bound is below it -/
def Down (P : List UInt8 → Bool) : Prop := ∀ a b, cmp a b < 0 → P b = true → P a = true
theorem below_le (P : List UInt8 → Bool) (L : List Pr) : below P L ≤ L.length := List.countP_le_length
theorem below_right {P : List UInt8 → Bool} {l r : List Pr} {q : Pr} (hP : Down P) (h : srt (l ++ q :: r)) (hq : P q.1 = true) : below P (l ++ q :: r) = l.length + 1 + below P r := by
  obtain ⟨_, _, h3, _, _⟩ := srt_parts h
  have e : l.countP (fun x => P x.1) = l.length := List.countP_eq_length.2 fun x hx => hP _ _ (h3 x hx) hq
  unfold below
  rw [List.countP_append, e, List.countP_cons_of_pos (by simpa using hq)]
  omega
theorem below_left {P : List UInt8 → Bool} {l r : List Pr} {q : Pr} (hP : Down P) (h : srt (l ++ q :: r)) (hq : P q.1 = false) : below P (l ++ q :: r) = below P l := by
  obtain ⟨_, _, _, h4, _⟩ := srt_parts h
  have e : r.countP (fun x => P x.1) = 0 := List.countP_eq_zero.2 fun x hx k => by
    have := hP _ _ (h4 x hx) k
    rw [hq] at this
    cases this
  unfold below
  rw [List.countP_append, List.countP_cons_of_neg (by simp [hq]), e]
  omega
theorem below_take {P : List UInt8 → Bool} {L : List Pr} {j : Nat} (hP : Down P) (h : srt L) (hj : j < L.length) (hq : P (L[j]).1 = true) : below P (L.take (j + 1)) = j + 1 := by
  have e : (L.take (j + 1)).countP (fun x => P x.1) = (L.take (j + 1)).length := List.countP_eq_length.2 fun x hx => by
    obtain ⟨i, hi, rfl⟩ := List.getElem_of_mem hx
    rw [List.length_take] at hi
    rw [List.getElem_take]
    rcases Nat.lt_or_ge i j with g | g
    · exact hP _ _ (srt_at h (by omega) hj g) hq
    · obtain rfl : i = j := by omega
      exact hq
  unfold below
  rw [e, List.length_take]
  omega
theorem below_skip {P : List UInt8 → Bool} {L : List Pr} {j : Nat} (hj : j < L.length) (hq : P (L[j]).1 = false) : below P (L.take (j + 1)) = below P (L.take j) := by
  unfold below
  rw [List.take_succ_eq_append_getElem hj, List.countP_append]
  simp [hq]
/-- in a sorted list the keys below a bound are the first ones -/
theorem below_iff {P : List UInt8 → Bool} {L : List Pr} (hP : Down P) (h : srt L) {j : Nat} (hj : j < L.length) : P (L[j]).1 = true ↔ j < below P L := by
  have e : L = L.take j ++ L[j] :: L.drop (j + 1) := by rw [List.getElem_cons_drop, List.take_append_drop]
  have hl : (L.take j).length = j := by rw [List.length_take]; omega
  have hs : srt (L.take j ++ L[j] :: L.drop (j + 1)) := by rw [← e]; exact h
  constructor
  · intro hq
    have := below_right hP hs hq
    rw [← e, hl] at this
    omega
  · intro hb
    cases hq : P (L[j]).1 with
    | true => rfl
    | false =>
      have := below_left hP hs hq
      rw [← e] at this
      have := below_le P (L.take j)
      omega
theorem down_lt (k : List UInt8) : Down fun a => decide (cmp a k < 0) := fun _ _ h hb => decide_eq_true (cmp_lt_trans h (of_decide_eq_true hb))
theorem down_le (k : List UInt8) : Down fun a => decide (cmp a k ≤ 0) := fun a b h hb => decide_eq_true (cmp_trans a b k (by omega) (of_decide_eq_true hb))
/-- how many keys are not more -/
def upTo (m : List Pr) (k : List UInt8) : Nat := m.countP fun q => decide (cmp q.1 k ≤ 0)
theorem rank_below (m : List Pr) (k : List UInt8) : rank m k = below (fun a => decide (cmp a k < 0)) m := rfl
theorem upTo_below (m : List Pr) (k : List UInt8) : upTo m k = below (fun a => decide (cmp a k ≤ 0)) m := rfl
theorem rank_le (m : List Pr) (k : List UInt8) : rank m k ≤ m.length := List.countP_le_length
theorem upTo_le (m : List Pr) (k : List UInt8) : upTo m k ≤ m.length := List.countP_le_length
theorem rank_iff {L : List Pr} (h : srt L) (k : List UInt8) {j : Nat} (hj : j < L.length) : cmp (L[j]).1 k < 0 ↔ j < rank L k := by
  rw [rank_below, ← below_iff (down_lt k) h hj, decide_eq_true_eq]
theorem upTo_iff {L : List Pr} (h : srt L) (k : List UInt8) {j : Nat} (hj : j < L.length) : cmp (L[j]).1 k ≤ 0 ↔ j < upTo L k := by
  rw [upTo_below, ← below_iff (down_le k) h hj, decide_eq_true_eq]
/-- the rank of the key at a place is that place -/
theorem rank_at {L : List Pr} (h : srt L) {j : Nat} (hj : j < L.length) : rank L (L[j]).1 = j := by
  refine rank_split L _ j (by omega) (fun i hi g => srt_at h hi hj g) (fun i hi g => ?_)
  rcases Nat.lt_or_ge j i with k | k
  · have := srt_at h hj hi k
    have e := cmp_turn (L[i]).1 (L[j]).1
    omega
  · obtain rfl : i = j := by omega
    rw [cmp_self]
    omega
theorem upTo_at {L : List Pr} (h : srt L) {j : Nat} (hj : j < L.length) : upTo L (L[j]).1 = j + 1 := by
  have h1 : j < upTo L (L[j]).1 := (upTo_iff h _ hj).1 (by rw [cmp_self]; omega)
  have h2 : upTo L (L[j]).1 ≤ j + 1 := by
    rcases Nat.lt_or_ge (j + 1) L.length with k | k
    · rcases Nat.lt_or_ge (j + 1) (upTo L (L[j]).1) with g | g
      · have a := (upTo_iff h (L[j]).1 k).2 g
        have b := srt_at h hj k (by omega)
        have e := cmp_turn (L[j + 1]).1 (L[j]).1
        omega
      · exact g
    · have := upTo_le L (L[j]).1
      omega
  omega
end Go.Proofs.Ytkcfanckkomdbaa
