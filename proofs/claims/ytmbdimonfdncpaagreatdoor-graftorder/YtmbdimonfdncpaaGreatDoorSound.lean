/-
  The contract of Sound: an even tree of sorted pairs is.
-/
import Derived.Test.YtmbdimonfdncpaaGreatDoorGather
import Derived.Test.YtmbdimonfdncpaaGreatDoorWeight
import Derived.Test.YtmbdimonfdncpaaGreatDoorPlain
namespace Go.Proofs.YtmbdimonfdncpaaGreatDoor
open Go.RowKit
set_option maxHeartbeats 4000000
set_option maxRecDepth 100000
theorem turned_same {N : Nat} {args : Array Value} {w : World} {v : Value} (h : Calls Tryz.prog N args w fun e w' => e = .returned v ∧ w = w') : Calls Tryz.prog N args w fun e w' => e = .returned v ∧ w' = w := h.mono fun _ _ h => ⟨h.1, h.2.symm⟩
/-- the node ahead, as Sound's variable at block g has it: its key -/
def Ahead (B g : Nat) (w : World) (k : Option (List UInt8)) : Prop := B ≤ g ∧ ∃ pa, w.heap[g]? = some (.cells #[.pointer pa] 95 (0, 0)) ∧
  ((k = none ∧ pa = none) ∨ ∃ ba ka kc k', k = some k' ∧ pa = some ⟨ba, 0, none⟩ ∧ ba < B ∧ w.cell? ⟨ba, 0, none⟩ = some (.slice ka k'.length kc) ∧ Byt (fun b => b < B) w ka k')
/-- the last key behind a tree -/
def lastOf (k : Option (List UInt8)) (L : List Pr) : Option (List UInt8) := (L.getLast?.map (·.1)).or k
theorem lastOf_nil (k : Option (List UInt8)) : lastOf k [] = k := by simp [lastOf]
theorem lastOf_mid (k : Option (List UInt8)) (l r : List Pr) (q : Pr) : lastOf k (l ++ q :: r) = lastOf (some q.1) r := by
  unfold lastOf
  rw [List.getLast?_append, List.getLast?_cons]
  cases r.getLast? <;> simp
theorem lastOf_lt {k : Option (List UInt8)} {l : List Pr} {x : List UInt8} (h1 : ∀ k', k = some k' → cmp k' x < 0) (h2 : ∀ a ∈ l, cmp a.1 x < 0) : ∀ k', lastOf k l = some k' → cmp k' x < 0 := by
  intro k' h
  unfold lastOf at h
  cases hl : l.getLast? with
  | none => rw [hl] at h; exact h1 k' (by simpa using h)
  | some a =>
    rw [hl] at h
    have : a.1 = k' := by simpa using h
    rw [← this]
    exact h2 a (List.mem_of_getLast? hl)
end Go.Proofs.YtmbdimonfdncpaaGreatDoor
