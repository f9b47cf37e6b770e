/-
  What the four statements stand on: what the calls come to; the model's list, and what is asked of it.
-/
import Derived.Test.YtkcfanckkomdbaaAwake
import Derived.Test.YtkcfanckkomdbaaIn
import Derived.Lib.SmallJoins
namespace Go.Proofs.Ytkcfanckkomdbaa
open Go.RowKit
set_option maxHeartbeats 4000000
set_option maxRecDepth 100000
/-- a model in memory: a list of pairs of strings -/
structure Mod (w : World) (M : List Pr) (A : Option Addr) (n : Nat) : Prop where
  rcs : Rcs w A M
  len : n = M.length
  few : n ≤ 80
  tiny : ∀ x ∈ M, x.1.length ≤ 100 ∧ x.2.length ≤ 100
theorem Mod.below {w w' : World} {M : List Pr} {A : Option Addr} {n : Nat} (h : Mod w M A n) (hb : Below w.heap.size w w') : Mod w' M A n := ⟨h.rcs.below hb, h.len, h.few, h.tiny⟩
theorem Mod.curs {g k : Nat} {q : Option Addr} {w w' : World} {M : List Pr} {A : Option Addr} {n : Nat} (h : Mod w M A n) (hm : Cur w g q k) (ho : Onl g w w') : Mod w' M A n := ⟨h.rcs.curs hm ho, h.len, h.few, h.tiny⟩
theorem Mod.at {w : World} {M : List Pr} {A ka va : Option Addr} {n x1 x2 : Nat} {z : Int} {o : Option Pr} {is : Bool} (h : Mod w M A n) (c kc vc : Nat) (ho : nth M z = o) (hp : Pt o w ka va x1 x2 is) (z1 : -9223372036854775808 ≤ z) (z2 : z < 9223372036854775808) :
    Calls Try.prog 13 #[.agg #[.slice ka x1 kc, .slice va x2 vc], .bool is, .slice A n c, .int .i64 z] w fun e w' => e = .returned (.bool true) ∧ Below w.heap.size w w' := by
  obtain ⟨rfl, rfl, rfl, k1, k2⟩ := hp
  rw [h.len]
  exact refAt_any c kc vc h.rcs ho.symm k1 k2 z1 z2
theorem Mod.rank {w : World} {M : List Pr} {A : Option Addr} {n : Nat} (h : Mod w M A n) (c : Nat) (key : List UInt8) (hk : key.length ≤ 100) :
    Calls Try.prog 16 #[.slice A n c, .string ⟨key.toArray⟩] w fun e w' => e = .returned (.int .i64 (rank M key : Int)) ∧ Below w.heap.size w w' := by
  have hn := h.few
  have e := h.len
  rw [e]
  exact refRank_any h.rcs c key (by omega) (by omega) (fun q hq => by have := h.tiny q hq; omega)
theorem made_mod {w : World} {A0 : Option Addr} {L0 : List Opn} (c0 : Nat) (ha0 : Ocs w A0 L0) (hlen : L0.length ≤ 80) (htiny : tinyO L0 = true) :
    Calls Try.prog 9 #[.slice A0 L0.length c0] w fun e w' => ∃ p A c n M, e = .returned (.tuple #[.pointer p, .slice A n c]) ∧ M = plays L0 ∧ Wood w' p M ∧ Mod w' M A n ∧ Below w.heap.size w w' := by
  refine (made_any c0 ha0 hlen htiny).mono ?_
  rintro e w' ⟨p, A, c, t, rfl, hat⟩
  obtain ⟨a1, a2, a3⟩ := plays_all hlen htiny L0.length
  rw [List.take_length] at a1 a2 a3
  exact ⟨p, A, c, _, _, rfl, rfl, ⟨⟨t, hat.tre, hat.ev, hat.list⟩, by omega, fun x hx => by have := a2 x hx; omega, a1⟩, ⟨hat.rcs, rfl, a3, a2⟩, hat.bel⟩
end Go.Proofs.Ytkcfanckkomdbaa
