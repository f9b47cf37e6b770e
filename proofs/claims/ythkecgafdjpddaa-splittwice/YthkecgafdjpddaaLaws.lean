/-
  What the four statements stand on: what the calls come to and how it may be cut; a stretch that comes in.
-/
import Derived.Test.YthkecgafdjpddaaDocs
import Derived.Test.YthkecgafdjpddaaAwake
import Derived.Test.YthkecgafdjpddaaIn
import Derived.Lib.SmallJoins
namespace Go.Proofs.Ythkecgafdjpddaa
open Go.RowKit
set_option maxHeartbeats 4000000
set_option maxRecDepth 100000
/-- lists as the statements have them -/
structure Good (L : List Pr) : Prop where
  sorted : srt L
  few : L.length ≤ 80
  tiny : ∀ x ∈ L, x.1.length ≤ 100 ∧ x.2.length ≤ 100
theorem Good.fine {L : List Pr} (h : Good L) : Fine L := ⟨h.sorted, Nat.lt_of_le_of_lt h.few (by decide), fun x hx => by have := h.tiny x hx; omega⟩
theorem Good.fits {L : List Pr} (h : Good L) : Fits L := fun x hx => by have := h.tiny x hx; omega
theorem Good.keys {L : List Pr} (h : Good L) : ∀ q ∈ L, q.1.length ≤ 1000 := fun x hx => by have := h.tiny x hx; omega
theorem Good.part {L : List Pr} (h : Good L) (P : Pr → Bool) : Good (L.filter P) := ⟨h.sorted.filter _, Nat.le_trans (List.length_filter_le _ _) h.few, fun x hx => h.tiny x (mem_part hx)⟩
abbrev All : Nat → Prop := fun _ => True
theorem fut (w : World) : Fut All w := fun _ _ => trivial
/-- a tree and a model of the same pairs -/
structure Two (w : World) (M : List Pr) (p A : Option Addr) (n : Nat) : Prop where
  tree : Is All w M p
  rcs : Rcs w A M
  len : n = M.length
  good : Good M
theorem Two.below {w w' : World} {M : List Pr} {p A : Option Addr} {n : Nat} (h : Two w M p A n) (hb : Below w.heap.size w w') : Two w' M p A n := ⟨h.tree.below hb, h.rcs.below hb, h.len, h.good⟩
theorem made_two {w : World} {A0 : Option Addr} {L0 : List Opn} (c0 : Nat) (ha0 : Ocs w A0 L0) (hlen : L0.length ≤ 80) (htiny : tinyO L0 = true) :
    Calls Try.prog 9 #[.slice A0 L0.length c0] w fun e w' => ∃ p A c n, e = .returned (.tuple #[.pointer p, .slice A n c]) ∧ Two w' (plays L0) p A n ∧ Below w.heap.size w w' := by
  refine (made_any c0 ha0 hlen htiny).mono ?_
  rintro e w' ⟨p, A, c, t, rfl, hat⟩
  obtain ⟨a1, a2, a3⟩ := plays_all hlen htiny L0.length
  rw [List.take_length] at a1 a2 a3
  exact ⟨p, A, c, _, rfl, ⟨⟨t, hat.tre, hat.ev, hat.list⟩, hat.rcs, rfl, a1, a3, a2⟩, hat.bel⟩
theorem Two.is {w : World} {M : List Pr} {p A : Option Addr} {n : Nat} (h : Two w M p A n) (c : Nat) : Calls Try.prog 12 #[.pointer p, .slice A n c] w fun e w' => e = .returned (.bool true) ∧ Below w.heap.size w w' :=
  is_any c h.tree h.good.sorted (Nat.le_trans h.good.few (by decide)) h.good.fits h.rcs h.len
section
open Go.ChangeShapes Go.WideShapes Go.ChangeAt Go.Deep Go.Joins
variable {H : Type} {enc : TypeId × Value → H} {W : World}
/-- a stretch that came in -/
theorem span_in {base : Nat} {v : Value} {d : DataW H} {ps : List MemPlace} (hv : Value.okWide Try.prog W .any base 38 v) (h : DataW.Trod enc Try.prog W 0 (fun _ => true) true 38 v d ps) :
    ∃ (A B : Option Addr) (fc tc : Nat) (f t : List UInt8) (cl : Bool), v = .agg #[.slice A f.length fc, .slice B t.length tc, .bool cl] ∧ f.length ≤ 9223372036854775807 ∧ t.length ≤ 9223372036854775807 ∧ Spn W A B f t f.length t.length := by
  obtain ⟨u0, u1, u2, y0, y1, y2, n, hv0, _, _, t0, t1, t2⟩ := open_agg3 Try.underlying38 (by kernel_rfl) (by kernel_rfl) hv h
  obtain ⟨A, fc, f, rfl, h1, h2, h3⟩ := bytes_open t0
  obtain ⟨B, tc, t, rfl, g1, g2, g3⟩ := bytes_open t1
  obtain ⟨b, hb, _⟩ := DataW.trod_bool Try.underlying4 t2
  simp only [List.cons.injEq, and_true] at hb
  subst hb
  exact ⟨A, B, fc, tc, f, t, b, hv0, Nat.le_trans h1 h2, Nat.le_trans g1 g2, h3, g3, rfl, rfl⟩
end
end Go.Proofs.Ythkecgafdjpddaa
