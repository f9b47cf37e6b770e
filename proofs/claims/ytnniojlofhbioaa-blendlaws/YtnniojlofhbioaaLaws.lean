/-
  What the four statements stand on: what the calls come to; two trees made one, of lists as the statements have them.
-/
import Derived.Test.YtnniojlofhbioaaDocs
import Derived.Test.YtnniojlofhbioaaAwake
import Derived.Test.YtnniojlofhbioaaSame
import Derived.Test.YtnniojlofhbioaaIn
namespace Go.Proofs.Ytnniojlofhbioaa
open Go.RowKit
set_option maxHeartbeats 4000000
set_option maxRecDepth 100000
/-- lists as the statements have them -/
structure Good (L : List Pr) : Prop where
  sorted : srt L
  few : L.length ≤ 200
  tiny : ∀ x ∈ L, x.1.length ≤ 100 ∧ x.2.length ≤ 100
theorem Good.fine {L : List Pr} (h : Good L) : Fine L := ⟨h.sorted, Nat.lt_of_le_of_lt h.few (by decide), fun x hx => by have := h.tiny x hx; omega⟩
theorem Good.fits {L : List Pr} (h : Good L) : Fits L := fun x hx => by have := h.tiny x hx; omega
theorem Good.keys {L : List Pr} (h : Good L) : ∀ q ∈ L, q.1.length ≤ 1000 := fun x hx => by have := h.tiny x hx; omega
theorem Good.part {L : List Pr} (h : Good L) (P : Pr → Bool) : Good (L.filter P) := ⟨h.sorted.filter _, Nat.le_trans (List.length_filter_le _ _) h.few, fun x hx => h.tiny x (mem_part hx)⟩
theorem Good.nil : Good [] := ⟨List.Pairwise.nil, by decide, fun x hx => by cases hx⟩
theorem Good.uni {a b : List Pr} (ha : Good a) (hb : Good b) (h : a.length + b.length ≤ 200) : Good (uni a b) := ⟨srt_uni _ ha.sorted, Nat.le_trans (uni_length b a) h, uni_mem ha.tiny hb.tiny⟩
theorem Good.mns {a : List Pr} (ha : Good a) (b : List Pr) : Good (mns a b) := ha.part _
theorem Good.bth {a : List Pr} (ha : Good a) (b : List Pr) : Good (bth a b) := ha.part _
theorem Good.odd {a b : List Pr} (ha : Good a) (hb : Good b) (h : a.length + b.length ≤ 200) : Good (odd a b) := (ha.mns b).uni (hb.mns a) (by have := mns_length a b; have := mns_length b a; omega)
theorem Good.union {w : World} {a b : List Pr} {pa pb : Option Addr} (ha : Good a) (hb : Good b) (h1 : Is All w a pa) (h2 : Is All w b pb) : Calls Try.prog 11 #[.pointer pa, .pointer pb] w (Tell All (Go.Proofs.Ytnniojlofhbioaa.uni a b) w) := union_is (fut w) h1 h2 ha.fine hb.fine (by have := ha.few; have := hb.few; omega)
theorem Good.minus {w : World} {a b : List Pr} {pa pb : Option Addr} (ha : Good a) (hb : Good b) (h1 : Is All w a pa) (h2 : Is All w b pb) : Calls Try.prog 14 #[.pointer pa, .pointer pb] w (Tell All (Go.Proofs.Ytnniojlofhbioaa.mns a b) w) := minus_is (fut w) h1 h2 ha.fine hb.fine
theorem Good.both {w : World} {a b : List Pr} {pa pb : Option Addr} (ha : Good a) (hb : Good b) (h1 : Is All w a pa) (h2 : Is All w b pb) : Calls Try.prog 15 #[.pointer pa, .pointer pb] w (Tell All (Go.Proofs.Ytnniojlofhbioaa.bth a b) w) := both_is (fut w) h1 h2 ha.fine hb.fine (by have := ha.few; have := hb.few; omega)
theorem Good.odds {w : World} {a b : List Pr} {pa pb : Option Addr} (ha : Good a) (hb : Good b) (h1 : Is All w a pa) (h2 : Is All w b pb) : Calls Try.prog 16 #[.pointer pa, .pointer pb] w (Tell All (Go.Proofs.Ytnniojlofhbioaa.odd a b) w) := odd_is (fut w) h1 h2 ha.fine hb.fine (by have := ha.few; have := hb.few; omega)
theorem Good.subset {w : World} {a b : List Pr} {pa pb : Option Addr} (ha : Good a) (hb : Good b) (h1 : Is All w a pa) (h2 : Is All w b pb) : Calls Try.prog 17 #[.pointer pa, .pointer pb] w (SubP (sub a b) w) := subset_is (fut w) h1 h2 ha.fine hb.fine
theorem Good.list {w : World} {a : List Pr} {pa : Option Addr} (ha : Good a) (h1 : Is All w a pa) : Calls Try.prog 18 #[.pointer pa] w (ListP a w) := list_is h1 (Nat.le_trans ha.few (by decide)) ha.fits
theorem Good.size {w : World} {a : List Pr} {pa : Option Addr} {n : Nat} (ha : Good a) (h1 : Is All w a pa) (hn : n = a.length) : Calls Try.prog 20 #[.pointer pa] w fun e w' => e = .returned (.int .i64 (n : Int)) ∧ w = w' := by
  subst hn
  exact is_size h1 (Nat.le_trans ha.few (by decide))
/-- a tree holds just what the document says -/
theorem Good.is {w : World} {L : List Pr} {p A : Option Addr} {n : Nat} (g : Good L) (c : Nat) (h : Is All w L p) (hr : Rcs w A L) (hn : n = L.length) : Calls Try.prog 10 #[.pointer p, .slice A n c] w (SubP true w) :=
  is_any c h g.sorted (Nat.le_trans g.few (by decide)) g.fits hr hn
theorem Good.same {w : World} {L : List Pr} {A B : Option Addr} {m n : Nat} (g : Good L) (c d : Nat) (h1 : Pcs w A L) (h2 : Pcs w B L) (hm : m = L.length) (hn : n = L.length) : Calls Try.prog 19 #[.slice A m c, .slice B n d] w (SubP true w) := by
  subst hm hn
  have h := same_any h1 h2 c d (Nat.le_trans g.few (by decide))
  rw [decide_eq_true rfl] at h
  exact h
def RefP (L : List Pr) (w : World) (e : Ending) (w' : World) : Prop := ∃ A c n, e = .returned (.slice A n c) ∧ n = L.length ∧ Rcs w' A L ∧ Below w.heap.size w w'
theorem Good.refUnion {w : World} {a b : List Pr} {A B : Option Addr} {m n : Nat} (ha : Good a) (hb : Good b) (c d : Nat) (h1 : Rcs w A a) (h2 : Rcs w B b) (hm : m = a.length) (hn : n = b.length) : Calls Try.prog 12 #[.slice A m c, .slice B n d] w (RefP (Go.Proofs.Ytnniojlofhbioaa.uni a b) w) :=
  refUnion_any c d h1 h2 hm hn (by have := ha.few; have := hb.few; omega) ha.keys hb.keys
theorem Good.refMinus {w : World} {a b : List Pr} {A B : Option Addr} {m n : Nat} (ha : Good a) (hb : Good b) (c d : Nat) (h1 : Rcs w A a) (h2 : Rcs w B b) (hm : m = a.length) (hn : n = b.length) : Calls Try.prog 13 #[.slice A m c, .slice B n d, .bool false] w (RefP (Go.Proofs.Ytnniojlofhbioaa.mns a b) w) := by
  have h := refPart_any c d false h1 h2 hm hn (Nat.le_trans ha.few (by decide)) (Nat.le_trans hb.few (by decide))
  rw [part_false] at h
  exact h
theorem Good.refBoth {w : World} {a b : List Pr} {A B : Option Addr} {m n : Nat} (ha : Good a) (hb : Good b) (c d : Nat) (h1 : Rcs w A a) (h2 : Rcs w B b) (hm : m = a.length) (hn : n = b.length) : Calls Try.prog 13 #[.slice A m c, .slice B n d, .bool true] w (RefP (Go.Proofs.Ytnniojlofhbioaa.bth a b) w) := by
  have h := refPart_any c d true h1 h2 hm hn (Nat.le_trans ha.few (by decide)) (Nat.le_trans hb.few (by decide))
  rw [part_true] at h
  exact h
/-- a tree and a model of the same pairs -/
structure Two (w : World) (M : List Pr) (p A : Option Addr) (n : Nat) : Prop where
  tree : Is All w M p
  rcs : Rcs w A M
  len : n = M.length
  good : Good M
theorem Two.below {w w' : World} {M : List Pr} {p A : Option Addr} {n : Nat} (h : Two w M p A n) (hb : Below w.heap.size w w') : Two w' M p A n := ⟨h.tree.below hb, h.rcs.below hb, h.len, h.good⟩
theorem Two.is {w : World} {M : List Pr} {p A : Option Addr} {n : Nat} (h : Two w M p A n) (c : Nat) : Calls Try.prog 10 #[.pointer p, .slice A n c] w (SubP true w) := h.good.is c h.tree h.rcs h.len
def MadeP (most : Nat) (w : World) (e : Ending) (w' : World) : Prop := ∃ p A c n M, e = .returned (.tuple #[.pointer p, .slice A n c]) ∧ Two w' M p A n ∧ M.length ≤ most ∧ Below w.heap.size w w'
theorem made_two {w : World} {A0 : Option Addr} {L0 : List Opn} {most : Nat} (c0 : Nat) (ha0 : Ocs w A0 L0) (hlen : L0.length ≤ most) (hm : most ≤ 80) (htiny : tinyO L0 = true) : Calls Try.prog 9 #[.slice A0 L0.length c0] w (MadeP most w) := by
  refine (made_any c0 ha0 (Nat.le_trans hlen hm) htiny).mono ?_
  rintro e w' ⟨p, A, c, t, rfl, hat⟩
  obtain ⟨a1, a2, a3⟩ := plays_all hlen htiny L0.length
  rw [List.take_length] at a1 a2 a3
  exact ⟨p, A, c, _, plays L0, rfl, ⟨⟨t, hat.tre, hat.ev, hat.list⟩, hat.rcs, rfl, a1, by omega, a2⟩, a3, hat.bel⟩
theorem Fine60 {L : List Opn} {most : Nat} (h : (decide (L.length ≤ most) && tinyO L) = true) : L.length ≤ most ∧ tinyO L = true := by simpa using h
theorem Good.union_nil {w : World} {a : List Pr} {pa : Option Addr} (ha : Good a) (h1 : Is All w a pa) : Calls Try.prog 11 #[.pointer pa, .pointer none] w (Tell All a w) := ha.union Good.nil h1 (is_nil _ _)
theorem Good.nil_union {w : World} {a : List Pr} {pa : Option Addr} (ha : Good a) (h1 : Is All w a pa) : Calls Try.prog 11 #[.pointer none, .pointer pa] w (Tell All a w) := by
  have h := Good.nil.union ha (is_nil _ w) h1
  rw [nil_uni ha.sorted] at h
  exact h
theorem Good.union_self {w : World} {a : List Pr} {pa : Option Addr} (ha : Good a) (h1 : Is All w a pa) : Calls Try.prog 11 #[.pointer pa, .pointer pa] w (Tell All a w) := by
  have h := ha.union ha h1 h1
  rw [uni_self ha.sorted] at h
  exact h
theorem Good.union_parts {w : World} {a : List Pr} {pm ph : Option Addr} (b : List Pr) (ha : Good a) (h1 : Is All w (Go.Proofs.Ytnniojlofhbioaa.mns a b) pm) (h2 : Is All w (Go.Proofs.Ytnniojlofhbioaa.bth a b) ph) : Calls Try.prog 11 #[.pointer pm, .pointer ph] w (Tell All a w) := by
  have h := (ha.mns b).union (ha.bth b) h1 h2
  rw [uni_parts b ha.sorted] at h
  exact h
theorem Good.both_parts {w : World} {a : List Pr} {pm ph : Option Addr} (b : List Pr) (ha : Good a) (h1 : Is All w (Go.Proofs.Ytnniojlofhbioaa.mns a b) pm) (h2 : Is All w (Go.Proofs.Ytnniojlofhbioaa.bth a b) ph) : Calls Try.prog 15 #[.pointer pm, .pointer ph] w (Tell All [] w) := by
  have h := (ha.mns b).both (ha.bth b) h1 h2
  rw [bth_parts] at h
  exact h
theorem Good.minus_self {w : World} {a : List Pr} {pa : Option Addr} (ha : Good a) (h1 : Is All w a pa) : Calls Try.prog 14 #[.pointer pa, .pointer pa] w (Tell All [] w) := by
  have h := ha.minus ha h1 h1
  rw [mns_self] at h
  exact h
theorem Good.within {w : World} {a b : List Pr} {pa pb : Option Addr} (ha : Good a) (hb : Good b) (h1 : Is All w a pa) (h2 : Is All w b pb) (hs : sub a b = true) : Calls Try.prog 17 #[.pointer pa, .pointer pb] w (SubP true w) := by
  have h := ha.subset hb h1 h2
  rw [hs] at h
  exact h
theorem size_nil {w : World} {p : Option Addr} (h : Is All w [] p) : Calls Try.prog 20 #[.pointer p] w fun e w' => e = .returned (.int .i64 0) ∧ w = w' := Good.nil.size (n := 0) h rfl
end Go.Proofs.Ytnniojlofhbioaa
