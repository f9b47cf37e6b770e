/-
  What All and Down hand back: a stretch's two places, and the pairs between them, one by one, each copied anew.
-/
import Derived.Test.YtkcfanckkomdbaaLaws
import Derived.Test.YtkcfanckkomdbaaRange
import Derived.Test.YtkcfanckkomdbaaStretch
namespace Go.Proofs.Ytkcfanckkomdbaa
open Go.RowKit
set_option maxHeartbeats 4000000
set_option maxRecDepth 100000
theorem But.onl {X : Nat → Prop} {g : Nat} {w a b : World} (h : But X w a) (k : Onl g a b) (hg : w.heap.size ≤ g) : But X w b :=
  ⟨k.os.trans h.os, k.tape.trans h.tape, k.output.trans h.output, Nat.le_trans h.size k.size, fun i hi hx => (k.block i (Nat.lt_of_lt_of_le hi h.size) (fun c e => by cases e; show i ≠ g; omega)).trans (h.block i hi hx)⟩
theorem But.more {X : Nat → Prop} {l : Nat} {w a b : World} (h : But X w a) (k : But (fun k => X k ∨ k = l) a b) (hl : w.heap.size ≤ l) : But X w b :=
  ⟨k.os.trans h.os, k.tape.trans h.tape, k.output.trans h.output, Nat.le_trans h.size k.size, fun i hi hx => (k.block i (Nat.lt_of_lt_of_le hi h.size) (fun e => e.elim hx (by omega))).trans (h.block i hi hx)⟩
theorem But.then {X : Nat → Prop} {w a b : World} (h : But X w a) (k : Below a.heap.size a b) : But X w b := h.trans (But.of k)
/-- the two places of a stretch -/
theorem places_any {w : World} {p F T : Option Addr} {M : List Pr} {f t : List UInt8} {x y : Nat} (fc tc : Nat) (cl : Bool) (h : Wood w p M) (hs : Spn w F T f t x y) :
    Calls Try.prog 35 #[.pointer p, .agg #[.slice F x fc, .slice T y tc, .bool cl]] w fun e w' => e = .returned (.tuple #[.int .i64 (rank M f : Int), .int .i64 (upper M t cl : Int)]) ∧ Below w.heap.size w w' := by
  obtain ⟨w1, hw1, hb1, hk1⟩ := box_span w (.slice F x fc) (.slice T y tc) (.bool cl)
  have hr := fun W (hW : Below w1.heap.size w1 W) => ((h.below hb1).below hW).rank fc ((hs.frm.below hb1).below hW) hs.fl
  have ht := fun W (hW : Below w1.heap.size w1 W) => ((h.below hb1).below hW).rank tc ((hs.til.below hb1).below hW) hs.tl
  have hz := fun W (hW : Below w1.heap.size w1 W) => ((h.below hb1).below hW).size
  obtain ⟨u, hu⟩ : ∃ u, u = upper M t cl := ⟨_, rfl⟩
  unfold upper at hu
  rw [show upper M t cl = u by rw [hu]; rfl]
  obtain ⟨a, ha⟩ : ∃ a, a = rank M f := ⟨_, rfl⟩
  obtain ⟨b, hb⟩ : ∃ b, b = rank M t := ⟨_, rfl⟩
  obtain ⟨n, hn⟩ : ∃ n, n = M.length := ⟨_, rfl⟩
  simp only [← ha, ← hb, ← hn] at hr ht hz hu ⊢
  have HR := Lib.hid hr; clear hr
  have HT := Lib.hid ht; clear ht
  have HZ := Lib.hid hz; clear hz
  have K1 := Lib.hid hk1; clear hk1
  have HW := Lib.hid hw1; clear hw1
  have HB := Lib.hid hb1; clear hb1
  clear h hs ha hb hn
  obtain ⟨c0, c1, c2⟩ := K1.out w1 (Below.refl _ _)
  cases cl with
  | false =>
    obtain rfl : u = n := by simpa using hu
    clear hu
    go_enter Try.func35, Try.ntmps35
    go_wp2_with (rw [← HW.out])
    refine (HR.out _ (Below.refl _ _)).mono ?_
    rintro e w2 ⟨rfl, b2⟩
    clear c0 c1 c2
    have B2 := Lib.hid b2
    have Z2 := Lib.hid (HZ.out _ b2)
    obtain ⟨c0, c1, c2⟩ := K1.out w2 b2
    clear b2 HR HT HZ
    go_wp2_with fail
    refine Z2.out.mono ?_
    rintro e w' ⟨rfl, rfl⟩
    go_wp2_with fail
    go_ret2
    exact ⟨rfl, below_then HB.out B2.out⟩
  | true =>
    obtain rfl : u = b := by simpa using hu
    clear hu
    go_enter Try.func35, Try.ntmps35
    go_wp2_with (rw [← HW.out])
    refine (HR.out _ (Below.refl _ _)).mono ?_
    rintro e w2 ⟨rfl, b2⟩
    clear c0 c1 c2
    have B2 := Lib.hid b2
    have Z2 := Lib.hid (HZ.out _ b2)
    have T2 := Lib.hid (HT.out _ b2)
    obtain ⟨c0, c1, c2⟩ := K1.out w2 b2
    clear b2 HR HT HZ
    go_wp2_with fail
    refine Z2.out.mono ?_
    rintro e w' ⟨rfl, rfl⟩
    go_wp2_with fail
    refine T2.out.mono ?_
    rintro e w3 ⟨rfl, b3⟩
    have B3 := Lib.hid b3; clear b3
    go_wp2_with fail
    go_ret2
    exact ⟨rfl, below_then (below_then HB.out B2.out) B3.out⟩
/-- a sequence that was handed back: the boxes of a tree and of two places -/
structure Seqs (w : World) (p : Option Addr) (a b : Nat) (bt bf bto : Nat) : Prop where
  tree : Boxed w bt 26 (.pointer p)
  frm : Boxed w bf 3 (.int .i64 (a : Int))
  til : Boxed w bto 3 (.int .i64 (b : Int))
theorem Seqs.kept {X : Nat → Prop} {w w' : World} {p : Option Addr} {a b bt bf bto : Nat} (h : Seqs w p a b bt bf bto) (k : But X w w') (x1 : ¬ X bt) (x2 : ¬ X bf) (x3 : ¬ X bto) : Seqs w' p a b bt bf bto :=
  ⟨k.box h.tree x1, k.box h.frm x2, k.box h.til x3⟩
theorem all_any {w : World} {p F T : Option Addr} {M : List Pr} {f t : List UInt8} {x y : Nat} (fc tc : Nat) (cl : Bool) (h : Wood w p M) (hs : Spn w F T f t x y) :
    Calls Try.prog 22 #[.pointer p, .agg #[.slice F x fc, .slice T y tc, .bool cl]] w fun e w' => ∃ bt bf bto, e = .returned (.func (.func 36) #[] #[.pointer (some ⟨bt, 0, none⟩), .pointer (some ⟨bf, 0, none⟩), .pointer (some ⟨bto, 0, none⟩)]) ∧
      Seqs w' p (rank M f) (upper M t cl) bt bf bto ∧ w.heap.size ≤ bt ∧ w.heap.size ≤ bf ∧ w.heap.size ≤ bto ∧ Below w.heap.size w w' := by
  obtain ⟨w1, hw1⟩ : ∃ w1, w1 = w.alloc (.cells #[.pointer p] 26) := ⟨_, rfl⟩
  have hb1 : Below w.heap.size w w1 := by rw [hw1]; exact (Below.refl _ _).alloc (Nat.le_refl _) _
  have x1 : Boxed w1 w.heap.size 26 (.pointer p) := by rw [hw1]; exact Boxed.new w 26 _
  obtain ⟨w2, hw2, hb2, hk2⟩ := box_span w1 (.slice F x fc) (.slice T y tc) (.bool cl)
  have x2 : Boxed w2 w.heap.size 26 (.pointer p) := (hb2.block _ x1.lt).trans x1
  have hpl := places_any fc tc cl ((h.below hb1).below hb2) ((hs.below hb1).below hb2)
  obtain ⟨u, hu⟩ : ∃ u, u = upper M t cl := ⟨_, rfl⟩
  obtain ⟨a, ha⟩ : ∃ a, a = rank M f := ⟨_, rfl⟩
  rw [← hu, ← ha] at hpl ⊢
  obtain ⟨c0, c1, c2⟩ := hk2 w2 (Below.refl _ _)
  have d0 := x2.cell
  have HP := Lib.hid hpl; clear hpl
  have HW1 := Lib.hid hw1; clear hw1
  have HW2 := Lib.hid hw2; clear hw2
  have HX := Lib.hid x2; clear x2
  have HB := Lib.hid (below_then hb1 hb2); clear hb1 hb2
  clear h hs hk2 hu ha x1
  go_enter Try.func22, Try.ntmps22
  go_wp2_with (first | rw [← HW1.out] | rw [← HW2.out] | fail)
  refine HP.out.mono ?_
  rintro e w3 ⟨rfl, b3⟩
  have fin : Seqs ((w3.alloc (.cells #[.int .i64 (a : Int)] 3)).alloc (.cells #[.int .i64 (u : Int)] 3)) p a u w.heap.size w3.heap.size (w3.heap.size + 1) ∧ Below w.heap.size w ((w3.alloc (.cells #[.int .i64 (a : Int)] 3)).alloc (.cells #[.int .i64 (u : Int)] 3)) ∧ w.heap.size ≤ w3.heap.size := by
    have y1 : Boxed w3 w.heap.size 26 (.pointer p) := (b3.block _ HX.out.lt).trans HX.out
    have z := Boxed.new (w3.alloc (.cells #[.int .i64 (a : Int)] 3)) 3 (.int .i64 (u : Int))
    rw [World.size_alloc] at z
    exact ⟨⟨(y1.alloc _).alloc _, (Boxed.new w3 3 _).alloc _, z⟩, below_then (below_then HB.out b3) (((Below.refl _ _).alloc (Nat.le_refl _) _).alloc (by simp) _), Nat.le_trans HB.out.size b3.size⟩
  have FIN := Lib.hid fin; clear fin
  clear c0 c1 c2 d0 HX HB b3
  go_wp2_with fail
  go_ret
  obtain ⟨q1, q2, q3⟩ := FIN.out
  exact ⟨_, _, _, rfl, q1, Nat.le_refl _, q3, by omega, q2⟩
theorem down_any {w : World} {p F T : Option Addr} {M : List Pr} {f t : List UInt8} {x y : Nat} (fc tc : Nat) (cl : Bool) (h : Wood w p M) (hs : Spn w F T f t x y) :
    Calls Try.prog 23 #[.pointer p, .agg #[.slice F x fc, .slice T y tc, .bool cl]] w fun e w' => ∃ bt bf bto, e = .returned (.func (.func 37) #[] #[.pointer (some ⟨bt, 0, none⟩), .pointer (some ⟨bto, 0, none⟩), .pointer (some ⟨bf, 0, none⟩)]) ∧
      Seqs w' p (rank M f) (upper M t cl) bt bf bto ∧ w.heap.size ≤ bt ∧ w.heap.size ≤ bf ∧ w.heap.size ≤ bto ∧ Below w.heap.size w w' := by
  obtain ⟨w1, hw1⟩ : ∃ w1, w1 = w.alloc (.cells #[.pointer p] 26) := ⟨_, rfl⟩
  have hb1 : Below w.heap.size w w1 := by rw [hw1]; exact (Below.refl _ _).alloc (Nat.le_refl _) _
  have x1 : Boxed w1 w.heap.size 26 (.pointer p) := by rw [hw1]; exact Boxed.new w 26 _
  obtain ⟨w2, hw2, hb2, hk2⟩ := box_span w1 (.slice F x fc) (.slice T y tc) (.bool cl)
  have x2 : Boxed w2 w.heap.size 26 (.pointer p) := (hb2.block _ x1.lt).trans x1
  have hpl := places_any fc tc cl ((h.below hb1).below hb2) ((hs.below hb1).below hb2)
  obtain ⟨u, hu⟩ : ∃ u, u = upper M t cl := ⟨_, rfl⟩
  obtain ⟨a, ha⟩ : ∃ a, a = rank M f := ⟨_, rfl⟩
  rw [← hu, ← ha] at hpl ⊢
  obtain ⟨c0, c1, c2⟩ := hk2 w2 (Below.refl _ _)
  have d0 := x2.cell
  have HP := Lib.hid hpl; clear hpl
  have HW1 := Lib.hid hw1; clear hw1
  have HW2 := Lib.hid hw2; clear hw2
  have HX := Lib.hid x2; clear x2
  have HB := Lib.hid (below_then hb1 hb2); clear hb1 hb2
  clear h hs hk2 hu ha x1
  go_enter Try.func23, Try.ntmps23
  go_wp2_with (first | rw [← HW1.out] | rw [← HW2.out] | fail)
  refine HP.out.mono ?_
  rintro e w3 ⟨rfl, b3⟩
  have fin : Seqs ((w3.alloc (.cells #[.int .i64 (a : Int)] 3)).alloc (.cells #[.int .i64 (u : Int)] 3)) p a u w.heap.size w3.heap.size (w3.heap.size + 1) ∧ Below w.heap.size w ((w3.alloc (.cells #[.int .i64 (a : Int)] 3)).alloc (.cells #[.int .i64 (u : Int)] 3)) ∧ w.heap.size ≤ w3.heap.size := by
    have y1 : Boxed w3 w.heap.size 26 (.pointer p) := (b3.block _ HX.out.lt).trans HX.out
    have z := Boxed.new (w3.alloc (.cells #[.int .i64 (a : Int)] 3)) 3 (.int .i64 (u : Int))
    rw [World.size_alloc] at z
    exact ⟨⟨(y1.alloc _).alloc _, (Boxed.new w3 3 _).alloc _, z⟩, below_then (below_then HB.out b3) (((Below.refl _ _).alloc (Nat.le_refl _) _).alloc (by simp) _), Nat.le_trans HB.out.size b3.size⟩
  have FIN := Lib.hid fin; clear fin
  clear c0 c1 c2 d0 HX HB b3
  go_wp2_with fail
  go_ret
  obtain ⟨q1, q2, q3⟩ := FIN.out
  exact ⟨_, _, _, rfl, q1, Nat.le_refl _, q3, by omega, q2⟩
section
open Go.ChangeShapes Go.WideShapes Go.ChangeAt Go.Deep Go.Joins
variable {H : Type} {enc : TypeId × Value → H} {W : World}
/-- a stretch that came in -/
theorem span_in {base : Nat} {v : Value} {d : DataW H} {ps : List MemPlace} (hv : Value.okWide Try.prog W .any base 48 v) (h : DataW.Trod enc Try.prog W 0 (fun _ => true) true 48 v d ps) :
    ∃ (A B : Option Addr) (fc tc : Nat) (f t : List UInt8) (cl : Bool), v = .agg #[.slice A f.length fc, .slice B t.length tc, .bool cl] ∧ f.length ≤ 9223372036854775807 ∧ t.length ≤ 9223372036854775807 ∧ Spn W A B f t f.length t.length := by
  obtain ⟨u0, u1, u2, y0, y1, y2, n, hv0, _, _, t0, t1, t2⟩ := open_agg3 Try.underlying48 (by kernel_rfl) (by kernel_rfl) hv h
  obtain ⟨A, fc, f, rfl, h1, h2, h3⟩ := bytes_open t0
  obtain ⟨B, tc, t, rfl, g1, g2, g3⟩ := bytes_open t1
  obtain ⟨b, hb, _⟩ := DataW.trod_bool Try.underlying4 t2
  simp only [List.cons.injEq, and_true] at hb
  subst hb
  exact ⟨A, B, fc, tc, f, t, b, hv0, Nat.le_trans h1 h2, Nat.le_trans g1 g2, h3, g3, rfl, rfl⟩
end
end Go.Proofs.Ytkcfanckkomdbaa
