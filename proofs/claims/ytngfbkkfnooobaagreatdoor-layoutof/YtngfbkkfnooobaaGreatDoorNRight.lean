/-
  Contract of node.right: the walk down a node, with the way that was come.
-/
import Derived.Test.YtngfbkkfnooobaaGreatDoorThru
import Derived.Test.YtngfbkkfnooobaaGreatDoorHandz
import Derived.Test.YtngfbkkfnooobaaGreatDoorPartz
namespace Go.Proofs.YtngfbkkfnooobaaGreatDoor
open Go.RowKit Go.Shelf
set_option maxHeartbeats 4000000
set_option maxRecDepth 100000
attribute [local go_sem] Oper.semAt_some
attribute [local irreducible] Bt.lst
/-- what a call with a way leaves: an answer, and the way's row as it was -/
def RPost (B : Nat) (va : Value) (n : Nat) (ns : List Int) (r : Bool) (w : World) (e : Ending) (w' : World) : Prop :=
  e = .returned (.bool r) ∧ But (fun k => va.ownBlock = some k) w w' ∧ w'.ownsRow B 3 1 va n (Bt.icells ns)
theorem own_pre {W V : World} {B n : Nat} {va v' : Value} {xs ys : List Value} (h1 : W.ownsRow B 3 1 va n xs) (h2 : W.ownsRow B 3 1 v' (n + 1) ys) (h3 : V.ownsRow B 3 1 v' (n + 1) ys) (ho : v'.ownBlock = va.ownBlock) (hy : ys.take n = xs) : V.ownsRow B 3 1 va n xs := by
  refine ⟨h1.1, ?_⟩
  rcases h1.2 with h | ⟨g, cap, cur, rfl, hb, hg, hc, hm, hs, ht⟩
  · exact .inl h
  · rcases h2.2 with ⟨rfl, _⟩ | ⟨g2, cap2, cur2, rfl, _, hg2, _, _, hs2, _⟩
    · simp [Value.ownBlock] at ho
    · have e : g2 = g := by simpa [Value.ownBlock] using ho
      subst e
      rw [hg] at hg2
      injection hg2 with hg2
      injection hg2 with hg2
      subst hg2
      rcases h3.2 with ⟨e, _⟩ | ⟨g3, cap3, cur3, e, _, hg3, _, hm3, hs3, ht3⟩
      · cases e
      · injection e with e1 e2 e3
        injection e1 with e1
        injection e1 with e1
        subst e1
        subst e3
        refine .inr ⟨g2, cap, cur3, rfl, hb, hg3, hc, hm, by omega, ?_⟩
        have := congrArg (List.take n) ht3
        rw [List.take_take] at this
        rw [show n * 1 = min n ((n + 1) * 1) by omega, this, hy]
theorem icells_take (ns : List Int) (c : Int) (n : Nat) (hn : n = ns.length) : (Bt.icells (ns ++ [c])).take n = Bt.icells ns := by
  subst hn
  rw [Bt.icells_snoc]
  have : ns.length = (Bt.icells ns).length := by simp [Bt.icells]
  rw [this, List.take_left]
theorem nde_but {F X : Nat → Prop} {B : Nat} {w w' : World} {x : Nd} {v : Value} (h : Nde F w x v) (hF : ∀ q, F q → q < B) (k : But X w w') (hX : ∀ q, X q → B ≤ q) : Nde F w' x v :=
  h.kept (k.kept fun q hq hx => by have := hF q hq; have := hX q hx; omega)
theorem branch_right {F : Nat → Prop} {B b k m fr n : Nat} {w : World} {va : Value} {kid : Nat → Nd} {ns : List Int} (hN : Nde F w (.bran m k kid) (.iface 114 (.pointer (some ⟨b, 0, none⟩)))) (ho : (Nd.bran m k kid).ok) (hF : ∀ q, F q → q < B) (hB1 : 0 < B) (hB : B ≤ w.heap.size) (hT : Tab w)
    (hown : w.ownsRow B 3 1 va n (Bt.icells ns)) (hn : n = ns.length) (hl : fr + n ≤ 13)
    (ih : ∀ i, i < k → ∀ (W : World) (v va : Value) (n : Nat) (ns : List Int), Nde F W (kid i) v → B ≤ W.heap.size → Tab W → W.ownsRow B 3 1 va n (Bt.icells ns) → n = ns.length → fr + n ≤ 13 →
      Calls Tryz.prog 31 #[v, .agg #[.int .i64 (fr : Int), va]] W (RPost B va n ns ((kid i).rway fr ns) W)) :
    Calls Tryz.prog 57 #[.pointer (some ⟨b, 0, none⟩), .agg #[.int .i64 (fr : Int), va]] w (RPost B va n ns ((Nd.bran m k kid).rway fr ns) w) := by
  have hN0 := hN
  obtain ⟨b', g0, c0, e0, hFb, hr, hFg, hg0, hkid⟩ := hN
  obtain rfl : b = b' := by injection e0 with _ e0; injection e0 with e0; injection e0 with e0; injection e0
  have hm32 := ho.1
  have hk0 := ho.2.1
  have hkl := ho.2.2.1
  obtain ⟨_, A, cp, rfl, _, _⟩ := row_reads1 hown
  obtain ⟨w1, hw1⟩ : ∃ w1, w1 = ((w.alloc (.cells #[.pointer (some ⟨b, 0, none⟩)] 114)).alloc (.cells #[.int .i64 (fr : Int), .slice A n cp] 87)).alloc (.cells #[.bool false] 4) := ⟨_, rfl⟩
  have hb1 : Below w.heap.size w w1 := by rw [hw1]; exact (((Below.refl _ _).alloc (Nat.le_refl _) _).alloc (by simp) _).alloc (by simp; omega) _
  have z1 : w1.heap.size = w.heap.size + 3 := by rw [hw1]; simp
  have r0 : w1.heap[w.heap.size]? = some (.cells #[.pointer (some ⟨b, 0, none⟩)] 114 (0, 0)) := by
    rw [hw1, Below.heap_alloc _ _ _ (by simp; omega), heap_alloc2_old]
  have r1 : w1.heap[w.heap.size + 1]? = some (.cells #[.int .i64 (fr : Int), .slice A n cp] 87 (0, 0)) := by
    rw [hw1, Below.heap_alloc _ _ _ (by simp)]; exact heap_alloc2_new w _ _
  have r2 : w1.heap[w.heap.size + 1 + 1]? = some (.cells #[.bool false] 4 (0, 0)) := by
    have := heap_alloc_new ((w.alloc (.cells #[.pointer (some ⟨b, 0, none⟩)] 114)).alloc (.cells #[.int .i64 (fr : Int), .slice A n cp] 87)) (.cells #[.bool false] 4)
    rw [World.size_alloc, World.size_alloc] at this
    rw [hw1]; exact this
  have hlev := level_any fr n cp A w1 (by omega)
  have hbw : b < w.heap.size := (Array.getElem?_eq_some_iff.1 hr).1
  have KC : Hid (∀ W, Below w1.heap.size w1 W → (W.cell? ⟨w.heap.size, 0, none⟩ = some (.pointer (some ⟨b, 0, none⟩)) ∧ W.cell? ⟨w.heap.size + 1, 0, none⟩ = some (.int .i64 (fr : Int)) ∧ W.cell? ⟨w.heap.size + 1, 1, none⟩ = some (.slice A n cp) ∧ W.cell? ⟨w.heap.size + 1 + 1, 0, none⟩ = some (.bool false) ∧ W.frozen? ⟨w.heap.size + 1 + 1, 0, none⟩ = false) ∧ W.cell? ⟨b, 0, none⟩ = some (.int .u32 (m : Int))) := fun W hW => by
    have q0 := (hW.block w.heap.size (by omega)).trans r0
    have q1 := (hW.block (w.heap.size + 1) (by omega)).trans r1
    have q2 := (hW.block (w.heap.size + 1 + 1) (by omega)).trans r2
    have q3 := (hW.block b (by omega)).trans ((hb1.block b hbw).trans hr)
    exact ⟨⟨row_cell q0 rfl, (row2 q1).1, (row2 q1).2.1, row_cell q2 rfl, by simp [World.frozen?, q2]⟩, row_cell q3 rfl⟩
  have hneed := fun W (hW : Below w1.heap.size w1 W) => by
    have hb0 : Below w.heap.size w W := below_then hb1 hW
    exact needed_any (F := F) ((hb0.block b hbw).trans hr) (fun i hi => by
      obtain ⟨vi, h1, h2⟩ := hkid i hi
      exact ⟨vi, (hb0.cell (p := ⟨g0, i, none⟩) hg0).trans h1, h2.below hb0⟩) hk0 (ho.2.2.2 0 hk0).1
  have hrw : (Nd.bran m k kid).rway fr ns = (decide (fr + n ≤ 12) && (decide (k ≠ 1 ∨ (kid 0).kind = 3) && allTo (fun i => (kid i).rway fr (ns ++ [(Bt.lst m 32).getD i 0])) k)) := by rw [Nd.rway, hn]
  obtain ⟨xs, hxs⟩ : ∃ xs, xs = Bt.icells ns := ⟨_, rfl⟩
  have HR : Hid (w1.ownsRow B 3 1 (.slice A n cp) n (Bt.icells ns)) := own_below hown hb1
  obtain ⟨nd, hnd⟩ : ∃ t, t = decide (k ≠ 1 ∨ (kid 0).kind = 3) := ⟨_, rfl⟩
  rw [← hnd] at hrw hneed
  have HRW := Lib.hid hrw; clear hrw
  have HN := Lib.hid hneed; clear hneed
  have HL := Lib.hid hlev; clear hlev
  have HW := Lib.hid hw1; clear hw1
  have HB := Lib.hid hb1; clear hb1
  have HOW := Lib.hid hown
  have HOK := Lib.hid ho
  have HNN := Lib.hid hn
  clear hn
  have fin : ∀ (W : World), Below w1.heap.size w1 W → But (fun q => Value.ownBlock (.slice A n cp) = some q) w (W.setCell ⟨w.heap.size + 1 + 1, 0, none⟩ (.bool false)) ∧ (W.setCell ⟨w.heap.size + 1 + 1, 0, none⟩ (.bool false)).ownsRow B 3 1 (.slice A n cp) n (Bt.icells ns) := fun W hW => by
    have h1 : Below w.heap.size w (W.setCell ⟨w.heap.size + 1 + 1, 0, none⟩ (.bool false)) := (below_then HB.out hW).setCell (p := ⟨w.heap.size + 1 + 1, 0, none⟩) (by show w.heap.size ≤ w.heap.size + 1 + 1; omega) _
    exact ⟨But.of h1, own_below HOW.out h1⟩
  have FIN := Lib.hid fin; clear fin
  by_cases hl12 : fr + n ≤ 12
  · have t1 : ¬ (13 : Int) ≤ ((fr + n : Nat) : Int) := by omega
    cases nd with
    | false =>
      have HX : Hid ((Nd.bran m k kid).rway fr ns = false) := by show _ = _; rw [HRW.out]; simp
      clear hnd r0 r1 r2 z1 hr hown hkid hN0 ho ih
      go_enter Tryz.func57, Tryz.ntmps57
      go_wp2_with fail
      rw [← HW.out]
      refine HL.out.mono ?_
      rintro e w2 ⟨rfl, hb2⟩
      obtain ⟨⟨d0, d1, d2, d3, d4⟩, d5⟩ := KC.out w2 hb2
      have J := Lib.hid (HN.out w2 hb2)
      have HF := Lib.hid (FIN.out w2 hb2)
      clear hb2
      go_wp2_with fail
      refine J.out.mono ?_
      rintro e w3 ⟨rfl, rfl⟩
      have k2 : (w2.setCell ⟨w.heap.size + 1 + 1, 0, none⟩ (.bool false)).cell? ⟨w.heap.size + 1 + 1, 0, none⟩ = some (.bool false) := World.cell?_setCell_same' _ _ _ (by rw [d3]; rfl)
      go_wp2_with fail
      refine bodyPost_ret (v := .bool false) (by simp [results, Tryz.f57, go_sem, k2]) rfl ?_
      rw [HX.out]
      exact ⟨rfl, HF.out.1, HF.out.2⟩
    | true =>
      have HX : Hid ((Nd.bran m k kid).rway fr ns = allTo (fun i => (kid i).rway fr (ns ++ [(Bt.lst m 32).getD i 0])) k) := by
        show _ = _
        rw [HRW.out, decide_eq_true hl12, Bool.true_and, Bool.true_and]
      have HZ := Lib.hid z1
      have HRR := Lib.hid (And.intro r0 (And.intro r1 r2))
      have HIH := Lib.hid ih
      have HNB := Lib.hid hN0
      clear hnd r0 r1 r2 z1 hr hown hkid hN0 ho ih
      refine (callsIn_wide (n := 3)).1 ?_
      refine callsIn_of_wp_marks Tryz.func57 rfl trivial ?_ rfl
      simp only [Tryz.ntmps57, List.size_toArray, List.length_cons, List.length_nil, Nat.reduceAdd, Nat.reduceSub, Array.replicate_succ, Array.replicate_zero, List.push_toArray, List.append_toArray, List.nil_append, List.cons_append]
      refine wpIn_wide.2 ?_
      go_wp2_with fail
      rw [← HW.out]
      refine HL.out.mono ?_
      rintro e w2 ⟨rfl, hb2⟩
      obtain ⟨⟨d0, d1, d2, d3, d4⟩, d5⟩ := KC.out w2 hb2
      have J := Lib.hid (HN.out w2 hb2)
      have HB2 := Lib.hid hb2
      clear hb2
      go_wp2_with fail
      refine J.out.mono ?_
      rintro e w3 ⟨rfl, rfl⟩
      have HALL := Lib.hid (fun W => all_any m W)
      go_wp2_with fail
      refine (HALL.out _).mono ?_
      rintro e w4 ⟨rfl, hw4⟩
      have b4 : Below w2.heap.size w2 w4 := by rw [← hw4]; exact (Below.refl _ _).alloc (Nat.le_refl _) _
      have z4 : w4.heap.size = w2.heap.size + 1 := by rw [← hw4]; simp
      have r4 : w4.heap[w2.heap.size]? = some (.cells #[.int .u32 (m : Int)] 54 (0, 0)) := by rw [← hw4]; exact heap_alloc_new w2 _
      have hef := fun lb : Array Value => (by kernel_rfl : Sem.run Tryz.prog (binOp BinOp.eql 140 (Value.func (Fn.func 85) #[] lb) Value.nilFunc) w4 = .ok (.bool false) w4)
      clear hw4
      have b14 : Below w1.heap.size w1 w4 := below_then HB2.out b4
      have b04 : Below w.heap.size w w4 := below_then HB.out b14
      obtain ⟨X, hX⟩ : ∃ X : Nat → Prop, X = fun q => Value.ownBlock (.slice A n cp) = some q ∨ q = w.heap.size + 1 + 1 := ⟨_, rfl⟩
      have hXB : ∀ q, X q → B ≤ q := by
        subst hX
        rintro q (h | rfl)
        · exact (own_lt HOW.out h).1
        · omega
      have hX4 : ∀ q, X q → q < w4.heap.size := by
        have h1 := b14.size
        have h2 := HZ.out
        subst hX
        rintro q (h | rfl)
        · have := (own_lt HOW.out h).2.1
          have := b04.size
          omega
        · omega
      have hX0 : ∀ q, ¬ (X q ∧ (q = w2.heap.size ∨ q = 0 ∨ q = w.heap.size ∨ q = w.heap.size + 1)) := by
        have h1 := b14.size
        have h2 := HZ.out
        have h3 := HB2.out.size
        rintro q ⟨hq, e⟩
        have hqB := hXB q hq
        rw [hX] at hq
        rcases hq with h | rfl
        · have h5 := (own_lt HOW.out h).2.1
          omega
        · omega
      have HXX := Lib.hid hX; clear hX
      have hT4 : Tab w4 := hT.below b04
      have hseq : Hands 2 Tryz.prog 85 #[.pointer (some ⟨w2.heap.size, 0, none⟩)] X (fun j vs W => But X w4 W ∧ j < (Bt.lst m 32).length ∧ vs = #[.int .i64 ((Bt.lst m 32).getD j 0)]) (fun j => j = (Bt.lst m 32).length) w4 :=
        bits_hands (by omega) hm32 (row_cell r4 rfl) (by omega) hT4 (fun h => hX0 0 ⟨h, .inr (.inl rfl)⟩)
      obtain ⟨I, hI⟩ : ∃ I : Nat → World → Prop, I = fun (j : Nat) W => But X w4 W ∧ Boxed W (w.heap.size + 1 + 1) 4 (.bool false) ∧ W.ownsRow B 3 1 (.slice A n cp) n (Bt.icells ns) ∧ allTo (fun i => (kid i).rway fr (ns ++ [(Bt.lst m 32).getD i 0])) j = true := ⟨_, rfl⟩
      obtain ⟨Ix, hIx⟩ : ∃ Ix : Code → Nat → World → Prop, Ix = fun (c : Code) (_ : Nat) W => c = Code.ret ∧ But X w4 W ∧ Boxed W (w.heap.size + 1 + 1) 4 (.bool false) ∧ W.ownsRow B 3 1 (.slice A n cp) n (Bt.icells ns) ∧ (Nd.bran m k kid).rway fr ns = false := ⟨_, rfl⟩
      have z2 : w.heap.size + 1 + 1 < w4.heap.size := by have := b14.size; have := HZ.out; omega
      have sO : ∀ V W, V.ownsRow B 3 1 (.slice A n cp) n (Bt.icells ns) → Below w4.heap.size V W → W.ownsRow B 3 1 (.slice A n cp) n (Bt.icells ns) := fun V W h k => own_kept h fun q hq => k.block q (by
        have := (own_lt HOW.out hq).2.1
        have := b04.size
        omega)
      have sI : ∀ j V W, I j V → Below w4.heap.size V W → I j W := by
        subst hI
        exact fun j V W h k => ⟨⟨k.os.trans h.1.os, k.tape.trans h.1.tape, k.output.trans h.1.output, Nat.le_trans h.1.size k.size, fun i hi hx => (k.block i hi).trans (h.1.block i hi hx)⟩, (k.block _ z2).trans h.2.1, sO V W h.2.2.1 k, h.2.2.2⟩
      have I0 : I 0 w4 := by
        subst hI
        exact ⟨But.refl _ _, (b14.block _ (by have := HZ.out; omega)).trans HRR.out.2.2, own_below HOW.out b04, rfl⟩
      have last : ∀ (V : World) (d : Nat) (o : Obj), But X w4 V → V.ownsRow B 3 1 (.slice A n cp) n (Bt.icells ns) → w4.heap.size ≤ d → But (fun q => Value.ownBlock (.slice A n cp) = some q) w (V.putObj d o) ∧ (V.putObj d o).ownsRow B 3 1 (.slice A n cp) n (Bt.icells ns) := fun V d o h1 h2 h3 => by
        have p := But.put V d o
        refine ⟨⟨p.os.trans (h1.os.trans b04.os), p.tape.trans (h1.tape.trans b04.tape), p.output.trans (h1.output.trans b04.output), Nat.le_trans b04.size (Nat.le_trans h1.size p.size), fun i hi hx => ?_⟩, own_kept h2 fun q hq => p.block q ?_ ?_⟩
        · have e1 := b04.size
          have e2 := h1.size
          refine (p.block i (by omega) (by omega)).trans ((h1.block i (by omega) fun h => ?_).trans (b04.block i hi))
          rw [HXX.out] at h
          rcases h with h | h
          · exact hx h
          · omega
        · exact (own_lt h2 hq).2.1
        · have := (own_lt HOW.out hq).2.1
          have := b04.size
          omega
      have LAST := Lib.hid last; clear last
      clear d0 d1 d2 d3 d4 d5 HALL J hT
      go_wp2_with fail
      clear hef
      refine (wpIn_wide (n := 3)).1 ?_
      refine wp_range (n := 3) (gf := 85) (lb := #[.pointer (some ⟨w2.heap.size, 0, none⟩)]) rfl (enters_of Tryz.func85 (by kernel_rfl) rfl) I Ix hseq sI ?stab hX4 I0 ?round ?done ?stop
      case stab =>
        subst hIx
        exact fun c j V W h k => ⟨h.1, ⟨k.os.trans h.2.1.os, k.tape.trans h.2.1.tape, k.output.trans h.2.1.output, Nat.le_trans h.2.1.size k.size, fun i hi hx => (k.block i hi).trans (h.2.1.block i hi hx)⟩, (k.block _ z2).trans h.2.2.1, sO V W h.2.2.2.1 k, h.2.2.2.2⟩
      case round =>
        clear hseq I0
        rintro l j vs W hl hi ⟨hkw, hj, rfl⟩
        have hjk : j < k := by omega
        obtain ⟨c, hc⟩ : ∃ c, c = (Bt.lst m 32).getD j 0 := ⟨_, rfl⟩
        rw [← hc]
        have HCC := Lib.hid hc; clear hc
        refine ⟨rfl, fun K hK => ?_⟩
        have HK := Lib.hid hK; clear hK
        have HI := Lib.hid hi; clear hi
        have HKW := Lib.hid hkw; clear hkw
        clear t1
        gi_wp2_with fail
        refine HK.out _ _ (But.refl _ _) ?_
        rintro W2 hk2 ⟨r, hr⟩
        have hW2 : Below w4.heap.size W W2 := hk2.below (by have := HKW.out.size; omega) (fun q e => by omega)
        have hI2 := sI j W W2 HI.out hW2
        rw [hI] at hI2
        obtain ⟨h1, h2, h3, h4⟩ := hI2
        have KX : Hid (∀ V, But X W2 V → (V.cell? ⟨w.heap.size, 0, none⟩ = some (.pointer (some ⟨b, 0, none⟩)) ∧ V.cell? ⟨w.heap.size + 1, 0, none⟩ = some (.int .i64 (fr : Int)) ∧ V.cell? ⟨w.heap.size + 1, 1, none⟩ = some (.slice A n cp)) ∧ Nde F V (.bran m k kid) (.iface 114 (.pointer (some ⟨b, 0, none⟩))) ∧ Tab V ∧ B ≤ V.heap.size) := fun V hV => by
          have hk4 : But X w4 V := h1.trans hV
          have e1 := b14.size
          have e2 := HZ.out
          have q0 := (hk4.block w.heap.size (by omega) (fun h => hX0 _ ⟨h, .inr (.inr (.inl rfl))⟩)).trans ((b14.block _ (by omega)).trans HRR.out.1)
          have q1 := (hk4.block (w.heap.size + 1) (by omega) (fun h => hX0 _ ⟨h, .inr (.inr (.inr rfl))⟩)).trans ((b14.block _ (by omega)).trans HRR.out.2.1)
          exact ⟨⟨row_cell q0 rfl, (row2 q1).1, (row2 q1).2.1⟩, nde_but (HNB.out.below b04) hF hk4 hXB, hT4.but hk4 (fun h => hX0 0 ⟨h, .inr (.inl rfl)⟩), by have := hk4.size; omega⟩
        obtain ⟨⟨d0, d1, d2⟩, f1, f2, f3⟩ := KX.out W2 (But.refl _ _)
        have J1 := Lib.hid (kid_any c f1 HOK.out)
        have HM : c ∈ (Nd.bran m k kid).set ∧ Bt.less (Nd.bran m k kid).set c = j := by
          have hjl : j < (Bt.lst m 32).length := hj
          have e : c = (Bt.lst m 32)[j] := by rw [HCC.out, List.getD_eq_getElem?_getD, List.getElem?_eq_getElem hjl]; rfl
          rw [e]
          exact ⟨List.getElem_mem hjl, Bt.less_get m 32 j hjl⟩
        have HMM := Lib.hid HM; clear HM
        have HX4 := Lib.hid (And.intro hXB (And.intro hX4 hX0)); clear hXB hX4 hX0
        have HT4 := Lib.hid (And.intro hT4 (And.intro sI sO)); clear hT4 sI sO
        have H2 := Lib.hid (And.intro h2 (And.intro h3 h4)); clear h2 h3 h4
        have H1 := Lib.hid h1; clear h1
        clear hk2 hr HI HK HKW hW2 f1 f2 f3
        have HQ := Lib.hid (And.intro hI hIx); clear hI hIx
        gi_wp2_with fail
        refine ⟨trivial, (CallsIn.inRound l (callsIn_wide.2 J1.out)).mono ?_⟩
        rintro e W3 ⟨⟨vk, rfl, hvk⟩, nq, rfl⟩
        have hvk2 : Nde F (W2.drewN nq) (kid j) vk := by
          rw [if_pos HMM.out.1, HMM.out.2] at hvk
          exact hvk.kept (kept_drew F W2 nq)
        clear hvk
        have b23 : Below W2.heap.size W2 (W2.drewN nq) := below_drewN (Below.refl _ _) nq
        obtain ⟨⟨g0, g1, g2⟩, f1, f2, f3⟩ := KX.out _ (But.of (X := X) b23)
        have J2 := Lib.hid (through_any fr c (own_below H2.out.2.1 b23) (by omega) f3)
        have B23 := Lib.hid b23; clear b23
        have HV := Lib.hid hvk2; clear hvk2
        clear d0 d1 d2 f1 f2 f3 J1
        gi_wp2_with fail
        refine ⟨trivial, (CallsIn.inRound l (callsIn_wide.2 J2.out)).mono ?_⟩
        rintro e W4 ⟨v', rfl, o1, o2, k4, ob⟩
        have kX : But X W2 W4 := (But.of B23.out).trans (k4.mono fun q hq => by rw [HXX.out]; exact .inl hq)
        obtain ⟨-, -, f2, f3⟩ := KX.out _ kX
        have hvk4 : Nde F W4 (kid j) vk := nde_but HV.out hF k4 (fun q hq => (own_lt HOW.out hq).1)
        have J3 := Lib.hid (HIH.out j hjk W4 vk v' (n + 1) (ns ++ [c]) hvk4 f3 f2 o1 (by simp [HNN.out]) (by omega))
        have HO := Lib.hid (And.intro o1 (And.intro o2 (And.intro k4 ob)))
        have KK := Lib.hid kX; clear kX
        obtain ⟨rb, hrb⟩ : ∃ r, r = (kid j).rway fr (ns ++ [c]) := ⟨_, rfl⟩
        rw [← hrb] at J3
        have HRB := Lib.hid hrb; clear hrb
        clear f2 f3 hvk4 o1 o2 k4 ob J2 g0 g1 g2
        gi_wp2_with fail
        refine ⟨trivial, (CallsIn.inRound l (callsIn_wide.2 J3.out)).mono ?_⟩
        rintro e W5 ⟨rfl, k5, o5⟩
        have hown5 : W5.ownsRow B 3 1 (.slice A n cp) n (Bt.icells ns) := by
          obtain ⟨o1, o2, k4, ob⟩ := HO.out
          rcases ob with e | ⟨q, hq, e⟩
          · exact own_pre o2 o1 o5 e (icells_take ns c n HNN.out)
          · refine own_kept o2 fun q2 hq2 => k5.block q2 (own_lt o2 hq2).2.1 fun e2 => ?_
            rw [e] at e2
            injection e2 with e2
            have := (own_lt HOW.out hq2).2.1
            have := b04.size
            have := H1.out.size
            have : (W2.drewN nq).heap.size = W2.heap.size := rfl
            omega
        have k25 : But X W2 W5 := by
          obtain ⟨o1, o2, k4, ob⟩ := HO.out
          refine ⟨k5.os.trans KK.out.os, k5.tape.trans KK.out.tape, k5.output.trans KK.out.output, Nat.le_trans KK.out.size k5.size, fun i hi hx => (k5.block i (Nat.lt_of_lt_of_le hi KK.out.size) fun e2 => ?_).trans (KK.out.block i hi hx)⟩
          rcases ob with e | ⟨q, hq, e⟩
          · rw [e] at e2
            exact hx (by rw [HXX.out]; exact .inl e2)
          · rw [e] at e2
            injection e2 with e2
            have : (W2.drewN nq).heap.size = W2.heap.size := rfl
            omega
        have h25 : Boxed W5 (w.heap.size + 1 + 1) 4 (.bool false) := by
          obtain ⟨o1, o2, k4, ob⟩ := HO.out
          have hz : w.heap.size + 1 + 1 < W2.heap.size := Nat.lt_of_lt_of_le z2 H1.out.size
          have hne : ∀ q, Value.ownBlock (.slice A n cp) = some q → q ≠ w.heap.size + 1 + 1 := fun q hq => by
            have := (own_lt HOW.out hq).2.1
            omega
          have q4 : W4.heap[w.heap.size + 1 + 1]? = W2.heap[w.heap.size + 1 + 1]? := k4.block _ hz fun e => hne _ e rfl
          refine ((k5.block _ (Nat.lt_of_lt_of_le hz KK.out.size) fun e2 => ?_).trans q4).trans H2.out.1
          rcases ob with e | ⟨q, hq, e⟩
          · rw [e] at e2
            exact hne _ e2 rfl
          · rw [e] at e2
            injection e2 with e2
            have : (W2.drewN nq).heap.size = W2.heap.size := rfl
            omega
        have K25 := Lib.hid k25; clear k25
        have O5 := Lib.hid hown5; clear hown5
        have e5 := h25.cell
        have e6 := h25.frozen
        have H25 := Lib.hid h25; clear h25
        clear k5 o5 HO J3
        cases rb with
        | true =>
          have hstep : allTo (fun i => (kid i).rway fr (ns ++ [(Bt.lst m 32).getD i 0])) (j + 1) = true := by
            rw [allTo, H2.out.2.2, ← HCC.out, ← HRB.out]; rfl
          have HST := Lib.hid hstep; clear hstep
          gi_wp2_with fail
          refine ⟨K25.out, ?_⟩
          rw [HQ.out.1]
          exact ⟨H1.out.trans K25.out, H25.out, O5.out, HST.out⟩
        | false =>
          have hx : (Nd.bran m k kid).rway fr ns = false := by
            rw [HX.out]
            exact allTo_false hjk (by rw [← HCC.out, ← HRB.out])
          have HXF := Lib.hid hx; clear hx
          have kset : But X W5 (W5.setCell ⟨w.heap.size + 1 + 1, 0, none⟩ (.bool false)) := (But.set W5 _ 0 _).mono fun q hq => by rw [HXX.out]; exact .inr hq
          have KS := Lib.hid (And.intro kset (And.intro (H25.out.set (.bool false)) (own_kept O5.out fun q hq => Below.heap_setCell W5 ⟨w.heap.size + 1 + 1, 0, none⟩ (.bool false) q (by
            have := (own_lt HOW.out hq).2.1
            show ¬ q = w.heap.size + 1 + 1
            omega))))
          clear kset
          gi_wp2_with fail
          refine ⟨K25.out.trans KS.out.1, ?_⟩
          rw [HQ.out.2]
          exact ⟨rfl, (H1.out.trans K25.out).trans KS.out.1, KS.out.2.1, KS.out.2.2, HXF.out⟩
      case done =>
        clear hseq I0
        intro d j W hd hj hi hdf
        rw [hI] at hi
        obtain ⟨h1, h2, h3, h4⟩ := hi
        have HXT : Hid ((Nd.bran m k kid).rway fr ns = true) := by
          show _ = _
          rw [HX.out, ← hkl, ← hj]; exact h4
        have d5 := h2.cell
        have d6 := h2.frozen
        have kset : But X W (W.setCell ⟨w.heap.size + 1 + 1, 0, none⟩ (.bool true)) := (But.set W _ 0 _).mono fun q hq => by rw [HXX.out]; exact .inr hq
        have oset : (W.setCell ⟨w.heap.size + 1 + 1, 0, none⟩ (.bool true)).ownsRow B 3 1 (.slice A n cp) n (Bt.icells ns) := own_kept h3 fun q hq => Below.heap_setCell W ⟨w.heap.size + 1 + 1, 0, none⟩ (.bool true) q (by
          have := (own_lt HOW.out hq).2.1
          show ¬ q = w.heap.size + 1 + 1
          omega)
        have hK2 : (W.setCell ⟨w.heap.size + 1 + 1, 0, none⟩ (.bool true)).heap[d]? = some (.deferred (some [])) := (Below.heap_setCell W _ _ _ (by show ¬ d = w.heap.size + 1 + 1; omega)).trans hdf
        have k2 : (((W.setCell ⟨w.heap.size + 1 + 1, 0, none⟩ (.bool true)).putObj d (.deferred none)).cell? ⟨w.heap.size + 1 + 1, 0, none⟩) = some (.bool true) :=
          Boxed.cell (((But.put _ d _).block _ (h2.set (.bool true)).lt (by omega)).trans (h2.set (.bool true)) : Boxed _ (w.heap.size + 1 + 1) 4 (.bool true))
        have HFI := Lib.hid (LAST.out _ d (.deferred none) (h1.trans kset) oset hd)
        have HK2 := Lib.hid (And.intro hK2 k2)
        clear h1 h2 h3 h4 hdf kset oset hK2 k2 hI hIx t1
        go_wp2_with fail
        refine ⟨by simp, .inl ⟨_, _, rfl, run_takeDeferred HK2.out.1, ?_⟩⟩
        have k2 := HK2.out.2
        refine ⟨.bool true, ?_, ?_⟩
        · simp [results, Tryz.f57, go_sem, k2]
        · rw [HXT.out]
          exact ⟨rfl, HFI.out.1, HFI.out.2⟩
      case stop =>
        clear hseq I0
        intro d cc j W hd hix hdf
        rw [hIx] at hix
        obtain ⟨rfl, h1, h2, h3, hxf⟩ := hix
        have k2 : ((W.putObj d (.deferred none)).cell? ⟨w.heap.size + 1 + 1, 0, none⟩) = some (.bool false) :=
          Boxed.cell (((But.put _ d _).block _ h2.lt (by omega)).trans h2 : Boxed _ (w.heap.size + 1 + 1) 4 (.bool false))
        have HFI := Lib.hid (LAST.out _ d (.deferred none) h1 h3 hd)
        have HXF := Lib.hid hxf
        have HDF := Lib.hid hdf
        clear h1 h2 h3 hxf hdf hI hIx t1
        refine wpIn_wide.2 ?_
        go_wp2_with fail
        refine ⟨by simp, .inl ⟨_, _, rfl, run_takeDeferred HDF.out, ?_⟩⟩
        refine ⟨.bool false, ?_, ?_⟩
        · simp [results, Tryz.f57, go_sem, k2]
        · rw [HXF.out]
          exact ⟨rfl, HFI.out.1, HFI.out.2⟩
  · have t1 : (13 : Int) ≤ ((fr + n : Nat) : Int) := by omega
    have HX : Hid ((Nd.bran m k kid).rway fr ns = false) := by show _ = _; rw [HRW.out, decide_eq_false hl12, Bool.false_and]
    clear hnd r0 r1 r2 z1 hr hown hkid hN0 ho ih
    go_enter Tryz.func57, Tryz.ntmps57
    go_wp2_with fail
    rw [← HW.out]
    refine HL.out.mono ?_
    rintro e w2 ⟨rfl, hb2⟩
    obtain ⟨⟨d0, d1, d2, d3, d4⟩, d5⟩ := KC.out w2 hb2
    have HF := Lib.hid (FIN.out w2 hb2)
    clear hb2
    have k2 : (w2.setCell ⟨w.heap.size + 1 + 1, 0, none⟩ (.bool false)).cell? ⟨w.heap.size + 1 + 1, 0, none⟩ = some (.bool false) := World.cell?_setCell_same' _ _ _ (by rw [d3]; rfl)
    go_wp2_with fail
    refine bodyPost_ret (v := .bool false) (by simp [results, Tryz.f57, go_sem, k2]) rfl ?_
    rw [HX.out]
    exact ⟨rfl, HF.out.1, HF.out.2⟩
theorem right_way (x : Nd) : ∀ (F : Nat → Prop) (B : Nat) (w : World) (v va : Value) (fr n : Nat) (ns : List Int), Nde F w x v → x.ok → (∀ q, F q → q < B) → 0 < B → B ≤ w.heap.size → Tab w → w.ownsRow B 3 1 va n (Bt.icells ns) → n = ns.length → fr + n ≤ 13 →
    Calls Tryz.prog 31 #[v, .agg #[.int .i64 (fr : Int), va]] w (RPost B va n ns (x.rway fr ns) w) := by
  induction x using Nd.by_kids with
  | h x ih =>
    intro F B w v va fr n ns hN ho hF hB1 hB hT hown hn hl
    have hhash := fun W (hW : Below w.heap.size w W) => hash_any (hN.below hW)
    obtain ⟨A, cp, rfl, _, hI⟩ := Bt.ints_own hown hn
    rw [← hn]
    obtain ⟨w1, hw1⟩ : ∃ w1, w1 = w.alloc (.cells #[.int .i64 (fr : Int), .slice A n cp] 87) := ⟨_, rfl⟩
    have hb1 : Below w.heap.size w w1 := by rw [hw1]; exact (Below.refl _ _).alloc (Nat.le_refl _) _
    have r1 : w1.heap[w.heap.size]? = some (.cells #[.int .i64 (fr : Int), .slice A n cp] 87 (0, 0)) := by rw [hw1]; exact heap_alloc_new w _
    obtain ⟨d0, d1, _, _⟩ := row2 r1
    have J := Lib.hid (hhash w1 hb1); clear hhash
    rw [← hn] at hown
    have HW := Lib.hid hw1; clear hw1
    have HB1 := Lib.hid hb1
    have fin : ∀ W, Below w1.heap.size w1 W → But (fun q => Value.ownBlock (.slice A n cp) = some q) w W ∧ W.ownsRow B 3 1 (.slice A n cp) n (Bt.icells ns) := fun W hW => ⟨But.of (below_then hb1 hW), own_below hown (below_then hb1 hW)⟩
    have FIN := Lib.hid fin; clear fin
    cases x with
    | none =>
      obtain rfl : v = .nilIface := hN
      have ht := ta100_nil
      have HF := Lib.hid (FIN.out w1 (Below.refl _ _))
      clear hn hown hI hT ih r1
      go_enter Tryz.func31, Tryz.ntmps31
      go_wp2_with fail
      rw [← HW.out]
      refine J.out.mono ?_
      rintro e w' ⟨rfl, rfl⟩
      simp only [Nd.hash, Nd.hashed, Nd.kind]
      go_wp2_with fail
      go_ret
      exact ⟨rfl, HF.out.1, HF.out.2⟩
    | leaf h p =>
      have hled := leads_any (ns := ns) fr h cp (hI.below hb1) (by omega) ho.1
      rw [← hn] at hled
      have HL := Lib.hid hled
      clear hn hown hI hT ih r1 hled
      go_enter Tryz.func31, Tryz.ntmps31
      go_wp2_with fail
      rw [← HW.out]
      refine J.out.mono ?_
      rintro e w' ⟨rfl, rfl⟩
      simp only [Nd.hash, Nd.hashed, Nd.kind]
      go_wp2_with fail
      refine HL.out.mono ?_
      rintro e w2 ⟨rfl, hb2⟩
      have HF := Lib.hid (FIN.out w2 hb2); clear hb2
      go_wp2_with fail
      go_ret
      exact ⟨rfl, HF.out.1, HF.out.2⟩
    | buck h L =>
      have hled := leads_any (ns := ns) fr h cp (hI.below hb1) (by omega) ho.1
      rw [← hn] at hled
      have HL := Lib.hid hled
      clear hn hown hI hT ih r1 hled
      go_enter Tryz.func31, Tryz.ntmps31
      go_wp2_with fail
      rw [← HW.out]
      refine J.out.mono ?_
      rintro e w' ⟨rfl, rfl⟩
      simp only [Nd.hash, Nd.hashed, Nd.kind]
      go_wp2_with fail
      refine HL.out.mono ?_
      rintro e w2 ⟨rfl, hb2⟩
      have HF := Lib.hid (FIN.out w2 hb2); clear hb2
      go_wp2_with fail
      go_ret
      exact ⟨rfl, HF.out.1, HF.out.2⟩
    | bran m k kid =>
      have hN1 := hN.below hb1
      have hT1 := hT.below hb1
      have ho1 := own_below hown hb1
      have hB2 := Nat.le_trans hB hb1.size
      obtain ⟨b, _, _, rfl, _⟩ := hN
      have hbr := branch_right hN1 ho hF hB1 hB2 hT1 ho1 hn hl (fun i hi W v va n ns h1 h2 h3 h4 h5 h6 => ih i hi F B W v va fr n ns h1 (ho.2.2.2 i hi).2 hF hB1 h2 h3 h4 h5 h6)
      have HBR := Lib.hid hbr; clear hbr
      have ht := ta100_100 (.pointer (some ⟨b, 0, none⟩))
      clear hn hown hI hT ih r1 hN1 hT1 ho1 hB2 ho
      go_enter Tryz.func31, Tryz.ntmps31
      go_wp2_with fail
      rw [← HW.out]
      refine J.out.mono ?_
      rintro e w' ⟨rfl, rfl⟩
      simp only [Nd.hash, Nd.hashed, Nd.kind]
      go_wp2_with fail
      refine HBR.out.mono ?_
      rintro e w2 ⟨rfl, k2, o2⟩
      have HF := Lib.hid (And.intro ((But.of (X := fun q => Value.ownBlock (.slice A n cp) = some q) HB1.out).trans k2) o2); clear k2 o2
      go_wp2_with fail
      go_ret
      exact ⟨rfl, HF.out.1, HF.out.2⟩
/-- Right of a node at any level -/
theorem right_any {F : Nat → Prop} {w : World} {x : Nd} {v : Value} (z : Int) (hN : Nde F w x v) (ho : x.ok) (hF : ∀ q, F q → q < w.heap.size) (hT : Tab w) :
    Calls Tryz.prog 14 #[v, .int .i64 z] w fun e w' => e = .returned (.bool (decide (0 ≤ z ∧ z ≤ 13) && (x.kind != 0 && x.right z.toNat))) ∧ Below w.heap.size w w' := by
  by_cases h1 : 0 ≤ z
  · obtain ⟨lv, rfl⟩ := Int.eq_ofNat_of_zero_le h1
    by_cases h2 : lv ≤ 13
    · have hr := right_way x F w.heap.size w v (.slice none 0 0) lv 0 [] hN ho hF hT.lt (Nat.le_refl _) hT ⟨rfl, .inl ⟨rfl, rfl⟩⟩ rfl (by omega)
      have hx : (decide (0 ≤ (lv : Int) ∧ (lv : Int) ≤ 13) && (x.kind != 0 && x.right ((lv : Int)).toNat)) = x.rway lv [] := by
        rw [decide_eq_true (by omega), Bool.true_and]
        by_cases h0 : x = .none
        · subst h0; rfl
        · rw [rway_start lv ho h0]
          have : (x.kind != 0) = true := by cases x <;> first | exact absurd rfl h0 | rfl
          rw [this, Bool.true_and]
          rfl
      rw [hx]
      obtain ⟨r, hr2⟩ : ∃ r, r = x.rway lv [] := ⟨_, rfl⟩
      rw [← hr2] at hr ⊢
      have H := Lib.hid hr; clear hr
      clear hx hr2 hN ho hF hT
      have t1 : (0 : Int) ≤ (lv : Int) := h1
      have t2 : (lv : Int) ≤ 13 := by omega
      go_enter Tryz.func14, Tryz.ntmps14
      go_wp2_with fail
      refine H.out.mono ?_
      rintro e w2 ⟨rfl, k2, _⟩
      have HK : Hid (Below w.heap.size w w2) := k2.below (Nat.le_refl _) (fun q hq => by simp [Value.ownBlock] at hq)
      clear k2
      go_wp2_with fail
      go_ret
      exact ⟨rfl, HK.out⟩
    · have t2 : ¬ (lv : Int) ≤ 13 := by omega
      have hx : (decide (0 ≤ (lv : Int) ∧ (lv : Int) ≤ 13) && (x.kind != 0 && x.right ((lv : Int)).toNat)) = false := by rw [decide_eq_false (by omega)]; rfl
      rw [hx]
      clear hx hN ho hF hT
      go_enter Tryz.func14, Tryz.ntmps14
      go_wp2_with fail
      go_ret
      exact ⟨rfl, Below.refl _ _⟩
  · have hx : (decide (0 ≤ z ∧ z ≤ 13) && (x.kind != 0 && x.right z.toNat)) = false := by rw [decide_eq_false (by omega)]; rfl
    rw [hx]
    clear hx hN ho hF hT
    go_enter Tryz.func14, Tryz.ntmps14
    go_wp2_with fail
    go_ret
    exact ⟨rfl, Below.refl _ _⟩
end Go.Proofs.YtngfbkkfnooobaaGreatDoor
