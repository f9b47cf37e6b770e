/-
  Contract of the reference's Round.
-/
import Derived.Test.YtmkibkeacbhhaaaHalves
import Derived.StillTailTactics
import Derived.Deep.DeepCutAuto
import Derived.Deep.RegionWith
import Derived.BigRegion
namespace Go.Proofs.Ytmkibkeacbhhaaa
open Go.RowKit
set_option maxHeartbeats 400000
/-- a block that holds the halves of x -/
def Row2 (X : World) (g x : Nat) : Prop := X.heap[g]? = some (.cells #[.int .u64 (hi x : Nat), .int .u64 (lo x : Nat)] 51 (0, 0))
theorem Row2.below {X Y : World} {g x : Nat} (h : Row2 X g x) (hb : Below X.heap.size X Y) : Row2 Y g x := row_below h hb
theorem Row2.same {X : World} {g x : Nat} (h : Row2 X g x) (y : Nat) : Row2 ((X.setCell ⟨g, 0, none⟩ (.int .u64 (hi y : Nat))).setCell ⟨g, 1, none⟩ (.int .u64 (lo y : Nat))) g y := store2 _ _ _ _ _ _ _ h
theorem Row2.other {X : World} {g x : Nat} (h : Row2 X g x) (k : Nat) (hk : g ≠ k) (a b : Value) : Row2 ((X.setCell ⟨k, 0, none⟩ a).setCell ⟨k, 1, none⟩ b) g x := by
  unfold Row2
  rw [heap_setCell_other _ _ g _ hk, heap_setCell_other _ _ g _ hk]
  exact h
theorem Row2.drew {X : World} {g x : Nat} (h : Row2 X g x) : Row2 X.drew g x := h
theorem Row2.cells {X : World} {g x : Nat} (h : Row2 X g x) : X.cell? ⟨g, 0, none⟩ = some (.int .u64 (hi x : Nat)) ∧ X.cell? ⟨g, 1, none⟩ = some (.int .u64 (lo x : Nat)) ∧ ∀ i, X.frozen? ⟨g, i, none⟩ = false :=
  ⟨cell_of_row X g 0 _ 51 _ h, cell_of_row X g 1 _ 51 _ h, fun i => frozen_of_row X g i _ 51 h⟩
/-- four boxes and four results -/
structure R4 (w X : World) (p q r s : Nat) : Prop where
  bel : Below w.heap.size w X
  r0 : Row2 X (w.heap.size) p
  r1 : Row2 X (w.heap.size + 1) q
  r2 : Row2 X (w.heap.size + 1 + 1) r
  r3 : Row2 X (w.heap.size + 1 + 1 + 1) s
  r4 : Row2 X (w.heap.size + 1 + 1 + 1 + 1) 0
  r5 : Row2 X (w.heap.size + 1 + 1 + 1 + 1 + 1) 0
  r6 : Row2 X (w.heap.size + 1 + 1 + 1 + 1 + 1 + 1) 0
  r7 : Row2 X (w.heap.size + 1 + 1 + 1 + 1 + 1 + 1 + 1) 0
theorem R4.below {w X Y : World} {p q r s : Nat} (h : R4 w X p q r s) (hb : Below X.heap.size X Y) : R4 w Y p q r s :=
  ⟨below_then h.bel hb, h.r0.below hb, h.r1.below hb, h.r2.below hb, h.r3.below hb, h.r4.below hb, h.r5.below hb, h.r6.below hb, h.r7.below hb⟩
theorem R4.set0 {w X : World} {p q r s : Nat} (h : R4 w X p q r s) (y : Nat) : R4 w ((X.setCell ⟨w.heap.size, 0, none⟩ (.int .u64 (hi y : Nat))).setCell ⟨w.heap.size, 1, none⟩ (.int .u64 (lo y : Nat))) y q r s :=
  ⟨(h.bel.setCell (by simp only; omega) _).setCell (by simp only; omega) _, h.r0.same y, h.r1.other _ (by omega) _ _, h.r2.other _ (by omega) _ _, h.r3.other _ (by omega) _ _, h.r4.other _ (by omega) _ _, h.r5.other _ (by omega) _ _, h.r6.other _ (by omega) _ _, h.r7.other _ (by omega) _ _⟩
theorem R4.set1 {w X : World} {p q r s : Nat} (h : R4 w X p q r s) (y : Nat) : R4 w ((X.setCell ⟨w.heap.size + 1, 0, none⟩ (.int .u64 (hi y : Nat))).setCell ⟨w.heap.size + 1, 1, none⟩ (.int .u64 (lo y : Nat))) p y r s :=
  ⟨(h.bel.setCell (by simp only; omega) _).setCell (by simp only; omega) _, h.r0.other _ (by omega) _ _, h.r1.same y, h.r2.other _ (by omega) _ _, h.r3.other _ (by omega) _ _, h.r4.other _ (by omega) _ _, h.r5.other _ (by omega) _ _, h.r6.other _ (by omega) _ _, h.r7.other _ (by omega) _ _⟩
theorem R4.set2 {w X : World} {p q r s : Nat} (h : R4 w X p q r s) (y : Nat) : R4 w ((X.setCell ⟨w.heap.size + 1 + 1, 0, none⟩ (.int .u64 (hi y : Nat))).setCell ⟨w.heap.size + 1 + 1, 1, none⟩ (.int .u64 (lo y : Nat))) p q y s :=
  ⟨(h.bel.setCell (by simp only; omega) _).setCell (by simp only; omega) _, h.r0.other _ (by omega) _ _, h.r1.other _ (by omega) _ _, h.r2.same y, h.r3.other _ (by omega) _ _, h.r4.other _ (by omega) _ _, h.r5.other _ (by omega) _ _, h.r6.other _ (by omega) _ _, h.r7.other _ (by omega) _ _⟩
theorem R4.set3 {w X : World} {p q r s : Nat} (h : R4 w X p q r s) (y : Nat) : R4 w ((X.setCell ⟨w.heap.size + 1 + 1 + 1, 0, none⟩ (.int .u64 (hi y : Nat))).setCell ⟨w.heap.size + 1 + 1 + 1, 1, none⟩ (.int .u64 (lo y : Nat))) p q r y :=
  ⟨(h.bel.setCell (by simp only; omega) _).setCell (by simp only; omega) _, h.r0.other _ (by omega) _ _, h.r1.other _ (by omega) _ _, h.r2.other _ (by omega) _ _, h.r3.same y, h.r4.other _ (by omega) _ _, h.r5.other _ (by omega) _ _, h.r6.other _ (by omega) _ _, h.r7.other _ (by omega) _ _⟩
theorem alloc_step {X : World} {n : Nat} (hn : X.heap.size = n) (A : Obj) : (X.alloc A).heap.size = n + 1 ∧ (X.alloc A).heap[n]? = some A ∧ ∀ (k : Nat) (v : Obj), X.heap[k]? = some v → (X.alloc A).heap[k]? = some v := by
  subst hn
  exact ⟨by simp, heap_alloc_new X A, fun k v h => (Go.heap_alloc_old X A (Array.getElem?_eq_some_iff.1 h).1).trans h⟩
theorem results_four {P : Program} {fn : Func} {a b c d : Tmp} {ty : TypeId} (h : fn.results = #[.cell a ty, .cell b ty, .cell c ty, .cell d ty]) (tmps : Array Value) (w : World) (ga gb gc gd : Nat) (t : TypeId) (A B C D : Array Value) (e : TypeDesc)
    (ha : tmps.getD a undef = .pointer (some ⟨ga, 0, none⟩)) (hb : tmps.getD b undef = .pointer (some ⟨gb, 0, none⟩)) (hc : tmps.getD c undef = .pointer (some ⟨gc, 0, none⟩)) (hd : tmps.getD d undef = .pointer (some ⟨gd, 0, none⟩))
    (ra : w.heap[ga]? = some (.cells A t (0, 0))) (rb : w.heap[gb]? = some (.cells B t (0, 0))) (rc : w.heap[gc]? = some (.cells C t (0, 0))) (rd : w.heap[gd]? = some (.cells D t (0, 0)))
    (hu : P.underlying ty = some e) (he : (match e with | .struct _ | .array _ _ => true | _ => false) = true) (ia : (P.info? ty).map (·.size) = some A.size) (ib : (P.info? ty).map (·.size) = some B.size) (ic : (P.info? ty).map (·.size) = some C.size) (id : (P.info? ty).map (·.size) = some D.size) :
    (results fn tmps).run P w = .ok (.tuple #[.agg A, .agg B, .agg C, .agg D]) w := by
  have ha' : tmps[a]?.getD undef = .pointer (some ⟨ga, 0, none⟩) := by simpa using ha
  have hb' : tmps[b]?.getD undef = .pointer (some ⟨gb, 0, none⟩) := by simpa using hb
  have hc' : tmps[c]?.getD undef = .pointer (some ⟨gc, 0, none⟩) := by simpa using hc
  have hd' : tmps[d]?.getD undef = .pointer (some ⟨gd, 0, none⟩) := by simpa using hd
  simp [results, h, ha', hb', hc', hd', asAddr, Sem.run_bind, Result.andThen, run_loadVar_row w ga t ty A (0, 0) e ra hu he ia, run_loadVar_row w gb t ty B (0, 0) e rb hu he ib, run_loadVar_row w gc t ty C (0, 0) e rc hu he ic, run_loadVar_row w gd t ty D (0, 0) e rd hu he id]
set_option maxRecDepth 100000 in
set_option maxHeartbeats 4000000 in
theorem refRound_any (p q r s : Nat) (w : World) (h : (⟨p, q, r, s⟩ : St).ok) (y : St) (hy : y = St.round ⟨p, q, r, s⟩) :
    Calls Try.prog 24 #[.agg #[.int .u64 (hi p : Nat), .int .u64 (lo p : Nat)], .agg #[.int .u64 (hi q : Nat), .int .u64 (lo q : Nat)], .agg #[.int .u64 (hi r : Nat), .int .u64 (lo r : Nat)], .agg #[.int .u64 (hi s : Nat), .int .u64 (lo s : Nat)]] w fun e w' => e = .returned (.tuple #[.agg #[.int .u64 (hi y.p : Nat), .int .u64 (lo y.p : Nat)], .agg #[.int .u64 (hi y.q : Nat), .int .u64 (lo y.q : Nat)], .agg #[.int .u64 (hi y.r : Nat), .int .u64 (lo y.r : Nat)], .agg #[.int .u64 (hi y.s : Nat), .int .u64 (lo y.s : Nat)]]) ∧ Below w.heap.size w w' := by
  obtain ⟨hp, hq, hr, hs⟩ := h
  simp only at hp hq hr hs
  obtain ⟨p1, hp1⟩ : ∃ x, x = addN p q := ⟨_, rfl⟩
  have cp1 := fun W => plus_any p q W hp hq
  rw [← hp1] at cp1
  have lp1 : p1 < 18446744073709551616 := by rw [hp1]; exact addN_lt _ _
  have Cp1 := Lib.hid cp1; clear cp1
  obtain ⟨a1, ha1⟩ : ∃ x, x = turnN q 13 := ⟨_, rfl⟩
  have ca1 := fun W => refTurn_any q 13 W hq (by decide)
  rw [← ha1] at ca1
  have la1 : a1 < 18446744073709551616 := by rw [ha1]; exact turnN_lt _ _ hq
  have Ca1 := Lib.hid ca1; clear ca1
  obtain ⟨q1, hq1⟩ : ∃ x, x = a1 ^^^ p1 := ⟨_, rfl⟩
  have cq1 := fun W => xor_any a1 p1 W la1 lp1
  rw [← hq1] at cq1
  have lq1 : q1 < 18446744073709551616 := by rw [hq1]; exact xor_lt _ _ la1 lp1
  have Cq1 := Lib.hid cq1; clear cq1
  obtain ⟨p2, hp2⟩ : ∃ x, x = turnN p1 32 := ⟨_, rfl⟩
  have cp2 := fun W => swap_any p1 W lp1
  rw [← hp2] at cp2
  have lp2 : p2 < 18446744073709551616 := by rw [hp2]; exact turnN_lt _ _ lp1
  have Cp2 := Lib.hid cp2; clear cp2
  obtain ⟨r1, hr1⟩ : ∃ x, x = addN r s := ⟨_, rfl⟩
  have cr1 := fun W => plus_any r s W hr hs
  rw [← hr1] at cr1
  have lr1 : r1 < 18446744073709551616 := by rw [hr1]; exact addN_lt _ _
  have Cr1 := Lib.hid cr1; clear cr1
  obtain ⟨b1, hb1⟩ : ∃ x, x = turnN s 16 := ⟨_, rfl⟩
  have cb1 := fun W => refTurn_any s 16 W hs (by decide)
  rw [← hb1] at cb1
  have lb1 : b1 < 18446744073709551616 := by rw [hb1]; exact turnN_lt _ _ hs
  have Cb1 := Lib.hid cb1; clear cb1
  obtain ⟨s1, hs1⟩ : ∃ x, x = b1 ^^^ r1 := ⟨_, rfl⟩
  have cs1 := fun W => xor_any b1 r1 W lb1 lr1
  rw [← hs1] at cs1
  have ls1 : s1 < 18446744073709551616 := by rw [hs1]; exact xor_lt _ _ lb1 lr1
  have Cs1 := Lib.hid cs1; clear cs1
  obtain ⟨p3, hp3⟩ : ∃ x, x = addN p2 s1 := ⟨_, rfl⟩
  have cp3 := fun W => plus_any p2 s1 W lp2 ls1
  rw [← hp3] at cp3
  have lp3 : p3 < 18446744073709551616 := by rw [hp3]; exact addN_lt _ _
  have Cp3 := Lib.hid cp3; clear cp3
  obtain ⟨b2, hb2⟩ : ∃ x, x = turnN s1 21 := ⟨_, rfl⟩
  have cb2 := fun W => refTurn_any s1 21 W ls1 (by decide)
  rw [← hb2] at cb2
  have lb2 : b2 < 18446744073709551616 := by rw [hb2]; exact turnN_lt _ _ ls1
  have Cb2 := Lib.hid cb2; clear cb2
  obtain ⟨s2, hs2⟩ : ∃ x, x = b2 ^^^ p3 := ⟨_, rfl⟩
  have cs2 := fun W => xor_any b2 p3 W lb2 lp3
  rw [← hs2] at cs2
  have ls2 : s2 < 18446744073709551616 := by rw [hs2]; exact xor_lt _ _ lb2 lp3
  have Cs2 := Lib.hid cs2; clear cs2
  obtain ⟨r2, hr2⟩ : ∃ x, x = addN r1 q1 := ⟨_, rfl⟩
  have cr2 := fun W => plus_any r1 q1 W lr1 lq1
  rw [← hr2] at cr2
  have lr2 : r2 < 18446744073709551616 := by rw [hr2]; exact addN_lt _ _
  have Cr2 := Lib.hid cr2; clear cr2
  obtain ⟨a2, ha2⟩ : ∃ x, x = turnN q1 17 := ⟨_, rfl⟩
  have ca2 := fun W => refTurn_any q1 17 W lq1 (by decide)
  rw [← ha2] at ca2
  have la2 : a2 < 18446744073709551616 := by rw [ha2]; exact turnN_lt _ _ lq1
  have Ca2 := Lib.hid ca2; clear ca2
  obtain ⟨q2, hq2⟩ : ∃ x, x = a2 ^^^ r2 := ⟨_, rfl⟩
  have cq2 := fun W => xor_any a2 r2 W la2 lr2
  rw [← hq2] at cq2
  have lq2 : q2 < 18446744073709551616 := by rw [hq2]; exact xor_lt _ _ la2 lr2
  have Cq2 := Lib.hid cq2; clear cq2
  obtain ⟨r3, hr3⟩ : ∃ x, x = turnN r2 32 := ⟨_, rfl⟩
  have cr3 := fun W => swap_any r2 W lr2
  rw [← hr3] at cr3
  have lr3 : r3 < 18446744073709551616 := by rw [hr3]; exact turnN_lt _ _ lr2
  have Cr3 := Lib.hid cr3; clear cr3
  have hy2 : y = ⟨p3, q2, r3, s2⟩ := by subst hr3 hq2 ha2 hr2 hs2 hb2 hp3 hs1 hb1 hr1 hp2 hq1 ha1 hp1; exact hy
  clear hr3 hq2 ha2 hr2 hs2 hb2 hp3 hs1 hb1 hr1 hp2 hq1 ha1 hp1 hy
  subst hy2
  simp only
  clear hp hq hr hs lp1 la1 lq1 lp2 lr1 lb1 ls1 lp3 lb2 ls2 lr2 la2 lq2 lr3
  obtain ⟨X0, hX0⟩ : ∃ X, X = ((((((((w.alloc (.cells #[.int .u64 (hi p : Nat), .int .u64 (lo p : Nat)] 51)).alloc (.cells #[.int .u64 (hi q : Nat), .int .u64 (lo q : Nat)] 51)).alloc (.cells #[.int .u64 (hi r : Nat), .int .u64 (lo r : Nat)] 51)).alloc (.cells #[.int .u64 (hi s : Nat), .int .u64 (lo s : Nat)] 51)).alloc (.cells #[.int .u64 0, .int .u64 0] 51)).alloc (.cells #[.int .u64 0, .int .u64 0] 51)).alloc (.cells #[.int .u64 0, .int .u64 0] 51)).alloc (.cells #[.int .u64 0, .int .u64 0] 51)) := ⟨_, rfl⟩
  have hR : R4 w X0 p q r s := by
    rw [hX0]
    obtain ⟨n1, a1, k1⟩ := alloc_step (X := w) rfl (.cells #[.int .u64 (hi p : Nat), .int .u64 (lo p : Nat)] 51)
    obtain ⟨n2, a2, k2⟩ := alloc_step n1 (.cells #[.int .u64 (hi q : Nat), .int .u64 (lo q : Nat)] 51)
    obtain ⟨n3, a3, k3⟩ := alloc_step n2 (.cells #[.int .u64 (hi r : Nat), .int .u64 (lo r : Nat)] 51)
    obtain ⟨n4, a4, k4⟩ := alloc_step n3 (.cells #[.int .u64 (hi s : Nat), .int .u64 (lo s : Nat)] 51)
    obtain ⟨n5, a5, k5⟩ := alloc_step n4 (.cells #[.int .u64 0, .int .u64 0] 51)
    obtain ⟨n6, a6, k6⟩ := alloc_step n5 (.cells #[.int .u64 0, .int .u64 0] 51)
    obtain ⟨n7, a7, k7⟩ := alloc_step n6 (.cells #[.int .u64 0, .int .u64 0] 51)
    obtain ⟨n8, a8, k8⟩ := alloc_step n7 (.cells #[.int .u64 0, .int .u64 0] 51)
    refine ⟨?_, ?_, ?_, ?_, ?_, ?_, ?_, ?_, ?_⟩
    · exact ((((((((Below.refl _ _).alloc (Nat.le_refl _) _).alloc (by simp) _).alloc (by simp; omega) _).alloc (by simp; omega) _).alloc (by simp; omega) _).alloc (by simp; omega) _).alloc (by simp; omega) _).alloc (by simp; omega) _
    all_goals unfold Row2
    · exact k8 _ _ (k7 _ _ (k6 _ _ (k5 _ _ (k4 _ _ (k3 _ _ (k2 _ _ a1))))))
    · exact k8 _ _ (k7 _ _ (k6 _ _ (k5 _ _ (k4 _ _ (k3 _ _ a2)))))
    · exact k8 _ _ (k7 _ _ (k6 _ _ (k5 _ _ (k4 _ _ a3))))
    · exact k8 _ _ (k7 _ _ (k6 _ _ (k5 _ _ a4)))
    · exact k8 _ _ (k7 _ _ (k6 _ _ a5))
    · exact k8 _ _ (k7 _ _ a6)
    · exact k8 _ _ a7
    · exact a8
  have HX0 := Lib.hid hX0; clear hX0
  have HR0 := Lib.hid hR; clear hR
  obtain ⟨k00, k01, k02⟩ := HR0.out.r0.cells
  obtain ⟨k10, k11, k12⟩ := HR0.out.r1.cells
  obtain ⟨k20, k21, k22⟩ := HR0.out.r2.cells
  obtain ⟨k30, k31, k32⟩ := HR0.out.r3.cells
  go_enter Try.func24, Try.ntmps24
  go_wp2_with fail
  rw [← HX0.out]
  refine (Cp1.out _).mono ?_
  rintro e Y0 ⟨rfl, hb⟩
  have hR := HR0.out.below hb
  have HS0 := Lib.hid hR; clear hR hb HR0
  clear k00 k01 k02 k10 k11 k12 k20 k21 k22 k30 k31 k32
  obtain ⟨k00, k01, k02⟩ := HS0.out.r0.cells
  obtain ⟨k10, k11, k12⟩ := HS0.out.r1.cells
  obtain ⟨k20, k21, k22⟩ := HS0.out.r2.cells
  obtain ⟨k30, k31, k32⟩ := HS0.out.r3.cells
  go_wp2_with fail
  have hR := HS0.out.set0 p1
  obtain ⟨X1, hX⟩ : ∃ X, X = ((Y0.setCell ⟨w.heap.size, 0, none⟩ (.int .u64 (hi p1 : Nat))).setCell ⟨w.heap.size, 1, none⟩ (.int .u64 (lo p1 : Nat))) := ⟨_, rfl⟩
  rw [← hX] at hR
  rw [← hX]
  clear hX
  clear k00 k01 k02 k10 k11 k12 k20 k21 k22 k30 k31 k32
  have HR1 := Lib.hid hR; clear hR
  clear HS0
  obtain ⟨k00, k01, k02⟩ := HR1.out.r0.cells
  obtain ⟨k10, k11, k12⟩ := HR1.out.r1.cells
  obtain ⟨k20, k21, k22⟩ := HR1.out.r2.cells
  obtain ⟨k30, k31, k32⟩ := HR1.out.r3.cells
  go_cut [4] (fun s4 wx => s4 = .pointer (some ⟨w.heap.size, 0, none⟩) ∧ R4 w wx p1 q1 r s)
  case first =>
    have hz0 : Below X1.heap.size X1 X1.drew := (Below.refl _ _).drew
    go_region_with (first
      | (go_at_call 30; refine (Ca1.out _).mono ?_; rintro e wA ⟨rfl, hA⟩; have hzA := hz0.trans (hA.mono hz0.size); have HA := Lib.hid hzA; clear hA hzA; obtain ⟨ka, kb, kc⟩ := (HR1.out.below HA.out).r0.cells)
      | (go_at_call 29; refine (Cq1.out _).mono ?_; rintro e wB ⟨rfl, hB⟩; have hzB := HA.out.trans (hB.mono HA.out.size); have HB := Lib.hid hzB; clear hB hzB; obtain ⟨kx, ky, kz⟩ := (HR1.out.below HB.out).r1.cells))
    all_goals
      go_wp2_with fail
      go_meet
      exact ⟨rfl, (HR1.out.below HB.out).set1 q1⟩
  obtain ⟨rfl, hR⟩ := hcut
  clear k00 k01 k02 k10 k11 k12 k20 k21 k22 k30 k31 k32
  have HR2 := Lib.hid hR; clear hR HR1
  obtain ⟨k00, k01, k02⟩ := HR2.out.r0.cells
  obtain ⟨k10, k11, k12⟩ := HR2.out.r1.cells
  obtain ⟨k20, k21, k22⟩ := HR2.out.r2.cells
  obtain ⟨k30, k31, k32⟩ := HR2.out.r3.cells
  go_wp2_with fail
  refine (Cp2.out _).mono ?_
  rintro e Y2 ⟨rfl, hb⟩
  have hR := HR2.out.below hb
  have HS2 := Lib.hid hR; clear hR hb HR2
  clear k00 k01 k02 k10 k11 k12 k20 k21 k22 k30 k31 k32
  obtain ⟨k00, k01, k02⟩ := HS2.out.r0.cells
  obtain ⟨k10, k11, k12⟩ := HS2.out.r1.cells
  obtain ⟨k20, k21, k22⟩ := HS2.out.r2.cells
  obtain ⟨k30, k31, k32⟩ := HS2.out.r3.cells
  go_wp2_with fail
  have hR := HS2.out.set0 p2
  obtain ⟨X3, hX⟩ : ∃ X, X = ((Y2.setCell ⟨w.heap.size, 0, none⟩ (.int .u64 (hi p2 : Nat))).setCell ⟨w.heap.size, 1, none⟩ (.int .u64 (lo p2 : Nat))) := ⟨_, rfl⟩
  rw [← hX] at hR
  rw [← hX]
  clear hX
  clear k00 k01 k02 k10 k11 k12 k20 k21 k22 k30 k31 k32
  have HR3 := Lib.hid hR; clear hR
  clear HS2
  obtain ⟨k00, k01, k02⟩ := HR3.out.r0.cells
  obtain ⟨k10, k11, k12⟩ := HR3.out.r1.cells
  obtain ⟨k20, k21, k22⟩ := HR3.out.r2.cells
  obtain ⟨k30, k31, k32⟩ := HR3.out.r3.cells
  refine (Cr1.out _).mono ?_
  rintro e Y3 ⟨rfl, hb⟩
  have hR := HR3.out.below hb
  have HS3 := Lib.hid hR; clear hR hb HR3
  clear k00 k01 k02 k10 k11 k12 k20 k21 k22 k30 k31 k32
  obtain ⟨k00, k01, k02⟩ := HS3.out.r0.cells
  obtain ⟨k10, k11, k12⟩ := HS3.out.r1.cells
  obtain ⟨k20, k21, k22⟩ := HS3.out.r2.cells
  obtain ⟨k30, k31, k32⟩ := HS3.out.r3.cells
  go_wp2_with fail
  have hR := HS3.out.set2 r1
  obtain ⟨X4, hX⟩ : ∃ X, X = ((Y3.setCell ⟨w.heap.size + 1 + 1, 0, none⟩ (.int .u64 (hi r1 : Nat))).setCell ⟨w.heap.size + 1 + 1, 1, none⟩ (.int .u64 (lo r1 : Nat))) := ⟨_, rfl⟩
  rw [← hX] at hR
  rw [← hX]
  clear hX
  clear k00 k01 k02 k10 k11 k12 k20 k21 k22 k30 k31 k32
  have HR4 := Lib.hid hR; clear hR
  clear HS3
  obtain ⟨k00, k01, k02⟩ := HR4.out.r0.cells
  obtain ⟨k10, k11, k12⟩ := HR4.out.r1.cells
  obtain ⟨k20, k21, k22⟩ := HR4.out.r2.cells
  obtain ⟨k30, k31, k32⟩ := HR4.out.r3.cells
  go_cut [4] (fun s4 wx => s4 = .pointer (some ⟨w.heap.size, 0, none⟩) ∧ R4 w wx p2 q1 r1 s1)
  case first =>
    have hz0 : Below X4.heap.size X4 X4.drew := (Below.refl _ _).drew
    go_region_with (first
      | (go_at_call 30; refine (Cb1.out _).mono ?_; rintro e wA ⟨rfl, hA⟩; have hzA := hz0.trans (hA.mono hz0.size); have HA := Lib.hid hzA; clear hA hzA; obtain ⟨ka, kb, kc⟩ := (HR4.out.below HA.out).r2.cells)
      | (go_at_call 29; refine (Cs1.out _).mono ?_; rintro e wB ⟨rfl, hB⟩; have hzB := HA.out.trans (hB.mono HA.out.size); have HB := Lib.hid hzB; clear hB hzB; obtain ⟨kx, ky, kz⟩ := (HR4.out.below HB.out).r3.cells))
    all_goals
      go_wp2_with fail
      go_meet
      exact ⟨rfl, (HR4.out.below HB.out).set3 s1⟩
  obtain ⟨rfl, hR⟩ := hcut
  clear k00 k01 k02 k10 k11 k12 k20 k21 k22 k30 k31 k32
  have HR5 := Lib.hid hR; clear hR HR4
  obtain ⟨k00, k01, k02⟩ := HR5.out.r0.cells
  obtain ⟨k10, k11, k12⟩ := HR5.out.r1.cells
  obtain ⟨k20, k21, k22⟩ := HR5.out.r2.cells
  obtain ⟨k30, k31, k32⟩ := HR5.out.r3.cells
  go_wp2_with fail
  refine (Cp3.out _).mono ?_
  rintro e Y5 ⟨rfl, hb⟩
  have hR := HR5.out.below hb
  have HS5 := Lib.hid hR; clear hR hb HR5
  clear k00 k01 k02 k10 k11 k12 k20 k21 k22 k30 k31 k32
  obtain ⟨k00, k01, k02⟩ := HS5.out.r0.cells
  obtain ⟨k10, k11, k12⟩ := HS5.out.r1.cells
  obtain ⟨k20, k21, k22⟩ := HS5.out.r2.cells
  obtain ⟨k30, k31, k32⟩ := HS5.out.r3.cells
  go_wp2_with fail
  have hR := HS5.out.set0 p3
  obtain ⟨X6, hX⟩ : ∃ X, X = ((Y5.setCell ⟨w.heap.size, 0, none⟩ (.int .u64 (hi p3 : Nat))).setCell ⟨w.heap.size, 1, none⟩ (.int .u64 (lo p3 : Nat))) := ⟨_, rfl⟩
  rw [← hX] at hR
  rw [← hX]
  clear hX
  clear k00 k01 k02 k10 k11 k12 k20 k21 k22 k30 k31 k32
  have HR6 := Lib.hid hR; clear hR
  clear HS5
  obtain ⟨k00, k01, k02⟩ := HR6.out.r0.cells
  obtain ⟨k10, k11, k12⟩ := HR6.out.r1.cells
  obtain ⟨k20, k21, k22⟩ := HR6.out.r2.cells
  obtain ⟨k30, k31, k32⟩ := HR6.out.r3.cells
  go_cut [4] (fun s4 wx => s4 = .pointer (some ⟨w.heap.size, 0, none⟩) ∧ R4 w wx p3 q1 r1 s2)
  case first =>
    have hz0 : Below X6.heap.size X6 X6.drew := (Below.refl _ _).drew
    go_region_with (first
      | (go_at_call 30; refine (Cb2.out _).mono ?_; rintro e wA ⟨rfl, hA⟩; have hzA := hz0.trans (hA.mono hz0.size); have HA := Lib.hid hzA; clear hA hzA; obtain ⟨ka, kb, kc⟩ := (HR6.out.below HA.out).r0.cells)
      | (go_at_call 29; refine (Cs2.out _).mono ?_; rintro e wB ⟨rfl, hB⟩; have hzB := HA.out.trans (hB.mono HA.out.size); have HB := Lib.hid hzB; clear hB hzB; obtain ⟨kx, ky, kz⟩ := (HR6.out.below HB.out).r3.cells))
    all_goals
      go_wp2_with fail
      go_meet
      exact ⟨rfl, (HR6.out.below HB.out).set3 s2⟩
  obtain ⟨rfl, hR⟩ := hcut
  clear k00 k01 k02 k10 k11 k12 k20 k21 k22 k30 k31 k32
  have HR7 := Lib.hid hR; clear hR HR6
  obtain ⟨k00, k01, k02⟩ := HR7.out.r0.cells
  obtain ⟨k10, k11, k12⟩ := HR7.out.r1.cells
  obtain ⟨k20, k21, k22⟩ := HR7.out.r2.cells
  obtain ⟨k30, k31, k32⟩ := HR7.out.r3.cells
  go_wp2_with fail
  refine (Cr2.out _).mono ?_
  rintro e Y7 ⟨rfl, hb⟩
  have hR := HR7.out.below hb
  have HS7 := Lib.hid hR; clear hR hb HR7
  clear k00 k01 k02 k10 k11 k12 k20 k21 k22 k30 k31 k32
  obtain ⟨k00, k01, k02⟩ := HS7.out.r0.cells
  obtain ⟨k10, k11, k12⟩ := HS7.out.r1.cells
  obtain ⟨k20, k21, k22⟩ := HS7.out.r2.cells
  obtain ⟨k30, k31, k32⟩ := HS7.out.r3.cells
  go_wp2_with fail
  have hR := HS7.out.set2 r2
  obtain ⟨X8, hX⟩ : ∃ X, X = ((Y7.setCell ⟨w.heap.size + 1 + 1, 0, none⟩ (.int .u64 (hi r2 : Nat))).setCell ⟨w.heap.size + 1 + 1, 1, none⟩ (.int .u64 (lo r2 : Nat))) := ⟨_, rfl⟩
  rw [← hX] at hR
  rw [← hX]
  clear hX
  clear k00 k01 k02 k10 k11 k12 k20 k21 k22 k30 k31 k32
  have HR8 := Lib.hid hR; clear hR
  clear HS7
  obtain ⟨k00, k01, k02⟩ := HR8.out.r0.cells
  obtain ⟨k10, k11, k12⟩ := HR8.out.r1.cells
  obtain ⟨k20, k21, k22⟩ := HR8.out.r2.cells
  obtain ⟨k30, k31, k32⟩ := HR8.out.r3.cells
  go_cut [4] (fun s4 wx => s4 = .pointer (some ⟨w.heap.size, 0, none⟩) ∧ R4 w wx p3 q2 r2 s2)
  case first =>
    have hz0 : Below X8.heap.size X8 X8.drew := (Below.refl _ _).drew
    go_region_with (first
      | (go_at_call 30; refine (Ca2.out _).mono ?_; rintro e wA ⟨rfl, hA⟩; have hzA := hz0.trans (hA.mono hz0.size); have HA := Lib.hid hzA; clear hA hzA; obtain ⟨ka, kb, kc⟩ := (HR8.out.below HA.out).r2.cells)
      | (go_at_call 29; refine (Cq2.out _).mono ?_; rintro e wB ⟨rfl, hB⟩; have hzB := HA.out.trans (hB.mono HA.out.size); have HB := Lib.hid hzB; clear hB hzB; obtain ⟨kx, ky, kz⟩ := (HR8.out.below HB.out).r1.cells))
    all_goals
      go_wp2_with fail
      go_meet
      exact ⟨rfl, (HR8.out.below HB.out).set1 q2⟩
  obtain ⟨rfl, hR⟩ := hcut
  clear k00 k01 k02 k10 k11 k12 k20 k21 k22 k30 k31 k32
  have HR9 := Lib.hid hR; clear hR HR8
  obtain ⟨k00, k01, k02⟩ := HR9.out.r0.cells
  obtain ⟨k10, k11, k12⟩ := HR9.out.r1.cells
  obtain ⟨k20, k21, k22⟩ := HR9.out.r2.cells
  obtain ⟨k30, k31, k32⟩ := HR9.out.r3.cells
  go_wp2_with fail
  refine (Cr3.out _).mono ?_
  rintro e Y9 ⟨rfl, hb⟩
  have hR := HR9.out.below hb
  have HS9 := Lib.hid hR; clear hR hb HR9
  clear k00 k01 k02 k10 k11 k12 k20 k21 k22 k30 k31 k32
  obtain ⟨k00, k01, k02⟩ := HS9.out.r0.cells
  obtain ⟨k10, k11, k12⟩ := HS9.out.r1.cells
  obtain ⟨k20, k21, k22⟩ := HS9.out.r2.cells
  obtain ⟨k30, k31, k32⟩ := HS9.out.r3.cells
  go_wp2_with fail
  have hR := HS9.out.set2 r3
  obtain ⟨X10, hX⟩ : ∃ X, X = ((Y9.setCell ⟨w.heap.size + 1 + 1, 0, none⟩ (.int .u64 (hi r3 : Nat))).setCell ⟨w.heap.size + 1 + 1, 1, none⟩ (.int .u64 (lo r3 : Nat))) := ⟨_, rfl⟩
  rw [← hX] at hR
  rw [← hX]
  clear hX
  clear k00 k01 k02 k10 k11 k12 k20 k21 k22 k30 k31 k32
  have HR10 := Lib.hid hR; clear hR
  clear HS9
  obtain ⟨k00, k01, k02⟩ := HR10.out.r0.cells
  obtain ⟨k10, k11, k12⟩ := HR10.out.r1.cells
  obtain ⟨k20, k21, k22⟩ := HR10.out.r2.cells
  obtain ⟨k30, k31, k32⟩ := HR10.out.r3.cells
  obtain ⟨m00, m01, m02⟩ := HR10.out.r4.cells
  obtain ⟨m10, m11, m12⟩ := HR10.out.r5.cells
  obtain ⟨m20, m21, m22⟩ := HR10.out.r6.cells
  obtain ⟨m30, m31, m32⟩ := HR10.out.r7.cells
  go_region
  go_wp2_with fail
  have z0 := ((((HR10.out.r4.same p3).other (w.heap.size + 1 + 1 + 1 + 1 + 1) (by omega) (.int .u64 (hi q2 : Nat)) (.int .u64 (lo q2 : Nat))).other (w.heap.size + 1 + 1 + 1 + 1 + 1 + 1) (by omega) (.int .u64 (hi r3 : Nat)) (.int .u64 (lo r3 : Nat))).other (w.heap.size + 1 + 1 + 1 + 1 + 1 + 1 + 1) (by omega) (.int .u64 (hi s2 : Nat)) (.int .u64 (lo s2 : Nat)))
  have z1 := ((((HR10.out.r5.other (w.heap.size + 1 + 1 + 1 + 1) (by omega) (.int .u64 (hi p3 : Nat)) (.int .u64 (lo p3 : Nat))).same q2).other (w.heap.size + 1 + 1 + 1 + 1 + 1 + 1) (by omega) (.int .u64 (hi r3 : Nat)) (.int .u64 (lo r3 : Nat))).other (w.heap.size + 1 + 1 + 1 + 1 + 1 + 1 + 1) (by omega) (.int .u64 (hi s2 : Nat)) (.int .u64 (lo s2 : Nat)))
  have z2 := ((((HR10.out.r6.other (w.heap.size + 1 + 1 + 1 + 1) (by omega) (.int .u64 (hi p3 : Nat)) (.int .u64 (lo p3 : Nat))).other (w.heap.size + 1 + 1 + 1 + 1 + 1) (by omega) (.int .u64 (hi q2 : Nat)) (.int .u64 (lo q2 : Nat))).same r3).other (w.heap.size + 1 + 1 + 1 + 1 + 1 + 1 + 1) (by omega) (.int .u64 (hi s2 : Nat)) (.int .u64 (lo s2 : Nat)))
  have z3 := ((((HR10.out.r7.other (w.heap.size + 1 + 1 + 1 + 1) (by omega) (.int .u64 (hi p3 : Nat)) (.int .u64 (lo p3 : Nat))).other (w.heap.size + 1 + 1 + 1 + 1 + 1) (by omega) (.int .u64 (hi q2 : Nat)) (.int .u64 (lo q2 : Nat))).other (w.heap.size + 1 + 1 + 1 + 1 + 1 + 1) (by omega) (.int .u64 (hi r3 : Nat)) (.int .u64 (lo r3 : Nat))).same s2)
  have zb := ((((((((HR10.out.bel.setCell (p := ⟨w.heap.size + 1 + 1 + 1 + 1, 0, none⟩) (by simp only; omega) (.int .u64 (hi p3 : Nat))).setCell (p := ⟨w.heap.size + 1 + 1 + 1 + 1, 1, none⟩) (by simp only; omega) (.int .u64 (lo p3 : Nat))).setCell (p := ⟨w.heap.size + 1 + 1 + 1 + 1 + 1, 0, none⟩) (by simp only; omega) (.int .u64 (hi q2 : Nat))).setCell (p := ⟨w.heap.size + 1 + 1 + 1 + 1 + 1, 1, none⟩) (by simp only; omega) (.int .u64 (lo q2 : Nat))).setCell (p := ⟨w.heap.size + 1 + 1 + 1 + 1 + 1 + 1, 0, none⟩) (by simp only; omega) (.int .u64 (hi r3 : Nat))).setCell (p := ⟨w.heap.size + 1 + 1 + 1 + 1 + 1 + 1, 1, none⟩) (by simp only; omega) (.int .u64 (lo r3 : Nat))).setCell (p := ⟨w.heap.size + 1 + 1 + 1 + 1 + 1 + 1 + 1, 0, none⟩) (by simp only; omega) (.int .u64 (hi s2 : Nat))).setCell (p := ⟨w.heap.size + 1 + 1 + 1 + 1 + 1 + 1 + 1, 1, none⟩) (by simp only; omega) (.int .u64 (lo s2 : Nat))).drew
  obtain ⟨Z, hZ⟩ : ∃ Z, Z = World.drew ((((((((X10.setCell ⟨w.heap.size + 1 + 1 + 1 + 1, 0, none⟩ (.int .u64 (hi p3 : Nat))).setCell ⟨w.heap.size + 1 + 1 + 1 + 1, 1, none⟩ (.int .u64 (lo p3 : Nat))).setCell ⟨w.heap.size + 1 + 1 + 1 + 1 + 1, 0, none⟩ (.int .u64 (hi q2 : Nat))).setCell ⟨w.heap.size + 1 + 1 + 1 + 1 + 1, 1, none⟩ (.int .u64 (lo q2 : Nat))).setCell ⟨w.heap.size + 1 + 1 + 1 + 1 + 1 + 1, 0, none⟩ (.int .u64 (hi r3 : Nat))).setCell ⟨w.heap.size + 1 + 1 + 1 + 1 + 1 + 1, 1, none⟩ (.int .u64 (lo r3 : Nat))).setCell ⟨w.heap.size + 1 + 1 + 1 + 1 + 1 + 1 + 1, 0, none⟩ (.int .u64 (hi s2 : Nat))).setCell ⟨w.heap.size + 1 + 1 + 1 + 1 + 1 + 1 + 1, 1, none⟩ (.int .u64 (lo s2 : Nat))) := ⟨_, rfl⟩
  have y0 : Row2 Z (w.heap.size + 1 + 1 + 1 + 1) p3 := by rw [hZ]; exact z0.drew
  have y1 : Row2 Z (w.heap.size + 1 + 1 + 1 + 1 + 1) q2 := by rw [hZ]; exact z1.drew
  have y2 : Row2 Z (w.heap.size + 1 + 1 + 1 + 1 + 1 + 1) r3 := by rw [hZ]; exact z2.drew
  have y3 : Row2 Z (w.heap.size + 1 + 1 + 1 + 1 + 1 + 1 + 1) s2 := by rw [hZ]; exact z3.drew
  rw [← hZ] at zb
  rw [← hZ]
  clear hZ z0 z1 z2 z3
  unfold Row2 at y0 y1 y2 y3
  refine bodyPost_ret (results_four rfl _ _ (w.heap.size + 1 + 1 + 1 + 1) (w.heap.size + 1 + 1 + 1 + 1 + 1) (w.heap.size + 1 + 1 + 1 + 1 + 1 + 1) (w.heap.size + 1 + 1 + 1 + 1 + 1 + 1 + 1) 51 _ _ _ _ _ rfl rfl rfl rfl y0 y1 y2 y3 Try.underlying51 rfl (by kernel_rfl) (by kernel_rfl) (by kernel_rfl) (by kernel_rfl)) rfl ?_
  exact ⟨rfl, zb⟩
end Go.Proofs.Ytmkibkeacbhhaaa
