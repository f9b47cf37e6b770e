/-
  Contract of the reference's Rounds.
-/
import Derived.Test.YtmkibkeacbhhaaaRefRound
import Derived.Test.YtmkibkeacbhhaaaGrow
import Derived.Deep.RegionHeld3
namespace Go.Proofs.Ytmkibkeacbhhaaa
open Go.RowKit
set_option maxHeartbeats 400000
theorem wpOp_of {P : Program} {ops : Array Oper} {Q : Exit → Act → World → Prop} {i : Nat} {K : Act → World → Prop} {a : Act} {w : World} (o : Oper) (ho : ops[i]? = some o) (hg : o.guard = none) (h : o.wp P a w K Q) : wpOp P ops Q i K a w := by
  unfold wpOp
  have hw : Region.wanted o (yielded ops a.tmps) = true := by simp [Region.wanted, hg]
  simp only [ho, hw, if_true]
  exact .inl h
theorem eval_tmp {a : Act} {t : Tmp} {v : Value} (h : a.tmps[t]? = some v) : a.eval (.tmp t) = v := by
  simp [Act.eval, Array.getD_eq_getD_getElem?, h]
def noDstB (ops : Array Oper) (n t : Nat) : Bool := (List.range n).all fun i => !decide (dstOf ops i = some t)
theorem Agree.keeps {ops : Array Oper} {n : Nat} {a0 : Act} {w0 : World} {G : Nat → Value → World → Prop} {D : Nat → Value → Nat → Value → Prop} {listed : Array Bool} {a : Act} {w : World} (h : Agree ops n a0 w0 G D listed a w) (t : Nat) (v : Value) (hno : noDstB ops n t = true) (hv : a0.tmps[t]? = some v) : a.tmps[t]? = some v := by
  refine (h.old t fun i hi _ e => ?_).trans hv
  have := List.all_eq_true.1 hno i (List.mem_range.2 hi)
  simp [e] at this
theorem Agree.slot {ops : Array Oper} {n : Nat} {a0 : Act} {w0 : World} {G : Nat → Value → World → Prop} {D : Nat → Value → Nat → Value → Prop} {listed : Array Bool} {a : Act} {w : World} (h : Agree ops n a0 w0 G D listed a w) (i t : Nat) (hi : i < n) (hl : listed.getD i false = true) (ht : dstOf ops i = some t) : ∃ v, a.tmps[t]? = some v ∧ G i v w := by
  obtain ⟨t', v, e1, e2, e3⟩ := h.new i hi hl
  obtain rfl : t = t' := Option.some.inj (ht.symm.trans e1)
  exact ⟨v, e2, e3⟩
theorem Agree.whole {ops : Array Oper} {n : Nat} {a0 : Act} {w0 : World} {G : Nat → Value → World → Prop} {D : Nat → Value → Nat → Value → Prop} {listed : Array Bool} {a : Act} {w : World} (h : Agree ops n a0 w0 G D listed a w) (ps : List (Nat × Value))
    (hts : ∀ i, i < n → ∃ t, dstOf ops i = some t ∧ t ∈ ps.map (·.1)) (hv : ∀ p ∈ ps, a.tmps[p.1]? = some p.2) : a = ⟨ps.foldl (fun z p => z.setIfInBounds p.1 p.2) a0.tmps, a0.defers⟩ := by
  have e := set_all ps a0.tmps a.tmps h.size hv fun t ht => h.old t fun i hi _ e => by
    obtain ⟨t', e', hm⟩ := hts i hi
    obtain rfl : t' = t := Option.some.inj (e'.symm.trans e)
    obtain ⟨q, hq, he⟩ := List.mem_map.1 hm
    exact ht q hq he
  have d := h.defers
  cases a
  simp only at e d
  rw [e, d]
/-- four boxes at whatever blocks behind the two first -/
structure Q4 (w X : World) (ga gb gc gd p q r s : Nat) : Prop where
  bel : Below w.heap.size w X
  ra : Row2 X ga p
  rb : Row2 X gb q
  rc : Row2 X gc r
  rd : Row2 X gd s
  res : X.heap[w.heap.size + 1]? = some (.cells #[.int .u64 0, .int .u64 0, .int .u64 0, .int .u64 0] 30 (0, 0))
theorem Q4.below {w X Y : World} {ga gb gc gd p q r s : Nat} (h : Q4 w X ga gb gc gd p q r s) (hb : Below X.heap.size X Y) : Q4 w Y ga gb gc gd p q r s :=
  ⟨below_then h.bel hb, h.ra.below hb, h.rb.below hb, h.rc.below hb, h.rd.below hb, row_below h.res hb⟩
theorem res_far {X : World} {k g : Nat} {x : Obj} (h : X.heap[k]? = some x) (hk : k ≠ g) (a b : Value) : ((X.setCell ⟨g, 0, none⟩ a).setCell ⟨g, 1, none⟩ b).heap[k]? = some x := by
  rw [heap_setCell_other _ _ k _ hk, heap_setCell_other _ _ k _ hk]
  exact h
theorem Q4.set {w X : World} {ga gb gc gd p q r s : Nat} (h : Q4 w X ga gb gc gd p q r s) (hab : ga ≠ gb) (hac : ga ≠ gc) (had : ga ≠ gd) (hbc : gb ≠ gc) (hbd : gb ≠ gd) (hcd : gc ≠ gd) (ha : w.heap.size + 2 ≤ ga) (hb : w.heap.size + 2 ≤ gb) (hc : w.heap.size + 2 ≤ gc) (hd : w.heap.size + 2 ≤ gd) (p' q' r' s' : Nat) :
    Q4 w ((((((((X.setCell ⟨ga, 0, none⟩ (.int .u64 (hi p' : Nat))).setCell ⟨ga, 1, none⟩ (.int .u64 (lo p' : Nat))).setCell ⟨gb, 0, none⟩ (.int .u64 (hi q' : Nat))).setCell ⟨gb, 1, none⟩ (.int .u64 (lo q' : Nat))).setCell ⟨gc, 0, none⟩ (.int .u64 (hi r' : Nat))).setCell ⟨gc, 1, none⟩ (.int .u64 (lo r' : Nat))).setCell ⟨gd, 0, none⟩ (.int .u64 (hi s' : Nat))).setCell ⟨gd, 1, none⟩ (.int .u64 (lo s' : Nat))) ga gb gc gd p' q' r' s' := by
  refine ⟨?_, ?_, ?_, ?_, ?_, ?_⟩
  · exact (((((((h.bel.setCell (by simp only; omega) _).setCell (by simp only; omega) _).setCell (by simp only; omega) _).setCell (by simp only; omega) _).setCell (by simp only; omega) _).setCell (by simp only; omega) _).setCell (by simp only; omega) _).setCell (by simp only; omega) _
  · exact (((h.ra.same p').other gb hab _ _).other gc hac _ _).other gd had _ _
  · exact (((h.rb.other ga (Ne.symm hab) _ _).same q').other gc hbc _ _).other gd hbd _ _
  · exact (((h.rc.other ga (Ne.symm hac) _ _).other gb (Ne.symm hbc) _ _).same r').other gd hcd _ _
  · exact (((h.rd.other ga (Ne.symm had) _ _).other gb (Ne.symm hbd) _ _).other gc (Ne.symm hcd) _ _).same s'
  · exact res_far (res_far (res_far (res_far h.res (by omega) _ _) (by omega) _ _) (by omega) _ _) (by omega) _ _
theorem Row2.two {X : World} {g x : Nat} (h : Row2 X g x) : X.cell? ⟨g, 0, none⟩ = some (.int .u64 (hi x : Nat)) ∧ X.cell? ⟨g, 1, none⟩ = some (.int .u64 (lo x : Nat)) := ⟨h.cells.1, h.cells.2.1⟩
theorem Q4.eight {w X : World} {ga gb gc gd p q r s : Nat} (h : Q4 w X ga gb gc gd p q r s) :
    (X.cell? ⟨ga, 0, none⟩ = some (.int .u64 (hi p : Nat)) ∧ X.cell? ⟨ga, 1, none⟩ = some (.int .u64 (lo p : Nat))) ∧ (X.cell? ⟨gb, 0, none⟩ = some (.int .u64 (hi q : Nat)) ∧ X.cell? ⟨gb, 1, none⟩ = some (.int .u64 (lo q : Nat))) ∧ (X.cell? ⟨gc, 0, none⟩ = some (.int .u64 (hi r : Nat)) ∧ X.cell? ⟨gc, 1, none⟩ = some (.int .u64 (lo r : Nat))) ∧ (X.cell? ⟨gd, 0, none⟩ = some (.int .u64 (hi s : Nat)) ∧ X.cell? ⟨gd, 1, none⟩ = some (.int .u64 (lo s : Nat))) :=
  ⟨h.ra.two, h.rb.two, h.rc.two, h.rd.two⟩
theorem Row2.far4 {X : World} {g x k : Nat} (h : Row2 X g x) (hk : g ≠ k) (a b c d : Value) : Row2 ((((X.setCell ⟨k, 0, none⟩ a).setCell ⟨k, 1, none⟩ b).setCell ⟨k, 2, none⟩ c).setCell ⟨k, 3, none⟩ d) g x := (other4 _ _ _ _ _ _ _ hk).trans h
theorem Q4.eight8 {w X : World} {ga gb gc gd p q r s : Nat} (h : Q4 w X ga gb gc gd p q r s) {k : Nat} (ka : ga ≠ k) (kb : gb ≠ k) (kc : gc ≠ k) (kd : gd ≠ k) (a b c d : Value) :
    (((((X.setCell ⟨k, 0, none⟩ a).setCell ⟨k, 1, none⟩ b).setCell ⟨k, 2, none⟩ c).setCell ⟨k, 3, none⟩ d).cell? ⟨ga, 0, none⟩ = some (.int .u64 (hi p : Nat)) ∧ ((((X.setCell ⟨k, 0, none⟩ a).setCell ⟨k, 1, none⟩ b).setCell ⟨k, 2, none⟩ c).setCell ⟨k, 3, none⟩ d).cell? ⟨ga, 1, none⟩ = some (.int .u64 (lo p : Nat))) ∧ (((((X.setCell ⟨k, 0, none⟩ a).setCell ⟨k, 1, none⟩ b).setCell ⟨k, 2, none⟩ c).setCell ⟨k, 3, none⟩ d).cell? ⟨gb, 0, none⟩ = some (.int .u64 (hi q : Nat)) ∧ ((((X.setCell ⟨k, 0, none⟩ a).setCell ⟨k, 1, none⟩ b).setCell ⟨k, 2, none⟩ c).setCell ⟨k, 3, none⟩ d).cell? ⟨gb, 1, none⟩ = some (.int .u64 (lo q : Nat))) ∧ (((((X.setCell ⟨k, 0, none⟩ a).setCell ⟨k, 1, none⟩ b).setCell ⟨k, 2, none⟩ c).setCell ⟨k, 3, none⟩ d).cell? ⟨gc, 0, none⟩ = some (.int .u64 (hi r : Nat)) ∧ ((((X.setCell ⟨k, 0, none⟩ a).setCell ⟨k, 1, none⟩ b).setCell ⟨k, 2, none⟩ c).setCell ⟨k, 3, none⟩ d).cell? ⟨gc, 1, none⟩ = some (.int .u64 (lo r : Nat))) ∧ (((((X.setCell ⟨k, 0, none⟩ a).setCell ⟨k, 1, none⟩ b).setCell ⟨k, 2, none⟩ c).setCell ⟨k, 3, none⟩ d).cell? ⟨gd, 0, none⟩ = some (.int .u64 (hi s : Nat)) ∧ ((((X.setCell ⟨k, 0, none⟩ a).setCell ⟨k, 1, none⟩ b).setCell ⟨k, 2, none⟩ c).setCell ⟨k, 3, none⟩ d).cell? ⟨gd, 1, none⟩ = some (.int .u64 (lo s : Nat))) :=
  ⟨(h.ra.far4 ka a b c d).two, (h.rb.far4 kb a b c d).two, (h.rc.far4 kc a b c d).two, (h.rd.far4 kd a b c d).two⟩
/-- a new block of two noughts, behind N -/
def NewRow (N : Nat) (v : Value) (w : World) : Prop := ∃ g, v = .pointer (some ⟨g, 0, none⟩) ∧ N ≤ g ∧ w.heap[g]? = some (.cells #[.int .u64 0, .int .u64 0] 51 (0, 0))
/-- what the operations of the first statement yield -/
def G16 (B p q r s : Nat) : Nat → Value → World → Prop
  | 0, v, _ => v = .pointer (some ⟨B, 0, none⟩)
  | 1, v, _ => v = .int .u64 (p : Int)
  | 2, v, _ => v = .agg #[.int .u64 (hi p : Nat), .int .u64 (lo p : Nat)]
  | 3, v, _ => v = .pointer (some ⟨B, 1, none⟩)
  | 4, v, _ => v = .int .u64 (q : Int)
  | 5, v, _ => v = .agg #[.int .u64 (hi q : Nat), .int .u64 (lo q : Nat)]
  | 6, v, _ => v = .pointer (some ⟨B, 2, none⟩)
  | 7, v, _ => v = .int .u64 (r : Int)
  | 8, v, _ => v = .agg #[.int .u64 (hi r : Nat), .int .u64 (lo r : Nat)]
  | 9, v, _ => v = .pointer (some ⟨B, 3, none⟩)
  | 10, v, _ => v = .int .u64 (s : Int)
  | 11, v, _ => v = .agg #[.int .u64 (hi s : Nat), .int .u64 (lo s : Nat)]
  | 12, v, w => NewRow (B + 2) v w
  | 13, v, w => NewRow (B + 2) v w
  | 14, v, w => NewRow (B + 2) v w
  | 15, v, w => NewRow (B + 2) v w
  | _, _, _ => True
theorem NewRow.below {N : Nat} {v : Value} {w w' : World} (h : NewRow N v w) (hb : Below w.heap.size w w') : NewRow N v w' := by
  obtain ⟨g, e, hg, hr⟩ := h
  exact ⟨g, e, hg, row_below hr hb⟩
theorem G16.below {B p q r s : Nat} : ∀ (i : Nat) (v : Value) (w w' : World), G16 B p q r s i v w → Below w.heap.size w w' → G16 B p q r s i v w'
  | 0, _, _, _, h, _ => h
  | 1, _, _, _, h, _ => h
  | 2, _, _, _, h, _ => h
  | 3, _, _, _, h, _ => h
  | 4, _, _, _, h, _ => h
  | 5, _, _, _, h, _ => h
  | 6, _, _, _, h, _ => h
  | 7, _, _, _, h, _ => h
  | 8, _, _, _, h, _ => h
  | 9, _, _, _, h, _ => h
  | 10, _, _, _, h, _ => h
  | 11, _, _, _, h, _ => h
  | 12, _, _, _, h, hb => NewRow.below h hb
  | 13, _, _, _, h, hb => NewRow.below h hb
  | 14, _, _, _, h, hb => NewRow.below h hb
  | 15, _, _, _, h, hb => NewRow.below h hb
  | _ + 16, _, _, _, _, _ => trivial
def D16 (i : Nat) (v : Value) (j : Nat) (v' : Value) : Prop := 12 ≤ i → i < 16 → 12 ≤ j → j < 16 → v ≠ v'
theorem D16.low {i j : Nat} {v v' : Value} (h : i < 12) : D16 i v j v' ∧ D16 j v' i v := ⟨fun h1 => by omega, fun _ _ h3 => by omega⟩
theorem G16.new {B p q r s i : Nat} {v : Value} {w : World} (h : G16 B p q r s i v w) (h1 : 12 ≤ i) (h2 : i < 16) : NewRow (B + 2) v w := by
  have : i = 12 ∨ i = 13 ∨ i = 14 ∨ i = 15 := by omega
  rcases this with rfl | rfl | rfl | rfl <;> exact h
theorem D16.fresh {B p q r s i j : Nat} {v' : Value} {w : World} (h : G16 B p q r s j v' w) : D16 i (.pointer (some ⟨w.heap.size, 0, none⟩)) j v' ∧ D16 j v' i (.pointer (some ⟨w.heap.size, 0, none⟩)) := by
  constructor
  · intro _ _ h3 h4 e
    obtain ⟨g, e2, _, hr⟩ := h.new h3 h4
    rw [e2] at e
    have := (Array.getElem?_eq_some_iff.1 hr).1
    injection e with e; injection e with e; injection e with e
    omega
  · intro h3 h4 _ _ e
    obtain ⟨g, e2, _, hr⟩ := h.new h3 h4
    rw [e2] at e
    have := (Array.getElem?_eq_some_iff.1 hr).1
    injection e with e; injection e with e; injection e with e
    omega
set_option maxRecDepth 100000 in
set_option maxHeartbeats 4000000 in
theorem refRounds_any (p q r s n : Nat) (w : World) (h : (⟨p, q, r, s⟩ : St).ok) (hn : n ≤ 100) (y : St) (hy : y = St.rounds n ⟨p, q, r, s⟩) :
    Calls Try.prog 12 #[.agg #[.int .u64 p, .int .u64 q, .int .u64 r, .int .u64 s], .int .i64 n] w fun e w' => e = .returned (.agg #[.int .u64 (y.p : Int), .int .u64 (y.q : Int), .int .u64 (y.r : Int), .int .u64 (y.s : Int)]) ∧ Below w.heap.size w w' := by
  have hok := h
  obtain ⟨hp, hq, hr, hs⟩ := h
  simp only at hp hq hr hs
  obtain ⟨W0, hW0⟩ : ∃ W, W = (w.alloc (.cells #[.int .u64 p, .int .u64 q, .int .u64 r, .int .u64 s] 30)).alloc (.cells #[.int .u64 0, .int .u64 0, .int .u64 0, .int .u64 0] 30) := ⟨_, rfl⟩
  have hr0 : W0.heap[w.heap.size]? = some (.cells #[.int .u64 p, .int .u64 q, .int .u64 r, .int .u64 s] 30 (0, 0)) := by rw [hW0]; exact heap_alloc2_old w _ _
  have hr1 : W0.heap[w.heap.size + 1]? = some (.cells #[.int .u64 0, .int .u64 0, .int .u64 0, .int .u64 0] 30 (0, 0)) := by rw [hW0]; exact heap_alloc2_new w _ _
  have hb0 : Below w.heap.size w W0 := by rw [hW0]; exact ((Below.refl _ _).alloc (Nat.le_refl _) _).alloc (by simp) _
  have hsz : W0.heap.size = w.heap.size + 2 := by rw [hW0]; simp
  have HW0 := Lib.hid hW0; clear hW0
  go_enter Try.func12, Try.ntmps12
  go_wp2_with fail
  rw [← HW0.out]
  refine wp_region_grow 16 (by kernel_rfl) (by kernel_rfl) (G16 w.heap.size p q r s) D16 G16.below ?_ ?_ ?_
  · intro i hi
    have hc : i = 0 ∨ i = 1 ∨ i = 2 ∨ i = 3 ∨ i = 4 ∨ i = 5 ∨ i = 6 ∨ i = 7 ∨ i = 8 ∨ i = 9 ∨ i = 10 ∨ i = 11 ∨ i = 12 ∨ i = 13 ∨ i = 14 ∨ i = 15 := by omega
    rcases hc with rfl | rfl | rfl | rfl | rfl | rfl | rfl | rfl | rfl | rfl | rfl | rfl | rfl | rfl | rfl | rfl <;> exact ⟨_, rfl, by simp⟩
  · intro i hi listed a w' hag hdep
    have hbox := row_below (w := W0.drew) hr0 hag.bel
    obtain ⟨k0, k1, k2, k3, _⟩ := cells4 hbox
    have e2 := hag.keeps 2 _ (by kernel_rfl) rfl
    have hN : w.heap.size + 2 ≤ w'.heap.size := by rw [← hsz]; exact hag.bel.size
    clear hbox
    have hc : i = 0 ∨ i = 1 ∨ i = 2 ∨ i = 3 ∨ i = 4 ∨ i = 5 ∨ i = 6 ∨ i = 7 ∨ i = 8 ∨ i = 9 ∨ i = 10 ∨ i = 11 ∨ i = 12 ∨ i = 13 ∨ i = 14 ∨ i = 15 := by omega
    rcases hc with rfl | rfl | rfl | rfl | rfl | rfl | rfl | rfl | rfl | rfl | rfl | rfl | rfl | rfl | rfl | rfl
    · refine wpOp_of _ rfl rfl ?_
      unfold Oper.wp execOp
      go_simp
      exact ⟨_, rfl, Below.refl _ _, rfl, fun j v' _ _ _ => D16.low (by decide)⟩
    · obtain ⟨v, hv, hg⟩ := hag.slot 0 10 (by decide) (hdep 0 ⟨_, rfl, ⟨0, .data⟩, by simp, rfl, rfl⟩) rfl
      obtain rfl : v = _ := hg
      refine wpOp_of _ rfl rfl ?_
      unfold Oper.wp execOp
      go_simp
      exact ⟨_, rfl, Below.refl _ _, rfl, fun j v' _ _ _ => D16.low (by decide)⟩
    · obtain ⟨v, hv, hg⟩ := hag.slot 1 11 (by decide) (hdep 1 ⟨_, rfl, ⟨1, .data⟩, by simp, rfl, rfl⟩) rfl
      obtain rfl : v = _ := hg
      refine wpOp_of _ rfl rfl ?_
      unfold Oper.wp execOp
      have hev := eval_tmp hv
      go_simp
      refine (of_any p w' hp).mono ?_
      rintro e w'' ⟨rfl, hb⟩
      exact ⟨_, rfl, hb, rfl, fun j v' _ _ _ => D16.low (by decide)⟩
    · refine wpOp_of _ rfl rfl ?_
      unfold Oper.wp execOp
      go_simp
      exact ⟨_, rfl, Below.refl _ _, rfl, fun j v' _ _ _ => D16.low (by decide)⟩
    · obtain ⟨v, hv, hg⟩ := hag.slot 3 13 (by decide) (hdep 3 ⟨_, rfl, ⟨3, .data⟩, by simp, rfl, rfl⟩) rfl
      obtain rfl : v = _ := hg
      refine wpOp_of _ rfl rfl ?_
      unfold Oper.wp execOp
      go_simp
      exact ⟨_, rfl, Below.refl _ _, rfl, fun j v' _ _ _ => D16.low (by decide)⟩
    · obtain ⟨v, hv, hg⟩ := hag.slot 4 14 (by decide) (hdep 4 ⟨_, rfl, ⟨4, .data⟩, by simp, rfl, rfl⟩) rfl
      obtain rfl : v = _ := hg
      refine wpOp_of _ rfl rfl ?_
      unfold Oper.wp execOp
      have hev := eval_tmp hv
      go_simp
      refine (of_any q w' hq).mono ?_
      rintro e w'' ⟨rfl, hb⟩
      exact ⟨_, rfl, hb, rfl, fun j v' _ _ _ => D16.low (by decide)⟩
    · refine wpOp_of _ rfl rfl ?_
      unfold Oper.wp execOp
      go_simp
      exact ⟨_, rfl, Below.refl _ _, rfl, fun j v' _ _ _ => D16.low (by decide)⟩
    · obtain ⟨v, hv, hg⟩ := hag.slot 6 16 (by decide) (hdep 6 ⟨_, rfl, ⟨6, .data⟩, by simp, rfl, rfl⟩) rfl
      obtain rfl : v = _ := hg
      refine wpOp_of _ rfl rfl ?_
      unfold Oper.wp execOp
      go_simp
      exact ⟨_, rfl, Below.refl _ _, rfl, fun j v' _ _ _ => D16.low (by decide)⟩
    · obtain ⟨v, hv, hg⟩ := hag.slot 7 17 (by decide) (hdep 7 ⟨_, rfl, ⟨7, .data⟩, by simp, rfl, rfl⟩) rfl
      obtain rfl : v = _ := hg
      refine wpOp_of _ rfl rfl ?_
      unfold Oper.wp execOp
      have hev := eval_tmp hv
      go_simp
      refine (of_any r w' hr).mono ?_
      rintro e w'' ⟨rfl, hb⟩
      exact ⟨_, rfl, hb, rfl, fun j v' _ _ _ => D16.low (by decide)⟩
    · refine wpOp_of _ rfl rfl ?_
      unfold Oper.wp execOp
      go_simp
      exact ⟨_, rfl, Below.refl _ _, rfl, fun j v' _ _ _ => D16.low (by decide)⟩
    · obtain ⟨v, hv, hg⟩ := hag.slot 9 19 (by decide) (hdep 9 ⟨_, rfl, ⟨9, .data⟩, by simp, rfl, rfl⟩) rfl
      obtain rfl : v = _ := hg
      refine wpOp_of _ rfl rfl ?_
      unfold Oper.wp execOp
      go_simp
      exact ⟨_, rfl, Below.refl _ _, rfl, fun j v' _ _ _ => D16.low (by decide)⟩
    · obtain ⟨v, hv, hg⟩ := hag.slot 10 20 (by decide) (hdep 10 ⟨_, rfl, ⟨10, .data⟩, by simp, rfl, rfl⟩) rfl
      obtain rfl : v = _ := hg
      refine wpOp_of _ rfl rfl ?_
      unfold Oper.wp execOp
      have hev := eval_tmp hv
      go_simp
      refine (of_any s w' hs).mono ?_
      rintro e w'' ⟨rfl, hb⟩
      exact ⟨_, rfl, hb, rfl, fun j v' _ _ _ => D16.low (by decide)⟩
    · refine wpOp_of _ rfl rfl ?_
      unfold Oper.wp execOp
      go_simp
      exact ⟨_, rfl, (Below.refl _ _).alloc (Nat.le_refl _) _, ⟨_, rfl, hN, heap_alloc_new w' _⟩, fun j v' _ _ hG => D16.fresh hG⟩
    · refine wpOp_of _ rfl rfl ?_
      unfold Oper.wp execOp
      go_simp
      exact ⟨_, rfl, (Below.refl _ _).alloc (Nat.le_refl _) _, ⟨_, rfl, hN, heap_alloc_new w' _⟩, fun j v' _ _ hG => D16.fresh hG⟩
    · refine wpOp_of _ rfl rfl ?_
      unfold Oper.wp execOp
      go_simp
      exact ⟨_, rfl, (Below.refl _ _).alloc (Nat.le_refl _) _, ⟨_, rfl, hN, heap_alloc_new w' _⟩, fun j v' _ _ hG => D16.fresh hG⟩
    · refine wpOp_of _ rfl rfl ?_
      unfold Oper.wp execOp
      go_simp
      exact ⟨_, rfl, (Below.refl _ _).alloc (Nat.le_refl _) _, ⟨_, rfl, hN, heap_alloc_new w' _⟩, fun j v' _ _ hG => D16.fresh hG⟩
  · intro listed a w' hall hag
    obtain ⟨v0, s0, g0⟩ := hag.slot 0 10 (by decide) (hall 0 (by decide)) rfl
    obtain rfl : v0 = _ := g0
    obtain ⟨v1, s1, g1⟩ := hag.slot 1 11 (by decide) (hall 1 (by decide)) rfl
    obtain rfl : v1 = _ := g1
    obtain ⟨v2, s2, g2⟩ := hag.slot 2 12 (by decide) (hall 2 (by decide)) rfl
    obtain rfl : v2 = _ := g2
    obtain ⟨v3, s3, g3⟩ := hag.slot 3 13 (by decide) (hall 3 (by decide)) rfl
    obtain rfl : v3 = _ := g3
    obtain ⟨v4, s4, g4⟩ := hag.slot 4 14 (by decide) (hall 4 (by decide)) rfl
    obtain rfl : v4 = _ := g4
    obtain ⟨v5, s5, g5⟩ := hag.slot 5 15 (by decide) (hall 5 (by decide)) rfl
    obtain rfl : v5 = _ := g5
    obtain ⟨v6, s6, g6⟩ := hag.slot 6 16 (by decide) (hall 6 (by decide)) rfl
    obtain rfl : v6 = _ := g6
    obtain ⟨v7, s7, g7⟩ := hag.slot 7 17 (by decide) (hall 7 (by decide)) rfl
    obtain rfl : v7 = _ := g7
    obtain ⟨v8, s8, g8⟩ := hag.slot 8 18 (by decide) (hall 8 (by decide)) rfl
    obtain rfl : v8 = _ := g8
    obtain ⟨v9, s9, g9⟩ := hag.slot 9 19 (by decide) (hall 9 (by decide)) rfl
    obtain rfl : v9 = _ := g9
    obtain ⟨v10, s10, g10⟩ := hag.slot 10 20 (by decide) (hall 10 (by decide)) rfl
    obtain rfl : v10 = _ := g10
    obtain ⟨v11, s11, g11⟩ := hag.slot 11 21 (by decide) (hall 11 (by decide)) rfl
    obtain rfl : v11 = _ := g11
    obtain ⟨v12, s12, g12⟩ := hag.slot 12 5 (by decide) (hall 12 (by decide)) rfl
    obtain ⟨v13, s13, g13⟩ := hag.slot 13 6 (by decide) (hall 13 (by decide)) rfl
    obtain ⟨v14, s14, g14⟩ := hag.slot 14 7 (by decide) (hall 14 (by decide)) rfl
    obtain ⟨v15, s15, g15⟩ := hag.slot 15 8 (by decide) (hall 15 (by decide)) rfl
    have nab := hag.apart 12 13 5 6 _ _ (by decide) (by decide) (by decide) (hall 12 (by decide)) (hall 13 (by decide)) rfl rfl s12 s13 (by decide) (by decide) (by decide) (by decide)
    have nac := hag.apart 12 14 5 7 _ _ (by decide) (by decide) (by decide) (hall 12 (by decide)) (hall 14 (by decide)) rfl rfl s12 s14 (by decide) (by decide) (by decide) (by decide)
    have nad := hag.apart 12 15 5 8 _ _ (by decide) (by decide) (by decide) (hall 12 (by decide)) (hall 15 (by decide)) rfl rfl s12 s15 (by decide) (by decide) (by decide) (by decide)
    have nba := hag.apart 13 12 6 5 _ _ (by decide) (by decide) (by decide) (hall 13 (by decide)) (hall 12 (by decide)) rfl rfl s13 s12 (by decide) (by decide) (by decide) (by decide)
    have nbc := hag.apart 13 14 6 7 _ _ (by decide) (by decide) (by decide) (hall 13 (by decide)) (hall 14 (by decide)) rfl rfl s13 s14 (by decide) (by decide) (by decide) (by decide)
    have nbd := hag.apart 13 15 6 8 _ _ (by decide) (by decide) (by decide) (hall 13 (by decide)) (hall 15 (by decide)) rfl rfl s13 s15 (by decide) (by decide) (by decide) (by decide)
    have nca := hag.apart 14 12 7 5 _ _ (by decide) (by decide) (by decide) (hall 14 (by decide)) (hall 12 (by decide)) rfl rfl s14 s12 (by decide) (by decide) (by decide) (by decide)
    have ncb := hag.apart 14 13 7 6 _ _ (by decide) (by decide) (by decide) (hall 14 (by decide)) (hall 13 (by decide)) rfl rfl s14 s13 (by decide) (by decide) (by decide) (by decide)
    have ncd := hag.apart 14 15 7 8 _ _ (by decide) (by decide) (by decide) (hall 14 (by decide)) (hall 15 (by decide)) rfl rfl s14 s15 (by decide) (by decide) (by decide) (by decide)
    have nda := hag.apart 15 12 8 5 _ _ (by decide) (by decide) (by decide) (hall 15 (by decide)) (hall 12 (by decide)) rfl rfl s15 s12 (by decide) (by decide) (by decide) (by decide)
    have ndb := hag.apart 15 13 8 6 _ _ (by decide) (by decide) (by decide) (hall 15 (by decide)) (hall 13 (by decide)) rfl rfl s15 s13 (by decide) (by decide) (by decide) (by decide)
    have ndc := hag.apart 15 14 8 7 _ _ (by decide) (by decide) (by decide) (hall 15 (by decide)) (hall 14 (by decide)) rfl rfl s15 s14 (by decide) (by decide) (by decide) (by decide)
    obtain ⟨ga, rfl, hga, hra⟩ := g12
    obtain ⟨gb, rfl, hgb, hrb⟩ := g13
    obtain ⟨gc, rfl, hgc, hrc⟩ := g14
    obtain ⟨gd, rfl, hgd, hrd⟩ := g15
    have nab : ga ≠ gb := fun e => nab (by rw [e])
    have nac : ga ≠ gc := fun e => nac (by rw [e])
    have nad : ga ≠ gd := fun e => nad (by rw [e])
    have nba : gb ≠ ga := fun e => nba (by rw [e])
    have nbc : gb ≠ gc := fun e => nbc (by rw [e])
    have nbd : gb ≠ gd := fun e => nbd (by rw [e])
    have nca : gc ≠ ga := fun e => nca (by rw [e])
    have ncb : gc ≠ gb := fun e => ncb (by rw [e])
    have ncd : gc ≠ gd := fun e => ncd (by rw [e])
    have nda : gd ≠ ga := fun e => nda (by rw [e])
    have ndb : gd ≠ gb := fun e => ndb (by rw [e])
    have ndc : gd ≠ gc := fun e => ndc (by rw [e])
    have ha := hag.whole [(10, .pointer (some ⟨w.heap.size, 0, none⟩)), (11, .int .u64 (p : Int)), (12, .agg #[.int .u64 (hi p : Nat), .int .u64 (lo p : Nat)]), (13, .pointer (some ⟨w.heap.size, 1, none⟩)), (14, .int .u64 (q : Int)), (15, .agg #[.int .u64 (hi q : Nat), .int .u64 (lo q : Nat)]), (16, .pointer (some ⟨w.heap.size, 2, none⟩)), (17, .int .u64 (r : Int)), (18, .agg #[.int .u64 (hi r : Nat), .int .u64 (lo r : Nat)]), (19, .pointer (some ⟨w.heap.size, 3, none⟩)), (20, .int .u64 (s : Int)), (21, .agg #[.int .u64 (hi s : Nat), .int .u64 (lo s : Nat)]), (5, .pointer (some ⟨ga, 0, none⟩)), (6, .pointer (some ⟨gb, 0, none⟩)), (7, .pointer (some ⟨gc, 0, none⟩)), (8, .pointer (some ⟨gd, 0, none⟩))] (by
      intro i hi
      have hc : i = 0 ∨ i = 1 ∨ i = 2 ∨ i = 3 ∨ i = 4 ∨ i = 5 ∨ i = 6 ∨ i = 7 ∨ i = 8 ∨ i = 9 ∨ i = 10 ∨ i = 11 ∨ i = 12 ∨ i = 13 ∨ i = 14 ∨ i = 15 := by omega
      rcases hc with rfl | rfl | rfl | rfl | rfl | rfl | rfl | rfl | rfl | rfl | rfl | rfl | rfl | rfl | rfl | rfl <;> exact ⟨_, rfl, by simp⟩) (List.forall_mem_cons.2 ⟨s0, List.forall_mem_cons.2 ⟨s1, List.forall_mem_cons.2 ⟨s2, List.forall_mem_cons.2 ⟨s3, List.forall_mem_cons.2 ⟨s4, List.forall_mem_cons.2 ⟨s5, List.forall_mem_cons.2 ⟨s6, List.forall_mem_cons.2 ⟨s7, List.forall_mem_cons.2 ⟨s8, List.forall_mem_cons.2 ⟨s9, List.forall_mem_cons.2 ⟨s10, List.forall_mem_cons.2 ⟨s11, List.forall_mem_cons.2 ⟨s12, List.forall_mem_cons.2 ⟨s13, List.forall_mem_cons.2 ⟨s14, List.forall_mem_cons.2 ⟨s15, fun p hp => absurd hp (by simp)⟩⟩⟩⟩⟩⟩⟩⟩⟩⟩⟩⟩⟩⟩⟩⟩)
    simp only [List.foldl_cons, List.foldl_nil, List.setIfInBounds_toArray, List.set_cons_succ, List.set_cons_zero] at ha
    have hlit := ha
    clear ha
    have hbel := below_then (hb0.drew) hag.bel
    have hres := row_below (w := W0.drew) hr1 hag.bel
    have xa : Row2 w' ga 0 := hra
    have xb : Row2 w' gb 0 := hrb
    have xc : Row2 w' gc 0 := hrc
    have xd : Row2 w' gd 0 := hrd
    clear hra hrb hrc hrd hag hall hr0 hr1 s0 s1 s2 s3 s4 s5 s6 s7 s8 s9 s10 s11 s12 s13 s14 s15
    rw [hlit]
    clear hlit a listed
    simp only [List.drop_succ_cons, List.drop_zero]
    have hB : w.heap.size + 2 ≤ ga := hga
    obtain ⟨a0, a1, a2⟩ := xa.cells
    obtain ⟨b0, b1, b2⟩ := xb.cells
    obtain ⟨c0, c1, c2⟩ := xc.cells
    obtain ⟨d0, d1, d2⟩ := xd.cells
    have hQ0 : Q4 w w' ga gb gc gd 0 0 0 0 := ⟨hbel, xa, xb, xc, xd, hres⟩
    have hQ := hQ0.set nab nac nad nbc nbd ncd hga hgb hgc hgd p q r s
    have HQ := Lib.hid hQ
    clear hQ hQ0 xa xb xc xd hbel hres
    go_wp2_with fail
    clear a0 a1 a2 b0 b1 b2 c0 c1 c2 d0 d1 d2
    go_loopw [9] (fun i wr => ∃ (j a b c d : Nat), j ≤ n ∧ i = .int .i64 j ∧ Hid (St.mk a b c d = St.rounds j ⟨p, q, r, s⟩) ∧ Hid (Q4 w wr ga gb gc gd a b c d)) (fun i _ => n - (intOf i).toNat)
    case atStart => exact ⟨0, p, q, r, s, by omega, rfl, (St.rounds_zero _).symm, HQ.out⟩
    case round =>
      obtain ⟨j, a, b, c, d, hj, rfl, hx, hQ⟩ := hrel
      clear HQ
      obtain ⟨a0, a1, a2⟩ := hQ.out.ra.cells
      obtain ⟨b0, b1, b2⟩ := hQ.out.rb.cells
      obtain ⟨c0, c1, c2⟩ := hQ.out.rc.cells
      obtain ⟨d0, d1, d2⟩ := hQ.out.rd.cells
      have hzok : St.ok ⟨a, b, c, d⟩ := by rw [hx.out]; exact St.rounds_ok j hok
      by_cases hlt : j < n
      · obtain ⟨z, hz⟩ : ∃ z, z = St.round ⟨a, b, c, d⟩ := ⟨_, rfl⟩
        have hc := refRound_any a b c d wr hzok z hz
        have hz2 : z = St.rounds (j + 1) ⟨p, q, r, s⟩ := by rw [St.rounds_succ, ← hx.out, hz]
        obtain ⟨e, f, g, k⟩ := z
        simp only at hc
        have HC := Lib.hid hc; clear hc
        have HZ := Lib.hid hz2; clear hz2 hz hzok
        go_wp2_with fail
        refine HC.out.mono ?_
        rintro e' X ⟨rfl, hb⟩
        have HX := Lib.hid (hQ.out.below hb); clear hb
        clear a0 a1 a2 b0 b1 b2 c0 c1 c2 d0 d1 d2
        obtain ⟨a0, a1, a2⟩ := HX.out.ra.cells
        obtain ⟨b0, b1, b2⟩ := HX.out.rb.cells
        obtain ⟨c0, c1, c2⟩ := HX.out.rc.cells
        obtain ⟨d0, d1, d2⟩ := HX.out.rd.cells
        go_wp2_with fail
        go_roundw
        case rel => exact ⟨j + 1, e, f, g, k, by omega, by go_num, HZ.out, HX.out.set nab nac nad nbc nbd ncd hga hgb hgc hgd e f g k⟩
        case measure => simp [intOf]; omega
      · have hjn : j = n := by omega
        subst hjn
        have hyy : y = ⟨a, b, c, d⟩ := by rw [hy, hx.out]
        clear hy
        subst hyy
        obtain ⟨oa, ob, oc, od⟩ := hzok
        simp only at oa ob oc od
        have wa := fun W => whole_any a W oa
        have wb := fun W => whole_any b W ob
        have wc := fun W => whole_any c W oc
        have wd := fun W => whole_any d W od
        have WA := Lib.hid wa; clear wa
        have WB := Lib.hid wb; clear wb
        have WC := Lib.hid wc; clear wc
        have WD := Lib.hid wd; clear wd
        have hz0 : Below wr.heap.size wr wr.drew := (Below.refl _ _).drew
        go_wp2_with fail
        go_region_held3 (fun X => (X.cell? ⟨ga, 0, none⟩ = some (.int .u64 (hi a : Nat)) ∧ X.cell? ⟨ga, 1, none⟩ = some (.int .u64 (lo a : Nat))) ∧ (X.cell? ⟨gb, 0, none⟩ = some (.int .u64 (hi b : Nat)) ∧ X.cell? ⟨gb, 1, none⟩ = some (.int .u64 (lo b : Nat))) ∧ (X.cell? ⟨gc, 0, none⟩ = some (.int .u64 (hi c : Nat)) ∧ X.cell? ⟨gc, 1, none⟩ = some (.int .u64 (lo c : Nat))) ∧ (X.cell? ⟨gd, 0, none⟩ = some (.int .u64 (hi d : Nat)) ∧ X.cell? ⟨gd, 1, none⟩ = some (.int .u64 (lo d : Nat)))) (first | exact Q4.eight (hQ.out.below hz0) | exact Q4.eight (hQ.out.below hzA) | exact Q4.eight (hQ.out.below hzB) | exact Q4.eight (hQ.out.below hzC) | exact Q4.eight (hQ.out.below hzD) | exact Q4.eight8 (hQ.out.below hzD) (by omega) (by omega) (by omega) (by omega) _ _ _ _) (first
          | (go_at_call 25; (with_reducible refine (WA.out _).mono ?_); rintro e wA ⟨rfl, hA⟩; have hzA := hz0.trans (hA.mono hz0.size))
          | (go_at_call 25; (with_reducible refine (WB.out _).mono ?_); rintro e wB ⟨rfl, hB⟩; have hzB := hzA.trans (hB.mono hzA.size))
          | (go_at_call 25; (with_reducible refine (WC.out _).mono ?_); rintro e wC ⟨rfl, hC⟩; have hzC := hzB.trans (hC.mono hzB.size))
          | (go_at_call 25; (with_reducible refine (WD.out _).mono ?_); rintro e wD ⟨rfl, hD⟩; have hzD := hzC.trans (hD.mono hzC.size); obtain ⟨m0, m1, m2, m3, m4⟩ := cells4 (hQ.out.below hzD).res))
        all_goals
          go_wp2_with fail
          refine bodyPost_ret (results_cell_row rfl _ _ (w.heap.size + 1) 30 _ (0, 0) _ rfl (store4 _ _ _ _ _ _ _ _ _ _ _ (hQ.out.below hzD).res) Try.underlying30 rfl (by kernel_rfl)) rfl ?_
          exact ⟨rfl, below4 (hQ.out.below hzD).bel (by omega) _ _ _ _⟩
end Go.Proofs.Ytmkibkeacbhhaaa
