/-
  layout.Same and sameKids: whether two nodes are one.
-/
import Derived.Test.YtmbdimonfdncpaaGreatDoorDown
import Derived.Laws.StructEq
namespace Go.Proofs.YtmbdimonfdncpaaGreatDoor
open Go.RowKit Go.Shelf Go.WideShapes Go.ChangeShapes
set_option maxHeartbeats 1000000
set_option maxRecDepth 100000
attribute [local go_sem] Oper.semAt_some
attribute [local irreducible] Bt.lst
/-- are two nodes one? -/
def Nd.same : Nd → Nd → Bool
  | .bran m k kid, y => decide ((Nd.bran m k kid).spot 0 = y.spot 0) && allTo (fun i => (kid i).same (y.kid i)) k
  | .none, y => decide (Nd.none.spot 0 = y.spot 0) && decide ([] = y.prs)
  | .leaf h p, y => decide ((Nd.leaf h p).spot 0 = y.spot 0) && decide ([p] = y.prs)
  | .buck h L, y => decide ((Nd.buck h L).spot 0 = y.spot 0) && decide (L = y.prs)
theorem same_unlike {x y : Nd} (h : ¬ x.spot 0 = y.spot 0) : x.same y = false := by
  cases x <;> simp only [Nd.same] <;> rw [decide_eq_false h, Bool.false_and]
theorem same_flat {x y : Nd} (h : x.spot 0 = y.spot 0) (hk : x.kind ≠ 3) : x.same y = decide (x.prs = y.prs) := by
  cases x with
  | bran m k kid => exact absurd rfl hk
  | _ => simp only [Nd.same]; rw [decide_eq_true h, Bool.true_and]; rfl
theorem same_bran {x y : Nd} (h : x.spot 0 = y.spot 0) (hk : x.kind = 3) : x.same y = allTo (fun i => (x.kid i).same (y.kid i)) x.num := by
  cases x with
  | bran m k kid => rw [Nd.same, decide_eq_true h, Bool.true_and]; rfl
  | _ => cases hk
theorem same_refl : ∀ x : Nd, x.same x = true
  | .none => rfl
  | .leaf _ _ => by rw [same_flat rfl (by intro h; cases h), decide_eq_true rfl]
  | .buck _ _ => by rw [same_flat rfl (by intro h; cases h), decide_eq_true rfl]
  | .bran m k kid => by
    rw [same_bran rfl rfl, allTo_iff]
    intro i _
    exact same_refl (kid i)
theorem spotP_zero (x : Nd) : x.spotP 0 = x.spot 0 := by cases x <;> rfl
theorem run_neq_spot (a b : Sp) (W : World) : (binOp .neq 64 a.agg b.agg).run Tryz.prog W = .ok (.bool (!decide (a = b))) W := by
  have ss50 : Tryz.prog.underlying 64 = some (.struct (Tryz.prog.fieldsOf 64)) := by kernel_rfl
  have hh50 : Tryz.prog.stoodInHeld 64 = false := by kernel_rfl
  have u3 := Tryz.underlying3
  have a3 := Tryz.isAgg3
  have z3 := Tryz.sizeOf3
  have u29 := Tryz.underlying37
  have a29 := Tryz.isAgg37
  have z29 := Tryz.sizeOf37
  have u48 := Tryz.underlying62
  have a48 := Tryz.isAgg62
  have z48 := Tryz.sizeOf62
  obtain ⟨a0, a1, a2, a3', a4⟩ := a
  obtain ⟨b0, b1, b2, b3, b4⟩ := b
  simp only [Sp.agg]
  rw [run_neq_struct, show (10000 : Nat) = 9999 + 1 from rfl, run_equalIn_agg W 9999 64 _ _ ss50 hh50]
  simp only [Program.fieldsOf, Tryz.underlying64]
  go_simp
  simp only [Int.ofNat_inj]
  by_cases h0 : a0 = b0 <;> by_cases h1 : a1 = b1 <;> by_cases h2 : a2 = b2 <;> by_cases h3 : a3' = b3 <;> by_cases h4 : a4 = b4 <;> simp [h0, h1, h2, h3, h4]
theorem run_guard_spot (w : World) (x y : Operand) (xs ys : Array Value) : (eqGuard .neq 64 x y (.agg xs) (.agg ys)).run Tryz.prog w = .ok () w :=
  run_eqGuard_agg w .neq 64 x y _ _ (by kernel_rfl)
def SameAt (x : Nd) : Prop := ∀ (F G : Nat → Prop) (w : World) (y : Nd) (v u : Value), (∀ b, F b → ¬ G b) → Nde F w x v → Nde G w y u → x.ok → y.ok → Tab w →
  Calls Tryz.prog 10 #[v, u] w fun e w' => e = .returned (.bool (x.same y)) ∧ Below w.heap.size w w'
set_option maxHeartbeats 4000000 in
theorem sameKids_any (x y : Nd) (ih : ∀ i, i < x.num → SameAt (x.kid i)) (F G : Nat → Prop) (w : World) (v u : Value) (m : Nat) (hFG : ∀ b, F b → ¬ G b) (hn : Nde F w x v) (hp : Nde G w y u) (ho : x.ok) (hq : y.ok) (hT : Tab w) (hm : m < 4294967296) (hx : x.bits = m) (hy : y.bits = m) (hx0 : x ≠ .none) (hy0 : y ≠ .none) :
    Calls Tryz.prog 21 #[.int .u32 (m : Int), v, u] w fun e w' => e = .returned (.bool (allTo (fun i => (x.kid i).same (y.kid i)) x.num)) ∧ Below w.heap.size w w' := by
  obtain ⟨f, hf⟩ : ∃ f : Nat → Bool, f = fun i => (x.kid i).same (y.kid i) := ⟨_, rfl⟩
  rw [← hf]
  have hlen : (Bt.lst m 32).length = x.num := by rw [← hx]; exact num_bits ho
  have hlen2 : (Bt.lst m 32).length = y.num := by rw [← hy]; exact num_bits hq
  obtain ⟨tv, bv, rfl⟩ : ∃ t b, v = .iface t (.pointer (some ⟨b, 0, none⟩)) := by
    rcases hn.nil_iff with ⟨h, _⟩ | ⟨_, t, b, h⟩
    · exact absurd h hx0
    · exact ⟨t, b, h⟩
  obtain ⟨tu, bu, rfl⟩ : ∃ t b, u = .iface t (.pointer (some ⟨b, 0, none⟩)) := by
    rcases hp.nil_iff with ⟨h, _⟩ | ⟨_, t, b, h⟩
    · exact absurd h hy0
    · exact ⟨t, b, h⟩
  obtain ⟨w3, hw3⟩ : ∃ w3, w3 = ((w.alloc (.cells #[.iface tv (.pointer (some ⟨bv, 0, none⟩))] 34)).alloc (.cells #[.iface tu (.pointer (some ⟨bu, 0, none⟩))] 34)).alloc (.cells #[.bool false] 4) := ⟨_, rfl⟩
  have b3 : Below w.heap.size w w3 := by rw [hw3]; exact (((Below.refl _ _).alloc (Nat.le_refl _) _).alloc (by simp) _).alloc (by simp; omega) _
  have z3 : w3.heap.size = w.heap.size + 3 := by rw [hw3]; simp
  have r0 : Boxed w3 w.heap.size 34 (.iface tv (.pointer (some ⟨bv, 0, none⟩))) := by rw [hw3]; exact ((Boxed.new w 34 _).alloc _).alloc _
  have r1 : Boxed w3 (w.heap.size + 1) 34 (.iface tu (.pointer (some ⟨bu, 0, none⟩))) := by
    have := Boxed.new (w.alloc (.cells #[.iface tv (.pointer (some ⟨bv, 0, none⟩))] 34)) 34 (.iface tu (.pointer (some ⟨bu, 0, none⟩)))
    rw [World.size_alloc] at this
    rw [hw3]; exact this.alloc _
  have r2 : Boxed w3 (w.heap.size + 1 + 1) 4 (.bool false) := by
    have := Boxed.new ((w.alloc (.cells #[.iface tv (.pointer (some ⟨bv, 0, none⟩))] 34)).alloc (.cells #[.iface tu (.pointer (some ⟨bu, 0, none⟩))] 34)) 4 (.bool false)
    rw [World.size_alloc, World.size_alloc] at this
    rw [hw3]; exact this
  have HALL := Lib.hid (fun W => all_any m W)
  have HW3 := Lib.hid hw3; clear hw3
  have HB3 := Lib.hid b3; clear b3
  have HZ3 := Lib.hid z3; clear z3
  have HR := Lib.hid (And.intro r0 (And.intro r1 r2)); clear r0 r1 r2
  have HN := Lib.hid (And.intro hn ho); clear hn ho
  have HP := Lib.hid (And.intro hp hq); clear hp hq
  have HT := Lib.hid hT; clear hT
  have HFG := Lib.hid hFG; clear hFG
  have HIH := Lib.hid ih; clear ih
  have HLN := Lib.hid (And.intro hlen hlen2); clear hlen hlen2
  have HXY := Lib.hid (And.intro hx hy); clear hx hy
  have HM := Lib.hid hm
  have HF := Lib.hid hf; clear hf
  refine (callsIn_wide (n := 3)).1 ?_
  refine callsIn_of_wp_marks Tryz.func21 rfl trivial ?_ rfl
  simp only [Tryz.ntmps21, List.size_toArray, List.length_cons, List.length_nil, Nat.reduceAdd, Nat.reduceSub, Array.replicate_succ, Array.replicate_zero, List.push_toArray, List.append_toArray, List.nil_append, List.cons_append]
  gi_wp2_with fail
  rw [← HW3.out]
  refine ⟨trivial, (callsIn_wide.2 (HALL.out w3)).mono ?_⟩
  rintro e wy ⟨rfl, hwy⟩
  have b3y : Below w3.heap.size w3 wy := by rw [← hwy]; exact (Below.refl _ _).alloc (Nat.le_refl _) _
  have zy : wy.heap.size = w3.heap.size + 1 := by rw [← hwy]; simp
  have rm : wy.heap[w3.heap.size]? = some (.cells #[.int .u32 (m : Int)] 62 (0, 0)) := by rw [← hwy]; exact heap_alloc_new w3 _
  have hef := fun lb : Array Value => (by kernel_rfl : Sem.run Tryz.prog (binOp BinOp.eql 89 (Value.func (Fn.func 58) #[] lb) Value.nilFunc) wy = .ok (.bool false) wy)
  clear hwy
  have b0y : Below w.heap.size w wy := below_then HB3.out b3y
  have hz3 := HZ3.out
  obtain ⟨X, hX⟩ : ∃ X : Nat → Prop, X = fun k => k = w.heap.size + 1 + 1 := ⟨_, rfl⟩
  obtain ⟨I, hI⟩ : ∃ I : Nat → World → Prop, I = fun i W => But X wy W ∧ Boxed W (w.heap.size + 1 + 1) 4 (.bool false) ∧ allTo f i = true := ⟨_, rfl⟩
  obtain ⟨Ix, hIx⟩ : ∃ Ix : Code → Nat → World → Prop, Ix = fun (c : Code) (_ : Nat) W => c = Code.ret ∧ But X wy W ∧ Boxed W (w.heap.size + 1 + 1) 4 (.bool false) ∧ allTo f x.num = false := ⟨_, rfl⟩
  have ry2 : Boxed wy (w.heap.size + 1 + 1) 4 (.bool false) := (b3y.block _ (by omega)).trans HR.out.2.2
  have sB : ∀ V W, But X wy V → But (fun k => k = wy.heap.size ∨ k = wy.heap.size + 1) V W → But X wy W := fun V W h k =>
    ⟨k.os.trans h.os, k.tape.trans h.tape, k.output.trans h.output, Nat.le_trans h.size k.size, fun q hq hx => (k.block q (Nat.lt_of_lt_of_le hq h.size) (by omega)).trans (h.block q hq hx)⟩
  have sI : ∀ i V W, I i V → But (fun k => k = wy.heap.size ∨ k = wy.heap.size + 1) V W → I i W := by
    subst hI
    rintro i V W ⟨h1, h2, h3⟩ k
    exact ⟨sB V W h1 k, (k.block _ h2.lt (by omega)).trans h2, h3⟩
  have I0 : I 0 wy := by
    subst hI
    exact ⟨But.refl _ _, ry2, rfl⟩
  have hseq : HandsK 2 Tryz.prog 58 #[.pointer (some ⟨w3.heap.size, 0, none⟩)] X (fun i vs W => But X wy W ∧ i < (Bt.lst m 32).length ∧ vs = #[.int .i64 ((Bt.lst m 32).getD i 0)]) (fun i => i = (Bt.lst m 32).length) wy :=
    bits_handsK (by omega) HM.out (row_cell rm rfl) (by omega) (HT.out.below b0y) (by rw [hX]; omega)
  have HKY := Lib.hid (And.intro b0y (And.intro zy b3y)); clear b0y zy b3y
  have HX2 := Lib.hid hX; clear hX
  have HQ := Lib.hid (And.intro hI (And.intro hIx HF.out))
  have HSI := Lib.hid (And.intro sI sB)
  clear rm HALL ry2 hm hz3
  gi_wp2_with fail
  clear hef
  refine wp_rangeK (n := 3) (gf := 58) (lb := #[.pointer (some ⟨w3.heap.size, 0, none⟩)]) rfl (enters_of Tryz.func58 (by kernel_rfl) rfl) I Ix hseq sI ?sIx ?hX I0 ?round ?done ?stop
  case sIx =>
    subst hIx
    rintro c j V W ⟨h0, h1, h2, h3⟩ k
    exact ⟨h0, HSI.out.2 V W h1 k, (k.block _ h2.lt (by have := HKY.out.2.1; have := HZ3.out; omega)).trans h2, h3⟩
  case hX =>
    intro k hk
    rw [HX2.out] at hk
    have := HKY.out.2.1
    have := HZ3.out
    omega
  case done =>
    clear hseq I0 sI
    intro d i W hd hi hiI hdf
    rw [hI] at hiI
    obtain ⟨g1, g2, g3⟩ := hiI
    rw [hi, HLN.out.1] at g3
    have hzy := HKY.out.2.1
    have hz3 := HZ3.out
    have hd2 : (W.setCell ⟨w.heap.size + 1 + 1, 0, none⟩ (.bool true)).heap[d]? = some (.deferred (some [])) := (Below.heap_setCell W _ _ _ (by show ¬ d = w.heap.size + 1 + 1; omega)).trans hdf
    have k2 : ((W.setCell ⟨w.heap.size + 1 + 1, 0, none⟩ (.bool true)).putObj d (.deferred none)).cell? ⟨w.heap.size + 1 + 1, 0, none⟩ = some (.bool true) :=
      Boxed.cell (((But.put _ d _).block _ (g2.set (.bool true)).lt (by omega)).trans (g2.set (.bool true)) : Boxed _ (w.heap.size + 1 + 1) 4 (.bool true))
    have hfin : Below w.heap.size w ((W.setCell ⟨w.heap.size + 1 + 1, 0, none⟩ (.bool true)).putObj d (.deferred none)) := by
      have p1 := But.set W (w.heap.size + 1 + 1) 0 (.bool true)
      have p2 := But.put (W.setCell ⟨w.heap.size + 1 + 1, 0, none⟩ (.bool true)) d (.deferred none)
      have h1 := HKY.out.1
      have h4 := h1.size
      have h5 := g1.size
      have h6 := p1.size
      have h7 := p2.size
      exact ⟨p2.os.trans (p1.os.trans (g1.os.trans h1.os)), p2.tape.trans (p1.tape.trans (g1.tape.trans h1.tape)), p2.output.trans (p1.output.trans (g1.output.trans h1.output)), by omega, fun k hk => (p2.block k (by omega) (by omega)).trans ((p1.block k (by omega) (by omega)).trans ((g1.block k (by omega) (by rw [HX2.out]; omega)).trans (h1.block k hk)))⟩
    have f1 := g2.cell
    have f2 := g2.frozen
    have HD2 := Lib.hid (And.intro hd2 k2); clear hd2 k2
    have HFI := Lib.hid (And.intro hfin g3); clear hfin g3
    clear hzy hz3 g1 g2 hdf hi hI hIx
    gi_wp2_with fail
    refine ⟨by simp, .inl ⟨_, _, rfl, run_takeDeferred HD2.out.1, ?_⟩⟩
    have k2 := HD2.out.2
    refine ⟨.bool true, ?_, ?_⟩
    · simp [results, Tryz.f21, go_sem, k2]
    · rw [HFI.out.2]
      exact ⟨rfl, HFI.out.1⟩
  case stop =>
    clear hseq I0 sI
    intro d cc j W hd hix hdf
    rw [hIx] at hix
    obtain ⟨rfl, g1, g2, g3⟩ := hix
    have hzy := HKY.out.2.1
    have hz3 := HZ3.out
    have k2 : (W.putObj d (.deferred none)).cell? ⟨w.heap.size + 1 + 1, 0, none⟩ = some (.bool false) :=
      Boxed.cell (((But.put _ d _).block _ g2.lt (by omega)).trans g2 : Boxed _ (w.heap.size + 1 + 1) 4 (.bool false))
    have hfin : Below w.heap.size w (W.putObj d (.deferred none)) := by
      have p2 := But.put W d (.deferred none)
      have h1 := HKY.out.1
      have h4 := h1.size
      have h5 := g1.size
      have h7 := p2.size
      exact ⟨p2.os.trans (g1.os.trans h1.os), p2.tape.trans (g1.tape.trans h1.tape), p2.output.trans (g1.output.trans h1.output), by omega, fun k hk => (p2.block k (by omega) (by omega)).trans ((g1.block k (by omega) (by rw [HX2.out]; omega)).trans (h1.block k hk))⟩
    have HFI := Lib.hid (And.intro hfin g3); clear hfin g3
    have HD2 := Lib.hid (And.intro hdf k2); clear hdf k2
    clear hzy hz3 g1 g2 hI hIx
    gi_wp2_with fail
    refine ⟨by simp, .inl ⟨_, _, rfl, run_takeDeferred HD2.out.1, ?_⟩⟩
    have k2 := HD2.out.2
    refine ⟨.bool false, ?_, ?_⟩
    · simp [results, Tryz.f21, go_sem, k2]
    · rw [HFI.out.2]
      exact ⟨rfl, HFI.out.1⟩
  case round =>
    clear hseq I0 sI
    rintro l2 i vs W hl2 hlt2 hi ⟨hkw, hiL, rfl⟩
    obtain ⟨c, hc⟩ : ∃ c, c = (Bt.lst m 32).getD i 0 := ⟨_, rfl⟩
    rw [← hc]
    have HC := Lib.hid hc; clear hc
    refine ⟨rfl, fun K hK => ?_⟩
    have HK := Lib.hid hK; clear hK
    have HII := Lib.hid hi; clear hi
    have HIL := Lib.hid hiL; clear hiL
    clear hkw
    gi_wp2_with fail
    refine HK.out _ _ (But.refl _ _) ?_
    rintro W2 hk2 ⟨r, hr⟩
    have hI2 := HSI.out.1 i W W2 HII.out (hk2.mono fun k e => .inr (by omega))
    rw [hI] at hI2
    obtain ⟨g1, g2, g3⟩ := hI2
    have hzy := HKY.out.2.1
    have hz3 := HZ3.out
    have KX : Hid (∀ V, Below W2.heap.size W2 V → (∀ k, k < w.heap.size → V.heap[k]? = w.heap[k]?) ∧ Boxed V w.heap.size 34 (.iface tv (.pointer (some ⟨bv, 0, none⟩))) ∧ Boxed V (w.heap.size + 1) 34 (.iface tu (.pointer (some ⟨bu, 0, none⟩))) ∧ Boxed V (w.heap.size + 1 + 1) 4 (.bool false)) := fun V hV => by
      have e1 := g1.size
      have key : ∀ k, k < w.heap.size + 2 → V.heap[k]? = wy.heap[k]? := fun k hk => (hV.block k (by omega)).trans (g1.block k (by omega) (by rw [HX2.out]; omega))
      have hb3 := HKY.out.2.2
      exact ⟨fun k hk => (key k (by omega)).trans (HKY.out.1.block k hk), ((key _ (by omega)).trans (hb3.block _ (by omega))).trans HR.out.1, ((key _ (by omega)).trans (hb3.block _ (by omega))).trans HR.out.2.1, (hV.block _ g2.lt).trans g2⟩
    have hKF : ∀ (H : Nat → Prop) V, Below W2.heap.size W2 V → Kept H w V := fun H V hV b _ hb => (KX.out V hV).1 b hb
    have hTV : ∀ V, Below W2.heap.size W2 V → Tab V := fun V hV q hq => (cell_kept ((KX.out V hV).1 0 HT.out.lt)).trans (HT.out q hq)
    have hil : i < x.num := by rw [← HLN.out.1]; exact HIL.out
    have hil2 : i < y.num := by rw [← HLN.out.2]; exact HIL.out
    have hcs : c ∈ Bt.lst m 32 ∧ Bt.less (Bt.lst m 32) c = i := by
      have hjl := HIL.out
      have e : c = (Bt.lst m 32)[i] := by rw [HC.out, List.getD_eq_getElem?_getD, List.getElem?_eq_getElem hjl]; rfl
      rw [e]
      exact ⟨List.getElem_mem hjl, Bt.less_get m 32 i hjl⟩
    have hsx : x.set = Bt.lst m 32 := by rw [set_bits, HXY.out.1]
    have hsy : y.set = Bt.lst m 32 := by rw [set_bits, HXY.out.2]
    have J1 := Lib.hid (kid_any c (HN.out.1.kept (hKF F W2 (Below.refl _ _))) HN.out.2)
    have J2 := Lib.hid (fun n => kid_any c (HP.out.1.kept (hKF G (W2.drewN n) (below_drewN (Below.refl _ _) n))) HP.out.2)
    have hokx := (Nd.ok_kid HN.out.2 hil).2
    have hoky := (Nd.ok_kid HP.out.2 hil2).2
    have hih := fun V vx vu (hV : Below W2.heap.size W2 V) (h1 : Nde F V (x.kid i) vx) (h2 : Nde G V (y.kid i) vu) => HIH.out i hil F G V (y.kid i) vx vu HFG.out h1 h2 hokx hoky (hTV V hV)
    have hfi : (x.kid i).same (y.kid i) = f i := by rw [HQ.out.2.2]
    simp only [hfi] at hih
    have n0 := (KX.out W2 (Below.refl _ _)).2.1.cell
    have n1 : ∀ n, (W2.drewN n).cell? ⟨w.heap.size + 1, 0, none⟩ = some (.iface tu (.pointer (some ⟨bu, 0, none⟩))) := fun n => (KX.out _ (below_drewN (Below.refl _ _) n)).2.2.1.cell
    have N1 := Lib.hid n1; clear n1
    have HIHH := Lib.hid hih; clear hih
    have HCS := Lib.hid (And.intro hcs (And.intro hsx hsy)); clear hcs hsx hsy
    have HG := Lib.hid (And.intro g1 g3); clear g1 g3
    have HHL := Lib.hid hil
    clear hzy hz3 hr hk2 HK HII g2 hKF hTV hil hil2 hokx hoky hfi hI hIx
    gi_wp2_with fail
    refine ⟨trivial, (CallsIn.inRound l2 (callsIn_wide.2 J1.out)).mono ?_⟩
    rintro e W3 ⟨⟨vk, rfl, hvk⟩, nq, rfl⟩
    rw [HCS.out.2.1, if_pos HCS.out.1.1, HCS.out.1.2] at hvk
    have HVK := Lib.hid hvk; clear hvk
    have n1 := N1.out nq
    clear n0 J1
    gi_wp2_with fail
    refine ⟨trivial, (CallsIn.inRound l2 (callsIn_wide.2 (J2.out nq))).mono ?_⟩
    rintro e W4 ⟨⟨vj, rfl, hvj⟩, nr, rfl⟩
    rw [HCS.out.2.2, if_pos HCS.out.1.1, HCS.out.1.2] at hvj
    have b24 : Below W2.heap.size W2 (W2.drewN (nq + nr)) := below_drewN (Below.refl _ _) (nq + nr)
    have kF : Kept F W2 (W2.drewN (nq + nr)) := kept_drew F W2 (nq + nr)
    have kG : Kept G (W2.drewN nq) (W2.drewN (nq + nr)) := fun b _ _ => rfl
    have J3 := Lib.hid (HIHH.out _ vk vj b24 (HVK.out.kept kF) (hvj.kept kG))
    have B24 := Lib.hid b24; clear b24 hvj kF kG
    clear n1 J2
    gi_wp2_with fail
    refine ⟨trivial, (CallsIn.inRound l2 (callsIn_wide.2 J3.out)).mono ?_⟩
    rintro e W5 ⟨rfl, b45⟩
    have b25 : Below W2.heap.size W2 W5 := below_then B24.out b45
    have k5 := (KX.out W5 b25).2.2.2
    have e5 := k5.cell
    have e6 := k5.frozen
    have K5 := Lib.hid (And.intro b25 k5); clear b25 k5 b45
    obtain ⟨rb, hrb⟩ : ∃ r, r = f i := ⟨_, rfl⟩
    rw [← hrb]
    have HRB := Lib.hid hrb; clear hrb
    clear J3
    cases rb with
    | true =>
      gi_wp2_with fail
      refine ⟨But.of K5.out.1, ?_⟩
      rw [HQ.out.1]
      exact ⟨HG.out.1.trans (But.of K5.out.1), K5.out.2, by rw [allTo, HG.out.2, ← HRB.out]; rfl⟩
    | false =>
      have kset : But X W5 (W5.setCell ⟨w.heap.size + 1 + 1, 0, none⟩ (.bool false)) := (But.set W5 _ 0 _).mono fun q hq => by rw [HX2.out]; exact hq
      have KS := Lib.hid kset; clear kset
      gi_wp2_with fail
      refine ⟨(But.of K5.out.1).trans KS.out, ?_⟩
      rw [HQ.out.2.1]
      exact ⟨rfl, (HG.out.1.trans (But.of K5.out.1)).trans KS.out, K5.out.2.set _, allTo_false HHL.out (by rw [← HRB.out])⟩
end Go.Proofs.YtmbdimonfdncpaaGreatDoor
