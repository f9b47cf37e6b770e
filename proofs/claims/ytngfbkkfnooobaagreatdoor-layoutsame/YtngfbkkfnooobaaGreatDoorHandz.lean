/-
  A range over a function whose iterator keeps memory of its own, and hands out what it says something of: the statement's walk out of the iterator's contract and the walk of one round. The caller's invariant speaks of what lay when the loop began.
-/
import Derived.Test.YtngfbkkfnooobaaGreatDoorMaking
import Derived.RangeFuncBox
import Derived.RangeFuncCalls
import Derived.RangeFuncLeaves
import Derived.Shelf.RegionOpen
import Derived.OwnWalkIn
import Derived.TacticsInMore
import Derived.LoopNIn
import Derived.LoopIn
import Derived.WalkKit
import Derived.Below
import Derived.Test.YtngfbkkfnooobaaGreatDoorBitz
import Derived.Test.YtngfbkkfnooobaaGreatDoorBLow
import Derived.Shelf.Abstract
import Derived.Test.YtngfbkkfnooobaaGreatDoorRMath
import Derived.Test.YtngfbkkfnooobaaGreatDoorWalks
import Derived.Laws.Tables
import Derived.Laws.CopyOwn
import Derived.Laws.BitsAllLaws
import Derived.Laws.ShiftsVarLaws
import Derived.IntWalk
namespace Go.Proofs.YtngfbkkfnooobaaGreatDoor
open Go.RowKit
set_option maxHeartbeats 1000000
set_option maxRecDepth 100000
theorem But.trans {X : Nat → Prop} {a b c : World} (h : But X a b) (k : But X b c) : But X a c :=
  ⟨k.os.trans h.os, k.tape.trans h.tape, k.output.trans h.output, Nat.le_trans h.size k.size, fun i hi hx => (k.block i (Nat.lt_of_lt_of_le hi h.size) hx).trans (h.block i hi hx)⟩
theorem But.mono {X Y : Nat → Prop} {a b : World} (h : But X a b) (hx : ∀ k, X k → Y k) : But Y a b := ⟨h.os, h.tape, h.output, h.size, fun i hi hn => h.block i hi fun e => hn (hx i e)⟩
theorem But.of {X : Nat → Prop} {a b : World} (h : Below a.heap.size a b) : But X a b := ⟨h.os, h.tape, h.output, h.size, fun i hi _ => h.block i hi⟩
theorem But.put (w : World) (l : Nat) (o : Obj) : But (fun k => k = l) w (w.putObj l o) := ⟨rfl, rfl, rfl, by simp, fun _ _ hk => World.putObj_heap_other hk⟩
theorem But.set (w : World) (b i : Nat) (v : Value) : But (fun k => k = b) w (w.setCell ⟨b, i, none⟩ v) := ⟨rfl, rfl, rfl, by simp [World.setCell], fun k _ hk => Below.heap_setCell w _ _ k hk⟩
/-- how a round may be left -/
def leave (I : Nat → World → Prop) (Ix : Code → Nat → World → Prop) (X : Nat → Prop) (j : Nat) (W : World) : Exit → Act → World → Prop
  | .normal, _, W' => But X W W' ∧ I j W'
  | .ret, _, W' => But X W W' ∧ Ix .ret j W'
  | .exit i, _, W' => But X W W' ∧ Ix (.exit i) j W'
  | .goto t, _, W' => But X W W' ∧ Ix (.goto t) j W'
  | .panic _, _, _ => False
  | .outgrown, _, _ => False
/-- what an iterator keeps: called in a world W, with yields of the loop l, it hands out, one by one, what G says something of; and it asks no more of a round than that it leaves all but the blocks of X, and the loop's record, as they lie -/
def Hands (n : Nat) (P : Program) (gf : Nat) (lb : Array Value) (X : Nat → Prop) (G : Nat → Array Value → World → Prop) (D : Nat → Prop) (w : World) : Prop :=
  ∀ (l : Nat) (J Jx : Nat → World → Prop) (W : World), l + 1 = W.heap.size → w.heap.size ≤ l → Below w.heap.size w W →
    (∀ j A B, J j A → Below W.heap.size A B → J j B) → (∀ j A B, Jx j A → Below W.heap.size A B → Jx j B) →
    (∀ j vs A, J j A → G j vs A → YieldAt Fence.wide (n - 1) P l vs A fun e B => (e = .returned (.bool true) ∧ J (j + 1) B ∧ But (fun k => X k ∨ k = l) A B) ∨ (e = .returned (.bool false) ∧ Jx (j + 1) B)) →
    J 0 W → CallsIn Fence.wide n P gf (#[.func (.yield l) #[] #[]] ++ lb) W fun e B => (∃ v, e = .returned v) ∧ ((∃ j, D j ∧ J j B) ∨ ∃ j, Jx j B)
theorem wp_range {n : Nat} {P : Program} {g : Operand} {ps : Array Tmp} {assign body : Code} {Q : Exit → Act → World → Prop} {a : Act} {w : World} {gf : Nat} {lb : Array Value}
    (hg : a.eval g = .func (.func gf) #[] lb) (eg : ∀ args w, (callFunc gf args).run P w = .ok (.enter gf args) w)
    (I : Nat → World → Prop) (Ix : Code → Nat → World → Prop) {G : Nat → Array Value → World → Prop} {X : Nat → Prop} {D : Nat → Prop} (hseq : Hands (n - 1) P gf lb X G D w)
    (hI : ∀ j A B, I j A → Below w.heap.size A B → I j B) (hIx : ∀ c j A B, Ix c j A → Below w.heap.size A B → Ix c j B) (hX : ∀ k, X k → k < w.heap.size) (h0 : I 0 w)
    (hround : ∀ l j vs W, w.heap.size ≤ l → I j W → G j vs W → vs.size = ps.size ∧ ∀ K : Act → World → Prop,
      (∀ a1 W1, But X W W1 → (∀ W2, But (fun k => k = l) W1 W2 → (∃ r, W1.heap[l]? = some (.loop r)) → body.wpIn (Fence.wide.inRound l) (n - 1 - 1) P (leave I Ix X (j + 1) W2) a1 W2) → K a1 W1) →
      assign.wpIn (Fence.wide.inRound l) (n - 1 - 1) P (Exit.then K (fun _ _ _ => False)) { tmps := (ps.zip vs).foldl (fun t (p, v) => t.setIfInBounds p v) a.tmps, defers := [] } W)
    (hdone : ∀ d j W, w.heap.size ≤ d → D j → I j W → W.heap[d]? = some (.deferred (some [])) → Q .normal { a with defers := { target := .collected d, args := #[] } :: a.defers } W)
    (hstop : ∀ d c j W, w.heap.size ≤ d → Ix c j W → W.heap[d]? = some (.deferred (some [])) → c.wpIn Fence.wide n P Q { a with defers := { target := .collected d, args := #[] } :: a.defers } W)
    (h1 : 1 ≤ n := by omega) :
    (Code.rangeFunc g ps assign body).wpIn Fence.wide n P Q a w := by
  refine wpIn_rangeFunc fun fn hfn => ?_
  obtain ⟨L, hL⟩ : ∃ L, L = w.heap.size := ⟨_, rfl⟩
  obtain ⟨rec, hrec⟩ : ∃ rec : LoopState → Option Code → Loop, rec = fun s p => ⟨s, p, fn, a.tmps, ps, assign, body, L⟩ := ⟨_, rfl⟩
  have hpar : ∀ s p, (rec s p).params = ps := fun s p => by rw [hrec]
  have hst : ∀ s p, (rec s p).state = s := fun s p => by rw [hrec]
  have hpe : ∀ s p, (rec s p).pending = p := fun s p => by rw [hrec]
  have hto : ∀ s p s', { rec s p with state := s' } = rec s' p := fun s p s' => by rw [hrec]
  have hto2 : ∀ s p s' p', { rec s p with state := s', pending := p' } = rec s' p' := fun s p s' p' => by rw [hrec]
  obtain ⟨W1, hW1⟩ : ∃ W1, W1 = (w.alloc (.deferred (some []))).alloc (.loop (rec .ready none)) := ⟨_, rfl⟩
  have hent : (Instr.enterLoop fn a.tmps ps assign body none).run P w = .ok (L + 1, [{ target := .collected L, args := #[] }]) W1 := by
    rw [hW1, hrec, hL]
    exact run_enterLoop_outer _ _ _ _ _
  have hsz : W1.heap.size = L + 1 + 1 := by rw [hW1, hL]; simp
  have hbw : Below w.heap.size w W1 := by rw [hW1]; exact ((Below.refl _ w).alloc (Nat.le_refl _) _).alloc (by simp) _
  have hrl : W1.heap[L + 1]? = some (.loop (rec .ready none)) := by
    rw [hW1, hL]
    have := World.alloc_heap_new (w.alloc (.deferred (some []))) (.loop (rec .ready none))
    rwa [World.size_alloc] at this
  have hrd : W1.heap[L]? = some (.deferred (some [])) := by
    rw [hW1, hL]
    exact (Below.heap_alloc _ _ _ (by simp)).trans (World.alloc_heap_new w _)
  clear hW1
  refine ⟨L + 1, _, W1, { target := .fn (.func gf) lb, args := #[.func (.yield (L + 1)) #[] #[]] }, W1, gf, #[.func (.yield (L + 1)) #[] #[]] ++ lb, W1, hent, ?_, fun _ _ => trivial, ?_, fun _ => h1, ?_⟩
  · simp only [resolve, hg]
    simp [go_sem]
  · simp [invoke, go_sem, eg]
  refine (hseq (L + 1) (fun j W => I j W ∧ W.heap[L + 1]? = some (.loop (rec .ready none)) ∧ W.heap[L]? = some (.deferred (some [])))
    (fun j W => ∃ c, Ix c j W ∧ W.heap[L + 1]? = some (.loop (rec .done (some c))) ∧ W.heap[L]? = some (.deferred (some []))) W1 hsz.symm (by omega) hbw
    (fun j A B h k => ⟨hI j A B h.1 (k.mono (by omega)), (k.block _ (by omega)).trans h.2.1, (k.block _ (by omega)).trans h.2.2⟩)
    (fun j A B ⟨c, h⟩ k => ⟨c, hIx c j A B h.1 (k.mono (by omega)), (k.block _ (by omega)).trans h.2.1, (k.block _ (by omega)).trans h.2.2⟩) ?_ ⟨hI 0 w W1 h0 hbw, hrl, hrd⟩).mono ?_
  · rintro j vs A ⟨hi, hl, hd⟩ hG
    obtain ⟨hvs, hwalk0⟩ := hround (L + 1) j vs A (by omega) hi hG
    have hwalk := hwalk0 (fun a1 W1 => But X A W1 ∧ ∀ W2, But (fun k => k = L + 1) W1 W2 → (∃ r, W1.heap[L + 1]? = some (.loop r)) → body.wpIn (Fence.wide.inRound (L + 1)) (n - 1 - 1) P (leave I Ix X (j + 1) W2) a1 W2) (fun _ _ h1 h2 => ⟨h1, h2⟩)
    have hy := run_yield (P := P) (args := vs) hl (by rw [hpar]; exact hvs)
    rw [hrec] at hy
    refine ⟨_, _, _, _, hy, roundIn_of_wpIn hfn (wpIn_mono hwalk ?_)⟩
    rintro e a2 A2 h2
    have lt1 := (Array.getElem?_eq_some_iff.1 hl).1
    cases e with
    | normal =>
      obtain ⟨hk2, hbody⟩ := h2
      have hl2 := (hk2.block (L + 1) lt1 (fun e => by have := hX _ e; omega)).trans hl
      have hd2 := (hk2.block L (by omega) (fun e => by have := hX _ e; omega)).trans hd
      have lt2 := (Array.getElem?_eq_some_iff.1 hl2).1
      have hbr := run_beginRound (P := P) hl2 (hst _ _)
      rw [hto] at hbr
      obtain ⟨A3, hA3⟩ : ∃ A3, A3 = A2.putObj (L + 1) (.loop (rec .busy none)) := ⟨_, rfl⟩
      rw [← hA3] at hbr
      have hk3 : But (fun k => k = L + 1) A2 A3 := by rw [hA3]; exact But.put _ _ _
      have hl3 : A3.heap[L + 1]? = some (.loop (rec .busy none)) := by rw [hA3]; exact World.putObj_heap_same lt2
      have hd3 := (hk3.block L (by omega) (by omega)).trans hd2
      clear hA3
      refine ⟨A3, hbr, wpIn_mono (hbody A3 hk3 ⟨_, hl2⟩) ?_⟩
      have fin : ∀ (jump : Option Code) (A4 : World), But X A3 A4 → ∃ B, (Instr.endRound (L + 1) jump).run P A4 = .ok (.bool jump.isNone) B ∧ Below w.heap.size A4 B ∧ But (fun k => X k ∨ k = L + 1) A B ∧
          B.heap[L + 1]? = some (.loop (rec (if jump.isNone then .ready else .done) jump)) ∧ B.heap[L]? = some (.deferred (some [])) := by
        intro jump A4 hk4
        have lt3 := (Array.getElem?_eq_some_iff.1 hl3).1
        have hl4 := (hk4.block (L + 1) lt3 (fun e => by have := hX _ e; omega)).trans hl3
        have hd4 := (hk4.block L (by omega) (fun e => by have := hX _ e; omega)).trans hd3
        have hend := run_endRound (P := P) jump hl4
        rw [hto2] at hend
        refine ⟨_, hend, ?_, ?_, World.putObj_heap_same (Array.getElem?_eq_some_iff.1 hl4).1, (World.putObj_heap_other (by omega)).trans hd4⟩
        · exact (But.put A4 _ _).below (by have := hk2.size; have := hk3.size; have := hk4.size; omega) (fun k e => by omega)
        · exact (((hk2.mono fun _ => .inl).trans (hk3.mono fun _ => .inr)).trans (hk4.mono fun _ => .inl)).trans ((But.put A4 _ _).mono fun _ => .inr)
      rintro e a4 A4 h4
      cases e with
      | normal =>
        obtain ⟨B, q1, q2, q3, q4, q5⟩ := fin none A4 h4.1
        exact ⟨_, B, q1, .inl ⟨rfl, ⟨hI _ _ _ h4.2 q2, q4, q5⟩, q3⟩⟩
      | ret =>
        obtain ⟨B, q1, q2, _, q4, q5⟩ := fin (some .ret) A4 h4.1
        exact ⟨_, B, q1, .inr ⟨rfl, .ret, hIx _ _ _ _ h4.2 q2, q4, q5⟩⟩
      | exit i =>
        obtain ⟨B, q1, q2, _, q4, q5⟩ := fin (some (.exit i)) A4 h4.1
        exact ⟨_, B, q1, .inr ⟨rfl, .exit i, hIx _ _ _ _ h4.2 q2, q4, q5⟩⟩
      | goto t =>
        obtain ⟨B, q1, q2, _, q4, q5⟩ := fin (some (.goto t)) A4 h4.1
        exact ⟨_, B, q1, .inr ⟨rfl, .goto t, hIx _ _ _ _ h4.2 q2, q4, q5⟩⟩
      | panic c => exact h4.elim
      | outgrown => exact h4.elim
    | ret => exact h2.elim
    | exit i => exact h2.elim
    | goto t => exact h2.elim
    | panic c => exact h2.elim
    | outgrown => exact h2.elim
  · have last : ∀ (p : Option Code) (s : LoopState) (B : World), s ≠ .busy → B.heap[L + 1]? = some (.loop (rec s p)) → B.heap[L]? = some (.deferred (some [])) → w.heap.size ≤ B.heap.size →
        ∃ C, (Instr.endLoop (L + 1)).run P B = .ok p C ∧ Below w.heap.size B C ∧ C.heap[L]? = some (.deferred (some [])) := by
      intro p s B hs hl hd hsz
      have hend := run_endLoop (P := P) hl (by rw [hst]; exact hs)
      rw [hpe] at hend
      exact ⟨_, hend, (But.put B _ _).below hsz (fun k e => by omega), (World.putObj_heap_other (by omega)).trans hd⟩
    rintro e B ⟨⟨v, rfl⟩, (⟨j, hD, hi, hl, hd⟩ | ⟨j, c, hi, hl, hd⟩)⟩
    · obtain ⟨C, q1, q2, q3⟩ := last none .ready B (by simp) hl hd (by have := (Array.getElem?_eq_some_iff.1 hd).1; omega)
      exact ⟨none, C, q1, hdone L j C (by omega) hD (hI _ _ _ hi q2) q3⟩
    · obtain ⟨C, q1, q2, q3⟩ := last (some c) .done B (by simp) hl hd (by have := (Array.getElem?_eq_some_iff.1 hd).1; omega)
      exact ⟨some c, C, q1, hstop L c j C (by omega) (hIx _ _ _ _ hi q2) q3⟩
end Go.Proofs.YtngfbkkfnooobaaGreatDoor
/-
  The contract of All's iterator (bits): a set's numbers, rising, one by one.
-/
namespace Go.Proofs.YtngfbkkfnooobaaGreatDoor
open Go.RowKit Go.Shelf
set_option maxHeartbeats 1000000
set_option maxRecDepth 100000
attribute [local go_sem] Oper.semAt_some
attribute [local irreducible] Bt.lst
/-- the table of TrailingZeros32, where its variable lies -/
def Tab (w : World) : Prop := ∀ j, j < 32 → w.cell? ⟨0, j, none⟩ = some (.int .u8 (Lib.deBruijn32tab.getD j 0 : Nat))
theorem Tab.lt {w : World} (h : Tab w) : 0 < w.heap.size := by
  have h0 := h 0 (by omega)
  rcases Nat.lt_or_ge 0 w.heap.size with hlt | hge
  · exact hlt
  · simp [World.cell?, Array.getElem?_eq_none hge] at h0
theorem Tab.below {w w' : World} (h : Tab w) (hb : Below w.heap.size w w') : Tab w' := fun j hj => (hb.cell (p := ⟨0, j, none⟩) h.lt).trans (h j hj)
theorem Tab.but {X : Nat → Prop} {w w' : World} (h : Tab w) (hb : But X w w') (hx : ¬ X 0) : Tab w' := fun j hj => (cell_kept (hb.block 0 h.lt hx)).trans (h j hj)
theorem But.more {X : Nat → Prop} {w A B : World} {l : Nat} (h : But X w A) (k : But (fun q => X q ∨ q = l) A B) (hl : w.heap.size ≤ l) : But X w B :=
  ⟨k.os.trans h.os, k.tape.trans h.tape, k.output.trans h.output, Nat.le_trans h.size k.size, fun i hi hx => (k.block i (Nat.lt_of_lt_of_le hi h.size) (fun e => by
    rcases e with e | e
    · exact hx e
    · omega)).trans (h.block i hi hx)⟩
theorem tz_key (x a : Nat) (hx : x < 4294967296) (hx0 : x ≠ 0) (hlow : x &&& (4294967296 - x) = a) :
    bits BinOp.and IntKind.u32 (x : Int) (-(x : Int) % 4294967296) * 125613361 % 4294967296 / 134217728 = ((a * 125613361 % 4294967296 / 134217728 : Nat) : Int) := by
  have e1 : -(x : Int) % 4294967296 = ((4294967296 - x : Nat) : Int) := by omega
  rw [e1, Bt.and32 hx (by omega), hlow]
  omega
theorem tz_any (x : Nat) (w : World) (hx : x < 4294967296) (hx0 : x ≠ 0) (hT : Tab w) :
    Calls Tryz.prog 86 #[.int .u32 x] w fun e w' => e = .returned (.int .i64 (Lib.ctz 32 x : Nat)) ∧ w = w' := by
  obtain ⟨hlow, hk⟩ := Lib.lowest_bit 32 x hx0 hx
  obtain ⟨hi, htab⟩ := Lib.deBruijn32_at _ hk
  have hcell := hT _ hi
  rw [htab] at hcell
  have key := tz_key x _ hx hx0 hlow
  obtain ⟨idx, hidx⟩ : ∃ idx, idx = 2 ^ Lib.ctz 32 x * 125613361 % 4294967296 / 134217728 := ⟨_, rfl⟩
  rw [← hidx] at hi hcell key
  obtain ⟨k, hkk⟩ : ∃ k, k = Lib.ctz 32 x := ⟨_, rfl⟩
  rw [← hkk] at hk hcell ⊢
  have hne : ((x : Int) == 0) = false := by simp; omega
  clear hlow htab hidx hkk hT
  go_enter Tryz.func86, Tryz.ntmps86
  go_wp2_with (simp only [key])
  go_ret
  exact ⟨rfl, rfl⟩
theorem without_any (m : Nat) (z : Int) (w : World) (hm : m < 4294967296) :
    Calls Tryz.prog 87 #[.int .u32 m, .int .i64 z] w fun e w' => e = .returned (.int .u32 ((Bt.wo m (Bt.one z) : Nat) : Int)) ∧ w = w' := by
  have h := Bt.alone_any z w
  have hl := Bt.one_lt z
  obtain ⟨a, ha⟩ : ∃ a, a = Bt.one z := ⟨_, rfl⟩
  rw [← ha] at h hl ⊢
  have H := Lib.hid h; clear h ha
  go_enter Tryz.func87, Tryz.ntmps87
  go_wp2_with fail
  refine H.out.mono ?_
  rintro e w' ⟨rfl, rfl⟩
  go_wp2_with fail
  go_ret
  exact ⟨ret_int (Bt.wo32 hm hl), rfl⟩
theorem all_any (m : Nat) (w : World) :
    Calls Tryz.prog 64 #[.int .u32 m] w fun e w' => e = .returned (.func (.func 85) #[] #[.pointer (some ⟨w.heap.size, 0, none⟩)]) ∧ w.alloc (.cells #[.int .u32 m] 54) = w' := by
  go_enter Tryz.func64, Tryz.ntmps64
  go_wp2
  go_ret
  exact ⟨rfl, rfl⟩
theorem bits_hands {n : Nat} {w : World} {Bn m : Nat} {X : Nat → Prop} (hn : 1 ≤ n) (hm : m < 4294967296) (hc : w.cell? ⟨Bn, 0, none⟩ = some (.int .u32 (m : Int))) (hBn : Bn < w.heap.size) (hT : Tab w) (x2 : ¬ X 0) :
    Hands n Tryz.prog 85 #[.pointer (some ⟨Bn, 0, none⟩)] X (fun j vs W => But X w W ∧ j < (Bt.lst m 32).length ∧ vs = #[.int .i64 ((Bt.lst m 32).getD j 0)]) (fun j => j = (Bt.lst m 32).length) w := by
  intro l J Jx W hl hwl hbw hJ hJx hY h0
  have hK : But X w W := But.of hbw
  have hTK : ∀ V, But X w V → Tab V := fun V hV => hT.but hV x2
  have d0 := (hbw.cell (p := ⟨Bn, 0, none⟩) hBn).trans hc
  obtain ⟨L, hL⟩ : ∃ L, L = Bt.lst m 32 := ⟨_, rfl⟩
  simp only [← hL] at hY ⊢
  have HK := Lib.hid hK; clear hK
  have HT := Lib.hid hTK; clear hTK
  have HY := Lib.hid hY; clear hY
  have HJ := Lib.hid hJ; clear hJ
  have H0 := Lib.hid h0; clear h0
  have HL := Lib.hid hL; clear hL
  have HLW := Lib.hid hwl; clear hwl
  clear hc hT x2 hl hbw hJx
  refine callsIn_of_wp Tryz.func85 rfl trivial ?_ rfl
  simp only [Tryz.ntmps85, List.size_toArray, List.length_cons, List.length_nil, Nat.reduceAdd, Nat.reduceSub, Array.replicate_succ, Array.replicate_zero, List.push_toArray, List.append_toArray, List.nil_append, List.cons_append]
  gi_wp2_with fail
  gi_loopw [3] (fun p wr => ∃ (j r : Nat), p = .int .u32 r ∧ r < 4294967296 ∧ Hid (∃ pre : List Int, pre.length = j ∧ L = pre ++ Bt.lst r 32) ∧ Hid (But X w wr) ∧ Hid (J j wr))
    (fun p _ => (Bt.lst (intOf p).toNat 32).length)
  case atStart => exact ⟨0, m, rfl, hm, ⟨[], rfl, by rw [List.nil_append, HL.out]⟩, HK.out, H0.out⟩
  case round =>
    obtain ⟨j, r, rfl, hr, hx, hk, hJr⟩ := hrel
    by_cases hz : r = 0
    · subst hz
      have HX : Hid (j = L.length) := by
        obtain ⟨pre, h1, h2⟩ := hx.out
        show _ = _
        rw [h2, Bt.lst_zero, List.append_nil, h1]
      gi_wp2_with fail
      go_end0
      exact ⟨⟨_, rfl⟩, .inl ⟨j, HX.out, hJr.out⟩⟩
    · have hne : ((r : Int) != 0) = true := by simp; omega
      have hst := Bt.lst_step r hz hr
      have htz := tz_any r wr hr hz (HT.out wr hk.out)
      have hw := fun W => without_any r (Lib.ctz 32 r : Int) W hr
      have hwl : Bt.wo r (Bt.one (Lib.ctz 32 r : Int)) < 4294967296 := Bt.wo_lt hr
      obtain ⟨k, hkk⟩ : ∃ k, k = Lib.ctz 32 r := ⟨_, rfl⟩
      rw [← hkk] at hst htz hw hwl
      obtain ⟨s, hs⟩ : ∃ s, s = Bt.wo r (Bt.one (k : Int)) := ⟨_, rfl⟩
      rw [← hs] at hst hw hwl
      have hjl : j < L.length ∧ #[Value.int .i64 (k : Int)] = #[.int .i64 (L.getD j 0)] := by
        obtain ⟨pre, h1, h2⟩ := hx.out
        have h3 : L = pre ++ (k : Int) :: Bt.lst s 32 := by rw [h2, hst]
        have hlt : j < L.length := by rw [h3, List.length_append, List.length_cons]; omega
        have e : L[j] = (k : Int) := by
          have : L[j]? = some (k : Int) := by rw [h3, List.getElem?_append_right (by omega), ← h1, Nat.sub_self]; rfl
          rw [List.getElem?_eq_getElem hlt] at this
          exact Option.some.inj this
        exact ⟨hlt, by rw [List.getD_eq_getElem?_getD, List.getElem?_eq_getElem hlt, e]; rfl⟩
      have HX2 : Hid (∃ pre : List Int, pre.length = j + 1 ∧ L = pre ++ Bt.lst s 32) := by
        obtain ⟨pre, h1, h2⟩ := hx.out
        exact ⟨pre ++ [(k : Int)], by simp [h1], by rw [h2, hst]; simp⟩
      have HST := Lib.hid hst; clear hst
      have HTZ := Lib.hid htz; clear htz
      have HW := Lib.hid hw; clear hw
      clear hkk hs
      obtain ⟨fn, tmps, assign, body, hy, hR⟩ := HY.out j #[.int .i64 (k : Int)] wr hJr.out ⟨hk.out, hjl⟩
      have HR := Lib.hid hR; clear hR
      clear hjl
      gi_wp2_with fail
      refine ⟨trivial, (callsIn_wide.2 HTZ.out).mono ?_⟩
      rintro e w' ⟨rfl, rfl⟩
      gi_wp2_with fail
      refine HR.out.mono ?_
      rintro e W3 (⟨rfl, hJ3, hk3⟩ | ⟨rfl, hJx3⟩)
      · have HJ3 := Lib.hid hJ3; clear hJ3
        have HK3 := Lib.hid (hk.out.more hk3 HLW.out); clear hk3
        gi_wp2_with fail
        refine ⟨trivial, (callsIn_wide.2 (HW.out _)).mono ?_⟩
        rintro e w' ⟨rfl, rfl⟩
        gi_wp2_with fail
        go_roundw
        case rel => exact ⟨j + 1, s, rfl, hwl, HX2.out, HK3.out, HJ3.out⟩
        case measure =>
          show (Bt.lst s 32).length < (Bt.lst r 32).length
          rw [HST.out]
          simp
      · have HJ3 := Lib.hid hJx3; clear hJx3
        gi_wp2_with fail
        refine bodyPost_ret (results_none rfl _ _ _) rfl ?_
        exact ⟨⟨_, rfl⟩, .inr ⟨j + 1, HJ3.out⟩⟩
end Go.Proofs.YtngfbkkfnooobaaGreatDoor
/-
  Contracts of held, Cut, At (chunk) and of the reference's Way.
-/
namespace Go.Proofs.YtngfbkkfnooobaaGreatDoor
open Go.RowKit
set_option maxHeartbeats 400000
set_option maxRecDepth 100000
theorem wrap_top (k : Nat) (hk : k ≤ 64) : IntKind.u64.wrap (18446744073709551615 * 2 ^ k) = ((2 ^ 64 - 2 ^ k : Nat) : Int) := by
  rw [IntKind.wrap_u64]
  have hp : (2 : Nat) ^ k ≤ 2 ^ 64 := Nat.pow_le_pow_right (by decide) hk
  have hp0 : 0 < (2 : Nat) ^ k := Nat.two_pow_pos k
  have e : ((2 : Int) ^ k) = ((2 ^ k : Nat) : Int) := by simp
  rw [e]
  generalize (2 : Nat) ^ k = q at *
  have h1 : (18446744073709551615 * (q : Int)) = ((2 ^ 64 - q : Nat) : Int) + 18446744073709551616 * ((q : Int) - 1) := by omega
  rw [h1, Int.add_mul_emod_self_left]
  omega
theorem low_mask (y k : Nat) (hk : k ≤ 64) : y &&& (18446744073709551615 - (2 ^ 64 - 2 ^ k)) = y % 2 ^ k := by
  have hp : (2 : Nat) ^ k ≤ 2 ^ 64 := Nat.pow_le_pow_right (by decide) hk
  have hp0 : 0 < (2 : Nat) ^ k := Nat.two_pow_pos k
  have e : 18446744073709551615 - (2 ^ 64 - 2 ^ k) = 2 ^ k - 1 := by generalize (2 : Nat) ^ k = q at *; omega
  rw [e, Nat.and_two_pow_sub_one_eq_mod]
/-- what Cut comes to. -/
def cutN (x f k : Nat) : Nat := x / 2 ^ f % 2 ^ k
theorem cut_bits (x f k : Nat) (hx : x < 18446744073709551616) (hk : k ≤ 64) :
    bits .andNot .u64 ((x : Int) / 2 ^ f) (IntKind.u64.wrap (18446744073709551615 * 2 ^ k)) = ((cutN x f k : Nat) : Int) := by
  have hy : x / 2 ^ f < 18446744073709551616 := Nat.lt_of_le_of_lt (Nat.div_le_self _ _) hx
  have e : ((x : Int) / 2 ^ f) = ((x / 2 ^ f : Nat) : Int) := by simp
  have hp0 : 0 < (2 : Nat) ^ k := Nat.two_pow_pos k
  rw [wrap_top k hk, e, u64_andNot_nat _ _ hy (by omega)]
  rw [low_mask _ k hk]
  rfl
theorem pow32 (i : Nat) : (32 : Nat) ^ i = 2 ^ (5 * i) := by rw [show (32 : Nat) = 2 ^ 5 from rfl, ← Nat.pow_mul]
theorem cut_ch (h i : Nat) : cutN h (5 * i) 5 = ch h i := by rw [cutN, ch, pow32]
theorem wheld_any (n m : Int) (w : World) (h : 0 ≤ m) :
    Calls Tryz.prog 103 #[.int .i64 n, .int .i64 m] w fun e w' => e = .returned (.int .i64 (max 0 (min n m))) ∧ w = w' := by
  go_enter Tryz.func103, Tryz.ntmps103
  go_wp2
  all_goals go_ret
  all_goals exact ⟨ret_int (by omega), rfl⟩
theorem cut_any (x : Nat) (f k : Int) (w : World) (hx : x < 18446744073709551616) :
    Calls Tryz.prog 91 #[.int .u64 x, .int .i64 f, .int .i64 k] w fun e w' => e = .returned (.int .u64 (cutN x (max 0 (min f 64)).toNat (max 0 (min k 64)).toNat : Nat)) ∧ w = w' := by
  go_enter Tryz.func91, Tryz.ntmps91
  go_wp2_with (go_at_call 103; refine (wheld_any _ _ _ (by omega)).mono ?_; rintro e w' ⟨rfl, rfl⟩)
  go_ret
  exact ⟨ret_int (cut_bits x _ _ hx (by omega)), rfl⟩
theorem at_cut (x i : Nat) (w : World) (hx : x < 18446744073709551616) (hi : i ≤ 12) :
    Calls Tryz.prog 91 #[.int .u64 x, .int .i64 (5 * (i : Int)), .int .i64 5] w fun e w' => e = .returned (.int .u64 (ch x i : Nat)) ∧ w = w' := by
  have h := cut_any x (5 * (i : Int)) 5 w hx
  have e1 : (max 0 (min (5 * (i : Int)) 64)).toNat = 5 * i := by omega
  have e2 : (max 0 (min (5 : Int) 64)).toNat = 5 := by decide
  rw [e1, e2, cut_ch] at h
  exact h
theorem at_nat (x i : Nat) (w : World) (hx : x < 18446744073709551616) (hi : i ≤ 12) :
    Calls Tryz.prog 72 #[.int .u64 x, .int .i64 (i : Int)] w fun e w' => e = .returned (.int .i64 (ch x i : Nat)) ∧ w = w' := by
  have hc := at_cut x i w hx hi
  have hlt := ch_lt x i
  obtain ⟨c, hcc⟩ : ∃ c, c = ch x i := ⟨_, rfl⟩
  rw [← hcc] at hc hlt ⊢
  have HC := Lib.hid hc; clear hc hcc
  by_cases h3 : i = 0
  · subst h3
    go_enter Tryz.func72, Tryz.ntmps72
    go_wp2_with fail
    refine HC.out.mono ?_
    rintro e w' ⟨rfl, rfl⟩
    go_wp2_with fail
    go_ret
    exact ⟨ret_int (by omega), rfl⟩
  · by_cases h4 : i = 12
    · subst h4
      go_enter Tryz.func72, Tryz.ntmps72
      go_wp2_with fail
      refine HC.out.mono ?_
      rintro e w' ⟨rfl, rfl⟩
      go_wp2_with fail
      go_ret
      exact ⟨ret_int (by omega), rfl⟩
    · have h5 : 0 < i := by omega
      have h6 : i < 12 := by omega
      go_enter Tryz.func72, Tryz.ntmps72
      go_wp2_with fail
      refine HC.out.mono ?_
      rintro e w' ⟨rfl, rfl⟩
      go_wp2_with fail
      go_ret
      exact ⟨ret_int (by omega), rfl⟩
/-! ### the reference's Way -/
/-- the first chunks -/
def way (h : Nat) : Nat → List Nat
  | 0 => []
  | n + 1 => way h n ++ [ch h n]
theorem way_length (h : Nat) : ∀ n, (way h n).length = n
  | 0 => rfl
  | n + 1 => by rw [way, List.length_append, way_length h n]; rfl
theorem way_get (h : Nat) : ∀ n j, j < n → (way h n)[j]? = some (ch h j)
  | 0, j, hj => absurd hj (Nat.not_lt_zero j)
  | n + 1, j, hj => by
    rw [way]
    rcases Nat.lt_or_ge j n with g | g
    · rw [List.getElem?_append_left (by rw [way_length]; exact g), way_get h n j g]
    · obtain rfl : j = n := by omega
      rw [List.getElem?_append_right (by rw [way_length]; exact Nat.le_refl _), way_length, Nat.sub_self]; rfl
/-- the cells of a way behind j rounds -/
def wcells (h j : Nat) : List Value := (way h j).map (fun n => .int .i64 (n : Int)) ++ List.replicate (13 - j) (.int .i64 0)
theorem wcells_at (h j : Nat) (hj : j < 13) : (wcells h j)[j]? = some (.int .i64 0) := by
  unfold wcells
  rw [List.getElem?_append_right (by simp [way_length]), List.getElem?_replicate, if_pos (by simp [way_length]; omega)]
theorem wcells_length (h j : Nat) (hj : j ≤ 13) : (wcells h j).length = 13 := by simp [wcells, way_length]; omega
theorem wcells_set (h j : Nat) (hj : j < 13) : (wcells h j).set j (.int .i64 ((ch h j : Nat) : Int)) = wcells h (j + 1) := by
  unfold wcells
  rw [List.set_append_right _ _ (by simp [way_length]), way, List.map_append, List.append_assoc]
  congr 1
  have e : 13 - j = (13 - (j + 1)) + 1 := by omega
  have e2 : j - (List.map (fun n : Nat => Value.int .i64 (n : Int)) (way h j)).length = 0 := by simp [way_length]
  rw [e2, e, List.replicate_succ]
  rfl
/-- a whole way, as cells -/
def wayV (h : Nat) : Array Value := (wcells h 13).toArray
theorem wayV_size (h : Nat) : (wayV h).size = 13 := by simp [wayV, wcells_length]
theorem wayV_get (h j : Nat) (hj : j < 13) : (wayV h)[j]? = some (.int .i64 ((ch h j : Nat) : Int)) := by
  simp only [wayV, wcells, Nat.sub_self, List.replicate_zero, List.append_nil, List.getElem?_toArray, List.getElem?_map, way_get h 13 j hj, Option.map_some]
theorem wayV_one (h : Nat) : (wayV h).all (·.oneCell') = true := by
  rw [Array.all_eq_true_iff_forall_mem]
  intro v hv
  simp only [wayV, wcells, List.mem_toArray, List.mem_append, List.mem_map, List.mem_replicate] at hv
  rcases hv with ⟨n, _, rfl⟩ | ⟨_, rfl⟩ <;> rfl
end Go.Proofs.YtngfbkkfnooobaaGreatDoor
