/-
  A range over a function whose iterator keeps memory of its own, and hands out what it says something of: the statement's walk out of the iterator's contract and the walk of one round. The caller's invariant speaks of what lay when the loop began.
-/
import Derived.Test.YtmbdimonfdncpaaGreatDoorMaking
import Derived.RangeFuncBox
import Derived.RangeFuncCalls
import Derived.RangeFuncLeaves
import Derived.Shelf.RegionOpen
import Derived.OwnWalkIn
import Derived.TacticsInMore
import Derived.LoopNIn
import Derived.LoopIn
import Derived.WalkKit
import Derived.Below
namespace Go.Proofs.YtmbdimonfdncpaaGreatDoor
open Go.RowKit
set_option maxHeartbeats 1000000
set_option maxRecDepth 100000
theorem But.trans {X : Nat → Prop} {a b c : World} (h : But X a b) (k : But X b c) : But X a c :=
  ⟨k.os.trans h.os, k.tape.trans h.tape, k.output.trans h.output, Nat.le_trans h.size k.size, fun i hi hx => (k.block i (Nat.lt_of_lt_of_le hi h.size) hx).trans (h.block i hi hx)⟩
theorem But.mono {X Y : Nat → Prop} {a b : World} (h : But X a b) (hx : ∀ k, X k → Y k) : But Y a b := ⟨h.os, h.tape, h.output, h.size, fun i hi hn => h.block i hi fun e => hn (hx i e)⟩
theorem But.of {X : Nat → Prop} {a b : World} (h : Below a.heap.size a b) : But X a b := ⟨h.os, h.tape, h.output, h.size, fun i hi _ => h.block i hi⟩
theorem But.put (w : World) (l : Nat) (o : Obj) : But (fun k => k = l) w (w.putObj l o) := ⟨rfl, rfl, rfl, by simp, fun _ _ hk => World.putObj_heap_other hk⟩
theorem But.set (w : World) (b i : Nat) (v : Value) : But (fun k => k = b) w (w.setCell ⟨b, i, none⟩ v) := ⟨rfl, rfl, rfl, by simp [World.setCell], fun k _ hk => Below.heap_setCell w _ _ k hk⟩
/-- how a round may be left -/
def leave (I : Nat → World → Prop) (Ix : Code → Nat → World → Prop) (X : Nat → Prop) (j : Nat) (W : World) : Exit → Act → World → Prop
  | .normal, _, W' => But X W W' ∧ I j W'
  | .ret, _, W' => But X W W' ∧ Ix .ret j W'
  | .exit i, _, W' => But X W W' ∧ Ix (.exit i) j W'
  | .goto t, _, W' => But X W W' ∧ Ix (.goto t) j W'
  | .panic _, _, _ => False
  | .outgrown, _, _ => False
/-- what an iterator keeps: called in a world W, with yields of the loop l, it hands out, one by one, what G says something of; and it asks no more of a round than that it leaves all but the blocks of X, and the loop's record, as they lie -/
def Hands (n : Nat) (P : Program) (gf : Nat) (lb : Array Value) (X : Nat → Prop) (G : Nat → Array Value → World → Prop) (D : Nat → Prop) (w : World) : Prop :=
  ∀ (l : Nat) (J Jx : Nat → World → Prop) (W : World), l + 1 = W.heap.size → w.heap.size ≤ l → Below w.heap.size w W →
    (∀ j A B, J j A → Below W.heap.size A B → J j B) → (∀ j A B, Jx j A → Below W.heap.size A B → Jx j B) →
    (∀ j vs A, J j A → G j vs A → YieldAt Fence.wide (n - 1) P l vs A fun e B => (e = .returned (.bool true) ∧ J (j + 1) B ∧ But (fun k => X k ∨ k = l) A B) ∨ (e = .returned (.bool false) ∧ Jx (j + 1) B)) →
    J 0 W → CallsIn Fence.wide n P gf (#[.func (.yield l) #[] #[]] ++ lb) W fun e B => (∃ v, e = .returned v) ∧ ((∃ j, D j ∧ J j B) ∨ ∃ j, Jx j B)
theorem wp_range {n : Nat} {P : Program} {g : Operand} {ps : Array Tmp} {assign body : Code} {Q : Exit → Act → World → Prop} {a : Act} {w : World} {gf : Nat} {lb : Array Value}
    (hg : a.eval g = .func (.func gf) #[] lb) (eg : ∀ args w, (callFunc gf args).run P w = .ok (.enter gf args) w)
    (I : Nat → World → Prop) (Ix : Code → Nat → World → Prop) {G : Nat → Array Value → World → Prop} {X : Nat → Prop} {D : Nat → Prop} (hseq : Hands (n - 1) P gf lb X G D w)
    (hI : ∀ j A B, I j A → Below w.heap.size A B → I j B) (hIx : ∀ c j A B, Ix c j A → Below w.heap.size A B → Ix c j B) (hX : ∀ k, X k → k < w.heap.size) (h0 : I 0 w)
    (hround : ∀ l j vs W, w.heap.size ≤ l → I j W → G j vs W → vs.size = ps.size ∧ ∀ K : Act → World → Prop,
      (∀ a1 W1, But X W W1 → (∀ W2, But (fun k => k = l) W1 W2 → (∃ r, W1.heap[l]? = some (.loop r)) → body.wpIn (Fence.wide.inRound l) (n - 1 - 1) P (leave I Ix X (j + 1) W2) a1 W2) → K a1 W1) →
      assign.wpIn (Fence.wide.inRound l) (n - 1 - 1) P (Exit.then K (fun _ _ _ => False)) { tmps := (ps.zip vs).foldl (fun t (p, v) => t.setIfInBounds p v) a.tmps, defers := [] } W)
    (hdone : ∀ d j W, w.heap.size ≤ d → D j → I j W → W.heap[d]? = some (.deferred (some [])) → Q .normal { a with defers := { target := .collected d, args := #[] } :: a.defers } W)
    (hstop : ∀ d c j W, w.heap.size ≤ d → Ix c j W → W.heap[d]? = some (.deferred (some [])) → c.wpIn Fence.wide n P Q { a with defers := { target := .collected d, args := #[] } :: a.defers } W)
    (h1 : 1 ≤ n := by omega) :
    (Code.rangeFunc g ps assign body).wpIn Fence.wide n P Q a w := by
  refine wpIn_rangeFunc fun fn hfn => ?_
  obtain ⟨L, hL⟩ : ∃ L, L = w.heap.size := ⟨_, rfl⟩
  obtain ⟨rec, hrec⟩ : ∃ rec : LoopState → Option Code → Loop, rec = fun s p => ⟨s, p, fn, a.tmps, ps, assign, body, L⟩ := ⟨_, rfl⟩
  have hpar : ∀ s p, (rec s p).params = ps := fun s p => by rw [hrec]
  have hst : ∀ s p, (rec s p).state = s := fun s p => by rw [hrec]
  have hpe : ∀ s p, (rec s p).pending = p := fun s p => by rw [hrec]
  have hto : ∀ s p s', { rec s p with state := s' } = rec s' p := fun s p s' => by rw [hrec]
  have hto2 : ∀ s p s' p', { rec s p with state := s', pending := p' } = rec s' p' := fun s p s' p' => by rw [hrec]
  obtain ⟨W1, hW1⟩ : ∃ W1, W1 = (w.alloc (.deferred (some []))).alloc (.loop (rec .ready none)) := ⟨_, rfl⟩
  have hent : (Instr.enterLoop fn a.tmps ps assign body none).run P w = .ok (L + 1, [{ target := .collected L, args := #[] }]) W1 := by
    rw [hW1, hrec, hL]
    exact run_enterLoop_outer _ _ _ _ _
  have hsz : W1.heap.size = L + 1 + 1 := by rw [hW1, hL]; simp
  have hbw : Below w.heap.size w W1 := by rw [hW1]; exact ((Below.refl _ w).alloc (Nat.le_refl _) _).alloc (by simp) _
  have hrl : W1.heap[L + 1]? = some (.loop (rec .ready none)) := by
    rw [hW1, hL]
    have := World.alloc_heap_new (w.alloc (.deferred (some []))) (.loop (rec .ready none))
    rwa [World.size_alloc] at this
  have hrd : W1.heap[L]? = some (.deferred (some [])) := by
    rw [hW1, hL]
    exact (Below.heap_alloc _ _ _ (by simp)).trans (World.alloc_heap_new w _)
  clear hW1
  refine ⟨L + 1, _, W1, { target := .fn (.func gf) lb, args := #[.func (.yield (L + 1)) #[] #[]] }, W1, gf, #[.func (.yield (L + 1)) #[] #[]] ++ lb, W1, hent, ?_, fun _ _ => trivial, ?_, fun _ => h1, ?_⟩
  · simp only [resolve, hg]
    simp [go_sem]
  · simp [invoke, go_sem, eg]
  refine (hseq (L + 1) (fun j W => I j W ∧ W.heap[L + 1]? = some (.loop (rec .ready none)) ∧ W.heap[L]? = some (.deferred (some [])))
    (fun j W => ∃ c, Ix c j W ∧ W.heap[L + 1]? = some (.loop (rec .done (some c))) ∧ W.heap[L]? = some (.deferred (some []))) W1 hsz.symm (by omega) hbw
    (fun j A B h k => ⟨hI j A B h.1 (k.mono (by omega)), (k.block _ (by omega)).trans h.2.1, (k.block _ (by omega)).trans h.2.2⟩)
    (fun j A B ⟨c, h⟩ k => ⟨c, hIx c j A B h.1 (k.mono (by omega)), (k.block _ (by omega)).trans h.2.1, (k.block _ (by omega)).trans h.2.2⟩) ?_ ⟨hI 0 w W1 h0 hbw, hrl, hrd⟩).mono ?_
  · rintro j vs A ⟨hi, hl, hd⟩ hG
    obtain ⟨hvs, hwalk0⟩ := hround (L + 1) j vs A (by omega) hi hG
    have hwalk := hwalk0 (fun a1 W1 => But X A W1 ∧ ∀ W2, But (fun k => k = L + 1) W1 W2 → (∃ r, W1.heap[L + 1]? = some (.loop r)) → body.wpIn (Fence.wide.inRound (L + 1)) (n - 1 - 1) P (leave I Ix X (j + 1) W2) a1 W2) (fun _ _ h1 h2 => ⟨h1, h2⟩)
    have hy := run_yield (P := P) (args := vs) hl (by rw [hpar]; exact hvs)
    rw [hrec] at hy
    refine ⟨_, _, _, _, hy, roundIn_of_wpIn hfn (wpIn_mono hwalk ?_)⟩
    rintro e a2 A2 h2
    have lt1 := (Array.getElem?_eq_some_iff.1 hl).1
    cases e with
    | normal =>
      obtain ⟨hk2, hbody⟩ := h2
      have hl2 := (hk2.block (L + 1) lt1 (fun e => by have := hX _ e; omega)).trans hl
      have hd2 := (hk2.block L (by omega) (fun e => by have := hX _ e; omega)).trans hd
      have lt2 := (Array.getElem?_eq_some_iff.1 hl2).1
      have hbr := run_beginRound (P := P) hl2 (hst _ _)
      rw [hto] at hbr
      obtain ⟨A3, hA3⟩ : ∃ A3, A3 = A2.putObj (L + 1) (.loop (rec .busy none)) := ⟨_, rfl⟩
      rw [← hA3] at hbr
      have hk3 : But (fun k => k = L + 1) A2 A3 := by rw [hA3]; exact But.put _ _ _
      have hl3 : A3.heap[L + 1]? = some (.loop (rec .busy none)) := by rw [hA3]; exact World.putObj_heap_same lt2
      have hd3 := (hk3.block L (by omega) (by omega)).trans hd2
      clear hA3
      refine ⟨A3, hbr, wpIn_mono (hbody A3 hk3 ⟨_, hl2⟩) ?_⟩
      have fin : ∀ (jump : Option Code) (A4 : World), But X A3 A4 → ∃ B, (Instr.endRound (L + 1) jump).run P A4 = .ok (.bool jump.isNone) B ∧ Below w.heap.size A4 B ∧ But (fun k => X k ∨ k = L + 1) A B ∧
          B.heap[L + 1]? = some (.loop (rec (if jump.isNone then .ready else .done) jump)) ∧ B.heap[L]? = some (.deferred (some [])) := by
        intro jump A4 hk4
        have lt3 := (Array.getElem?_eq_some_iff.1 hl3).1
        have hl4 := (hk4.block (L + 1) lt3 (fun e => by have := hX _ e; omega)).trans hl3
        have hd4 := (hk4.block L (by omega) (fun e => by have := hX _ e; omega)).trans hd3
        have hend := run_endRound (P := P) jump hl4
        rw [hto2] at hend
        refine ⟨_, hend, ?_, ?_, World.putObj_heap_same (Array.getElem?_eq_some_iff.1 hl4).1, (World.putObj_heap_other (by omega)).trans hd4⟩
        · exact (But.put A4 _ _).below (by have := hk2.size; have := hk3.size; have := hk4.size; omega) (fun k e => by omega)
        · exact (((hk2.mono fun _ => .inl).trans (hk3.mono fun _ => .inr)).trans (hk4.mono fun _ => .inl)).trans ((But.put A4 _ _).mono fun _ => .inr)
      rintro e a4 A4 h4
      cases e with
      | normal =>
        obtain ⟨B, q1, q2, q3, q4, q5⟩ := fin none A4 h4.1
        exact ⟨_, B, q1, .inl ⟨rfl, ⟨hI _ _ _ h4.2 q2, q4, q5⟩, q3⟩⟩
      | ret =>
        obtain ⟨B, q1, q2, _, q4, q5⟩ := fin (some .ret) A4 h4.1
        exact ⟨_, B, q1, .inr ⟨rfl, .ret, hIx _ _ _ _ h4.2 q2, q4, q5⟩⟩
      | exit i =>
        obtain ⟨B, q1, q2, _, q4, q5⟩ := fin (some (.exit i)) A4 h4.1
        exact ⟨_, B, q1, .inr ⟨rfl, .exit i, hIx _ _ _ _ h4.2 q2, q4, q5⟩⟩
      | goto t =>
        obtain ⟨B, q1, q2, _, q4, q5⟩ := fin (some (.goto t)) A4 h4.1
        exact ⟨_, B, q1, .inr ⟨rfl, .goto t, hIx _ _ _ _ h4.2 q2, q4, q5⟩⟩
      | panic c => exact h4.elim
      | outgrown => exact h4.elim
    | ret => exact h2.elim
    | exit i => exact h2.elim
    | goto t => exact h2.elim
    | panic c => exact h2.elim
    | outgrown => exact h2.elim
  · have last : ∀ (p : Option Code) (s : LoopState) (B : World), s ≠ .busy → B.heap[L + 1]? = some (.loop (rec s p)) → B.heap[L]? = some (.deferred (some [])) → w.heap.size ≤ B.heap.size →
        ∃ C, (Instr.endLoop (L + 1)).run P B = .ok p C ∧ Below w.heap.size B C ∧ C.heap[L]? = some (.deferred (some [])) := by
      intro p s B hs hl hd hsz
      have hend := run_endLoop (P := P) hl (by rw [hst]; exact hs)
      rw [hpe] at hend
      exact ⟨_, hend, (But.put B _ _).below hsz (fun k e => by omega), (World.putObj_heap_other (by omega)).trans hd⟩
    rintro e B ⟨⟨v, rfl⟩, (⟨j, hD, hi, hl, hd⟩ | ⟨j, c, hi, hl, hd⟩)⟩
    · obtain ⟨C, q1, q2, q3⟩ := last none .ready B (by simp) hl hd (by have := (Array.getElem?_eq_some_iff.1 hd).1; omega)
      exact ⟨none, C, q1, hdone L j C (by omega) hD (hI _ _ _ hi q2) q3⟩
    · obtain ⟨C, q1, q2, q3⟩ := last (some c) .done B (by simp) hl hd (by have := (Array.getElem?_eq_some_iff.1 hd).1; omega)
      exact ⟨some c, C, q1, hstop L c j C (by omega) (hIx _ _ _ _ hi q2) q3⟩
end Go.Proofs.YtmbdimonfdncpaaGreatDoor
