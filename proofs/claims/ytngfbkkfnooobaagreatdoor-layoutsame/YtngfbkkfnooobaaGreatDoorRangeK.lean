/-
  A range over a function whose iterator leaves all memory as it lies between its rounds: the caller's invariant may speak of what the rounds have made. And All's iterator (bits) is such.
-/
import Derived.Test.YtngfbkkfnooobaaGreatDoorHandz
namespace Go.Proofs.YtngfbkkfnooobaaGreatDoor
open Go.RowKit Go.Shelf
set_option maxHeartbeats 1000000
set_option maxRecDepth 100000
/-- what an iterator keeps that leaves all memory between its rounds as it lies: called in a world W, with yields of the loop l, it hands out, one by one, what G says something of; and it asks no more of a round than that it leaves all but the blocks of X, and the loop's record, as they lie -/
def HandsK (n : Nat) (P : Program) (gf : Nat) (lb : Array Value) (X : Nat → Prop) (G : Nat → Array Value → World → Prop) (D : Nat → Prop) (w : World) : Prop :=
  ∀ (l : Nat) (J Jx : Nat → World → Prop) (W : World), l + 1 = W.heap.size → w.heap.size ≤ l → Below w.heap.size w W →
    (∀ j vs A, J j A → G j vs A → YieldAt Fence.wide (n - 1) P l vs A fun e B => (e = .returned (.bool true) ∧ J (j + 1) B ∧ But (fun k => X k ∨ k = l) A B) ∨ (e = .returned (.bool false) ∧ Jx (j + 1) B)) →
    J 0 W → CallsIn Fence.wide n P gf (#[.func (.yield l) #[] #[]] ++ lb) W fun e B => (∃ v, e = .returned v) ∧ ((∃ j, D j ∧ J j B) ∨ ∃ j, Jx j B)
theorem wp_rangeK {n : Nat} {P : Program} {g : Operand} {ps : Array Tmp} {assign body : Code} {Q : Exit → Act → World → Prop} {a : Act} {w : World} {gf : Nat} {lb : Array Value}
    (hg : a.eval g = .func (.func gf) #[] lb) (eg : ∀ args w, (callFunc gf args).run P w = .ok (.enter gf args) w)
    (I : Nat → World → Prop) (Ix : Code → Nat → World → Prop) {G : Nat → Array Value → World → Prop} {X : Nat → Prop} {D : Nat → Prop} (hseq : HandsK (n - 1) P gf lb X G D w)
    (hI : ∀ j A B, I j A → But (fun k => k = w.heap.size ∨ k = w.heap.size + 1) A B → I j B) (hIx : ∀ c j A B, Ix c j A → But (fun k => k = w.heap.size ∨ k = w.heap.size + 1) A B → Ix c j B) (hX : ∀ k, X k → k ≠ w.heap.size ∧ k ≠ w.heap.size + 1) (h0 : I 0 w)
    (hround : ∀ l j vs W, l = w.heap.size + 1 → l < W.heap.size → I j W → G j vs W → vs.size = ps.size ∧ ∀ K : Act → World → Prop,
      (∀ a1 W1, But X W W1 → (∀ W2, But (fun k => k = l) W1 W2 → (∃ r, W1.heap[l]? = some (.loop r)) → body.wpIn (Fence.wide.inRound l) (n - 1 - 1) P (leave I Ix X (j + 1) W2) a1 W2) → K a1 W1) →
      assign.wpIn (Fence.wide.inRound l) (n - 1 - 1) P (Exit.then K (fun _ _ _ => False)) { tmps := (ps.zip vs).foldl (fun t (p, v) => t.setIfInBounds p v) a.tmps, defers := [] } W)
    (hdone : ∀ d j W, d = w.heap.size → D j → I j W → W.heap[d]? = some (.deferred (some [])) → Q .normal { a with defers := { target := .collected d, args := #[] } :: a.defers } W)
    (hstop : ∀ d c j W, d = w.heap.size → Ix c j W → W.heap[d]? = some (.deferred (some [])) → c.wpIn Fence.wide n P Q { a with defers := { target := .collected d, args := #[] } :: a.defers } W)
    (h1 : 1 ≤ n := by omega) :
    (Code.rangeFunc g ps assign body).wpIn Fence.wide n P Q a w := by
  refine wpIn_rangeFunc fun fn hfn => ?_
  obtain ⟨L, hL⟩ : ∃ L, L = w.heap.size := ⟨_, rfl⟩
  obtain ⟨rec, hrec⟩ : ∃ rec : LoopState → Option Code → Loop, rec = fun s p => ⟨s, p, fn, a.tmps, ps, assign, body, L⟩ := ⟨_, rfl⟩
  have hpar : ∀ s p, (rec s p).params = ps := fun s p => by rw [hrec]
  have hst : ∀ s p, (rec s p).state = s := fun s p => by rw [hrec]
  have hpe : ∀ s p, (rec s p).pending = p := fun s p => by rw [hrec]
  have hto : ∀ s p s', { rec s p with state := s' } = rec s' p := fun s p s' => by rw [hrec]
  have hto2 : ∀ s p s' p', { rec s p with state := s', pending := p' } = rec s' p' := fun s p s' p' => by rw [hrec]
  obtain ⟨W1, hW1⟩ : ∃ W1, W1 = (w.alloc (.deferred (some []))).alloc (.loop (rec .ready none)) := ⟨_, rfl⟩
  have hent : (Instr.enterLoop fn a.tmps ps assign body none).run P w = .ok (L + 1, [{ target := .collected L, args := #[] }]) W1 := by
    rw [hW1, hrec, hL]
    exact run_enterLoop_outer _ _ _ _ _
  have hsz : W1.heap.size = L + 1 + 1 := by rw [hW1, hL]; simp
  have hbw : Below w.heap.size w W1 := by rw [hW1]; exact ((Below.refl _ w).alloc (Nat.le_refl _) _).alloc (by simp) _
  have hrl : W1.heap[L + 1]? = some (.loop (rec .ready none)) := by
    rw [hW1, hL]
    have := World.alloc_heap_new (w.alloc (.deferred (some []))) (.loop (rec .ready none))
    rwa [World.size_alloc] at this
  have hrd : W1.heap[L]? = some (.deferred (some [])) := by
    rw [hW1, hL]
    exact (Below.heap_alloc _ _ _ (by simp)).trans (World.alloc_heap_new w _)
  clear hW1
  refine ⟨L + 1, _, W1, { target := .fn (.func gf) lb, args := #[.func (.yield (L + 1)) #[] #[]] }, W1, gf, #[.func (.yield (L + 1)) #[] #[]] ++ lb, W1, hent, ?_, fun _ _ => trivial, ?_, fun _ => h1, ?_⟩
  · simp only [resolve, hg]
    simp [go_sem]
  · simp [invoke, go_sem, eg]
  refine (hseq (L + 1) (fun j W => I j W ∧ W.heap[L + 1]? = some (.loop (rec .ready none)) ∧ W.heap[L]? = some (.deferred (some [])))
    (fun j W => ∃ c, Ix c j W ∧ W.heap[L + 1]? = some (.loop (rec .done (some c))) ∧ W.heap[L]? = some (.deferred (some []))) W1 hsz.symm (by omega) hbw ?_ ⟨hI 0 w W1 h0 (But.of hbw), hrl, hrd⟩).mono ?_
  · rintro j vs A ⟨hi, hl, hd⟩ hG
    obtain ⟨hvs, hwalk0⟩ := hround (L + 1) j vs A (by omega) (Array.getElem?_eq_some_iff.1 hl).1 hi hG
    have hwalk := hwalk0 (fun a1 W1 => But X A W1 ∧ ∀ W2, But (fun k => k = L + 1) W1 W2 → (∃ r, W1.heap[L + 1]? = some (.loop r)) → body.wpIn (Fence.wide.inRound (L + 1)) (n - 1 - 1) P (leave I Ix X (j + 1) W2) a1 W2) (fun _ _ h1 h2 => ⟨h1, h2⟩)
    have hy := run_yield (P := P) (args := vs) hl (by rw [hpar]; exact hvs)
    rw [hrec] at hy
    refine ⟨_, _, _, _, hy, roundIn_of_wpIn hfn (wpIn_mono hwalk ?_)⟩
    rintro e a2 A2 h2
    have lt1 := (Array.getElem?_eq_some_iff.1 hl).1
    cases e with
    | normal =>
      obtain ⟨hk2, hbody⟩ := h2
      have hl2 := (hk2.block (L + 1) lt1 (fun e => by have := hX _ e; omega)).trans hl
      have hd2 := (hk2.block L (by omega) (fun e => by have := hX _ e; omega)).trans hd
      have lt2 := (Array.getElem?_eq_some_iff.1 hl2).1
      have hbr := run_beginRound (P := P) hl2 (hst _ _)
      rw [hto] at hbr
      obtain ⟨A3, hA3⟩ : ∃ A3, A3 = A2.putObj (L + 1) (.loop (rec .busy none)) := ⟨_, rfl⟩
      rw [← hA3] at hbr
      have hk3 : But (fun k => k = L + 1) A2 A3 := by rw [hA3]; exact But.put _ _ _
      have hl3 : A3.heap[L + 1]? = some (.loop (rec .busy none)) := by rw [hA3]; exact World.putObj_heap_same lt2
      have hd3 := (hk3.block L (by omega) (by omega)).trans hd2
      clear hA3
      refine ⟨A3, hbr, wpIn_mono (hbody A3 hk3 ⟨_, hl2⟩) ?_⟩
      have fin : ∀ (jump : Option Code) (A4 : World), But X A3 A4 → ∃ B, (Instr.endRound (L + 1) jump).run P A4 = .ok (.bool jump.isNone) B ∧ But (fun k => k = w.heap.size ∨ k = w.heap.size + 1) A4 B ∧ But (fun k => X k ∨ k = L + 1) A B ∧
          B.heap[L + 1]? = some (.loop (rec (if jump.isNone then .ready else .done) jump)) ∧ B.heap[L]? = some (.deferred (some [])) := by
        intro jump A4 hk4
        have lt3 := (Array.getElem?_eq_some_iff.1 hl3).1
        have hl4 := (hk4.block (L + 1) lt3 (fun e => by have := hX _ e; omega)).trans hl3
        have hd4 := (hk4.block L (by omega) (fun e => by have := hX _ e; omega)).trans hd3
        have hend := run_endRound (P := P) jump hl4
        rw [hto2] at hend
        refine ⟨_, hend, ?_, ?_, World.putObj_heap_same (Array.getElem?_eq_some_iff.1 hl4).1, (World.putObj_heap_other (by omega)).trans hd4⟩
        · exact (But.put A4 _ _).mono fun k e => .inr (by omega)
        · exact (((hk2.mono fun _ => .inl).trans (hk3.mono fun _ => .inr)).trans (hk4.mono fun _ => .inl)).trans ((But.put A4 _ _).mono fun _ => .inr)
      rintro e a4 A4 h4
      cases e with
      | normal =>
        obtain ⟨B, q1, q2, q3, q4, q5⟩ := fin none A4 h4.1
        exact ⟨_, B, q1, .inl ⟨rfl, ⟨hI _ _ _ h4.2 q2, q4, q5⟩, q3⟩⟩
      | ret =>
        obtain ⟨B, q1, q2, _, q4, q5⟩ := fin (some .ret) A4 h4.1
        exact ⟨_, B, q1, .inr ⟨rfl, .ret, hIx _ _ _ _ h4.2 q2, q4, q5⟩⟩
      | exit i =>
        obtain ⟨B, q1, q2, _, q4, q5⟩ := fin (some (.exit i)) A4 h4.1
        exact ⟨_, B, q1, .inr ⟨rfl, .exit i, hIx _ _ _ _ h4.2 q2, q4, q5⟩⟩
      | goto t =>
        obtain ⟨B, q1, q2, _, q4, q5⟩ := fin (some (.goto t)) A4 h4.1
        exact ⟨_, B, q1, .inr ⟨rfl, .goto t, hIx _ _ _ _ h4.2 q2, q4, q5⟩⟩
      | panic c => exact h4.elim
      | outgrown => exact h4.elim
    | ret => exact h2.elim
    | exit i => exact h2.elim
    | goto t => exact h2.elim
    | panic c => exact h2.elim
    | outgrown => exact h2.elim
  · have last : ∀ (p : Option Code) (s : LoopState) (B : World), s ≠ .busy → B.heap[L + 1]? = some (.loop (rec s p)) → B.heap[L]? = some (.deferred (some [])) → w.heap.size ≤ B.heap.size →
        ∃ C, (Instr.endLoop (L + 1)).run P B = .ok p C ∧ But (fun k => k = w.heap.size ∨ k = w.heap.size + 1) B C ∧ C.heap[L]? = some (.deferred (some [])) := by
      intro p s B hs hl hd hsz
      have hend := run_endLoop (P := P) hl (by rw [hst]; exact hs)
      rw [hpe] at hend
      exact ⟨_, hend, (But.put B _ _).mono (fun k e => .inr (by omega)), (World.putObj_heap_other (by omega)).trans hd⟩
    rintro e B ⟨⟨v, rfl⟩, (⟨j, hD, hi, hl, hd⟩ | ⟨j, c, hi, hl, hd⟩)⟩
    · obtain ⟨C, q1, q2, q3⟩ := last none .ready B (by simp) hl hd (by have := (Array.getElem?_eq_some_iff.1 hd).1; omega)
      exact ⟨none, C, q1, hdone L j C hL hD (hI _ _ _ hi q2) q3⟩
    · obtain ⟨C, q1, q2, q3⟩ := last (some c) .done B (by simp) hl hd (by have := (Array.getElem?_eq_some_iff.1 hd).1; omega)
      exact ⟨some c, C, q1, hstop L c j C hL (hIx _ _ _ _ hi q2) q3⟩
attribute [local go_sem] Oper.semAt_some
attribute [local irreducible] Bt.lst
theorem bits_handsK {n : Nat} {w : World} {Bn m : Nat} {X : Nat → Prop} (hn : 1 ≤ n) (hm : m < 4294967296) (hc : w.cell? ⟨Bn, 0, none⟩ = some (.int .u32 (m : Int))) (hBn : Bn < w.heap.size) (hT : Tab w) (x2 : ¬ X 0) :
    HandsK n Tryz.prog 85 #[.pointer (some ⟨Bn, 0, none⟩)] X (fun j vs W => But X w W ∧ j < (Bt.lst m 32).length ∧ vs = #[.int .i64 ((Bt.lst m 32).getD j 0)]) (fun j => j = (Bt.lst m 32).length) w := by
  intro l J Jx W hl hwl hbw hY h0
  have hK : But X w W := But.of hbw
  have hTK : ∀ V, But X w V → Tab V := fun V hV => hT.but hV x2
  have d0 := (hbw.cell (p := ⟨Bn, 0, none⟩) hBn).trans hc
  obtain ⟨L, hL⟩ : ∃ L, L = Bt.lst m 32 := ⟨_, rfl⟩
  simp only [← hL] at hY ⊢
  have HK := Lib.hid hK; clear hK
  have HT := Lib.hid hTK; clear hTK
  have HY := Lib.hid hY; clear hY
  have H0 := Lib.hid h0; clear h0
  have HL := Lib.hid hL; clear hL
  have HLW := Lib.hid hwl; clear hwl
  clear hc hT x2 hl hbw
  refine callsIn_of_wp Tryz.func85 rfl trivial ?_ rfl
  simp only [Tryz.ntmps85, List.size_toArray, List.length_cons, List.length_nil, Nat.reduceAdd, Nat.reduceSub, Array.replicate_succ, Array.replicate_zero, List.push_toArray, List.append_toArray, List.nil_append, List.cons_append]
  gi_wp2_with fail
  gi_loopw [3] (fun p wr => ∃ (j r : Nat), p = .int .u32 r ∧ r < 4294967296 ∧ Hid (∃ pre : List Int, pre.length = j ∧ L = pre ++ Bt.lst r 32) ∧ Hid (But X w wr) ∧ Hid (J j wr))
    (fun p _ => (Bt.lst (intOf p).toNat 32).length)
  case atStart => exact ⟨0, m, rfl, hm, ⟨[], rfl, by rw [List.nil_append, HL.out]⟩, HK.out, H0.out⟩
  case round =>
    obtain ⟨j, r, rfl, hr, hx, hk, hJr⟩ := hrel
    by_cases hz : r = 0
    · subst hz
      have HX : Hid (j = L.length) := by
        obtain ⟨pre, h1, h2⟩ := hx.out
        show _ = _
        rw [h2, Bt.lst_zero, List.append_nil, h1]
      gi_wp2_with fail
      go_end0
      exact ⟨⟨_, rfl⟩, .inl ⟨j, HX.out, hJr.out⟩⟩
    · have hne : ((r : Int) != 0) = true := by simp; omega
      have hst := Bt.lst_step r hz hr
      have htz := tz_any r wr hr hz (HT.out wr hk.out)
      have hw := fun W => without_any r (Lib.ctz 32 r : Int) W hr
      have hwl : Bt.wo r (Bt.one (Lib.ctz 32 r : Int)) < 4294967296 := Bt.wo_lt hr
      obtain ⟨k, hkk⟩ : ∃ k, k = Lib.ctz 32 r := ⟨_, rfl⟩
      rw [← hkk] at hst htz hw hwl
      obtain ⟨s, hs⟩ : ∃ s, s = Bt.wo r (Bt.one (k : Int)) := ⟨_, rfl⟩
      rw [← hs] at hst hw hwl
      have hjl : j < L.length ∧ #[Value.int .i64 (k : Int)] = #[.int .i64 (L.getD j 0)] := by
        obtain ⟨pre, h1, h2⟩ := hx.out
        have h3 : L = pre ++ (k : Int) :: Bt.lst s 32 := by rw [h2, hst]
        have hlt : j < L.length := by rw [h3, List.length_append, List.length_cons]; omega
        have e : L[j] = (k : Int) := by
          have : L[j]? = some (k : Int) := by rw [h3, List.getElem?_append_right (by omega), ← h1, Nat.sub_self]; rfl
          rw [List.getElem?_eq_getElem hlt] at this
          exact Option.some.inj this
        exact ⟨hlt, by rw [List.getD_eq_getElem?_getD, List.getElem?_eq_getElem hlt, e]; rfl⟩
      have HX2 : Hid (∃ pre : List Int, pre.length = j + 1 ∧ L = pre ++ Bt.lst s 32) := by
        obtain ⟨pre, h1, h2⟩ := hx.out
        exact ⟨pre ++ [(k : Int)], by simp [h1], by rw [h2, hst]; simp⟩
      have HST := Lib.hid hst; clear hst
      have HTZ := Lib.hid htz; clear htz
      have HW := Lib.hid hw; clear hw
      clear hkk hs
      obtain ⟨fn, tmps, assign, body, hy, hR⟩ := HY.out j #[.int .i64 (k : Int)] wr hJr.out ⟨hk.out, hjl⟩
      have HR := Lib.hid hR; clear hR
      clear hjl
      gi_wp2_with fail
      refine ⟨trivial, (callsIn_wide.2 HTZ.out).mono ?_⟩
      rintro e w' ⟨rfl, rfl⟩
      gi_wp2_with fail
      refine HR.out.mono ?_
      rintro e W3 (⟨rfl, hJ3, hk3⟩ | ⟨rfl, hJx3⟩)
      · have HJ3 := Lib.hid hJ3; clear hJ3
        have HK3 := Lib.hid (hk.out.more hk3 HLW.out); clear hk3
        gi_wp2_with fail
        refine ⟨trivial, (callsIn_wide.2 (HW.out _)).mono ?_⟩
        rintro e w' ⟨rfl, rfl⟩
        gi_wp2_with fail
        go_roundw
        case rel => exact ⟨j + 1, s, rfl, hwl, HX2.out, HK3.out, HJ3.out⟩
        case measure =>
          show (Bt.lst s 32).length < (Bt.lst r 32).length
          rw [HST.out]
          simp
      · have HJ3 := Lib.hid hJx3; clear hJx3
        gi_wp2_with fail
        refine bodyPost_ret (results_none rfl _ _ _) rfl ?_
        exact ⟨⟨_, rfl⟩, .inr ⟨j + 1, HJ3.out⟩⟩
end Go.Proofs.YtngfbkkfnooobaaGreatDoor
