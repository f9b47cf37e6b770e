/-
  A range over a function whose iterator leaves all memory as it lies between its rounds: the caller's invariant may speak of what the rounds have made. And All's iterator (bits) is such.
-/
import Derived.Test.YtajanacbifjmgaaDoorHand
import Derived.Test.YtajanacbifjmgaaDoorFlat
import Derived.Test.YtajanacbifjmgaaDoorChunk
import Derived.Deep.RegionLaw
import Derived.Test.YtajanacbifjmgaaDoorMaking
import Derived.StillTail
import Derived.OrdersIn
import Derived.TacticsIn
import Derived.Test.YtajanacbifjmgaaDoorFrom
import Derived.Test.YtajanacbifjmgaaDoorCome
namespace Go.Proofs.YtajanacbifjmgaaDoor
open Go.RowKit Go.Shelf
set_option maxHeartbeats 1000000
set_option maxRecDepth 100000
/-- what an iterator keeps that leaves all memory between its rounds as it lies: called in a world W, with yields of the loop l, it hands out, one by one, what G says something of; and it asks no more of a round than that it leaves all but the blocks of X, and the loop's record, as they lie -/
def HandsK (n : Nat) (P : Program) (gf : Nat) (lb : Array Value) (X : Nat → Prop) (G : Nat → Array Value → World → Prop) (D : Nat → Prop) (w : World) : Prop :=
  ∀ (l : Nat) (J Jx : Nat → World → Prop) (W : World), l + 1 = W.heap.size → w.heap.size ≤ l → Below w.heap.size w W →
    (∀ j vs A, J j A → G j vs A → YieldAt Fence.wide (n - 1) P l vs A fun e B => (e = .returned (.bool true) ∧ J (j + 1) B ∧ But (fun k => X k ∨ k = l) A B) ∨ (e = .returned (.bool false) ∧ Jx (j + 1) B)) →
    J 0 W → CallsIn Fence.wide n P gf (#[.func (.yield l) #[] #[]] ++ lb) W fun e B => (∃ v, e = .returned v) ∧ ((∃ j, D j ∧ J j B) ∨ ∃ j, Jx j B)
theorem wp_rangeK {n : Nat} {P : Program} {g : Operand} {ps : Array Tmp} {assign body : Code} {Q : Exit → Act → World → Prop} {a : Act} {w : World} {gf : Nat} {lb : Array Value}
    (hg : a.eval g = .func (.func gf) #[] lb) (eg : ∀ args w, (callFunc gf args).run P w = .ok (.enter gf args) w)
    (I : Nat → World → Prop) (Ix : Code → Nat → World → Prop) {G : Nat → Array Value → World → Prop} {X : Nat → Prop} {D : Nat → Prop} (hseq : HandsK (n - 1) P gf lb X G D w)
    (hI : ∀ j A B, I j A → But (fun k => k = w.heap.size ∨ k = w.heap.size + 1) A B → I j B) (hIx : ∀ c j A B, Ix c j A → But (fun k => k = w.heap.size ∨ k = w.heap.size + 1) A B → Ix c j B) (hX : ∀ k, X k → k ≠ w.heap.size ∧ k ≠ w.heap.size + 1) (h0 : I 0 w)
    (hround : ∀ l j vs W, l = w.heap.size + 1 → l < W.heap.size → I j W → G j vs W → vs.size = ps.size ∧ ∀ K : Act → World → Prop,
      (∀ a1 W1, But X W W1 → (∀ W2, But (fun k => k = l) W1 W2 → (∃ r, W1.heap[l]? = some (.loop r)) → body.wpIn (Fence.wide.inRound l) (n - 1 - 1) P (leave I Ix X (j + 1) W2) a1 W2) → K a1 W1) →
      assign.wpIn (Fence.wide.inRound l) (n - 1 - 1) P (Exit.then K (fun _ _ _ => False)) { tmps := (ps.zip vs).foldl (fun t (p, v) => t.setIfInBounds p v) a.tmps, defers := [] } W)
    (hdone : ∀ d j W, d = w.heap.size → D j → I j W → W.heap[d]? = some (.deferred (some [])) → Q .normal { a with defers := { target := .collected d, args := #[] } :: a.defers } W)
    (hstop : ∀ d c j W, d = w.heap.size → Ix c j W → W.heap[d]? = some (.deferred (some [])) → c.wpIn Fence.wide n P Q { a with defers := { target := .collected d, args := #[] } :: a.defers } W)
    (h1 : 1 ≤ n := by omega) :
    (Code.rangeFunc g ps assign body).wpIn Fence.wide n P Q a w := by
  refine wpIn_rangeFunc fun fn hfn => ?_
  obtain ⟨L, hL⟩ : ∃ L, L = w.heap.size := ⟨_, rfl⟩
  obtain ⟨rec, hrec⟩ : ∃ rec : LoopState → Option Code → Loop, rec = fun s p => ⟨s, p, fn, a.tmps, ps, assign, body, L⟩ := ⟨_, rfl⟩
  have hpar : ∀ s p, (rec s p).params = ps := fun s p => by rw [hrec]
  have hst : ∀ s p, (rec s p).state = s := fun s p => by rw [hrec]
  have hpe : ∀ s p, (rec s p).pending = p := fun s p => by rw [hrec]
  have hto : ∀ s p s', { rec s p with state := s' } = rec s' p := fun s p s' => by rw [hrec]
  have hto2 : ∀ s p s' p', { rec s p with state := s', pending := p' } = rec s' p' := fun s p s' p' => by rw [hrec]
  obtain ⟨W1, hW1⟩ : ∃ W1, W1 = (w.alloc (.deferred (some []))).alloc (.loop (rec .ready none)) := ⟨_, rfl⟩
  have hent : (Instr.enterLoop fn a.tmps ps assign body none).run P w = .ok (L + 1, [{ target := .collected L, args := #[] }]) W1 := by
    rw [hW1, hrec, hL]
    exact run_enterLoop_outer _ _ _ _ _
  have hsz : W1.heap.size = L + 1 + 1 := by rw [hW1, hL]; simp
  have hbw : Below w.heap.size w W1 := by rw [hW1]; exact ((Below.refl _ w).alloc (Nat.le_refl _) _).alloc (by simp) _
  have hrl : W1.heap[L + 1]? = some (.loop (rec .ready none)) := by
    rw [hW1, hL]
    have := World.alloc_heap_new (w.alloc (.deferred (some []))) (.loop (rec .ready none))
    rwa [World.size_alloc] at this
  have hrd : W1.heap[L]? = some (.deferred (some [])) := by
    rw [hW1, hL]
    exact (Below.heap_alloc _ _ _ (by simp)).trans (World.alloc_heap_new w _)
  clear hW1
  refine ⟨L + 1, _, W1, { target := .fn (.func gf) lb, args := #[.func (.yield (L + 1)) #[] #[]] }, W1, gf, #[.func (.yield (L + 1)) #[] #[]] ++ lb, W1, hent, ?_, fun _ _ => trivial, ?_, fun _ => h1, ?_⟩
  · simp only [resolve, hg]
    simp [go_sem]
  · simp [invoke, go_sem, eg]
  refine (hseq (L + 1) (fun j W => I j W ∧ W.heap[L + 1]? = some (.loop (rec .ready none)) ∧ W.heap[L]? = some (.deferred (some [])))
    (fun j W => ∃ c, Ix c j W ∧ W.heap[L + 1]? = some (.loop (rec .done (some c))) ∧ W.heap[L]? = some (.deferred (some []))) W1 hsz.symm (by omega) hbw ?_ ⟨hI 0 w W1 h0 (But.of hbw), hrl, hrd⟩).mono ?_
  · rintro j vs A ⟨hi, hl, hd⟩ hG
    obtain ⟨hvs, hwalk0⟩ := hround (L + 1) j vs A (by omega) (Array.getElem?_eq_some_iff.1 hl).1 hi hG
    have hwalk := hwalk0 (fun a1 W1 => But X A W1 ∧ ∀ W2, But (fun k => k = L + 1) W1 W2 → (∃ r, W1.heap[L + 1]? = some (.loop r)) → body.wpIn (Fence.wide.inRound (L + 1)) (n - 1 - 1) P (leave I Ix X (j + 1) W2) a1 W2) (fun _ _ h1 h2 => ⟨h1, h2⟩)
    have hy := run_yield (P := P) (args := vs) hl (by rw [hpar]; exact hvs)
    rw [hrec] at hy
    refine ⟨_, _, _, _, hy, roundIn_of_wpIn hfn (wpIn_mono hwalk ?_)⟩
    rintro e a2 A2 h2
    have lt1 := (Array.getElem?_eq_some_iff.1 hl).1
    cases e with
    | normal =>
      obtain ⟨hk2, hbody⟩ := h2
      have hl2 := (hk2.block (L + 1) lt1 (fun e => by have := hX _ e; omega)).trans hl
      have hd2 := (hk2.block L (by omega) (fun e => by have := hX _ e; omega)).trans hd
      have lt2 := (Array.getElem?_eq_some_iff.1 hl2).1
      have hbr := run_beginRound (P := P) hl2 (hst _ _)
      rw [hto] at hbr
      obtain ⟨A3, hA3⟩ : ∃ A3, A3 = A2.putObj (L + 1) (.loop (rec .busy none)) := ⟨_, rfl⟩
      rw [← hA3] at hbr
      have hk3 : But (fun k => k = L + 1) A2 A3 := by rw [hA3]; exact But.put _ _ _
      have hl3 : A3.heap[L + 1]? = some (.loop (rec .busy none)) := by rw [hA3]; exact World.putObj_heap_same lt2
      have hd3 := (hk3.block L (by omega) (by omega)).trans hd2
      clear hA3
      refine ⟨A3, hbr, wpIn_mono (hbody A3 hk3 ⟨_, hl2⟩) ?_⟩
      have fin : ∀ (jump : Option Code) (A4 : World), But X A3 A4 → ∃ B, (Instr.endRound (L + 1) jump).run P A4 = .ok (.bool jump.isNone) B ∧ But (fun k => k = w.heap.size ∨ k = w.heap.size + 1) A4 B ∧ But (fun k => X k ∨ k = L + 1) A B ∧
          B.heap[L + 1]? = some (.loop (rec (if jump.isNone then .ready else .done) jump)) ∧ B.heap[L]? = some (.deferred (some [])) := by
        intro jump A4 hk4
        have lt3 := (Array.getElem?_eq_some_iff.1 hl3).1
        have hl4 := (hk4.block (L + 1) lt3 (fun e => by have := hX _ e; omega)).trans hl3
        have hd4 := (hk4.block L (by omega) (fun e => by have := hX _ e; omega)).trans hd3
        have hend := run_endRound (P := P) jump hl4
        rw [hto2] at hend
        refine ⟨_, hend, ?_, ?_, World.putObj_heap_same (Array.getElem?_eq_some_iff.1 hl4).1, (World.putObj_heap_other (by omega)).trans hd4⟩
        · exact (But.put A4 _ _).mono fun k e => .inr (by omega)
        · exact (((hk2.mono fun _ => .inl).trans (hk3.mono fun _ => .inr)).trans (hk4.mono fun _ => .inl)).trans ((But.put A4 _ _).mono fun _ => .inr)
      rintro e a4 A4 h4
      cases e with
      | normal =>
        obtain ⟨B, q1, q2, q3, q4, q5⟩ := fin none A4 h4.1
        exact ⟨_, B, q1, .inl ⟨rfl, ⟨hI _ _ _ h4.2 q2, q4, q5⟩, q3⟩⟩
      | ret =>
        obtain ⟨B, q1, q2, _, q4, q5⟩ := fin (some .ret) A4 h4.1
        exact ⟨_, B, q1, .inr ⟨rfl, .ret, hIx _ _ _ _ h4.2 q2, q4, q5⟩⟩
      | exit i =>
        obtain ⟨B, q1, q2, _, q4, q5⟩ := fin (some (.exit i)) A4 h4.1
        exact ⟨_, B, q1, .inr ⟨rfl, .exit i, hIx _ _ _ _ h4.2 q2, q4, q5⟩⟩
      | goto t =>
        obtain ⟨B, q1, q2, _, q4, q5⟩ := fin (some (.goto t)) A4 h4.1
        exact ⟨_, B, q1, .inr ⟨rfl, .goto t, hIx _ _ _ _ h4.2 q2, q4, q5⟩⟩
      | panic c => exact h4.elim
      | outgrown => exact h4.elim
    | ret => exact h2.elim
    | exit i => exact h2.elim
    | goto t => exact h2.elim
    | panic c => exact h2.elim
    | outgrown => exact h2.elim
  · have last : ∀ (p : Option Code) (s : LoopState) (B : World), s ≠ .busy → B.heap[L + 1]? = some (.loop (rec s p)) → B.heap[L]? = some (.deferred (some [])) → w.heap.size ≤ B.heap.size →
        ∃ C, (Instr.endLoop (L + 1)).run P B = .ok p C ∧ But (fun k => k = w.heap.size ∨ k = w.heap.size + 1) B C ∧ C.heap[L]? = some (.deferred (some [])) := by
      intro p s B hs hl hd hsz
      have hend := run_endLoop (P := P) hl (by rw [hst]; exact hs)
      rw [hpe] at hend
      exact ⟨_, hend, (But.put B _ _).mono (fun k e => .inr (by omega)), (World.putObj_heap_other (by omega)).trans hd⟩
    rintro e B ⟨⟨v, rfl⟩, (⟨j, hD, hi, hl, hd⟩ | ⟨j, c, hi, hl, hd⟩)⟩
    · obtain ⟨C, q1, q2, q3⟩ := last none .ready B (by simp) hl hd (by have := (Array.getElem?_eq_some_iff.1 hd).1; omega)
      exact ⟨none, C, q1, hdone L j C hL hD (hI _ _ _ hi q2) q3⟩
    · obtain ⟨C, q1, q2, q3⟩ := last (some c) .done B (by simp) hl hd (by have := (Array.getElem?_eq_some_iff.1 hd).1; omega)
      exact ⟨some c, C, q1, hstop L c j C hL (hIx _ _ _ _ hi q2) q3⟩
attribute [local go_sem] Oper.semAt_some
attribute [local irreducible] Bt.lst
theorem bits_handsK {n : Nat} {w : World} {Bn m : Nat} {X : Nat → Prop} (hn : 1 ≤ n) (hm : m < 4294967296) (hc : w.cell? ⟨Bn, 0, none⟩ = some (.int .u32 (m : Int))) (hBn : Bn < w.heap.size) (hT : Tab w) (x2 : ¬ X 0) :
    HandsK n Tryd.prog 68 #[.pointer (some ⟨Bn, 0, none⟩)] X (fun j vs W => But X w W ∧ j < (Bt.lst m 32).length ∧ vs = #[.int .i64 ((Bt.lst m 32).getD j 0)]) (fun j => j = (Bt.lst m 32).length) w := by
  intro l J Jx W hl hwl hbw hY h0
  have hK : But X w W := But.of hbw
  have hTK : ∀ V, But X w V → Tab V := fun V hV => hT.but hV x2
  have d0 := (hbw.cell (p := ⟨Bn, 0, none⟩) hBn).trans hc
  obtain ⟨L, hL⟩ : ∃ L, L = Bt.lst m 32 := ⟨_, rfl⟩
  simp only [← hL] at hY ⊢
  have HK := Lib.hid hK; clear hK
  have HT := Lib.hid hTK; clear hTK
  have HY := Lib.hid hY; clear hY
  have H0 := Lib.hid h0; clear h0
  have HL := Lib.hid hL; clear hL
  have HLW := Lib.hid hwl; clear hwl
  clear hc hT x2 hl hbw
  refine callsIn_of_wp Tryd.func68 rfl trivial ?_ rfl
  simp only [Tryd.ntmps68, List.size_toArray, List.length_cons, List.length_nil, Nat.reduceAdd, Nat.reduceSub, Array.replicate_succ, Array.replicate_zero, List.push_toArray, List.append_toArray, List.nil_append, List.cons_append]
  gi_wp2_with fail
  gi_loopw [3] (fun p wr => ∃ (j r : Nat), p = .int .u32 r ∧ r < 4294967296 ∧ Hid (∃ pre : List Int, pre.length = j ∧ L = pre ++ Bt.lst r 32) ∧ Hid (But X w wr) ∧ Hid (J j wr))
    (fun p _ => (Bt.lst (intOf p).toNat 32).length)
  case atStart => exact ⟨0, m, rfl, hm, ⟨[], rfl, by rw [List.nil_append, HL.out]⟩, HK.out, H0.out⟩
  case round =>
    obtain ⟨j, r, rfl, hr, hx, hk, hJr⟩ := hrel
    by_cases hz : r = 0
    · subst hz
      have HX : Hid (j = L.length) := by
        obtain ⟨pre, h1, h2⟩ := hx.out
        show _ = _
        rw [h2, Bt.lst_zero, List.append_nil, h1]
      gi_wp2_with fail
      go_end0
      exact ⟨⟨_, rfl⟩, .inl ⟨j, HX.out, hJr.out⟩⟩
    · have hne : ((r : Int) != 0) = true := by simp; omega
      have hst := Bt.lst_step r hz hr
      have htz := tz_any r wr hr hz (HT.out wr hk.out)
      have hw := fun W => without_any r (Lib.ctz 32 r : Int) W hr
      have hwl : Bt.wo r (Bt.one (Lib.ctz 32 r : Int)) < 4294967296 := Bt.wo_lt hr
      obtain ⟨k, hkk⟩ : ∃ k, k = Lib.ctz 32 r := ⟨_, rfl⟩
      rw [← hkk] at hst htz hw hwl
      obtain ⟨s, hs⟩ : ∃ s, s = Bt.wo r (Bt.one (k : Int)) := ⟨_, rfl⟩
      rw [← hs] at hst hw hwl
      have hjl : j < L.length ∧ #[Value.int .i64 (k : Int)] = #[.int .i64 (L.getD j 0)] := by
        obtain ⟨pre, h1, h2⟩ := hx.out
        have h3 : L = pre ++ (k : Int) :: Bt.lst s 32 := by rw [h2, hst]
        have hlt : j < L.length := by rw [h3, List.length_append, List.length_cons]; omega
        have e : L[j] = (k : Int) := by
          have : L[j]? = some (k : Int) := by rw [h3, List.getElem?_append_right (by omega), ← h1, Nat.sub_self]; rfl
          rw [List.getElem?_eq_getElem hlt] at this
          exact Option.some.inj this
        exact ⟨hlt, by rw [List.getD_eq_getElem?_getD, List.getElem?_eq_getElem hlt, e]; rfl⟩
      have HX2 : Hid (∃ pre : List Int, pre.length = j + 1 ∧ L = pre ++ Bt.lst s 32) := by
        obtain ⟨pre, h1, h2⟩ := hx.out
        exact ⟨pre ++ [(k : Int)], by simp [h1], by rw [h2, hst]; simp⟩
      have HST := Lib.hid hst; clear hst
      have HTZ := Lib.hid htz; clear htz
      have HW := Lib.hid hw; clear hw
      clear hkk hs
      obtain ⟨fn, tmps, assign, body, hy, hR⟩ := HY.out j #[.int .i64 (k : Int)] wr hJr.out ⟨hk.out, hjl⟩
      have HR := Lib.hid hR; clear hR
      clear hjl
      gi_wp2_with fail
      refine ⟨trivial, (callsIn_wide.2 HTZ.out).mono ?_⟩
      rintro e w' ⟨rfl, rfl⟩
      gi_wp2_with fail
      refine HR.out.mono ?_
      rintro e W3 (⟨rfl, hJ3, hk3⟩ | ⟨rfl, hJx3⟩)
      · have HJ3 := Lib.hid hJ3; clear hJ3
        have HK3 := Lib.hid (hk.out.more hk3 HLW.out); clear hk3
        gi_wp2_with fail
        refine ⟨trivial, (callsIn_wide.2 (HW.out _)).mono ?_⟩
        rintro e w' ⟨rfl, rfl⟩
        gi_wp2_with fail
        go_roundw
        case rel => exact ⟨j + 1, s, rfl, hwl, HX2.out, HK3.out, HJ3.out⟩
        case measure =>
          show (Bt.lst s 32).length < (Bt.lst r 32).length
          rw [HST.out]
          simp
      · have HJ3 := Lib.hid hJx3; clear hJx3
        gi_wp2_with fail
        refine bodyPost_ret (results_none rfl _ _ _) rfl ?_
        exact ⟨⟨_, rfl⟩, .inr ⟨j + 1, HJ3.out⟩⟩
end Go.Proofs.YtajanacbifjmgaaDoor
/-
  The parts of entries by their chunks: an array of thirty-two lists, grown entry by entry; With.
-/
namespace Go.Proofs.YtajanacbifjmgaaDoor
open Go.RowKit
set_option maxHeartbeats 2000000
set_option maxRecDepth 100000
attribute [local irreducible] Bt.lst
theorem with_any (m : Nat) (z : Int) (w : World) (hm : m < 4294967296) :
    Calls Tryd.prog 56 #[.int .u32 m, .int .i64 z] w fun e w' => e = .returned (.int .u32 ((m ||| Bt.one z : Nat) : Int)) ∧ w = w' := by
  have h := Bt.alone_any z w
  have hl := Bt.one_lt z
  obtain ⟨a, ha⟩ : ∃ a, a = Bt.one z := ⟨_, rfl⟩
  rw [← ha] at h hl ⊢
  have H := Lib.hid h; clear h ha
  go_enter Tryd.func56, Tryd.ntmps56
  go_wp2_with fail
  refine H.out.mono ?_
  rintro e w' ⟨rfl, rfl⟩
  go_wp2_with fail
  go_ret
  exact ⟨ret_int (Bt.or32 hm hl), rfl⟩
/-- append of one struct that was laid into a block of its own just ahead, where a region draws its order -/
theorem step_appK {B : Nat} {w : World} {ops : Array Oper} {o : Oper} {a : Act} {K : Act → World → Prop} {Q : Exit → Act → World → Prop} {E : Prop} (t e : TypeId) (z : Value) (size bytes : Nat) (hu : Tryd.prog.underlying t = some (.slice e)) (hinf : (Tryd.prog.info? e).map (fun i => (i.zero, i.size, i.bytes)) = some (some z, size, bytes)) (hz : z.cells.size = size) (hs0 : 0 < size) (hby : bytes ≤ 200)
    (hgd : o.guard = none) (s x : Operand) (ho : o.op = .call { callee := .builtin .append, args := #[s, x], argTypes := #[t, t] }) (v : Value) (n : Nat) (xs : List Value) (h : w.ownsRow B e size v n xs) (news : List Value) (hl : news.length = size) (h1 : ∀ u ∈ news, u.oneCell' = true)
    (hs : a.eval s = v) (hx : a.eval x = .slice (some ⟨w.heap.size, 0, none⟩) 1 1) (hn : n ≤ 9000) (hB : B ≤ w.heap.size)
    (hK : ∀ v' w', w'.ownsRow B e size v' (n + 1) (xs ++ news) → w.grownBy w' v.ownBlock → (v'.ownBlock = v.ownBlock ∨ ∃ b, v'.ownBlock = some b ∧ w.heap.size ≤ b) → K (a.put o.dst v') w') :
    if Region.wanted o (yielded ops a.tmps) = true then Oper.wp Tryd.prog o a (w.alloc (.cells news.toArray e)) K Q else E := by
  have hw : Region.wanted o (yielded ops a.tmps) = true := by simp [Region.wanted, hgd]
  rw [if_pos hw]
  obtain ⟨i0, hi, hz0, hz1, hz2⟩ := info_parts hinf
  have hnew : (w.alloc (.cells news.toArray e)).heap[w.heap.size]? = some (.cells news.toArray e (0, 0)) := heap_alloc_new w _
  obtain ⟨v', w', hr, hown, hg, _, hob⟩ := run_append_own_at (P := Tryd.prog) (w := w.alloc (.cells news.toArray e)) B t o.type e i0 z size bytes hu hi hz0 hz1 hz2 hz hs0 v n xs (World.ownsRow.alloc h _) ⟨w.heap.size, 0, none⟩ 1 1 news (by rw [hl, Nat.one_mul])
    (by
      intro j u hj
      rw [Go.WideShapes.add_plain, Nat.zero_add, cell_of_row _ w.heap.size j _ e (0, 0) hnew, ← hj]
      simp) h1
    (by unfold maxLen; omega) (by have := Nat.mul_le_mul (show n + 1 ≤ 9001 by omega) hby; omega) (by simp; omega)
  have hg2 : w.grownBy w' v.ownBlock := grown_then (World.grownBy_alloc w _ none) hg
  unfold Oper.wp execOp
  simp only [ho, resolve, invoke, builtin, Sem.run_bind, Sem.run_pure, Result.andThen_ok, List.map_toArray, List.map_cons, List.map_nil, hs, hx, hr]
  refine hK v' w' hown hg2 ?_
  rcases hob with h | h
  · exact .inl h
  · exact .inr ⟨_, h, by simp⟩
/-- the array in block b holds the parts of some entries; their bytes lie in w0 -/
structure Prt (w0 wr : World) (b lv : Nat) (L : List En) (cur : Array Value) (xs : Nat → List Value) : Prop where
  row : wr.heap[b]? = some (.cells cur 112 (0, 0))
  size : cur.size = 32
  own : ∀ c, c < 32 → wr.ownsRow (b + 1) 51 3 (cur.getD c undef) (part lv L c).length (xs c)
  ens : ∀ c, c < 32 → Erow w0 (xs c) (part lv L c)
  far : ∀ c d k, c < 32 → d < 32 → (cur.getD c undef).ownBlock = some k → (cur.getD d undef).ownBlock = some k → c = d
theorem Prt.below {w0 w w' : World} {b lv : Nat} {L : List En} {cur : Array Value} {xs : Nat → List Value} (h : Prt w0 w b lv L cur xs) (hb : Below w.heap.size w w') : Prt w0 w' b lv L cur xs where
  row := (hb.block b (Array.getElem?_eq_some_iff.1 h.row).1).trans h.row
  size := h.size
  own := fun c hc => own_below (h.own c hc) hb
  ens := h.ens
  far := h.far
theorem getD_at {cur : Array Value} {c : Nat} (h : c < cur.size) : cur[c]? = some (cur.getD c undef) := by
  rw [Array.getD_eq_getD_getElem?, Array.getElem?_eq_getElem h]
  rfl
theorem Prt.cell {w0 wr : World} {b lv : Nat} {L : List En} {cur : Array Value} {xs : Nat → List Value} (h : Prt w0 wr b lv L cur xs) {c : Nat} (hc : c < 32) : wr.cell? ⟨b, c, none⟩ = some (cur.getD c undef) ∧ wr.frozen? ⟨b, c, none⟩ = false := by
  refine ⟨?_, frozen_of_row _ _ _ _ _ h.row⟩
  rw [cell_of_row wr b c _ 112 (0, 0) h.row]
  exact getD_at (by rw [h.size]; exact hc)
theorem Prt.start (w0 w : World) (b lv : Nat) (h : w.heap[b]? = some (.cells (List.replicate 32 (Value.slice none 0 0)).toArray 112 (0, 0))) : Prt w0 w b lv [] (List.replicate 32 (Value.slice none 0 0)).toArray (fun _ => []) where
  row := h
  size := by simp
  own := fun c hc => by
    have e : (List.replicate 32 (Value.slice none 0 0)).toArray.getD c undef = .slice none 0 0 := by
      rw [Array.getD_eq_getD_getElem?, List.getElem?_toArray, List.getElem?_replicate, if_pos hc]
      rfl
    rw [e]
    exact World.ownsRow_nil _ _ _ _
  ens := fun c hc => Erow.nil _
  far := fun c d k hc _ h1 _ => by
    have e : (List.replicate 32 (Value.slice none 0 0)).toArray.getD c undef = .slice none 0 0 := by
      rw [Array.getD_eq_getD_getElem?, List.getElem?_toArray, List.getElem?_replicate, if_pos hc]
      rfl
    rw [e] at h1
    cases h1
/-- a part grown by an entry -/
theorem Prt.step {w0 wA w1 : World} {b lv : Nat} {L : List En} {cur : Array Value} {xs : Nat → List Value} (h : Prt w0 wA b lv L cur xs) {e : En} {c : Nat} (hc : c < 32) (hch : ch e.1 lv = c) {ka va : Option Addr} {kc vc : Nat} (hk : Bts w0 ka e.2.1) (hv : Bts w0 va e.2.2) {v' : Value}
    (hown : w1.ownsRow (b + 1) 51 3 v' ((part lv L c).length + 1) (xs c ++ [.int .u64 (e.1 : Int), .slice ka e.2.1.length kc, .slice va e.2.2.length vc])) (hgr : wA.grownBy w1 (cur.getD c undef).ownBlock) (hloc : v'.ownBlock = (cur.getD c undef).ownBlock ∨ ∃ k, v'.ownBlock = some k ∧ wA.heap.size ≤ k) :
    (w1.cell? ⟨b, c, none⟩ = some (cur.getD c undef) ∧ w1.frozen? ⟨b, c, none⟩ = false) ∧ (∃ cur' xs', Prt w0 (w1.setCell ⟨b, c, none⟩ v') b lv (L ++ [e]) cur' xs') ∧ But (fun k => k = b ∨ (cur.getD c undef).ownBlock = some k) wA (w1.setCell ⟨b, c, none⟩ v') := by
  have hbl : b < wA.heap.size := (Array.getElem?_eq_some_iff.1 h.row).1
  have hlt : ∀ d, d < 32 → ∀ k, (cur.getD d undef).ownBlock = some k → b < k ∧ k < wA.heap.size := fun d hd k hk => by
    have := own_lt (h.own d hd) hk
    exact ⟨this.1, this.2.1⟩
  have r1 : w1.heap[b]? = some (.cells cur 112 (0, 0)) := (hgr.block b hbl fun e => by have := hlt c hc b e.symm; omega).trans h.row
  have hcs : c < cur.size := by rw [h.size]; exact hc
  have hv'b : ∀ k, v'.ownBlock = some k → k ≠ b := fun k hk e2 => by
    have := (own_lt hown hk).1
    omega
  have hpart : ∀ d, part lv (L ++ [e]) d = part lv L d ++ (if (c : Int) = d then [e] else []) := fun d => by
    rw [part, List.filter_append]
    congr 1
    rw [List.filter_cons, hch]
    by_cases hd : (c : Int) = d
    · rw [if_pos (by simpa using hd), if_pos hd]; rfl
    · rw [if_neg (by simpa using hd), if_neg hd]; rfl
  have gset : ∀ d, d < 32 → (cur.setIfInBounds c v').getD d undef = if c = d then v' else cur.getD d undef := fun d hd => by
    rw [Array.getD_eq_getD_getElem?, Array.getElem?_setIfInBounds]
    by_cases hcd : c = d
    · rw [if_pos hcd, if_pos hcd, if_pos hcs]; rfl
    · rw [if_neg hcd, if_neg hcd, ← Array.getD_eq_getD_getElem?]
  have hset : ∀ k, k ≠ b → (w1.setCell ⟨b, c, none⟩ v').heap[k]? = w1.heap[k]? := fun k hk => Below.heap_setCell w1 ⟨b, c, none⟩ v' k hk
  refine ⟨⟨by rw [cell_of_row w1 b c _ 112 (0, 0) r1]; exact getD_at hcs, frozen_of_row _ _ _ _ _ r1⟩, ⟨cur.setIfInBounds c v', fun d => if c = d then xs c ++ [.int .u64 (e.1 : Int), .slice ka e.2.1.length kc, .slice va e.2.2.length vc] else xs d, ?_⟩, ?_⟩
  · refine ⟨heap_setCell_same w1 b c cur 112 v' r1, by simpa using h.size, fun d hd => ?_, fun d hd => ?_, fun d f k hd hf h1 h2 => ?_⟩
    · rw [gset d hd, hpart]
      by_cases hcd : c = d
      · subst hcd
        rw [if_pos rfl, if_pos rfl, if_pos rfl, List.length_append, List.length_singleton]
        exact own_kept hown fun k hk => hset k (hv'b k hk)
      · rw [if_neg hcd, if_neg hcd, if_neg (by omega), List.append_nil]
        refine own_kept (h.own d hd) fun k hk => (hset k ?_).trans (hgr.block k (hlt d hd k hk).2 fun e2 => ?_)
        · have := (hlt d hd k hk).1
          omega
        · exact hcd (h.far c d k hc hd e2.symm hk)
    · rw [hpart]
      by_cases hcd : c = d
      · subst hcd
        rw [if_pos rfl, if_pos rfl]
        exact (h.ens c hc).snoc hk hv
      · rw [if_neg hcd, if_neg (by omega), List.append_nil]
        exact h.ens d hd
    · rw [gset d hd] at h1
      rw [gset f hf] at h2
      by_cases hcd : c = d
      · by_cases hcf : c = f
        · omega
        · rw [if_pos hcd] at h1
          rw [if_neg hcf] at h2
          rcases hloc with hl | ⟨k', hl, hk'⟩
          · rw [hl] at h1
            exact absurd (h.far c f k hc hf h1 h2) hcf
          · rw [hl] at h1
            injection h1 with h1
            have := (hlt f hf k h2).2
            omega
      · rw [if_neg hcd] at h1
        by_cases hcf : c = f
        · rw [if_pos hcf] at h2
          rcases hloc with hl | ⟨k', hl, hk'⟩
          · rw [hl] at h2
            exact absurd (h.far c d k hc hd h2 h1) hcd
          · rw [hl] at h2
            injection h2 with h2
            have := (hlt d hd k h1).2
            omega
        · rw [if_neg hcf] at h2
          exact h.far d f k hd hf h1 h2
  · refine ⟨hgr.os, hgr.tape, hgr.output, by simpa [World.setCell] using hgr.size, fun k hk hx => ?_⟩
    exact (hset k fun e => hx (.inl e)).trans (hgr.block k hk fun e => hx (.inr e.symm))
end Go.Proofs.YtajanacbifjmgaaDoor
/-
  A region that draws its order, in a round of a range over a function: its head may make memory, its tail has one order: what holds of the memory, by what has been done so far, and what each operation yielded; the tail walked once.
-/
namespace Go.Proofs.YtajanacbifjmgaaDoor
open Go.RowKit
section
variable {P : Program} {ops : Array Oper} {n : Nat} {a0 : Act} {I : Array Bool → World → Prop} {G : Nat → Value → World → Prop}
def dstOf (ops : Array Oper) (i : Nat) : Option Tmp := (ops[i]?).bind (·.dst)
/-- what the head's operations have yielded so far -/
structure Agree (ops : Array Oper) (n : Nat) (a0 : Act) (I : Array Bool → World → Prop) (G : Nat → Value → World → Prop) (listed : Array Bool) (a : Act) (w : World) : Prop where
  defers : a.defers = a0.defers
  size : a.tmps.size = a0.tmps.size
  inv : I listed w
  old : ∀ t : Nat, (∀ i, i < n → listed.getD i false = true → dstOf ops i ≠ some t) → a.tmps[t]? = a0.tmps[t]?
  new : ∀ i, i < n → listed.getD i false = true → ∃ t v, dstOf ops i = some t ∧ a.tmps[t]? = some v ∧ G i v w
theorem Agree.step (hd : ∀ i j, i < n → j < n → i ≠ j → dstOf ops i ≠ dstOf ops j) {listed : Array Bool} {a : Act} {w w' : World} (h : Agree ops n a0 I G listed a w) {i : Nat} (hi : i < n) (hl : i < listed.size)
    {t : Tmp} (ht : dstOf ops i = some t) (hts : t < a0.tmps.size) {v : Value} (hI : I (listed.setIfInBounds i true) w') (hg : G i v w') (hst : ∀ j v', j < n → j ≠ i → listed.getD j false = true → G j v' w → G j v' w') :
    Agree ops n a0 I G (listed.setIfInBounds i true) (a.put (dstOf ops i) v) w' := by
  rw [ht]
  have hself : (a.tmps.setIfInBounds t v)[t]? = some v := by rw [Array.getElem?_setIfInBounds_self_of_lt (by rw [h.size]; exact hts)]
  have hother : ∀ t', t ≠ t' → (a.tmps.setIfInBounds t v)[t']? = a.tmps[t']? := fun t' hne => Array.getElem?_setIfInBounds_ne hne
  have hne : ∀ j, j < n → j ≠ i → ∀ t', dstOf ops j = some t' → t ≠ t' := fun j hj hji t' ht' e => hd i j hi hj (Ne.symm hji) (by rw [ht, ht', e])
  have hlj : ∀ j, j ≠ i → (listed.setIfInBounds i true).getD j false = true → listed.getD j false = true := fun j hji hj => by rw [getD_set_ne false (Ne.symm hji)] at hj; exact hj
  refine ⟨h.defers, ?_, hI, ?_, ?_⟩
  · show (a.tmps.setIfInBounds t v).size = _
    rw [Array.size_setIfInBounds]; exact h.size
  · intro t' ht'
    show (a.tmps.setIfInBounds t v)[t']? = _
    have h1 : t ≠ t' := fun e => ht' i hi (by simp [Array.getD, hl]) (by rw [ht, e])
    rw [hother t' h1]
    exact h.old t' fun j hj hlj => ht' j hj (getD_set_true hlj)
  · intro j hj hjl
    by_cases hji : j = i
    · subst hji
      exact ⟨t, v, ht, hself, hg⟩
    · obtain ⟨t', v', e1, e2, e3⟩ := h.new j hj (hlj j hji hjl)
      exact ⟨t', v', e1, (hother t' (hne j hj hji t' e1)).trans e2, hst _ _ hj hji (hlj j hji hjl) e3⟩
/-- how many of the first n are not listed -/
def cnt (listed : Array Bool) : Nat → Nat
  | 0 => 0
  | k + 1 => cnt listed k + if listed.getD k false = true then 0 else 1
theorem cnt_far {listed : Array Bool} {i : Nat} : ∀ k, k ≤ i → cnt (listed.setIfInBounds i true) k = cnt listed k
  | 0, _ => rfl
  | k + 1, h => by rw [cnt, cnt, cnt_far k (by omega), getD_set_ne false (by omega)]
theorem cnt_set {listed : Array Bool} {i : Nat} (hs : i < listed.size) (hl : listed.getD i false = false) : ∀ k, i < k → cnt listed k = cnt (listed.setIfInBounds i true) k + 1
  | k + 1, h => by
    rw [cnt, cnt]
    by_cases e : k = i
    · subst e
      have h2 : (listed.setIfInBounds k true).getD k false = true := by simp [Array.getD, hs]
      rw [cnt_far k (Nat.le_refl _), hl, h2]
      simp
    · rw [getD_set_ne false (Ne.symm e), cnt_set hs hl k (by omega)]
      omega
theorem cnt_zero {listed : Array Bool} : ∀ k, cnt listed k = 0 → ∀ i, i < k → listed.getD i false = true
  | k + 1, h, i, hi => by
    rw [cnt] at h
    by_cases e : i = k
    · subst e
      by_cases hh : listed.getD i false = true
      · exact hh
      · rw [if_neg hh] at h; omega
    · exact cnt_zero k (by omega) i (by omega)
theorem cnt_least {listed : Array Bool} : ∀ k, cnt listed k ≠ 0 → ∃ i, i < k ∧ listed.getD i false = false ∧ ∀ j, j < i → listed.getD j false = true
  | 0, h => absurd rfl h
  | k + 1, h => by
    by_cases h0 : cnt listed k = 0
    · rw [cnt, h0] at h
      refine ⟨k, Nat.lt_succ_self k, ?_, cnt_zero k h0⟩
      cases hh : listed.getD k false with
      | true => rw [hh] at h; simp at h
      | false => rfl
    · obtain ⟨i, hi, h1, h2⟩ := cnt_least k h0
      exact ⟨i, by omega, h1, h2⟩
/-- the head's operations wait for earlier ones alone -/
def backB (ops : Array Oper) (n : Nat) : Bool := (List.range n).all fun i => ((ops[i]?).map fun o => o.after.all fun e => !Region.binds .any e || decide (e.on < i)).getD false
def dstB (ops : Array Oper) (n : Nat) : Bool := (List.range n).all fun i => (List.range n).all fun j => decide (i = j) || !decide (dstOf ops i = dstOf ops j)
def fullL (n m : Nat) : Array Bool := (List.replicate n true ++ List.replicate m false).toArray
theorem fullL_eq {listed : Array Bool} {n m : Nat} (hs : listed.size = n + m) (h1 : ∀ i, i < n → listed.getD i false = true) (h2 : ∀ t, n ≤ t → t < n + m → listed.getD t true = false) : listed = fullL n m := by
  apply Array.ext
  · simp [fullL, hs]
  · intro i hi hi2
    rcases Nat.lt_or_ge i n with h | h
    · have := h1 i h
      rw [Array.getD, dif_pos hi] at this
      simp only [fullL, List.getElem_toArray, List.getElem_append_left (show i < (List.replicate n true).length by simpa using h), List.getElem_replicate]
      exact this
    · have := h2 i h (by omega)
      rw [Array.getD, dif_pos hi] at this
      simp only [fullL, List.getElem_toArray, List.getElem_append_right (show (List.replicate n true).length ≤ i by simpa using h), List.getElem_replicate]
      exact this
def growB (ops : Array Oper) (n : Nat) : Bool :=
  decide (n < ops.size) && Region.sinkB .any ops n && Region.chainB .any ops n && backB ops n && dstB ops n && Region.seqB .any ops (ops.size - n) n (fullL n (ops.size - n))
theorem wpAnyIn_of_seq {F : Fence} {d : Nat} {md : Region.Mode} {Q' : Exit → Act → World → Prop} : ∀ (l : List Oper) (k : Nat) (listed : Array Bool) (a : Act) (w : World), (∀ j, l[j]? = ops[k + j]?) →
    Region.seqB md ops l.length k listed = true → wpListIn F d P ops Q' l a w → wpAnyIn F d P md ops Q' l.length listed a w
  | [], _, _, _, _, _, hB, h => ⟨by simpa [Region.seqB] using hB, h⟩
  | o :: l, k, listed, a, w, hl, hB, h => by
    have h0 : ops[k]? = some o := by simpa using (hl 0).symm
    simp only [List.length_cons, Region.seqB, Bool.and_eq_true, decide_eq_true_eq] at hB
    refine ⟨fun h1 => (by rw [hB.1] at h1; cases h1), fun i hi => ?_⟩
    rw [hB.1] at hi
    have hik : i = k := by simpa using hi
    subst hik
    have hw : wpOpIn F d P ops Q' i (wpListIn F d P ops Q' l) a w := by unfold wpOpIn; simp only [h0]; exact h
    exact wpOpIn_mono (fun a' w' h' => wpAnyIn_of_seq l (i + 1) _ a' w' (fun j => by have := hl (j + 1); simpa [Nat.add_assoc, Nat.add_comm 1 j] using this) hB.2 h') hw
theorem wpIn_region_mix {F : Fence} {d : Nat} {id : Nat} {Q : Exit → Act → World → Prop} {w : World} {l : List Oper} (n : Nat) (hm : P.follows .mixedOrders = true) (hB : growB l.toArray n = true) (I : Array Bool → World → Prop) (G : Nat → Value → World → Prop)
    (h0 : I (Array.replicate l.toArray.size false) w.drew)
    (hin : ∀ i, i < n → ∃ t, dstOf l.toArray i = some t ∧ t < a0.tmps.size)
    (hstep : ∀ i, i < n → ∀ listed a w', i < listed.size → Agree l.toArray n a0 I G listed a w' → (∀ j, (∃ o, l.toArray[i]? = some o ∧ ∃ e ∈ o.after, Region.binds .any e = true ∧ e.on = j) → listed.getD j false = true) → listed.getD i false = false →
      wpOpIn F d P l.toArray Q i (fun a' w'' => ∃ v, a' = a.put (dstOf l.toArray i) v ∧ I (listed.setIfInBounds i true) w'' ∧ G i v w'' ∧ ∀ j v', j < n → j ≠ i → listed.getD j false = true → G j v' w' → G j v' w'') a w')
    (htail : ∀ listed a w', (∀ i, i < n → listed.getD i false = true) → Agree l.toArray n a0 I G listed a w' → wpListIn F d P l.toArray Q (l.drop n) a w') :
    (Code.region id l.toArray true).wpIn F d P Q a0 w := by
  simp only [growB, Bool.and_eq_true, decide_eq_true_eq] at hB
  obtain ⟨⟨⟨⟨⟨hn, hs⟩, hc⟩, hbk⟩, hdb⟩, hseq⟩ := hB
  have hd : ∀ i j, i < n → j < n → i ≠ j → dstOf l.toArray i ≠ dstOf l.toArray j := by
    intro i j hi hj hij e
    have h1 := List.all_eq_true.1 (List.all_eq_true.1 hdb i (List.mem_range.2 hi)) j (List.mem_range.2 hj)
    simp [hij, e] at h1
  refine wpIn_region_any hm ?_
  have main : ∀ f listed a w', cnt listed n = f → HeadInv .any l.toArray n listed → Agree l.toArray n a0 I G listed a w' → wpAnyIn F d P .any l.toArray Q (f + (l.toArray.size - n)) listed a w' := by
    intro f
    induction f with
    | zero =>
      intro listed a w' hcn inv hag
      have hall := cnt_zero n hcn
      have hfull : listed = fullL n (l.toArray.size - n) := fullL_eq (by rw [inv.size]; omega) hall (fun t h1 h2 => inv.tail t h1 (by omega))
      have hdl : (l.drop n).length = l.toArray.size - n := by simp
      rw [Nat.zero_add, ← hdl]
      exact wpAnyIn_of_seq (l.drop n) n listed a w' (fun j => by simp [List.getElem?_drop]) (by rw [hdl, hfull]; exact hseq) (htail listed a w' hall hag)
    | succ f ih =>
      intro listed a w' hcn inv hag
      obtain ⟨k, hk, hku, hkl⟩ := cnt_least n (by rw [hcn]; exact Nat.succ_ne_zero f)
      have hks : k < listed.size := by rw [inv.size]; omega
      have hkr : k ∈ Region.ready .any l.toArray listed := by
        rw [mem_ready]
        refine ⟨getD_in hks hku, ?_⟩
        have hb := List.all_eq_true.1 hbk k (List.mem_range.2 hk)
        cases ho : l.toArray[k]? with
        | none => rw [ho] at hb; simp at hb
        | some o =>
          rw [ho] at hb
          refine ⟨o, rfl, fun e he hbd => ?_⟩
          simp only [Option.map_some, Option.getD_some] at hb
          have h2 := Array.all_eq_true'.1 hb e he
          rw [hbd] at h2
          simp at h2
          exact hkl e.on h2
      rw [show f + 1 + (l.toArray.size - n) = (f + (l.toArray.size - n)) + 1 by omega]
      refine ⟨fun h0 => (by rw [h0] at hkr; cases hkr), fun i hi => ?_⟩
      have hin2 : i < n := by
        rcases Nat.lt_or_ge i n with h | h
        · exact h
        · exact absurd hi (tail_waits hs hc hn inv _ k rfl hk (getD_in hks hku) i h)
      obtain ⟨hiu, o, ho, hall⟩ := mem_ready.1 hi
      have his : i < listed.size := by rw [inv.size]; omega
      obtain ⟨t, ht, hts⟩ := hin i hin2
      refine wpOpIn_mono (fun a' w'' hh => ?_) (hstep i hin2 listed a w' his hag (by
        rintro j ⟨o', ho', e, he, hb, rfl⟩
        obtain rfl : o = o' := Option.some.inj (ho.symm.trans ho')
        exact hall e he hb) (getD_both hiu))
      obtain ⟨v, rfl, hI, hg, hD⟩ := hh
      refine ih _ _ _ ?_ (inv.set hi hin2) (hag.step hd hin2 his ht hts hI hg hD)
      have := cnt_set his (getD_both hiu) n hin2
      omega
  have inv0 : HeadInv .any l.toArray n (Array.replicate l.toArray.size false) :=
    ⟨by simp, fun j oj _ hl => (by rw [getD_replicate_false] at hl; cases hl), fun t _ ht => getD_in (by simpa using ht) (getD_replicate_false _ _)⟩
  have hc0 : ∀ k, k ≤ l.toArray.size → cnt (Array.replicate l.toArray.size false) k = k := by
    intro k
    induction k with
    | zero => intro _; rfl
    | succ k ih => intro h; rw [cnt, ih (by omega), getD_replicate_false]; simp
  have h := main n (Array.replicate l.toArray.size false) a0 w.drew (hc0 n (Nat.le_of_lt hn)) inv0
    ⟨rfl, rfl, h0, fun _ _ => rfl, fun i _ hl => (by rw [getD_replicate_false] at hl; cases hl)⟩
  rw [show n + (l.toArray.size - n) = l.toArray.size by omega] at h
  exact h
/-- an array that is known at some places, and elsewhere as another one -/
theorem set_all : ∀ (ps : List (Nat × Value)) (x y : Array Value), y.size = x.size → (∀ p ∈ ps, y[p.1]? = some p.2) → (∀ t, (∀ p ∈ ps, p.1 ≠ t) → y[t]? = x[t]?) → y = ps.foldl (fun z p => z.setIfInBounds p.1 p.2) x
  | [], x, y, _, _, h => by
    apply Array.ext_getElem?
    intro t
    exact h t fun p hp => by cases hp
  | p :: ps, x, y, hs, h1, h2 => by
    refine set_all ps (x.setIfInBounds p.1 p.2) y (by simpa using hs) (fun q hq => h1 q (by simp [hq])) fun t ht => ?_
    by_cases e : p.1 = t
    · subst e
      have hy := h1 p (by simp)
      have hlt : p.1 < x.size := by rw [← hs]; exact (Array.getElem?_eq_some_iff.1 hy).1
      rw [hy, Array.getElem?_setIfInBounds_self_of_lt hlt]
    · rw [Array.getElem?_setIfInBounds_ne e]
      exact h2 t fun q hq => by
        rcases List.mem_cons.1 hq with rfl | hq
        · exact e
        · exact ht q hq
end
theorem wpOpIn_of {F : Fence} {d : Nat} {P : Program} {ops : Array Oper} {Q : Exit → Act → World → Prop} {i : Nat} {K : Act → World → Prop} {a : Act} {w : World} (o : Oper) (ho : ops[i]? = some o) (hg : o.guard = none) (h : o.wpIn F d P a w K Q) : wpOpIn F d P ops Q i K a w := by
  unfold wpOpIn
  have hw : Region.wanted o (yielded ops a.tmps) = true := by simp [Region.wanted, hg]
  simp only [ho, hw, if_true]
  exact h
theorem eval_tmp {a : Act} {t : Tmp} {v : Value} (h : a.tmps[t]? = some v) : a.eval (.tmp t) = v := by
  simp [Act.eval, Array.getD_eq_getD_getElem?, h]
def noDstB (ops : Array Oper) (n t : Nat) : Bool := (List.range n).all fun i => !decide (dstOf ops i = some t)
theorem Agree.keeps {ops : Array Oper} {n : Nat} {a0 : Act} {I : Array Bool → World → Prop} {G : Nat → Value → World → Prop} {listed : Array Bool} {a : Act} {w : World} (h : Agree ops n a0 I G listed a w) (t : Nat) (v : Value) (hno : noDstB ops n t = true) (hv : a0.tmps[t]? = some v) : a.tmps[t]? = some v := by
  refine (h.old t fun i hi _ e => ?_).trans hv
  have := List.all_eq_true.1 hno i (List.mem_range.2 hi)
  simp [e] at this
theorem Agree.slot {ops : Array Oper} {n : Nat} {a0 : Act} {I : Array Bool → World → Prop} {G : Nat → Value → World → Prop} {listed : Array Bool} {a : Act} {w : World} (h : Agree ops n a0 I G listed a w) (i t : Nat) (hi : i < n) (hl : listed.getD i false = true) (ht : dstOf ops i = some t) : ∃ v, a.tmps[t]? = some v ∧ G i v w := by
  obtain ⟨t', v, e1, e2, e3⟩ := h.new i hi hl
  obtain rfl : t = t' := Option.some.inj (ht.symm.trans e1)
  exact ⟨v, e2, e3⟩
theorem Agree.whole {ops : Array Oper} {n : Nat} {a0 : Act} {I : Array Bool → World → Prop} {G : Nat → Value → World → Prop} {listed : Array Bool} {a : Act} {w : World} (h : Agree ops n a0 I G listed a w) (ps : List (Nat × Value))
    (hts : ∀ i, i < n → ∃ t, dstOf ops i = some t ∧ t ∈ ps.map (·.1)) (hv : ∀ p ∈ ps, a.tmps[p.1]? = some p.2) : a = ⟨ps.foldl (fun z p => z.setIfInBounds p.1 p.2) a0.tmps, a0.defers⟩ := by
  have e := set_all ps a0.tmps a.tmps h.size hv fun t ht => h.old t fun i hi _ e => by
    obtain ⟨t', e', hm⟩ := hts i hi
    obtain rfl : t' = t := Option.some.inj (e'.symm.trans e)
    obtain ⟨q, hq, he⟩ := List.mem_map.1 hm
    exact ht q hq he
  have d := h.defers
  cases a
  simp only at e d
  rw [e, d]
end Go.Proofs.YtajanacbifjmgaaDoor
/-
  Contracts of branched and laid: the layout of entries, by induction on the level.
-/
namespace Go.Proofs.YtajanacbifjmgaaDoor
open Go.RowKit Go.Shelf
set_option maxHeartbeats 4000000
set_option maxRecDepth 100000
attribute [local go_sem] Oper.semAt_some
attribute [local irreducible] Bt.lst
theorem wp_nofail {P : Program} {s : Code} {K : Act → World → Prop} {Q' : Exit → Act → World → Prop} {a : Act} {w : World} (h : s.wp P (Exit.then K (fun _ _ _ => False)) a w) : s.wp P (Exit.then K Q') a w := by
  refine wp_mono h ?_
  intro e a' w' hq
  cases e with
  | normal => exact hq
  | exit id => exact hq.elim
  | goto l => exact hq.elim
  | ret => exact hq.elim
  | panic ch => exact hq.elim
  | outgrown => exact hq.elim
def LaidAt (f lv : Nat) : Prop := ∀ (F : Nat → Prop) (w : World) (A : Option Addr) (c : Nat) (L : List En), Fut F w → Tab w → Ens w A L → Good lv L →
  Calls Tryd.prog 18 #[.slice A L.length c, .int .i64 (lv : Int)] w fun e w' => ∃ v, e = .returned v ∧ Nde F w' (layL f lv L) v ∧ Below w.heap.size w w'
theorem mask_snoc (lv : Nat) (L : List En) (e : En) : mask lv (L ++ [e]) = mask lv L ||| Bt.one ((ch e.1 lv : Nat) : Int) := by
  rw [mask, chs, List.map_append, List.map_cons, List.map_nil, Bt.ofL_snoc]
  rfl
/-- where the children made so far may lie: in blocks made from N on, but the one of their own row -/
def Kd (F : Nat → Prop) (N : Nat) (vk : Value) (b : Nat) : Prop := F b ∧ N ≤ b ∧ vk.ownBlock ≠ some b
/-- the children made so far: their variable in block KB, their row, themselves -/
structure Kds (F : Nat → Prop) (N KB : Nat) (kid : Nat → Nd) (j : Nat) (W : World) (vk : Value) (vs : List Value) : Prop where
  box : Boxed W KB 116 vk
  row : W.ownsRow N 28 1 vk j vs
  kids : ∀ i, i < j → ∃ v, vs[i]? = some v ∧ Nde (Kd F N vk) W (kid i) v
theorem Kds.len {F : Nat → Prop} {N KB : Nat} {kid : Nat → Nd} {j : Nat} {W : World} {vk : Value} {vs : List Value} (h : Kds F N KB kid j W vk vs) : vs.length = j := by
  have := h.row.1
  omega
theorem Kds.start (F : Nat → Prop) (N KB : Nat) (kid : Nat → Nd) (W : World) (h : Boxed W KB 116 (.slice none 0 0)) : Kds F N KB kid 0 W (.slice none 0 0) [] := ⟨h, World.ownsRow_nil _ _ _ _, fun i hi => absurd hi (Nat.not_lt_zero i)⟩
theorem Kds.but {F : Nat → Prop} {N KB : Nat} {kid : Nat → Nd} {j : Nat} {W W' : World} {vk : Value} {vs : List Value} {X : Nat → Prop} (h : Kds F N KB kid j W vk vs) (hk : KB < W.heap.size) (hb : But X W W') (hX : ∀ k, X k → k < N ∧ k ≠ KB) : Kds F N KB kid j W' vk vs where
  box := (hb.block KB hk fun e => (hX KB e).2 rfl).trans h.box
  row := own_kept h.row fun g hg => hb.block g (own_lt h.row hg).2.1 fun e => by
    have h1 := (hX g e).1
    have h2 := (own_lt h.row hg).1
    omega
  kids := fun i hi => by
    obtain ⟨v, h1, h2⟩ := h.kids i hi
    exact ⟨v, h1, h2.kept fun b hF hl => hb.block b hl fun e => by
      have h3 := (hX b e).1
      have h4 := hF.2.1
      omega⟩
/-- a child more: it was made from W on, the row grew from W1 to W2, the variable was set -/
theorem Kds.add {F : Nat → Prop} {N KB : Nat} {kid : Nat → Nd} {j : Nat} {W W1 W2 : World} {vk vk' nv : Value} {vs : List Value} (h : Kds F N KB kid j W vk vs) (hN : KB < N) (hk : KB < W.heap.size) (h1 : Below W.heap.size W W1) (hn : Nde (Kd F N vk) W1 (kid j) nv) (hown : W2.ownsRow N 28 1 vk' (j + 1) (vs ++ [nv])) (hg : W1.grownBy W2 vk.ownBlock) (hloc : vk'.ownBlock = vk.ownBlock ∨ ∃ b, vk'.ownBlock = some b ∧ W1.heap.size ≤ b) :
    (W2.cell? ⟨KB, 0, none⟩ = some vk ∧ W2.frozen? ⟨KB, 0, none⟩ = false) ∧ Kds F N KB kid (j + 1) (W2.setCell ⟨KB, 0, none⟩ vk') vk' (vs ++ [nv]) ∧ But (fun k => k = KB ∨ N ≤ k) W (W2.setCell ⟨KB, 0, none⟩ vk') := by
  have b1 : Boxed W1 KB 116 vk := (h1.block KB hk).trans h.box
  have hown1 : ∀ g, vk.ownBlock = some g → N ≤ g ∧ g < W.heap.size := fun g hg => ⟨(own_lt h.row hg).1, (own_lt h.row hg).2.1⟩
  have b2 : Boxed W2 KB 116 vk := (hg.block KB b1.lt fun e => by have := hown1 KB e.symm; omega).trans b1
  have hset : ∀ k, k ≠ KB → (W2.setCell ⟨KB, 0, none⟩ vk').heap[k]? = W2.heap[k]? := fun k hk => Below.heap_setCell W2 ⟨KB, 0, none⟩ vk' k hk
  have keepN : ∀ {x : Nd} {v : Value}, Nde (Kd F N vk) W1 x v → Nde (Kd F N vk') (W2.setCell ⟨KB, 0, none⟩ vk') x v := fun {x v} hx => by
    have e2 : Nde (fun b => Kd F N vk b ∧ Kd F N vk' b) W1 x v := hx.mono fun b hl hF => ⟨hF, hF.1, hF.2.1, fun e => by
      rcases hloc with hl2 | ⟨b', hb', hle⟩
      · rw [hl2] at e
        exact hF.2.2 e
      · rw [hb'] at e
        injection e with e
        omega⟩
    have e3 : Nde (fun b => Kd F N vk b ∧ Kd F N vk' b) (W2.setCell ⟨KB, 0, none⟩ vk') x v := e2.kept fun b hF hl => (hset b (by have := hF.1.2.1; omega)).trans (hg.block b hl fun e => hF.1.2.2 e.symm)
    exact e3.mono fun b _ hF => hF.2
  have hvl : vs.length = j := h.len
  refine ⟨⟨b2.cell, b2.frozen⟩, ⟨b2.set vk', own_kept hown fun g hgg => hset g fun e => by have := (own_lt hown hgg).1; omega, fun i hi => ?_⟩, ?_⟩
  · rcases Nat.eq_or_lt_of_le (Nat.lt_succ_iff.1 hi) with rfl | hi
    · refine ⟨nv, ?_, keepN hn⟩
      rw [List.getElem?_append_right (by omega), hvl, Nat.sub_self]
      rfl
    · obtain ⟨v, k1, k2⟩ := h.kids i hi
      exact ⟨v, by rw [List.getElem?_append_left (by omega)]; exact k1, keepN (k2.below h1)⟩
  · have k1 : But (fun k => k = KB ∨ N ≤ k) W1 W2 := ⟨hg.os, hg.tape, hg.output, hg.size, fun i hi hx => hg.block i hi fun e => hx (.inr (hown1 i e.symm).1)⟩
    exact ((But.of h1).trans k1).trans ((But.set W2 KB 0 vk').mono fun k e => .inl e)
theorem listIn_app {l d : Nat} {P : Program} {ops : Array Oper} {Q : Exit → Act → World → Prop} {rest : List Oper} {a : Act} {w w' : World} {t : TypeId} {s x : Operand} {v y v' : Value} (o : Oper) (hg : o.guard = none) (ho : o.op = .call { callee := .builtin .append, args := #[s, x], argTypes := #[t, t] })
    (hs : a.eval s = v) (hx : a.eval x = y) (hr : (Builtin.append_ #[t, t] o.type #[v, y]).run P w = .ok v' w') (hk : wpListIn (Fence.wide.inRound l) d P ops Q rest (a.put o.dst v') w') : wpListIn (Fence.wide.inRound l) d P ops Q (o :: rest) a w := by
  refine wpListIn_plain hg fun K hK => ⟨fun _ _ => trivial, ?_⟩
  rw [Oper.semAt_eq _ _ _ (fun c h => by rw [ho] at h; cases h)]
  unfold execOp
  simp only [ho, resolve, invoke, builtin, Sem.run_bind, Sem.run_pure, Result.andThen_ok, List.map_toArray, List.map_cons, List.map_nil, hs, hx, hr]
  exact hK _ _ hk
/-- what the operations of a child's making yield -/
def KG (F : Nat → Prop) (N B1 cN lv : Nat) (vk vp : Value) (x : Nd) : Nat → Value → World → Prop
  | 0, v, _ => v = vk
  | 1, v, _ => v = .int .i64 (cN : Int)
  | 2, v, _ => v = .pointer (some ⟨B1, cN, none⟩)
  | 3, v, _ => v = vp
  | 4, v, _ => v = .int .i64 (lv : Int)
  | 5, v, _ => v = .int .i64 ((lv : Int) + 1)
  | 6, v, W => Nde (Kd F N vk) W x v
  | 7, v, W => ∃ g nv, v = .slice (some ⟨g, 0, none⟩) 1 1 ∧ W.heap[g]? = some (.cells #[nv] 28 (0, 0)) ∧ Nde (Kd F N vk) W x nv
  | _, _, _ => True
theorem KG.below {F : Nat → Prop} {N B1 cN lv : Nat} {vk vp : Value} {x : Nd} {i : Nat} {v : Value} {W W' : World} (h : KG F N B1 cN lv vk vp x i v W) (hb : Below W.heap.size W W') : KG F N B1 cN lv vk vp x i v W' := by
  unfold KG at h ⊢
  split at h
  · exact h
  · exact h
  · exact h
  · exact h
  · exact h
  · exact h
  · exact Nde.below h hb
  · obtain ⟨g, nv, e, h1, h2⟩ := h
    exact ⟨g, nv, e, (hb.block g (Array.getElem?_eq_some_iff.1 h1).1).trans h1, h2.below hb⟩
  · trivial
theorem branched_any {f lv : Nat} (hf : f + 1 + lv = 13) (ih : LaidAt f (lv + 1)) (F : Nat → Prop) (w : World) (A : Option Addr) (c : Nat) (L : List En) (hF : Fut F w) (hT : Tab w) (ha : Ens w A L) (hG : Good lv L) (hal : alike L = false) :
    Calls Tryd.prog 37 #[.slice A L.length c, .int .i64 (lv : Int)] w fun e w' => ∃ v, e = .returned v ∧ Nde F w' (layL (f + 1) lv L) v ∧ Below w.heap.size w w' := by
  have hlen := hG.len
  obtain ⟨LL, hLL⟩ : ∃ n, n = L.length := ⟨_, rfl⟩
  rw [← hLL] at hlen ⊢
  have HA := Lib.hid ha; clear ha
  have HG := Lib.hid hG; clear hG
  have HF := Lib.hid hF; clear hF
  have HT := Lib.hid hT; clear hT
  have HIH := Lib.hid ih; clear ih
  have HAL := Lib.hid hal; clear hal
  have HLL := Lib.hid hLL; clear hLL
  have hlv : lv ≤ 12 := by omega
  refine (callsIn_wide (n := 3)).1 ?_
  refine callsIn_of_wp_marks Tryd.func37 rfl trivial ?_ rfl
  simp only [Tryd.ntmps37, List.size_toArray, List.length_cons, List.length_nil, Nat.reduceAdd, Nat.reduceSub, Array.replicate_succ, Array.replicate_zero, List.push_toArray, List.append_toArray, List.nil_append, List.cons_append]
  refine wpIn_wide.2 ?_
  go_wp2_with fail
  go_loopw [6, 14] (fun m u wr => ∃ j : Nat, u = .int .i64 j ∧ j ≤ LL ∧ m = .int .u32 ((mask lv (L.take j) : Nat) : Int) ∧ Hid (Below w.heap.size w wr) ∧ Hid (wr.heap[w.heap.size]? = some (.cells #[.int .i64 (lv : Int)] 3 (0, 0))) ∧ Hid (∃ cur xs, Prt w wr (w.heap.size + 1) lv (L.take j) cur xs)) (fun _ u _ => LL - (intOf u).toNat)
  case atStart =>
    refine ⟨0, rfl, by omega, rfl, ((Below.refl _ _).alloc (Nat.le_refl _) _).alloc (by simp) _, heap_alloc2_old w _ _, _, _, Prt.start _ _ _ _ ?_⟩
    exact heap_alloc2_new w _ _
  case round =>
    obtain ⟨j, rfl, hj, rfl, hbel, hr0, hpr⟩ := hrel
    by_cases hlt : j < LL
    · have hlt' : j < L.length := by rw [← HLL.out]; exact hlt
      obtain ⟨b, off, ka, kc, va, vc, rfl, hbl, g0, g1, g2, h3, h4⟩ := HA.out.at hlt'
      have h0 := (hbel.out.cell (p := ⟨b, off + j * 3, none⟩) hbl).trans g0
      have h1 := (hbel.out.cell (p := ⟨b, off + j * 3 + 1, none⟩) hbl).trans g1
      have h2 := (hbel.out.cell (p := ⟨b, off + j * 3 + 2, none⟩) hbl).trans g2
      clear g0 g1 g2
      have hh := (HG.out.fits _ (List.getElem_mem hlt')).1
      have hat := fun W => at_nat (L[j]).1 lv W hh hlv
      have hchl := ch_lt (L[j]).1 lv
      obtain ⟨cc, hcc⟩ : ∃ cc, cc = ch (L[j]).1 lv := ⟨_, rfl⟩
      have hm := mask_lt lv (L.take j)
      have hwith := fun W => with_any (mask lv (L.take j)) ((ch (L[j]).1 lv : Nat) : Int) W hm
      rw [← mask_snoc, ← List.take_succ_eq_append_getElem hlt', ← hcc] at hwith
      rw [← hcc] at hat hchl
      obtain ⟨m1, hm1⟩ : ∃ m1, m1 = mask lv (L.take j) := ⟨_, rfl⟩
      obtain ⟨m2, hm2⟩ : ∃ m2, m2 = mask lv (L.take (j + 1)) := ⟨_, rfl⟩
      rw [← hm1, ← hm2] at hwith
      rw [← hm1]
      obtain ⟨cur, xs, hP⟩ := hpr.out
      obtain ⟨wa, hwa⟩ : ∃ wa, wa = wr.alloc (.cells #[.int .u64 ((L[j]).1 : Int), .slice ka (L[j]).2.1.length kc, .slice va (L[j]).2.2.length vc] 51) := ⟨_, rfl⟩
      have hba : Below wr.heap.size wr wa := by rw [hwa]; exact (Below.refl _ _).alloc (Nat.le_refl _) _
      have hPa := hP.below (below_then hba (Below.refl _ _).drew)
      have hza : w.heap.size + 1 < wa.heap.size := (Array.getElem?_eq_some_iff.1 hPa.row).1
      have hpost : ∀ (w1 : World) (v' : Value), w1.ownsRow (w.heap.size + 1 + 1) 51 3 v' ((part lv (L.take j) cc).length + 1) (xs cc ++ [.int .u64 ((L[j]).1 : Int), .slice ka (L[j]).2.1.length kc, .slice va (L[j]).2.2.length vc]) → wa.drew.grownBy w1 (cur.getD cc undef).ownBlock → (v'.ownBlock = (cur.getD cc undef).ownBlock ∨ ∃ k, v'.ownBlock = some k ∧ wa.drew.heap.size ≤ k) →
          (w1.cell? ⟨w.heap.size + 1, cc, none⟩ = some (cur.getD cc undef) ∧ w1.frozen? ⟨w.heap.size + 1, cc, none⟩ = false) ∧ (∃ cur' xs', Prt w (w1.setCell ⟨w.heap.size + 1, cc, none⟩ v') (w.heap.size + 1) lv (L.take (j + 1)) cur' xs') ∧ Below w.heap.size w (w1.setCell ⟨w.heap.size + 1, cc, none⟩ v') ∧ (w1.setCell ⟨w.heap.size + 1, cc, none⟩ v').heap[w.heap.size]? = some (.cells #[.int .i64 (lv : Int)] 3 (0, 0)) := fun w1 v' o1 o2 o3 => by
        obtain ⟨q1, q2, q3⟩ := hPa.step hchl hcc.symm h3 h4 o1 o2 o3
        rw [← List.take_succ_eq_append_getElem hlt'] at q2
        have hX : ∀ k, (k = w.heap.size + 1 ∨ (cur.getD cc undef).ownBlock = some k) → w.heap.size + 1 ≤ k := fun k hk => by
          rcases hk with rfl | hk
          · exact Nat.le_refl _
          · have := (own_lt (hPa.own cc hchl) hk).1
            omega
        have b2 : Below (w.heap.size + 1) wa.drew (w1.setCell ⟨w.heap.size + 1, cc, none⟩ v') := q3.below (Nat.le_of_lt hza) hX
        have b1 : Below (w.heap.size + 1) wr (w1.setCell ⟨w.heap.size + 1, cc, none⟩ v') := (hba.drew.mono (by have := (Array.getElem?_eq_some_iff.1 hP.row).1; omega)).trans b2
        exact And.intro q1 (And.intro q2 (And.intro (hbel.out.trans (b1.mono (by omega))) ((b1.block w.heap.size (by omega)).trans hr0.out)))
      have hown := hPa.own cc hchl
      have hcell := (hPa.cell hchl).1
      have hlen2 := part_len lv (L.take j) cc
      obtain ⟨v, hv⟩ : ∃ v, v = cur.getD cc undef := ⟨_, rfl⟩
      rw [← hv] at hown hcell hpost
      obtain ⟨n, hn⟩ : ∃ n, n = (part lv (L.take j) cc).length := ⟨_, rfl⟩
      have hn2 : n ≤ 100 := by rw [List.length_take] at hlen2; omega
      rw [← hn] at hown hpost
      have L0 : wa.cell? ⟨w.heap.size, 0, none⟩ = some (.int .i64 (lv : Int)) := row_cell ((hba.block _ (Array.getElem?_eq_some_iff.1 hr0.out).1).trans hr0.out) rfl
      have rn : wa.heap[wr.heap.size]? = some (.cells #[.int .u64 ((L[j]).1 : Int), .slice ka (L[j]).2.1.length kc, .slice va (L[j]).2.2.length vc] 51 (0, 0)) := by rw [hwa]; exact heap_alloc_new wr _
      have E0 : wa.cell? ⟨wr.heap.size, 0, none⟩ = some (.int .u64 ((L[j]).1 : Int)) := row_cell rn rfl
      have E1 : wa.cell? ⟨wr.heap.size, 1, none⟩ = some (.slice ka (L[j]).2.1.length kc) := row_cell rn rfl
      have E2 : wa.cell? ⟨wr.heap.size, 2, none⟩ = some (.slice va (L[j]).2.2.length vc) := row_cell rn rfl
      have P0 : wa.cell? ⟨w.heap.size + 1, cc, none⟩ = some v := hcell
      have P1 : ∀ o, (wa.alloc o).cell? ⟨w.heap.size + 1, cc, none⟩ = some v := fun o => (cell_kept (((Below.refl _ wa).alloc (Nat.le_refl _) o).block (w.heap.size + 1) hza)).trans hcell
      have hzB : w.heap.size + 1 + 1 ≤ wa.drew.heap.size := hza
      obtain ⟨q, hq⟩ : ∃ q : Nat, q = (L[j]).1 := ⟨_, rfl⟩
      obtain ⟨x, hx⟩ : ∃ x : Nat, x = (L[j]).2.1.length := ⟨_, rfl⟩
      obtain ⟨y, hy⟩ : ∃ x : Nat, x = (L[j]).2.2.length := ⟨_, rfl⟩
      simp only [← hq] at h0 E0 hat hpost hwa
      simp only [← hx] at h1 E1 hpost hwa
      simp only [← hy] at h2 E2 hpost hwa
      have Q1 := P1 (.cells #[.int .u64 (q : Int), .slice ka x kc, .slice va y vc] 51)
      have L0s := L0
      rw [hwa] at L0s
      have HAT := Lib.hid hat; clear hat
      have HWI := Lib.hid hwith; clear hwith
      have HPO := Lib.hid hpost; clear hpost
      have HO := Lib.hid hown; clear hown
      have HM2 := Lib.hid hm2; clear hm2
      have HWA := Lib.hid hwa; clear hwa
      have HZB := Lib.hid hzB; clear hzB
      clear hq hx hy hn hv hPa hP hba hza hcell P1 rn hlen2 hpr hr0 hbel h3 h4 hm hm1 hcc hh HA HG HF HT HIH HAL
      have i0 : decide ((cc : Int) < 0) = false := decide_eq_false (by omega)
      have i1 : decide ((cc : Int) < 32) = true := decide_eq_true (by omega)
      have i2 : (cc : Int) < 32 := by omega
      have i3 : ¬ (32 : Int) ≤ (cc : Int) := by omega
      have i4 : ¬ (cc : Int) < 0 := by omega
      go_wp2_with fail
      rw [← HWA.out]
      refine (HAT.out _).mono ?_
      rintro e w' ⟨rfl, rfl⟩
      go_wp2_with fail
      refine wp_nofail ?_
      go_region_law (first
        | (refine step_appK 22 51 _ 3 56 Tryd.underlying22 Tryd.info50 rfl (by decide) (by decide) rfl (.tmp 25) (.tmp 27) rfl v n (xs cc) HO.out [.int .u64 (q : Int), .slice ka x kc, .slice va y vc] rfl (by intro u hu; simp at hu; rcases hu with rfl | rfl | rfl <;> rfl) (by simp [Act.eval]) (by simp [Act.eval]) (by omega) HZB.out ?_; intro v' w1 o1 o2 o3; obtain ⟨A', c', rfl, _⟩ := row_reads3 o1; obtain ⟨⟨s1, s2⟩, s3⟩ := HPO.out _ _ o1 o2 o3)
        | fail)
      all_goals
        have S3 := Lib.hid s3
        clear s3 o1 o2 o3 s1 s2
        go_wp2_with fail
        refine (HWI.out _).mono ?_
        rintro e w' ⟨rfl, rfl⟩
        go_wp2_with fail
        go_roundw
        case rel => exact ⟨j + 1, by go_num, by omega, by rw [HM2.out], S3.out.2.1, S3.out.2.2, S3.out.1⟩
        case measure => simp [intOf]; omega
    · obtain rfl : j = LL := by omega
      have hLt : L.take j = L := by rw [HLL.out, List.take_length]
      obtain ⟨cur, xs, hP⟩ := hpr.out
      rw [hLt] at hP ⊢
      obtain ⟨m, hm⟩ : ∃ m, m = mask lv L := ⟨_, rfl⟩
      have hm32 : m < 4294967296 := by rw [hm]; exact mask_lt lv L
      rw [← hm]
      obtain ⟨w1, hw1⟩ : ∃ w1, w1 = wr.alloc (.cells #[.slice none 0 0] 116) := ⟨_, rfl⟩
      have b1 : Below wr.heap.size wr w1 := by rw [hw1]; exact (Below.refl _ _).alloc (Nat.le_refl _) _
      have z1 : w1.heap.size = wr.heap.size + 1 := by rw [hw1]; simp
      have k1 : Boxed w1 wr.heap.size 116 (.slice none 0 0) := by rw [hw1]; exact Boxed.new wr 116 _
      have HALL := Lib.hid (fun W => all_any m W)
      have HW1 := Lib.hid hw1; clear hw1
      have HMM := Lib.hid hm; clear hm
      have HP := Lib.hid hP; clear hP
      clear hLt
      go_wp2_with fail
      rw [← HW1.out]
      refine (HALL.out _).mono ?_
      rintro e wy ⟨rfl, hwy⟩
      have b12 : Below w1.heap.size w1 wy := by rw [← hwy]; exact (Below.refl _ _).alloc (Nat.le_refl _) _
      have z2 : wy.heap.size = w1.heap.size + 1 := by rw [← hwy]; simp
      have rm : wy.heap[w1.heap.size]? = some (.cells #[.int .u32 (m : Int)] 114 (0, 0)) := by rw [← hwy]; exact heap_alloc_new w1 _
      have hef := fun lb : Array Value => (by kernel_rfl : Sem.run Tryd.prog (binOp BinOp.eql 118 (Value.func (Fn.func 68) #[] lb) Value.nilFunc) wy = .ok (.bool false) wy)
      clear hwy
      have bwy : Below wr.heap.size wr wy := below_then b1 b12
      have ky : Boxed wy wr.heap.size 116 (.slice none 0 0) := (b12.block _ (by omega)).trans k1
      have hTy : Tab wy := (HT.out.below hbel.out).below bwy
      obtain ⟨KB, hKB⟩ : ∃ KB, KB = wr.heap.size := ⟨_, rfl⟩
      obtain ⟨N, hN⟩ : ∃ N, N = wy.heap.size + 2 := ⟨_, rfl⟩
      rw [← hKB] at ky
      have hKB0 : 0 < KB := by have := hTy.lt; have := (HT.out.lt); have := hbel.out.size; omega
      obtain ⟨X, hX⟩ : ∃ X : Nat → Prop, X = fun k => k = KB ∨ N ≤ k := ⟨_, rfl⟩
      obtain ⟨kidF, hkidF⟩ : ∃ kidF : Nat → Nd, kidF = fun i => layL f (lv + 1) (part lv L (nthc m i)) := ⟨_, rfl⟩
      have hX0 : ¬ X 0 := by rw [hX]; rintro (h | h) <;> omega
      have hseq : HandsK 2 Tryd.prog 68 #[.pointer (some ⟨w1.heap.size, 0, none⟩)] X (fun j vs W => But X wy W ∧ j < (Bt.lst m 32).length ∧ vs = #[.int .i64 ((Bt.lst m 32).getD j 0)]) (fun j => j = (Bt.lst m 32).length) wy :=
        bits_handsK (by omega) hm32 (row_cell rm rfl) (by omega) hTy hX0
      obtain ⟨I, hI⟩ : ∃ I : Nat → World → Prop, I = fun (j : Nat) W => But X wy W ∧ ∃ vk vs, Kds F N KB kidF j W vk vs := ⟨_, rfl⟩
      obtain ⟨Ix, hIx⟩ : ∃ Ix : Code → Nat → World → Prop, Ix = fun (_ : Code) (_ : Nat) _ => False := ⟨_, rfl⟩
      have sI : ∀ j A B, I j A → But (fun k => k = wy.heap.size ∨ k = wy.heap.size + 1) A B → I j B := by
        subst hI
        rintro j A B ⟨h1, vk, vs, h2⟩ k
        refine ⟨⟨k.os.trans h1.os, k.tape.trans h1.tape, k.output.trans h1.output, Nat.le_trans h1.size k.size, fun i hi hx => (k.block i (Nat.lt_of_lt_of_le hi h1.size) (by omega)).trans (h1.block i hi hx)⟩, vk, vs, h2.but (by have := h1.size; omega) k fun q hq => by omega⟩
      have I0 : I 0 wy := by
        subst hI
        exact ⟨But.refl _ _, _, _, Kds.start F N KB kidF wy ky⟩
      have HI := Lib.hid (And.intro hI (And.intro hX hkidF)); clear hX hkidF
      have HBW := Lib.hid bwy; clear bwy
      have HKN : Hid (KB < wy.heap.size ∧ wy.heap.size + 2 = N ∧ KB = wr.heap.size) := ⟨by omega, by omega, hKB⟩
      clear b1 b12 k1 rm ky HALL z1 z2 hKB hN
      go_wp2_with fail
      clear hef
      refine (wpIn_wide (n := 3)).1 ?_
      refine wp_rangeK (n := 3) (gf := 68) (lb := #[.pointer (some ⟨w1.heap.size, 0, none⟩)]) rfl (enters_of Tryd.func68 (by kernel_rfl) rfl) I Ix hseq sI ?sIx ?hX I0 ?round ?done ?stop
      case sIx => subst hIx; exact fun c j A B h _ => h
      case hX =>
        rw [HI.out.2.1]
        have := HKN.out
        rintro k (h | h) <;> omega
      case stop =>
        intro d c j W hd hix hdf
        rw [hIx] at hix
        exact hix.elim
      case done =>
        clear hseq I0
        intro d jd W hd hD hi hdf
        rw [hI] at hi
        obtain ⟨g1, vk, vs, kds⟩ := hi
        have hkn := HKN.out
        have hn0 : L ≠ [] := fun e => by
          have := HAL.out
          rw [e] at this
          cases this
        have hk0 : 0 < (Bt.lst m 32).length := by rw [HMM.out]; exact mask_pos hn0
        have hk32 := Bt.list_le m 32
        have hvl := kds.len
        have hkcell : W.cell? ⟨wr.heap.size, 0, none⟩ = some vk := by rw [← hkn.2.2]; exact kds.box.cell
        obtain ⟨_, Ak, ck, rfl, hck, hkg⟩ := row_reads1 kds.row
        obtain ⟨g, rfl, hgN, hgW, hgc⟩ := hkg (by omega)
        have hlaid : ∀ i, Laid (part lv L (nthc m i)) (lv + 1) (kidF i) := fun i => by rw [HI.out.2.2]; exact lay_laid f (lv + 1) _ (by omega) (HG.out.part _)
        have hnds : Nds (fun b => F b ∧ N ≤ b) W (some ⟨g, 0, none⟩) jd kidF := .inr ⟨g, vs, rfl, hgW, hvl, fun i hi => by
          obtain ⟨v, e1, e2⟩ := kds.kids i (by omega)
          have e3 : v = vs[i] := by rw [List.getElem?_eq_getElem hi] at e1; exact (Option.some.inj e1).symm
          subst e3
          exact ⟨(hgc i (by omega)).trans e1, e2.mono fun b _ hF => ⟨hF.1, hF.2.1⟩⟩⟩
        have hsum : sumTo (fun i => (kidF i).cnt) jd = L.length := by
          rw [sumTo_congr _ fun i hi => (hlaid i).cnt, hD, HMM.out]
          exact sum_parts lv _ (lst_nodup _ _) L fun e he => (mask_mem lv L _).2 ⟨e, he, rfl⟩
        have hszW : wy.heap.size ≤ W.heap.size := g1.size
        have hdl : d < W.heap.size := (Array.getElem?_eq_some_iff.1 hdf).1
        have hFut : Fut (fun b => F b ∧ N ≤ b) W := fun b hb => ⟨HF.out b (by have := HBW.out.size; have := hbel.out.size; omega), by
          omega⟩
        have hbr := branch_any ck hFut hm32 hnds (by omega) (fun i _ => (hlaid i).ok) (by rw [hsum]; have := HG.out.len; omega)
        have hbran : Nd.branch m jd kidF = layL (f + 1) lv L := by
          have e1 : layL (f + 1) lv L = .bran m (Bt.lst m 32).length kidF := by
            rw [layL, if_neg (by rw [HAL.out]; decide), HI.out.2.2, ← HMM.out]
          have e2 : someTo kidF jd = true := (someTo_iff kidF jd).2 fun i hi e => by
            have := (hlaid i).nil.1 e
            refine part_ne (lv := lv) (L := L) (i := i) ?_ ?_
            · rw [← HMM.out]; omega
            · rw [← HMM.out]; exact this
          rw [e1, Nd.branch, if_pos (by rw [decide_eq_true (show 0 < jd by omega), decide_eq_true hD.symm, e2]; rfl), hD]
        rw [hbran] at hbr
        have hfin : ∀ w' : World, Below W.heap.size W w' → w'.heap[d]? = some (.deferred (some [])) ∧ ∀ v, Nde (fun b => F b ∧ N ≤ b) w' (layL (f + 1) lv L) v → Nde F (w'.putObj d (.deferred none)) (layL (f + 1) lv L) v ∧ Below w.heap.size w (w'.putObj d (.deferred none)) := fun w' hb => by
          have p := But.put w' d (.deferred none)
          refine ⟨(hb.block d hdl).trans hdf, fun v hv => ⟨(hv.kept fun b hF hl => p.block b hl (by omega)).mono fun b _ hF => hF.1, ?_⟩⟩
          refine ⟨p.os.trans (hb.os.trans (g1.os.trans (HBW.out.os.trans hbel.out.os))), p.tape.trans (hb.tape.trans (g1.tape.trans (HBW.out.tape.trans hbel.out.tape))), p.output.trans (hb.output.trans (g1.output.trans (HBW.out.output.trans hbel.out.output))), ?_, fun k hk => ?_⟩
          · have := hbel.out.size
            have := HBW.out.size
            have := hb.size
            have := p.size
            omega
          · have h1 := hbel.out.size
            have h2 := HBW.out.size
            have h3 := hb.size
            refine (p.block k (by omega) (by omega)).trans ((hb.block k (by omega)).trans ((g1.block k (by omega) fun e => ?_).trans ((HBW.out.block k (by omega)).trans (hbel.out.block k hk))))
            rw [HI.out.2.1] at e
            rcases e with e | e <;> omega
        have HBR := Lib.hid hbr; clear hbr
        have HFIN := Lib.hid hfin; clear hfin
        have HJD := Lib.hid hD; clear hD
        clear hbran hFut hdl hszW hsum hnds hlaid hgc hgW hgN hck hvl hk32 hk0 hn0 hkn kds g1 hdf hI hIx sI hd hj hlen hpr hr0
        go_wp2_with fail
        refine HBR.out.mono ?_
        rintro e w' ⟨v, rfl, hv, hb⟩
        obtain ⟨f1, f2⟩ := HFIN.out w' hb
        have HF2 := Lib.hid (f2 v hv); clear f2 hv hb
        have HF1 := Lib.hid f1; clear f1
        go_wp2_with fail
        refine ⟨by simp, .inl ⟨_, _, rfl, run_takeDeferred HF1.out, ?_⟩⟩
        refine ⟨v, ?_, ?_⟩
        · simp [results, Tryd.f37, go_sem]
        · exact ⟨v, rfl, HF2.out.1, HF2.out.2⟩
      case round =>
        clear hseq I0
        rintro l jj vs W hl hlt hi ⟨hkw, hj, rfl⟩
        have hkn := HKN.out
        have hcm := nthc_mem hj
        obtain ⟨cN, hcN⟩ : ∃ cN : Nat, (cN : Int) = nthc m jj := ⟨(nthc m jj).toNat, by have := Bt.lst_lt m 32 _ hcm; omega⟩
        have hc32 : cN < 32 := by have := Bt.lst_lt m 32 _ hcm; omega
        have hcg : (Bt.lst m 32).getD jj 0 = (cN : Int) := hcN.symm
        rw [hcg]
        refine ⟨rfl, fun K hK => ?_⟩
        have HK := Lib.hid hK; clear hK
        have HII := Lib.hid hi; clear hi
        have HKW := Lib.hid hkw; clear hkw
        have HCN := Lib.hid hcN; clear hcN
        have hc33 : (cN : Int) < 32 := by omega
        clear hcg hcm
        gi_wp2_with fail
        refine HK.out _ _ (But.refl _ _) ?_
        rintro W2 hk2 ⟨r, hr⟩
        have hI2 := sI jj W W2 HII.out (hk2.mono fun k e => .inr (by omega))
        rw [hI] at hI2
        obtain ⟨g1, vk, vs, kds⟩ := hI2
        have hl2 : l < W2.heap.size := Nat.lt_of_lt_of_le hlt hk2.size
        have bW2 : Below wr.heap.size wr W2 := by
          refine ⟨g1.os.trans HBW.out.os, g1.tape.trans HBW.out.tape, g1.output.trans HBW.out.output, Nat.le_trans HBW.out.size g1.size, fun k hk => (g1.block k (by have := HBW.out.size; omega) fun e => ?_).trans (HBW.out.block k hk)⟩
          rw [HI.out.2.1] at e
          rcases e with e | e
          · omega
          · have := HBW.out.size; omega
        obtain ⟨Ap, cp, hvp, hcp, hEp⟩ := ens_own (HP.out.own cN hc32) rfl (HP.out.ens cN hc32) hbel.out
        have hEp2 : Ens W2 Ap (part lv L cN) := hEp.below bW2
        have hpcell : W2.cell? ⟨w.heap.size + 1, cN, none⟩ = some (cur.getD cN undef) := ((bW2.cell (p := ⟨w.heap.size + 1, cN, none⟩) (Array.getElem?_eq_some_iff.1 HP.out.row).1)).trans (HP.out.cell hc32).1
        have hlcell : W2.cell? ⟨w.heap.size, 0, none⟩ = some (.int .i64 (lv : Int)) := row_cell ((bW2.block _ (Array.getElem?_eq_some_iff.1 hr0.out).1).trans hr0.out) rfl
        have hkcell : W2.cell? ⟨wr.heap.size, 0, none⟩ = some vk := by rw [← hkn.2.2]; exact kds.box.cell
        have hFut : Fut (Kd F N vk) W2 := fun b hb => ⟨HF.out b (by have := bW2.size; have := hbel.out.size; omega), by omega, fun e => by have := (own_lt kds.row e).2.1; omega⟩
        have hTW : Tab W2 := (HT.out.below hbel.out).below bW2
        have hkx : kidF jj = layL f (lv + 1) (part lv L cN) := by rw [HI.out.2.2, HCN.out]
        have hlaid : ∀ W', Below W2.heap.size W2 W' → Calls Tryd.prog 18 #[.slice Ap (part lv L cN).length cp, .int .i64 ((lv : Int) + 1)] W' fun e w' => ∃ v, e = .returned v ∧ Nde (Kd F N vk) w' (kidF jj) v ∧ Below W'.heap.size W' w' := fun W' hW' => by
          have := HIH.out (Kd F N vk) W' Ap cp (part lv L cN) (hFut.later hW'.size) (hTW.below hW') (hEp2.below hW') (HG.out.part cN)
          rw [← hkx] at this
          simpa using this
        have hadd := fun (W3 W4 : World) (nv vk' : Value) (q1 : Below W2.heap.size W2 W3) (q2 : Nde (Kd F N vk) W3 (kidF jj) nv) (q3 : W4.ownsRow N 28 1 vk' (jj + 1) (vs ++ [nv])) (q4 : W3.grownBy W4 vk.ownBlock) (q5 : vk'.ownBlock = vk.ownBlock ∨ ∃ b, vk'.ownBlock = some b ∧ W3.heap.size ≤ b) => kds.add (by omega) (by omega) q1 q2 q3 q4 q5
        have hrow := kds.row
        obtain ⟨vp, hvpn⟩ : ∃ vp, vp = cur.getD cN undef := ⟨_, rfl⟩
        rw [← hvpn] at hpcell hvp
        subst hvp
        obtain ⟨np, hnp⟩ : ∃ np, np = (part lv L cN).length := ⟨_, rfl⟩
        rw [← hnp] at hpcell hlaid
        obtain ⟨_, Ak, ck, rfl, hck, hkg⟩ := row_reads1 hrow
        have HKL : Hid (wr.heap.size < W2.heap.size) := by have := bW2.size; have := g1.size; show _ < _; omega
        have HPL : Hid (w.heap.size + 1 < W2.heap.size ∧ w.heap.size < W2.heap.size) := by have := bW2.size; have := (Array.getElem?_eq_some_iff.1 HP.out.row).1; exact ⟨by omega, by omega⟩
        have HKJ : Hid (jj < (Bt.lst m 32).length) := hj
        have HLA := Lib.hid hlaid; clear hlaid
        have HADD := Lib.hid hadd; clear hadd
        have HROW := Lib.hid hrow; clear hrow
        have HG1 := Lib.hid g1; clear g1
        have HKD := Lib.hid kds; clear kds
        have HQ := Lib.hid (And.intro hI hIx); clear hI hIx
        have HSI := Lib.hid sI; clear sI
        clear hkn hEp hEp2 hFut hTW hkx hcp hk2 hr HII HK HKW hnp hvpn bW2 hck hkg hj
        gi_wp2_with fail
        refine wpIn_region_mix 8 (by kernel_rfl) (by kernel_rfl) (fun _ W => Below W2.heap.size W2 W) (KG F N (w.heap.size + 1) cN lv (.slice Ak jj ck) (.slice Ap np cp) (kidF jj)) ?_ ?_ ?_ ?_
        · exact (Below.refl _ _).drew
        · intro i hi
          have hc : i = 0 ∨ i = 1 ∨ i = 2 ∨ i = 3 ∨ i = 4 ∨ i = 5 ∨ i = 6 ∨ i = 7 := by omega
          rcases hc with rfl | rfl | rfl | rfl | rfl | rfl | rfl | rfl <;> exact ⟨_, rfl, by simp⟩
        · intro i hi listed a w' hls hag hdep hun
          have hc : i = 0 ∨ i = 1 ∨ i = 2 ∨ i = 3 ∨ i = 4 ∨ i = 5 ∨ i = 6 ∨ i = 7 := by omega
          rcases hc with rfl | rfl | rfl | rfl | rfl | rfl | rfl | rfl
          · have he := hag.keeps 10 (.pointer (some ⟨wr.heap.size, 0, none⟩)) (by kernel_rfl) rfl
            have hx := (hag.inv.cell (p := ⟨wr.heap.size, 0, none⟩) HKL.out).trans hkcell
            refine wpOpIn_of _ rfl rfl ⟨fun _ _ => trivial, ?_⟩
            rw [Oper.semAt_eq _ _ _ (fun c h => by cases h)]
            unfold execOp
            go_simp
            first | exact ⟨_, rfl, hag.inv, rfl, fun _ _ _ _ _ h => h⟩ | exact ⟨_, rfl, hag.inv, rfl⟩ | trace_state
          · have he := hag.keeps 11 (.int .i64 (cN : Int)) (by kernel_rfl) rfl
            refine wpOpIn_of _ rfl rfl ⟨fun _ _ => trivial, ?_⟩
            rw [Oper.semAt_eq _ _ _ (fun c h => by cases h)]
            unfold execOp
            go_simp
            first | exact ⟨_, rfl, hag.inv, rfl, fun _ _ _ _ _ h => h⟩ | exact ⟨_, rfl, hag.inv, rfl⟩ | trace_state
          · obtain ⟨v1, hv1, hg1⟩ := hag.slot 1 38 (by decide) (hdep 1 ⟨_, rfl, ⟨1, .data⟩, by simp, rfl, rfl⟩) rfl
            obtain rfl : v1 = _ := hg1
            have hev := eval_tmp hv1
            have he := hag.keeps 5 (.pointer (some ⟨w.heap.size + 1, 0, none⟩)) (by kernel_rfl) rfl
            refine wpOpIn_of _ rfl rfl ⟨fun _ _ => trivial, ?_⟩
            rw [Oper.semAt_eq _ _ _ (fun c h => by cases h)]
            unfold execOp
            go_simp
            first | exact ⟨_, rfl, hag.inv, rfl, fun _ _ _ _ _ h => h⟩ | exact ⟨_, rfl, hag.inv, rfl⟩ | trace_state
          · obtain ⟨v2, hv2, hg2⟩ := hag.slot 2 39 (by decide) (hdep 2 ⟨_, rfl, ⟨2, .data⟩, by simp, rfl, rfl⟩) rfl
            obtain rfl : v2 = _ := hg2
            have hev := eval_tmp hv2
            have hx := (hag.inv.cell (p := ⟨w.heap.size + 1, cN, none⟩) HPL.out.1).trans hpcell
            refine wpOpIn_of _ rfl rfl ⟨fun _ _ => trivial, ?_⟩
            rw [Oper.semAt_eq _ _ _ (fun c h => by cases h)]
            unfold execOp
            go_simp
            first | exact ⟨_, rfl, hag.inv, rfl, fun _ _ _ _ _ h => h⟩ | exact ⟨_, rfl, hag.inv, rfl⟩ | trace_state
          · have he := hag.keeps 3 (.pointer (some ⟨w.heap.size, 0, none⟩)) (by kernel_rfl) rfl
            have hx := (hag.inv.cell (p := ⟨w.heap.size, 0, none⟩) HPL.out.2).trans hlcell
            refine wpOpIn_of _ rfl rfl ⟨fun _ _ => trivial, ?_⟩
            rw [Oper.semAt_eq _ _ _ (fun c h => by cases h)]
            unfold execOp
            go_simp
            first | exact ⟨_, rfl, hag.inv, rfl, fun _ _ _ _ _ h => h⟩ | exact ⟨_, rfl, hag.inv, rfl⟩ | trace_state
          · obtain ⟨v4, hv4, hg4⟩ := hag.slot 4 41 (by decide) (hdep 4 ⟨_, rfl, ⟨4, .data⟩, by simp, rfl, rfl⟩) rfl
            obtain rfl : v4 = _ := hg4
            have hev := eval_tmp hv4
            have hwr : IntKind.i64.wrap ((lv : Int) + 1) = (lv : Int) + 1 := by rw [IntKind.wrap_i64]; omega
            refine wpOpIn_of _ rfl rfl ⟨fun _ _ => trivial, ?_⟩
            rw [Oper.semAt_eq _ _ _ (fun c h => by cases h)]
            unfold execOp
            go_simp
            first | exact ⟨_, rfl, hag.inv, rfl, fun _ _ _ _ _ h => h⟩ | exact ⟨_, rfl, hag.inv, rfl⟩ | trace_state
          · obtain ⟨v3, hv3, hg3⟩ := hag.slot 3 40 (by decide) (hdep 3 ⟨_, rfl, ⟨3, .data⟩, by simp, rfl, rfl⟩) rfl
            obtain ⟨v5, hv5, hg5⟩ := hag.slot 5 42 (by decide) (hdep 5 ⟨_, rfl, ⟨5, .data⟩, by simp, rfl, rfl⟩) rfl
            obtain rfl : v3 = _ := hg3
            obtain rfl : v5 = _ := hg5
            have hev3 := eval_tmp hv3
            have hev5 := eval_tmp hv5
            refine wpOpIn_of _ rfl rfl ⟨fun _ _ => trivial, ?_⟩
            rw [Oper.semAt_eq _ _ _ (fun c h => by cases h)]
            unfold execOp
            go_simp
            refine (CallsIn.inRound l (callsIn_wide.2 (HLA.out w' hag.inv))).mono ?_
            rintro e w'' ⟨v, rfl, hv, hb⟩
            exact ⟨_, rfl, below_then hag.inv hb, hv, fun _ _ _ _ _ h => h.below hb⟩
          · obtain ⟨v6, hv6, hg6⟩ := hag.slot 6 43 (by decide) (hdep 6 ⟨_, rfl, ⟨6, .data⟩, by simp, rfl, rfl⟩) rfl
            have hev := eval_tmp hv6
            have hnl : Nde (Kd F N (.slice Ak jj ck)) w' (kidF jj) v6 := hg6
            have hbn : ∀ o, Below w'.heap.size w' (w'.alloc o) := fun o => (Below.refl _ _).alloc (Nat.le_refl _) _
            rcases hnl.nil_iff with ⟨hx0, hvv⟩ | ⟨hx0, tt, bb, hvv⟩ <;> subst hvv <;> clear hx0
            all_goals
              refine wpOpIn_of _ rfl rfl ⟨fun _ _ => trivial, ?_⟩
              rw [Oper.semAt_eq _ _ _ (fun c h => by cases h)]
              unfold execOp
              go_simp
              exact ⟨_, rfl, below_then hag.inv (hbn _), ⟨_, _, rfl, heap_alloc_new w' _, hnl.below (hbn _)⟩, fun _ _ _ _ _ h => h.below (hbn _)⟩
        · intro listed a w' hall hag
          obtain ⟨v0, s0, g0⟩ := hag.slot 0 37 (by decide) (hall 0 (by decide)) rfl
          obtain ⟨v1, s1, g1⟩ := hag.slot 1 38 (by decide) (hall 1 (by decide)) rfl
          obtain ⟨v2, s2, g2⟩ := hag.slot 2 39 (by decide) (hall 2 (by decide)) rfl
          obtain ⟨v3, s3, g3⟩ := hag.slot 3 40 (by decide) (hall 3 (by decide)) rfl
          obtain ⟨v4, s4, g4⟩ := hag.slot 4 41 (by decide) (hall 4 (by decide)) rfl
          obtain ⟨v5, s5, g5⟩ := hag.slot 5 42 (by decide) (hall 5 (by decide)) rfl
          obtain ⟨v6, s6, g6⟩ := hag.slot 6 43 (by decide) (hall 6 (by decide)) rfl
          obtain ⟨v7, s7, g7⟩ := hag.slot 7 44 (by decide) (hall 7 (by decide)) rfl
          obtain rfl : v0 = _ := g0
          obtain rfl : v1 = _ := g1
          obtain rfl : v2 = _ := g2
          obtain rfl : v3 = _ := g3
          obtain rfl : v4 = _ := g4
          obtain rfl : v5 = _ := g5
          obtain ⟨g, nv, rfl, hgr, hnv⟩ := g7
          have ha := hag.whole [(37, .slice Ak jj ck), (38, .int .i64 (cN : Int)), (39, .pointer (some ⟨w.heap.size + 1, cN, none⟩)), (40, .slice Ap np cp), (41, .int .i64 (lv : Int)), (42, .int .i64 ((lv : Int) + 1)), (43, v6), (44, .slice (some ⟨g, 0, none⟩) 1 1)] (by
            intro i hi
            have hc : i = 0 ∨ i = 1 ∨ i = 2 ∨ i = 3 ∨ i = 4 ∨ i = 5 ∨ i = 6 ∨ i = 7 := by omega
            rcases hc with rfl | rfl | rfl | rfl | rfl | rfl | rfl | rfl <;> exact ⟨_, rfl, by simp⟩) (List.forall_mem_cons.2 ⟨s0, List.forall_mem_cons.2 ⟨s1, List.forall_mem_cons.2 ⟨s2, List.forall_mem_cons.2 ⟨s3, List.forall_mem_cons.2 ⟨s4, List.forall_mem_cons.2 ⟨s5, List.forall_mem_cons.2 ⟨s6, List.forall_mem_cons.2 ⟨s7, fun p hp => absurd hp (by simp)⟩⟩⟩⟩⟩⟩⟩⟩)
          simp only [List.foldl_cons, List.foldl_nil, List.setIfInBounds_toArray, List.set_cons_succ, List.set_cons_zero] at ha
          have hkn := HKN.out
          have hjl : jj ≤ 32 := by have := HKJ.out; have := Bt.list_le m 32; omega
          obtain ⟨i0, hi0, hz0, hz1, hz2⟩ := info_parts Tryd.info26
          obtain ⟨v', W4, hr, hown, hg4, _, hob⟩ := run_append_own_at (P := Tryd.prog) (w := w') N 116 116 28 i0 .nilIface 1 16 Tryd.underlying116 hi0 hz0 hz1 hz2 rfl (by decide) _ jj vs (own_below HROW.out hag.inv) ⟨g, 0, none⟩ 1 1 [nv] rfl
            (by
              intro q u hq
              rw [Go.WideShapes.add_plain, Nat.zero_add, cell_of_row _ g q _ 28 (0, 0) hgr, ← hq]
              simp)
            (by
              intro u hu
              rw [List.mem_singleton] at hu
              subst hu
              exact hnv.one)
            (by unfold maxLen; omega) (by omega) (by have := hag.inv.size; omega)
          obtain ⟨⟨q1, q2⟩, q3, q4⟩ := HADD.out w' W4 nv v' hag.inv hnv hown hg4 (hob.imp id fun h => ⟨_, h, Nat.le_refl _⟩)
          obtain ⟨_, A4, c4, rfl, _, _⟩ := row_reads1 hown
          rw [hkn.2.2] at q1 q2 q3 q4
          have Q3 := Lib.hid (And.intro q3 q4); clear q3 q4
          rw [ha]
          clear ha hag hall s0 s1 s2 s3 s4 s5 s6 s7 g6 hgr hnv hown hg4 hob HADD HROW hkn hi0 hz0 hz1 hz2
          simp only [List.drop_succ_cons, List.drop_zero]
          refine listIn_app _ rfl rfl rfl rfl hr ?_
          clear hr
          gi_wp2_with fail
          have hbX : But X W2 (W4.setCell ⟨wr.heap.size, 0, none⟩ (.slice A4 (jj + 1) c4)) := by
            rw [HI.out.2.1, HKN.out.2.2]
            exact Q3.out.2
          refine ⟨hbX, ?_⟩
          rw [HQ.out.1]
          exact ⟨HG1.out.trans hbX, _, _, by rw [HKN.out.2.2]; exact Q3.out.1⟩
theorem leaf_alone (L : List En) (h : L.length = 1) : ∃ e, L = [e] := List.length_eq_one_iff.1 h
/-- the layout of entries of one hash, none, or but one; and of others, by branched -/
theorem laid_step {f lv : Nat} (hf : f + lv = 13) (F : Nat → Prop) (w : World) (A : Option Addr) (c : Nat) (L : List En) (hF : Fut F w) (ha : Ens w A L) (hG : Good lv L)
    (hbr : alike L = false → Calls Tryd.prog 37 #[.slice A L.length c, .int .i64 (lv : Int)] w fun e w' => ∃ v, e = .returned v ∧ Nde F w' (layL f lv L) v ∧ Below w.heap.size w w')
    (hbr2 : ∀ w', Below w.heap.size w w' → alike L = false → Calls Tryd.prog 37 #[.slice A L.length c, .int .i64 (lv : Int)] w' fun e w'' => ∃ v, e = .returned v ∧ Nde F w'' (layL f lv L) v ∧ Below w'.heap.size w' w'') :
    Calls Tryd.prog 18 #[.slice A L.length c, .int .i64 (lv : Int)] w fun e w' => ∃ v, e = .returned v ∧ Nde F w' (layL f lv L) v ∧ Below w.heap.size w w' := by
  have hflat : alike L = true → layL f lv L = flatL L := fun h => by
    cases f with
    | zero => rfl
    | succ f => rw [layL, if_pos h]
  have HFL := Lib.hid hflat; clear hflat
  have HB2 := Lib.hid hbr2; clear hbr2 hbr
  have HF := Lib.hid hF; clear hF
  have hlen := hG.len
  have hfits := hG.fits
  have hap := hG.apart
  clear hG
  by_cases h0 : L.length = 0
  · have hx : layL f lv L = .none := by
      rw [HFL.out (by rw [List.eq_nil_of_length_eq_zero h0]; rfl), flatL, if_pos h0]
    rw [hx, h0]
    go_enter Tryd.func18, Tryd.ntmps18
    go_wp2
    go_ret
    exact ⟨_, rfl, rfl, Below.refl _ _⟩
  · obtain ⟨b, off, ka, kc, va, vc, rfl, hbl, c0, c1, c2, h3, h4⟩ := ha.at (j := 0) (by omega)
    have hm := hfits _ (List.getElem_mem (show 0 < L.length by omega))
    have hhd : ehd L = L[0] := by
      cases L with
      | nil => exact absurd rfl h0
      | cons a t => rfl
    simp only [Nat.zero_mul, Nat.add_zero] at c0 c1 c2
    by_cases h1 : L.length = 1
    · have hx : layL f lv L = .leaf (L[0]).1 (L[0]).2 := by
        obtain ⟨e, rfl⟩ := leaf_alone L h1
        rw [HFL.out (by simp [alike, ehd]), flatL, if_neg h0, if_pos h1, hhd]
      have hlf := leaf_any (L[0]).1 kc vc HF.out h3 h4 ⟨by omega, by omega⟩
      rw [← hx] at hlf
      have HLF := Lib.hid hlf; clear hlf
      have HX := Lib.hid hx; clear hx
      rw [h1]
      obtain ⟨q, hq⟩ : ∃ q : Nat, q = (L[0]).1 := ⟨_, rfl⟩
      obtain ⟨x, hxx⟩ : ∃ x : Nat, x = (L[0]).2.1.length := ⟨_, rfl⟩
      obtain ⟨y, hy⟩ : ∃ x : Nat, x = (L[0]).2.2.length := ⟨_, rfl⟩
      rw [← hq] at c0 HLF
      rw [← hxx] at c1 HLF
      rw [← hy] at c2 HLF
      clear hq hxx hy hhd hm h3 h4 hap hfits hlen ha HB2 h0 h1 HX
      go_enter Tryd.func18, Tryd.ntmps18
      go_wp2_with fail
      refine HLF.out.mono ?_
      rintro e w' ⟨v, rfl, hv, hb⟩
      have HV := Lib.hid (And.intro hv hb); clear hv hb
      go_wp2_with fail
      go_ret
      exact ⟨v, rfl, HV.out⟩
    · have hall := allHave_any ha c (L[0]).1 (by omega)
      have hal : (L.all fun e => e.1 == (L[0]).1) = alike L := by rw [alike, hhd]
      rw [hal] at hall
      cases hk : alike L with
      | true =>
        rw [hk] at hall
        have hx : layL f lv L = .buck (L[0]).1 (come (eprs L)) := by rw [HFL.out hk, flatL, if_neg h0, if_neg h1, hhd]
        have hnd : ((eprs L).map fun p => p.1).Nodup := by rw [eprs_keys]; exact hap
        have hcl : (come (eprs L)).length = L.length := by rw [come_len hnd]; simp [eprs]
        have hpf : ∀ p ∈ eprs L, p.1.length ≤ 1000 ∧ p.2.length ≤ 1000 := fun p hp => by
          obtain ⟨e, he, rfl⟩ := List.mem_map.1 hp
          exact (hfits e he).2
        have hcf : Fits (come (eprs L)) := fun p hp => hpf p (come_sub _ _ hp)
        have hel : (eprs L).length = L.length := by simp [eprs]
        obtain ⟨nn, hnn⟩ : ∃ nn, nn = L.length := ⟨_, rfl⟩
        have hpo := fun W (hW : Below w.heap.size w W) => pairsOf_any (ha.below hW) c (by omega)
        have hco := fun W g (hp : Pcs W (some ⟨g, 0, none⟩) (eprs L)) => come_any hp nn (by omega) (fun p hp => by have := hpf p hp; omega)
        have hfr := fun W g (hW : w.heap.size ≤ W.heap.size) (hp : Pcs W (some ⟨g, 0, none⟩) (come (eprs L))) => from_any (c := nn) (HF.out.later hW) hp (by omega) (by omega) (fun p hp => by have := hcf p hp; omega)
        have hbk := fun W (t : Tr) (p : Option Addr) (hW : w.heap.size ≤ W.heap.size) (ht : Tre F W t p) (he : t.even) (htl : t.list = come (eprs L)) => bucket_any (L[0]).1 (HF.out.later hW) ht he (by rw [← Tr.length, htl]; omega) (by rw [htl]; exact hcf)
        have hbx : ∀ t : Tr, t.list = come (eprs L) → (if t.list.length = 0 then Nd.none else if t.list.length = 1 then .leaf (L[0]).1 (t.list.getD 0 ([], [])) else .buck (L[0]).1 t.list) = layL f lv L := fun t htl => by
          rw [htl, if_neg (by omega), if_neg (by omega), hx]
        obtain ⟨q, hq⟩ : ∃ q : Nat, q = (L[0]).1 := ⟨_, rfl⟩
        rw [← hq] at c0 hall
        simp only [← hq] at hbk hbx
        have HBX := Lib.hid hbx; clear hbx
        rw [hel] at hco
        simp only [hcl] at hco hfr
        rw [← hnn] at hpo hco hfr hall h0 h1 ⊢
        have HPO := Lib.hid hpo; clear hpo
        have HCO := Lib.hid hco; clear hco
        have HFR := Lib.hid hfr; clear hfr
        have HBK := Lib.hid hbk; clear hbk
        have HALL := Lib.hid hall; clear hall
        have hn2 : 2 ≤ nn := by omega
        have t0 : ((nn : Int) == 0) = false := by simp; omega
        have t1 : ((nn : Int) == 1) = false := by simp; omega
        clear hq hcl hel hnd hpf hcf hx hal hhd hm h3 h4 hap hfits ha HB2 HFL hk c1 c2 hnn h0 h1
        go_enter Tryd.func18, Tryd.ntmps18
        go_wp2_with fail
        refine HALL.out.mono ?_
        rintro e w2 ⟨rfl, b2⟩
        have B2 := Lib.hid b2; clear b2
        go_wp2_with fail
        refine (HPO.out w2 B2.out).mono ?_
        rintro e w3 ⟨rfl, p3, b3⟩
        have B3 := Lib.hid (And.intro p3 (below_then B2.out b3)); clear p3 b3
        go_wp2_with fail
        refine (HCO.out w3 _ B3.out.1).mono ?_
        rintro e w4 ⟨g4, rfl, n4, b4⟩
        have B4 := Lib.hid (And.intro n4.pcs (below_then B3.out.2 b4)); clear n4 b4
        go_wp2_with fail
        refine (HFR.out w4 _ B4.out.2.size B4.out.1).mono ?_
        rintro e w5 ⟨p5, t5, rfl, ht, he, htl, b5⟩
        have B5 := Lib.hid (And.intro ht (And.intro he (And.intro htl (below_then B4.out.2 b5)))); clear ht he htl b5
        go_wp2_with fail
        refine (HBK.out w5 t5 p5 B5.out.2.2.2.size B5.out.1 B5.out.2.1 B5.out.2.2.1).mono ?_
        rintro e w6 ⟨v, rfl, hv, b6⟩
        rw [HBX.out t5 B5.out.2.2.1] at hv
        have HV := Lib.hid (And.intro hv (below_then B5.out.2.2.2 b6)); clear hv b6
        go_wp2_with fail
        go_ret
        exact ⟨v, rfl, HV.out⟩
      | false =>
        rw [hk] at hall
        have HBR := Lib.hid (fun W (hW : Below w.heap.size w W) => HB2.out W hW hk); clear HB2
        obtain ⟨q, hq⟩ : ∃ q : Nat, q = (L[0]).1 := ⟨_, rfl⟩
        rw [← hq] at c0 hall
        obtain ⟨nn, hnn⟩ : ∃ nn, nn = L.length := ⟨_, rfl⟩
        rw [← hnn] at hall HBR h0 h1 ⊢
        have HALL := Lib.hid hall; clear hall
        have hn2 : 2 ≤ nn := by omega
        have hn3 : nn ≤ 100 := by omega
        have t0 : ((nn : Int) == 0) = false := by simp; omega
        have t1 : ((nn : Int) == 1) = false := by simp; omega
        clear hq hal hhd hm h3 h4 hap hfits ha HFL hk c1 c2 hnn h0 h1 hlen
        go_enter Tryd.func18, Tryd.ntmps18
        go_wp2_with fail
        refine HALL.out.mono ?_
        rintro e w2 ⟨rfl, b2⟩
        have B2 := Lib.hid b2; clear b2
        go_wp2_with fail
        refine (HBR.out w2 B2.out).mono ?_
        rintro e w3 ⟨v, rfl, hv, b3⟩
        have HV := Lib.hid (And.intro hv (below_then B2.out b3)); clear hv b3
        go_wp2_with fail
        go_ret
        exact ⟨v, rfl, HV.out⟩
theorem laid_all : ∀ f lv, f + lv = 13 → LaidAt f lv
  | 0, lv, hf => fun F w A c L hF hT ha hG => by
    obtain rfl : lv = 13 := by omega
    have hno : alike L = false → False := fun h => by rw [hG.top] at h; cases h
    exact laid_step hf F w A c L hF ha hG (fun h => (hno h).elim) (fun _ _ h => (hno h).elim)
  | f + 1, lv, hf => fun F w A c L hF hT ha hG =>
    laid_step hf F w A c L hF ha hG (fun h => branched_any hf (laid_all f (lv + 1) (by omega)) F w A c L hF hT ha hG h)
      (fun w' hw h => branched_any hf (laid_all f (lv + 1) (by omega)) F w' A c L (hF.later hw.size) (hT.below hw) (ha.below hw) hG h)
/-- the layout of entries of unlike keys -/
theorem laid_any {F : Nat → Prop} {w : World} {A : Option Addr} {L : List En} (c : Nat) (hF : Fut F w) (hT : Tab w) (ha : Ens w A L) (hG : Good 0 L) :
    Calls Tryd.prog 18 #[.slice A L.length c, .int .i64 0] w fun e w' => ∃ v, e = .returned v ∧ Nde F w' (layL 13 0 L) v ∧ Below w.heap.size w w' := laid_all 13 0 rfl F w A c L hF hT ha hG
end Go.Proofs.YtajanacbifjmgaaDoor
