/-
  A range over a function whose iterator leaves all memory as it lies between its rounds: the caller's invariant may speak of what the rounds have made. And All's iterator (bits) is such.
-/
import Derived.Test.YtmbdimonfdncpaaGreatDoorHand
import Derived.Test.YtmbdimonfdncpaaGreatDoorFlat
import Derived.Test.YtmbdimonfdncpaaGreatDoorChunk
import Derived.Deep.RegionLaw
import Derived.Test.YtmbdimonfdncpaaGreatDoorMaking
import Derived.StillTail
import Derived.OrdersIn
import Derived.TacticsIn
import Derived.Test.YtmbdimonfdncpaaGreatDoorFrom
import Derived.Test.YtmbdimonfdncpaaGreatDoorApp
namespace Go.Proofs.YtmbdimonfdncpaaGreatDoor
open Go.RowKit Go.Shelf
set_option maxHeartbeats 1000000
set_option maxRecDepth 100000
/-- what an iterator keeps that leaves all memory between its rounds as it lies: called in a world W, with yields of the loop l, it hands out, one by one, what G says something of; and it asks no more of a round than that it leaves all but the blocks of X, and the loop's record, as they lie -/
def HandsK (n : Nat) (P : Program) (gf : Nat) (lb : Array Value) (X : Nat → Prop) (G : Nat → Array Value → World → Prop) (D : Nat → Prop) (w : World) : Prop :=
  ∀ (l : Nat) (J Jx : Nat → World → Prop) (W : World), l + 1 = W.heap.size → w.heap.size ≤ l → Below w.heap.size w W →
    (∀ j vs A, J j A → G j vs A → YieldAt Fence.wide (n - 1) P l vs A fun e B => (e = .returned (.bool true) ∧ J (j + 1) B ∧ But (fun k => X k ∨ k = l) A B) ∨ (e = .returned (.bool false) ∧ Jx (j + 1) B)) →
    J 0 W → CallsIn Fence.wide n P gf (#[.func (.yield l) #[] #[]] ++ lb) W fun e B => (∃ v, e = .returned v) ∧ ((∃ j, D j ∧ J j B) ∨ ∃ j, Jx j B)
theorem wp_rangeK {n : Nat} {P : Program} {g : Operand} {ps : Array Tmp} {assign body : Code} {Q : Exit → Act → World → Prop} {a : Act} {w : World} {gf : Nat} {lb : Array Value}
    (hg : a.eval g = .func (.func gf) #[] lb) (eg : ∀ args w, (callFunc gf args).run P w = .ok (.enter gf args) w)
    (I : Nat → World → Prop) (Ix : Code → Nat → World → Prop) {G : Nat → Array Value → World → Prop} {X : Nat → Prop} {D : Nat → Prop} (hseq : HandsK (n - 1) P gf lb X G D w)
    (hI : ∀ j A B, I j A → But (fun k => k = w.heap.size ∨ k = w.heap.size + 1) A B → I j B) (hIx : ∀ c j A B, Ix c j A → But (fun k => k = w.heap.size ∨ k = w.heap.size + 1) A B → Ix c j B) (hX : ∀ k, X k → k ≠ w.heap.size ∧ k ≠ w.heap.size + 1) (h0 : I 0 w)
    (hround : ∀ l j vs W, l = w.heap.size + 1 → l < W.heap.size → I j W → G j vs W → vs.size = ps.size ∧ ∀ K : Act → World → Prop,
      (∀ a1 W1, But X W W1 → (∀ W2, But (fun k => k = l) W1 W2 → (∃ r, W1.heap[l]? = some (.loop r)) → body.wpIn (Fence.wide.inRound l) (n - 1 - 1) P (leave I Ix X (j + 1) W2) a1 W2) → K a1 W1) →
      assign.wpIn (Fence.wide.inRound l) (n - 1 - 1) P (Exit.then K (fun _ _ _ => False)) { tmps := (ps.zip vs).foldl (fun t (p, v) => t.setIfInBounds p v) a.tmps, defers := [] } W)
    (hdone : ∀ d j W, d = w.heap.size → D j → I j W → W.heap[d]? = some (.deferred (some [])) → Q .normal { a with defers := { target := .collected d, args := #[] } :: a.defers } W)
    (hstop : ∀ d c j W, d = w.heap.size → Ix c j W → W.heap[d]? = some (.deferred (some [])) → c.wpIn Fence.wide n P Q { a with defers := { target := .collected d, args := #[] } :: a.defers } W)
    (h1 : 1 ≤ n := by omega) :
    (Code.rangeFunc g ps assign body).wpIn Fence.wide n P Q a w := by
  refine wpIn_rangeFunc fun fn hfn => ?_
  obtain ⟨L, hL⟩ : ∃ L, L = w.heap.size := ⟨_, rfl⟩
  obtain ⟨rec, hrec⟩ : ∃ rec : LoopState → Option Code → Loop, rec = fun s p => ⟨s, p, fn, a.tmps, ps, assign, body, L⟩ := ⟨_, rfl⟩
  have hpar : ∀ s p, (rec s p).params = ps := fun s p => by rw [hrec]
  have hst : ∀ s p, (rec s p).state = s := fun s p => by rw [hrec]
  have hpe : ∀ s p, (rec s p).pending = p := fun s p => by rw [hrec]
  have hto : ∀ s p s', { rec s p with state := s' } = rec s' p := fun s p s' => by rw [hrec]
  have hto2 : ∀ s p s' p', { rec s p with state := s', pending := p' } = rec s' p' := fun s p s' p' => by rw [hrec]
  obtain ⟨W1, hW1⟩ : ∃ W1, W1 = (w.alloc (.deferred (some []))).alloc (.loop (rec .ready none)) := ⟨_, rfl⟩
  have hent : (Instr.enterLoop fn a.tmps ps assign body none).run P w = .ok (L + 1, [{ target := .collected L, args := #[] }]) W1 := by
    rw [hW1, hrec, hL]
    exact run_enterLoop_outer _ _ _ _ _
  have hsz : W1.heap.size = L + 1 + 1 := by rw [hW1, hL]; simp
  have hbw : Below w.heap.size w W1 := by rw [hW1]; exact ((Below.refl _ w).alloc (Nat.le_refl _) _).alloc (by simp) _
  have hrl : W1.heap[L + 1]? = some (.loop (rec .ready none)) := by
    rw [hW1, hL]
    have := World.alloc_heap_new (w.alloc (.deferred (some []))) (.loop (rec .ready none))
    rwa [World.size_alloc] at this
  have hrd : W1.heap[L]? = some (.deferred (some [])) := by
    rw [hW1, hL]
    exact (Below.heap_alloc _ _ _ (by simp)).trans (World.alloc_heap_new w _)
  clear hW1
  refine ⟨L + 1, _, W1, { target := .fn (.func gf) lb, args := #[.func (.yield (L + 1)) #[] #[]] }, W1, gf, #[.func (.yield (L + 1)) #[] #[]] ++ lb, W1, hent, ?_, fun _ _ => trivial, ?_, fun _ => h1, ?_⟩
  · simp only [resolve, hg]
    simp [go_sem]
  · simp [invoke, go_sem, eg]
  refine (hseq (L + 1) (fun j W => I j W ∧ W.heap[L + 1]? = some (.loop (rec .ready none)) ∧ W.heap[L]? = some (.deferred (some [])))
    (fun j W => ∃ c, Ix c j W ∧ W.heap[L + 1]? = some (.loop (rec .done (some c))) ∧ W.heap[L]? = some (.deferred (some []))) W1 hsz.symm (by omega) hbw ?_ ⟨hI 0 w W1 h0 (But.of hbw), hrl, hrd⟩).mono ?_
  · rintro j vs A ⟨hi, hl, hd⟩ hG
    obtain ⟨hvs, hwalk0⟩ := hround (L + 1) j vs A (by omega) (Array.getElem?_eq_some_iff.1 hl).1 hi hG
    have hwalk := hwalk0 (fun a1 W1 => But X A W1 ∧ ∀ W2, But (fun k => k = L + 1) W1 W2 → (∃ r, W1.heap[L + 1]? = some (.loop r)) → body.wpIn (Fence.wide.inRound (L + 1)) (n - 1 - 1) P (leave I Ix X (j + 1) W2) a1 W2) (fun _ _ h1 h2 => ⟨h1, h2⟩)
    have hy := run_yield (P := P) (args := vs) hl (by rw [hpar]; exact hvs)
    rw [hrec] at hy
    refine ⟨_, _, _, _, hy, roundIn_of_wpIn hfn (wpIn_mono hwalk ?_)⟩
    rintro e a2 A2 h2
    have lt1 := (Array.getElem?_eq_some_iff.1 hl).1
    cases e with
    | normal =>
      obtain ⟨hk2, hbody⟩ := h2
      have hl2 := (hk2.block (L + 1) lt1 (fun e => by have := hX _ e; omega)).trans hl
      have hd2 := (hk2.block L (by omega) (fun e => by have := hX _ e; omega)).trans hd
      have lt2 := (Array.getElem?_eq_some_iff.1 hl2).1
      have hbr := run_beginRound (P := P) hl2 (hst _ _)
      rw [hto] at hbr
      obtain ⟨A3, hA3⟩ : ∃ A3, A3 = A2.putObj (L + 1) (.loop (rec .busy none)) := ⟨_, rfl⟩
      rw [← hA3] at hbr
      have hk3 : But (fun k => k = L + 1) A2 A3 := by rw [hA3]; exact But.put _ _ _
      have hl3 : A3.heap[L + 1]? = some (.loop (rec .busy none)) := by rw [hA3]; exact World.putObj_heap_same lt2
      have hd3 := (hk3.block L (by omega) (by omega)).trans hd2
      clear hA3
      refine ⟨A3, hbr, wpIn_mono (hbody A3 hk3 ⟨_, hl2⟩) ?_⟩
      have fin : ∀ (jump : Option Code) (A4 : World), But X A3 A4 → ∃ B, (Instr.endRound (L + 1) jump).run P A4 = .ok (.bool jump.isNone) B ∧ But (fun k => k = w.heap.size ∨ k = w.heap.size + 1) A4 B ∧ But (fun k => X k ∨ k = L + 1) A B ∧
          B.heap[L + 1]? = some (.loop (rec (if jump.isNone then .ready else .done) jump)) ∧ B.heap[L]? = some (.deferred (some [])) := by
        intro jump A4 hk4
        have lt3 := (Array.getElem?_eq_some_iff.1 hl3).1
        have hl4 := (hk4.block (L + 1) lt3 (fun e => by have := hX _ e; omega)).trans hl3
        have hd4 := (hk4.block L (by omega) (fun e => by have := hX _ e; omega)).trans hd3
        have hend := run_endRound (P := P) jump hl4
        rw [hto2] at hend
        refine ⟨_, hend, ?_, ?_, World.putObj_heap_same (Array.getElem?_eq_some_iff.1 hl4).1, (World.putObj_heap_other (by omega)).trans hd4⟩
        · exact (But.put A4 _ _).mono fun k e => .inr (by omega)
        · exact (((hk2.mono fun _ => .inl).trans (hk3.mono fun _ => .inr)).trans (hk4.mono fun _ => .inl)).trans ((But.put A4 _ _).mono fun _ => .inr)
      rintro e a4 A4 h4
      cases e with
      | normal =>
        obtain ⟨B, q1, q2, q3, q4, q5⟩ := fin none A4 h4.1
        exact ⟨_, B, q1, .inl ⟨rfl, ⟨hI _ _ _ h4.2 q2, q4, q5⟩, q3⟩⟩
      | ret =>
        obtain ⟨B, q1, q2, _, q4, q5⟩ := fin (some .ret) A4 h4.1
        exact ⟨_, B, q1, .inr ⟨rfl, .ret, hIx _ _ _ _ h4.2 q2, q4, q5⟩⟩
      | exit i =>
        obtain ⟨B, q1, q2, _, q4, q5⟩ := fin (some (.exit i)) A4 h4.1
        exact ⟨_, B, q1, .inr ⟨rfl, .exit i, hIx _ _ _ _ h4.2 q2, q4, q5⟩⟩
      | goto t =>
        obtain ⟨B, q1, q2, _, q4, q5⟩ := fin (some (.goto t)) A4 h4.1
        exact ⟨_, B, q1, .inr ⟨rfl, .goto t, hIx _ _ _ _ h4.2 q2, q4, q5⟩⟩
      | panic c => exact h4.elim
      | outgrown => exact h4.elim
    | ret => exact h2.elim
    | exit i => exact h2.elim
    | goto t => exact h2.elim
    | panic c => exact h2.elim
    | outgrown => exact h2.elim
  · have last : ∀ (p : Option Code) (s : LoopState) (B : World), s ≠ .busy → B.heap[L + 1]? = some (.loop (rec s p)) → B.heap[L]? = some (.deferred (some [])) → w.heap.size ≤ B.heap.size →
        ∃ C, (Instr.endLoop (L + 1)).run P B = .ok p C ∧ But (fun k => k = w.heap.size ∨ k = w.heap.size + 1) B C ∧ C.heap[L]? = some (.deferred (some [])) := by
      intro p s B hs hl hd hsz
      have hend := run_endLoop (P := P) hl (by rw [hst]; exact hs)
      rw [hpe] at hend
      exact ⟨_, hend, (But.put B _ _).mono (fun k e => .inr (by omega)), (World.putObj_heap_other (by omega)).trans hd⟩
    rintro e B ⟨⟨v, rfl⟩, (⟨j, hD, hi, hl, hd⟩ | ⟨j, c, hi, hl, hd⟩)⟩
    · obtain ⟨C, q1, q2, q3⟩ := last none .ready B (by simp) hl hd (by have := (Array.getElem?_eq_some_iff.1 hd).1; omega)
      exact ⟨none, C, q1, hdone L j C hL hD (hI _ _ _ hi q2) q3⟩
    · obtain ⟨C, q1, q2, q3⟩ := last (some c) .done B (by simp) hl hd (by have := (Array.getElem?_eq_some_iff.1 hd).1; omega)
      exact ⟨some c, C, q1, hstop L c j C hL (hIx _ _ _ _ hi q2) q3⟩
attribute [local go_sem] Oper.semAt_some
attribute [local irreducible] Bt.lst
theorem bits_handsK {n : Nat} {w : World} {Bn m : Nat} {X : Nat → Prop} (hn : 1 ≤ n) (hm : m < 4294967296) (hc : w.cell? ⟨Bn, 0, none⟩ = some (.int .u32 (m : Int))) (hBn : Bn < w.heap.size) (hT : Tab w) (x2 : ¬ X 0) :
    HandsK n Tryz.prog 58 #[.pointer (some ⟨Bn, 0, none⟩)] X (fun j vs W => But X w W ∧ j < (Bt.lst m 32).length ∧ vs = #[.int .i64 ((Bt.lst m 32).getD j 0)]) (fun j => j = (Bt.lst m 32).length) w := by
  intro l J Jx W hl hwl hbw hY h0
  have hK : But X w W := But.of hbw
  have hTK : ∀ V, But X w V → Tab V := fun V hV => hT.but hV x2
  have d0 := (hbw.cell (p := ⟨Bn, 0, none⟩) hBn).trans hc
  obtain ⟨L, hL⟩ : ∃ L, L = Bt.lst m 32 := ⟨_, rfl⟩
  simp only [← hL] at hY ⊢
  have HK := Lib.hid hK; clear hK
  have HT := Lib.hid hTK; clear hTK
  have HY := Lib.hid hY; clear hY
  have H0 := Lib.hid h0; clear h0
  have HL := Lib.hid hL; clear hL
  have HLW := Lib.hid hwl; clear hwl
  clear hc hT x2 hl hbw
  refine callsIn_of_wp Tryz.func58 rfl trivial ?_ rfl
  simp only [Tryz.ntmps58, List.size_toArray, List.length_cons, List.length_nil, Nat.reduceAdd, Nat.reduceSub, Array.replicate_succ, Array.replicate_zero, List.push_toArray, List.append_toArray, List.nil_append, List.cons_append]
  gi_wp2_with fail
  gi_loopw [3] (fun p wr => ∃ (j r : Nat), p = .int .u32 r ∧ r < 4294967296 ∧ Hid (∃ pre : List Int, pre.length = j ∧ L = pre ++ Bt.lst r 32) ∧ Hid (But X w wr) ∧ Hid (J j wr))
    (fun p _ => (Bt.lst (intOf p).toNat 32).length)
  case atStart => exact ⟨0, m, rfl, hm, ⟨[], rfl, by rw [List.nil_append, HL.out]⟩, HK.out, H0.out⟩
  case round =>
    obtain ⟨j, r, rfl, hr, hx, hk, hJr⟩ := hrel
    by_cases hz : r = 0
    · subst hz
      have HX : Hid (j = L.length) := by
        obtain ⟨pre, h1, h2⟩ := hx.out
        show _ = _
        rw [h2, Bt.lst_zero, List.append_nil, h1]
      gi_wp2_with fail
      go_end0
      exact ⟨⟨_, rfl⟩, .inl ⟨j, HX.out, hJr.out⟩⟩
    · have hne : ((r : Int) != 0) = true := by simp; omega
      have hst := Bt.lst_step r hz hr
      have htz := tz_any r wr hr hz (HT.out wr hk.out)
      have hw := fun W => without_any r (Lib.ctz 32 r : Int) W hr
      have hwl : Bt.wo r (Bt.one (Lib.ctz 32 r : Int)) < 4294967296 := Bt.wo_lt hr
      obtain ⟨k, hkk⟩ : ∃ k, k = Lib.ctz 32 r := ⟨_, rfl⟩
      rw [← hkk] at hst htz hw hwl
      obtain ⟨s, hs⟩ : ∃ s, s = Bt.wo r (Bt.one (k : Int)) := ⟨_, rfl⟩
      rw [← hs] at hst hw hwl
      have hjl : j < L.length ∧ #[Value.int .i64 (k : Int)] = #[.int .i64 (L.getD j 0)] := by
        obtain ⟨pre, h1, h2⟩ := hx.out
        have h3 : L = pre ++ (k : Int) :: Bt.lst s 32 := by rw [h2, hst]
        have hlt : j < L.length := by rw [h3, List.length_append, List.length_cons]; omega
        have e : L[j] = (k : Int) := by
          have : L[j]? = some (k : Int) := by rw [h3, List.getElem?_append_right (by omega), ← h1, Nat.sub_self]; rfl
          rw [List.getElem?_eq_getElem hlt] at this
          exact Option.some.inj this
        exact ⟨hlt, by rw [List.getD_eq_getElem?_getD, List.getElem?_eq_getElem hlt, e]; rfl⟩
      have HX2 : Hid (∃ pre : List Int, pre.length = j + 1 ∧ L = pre ++ Bt.lst s 32) := by
        obtain ⟨pre, h1, h2⟩ := hx.out
        exact ⟨pre ++ [(k : Int)], by simp [h1], by rw [h2, hst]; simp⟩
      have HST := Lib.hid hst; clear hst
      have HTZ := Lib.hid htz; clear htz
      have HW := Lib.hid hw; clear hw
      clear hkk hs
      obtain ⟨fn, tmps, assign, body, hy, hR⟩ := HY.out j #[.int .i64 (k : Int)] wr hJr.out ⟨hk.out, hjl⟩
      have HR := Lib.hid hR; clear hR
      clear hjl
      gi_wp2_with fail
      refine ⟨trivial, (callsIn_wide.2 HTZ.out).mono ?_⟩
      rintro e w' ⟨rfl, rfl⟩
      gi_wp2_with fail
      refine HR.out.mono ?_
      rintro e W3 (⟨rfl, hJ3, hk3⟩ | ⟨rfl, hJx3⟩)
      · have HJ3 := Lib.hid hJ3; clear hJ3
        have HK3 := Lib.hid (hk.out.more hk3 HLW.out); clear hk3
        gi_wp2_with fail
        refine ⟨trivial, (callsIn_wide.2 (HW.out _)).mono ?_⟩
        rintro e w' ⟨rfl, rfl⟩
        gi_wp2_with fail
        go_roundw
        case rel => exact ⟨j + 1, s, rfl, hwl, HX2.out, HK3.out, HJ3.out⟩
        case measure =>
          show (Bt.lst s 32).length < (Bt.lst r 32).length
          rw [HST.out]
          simp
      · have HJ3 := Lib.hid hJx3; clear hJx3
        gi_wp2_with fail
        refine bodyPost_ret (results_none rfl _ _ _) rfl ?_
        exact ⟨⟨_, rfl⟩, .inr ⟨j + 1, HJ3.out⟩⟩
end Go.Proofs.YtmbdimonfdncpaaGreatDoor
/-
  The parts of entries by their chunks: an array of thirty-two lists, grown entry by entry; With.
-/
namespace Go.Proofs.YtmbdimonfdncpaaGreatDoor
open Go.RowKit
set_option maxHeartbeats 2000000
set_option maxRecDepth 100000
attribute [local irreducible] Bt.lst
theorem with_any (m : Nat) (z : Int) (w : World) (hm : m < 4294967296) :
    Calls Tryz.prog 51 #[.int .u32 m, .int .i64 z] w fun e w' => e = .returned (.int .u32 ((m ||| Bt.one z : Nat) : Int)) ∧ w = w' := by
  have h := Bt.alone_any z w
  have hl := Bt.one_lt z
  obtain ⟨a, ha⟩ : ∃ a, a = Bt.one z := ⟨_, rfl⟩
  rw [← ha] at h hl ⊢
  have H := Lib.hid h; clear h ha
  go_enter Tryz.func51, Tryz.ntmps51
  go_wp2_with fail
  refine H.out.mono ?_
  rintro e w' ⟨rfl, rfl⟩
  go_wp2_with fail
  go_ret
  exact ⟨ret_int (Bt.or32 hm hl), rfl⟩
/-- append of one struct that was laid into a block of its own just ahead, where a region draws its order -/
theorem step_appK {B : Nat} {w : World} {ops : Array Oper} {o : Oper} {a : Act} {K : Act → World → Prop} {Q : Exit → Act → World → Prop} {E : Prop} (t e : TypeId) (z : Value) (size bytes : Nat) (hu : Tryz.prog.underlying t = some (.slice e)) (hinf : (Tryz.prog.info? e).map (fun i => (i.zero, i.size, i.bytes)) = some (some z, size, bytes)) (hz : z.cells.size = size) (hs0 : 0 < size) (hby : bytes ≤ 200)
    (hgd : o.guard = none) (s x : Operand) (ho : o.op = .call { callee := .builtin .append, args := #[s, x], argTypes := #[t, t] }) (v : Value) (n : Nat) (xs : List Value) (h : w.ownsRow B e size v n xs) (news : List Value) (hl : news.length = size) (h1 : ∀ u ∈ news, u.oneCell' = true)
    (hs : a.eval s = v) (hx : a.eval x = .slice (some ⟨w.heap.size, 0, none⟩) 1 1) (hn : n ≤ 9000) (hB : B ≤ w.heap.size)
    (hK : ∀ v' w', w'.ownsRow B e size v' (n + 1) (xs ++ news) → w.grownBy w' v.ownBlock → (v'.ownBlock = v.ownBlock ∨ ∃ b, v'.ownBlock = some b ∧ w.heap.size ≤ b) → K (a.put o.dst v') w') :
    if Region.wanted o (yielded ops a.tmps) = true then Oper.wp Tryz.prog o a (w.alloc (.cells news.toArray e)) K Q else E := by
  have hw : Region.wanted o (yielded ops a.tmps) = true := by simp [Region.wanted, hgd]
  rw [if_pos hw]
  obtain ⟨i0, hi, hz0, hz1, hz2⟩ := info_parts hinf
  have hnew : (w.alloc (.cells news.toArray e)).heap[w.heap.size]? = some (.cells news.toArray e (0, 0)) := heap_alloc_new w _
  obtain ⟨v', w', hr, hown, hg, _, hob⟩ := run_append_own_at (P := Tryz.prog) (w := w.alloc (.cells news.toArray e)) B t o.type e i0 z size bytes hu hi hz0 hz1 hz2 hz hs0 v n xs (World.ownsRow.alloc h _) ⟨w.heap.size, 0, none⟩ 1 1 news (by rw [hl, Nat.one_mul])
    (by
      intro j u hj
      rw [Go.WideShapes.add_plain, Nat.zero_add, cell_of_row _ w.heap.size j _ e (0, 0) hnew, ← hj]
      simp) h1
    (by unfold maxLen; omega) (by have := Nat.mul_le_mul (show n + 1 ≤ 9001 by omega) hby; omega) (by simp; omega)
  have hg2 : w.grownBy w' v.ownBlock := grown_then (World.grownBy_alloc w _ none) hg
  unfold Oper.wp execOp
  simp only [ho, resolve, invoke, builtin, Sem.run_bind, Sem.run_pure, Result.andThen_ok, List.map_toArray, List.map_cons, List.map_nil, hs, hx, hr]
  refine hK v' w' hown hg2 ?_
  rcases hob with h | h
  · exact .inl h
  · exact .inr ⟨_, h, by simp⟩
theorem getD_at {cur : Array Value} {c : Nat} (h : c < cur.size) : cur[c]? = some (cur.getD c undef) := by
  rw [Array.getD_eq_getD_getElem?, Array.getElem?_eq_getElem h]
  rfl
end Go.Proofs.YtmbdimonfdncpaaGreatDoor
/-
  A region that draws its order, in a round of a range over a function: its head may make memory, its tail has one order: what holds of the memory, by what has been done so far, and what each operation yielded; the tail walked once.
-/
namespace Go.Proofs.YtmbdimonfdncpaaGreatDoor
open Go.RowKit
section
variable {P : Program} {ops : Array Oper} {n : Nat} {a0 : Act} {I : Array Bool → World → Prop} {G : Nat → Value → World → Prop}
def dstOf (ops : Array Oper) (i : Nat) : Option Tmp := (ops[i]?).bind (·.dst)
/-- what the head's operations have yielded so far -/
structure Agree (ops : Array Oper) (n : Nat) (a0 : Act) (I : Array Bool → World → Prop) (G : Nat → Value → World → Prop) (listed : Array Bool) (a : Act) (w : World) : Prop where
  defers : a.defers = a0.defers
  size : a.tmps.size = a0.tmps.size
  inv : I listed w
  old : ∀ t : Nat, (∀ i, i < n → listed.getD i false = true → dstOf ops i ≠ some t) → a.tmps[t]? = a0.tmps[t]?
  new : ∀ i, i < n → listed.getD i false = true → ∃ t v, dstOf ops i = some t ∧ a.tmps[t]? = some v ∧ G i v w
theorem Agree.step (hd : ∀ i j, i < n → j < n → i ≠ j → dstOf ops i ≠ dstOf ops j) {listed : Array Bool} {a : Act} {w w' : World} (h : Agree ops n a0 I G listed a w) {i : Nat} (hi : i < n) (hl : i < listed.size)
    {t : Tmp} (ht : dstOf ops i = some t) (hts : t < a0.tmps.size) {v : Value} (hI : I (listed.setIfInBounds i true) w') (hg : G i v w') (hst : ∀ j v', j < n → j ≠ i → listed.getD j false = true → G j v' w → G j v' w') :
    Agree ops n a0 I G (listed.setIfInBounds i true) (a.put (dstOf ops i) v) w' := by
  rw [ht]
  have hself : (a.tmps.setIfInBounds t v)[t]? = some v := by rw [Array.getElem?_setIfInBounds_self_of_lt (by rw [h.size]; exact hts)]
  have hother : ∀ t', t ≠ t' → (a.tmps.setIfInBounds t v)[t']? = a.tmps[t']? := fun t' hne => Array.getElem?_setIfInBounds_ne hne
  have hne : ∀ j, j < n → j ≠ i → ∀ t', dstOf ops j = some t' → t ≠ t' := fun j hj hji t' ht' e => hd i j hi hj (Ne.symm hji) (by rw [ht, ht', e])
  have hlj : ∀ j, j ≠ i → (listed.setIfInBounds i true).getD j false = true → listed.getD j false = true := fun j hji hj => by rw [getD_set_ne false (Ne.symm hji)] at hj; exact hj
  refine ⟨h.defers, ?_, hI, ?_, ?_⟩
  · show (a.tmps.setIfInBounds t v).size = _
    rw [Array.size_setIfInBounds]; exact h.size
  · intro t' ht'
    show (a.tmps.setIfInBounds t v)[t']? = _
    have h1 : t ≠ t' := fun e => ht' i hi (by simp [Array.getD, hl]) (by rw [ht, e])
    rw [hother t' h1]
    exact h.old t' fun j hj hlj => ht' j hj (getD_set_true hlj)
  · intro j hj hjl
    by_cases hji : j = i
    · subst hji
      exact ⟨t, v, ht, hself, hg⟩
    · obtain ⟨t', v', e1, e2, e3⟩ := h.new j hj (hlj j hji hjl)
      exact ⟨t', v', e1, (hother t' (hne j hj hji t' e1)).trans e2, hst _ _ hj hji (hlj j hji hjl) e3⟩
/-- how many of the first n are not listed -/
def cnt (listed : Array Bool) : Nat → Nat
  | 0 => 0
  | k + 1 => cnt listed k + if listed.getD k false = true then 0 else 1
theorem cnt_far {listed : Array Bool} {i : Nat} : ∀ k, k ≤ i → cnt (listed.setIfInBounds i true) k = cnt listed k
  | 0, _ => rfl
  | k + 1, h => by rw [cnt, cnt, cnt_far k (by omega), getD_set_ne false (by omega)]
theorem cnt_set {listed : Array Bool} {i : Nat} (hs : i < listed.size) (hl : listed.getD i false = false) : ∀ k, i < k → cnt listed k = cnt (listed.setIfInBounds i true) k + 1
  | k + 1, h => by
    rw [cnt, cnt]
    by_cases e : k = i
    · subst e
      have h2 : (listed.setIfInBounds k true).getD k false = true := by simp [Array.getD, hs]
      rw [cnt_far k (Nat.le_refl _), hl, h2]
      simp
    · rw [getD_set_ne false (Ne.symm e), cnt_set hs hl k (by omega)]
      omega
theorem cnt_zero {listed : Array Bool} : ∀ k, cnt listed k = 0 → ∀ i, i < k → listed.getD i false = true
  | k + 1, h, i, hi => by
    rw [cnt] at h
    by_cases e : i = k
    · subst e
      by_cases hh : listed.getD i false = true
      · exact hh
      · rw [if_neg hh] at h; omega
    · exact cnt_zero k (by omega) i (by omega)
theorem cnt_least {listed : Array Bool} : ∀ k, cnt listed k ≠ 0 → ∃ i, i < k ∧ listed.getD i false = false ∧ ∀ j, j < i → listed.getD j false = true
  | 0, h => absurd rfl h
  | k + 1, h => by
    by_cases h0 : cnt listed k = 0
    · rw [cnt, h0] at h
      refine ⟨k, Nat.lt_succ_self k, ?_, cnt_zero k h0⟩
      cases hh : listed.getD k false with
      | true => rw [hh] at h; simp at h
      | false => rfl
    · obtain ⟨i, hi, h1, h2⟩ := cnt_least k h0
      exact ⟨i, by omega, h1, h2⟩
/-- the head's operations wait for earlier ones alone -/
def backB (ops : Array Oper) (n : Nat) : Bool := (List.range n).all fun i => ((ops[i]?).map fun o => o.after.all fun e => !Region.binds .any e || decide (e.on < i)).getD false
def dstB (ops : Array Oper) (n : Nat) : Bool := (List.range n).all fun i => (List.range n).all fun j => decide (i = j) || !decide (dstOf ops i = dstOf ops j)
def fullL (n m : Nat) : Array Bool := (List.replicate n true ++ List.replicate m false).toArray
theorem fullL_eq {listed : Array Bool} {n m : Nat} (hs : listed.size = n + m) (h1 : ∀ i, i < n → listed.getD i false = true) (h2 : ∀ t, n ≤ t → t < n + m → listed.getD t true = false) : listed = fullL n m := by
  apply Array.ext
  · simp [fullL, hs]
  · intro i hi hi2
    rcases Nat.lt_or_ge i n with h | h
    · have := h1 i h
      rw [Array.getD, dif_pos hi] at this
      simp only [fullL, List.getElem_toArray, List.getElem_append_left (show i < (List.replicate n true).length by simpa using h), List.getElem_replicate]
      exact this
    · have := h2 i h (by omega)
      rw [Array.getD, dif_pos hi] at this
      simp only [fullL, List.getElem_toArray, List.getElem_append_right (show (List.replicate n true).length ≤ i by simpa using h), List.getElem_replicate]
      exact this
def growB (ops : Array Oper) (n : Nat) : Bool :=
  decide (n < ops.size) && Region.sinkB .any ops n && Region.chainB .any ops n && backB ops n && dstB ops n && Region.seqB .any ops (ops.size - n) n (fullL n (ops.size - n))
theorem wpAnyIn_of_seq {F : Fence} {d : Nat} {md : Region.Mode} {Q' : Exit → Act → World → Prop} : ∀ (l : List Oper) (k : Nat) (listed : Array Bool) (a : Act) (w : World), (∀ j, l[j]? = ops[k + j]?) →
    Region.seqB md ops l.length k listed = true → wpListIn F d P ops Q' l a w → wpAnyIn F d P md ops Q' l.length listed a w
  | [], _, _, _, _, _, hB, h => ⟨by simpa [Region.seqB] using hB, h⟩
  | o :: l, k, listed, a, w, hl, hB, h => by
    have h0 : ops[k]? = some o := by simpa using (hl 0).symm
    simp only [List.length_cons, Region.seqB, Bool.and_eq_true, decide_eq_true_eq] at hB
    refine ⟨fun h1 => (by rw [hB.1] at h1; cases h1), fun i hi => ?_⟩
    rw [hB.1] at hi
    have hik : i = k := by simpa using hi
    subst hik
    have hw : wpOpIn F d P ops Q' i (wpListIn F d P ops Q' l) a w := by unfold wpOpIn; simp only [h0]; exact h
    exact wpOpIn_mono (fun a' w' h' => wpAnyIn_of_seq l (i + 1) _ a' w' (fun j => by have := hl (j + 1); simpa [Nat.add_assoc, Nat.add_comm 1 j] using this) hB.2 h') hw
theorem wpIn_region_mix {F : Fence} {d : Nat} {id : Nat} {Q : Exit → Act → World → Prop} {w : World} {l : List Oper} (n : Nat) (hm : P.follows .mixedOrders = true) (hB : growB l.toArray n = true) (I : Array Bool → World → Prop) (G : Nat → Value → World → Prop)
    (h0 : I (Array.replicate l.toArray.size false) w.drew)
    (hin : ∀ i, i < n → ∃ t, dstOf l.toArray i = some t ∧ t < a0.tmps.size)
    (hstep : ∀ i, i < n → ∀ listed a w', i < listed.size → Agree l.toArray n a0 I G listed a w' → (∀ j, (∃ o, l.toArray[i]? = some o ∧ ∃ e ∈ o.after, Region.binds .any e = true ∧ e.on = j) → listed.getD j false = true) → listed.getD i false = false →
      wpOpIn F d P l.toArray Q i (fun a' w'' => ∃ v, a' = a.put (dstOf l.toArray i) v ∧ I (listed.setIfInBounds i true) w'' ∧ G i v w'' ∧ ∀ j v', j < n → j ≠ i → listed.getD j false = true → G j v' w' → G j v' w'') a w')
    (htail : ∀ listed a w', (∀ i, i < n → listed.getD i false = true) → Agree l.toArray n a0 I G listed a w' → wpListIn F d P l.toArray Q (l.drop n) a w') :
    (Code.region id l.toArray true).wpIn F d P Q a0 w := by
  simp only [growB, Bool.and_eq_true, decide_eq_true_eq] at hB
  obtain ⟨⟨⟨⟨⟨hn, hs⟩, hc⟩, hbk⟩, hdb⟩, hseq⟩ := hB
  have hd : ∀ i j, i < n → j < n → i ≠ j → dstOf l.toArray i ≠ dstOf l.toArray j := by
    intro i j hi hj hij e
    have h1 := List.all_eq_true.1 (List.all_eq_true.1 hdb i (List.mem_range.2 hi)) j (List.mem_range.2 hj)
    simp [hij, e] at h1
  refine wpIn_region_any hm ?_
  have main : ∀ f listed a w', cnt listed n = f → HeadInv .any l.toArray n listed → Agree l.toArray n a0 I G listed a w' → wpAnyIn F d P .any l.toArray Q (f + (l.toArray.size - n)) listed a w' := by
    intro f
    induction f with
    | zero =>
      intro listed a w' hcn inv hag
      have hall := cnt_zero n hcn
      have hfull : listed = fullL n (l.toArray.size - n) := fullL_eq (by rw [inv.size]; omega) hall (fun t h1 h2 => inv.tail t h1 (by omega))
      have hdl : (l.drop n).length = l.toArray.size - n := by simp
      rw [Nat.zero_add, ← hdl]
      exact wpAnyIn_of_seq (l.drop n) n listed a w' (fun j => by simp [List.getElem?_drop]) (by rw [hdl, hfull]; exact hseq) (htail listed a w' hall hag)
    | succ f ih =>
      intro listed a w' hcn inv hag
      obtain ⟨k, hk, hku, hkl⟩ := cnt_least n (by rw [hcn]; exact Nat.succ_ne_zero f)
      have hks : k < listed.size := by rw [inv.size]; omega
      have hkr : k ∈ Region.ready .any l.toArray listed := by
        rw [mem_ready]
        refine ⟨getD_in hks hku, ?_⟩
        have hb := List.all_eq_true.1 hbk k (List.mem_range.2 hk)
        cases ho : l.toArray[k]? with
        | none => rw [ho] at hb; simp at hb
        | some o =>
          rw [ho] at hb
          refine ⟨o, rfl, fun e he hbd => ?_⟩
          simp only [Option.map_some, Option.getD_some] at hb
          have h2 := Array.all_eq_true'.1 hb e he
          rw [hbd] at h2
          simp at h2
          exact hkl e.on h2
      rw [show f + 1 + (l.toArray.size - n) = (f + (l.toArray.size - n)) + 1 by omega]
      refine ⟨fun h0 => (by rw [h0] at hkr; cases hkr), fun i hi => ?_⟩
      have hin2 : i < n := by
        rcases Nat.lt_or_ge i n with h | h
        · exact h
        · exact absurd hi (tail_waits hs hc hn inv _ k rfl hk (getD_in hks hku) i h)
      obtain ⟨hiu, o, ho, hall⟩ := mem_ready.1 hi
      have his : i < listed.size := by rw [inv.size]; omega
      obtain ⟨t, ht, hts⟩ := hin i hin2
      refine wpOpIn_mono (fun a' w'' hh => ?_) (hstep i hin2 listed a w' his hag (by
        rintro j ⟨o', ho', e, he, hb, rfl⟩
        obtain rfl : o = o' := Option.some.inj (ho.symm.trans ho')
        exact hall e he hb) (getD_both hiu))
      obtain ⟨v, rfl, hI, hg, hD⟩ := hh
      refine ih _ _ _ ?_ (inv.set hi hin2) (hag.step hd hin2 his ht hts hI hg hD)
      have := cnt_set his (getD_both hiu) n hin2
      omega
  have inv0 : HeadInv .any l.toArray n (Array.replicate l.toArray.size false) :=
    ⟨by simp, fun j oj _ hl => (by rw [getD_replicate_false] at hl; cases hl), fun t _ ht => getD_in (by simpa using ht) (getD_replicate_false _ _)⟩
  have hc0 : ∀ k, k ≤ l.toArray.size → cnt (Array.replicate l.toArray.size false) k = k := by
    intro k
    induction k with
    | zero => intro _; rfl
    | succ k ih => intro h; rw [cnt, ih (by omega), getD_replicate_false]; simp
  have h := main n (Array.replicate l.toArray.size false) a0 w.drew (hc0 n (Nat.le_of_lt hn)) inv0
    ⟨rfl, rfl, h0, fun _ _ => rfl, fun i _ hl => (by rw [getD_replicate_false] at hl; cases hl)⟩
  rw [show n + (l.toArray.size - n) = l.toArray.size by omega] at h
  exact h
/-- an array that is known at some places, and elsewhere as another one -/
theorem set_all : ∀ (ps : List (Nat × Value)) (x y : Array Value), y.size = x.size → (∀ p ∈ ps, y[p.1]? = some p.2) → (∀ t, (∀ p ∈ ps, p.1 ≠ t) → y[t]? = x[t]?) → y = ps.foldl (fun z p => z.setIfInBounds p.1 p.2) x
  | [], x, y, _, _, h => by
    apply Array.ext_getElem?
    intro t
    exact h t fun p hp => by cases hp
  | p :: ps, x, y, hs, h1, h2 => by
    refine set_all ps (x.setIfInBounds p.1 p.2) y (by simpa using hs) (fun q hq => h1 q (by simp [hq])) fun t ht => ?_
    by_cases e : p.1 = t
    · subst e
      have hy := h1 p (by simp)
      have hlt : p.1 < x.size := by rw [← hs]; exact (Array.getElem?_eq_some_iff.1 hy).1
      rw [hy, Array.getElem?_setIfInBounds_self_of_lt hlt]
    · rw [Array.getElem?_setIfInBounds_ne e]
      exact h2 t fun q hq => by
        rcases List.mem_cons.1 hq with rfl | hq
        · exact e
        · exact ht q hq
end
theorem wpOpIn_of {F : Fence} {d : Nat} {P : Program} {ops : Array Oper} {Q : Exit → Act → World → Prop} {i : Nat} {K : Act → World → Prop} {a : Act} {w : World} (o : Oper) (ho : ops[i]? = some o) (hg : o.guard = none) (h : o.wpIn F d P a w K Q) : wpOpIn F d P ops Q i K a w := by
  unfold wpOpIn
  have hw : Region.wanted o (yielded ops a.tmps) = true := by simp [Region.wanted, hg]
  simp only [ho, hw, if_true]
  exact h
theorem eval_tmp {a : Act} {t : Tmp} {v : Value} (h : a.tmps[t]? = some v) : a.eval (.tmp t) = v := by
  simp [Act.eval, Array.getD_eq_getD_getElem?, h]
def noDstB (ops : Array Oper) (n t : Nat) : Bool := (List.range n).all fun i => !decide (dstOf ops i = some t)
theorem Agree.keeps {ops : Array Oper} {n : Nat} {a0 : Act} {I : Array Bool → World → Prop} {G : Nat → Value → World → Prop} {listed : Array Bool} {a : Act} {w : World} (h : Agree ops n a0 I G listed a w) (t : Nat) (v : Value) (hno : noDstB ops n t = true) (hv : a0.tmps[t]? = some v) : a.tmps[t]? = some v := by
  refine (h.old t fun i hi _ e => ?_).trans hv
  have := List.all_eq_true.1 hno i (List.mem_range.2 hi)
  simp [e] at this
theorem Agree.slot {ops : Array Oper} {n : Nat} {a0 : Act} {I : Array Bool → World → Prop} {G : Nat → Value → World → Prop} {listed : Array Bool} {a : Act} {w : World} (h : Agree ops n a0 I G listed a w) (i t : Nat) (hi : i < n) (hl : listed.getD i false = true) (ht : dstOf ops i = some t) : ∃ v, a.tmps[t]? = some v ∧ G i v w := by
  obtain ⟨t', v, e1, e2, e3⟩ := h.new i hi hl
  obtain rfl : t = t' := Option.some.inj (ht.symm.trans e1)
  exact ⟨v, e2, e3⟩
theorem Agree.whole {ops : Array Oper} {n : Nat} {a0 : Act} {I : Array Bool → World → Prop} {G : Nat → Value → World → Prop} {listed : Array Bool} {a : Act} {w : World} (h : Agree ops n a0 I G listed a w) (ps : List (Nat × Value))
    (hts : ∀ i, i < n → ∃ t, dstOf ops i = some t ∧ t ∈ ps.map (·.1)) (hv : ∀ p ∈ ps, a.tmps[p.1]? = some p.2) : a = ⟨ps.foldl (fun z p => z.setIfInBounds p.1 p.2) a0.tmps, a0.defers⟩ := by
  have e := set_all ps a0.tmps a.tmps h.size hv fun t ht => h.old t fun i hi _ e => by
    obtain ⟨t', e', hm⟩ := hts i hi
    obtain rfl : t' = t := Option.some.inj (e'.symm.trans e)
    obtain ⟨q, hq, he⟩ := List.mem_map.1 hm
    exact ht q hq he
  have d := h.defers
  cases a
  simp only at e d
  rw [e, d]
end Go.Proofs.YtmbdimonfdncpaaGreatDoor
/-
  Contracts of branched and laid: the layout of entries, by induction on the level.
-/
namespace Go.Proofs.YtmbdimonfdncpaaGreatDoor
open Go.RowKit Go.Shelf
set_option maxHeartbeats 4000000
set_option maxRecDepth 100000
attribute [local go_sem] Oper.semAt_some
attribute [local irreducible] Bt.lst
theorem wp_nofail {P : Program} {s : Code} {K : Act → World → Prop} {Q' : Exit → Act → World → Prop} {a : Act} {w : World} (h : s.wp P (Exit.then K (fun _ _ _ => False)) a w) : s.wp P (Exit.then K Q') a w := by
  refine wp_mono h ?_
  intro e a' w' hq
  cases e with
  | normal => exact hq
  | exit id => exact hq.elim
  | goto l => exact hq.elim
  | ret => exact hq.elim
  | panic ch => exact hq.elim
  | outgrown => exact hq.elim
theorem mask_snoc (lv : Nat) (L : List En) (e : En) : mask lv (L ++ [e]) = mask lv L ||| Bt.one ((ch e.1 lv : Nat) : Int) := by
  rw [mask, chs, List.map_append, List.map_cons, List.map_nil, Bt.ofL_snoc]
  rfl
/-- where the children made so far may lie: in blocks made from N on, but the one of their own row -/
def Kd (F : Nat → Prop) (N : Nat) (vk : Value) (b : Nat) : Prop := F b ∧ N ≤ b ∧ vk.ownBlock ≠ some b
/-- the children made so far: their variable in block KB, their row, themselves -/
structure Kds (F : Nat → Prop) (N KB : Nat) (kid : Nat → Nd) (j : Nat) (W : World) (vk : Value) (vs : List Value) : Prop where
  box : Boxed W KB 102 vk
  row : W.ownsRow N 34 1 vk j vs
  kids : ∀ i, i < j → ∃ v, vs[i]? = some v ∧ Nde (Kd F N vk) W (kid i) v
theorem Kds.len {F : Nat → Prop} {N KB : Nat} {kid : Nat → Nd} {j : Nat} {W : World} {vk : Value} {vs : List Value} (h : Kds F N KB kid j W vk vs) : vs.length = j := by
  have := h.row.1
  omega
theorem Kds.start (F : Nat → Prop) (N KB : Nat) (kid : Nat → Nd) (W : World) (h : Boxed W KB 102 (.slice none 0 0)) : Kds F N KB kid 0 W (.slice none 0 0) [] := ⟨h, World.ownsRow_nil _ _ _ _, fun i hi => absurd hi (Nat.not_lt_zero i)⟩
theorem Kds.but {F : Nat → Prop} {N KB : Nat} {kid : Nat → Nd} {j : Nat} {W W' : World} {vk : Value} {vs : List Value} {X : Nat → Prop} (h : Kds F N KB kid j W vk vs) (hk : KB < W.heap.size) (hb : But X W W') (hX : ∀ k, X k → k < N ∧ k ≠ KB) : Kds F N KB kid j W' vk vs where
  box := (hb.block KB hk fun e => (hX KB e).2 rfl).trans h.box
  row := own_kept h.row fun g hg => hb.block g (own_lt h.row hg).2.1 fun e => by
    have h1 := (hX g e).1
    have h2 := (own_lt h.row hg).1
    omega
  kids := fun i hi => by
    obtain ⟨v, h1, h2⟩ := h.kids i hi
    exact ⟨v, h1, h2.kept fun b hF hl => hb.block b hl fun e => by
      have h3 := (hX b e).1
      have h4 := hF.2.1
      omega⟩
/-- a child more: it was made from W on, the row grew from W1 to W2, the variable was set -/
theorem Kds.add {F : Nat → Prop} {N KB : Nat} {kid : Nat → Nd} {j : Nat} {W W1 W2 : World} {vk vk' nv : Value} {vs : List Value} (h : Kds F N KB kid j W vk vs) (hN : KB < N) (hk : KB < W.heap.size) (h1 : Below W.heap.size W W1) (hn : Nde (Kd F N vk) W1 (kid j) nv) (hown : W2.ownsRow N 34 1 vk' (j + 1) (vs ++ [nv])) (hg : W1.grownBy W2 vk.ownBlock) (hloc : vk'.ownBlock = vk.ownBlock ∨ ∃ b, vk'.ownBlock = some b ∧ W1.heap.size ≤ b) :
    (W2.cell? ⟨KB, 0, none⟩ = some vk ∧ W2.frozen? ⟨KB, 0, none⟩ = false) ∧ Kds F N KB kid (j + 1) (W2.setCell ⟨KB, 0, none⟩ vk') vk' (vs ++ [nv]) ∧ But (fun k => k = KB ∨ N ≤ k) W (W2.setCell ⟨KB, 0, none⟩ vk') := by
  have b1 : Boxed W1 KB 102 vk := (h1.block KB hk).trans h.box
  have hown1 : ∀ g, vk.ownBlock = some g → N ≤ g ∧ g < W.heap.size := fun g hg => ⟨(own_lt h.row hg).1, (own_lt h.row hg).2.1⟩
  have b2 : Boxed W2 KB 102 vk := (hg.block KB b1.lt fun e => by have := hown1 KB e.symm; omega).trans b1
  have hset : ∀ k, k ≠ KB → (W2.setCell ⟨KB, 0, none⟩ vk').heap[k]? = W2.heap[k]? := fun k hk => Below.heap_setCell W2 ⟨KB, 0, none⟩ vk' k hk
  have keepN : ∀ {x : Nd} {v : Value}, Nde (Kd F N vk) W1 x v → Nde (Kd F N vk') (W2.setCell ⟨KB, 0, none⟩ vk') x v := fun {x v} hx => by
    have e2 : Nde (fun b => Kd F N vk b ∧ Kd F N vk' b) W1 x v := hx.mono fun b hl hF => ⟨hF, hF.1, hF.2.1, fun e => by
      rcases hloc with hl2 | ⟨b', hb', hle⟩
      · rw [hl2] at e
        exact hF.2.2 e
      · rw [hb'] at e
        injection e with e
        omega⟩
    have e3 : Nde (fun b => Kd F N vk b ∧ Kd F N vk' b) (W2.setCell ⟨KB, 0, none⟩ vk') x v := e2.kept fun b hF hl => (hset b (by have := hF.1.2.1; omega)).trans (hg.block b hl fun e => hF.1.2.2 e.symm)
    exact e3.mono fun b _ hF => hF.2
  have hvl : vs.length = j := h.len
  refine ⟨⟨b2.cell, b2.frozen⟩, ⟨b2.set vk', own_kept hown fun g hgg => hset g fun e => by have := (own_lt hown hgg).1; omega, fun i hi => ?_⟩, ?_⟩
  · rcases Nat.eq_or_lt_of_le (Nat.lt_succ_iff.1 hi) with rfl | hi
    · refine ⟨nv, ?_, keepN hn⟩
      rw [List.getElem?_append_right (by omega), hvl, Nat.sub_self]
      rfl
    · obtain ⟨v, k1, k2⟩ := h.kids i hi
      exact ⟨v, by rw [List.getElem?_append_left (by omega)]; exact k1, keepN (k2.below h1)⟩
  · have k1 : But (fun k => k = KB ∨ N ≤ k) W1 W2 := ⟨hg.os, hg.tape, hg.output, hg.size, fun i hi hx => hg.block i hi fun e => hx (.inr (hown1 i e.symm).1)⟩
    exact ((But.of h1).trans k1).trans ((But.set W2 KB 0 vk').mono fun k e => .inl e)
theorem listIn_app {l d : Nat} {P : Program} {ops : Array Oper} {Q : Exit → Act → World → Prop} {rest : List Oper} {a : Act} {w w' : World} {t : TypeId} {s x : Operand} {v y v' : Value} (o : Oper) (hg : o.guard = none) (ho : o.op = .call { callee := .builtin .append, args := #[s, x], argTypes := #[t, t] })
    (hs : a.eval s = v) (hx : a.eval x = y) (hr : (Builtin.append_ #[t, t] o.type #[v, y]).run P w = .ok v' w') (hk : wpListIn (Fence.wide.inRound l) d P ops Q rest (a.put o.dst v') w') : wpListIn (Fence.wide.inRound l) d P ops Q (o :: rest) a w := by
  refine wpListIn_plain hg fun K hK => ⟨fun _ _ => trivial, ?_⟩
  rw [Oper.semAt_eq _ _ _ (fun c h => by rw [ho] at h; cases h)]
  unfold execOp
  simp only [ho, resolve, invoke, builtin, Sem.run_bind, Sem.run_pure, Result.andThen_ok, List.map_toArray, List.map_cons, List.map_nil, hs, hx, hr]
  exact hK _ _ hk
/-- what the operations of a child's making yield -/
def KG (F : Nat → Prop) (N B1 cN lv : Nat) (vk vp : Value) (x : Nd) : Nat → Value → World → Prop
  | 0, v, _ => v = vk
  | 1, v, _ => v = .int .i64 (cN : Int)
  | 2, v, _ => v = .pointer (some ⟨B1, cN, none⟩)
  | 3, v, _ => v = vp
  | 4, v, _ => v = .int .i64 (lv : Int)
  | 5, v, _ => v = .int .i64 ((lv : Int) + 1)
  | 6, v, W => Nde (Kd F N vk) W x v
  | 7, v, W => ∃ g nv, v = .slice (some ⟨g, 0, none⟩) 1 1 ∧ W.heap[g]? = some (.cells #[nv] 34 (0, 0)) ∧ Nde (Kd F N vk) W x nv
  | _, _, _ => True
theorem KG.below {F : Nat → Prop} {N B1 cN lv : Nat} {vk vp : Value} {x : Nd} {i : Nat} {v : Value} {W W' : World} (h : KG F N B1 cN lv vk vp x i v W) (hb : Below W.heap.size W W') : KG F N B1 cN lv vk vp x i v W' := by
  unfold KG at h ⊢
  split at h
  · exact h
  · exact h
  · exact h
  · exact h
  · exact h
  · exact h
  · exact Nde.below h hb
  · obtain ⟨g, nv, e, h1, h2⟩ := h
    exact ⟨g, nv, e, (hb.block g (Array.getElem?_eq_some_iff.1 h1).1).trans h1, h2.below hb⟩
  · trivial
theorem leaf_alone (L : List En) (h : L.length = 1) : ∃ e, L = [e] := List.length_eq_one_iff.1 h
end Go.Proofs.YtmbdimonfdncpaaGreatDoor
