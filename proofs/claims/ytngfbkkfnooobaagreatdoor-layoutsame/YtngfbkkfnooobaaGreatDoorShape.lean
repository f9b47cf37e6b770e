/-
  A range over a function that hands on spots, each round of which goes on; contract of Shape.
-/
import Derived.Test.YtngfbkkfnooobaaGreatDoorDown
namespace Go.Proofs.YtngfbkkfnooobaaGreatDoor
open Go.RowKit Go.Shelf
set_option maxHeartbeats 4000000
set_option maxRecDepth 100000
attribute [local go_sem] Oper.semAt_some
/-- what a round leaves that goes on -/
def leaveO (I : Nat → World → Prop) (O : World → Nat → Prop) (X : Nat → Prop) (j : Nat) (W : World) (e : Exit) (_ : Act) (W' : World) : Prop :=
  e = .normal ∧ But (fun k => X k ∨ O W k) W W' ∧ I (j + 1) W' ∧ ∀ k, O W' k → O W k ∨ W.heap.size ≤ k
theorem wp_rangeO {n : Nat} {g : Operand} {ps : Array Tmp} {assign body : Code} {Q : Exit → Act → World → Prop} {a : Act} {w : World} {gf : Nat} {lb : Array Value}
    (hg : a.eval g = .func (.func gf) #[] lb) (eg : ∀ args w, (callFunc gf args).run Tryz.prog w = .ok (.enter gf args) w)
    (I : Nat → World → Prop) (O : World → Nat → Prop) (X : Nat → Prop) (D : Nat → Prop) (sp : Nat → Sp) (T B0 : Nat) (hB : 0 < B0) (hBw : B0 ≤ w.heap.size) (hX : ∀ k, X k → B0 ≤ k ∧ k < w.heap.size)
    (hO : ∀ j A k, I j A → O A k → B0 ≤ k ∧ k < A.heap.size ∧ k ≠ w.heap.size ∧ k ≠ w.heap.size + 1)
    (hI : ∀ j A B (Z : Nat → Prop), I j A → But Z A B → (∀ k, Z k → w.heap.size ≤ k ∧ ¬ O A k) → I j B ∧ ∀ k, O B k → O A k) (h0 : I 0 w)
    (hseq : ∀ J : Nat → World → Prop, Ylds (w.heap.size + 1) B0 X O J sp T → ∀ W, Below w.heap.size w W → J 0 W → CallsIn Fence.wide (n - 1) Tryz.prog gf (#[.func (.yield (w.heap.size + 1)) #[] #[]] ++ lb) W fun e B => (∃ v, e = .returned v) ∧ ∃ j, D j ∧ J j B)
    (hround : ∀ j W, j < T → I j W → w.heap.size + 1 < W.heap.size → (#[(sp j).agg] : Array Value).size = ps.size ∧ ∀ K : Act → World → Prop,
      (∀ a1 W1, Below W.heap.size W W1 → (∀ W2, But (fun k => k = w.heap.size + 1) W1 W2 → I j W2 → body.wpIn (Fence.wide.inRound (w.heap.size + 1)) (n - 1 - 1) Tryz.prog (leaveO I O X j W2) a1 W2) → K a1 W1) →
      assign.wpIn (Fence.wide.inRound (w.heap.size + 1)) (n - 1 - 1) Tryz.prog (Exit.then K (fun _ _ _ => False)) { tmps := (ps.zip #[(sp j).agg]).foldl (fun t (p, v) => t.setIfInBounds p v) a.tmps, defers := [] } W)
    (hdone : ∀ d j W, d = w.heap.size → D j → I j W → W.heap[d]? = some (.deferred (some [])) → Q .normal { a with defers := { target := .collected d, args := #[] } :: a.defers } W)
    (h1 : 1 ≤ n := by omega) :
    (Code.rangeFunc g ps assign body).wpIn Fence.wide n Tryz.prog Q a w := by
  refine wpIn_rangeFunc fun fn hfn => ?_
  obtain ⟨L, hL⟩ : ∃ L, L = w.heap.size := ⟨_, rfl⟩
  obtain ⟨rec, hrec⟩ : ∃ rec : LoopState → Option Code → Loop, rec = fun s p => ⟨s, p, fn, a.tmps, ps, assign, body, L⟩ := ⟨_, rfl⟩
  have hpar : ∀ s p, (rec s p).params = ps := fun s p => by rw [hrec]
  have hst : ∀ s p, (rec s p).state = s := fun s p => by rw [hrec]
  have hpe : ∀ s p, (rec s p).pending = p := fun s p => by rw [hrec]
  have hto : ∀ s p s', { rec s p with state := s' } = rec s' p := fun s p s' => by rw [hrec]
  have hto2 : ∀ s p s' p', { rec s p with state := s', pending := p' } = rec s' p' := fun s p s' p' => by rw [hrec]
  obtain ⟨W1, hW1⟩ : ∃ W1, W1 = (w.alloc (.deferred (some []))).alloc (.loop (rec .ready none)) := ⟨_, rfl⟩
  have hent : (Instr.enterLoop fn a.tmps ps assign body none).run Tryz.prog w = .ok (L + 1, [{ target := .collected L, args := #[] }]) W1 := by
    rw [hW1, hrec, hL]
    exact run_enterLoop_outer _ _ _ _ _
  have hsz : W1.heap.size = L + 1 + 1 := by rw [hW1, hL]; simp
  have hbw : Below w.heap.size w W1 := by rw [hW1]; exact ((Below.refl _ w).alloc (Nat.le_refl _) _).alloc (by simp) _
  have hrl : W1.heap[L + 1]? = some (.loop (rec .ready none)) := by
    rw [hW1, hL]
    have := World.alloc_heap_new (w.alloc (.deferred (some []))) (.loop (rec .ready none))
    rwa [World.size_alloc] at this
  have hrd : W1.heap[L]? = some (.deferred (some [])) := by
    rw [hW1, hL]
    exact (Below.heap_alloc _ _ _ (by simp)).trans (World.alloc_heap_new w _)
  clear hW1
  refine ⟨L + 1, _, W1, { target := .fn (.func gf) lb, args := #[.func (.yield (L + 1)) #[] #[]] }, W1, gf, #[.func (.yield (L + 1)) #[] #[]] ++ lb, W1, hent, ?_, fun _ _ => trivial, ?_, fun _ => h1, ?_⟩
  · simp only [resolve, hg]
    simp [go_sem]
  · simp [invoke, go_sem, eg]
  rw [← hL] at hBw hX hO hI hseq hround hdone
  obtain ⟨J, hJ⟩ : ∃ J : Nat → World → Prop, J = fun j W => I j W ∧ W.heap[L + 1]? = some (.loop (rec .ready none)) ∧ W.heap[L]? = some (.deferred (some [])) := ⟨_, rfl⟩
  have hY : Ylds (L + 1) B0 X O J sp T := by
    subst hJ
    refine ⟨by omega, hB, fun k hk => ⟨(hX k hk).1, by have := (hX k hk).2; omega⟩, fun j A h => (Array.getElem?_eq_some_iff.1 h.2.1).1, fun j A k h ho => ⟨(hO j A k h.1 ho).1, (hO j A k h.1 ho).2.1⟩, ?_, ?_⟩
    · rintro j A B Z ⟨hi, hl, hd⟩ hb hZ
      obtain ⟨e1, e2⟩ := hI j A B Z hi hb fun k hk => ⟨by have := (hZ k hk).1; omega, (hZ k hk).2⟩
      exact ⟨⟨e1, (hb.block _ (Array.getElem?_eq_some_iff.1 hl).1 fun e => by have := (hZ _ e).1; omega).trans hl, (hb.block _ (Array.getElem?_eq_some_iff.1 hd).1 fun e => by have := (hZ _ e).1; omega).trans hd⟩, e2⟩
    · rintro j A hjT ⟨hi, hl, hd⟩
      have lt1 := (Array.getElem?_eq_some_iff.1 hl).1
      obtain ⟨hvs, hwalk0⟩ := hround j A hjT hi lt1
      have hwalk := hwalk0 (fun a1 W1 => Below A.heap.size A W1 ∧ ∀ W2, But (fun k => k = L + 1) W1 W2 → I j W2 → body.wpIn (Fence.wide.inRound (L + 1)) (n - 1 - 1) Tryz.prog (leaveO I O X j W2) a1 W2) (fun _ _ h1 h2 => ⟨h1, h2⟩)
      have hy := run_yield (P := Tryz.prog) (args := #[(sp j).agg]) hl (by rw [hpar]; exact hvs)
      rw [hrec] at hy
      refine yieldAt_wide (m := n - 1 - 1) ⟨_, _, _, _, hy, roundIn_of_wpIn hfn (wpIn_mono hwalk ?_)⟩
      rintro e a2 A2 h2
      cases e with
      | normal =>
        obtain ⟨hk2, hbody⟩ := h2
        have hl2 := (hk2.block (L + 1) lt1).trans hl
        have hd2 := (hk2.block L (by omega)).trans hd
        have lt2 := (Array.getElem?_eq_some_iff.1 hl2).1
        have hbr := run_beginRound (P := Tryz.prog) hl2 (hst _ _)
        rw [hto] at hbr
        obtain ⟨A3, hA3⟩ : ∃ A3, A3 = A2.putObj (L + 1) (.loop (rec .busy none)) := ⟨_, rfl⟩
        rw [← hA3] at hbr
        have hk3 : But (fun k => k = L + 1) A2 A3 := by rw [hA3]; exact But.put _ _ _
        have hl3 : A3.heap[L + 1]? = some (.loop (rec .busy none)) := by rw [hA3]; exact World.putObj_heap_same lt2
        have hd3 := (hk3.block L (by omega) (by omega)).trans hd2
        clear hA3
        obtain ⟨i2, o2⟩ := hI j A A2 (fun k => A.heap.size ≤ k) hi ⟨hk2.os, hk2.tape, hk2.output, hk2.size, fun k hk _ => hk2.block k hk⟩ fun k hk => ⟨by omega, fun ho => by have := (hO j A k hi ho).2.1; omega⟩
        obtain ⟨i3, o3⟩ := hI j A2 A3 _ i2 hk3 fun k hk => ⟨by omega, fun ho => by have := (hO j A2 k i2 ho).2.2.2; omega⟩
        refine ⟨A3, hbr, wpIn_mono (hbody A3 hk3 i3) ?_⟩
        rintro e a4 A4 ⟨rfl, h4, h5, h6⟩
        have nX : ∀ q, L ≤ q → ¬ X q := fun q hq e => by have := (hX q e).2; omega
        have lt3 := (Array.getElem?_eq_some_iff.1 hl3).1
        have hl4 := (h4.block (L + 1) lt3 (fun e => by
          rcases e with e | e
          · exact nX _ (by omega) e
          · exact (hO j A3 _ i3 e).2.2.2 rfl)).trans hl3
        have hd4 := (h4.block L (by omega) (fun e => by
          rcases e with e | e
          · exact nX _ (by omega) e
          · exact (hO j A3 _ i3 e).2.2.1 rfl)).trans hd3
        have hend := run_endRound (P := Tryz.prog) none hl4
        rw [hto2] at hend
        have hput := But.put A4 (L + 1) (.loop (rec .ready none))
        obtain ⟨i5, o5⟩ := hI (j + 1) A4 _ _ h5 hput fun k hk => ⟨by omega, fun ho => by have := (hO (j + 1) A4 k h5 ho).2.2.2; omega⟩
        refine ⟨_, _, hend, rfl, ⟨i5, World.putObj_heap_same (Array.getElem?_eq_some_iff.1 hl4).1, (World.putObj_heap_other (by omega)).trans hd4⟩, ?_, fun k hk => ?_⟩
        · refine ⟨hput.os.trans (h4.os.trans (hk3.os.trans hk2.os)), hput.tape.trans (h4.tape.trans (hk3.tape.trans hk2.tape)), hput.output.trans (h4.output.trans (hk3.output.trans hk2.output)), Nat.le_trans hk2.size (Nat.le_trans hk3.size (Nat.le_trans h4.size hput.size)), fun k hk hx => ?_⟩
          have s2 := hk2.size
          have s3 := hk3.size
          have s4 := h4.size
          refine (hput.block k (by omega) fun e => hx (.inr (.inl e))).trans ((h4.block k (by omega) fun e => ?_).trans ((hk3.block k (by omega) fun e => hx (.inr (.inl e))).trans (hk2.block k hk)))
          rcases e with e | e
          · exact hx (.inl e)
          · exact hx (.inr (.inr (o2 k (o3 k e))))
        · rcases h6 k (o5 k hk) with e | e
          · exact .inl (o2 k (o3 k e))
          · exact .inr (by have := hk2.size; have := hk3.size; omega)
      | ret => exact h2.elim
      | exit i => exact h2.elim
      | goto t => exact h2.elim
      | panic c => exact h2.elim
      | outgrown => exact h2.elim
  have hJ0 : J 0 W1 := by
    subst hJ
    exact ⟨(hI 0 w W1 (fun _ => False) h0 (But.of hbw) fun k hk => hk.elim).1, hrl, hrd⟩
  refine (hseq J hY W1 (by rw [hL]; exact hbw) hJ0).mono ?_
  rintro e B ⟨⟨v, rfl⟩, j, hD, hJB⟩
  rw [hJ] at hJB
  obtain ⟨hi, hl, hd⟩ := hJB
  have hend := run_endLoop (P := Tryz.prog) hl (by rw [hst]; simp)
  rw [hpe] at hend
  exact ⟨none, _, hend, hdone L j _ rfl hD ((hI j B _ _ hi (But.put B _ _) fun k hk => ⟨by omega, fun ho => by have := (hO j B k hi ho).2.2.2; omega⟩).1) ((World.putObj_heap_other (by omega)).trans hd)⟩
theorem fromAbove_any {F : Nat → Prop} {w : World} {x : Nd} {v : Value} (h : Nde F w x v) :
    Calls Tryz.prog 36 #[v] w fun e w' => e = .returned (.func (.func 65) #[] #[.pointer (some ⟨w.heap.size, 0, none⟩)]) ∧ w.alloc (.cells #[v] 26) = w' := by
  rcases h.nil_iff with ⟨_, rfl⟩ | ⟨_, t, b, rfl⟩
  · go_enter Tryz.func36, Tryz.ntmps36
    go_wp2
    go_ret
    exact ⟨rfl, rfl⟩
  · go_enter Tryz.func36, Tryz.ntmps36
    go_wp2
    go_ret
    exact ⟨rfl, rfl⟩
/-- the cells of spots -/
def spcells (S : List Sp) : List Value := S.flatMap Sp.cells
theorem spcells_snoc (S : List Sp) (s : Sp) : spcells (S ++ [s]) = spcells S ++ s.cells := by simp [spcells]
theorem spcells_at : ∀ (S : List Sp) (i : Nat) (h : i < S.length) (c : Nat), c < 5 → (spcells S)[i * 5 + c]? = (S[i]).cells[c]?
  | s :: S, 0, _, c, hc => by
    simp only [spcells, List.flatMap_cons, Nat.zero_mul, Nat.zero_add, List.getElem_cons_zero]
    rw [List.getElem?_append_left (by simpa [Sp.cells] using hc)]
  | s :: S, i + 1, h, c, hc => by
    have ih := spcells_at S i (by simpa using h) c hc
    have e : spcells (s :: S) = s.cells ++ spcells S := by simp [spcells]
    rw [e, List.getElem?_append_right (by simp [Sp.cells]; omega), show (i + 1) * 5 + c - s.cells.length = i * 5 + c by simp [Sp.cells]; omega, ih]
    simp
/-- the spots at an address -/
def Sps (w : World) (A : Option Addr) (S : List Sp) : Prop :=
  S = [] ∨ ∃ g, A = some ⟨g, 0, none⟩ ∧ g < w.heap.size ∧ ∀ i (h : i < S.length), w.cell? ⟨g, i * 5, none⟩ = some (.int .i64 ((S[i]).level : Int)) ∧ w.cell? ⟨g, i * 5 + 1, none⟩ = some (.int .i64 ((S[i]).kind : Int)) ∧
    w.cell? ⟨g, i * 5 + 2, none⟩ = some (.int .u64 ((S[i]).hash : Int)) ∧ w.cell? ⟨g, i * 5 + 3, none⟩ = some (.int .u32 ((S[i]).map : Int)) ∧ w.cell? ⟨g, i * 5 + 4, none⟩ = some (.int .i64 ((S[i]).count : Int))
theorem Sps.below {w w' : World} {A : Option Addr} {S : List Sp} (h : Sps w A S) (hb : Below w.heap.size w w') : Sps w' A S := by
  rcases h with h | ⟨g, rfl, h1, h2⟩
  · exact .inl h
  · have e := hb.block g h1
    exact .inr ⟨g, rfl, Nat.lt_of_lt_of_le h1 hb.size, fun i hi => ⟨(cell_kept e).trans (h2 i hi).1, (cell_kept e).trans (h2 i hi).2.1, (cell_kept e).trans (h2 i hi).2.2.1, (cell_kept e).trans (h2 i hi).2.2.2.1, (cell_kept e).trans (h2 i hi).2.2.2.2⟩⟩
theorem sps_own {w : World} {B : Nat} {v : Value} {S : List Sp} (h : w.ownsRow B 56 5 v S.length (spcells S)) : ∃ A c, v = .slice A S.length c ∧ Sps w A S ∧ NewIn B w A ∧ S.length ≤ c := by
  obtain ⟨A, c, rfl, hr⟩ := row_reads5 h
  have hcap : S.length ≤ c := by
    obtain ⟨_, h⟩ := h
    rcases h with ⟨h1, h2⟩ | ⟨g, cap, cur, h1, _, _, hc1, _⟩
    · injection h1 with _ h3 h4
      omega
    · injection h1 with _ h3 h4
      omega
  refine ⟨A, c, rfl, ?_, own_new h, hcap⟩
  rcases Nat.eq_zero_or_pos S.length with h0 | h0
  · exact .inl (List.eq_nil_of_length_eq_zero h0)
  · obtain ⟨g, rfl, _, hg, hc⟩ := hr h0
    refine .inr ⟨g, rfl, hg, fun i hi => ?_⟩
    have e := fun c (h : c < 5) => spcells_at S i hi c h
    rw [hc _ (by omega), hc _ (by omega), hc _ (by omega), hc _ (by omega), hc _ (by omega)]
    exact ⟨by rw [← Nat.add_zero (i * 5), e 0 (by omega)]; rfl, by rw [e 1 (by omega)]; rfl, by rw [e 2 (by omega)]; rfl, by rw [e 3 (by omega)]; rfl, by rw [e 4 (by omega)]; rfl⟩
/-- append of one struct that was laid into a block of its own just ahead, in a round -/
theorem listIn_appK {l d B : Nat} {w : World} {ops : Array Oper} {rest : List Oper} {o : Oper} {a : Act} {Q : Exit → Act → World → Prop} (t e : TypeId) (z : Value) (size bytes : Nat) (hu : Tryz.prog.underlying t = some (.slice e)) (hinf : (Tryz.prog.info? e).map (fun i => (i.zero, i.size, i.bytes)) = some (some z, size, bytes)) (hz : z.cells.size = size) (hs0 : 0 < size) (hby : bytes ≤ 200)
    (hgd : o.guard = none) (s x : Operand) (ho : o.op = .call { callee := .builtin .append, args := #[s, x], argTypes := #[t, t] }) (v : Value) (n : Nat) (xs : List Value) (h : w.ownsRow B e size v n xs) (news : List Value) (hl : news.length = size) (h1 : ∀ u ∈ news, u.oneCell' = true)
    (hs : a.eval s = v) (hx : a.eval x = .slice (some ⟨w.heap.size, 0, none⟩) 1 1) (hn : n ≤ 9000) (hB : B ≤ w.heap.size)
    (hK : ∀ v' w', w'.ownsRow B e size v' (n + 1) (xs ++ news) → w.grownBy w' v.ownBlock → (v'.ownBlock = v.ownBlock ∨ ∃ b, v'.ownBlock = some b ∧ w.heap.size ≤ b) → wpListIn (Fence.wide.inRound l) d Tryz.prog ops Q rest (a.put o.dst v') w') : wpListIn (Fence.wide.inRound l) d Tryz.prog ops Q (o :: rest) a (w.alloc (.cells news.toArray e)) := by
  obtain ⟨i0, hi, hz0, hz1, hz2⟩ := info_parts hinf
  have hnew : (w.alloc (.cells news.toArray e)).heap[w.heap.size]? = some (.cells news.toArray e (0, 0)) := heap_alloc_new w _
  obtain ⟨v', w', hr, hown, hg, _, hob⟩ := run_append_own_at (P := Tryz.prog) (w := w.alloc (.cells news.toArray e)) B t o.type e i0 z size bytes hu hi hz0 hz1 hz2 hz hs0 v n xs (World.ownsRow.alloc h _) ⟨w.heap.size, 0, none⟩ 1 1 news (by rw [hl, Nat.one_mul])
    (by
      intro j u hj
      rw [Go.WideShapes.add_plain, Nat.zero_add, cell_of_row _ w.heap.size j _ e (0, 0) hnew, ← hj]
      simp) h1
    (by unfold maxLen; omega) (by have := Nat.mul_le_mul (show n + 1 ≤ 9001 by omega) hby; omega) (by simp; omega)
  have hg2 : w.grownBy w' v.ownBlock := grown_then (World.grownBy_alloc w _ none) hg
  refine listIn_app o hgd ho hs hx hr (hK v' w' hown hg2 ?_)
  rcases hob with h | h
  · exact .inl h
  · exact .inr ⟨_, h, by simp⟩
theorem shapeCall {l B0 : Nat} {X : Nat → Prop} {O : World → Nat → Prop} {J : Nat → World → Prop} {sp : Nat → Sp} {T : Nat} (Y : Ylds l B0 X O J sp T) {F : Nat → Prop} {W : World} {x : Nd} {v : Value} {nb : Nat} (hFB : ∀ b, F b → b < B0) (hn : Nde F W x v) (ho : x.ok) (hr : x.right 0 = true) (hT : Tab W) (hJ : J 0 W) (hl : (x.shape 0).length ≤ T) (hsp : ∀ i (h : i < (x.shape 0).length), sp i = (x.shape 0)[i])
    (hc : W.cell? ⟨nb, 0, none⟩ = some v) :
    Calls Tryz.prog 65 #[.func (.yield l) #[] #[], .pointer (some ⟨nb, 0, none⟩)] W fun e B => (∃ v, e = .returned v) ∧ ∃ j, j = (x.shape 0).length ∧ J j B := by
  have h := down_any x l B0 X O J sp T Y F W v 0 0 hFB hn ho hr hT hJ (by omega) (fun i hi => by rw [Nat.zero_add]; exact hsp i hi)
  rw [Nat.zero_add] at h
  have H : Hid (Calls Tryz.prog 66 #[v, .int .i64 0, .func (.yield l) #[] #[]] W (DPost l X O J (x.shape 0).length W)) := h
  clear h hsp hl hJ hT hr ho hn hFB Y
  go_enter Tryz.func65, Tryz.ntmps65
  go_wp2_with fail
  refine H.out.mono ?_
  rintro e w' ⟨rfl, h2, _, _⟩
  have H2 := Lib.hid h2; clear h2
  go_wp2_with fail
  go_end0
  exact ⟨⟨_, rfl⟩, _, rfl, H2.out⟩
theorem shape_any {F : Nat → Prop} {w : World} {x : Nd} {v : Value} (h : Nde F w x v) (ho : x.ok) (hr : x.right 0 = true) (hT : Tab w) (hlen : (x.shape 0).length ≤ 8000) :
    Calls Tryz.prog 16 #[v] w fun e w' => ∃ A c, e = .returned (.slice A (x.shape 0).length c) ∧ (x.shape 0).length ≤ c ∧ Sps w' A (x.shape 0) ∧ Below w.heap.size w w' := by
  obtain ⟨S, hS⟩ : ∃ S, S = x.shape 0 := ⟨_, rfl⟩
  rw [← hS] at hlen ⊢
  obtain ⟨w1, hw1⟩ : ∃ w1, w1 = w.alloc (.cells #[.slice none 0 0] 51) := ⟨_, rfl⟩
  have b1 : Below w.heap.size w w1 := by rw [hw1]; exact (Below.refl _ _).alloc (Nat.le_refl _) _
  have z1 : w1.heap.size = w.heap.size + 1 := by rw [hw1]; simp
  have k1 : Boxed w1 w.heap.size 51 (.slice none 0 0) := by rw [hw1]; exact Boxed.new w 51 _
  have hfa := fromAbove_any (h.below b1)
  have hN := h.mono (G := fun b => b < w.heap.size) fun b hl _ => hl
  have HW1 := Lib.hid hw1; clear hw1
  have HFA := Lib.hid hfa; clear hfa
  have HN := Lib.hid hN; clear hN
  have HO := Lib.hid ho; clear ho
  have HR := Lib.hid hr; clear hr
  have HT := Lib.hid hT; clear hT
  have HS := Lib.hid hS; clear hS
  have hvf : v = .nilIface ∨ ∃ t b, v = .iface t (.pointer (some ⟨b, 0, none⟩)) := by
    rcases h.nil_iff with ⟨_, h⟩ | ⟨_, t, b, h⟩
    · exact .inl h
    · exact .inr ⟨t, b, h⟩
  have HVF := Lib.hid hvf; clear hvf h
  have HK1 := Lib.hid (And.intro b1 (And.intro z1 k1)); clear b1 z1 k1
  refine (callsIn_wide (n := 3)).1 ?_
  refine callsIn_of_wp_marks Tryz.func16 rfl trivial ?_ rfl
  simp only [Tryz.ntmps16, List.size_toArray, List.length_cons, List.length_nil, Nat.reduceAdd, Nat.reduceSub, Array.replicate_succ, Array.replicate_zero, List.push_toArray, List.append_toArray, List.nil_append, List.cons_append]
  gi_wp2_with fail
  rw [← HW1.out]
  refine ⟨trivial, (callsIn_wide.2 HFA.out).mono ?_⟩
  rintro e wy ⟨rfl, hwy⟩
  have b1y : Below w1.heap.size w1 wy := by rw [← hwy]; exact (Below.refl _ _).alloc (Nat.le_refl _) _
  have zy : wy.heap.size = w1.heap.size + 1 := by rw [← hwy]; simp
  have rn : Boxed wy w1.heap.size 26 v := by rw [← hwy]; exact Boxed.new w1 26 v
  have hef := fun lb : Array Value => (by kernel_rfl : Sem.run Tryz.prog (binOp BinOp.eql 93 (Value.func (Fn.func 65) #[] lb) Value.nilFunc) wy = .ok (.bool false) wy)
  clear hwy
  have b0y : Below w.heap.size w wy := below_then HK1.out.1 b1y
  have ky : Boxed wy w.heap.size 51 (.slice none 0 0) := (b1y.block _ (by have := HK1.out.2.1; omega)).trans HK1.out.2.2
  have z2 : wy.heap.size = w.heap.size + 2 := by have := HK1.out.2.1; omega
  obtain ⟨N, hN⟩ : ∃ N, N = wy.heap.size + 2 := ⟨_, rfl⟩
  obtain ⟨sp, hsp⟩ : ∃ sp : Nat → Sp, sp = fun i => S.getD i ⟨0, 0, 0, 0, 0⟩ := ⟨_, rfl⟩
  obtain ⟨O, hO⟩ : ∃ O : World → Nat → Prop, O = fun A k => ∃ u, A.cell? ⟨w.heap.size, 0, none⟩ = some u ∧ u.ownBlock = some k := ⟨_, rfl⟩
  obtain ⟨I, hI⟩ : ∃ I : Nat → World → Prop, I = fun j W => But (fun k => k = w.heap.size ∨ N ≤ k) wy W ∧ ∃ u, Boxed W w.heap.size 51 u ∧ W.ownsRow N 56 5 u j (spcells (S.take j)) := ⟨_, rfl⟩
  have h0 : I 0 wy := by
    subst hI
    exact ⟨But.refl _ _, _, ky, World.ownsRow_nil _ _ _ _⟩
  have hOO : ∀ j A k, I j A → O A k → w.heap.size ≤ k ∧ k < A.heap.size ∧ k ≠ wy.heap.size ∧ k ≠ wy.heap.size + 1 := by
    subst hI hO
    rintro j A k ⟨h1, u, h2, h3⟩ ⟨u2, e1, e2⟩
    rw [h2.cell] at e1
    obtain rfl := Option.some.inj e1
    have := own_lt h3 e2
    omega
  have hII : ∀ j A B (Z : Nat → Prop), I j A → But Z A B → (∀ k, Z k → wy.heap.size ≤ k ∧ ¬ O A k) → I j B ∧ ∀ k, O B k → O A k := by
    subst hI hO
    rintro j A B Z ⟨h1, u, h2, h3⟩ hb hZ
    have e1 : B.heap[w.heap.size]? = A.heap[w.heap.size]? := hb.block _ h2.lt fun e => by have := (hZ _ e).1; omega
    refine ⟨⟨⟨hb.os.trans h1.os, hb.tape.trans h1.tape, hb.output.trans h1.output, Nat.le_trans h1.size hb.size, fun k hk hx => (hb.block k (Nat.lt_of_lt_of_le hk h1.size) fun e => by have := (hZ _ e).1; omega).trans (h1.block k hk hx)⟩, u, e1.trans h2, own_kept h3 fun g hg => hb.block g (own_lt h3 hg).2.1 fun e => (hZ _ e).2 ⟨u, h2.cell, hg⟩⟩, ?_⟩
    rintro k ⟨u2, e2, e3⟩
    exact ⟨u2, (cell_kept e1).symm.trans e2, e3⟩
  have hseq : ∀ J : Nat → World → Prop, Ylds (wy.heap.size + 1) w.heap.size (fun k => k = w.heap.size) O J sp S.length → ∀ W, Below wy.heap.size wy W → J 0 W → CallsIn Fence.wide (3 - 1) Tryz.prog 65 (#[.func (.yield (wy.heap.size + 1)) #[] #[]] ++ #[.pointer (some ⟨w1.heap.size, 0, none⟩)]) W fun e B => (∃ v, e = .returned v) ∧ ∃ j, j = S.length ∧ J j B := fun J Y W hW hJ => by
    have h := shapeCall (nb := w1.heap.size) Y (fun b hb => hb) ((HN.out.below b0y).below hW) HO.out HR.out ((HT.out.below b0y).below hW) hJ (by rw [HS.out]; exact Nat.le_refl _) (fun i hi => by
      rw [hsp]
      simp only [HS.out]
      rw [List.getD_eq_getElem?_getD, List.getElem?_eq_getElem hi]; rfl) ((hW.cell (p := ⟨w1.heap.size, 0, none⟩) rn.lt).trans rn.cell)
    rw [← HS.out] at h
    exact callsIn_wide.2 h
  have HQ := Lib.hid (And.intro hI (And.intro hO hsp))
  have HB := Lib.hid (And.intro b1y (And.intro zy (And.intro b0y (And.intro z2 hN)))); clear b1y zy b0y z2 hN
  have HIO := Lib.hid (And.intro hOO hII)
  have HHT := Lib.hid HT.out.lt
  clear rn ky hI hO hsp
  gi_wp2_with fail
  clear hef
  refine wp_rangeO (n := 3) (gf := 65) (lb := #[.pointer (some ⟨w1.heap.size, 0, none⟩)]) rfl (enters_of Tryz.func65 (by kernel_rfl) rfl) I O (fun k => k = w.heap.size) (fun j => j = S.length) sp S.length w.heap.size HHT.out (by have := HB.out.2.2.2.1; omega) (fun k hk => by have := HB.out.2.2.2.1; omega) hOO hII h0 hseq ?round ?done
  case done =>
    clear hseq h0
    intro d j W hd hj hi hdf
    subst hj
    rw [HQ.out.1] at hi
    obtain ⟨g2, u, bx, row⟩ := hi
    rw [List.take_length] at row
    obtain ⟨A, c, rfl, hsps, hnew, hcap⟩ := sps_own row
    have hbl := bx.cell
    have p := But.put W d (.deferred none)
    have hfin : Sps (W.putObj d (.deferred none)) A S ∧ Below w.heap.size w (W.putObj d (.deferred none)) := by
      have h1 := HB.out
      have h2 := g2.size
      have h3 := p.size
      refine ⟨?_, p.os.trans (g2.os.trans h1.2.2.1.os), p.tape.trans (g2.tape.trans h1.2.2.1.tape), p.output.trans (g2.output.trans h1.2.2.1.output), by omega, fun k hk => (p.block k (by omega) (by omega)).trans ((g2.block k (by omega) (by omega)).trans (h1.2.2.1.block k hk))⟩
      rcases hsps with h | ⟨g, rfl, h4, h5⟩
      · exact .inl h
      · have hg := (hnew _ rfl).1
        have e := p.block g h4 (by show ¬ g = d; have : N ≤ g := hg; omega)
        exact .inr ⟨g, rfl, lt_kept e h4, fun i hi => ⟨(cell_kept e).trans (h5 i hi).1, (cell_kept e).trans (h5 i hi).2.1, (cell_kept e).trans (h5 i hi).2.2.1, (cell_kept e).trans (h5 i hi).2.2.2.1, (cell_kept e).trans (h5 i hi).2.2.2.2⟩⟩
    have HF := Lib.hid (And.intro hcap hfin); clear hfin hcap
    have HD := Lib.hid hdf; clear hdf
    clear p hsps hnew row bx g2 hd hII hOO
    gi_wp2_with fail
    refine ⟨by simp, .inl ⟨_, _, rfl, run_takeDeferred HD.out, ?_⟩⟩
    refine ⟨.slice A S.length c, ?_, ?_⟩
    · simp [results, Tryz.f16, go_sem]
    · exact ⟨A, c, rfl, HF.out⟩
  case round =>
    clear hseq h0
    intro j W hjT hi hlt
    have hsj2 : S.take (j + 1) = S.take j ++ [sp j] := by
      rw [List.take_succ_eq_append_getElem hjT, HQ.out.2.2]
      simp only [List.getD_eq_getElem?_getD, List.getElem?_eq_getElem hjT, Option.getD_some]
    obtain ⟨s, hs⟩ : ∃ s, s = sp j := ⟨_, rfl⟩
    rw [← hs] at hsj2
    rw [← hs]
    clear hs
    refine ⟨rfl, fun K hK => ?_⟩
    obtain ⟨a0, a1, a2, a3, a4⟩ := s
    have HK := Lib.hid hK; clear hK
    have HSJ := Lib.hid hsj2; clear hsj2
    simp only [Sp.agg]
    gi_wp2_with fail
    refine HK.out _ _ ((Below.refl _ _).alloc (Nat.le_refl _) _) ?_
    intro W2 hk2 hI2
    rw [HQ.out.1] at hI2
    obtain ⟨g2, u, bx, row⟩ := hI2
    have hz2 : W.heap.size < W2.heap.size := Nat.lt_of_lt_of_le (by simp) hk2.size
    have rs : W2.heap[W.heap.size]? = some (.cells #[.int .i64 (a0 : Int), .int .i64 (a1 : Int), .int .u64 (a2 : Int), .int .u32 (a3 : Int), .int .i64 (a4 : Int)] 56 (0, 0)) := (hk2.block _ (by simp) (by omega)).trans (heap_alloc_new W _)
    obtain ⟨⟨c0, c1, c2, c3, c4⟩, _⟩ := row5f rs
    have hbl := bx.cell
    have hNW : N ≤ W2.heap.size := by have := HB.out.2.2.2.2; omega
    have hLN : w.heap.size < N := by have := HB.out.2.2.2.1; have := HB.out.2.2.2.2; omega
    have hadd : ∀ (v' : Value) (W4 : World), W4.ownsRow N 56 5 v' (j + 1) (spcells (S.take j) ++ [.int .i64 (a0 : Int), .int .i64 (a1 : Int), .int .u64 (a2 : Int), .int .u32 (a3 : Int), .int .i64 (a4 : Int)]) → W2.grownBy W4 u.ownBlock → (v'.ownBlock = u.ownBlock ∨ ∃ b, v'.ownBlock = some b ∧ W2.heap.size ≤ b) →
        (W4.cell? ⟨w.heap.size, 0, none⟩ = some u ∧ W4.frozen? ⟨w.heap.size, 0, none⟩ = false) ∧ (But (fun k => k = w.heap.size ∨ O W2 k) W2 (W4.setCell ⟨w.heap.size, 0, none⟩ v') ∧ I (j + 1) (W4.setCell ⟨w.heap.size, 0, none⟩ v') ∧ ∀ k, O (W4.setCell ⟨w.heap.size, 0, none⟩ v') k → O W2 k ∨ W2.heap.size ≤ k) := fun v' W4 q1 q2 q3 => by
      have hown : ∀ g, u.ownBlock = some g → N ≤ g ∧ g < W2.heap.size := fun g hg => ⟨(own_lt row hg).1, (own_lt row hg).2.1⟩
      have b4 : Boxed W4 w.heap.size 51 u := (q2.block _ bx.lt fun e => by have := hown _ e.symm; omega).trans bx
      have hset : ∀ k, k ≠ w.heap.size → (W4.setCell ⟨w.heap.size, 0, none⟩ v').heap[k]? = W4.heap[k]? := fun k hk => Below.heap_setCell W4 ⟨w.heap.size, 0, none⟩ v' k hk
      have k1 : But (fun k => u.ownBlock = some k) W2 W4 := ⟨q2.os, q2.tape, q2.output, q2.size, fun i hi hx => q2.block i hi fun e => hx e.symm⟩
      have k2 := But.set W4 w.heap.size 0 v'
      have hOu : ∀ k, u.ownBlock = some k → O W2 k := fun k hk => by rw [HQ.out.2.1]; exact ⟨u, hbl, hk⟩
      have h5 : W4.setCell ⟨w.heap.size, 0, none⟩ v' |>.ownsRow N 56 5 v' (j + 1) (spcells (S.take (j + 1))) := by
        rw [HSJ.out, spcells_snoc]
        exact own_kept q1 fun g hg => hset g fun e => by have := (own_lt q1 hg).1; omega
      refine ⟨⟨b4.cell, b4.frozen⟩, (k1.mono fun k e => .inr (hOu k e)).trans (k2.mono fun k e => .inl e), ?_, ?_⟩
      · rw [HQ.out.1]
        refine ⟨g2.trans ((k1.mono fun k e => .inr (hown k e).1).trans (k2.mono fun k e => .inl e)), v', b4.set v', h5⟩
      · rw [HQ.out.2.1]
        rintro k ⟨u2, e1, e2⟩
        rw [(b4.set v').cell] at e1
        obtain rfl := Option.some.inj e1
        rcases q3 with q3 | ⟨b, q3, q4⟩
        · exact .inl ⟨u, hbl, by rw [← q3]; exact e2⟩
        · rw [q3] at e2
          injection e2 with e2
          exact .inr (by omega)
    have hjl : j ≤ 8000 := by omega
    have HADD := Lib.hid hadd; clear hadd
    have HROW := Lib.hid row
    obtain ⟨Au, cu, rfl, _⟩ := row_reads5 row
    have HNW := Lib.hid hNW; clear hNW
    clear row rs hk2 g2 bx hz2 hi hlt hLN HK hII hOO
    gi_wp2_with (gi_at_builtin; refine listIn_appK (B := N) (w := W2) 51 56 _ 5 40 Tryz.underlying51 Tryz.info56 rfl (by decide) (by decide) rfl (.tmp 8) (.tmp 10) rfl _ j (spcells (S.take j)) HROW.out [.int .i64 (a0 : Int), .int .i64 (a1 : Int), .int .u64 (a2 : Int), .int .u32 (a3 : Int), .int .i64 (a4 : Int)] rfl (by intro u hu; simp at hu; rcases hu with rfl | rfl | rfl | rfl | rfl <;> rfl) rfl rfl (by omega) HNW.out ?_; intro v' W4 q1 q2 q3; obtain ⟨⟨s1, s2⟩, s3⟩ := HADD.out v' W4 q1 q2 q3; obtain ⟨A', c', rfl, _⟩ := row_reads5 q1)
    exact ⟨rfl, s3⟩
end Go.Proofs.YtngfbkkfnooobaaGreatDoor
