/-
  Contracts of branched and laid: the layout of entries, by induction on the level.
-/
import Derived.Test.YtngfbkkfnooobaaGreatDoorBrd
import Derived.Test.YtngfbkkfnooobaaGreatDoorRangeK
import Derived.Test.YtngfbkkfnooobaaGreatDoorMixIn
import Derived.Test.YtngfbkkfnooobaaGreatDoorFromz
import Derived.Test.YtngfbkkfnooobaaGreatDoorCome
namespace Go.Proofs.YtngfbkkfnooobaaGreatDoor
open Go.RowKit Go.Shelf
set_option maxHeartbeats 4000000
set_option maxRecDepth 100000
attribute [local go_sem] Oper.semAt_some
attribute [local irreducible] Bt.lst
theorem wp_nofail {P : Program} {s : Code} {K : Act → World → Prop} {Q' : Exit → Act → World → Prop} {a : Act} {w : World} (h : s.wp P (Exit.then K (fun _ _ _ => False)) a w) : s.wp P (Exit.then K Q') a w := by
  refine wp_mono h ?_
  intro e a' w' hq
  cases e with
  | normal => exact hq
  | exit id => exact hq.elim
  | goto l => exact hq.elim
  | ret => exact hq.elim
  | panic ch => exact hq.elim
  | outgrown => exact hq.elim
def LaidAt (f lv : Nat) : Prop := ∀ (F : Nat → Prop) (w : World) (A : Option Addr) (c : Nat) (L : List En), Fut F w → Tab w → Ens w A L → Good lv L →
  Calls Tryz.prog 17 #[.slice A L.length c, .int .i64 (lv : Int)] w fun e w' => ∃ v, e = .returned v ∧ Nde F w' (layL f lv L) v ∧ Below w.heap.size w w'
theorem mask_snoc (lv : Nat) (L : List En) (e : En) : mask lv (L ++ [e]) = mask lv L ||| Bt.one ((ch e.1 lv : Nat) : Int) := by
  rw [mask, chs, List.map_append, List.map_cons, List.map_nil, Bt.ofL_snoc]
  rfl
/-- where the children made so far may lie: in blocks made from N on, but the one of their own row -/
def Kd (F : Nat → Prop) (N : Nat) (vk : Value) (b : Nat) : Prop := F b ∧ N ≤ b ∧ vk.ownBlock ≠ some b
/-- the children made so far: their variable in block KB, their row, themselves -/
structure Kds (F : Nat → Prop) (N KB : Nat) (kid : Nat → Nd) (j : Nat) (W : World) (vk : Value) (vs : List Value) : Prop where
  box : Boxed W KB 116 vk
  row : W.ownsRow N 26 1 vk j vs
  kids : ∀ i, i < j → ∃ v, vs[i]? = some v ∧ Nde (Kd F N vk) W (kid i) v
theorem Kds.len {F : Nat → Prop} {N KB : Nat} {kid : Nat → Nd} {j : Nat} {W : World} {vk : Value} {vs : List Value} (h : Kds F N KB kid j W vk vs) : vs.length = j := by
  have := h.row.1
  omega
theorem Kds.start (F : Nat → Prop) (N KB : Nat) (kid : Nat → Nd) (W : World) (h : Boxed W KB 116 (.slice none 0 0)) : Kds F N KB kid 0 W (.slice none 0 0) [] := ⟨h, World.ownsRow_nil _ _ _ _, fun i hi => absurd hi (Nat.not_lt_zero i)⟩
theorem Kds.but {F : Nat → Prop} {N KB : Nat} {kid : Nat → Nd} {j : Nat} {W W' : World} {vk : Value} {vs : List Value} {X : Nat → Prop} (h : Kds F N KB kid j W vk vs) (hk : KB < W.heap.size) (hb : But X W W') (hX : ∀ k, X k → k < N ∧ k ≠ KB) : Kds F N KB kid j W' vk vs where
  box := (hb.block KB hk fun e => (hX KB e).2 rfl).trans h.box
  row := own_kept h.row fun g hg => hb.block g (own_lt h.row hg).2.1 fun e => by
    have h1 := (hX g e).1
    have h2 := (own_lt h.row hg).1
    omega
  kids := fun i hi => by
    obtain ⟨v, h1, h2⟩ := h.kids i hi
    exact ⟨v, h1, h2.kept fun b hF hl => hb.block b hl fun e => by
      have h3 := (hX b e).1
      have h4 := hF.2.1
      omega⟩
/-- a child more: it was made from W on, the row grew from W1 to W2, the variable was set -/
theorem Kds.add {F : Nat → Prop} {N KB : Nat} {kid : Nat → Nd} {j : Nat} {W W1 W2 : World} {vk vk' nv : Value} {vs : List Value} (h : Kds F N KB kid j W vk vs) (hN : KB < N) (hk : KB < W.heap.size) (h1 : Below W.heap.size W W1) (hn : Nde (Kd F N vk) W1 (kid j) nv) (hown : W2.ownsRow N 26 1 vk' (j + 1) (vs ++ [nv])) (hg : W1.grownBy W2 vk.ownBlock) (hloc : vk'.ownBlock = vk.ownBlock ∨ ∃ b, vk'.ownBlock = some b ∧ W1.heap.size ≤ b) :
    (W2.cell? ⟨KB, 0, none⟩ = some vk ∧ W2.frozen? ⟨KB, 0, none⟩ = false) ∧ Kds F N KB kid (j + 1) (W2.setCell ⟨KB, 0, none⟩ vk') vk' (vs ++ [nv]) ∧ But (fun k => k = KB ∨ N ≤ k) W (W2.setCell ⟨KB, 0, none⟩ vk') := by
  have b1 : Boxed W1 KB 116 vk := (h1.block KB hk).trans h.box
  have hown1 : ∀ g, vk.ownBlock = some g → N ≤ g ∧ g < W.heap.size := fun g hg => ⟨(own_lt h.row hg).1, (own_lt h.row hg).2.1⟩
  have b2 : Boxed W2 KB 116 vk := (hg.block KB b1.lt fun e => by have := hown1 KB e.symm; omega).trans b1
  have hset : ∀ k, k ≠ KB → (W2.setCell ⟨KB, 0, none⟩ vk').heap[k]? = W2.heap[k]? := fun k hk => Below.heap_setCell W2 ⟨KB, 0, none⟩ vk' k hk
  have keepN : ∀ {x : Nd} {v : Value}, Nde (Kd F N vk) W1 x v → Nde (Kd F N vk') (W2.setCell ⟨KB, 0, none⟩ vk') x v := fun {x v} hx => by
    have e2 : Nde (fun b => Kd F N vk b ∧ Kd F N vk' b) W1 x v := hx.mono fun b hl hF => ⟨hF, hF.1, hF.2.1, fun e => by
      rcases hloc with hl2 | ⟨b', hb', hle⟩
      · rw [hl2] at e
        exact hF.2.2 e
      · rw [hb'] at e
        injection e with e
        omega⟩
    have e3 : Nde (fun b => Kd F N vk b ∧ Kd F N vk' b) (W2.setCell ⟨KB, 0, none⟩ vk') x v := e2.kept fun b hF hl => (hset b (by have := hF.1.2.1; omega)).trans (hg.block b hl fun e => hF.1.2.2 e.symm)
    exact e3.mono fun b _ hF => hF.2
  have hvl : vs.length = j := h.len
  refine ⟨⟨b2.cell, b2.frozen⟩, ⟨b2.set vk', own_kept hown fun g hgg => hset g fun e => by have := (own_lt hown hgg).1; omega, fun i hi => ?_⟩, ?_⟩
  · rcases Nat.eq_or_lt_of_le (Nat.lt_succ_iff.1 hi) with rfl | hi
    · refine ⟨nv, ?_, keepN hn⟩
      rw [List.getElem?_append_right (by omega), hvl, Nat.sub_self]
      rfl
    · obtain ⟨v, k1, k2⟩ := h.kids i hi
      exact ⟨v, by rw [List.getElem?_append_left (by omega)]; exact k1, keepN (k2.below h1)⟩
  · have k1 : But (fun k => k = KB ∨ N ≤ k) W1 W2 := ⟨hg.os, hg.tape, hg.output, hg.size, fun i hi hx => hg.block i hi fun e => hx (.inr (hown1 i e.symm).1)⟩
    exact ((But.of h1).trans k1).trans ((But.set W2 KB 0 vk').mono fun k e => .inl e)
theorem listIn_app {l d : Nat} {P : Program} {ops : Array Oper} {Q : Exit → Act → World → Prop} {rest : List Oper} {a : Act} {w w' : World} {t : TypeId} {s x : Operand} {v y v' : Value} (o : Oper) (hg : o.guard = none) (ho : o.op = .call { callee := .builtin .append, args := #[s, x], argTypes := #[t, t] })
    (hs : a.eval s = v) (hx : a.eval x = y) (hr : (Builtin.append_ #[t, t] o.type #[v, y]).run P w = .ok v' w') (hk : wpListIn (Fence.wide.inRound l) d P ops Q rest (a.put o.dst v') w') : wpListIn (Fence.wide.inRound l) d P ops Q (o :: rest) a w := by
  refine wpListIn_plain hg fun K hK => ⟨fun _ _ => trivial, ?_⟩
  rw [Oper.semAt_eq _ _ _ (fun c h => by rw [ho] at h; cases h)]
  unfold execOp
  simp only [ho, resolve, invoke, builtin, Sem.run_bind, Sem.run_pure, Result.andThen_ok, List.map_toArray, List.map_cons, List.map_nil, hs, hx, hr]
  exact hK _ _ hk
/-- what the operations of a child's making yield -/
def KG (F : Nat → Prop) (N B1 cN lv : Nat) (vk vp : Value) (x : Nd) : Nat → Value → World → Prop
  | 0, v, _ => v = vk
  | 1, v, _ => v = .int .i64 (cN : Int)
  | 2, v, _ => v = .pointer (some ⟨B1, cN, none⟩)
  | 3, v, _ => v = vp
  | 4, v, _ => v = .int .i64 (lv : Int)
  | 5, v, _ => v = .int .i64 ((lv : Int) + 1)
  | 6, v, W => Nde (Kd F N vk) W x v
  | 7, v, W => ∃ g nv, v = .slice (some ⟨g, 0, none⟩) 1 1 ∧ W.heap[g]? = some (.cells #[nv] 26 (0, 0)) ∧ Nde (Kd F N vk) W x nv
  | _, _, _ => True
theorem KG.below {F : Nat → Prop} {N B1 cN lv : Nat} {vk vp : Value} {x : Nd} {i : Nat} {v : Value} {W W' : World} (h : KG F N B1 cN lv vk vp x i v W) (hb : Below W.heap.size W W') : KG F N B1 cN lv vk vp x i v W' := by
  unfold KG at h ⊢
  split at h
  · exact h
  · exact h
  · exact h
  · exact h
  · exact h
  · exact h
  · exact Nde.below h hb
  · obtain ⟨g, nv, e, h1, h2⟩ := h
    exact ⟨g, nv, e, (hb.block g (Array.getElem?_eq_some_iff.1 h1).1).trans h1, h2.below hb⟩
  · trivial
theorem branched_any {f lv : Nat} (hf : f + 1 + lv = 13) (ih : LaidAt f (lv + 1)) (F : Nat → Prop) (w : World) (A : Option Addr) (c : Nat) (L : List En) (hF : Fut F w) (hT : Tab w) (ha : Ens w A L) (hG : Good lv L) (hal : alike L = false) :
    Calls Tryz.prog 43 #[.slice A L.length c, .int .i64 (lv : Int)] w fun e w' => ∃ v, e = .returned v ∧ Nde F w' (layL (f + 1) lv L) v ∧ Below w.heap.size w w' := by
  have hlen := hG.len
  obtain ⟨LL, hLL⟩ : ∃ n, n = L.length := ⟨_, rfl⟩
  rw [← hLL] at hlen ⊢
  have HA := Lib.hid ha; clear ha
  have HG := Lib.hid hG; clear hG
  have HF := Lib.hid hF; clear hF
  have HT := Lib.hid hT; clear hT
  have HIH := Lib.hid ih; clear ih
  have HAL := Lib.hid hal; clear hal
  have HLL := Lib.hid hLL; clear hLL
  have hlv : lv ≤ 12 := by omega
  refine (callsIn_wide (n := 3)).1 ?_
  refine callsIn_of_wp_marks Tryz.func43 rfl trivial ?_ rfl
  simp only [Tryz.ntmps43, List.size_toArray, List.length_cons, List.length_nil, Nat.reduceAdd, Nat.reduceSub, Array.replicate_succ, Array.replicate_zero, List.push_toArray, List.append_toArray, List.nil_append, List.cons_append]
  refine wpIn_wide.2 ?_
  go_wp2_with fail
  go_loopw [6, 14] (fun m u wr => ∃ j : Nat, u = .int .i64 j ∧ j ≤ LL ∧ m = .int .u32 ((mask lv (L.take j) : Nat) : Int) ∧ Hid (Below w.heap.size w wr) ∧ Hid (wr.heap[w.heap.size]? = some (.cells #[.int .i64 (lv : Int)] 3 (0, 0))) ∧ Hid (∃ cur xs, Prt w wr (w.heap.size + 1) lv (L.take j) cur xs)) (fun _ u _ => LL - (intOf u).toNat)
  case atStart =>
    refine ⟨0, rfl, by omega, rfl, ((Below.refl _ _).alloc (Nat.le_refl _) _).alloc (by simp) _, heap_alloc2_old w _ _, _, _, Prt.start _ _ _ _ ?_⟩
    exact heap_alloc2_new w _ _
  case round =>
    obtain ⟨j, rfl, hj, rfl, hbel, hr0, hpr⟩ := hrel
    by_cases hlt : j < LL
    · have hlt' : j < L.length := by rw [← HLL.out]; exact hlt
      obtain ⟨b, off, ka, kc, va, vc, rfl, hbl, g0, g1, g2, h3, h4⟩ := HA.out.at hlt'
      have h0 := (hbel.out.cell (p := ⟨b, off + j * 3, none⟩) hbl).trans g0
      have h1 := (hbel.out.cell (p := ⟨b, off + j * 3 + 1, none⟩) hbl).trans g1
      have h2 := (hbel.out.cell (p := ⟨b, off + j * 3 + 2, none⟩) hbl).trans g2
      clear g0 g1 g2
      have hh := (HG.out.fits _ (List.getElem_mem hlt')).1
      have hat := fun W => at_nat (L[j]).1 lv W hh hlv
      have hchl := ch_lt (L[j]).1 lv
      obtain ⟨cc, hcc⟩ : ∃ cc, cc = ch (L[j]).1 lv := ⟨_, rfl⟩
      have hm := mask_lt lv (L.take j)
      have hwith := fun W => with_any (mask lv (L.take j)) ((ch (L[j]).1 lv : Nat) : Int) W hm
      rw [← mask_snoc, ← List.take_succ_eq_append_getElem hlt', ← hcc] at hwith
      rw [← hcc] at hat hchl
      obtain ⟨m1, hm1⟩ : ∃ m1, m1 = mask lv (L.take j) := ⟨_, rfl⟩
      obtain ⟨m2, hm2⟩ : ∃ m2, m2 = mask lv (L.take (j + 1)) := ⟨_, rfl⟩
      rw [← hm1, ← hm2] at hwith
      rw [← hm1]
      obtain ⟨cur, xs, hP⟩ := hpr.out
      obtain ⟨wa, hwa⟩ : ∃ wa, wa = wr.alloc (.cells #[.int .u64 ((L[j]).1 : Int), .slice ka (L[j]).2.1.length kc, .slice va (L[j]).2.2.length vc] 50) := ⟨_, rfl⟩
      have hba : Below wr.heap.size wr wa := by rw [hwa]; exact (Below.refl _ _).alloc (Nat.le_refl _) _
      have hPa := hP.below (below_then hba (Below.refl _ _).drew)
      have hza : w.heap.size + 1 < wa.heap.size := (Array.getElem?_eq_some_iff.1 hPa.row).1
      have hpost : ∀ (w1 : World) (v' : Value), w1.ownsRow (w.heap.size + 1 + 1) 50 3 v' ((part lv (L.take j) cc).length + 1) (xs cc ++ [.int .u64 ((L[j]).1 : Int), .slice ka (L[j]).2.1.length kc, .slice va (L[j]).2.2.length vc]) → wa.drew.grownBy w1 (cur.getD cc undef).ownBlock → (v'.ownBlock = (cur.getD cc undef).ownBlock ∨ ∃ k, v'.ownBlock = some k ∧ wa.drew.heap.size ≤ k) →
          (w1.cell? ⟨w.heap.size + 1, cc, none⟩ = some (cur.getD cc undef) ∧ w1.frozen? ⟨w.heap.size + 1, cc, none⟩ = false) ∧ (∃ cur' xs', Prt w (w1.setCell ⟨w.heap.size + 1, cc, none⟩ v') (w.heap.size + 1) lv (L.take (j + 1)) cur' xs') ∧ Below w.heap.size w (w1.setCell ⟨w.heap.size + 1, cc, none⟩ v') ∧ (w1.setCell ⟨w.heap.size + 1, cc, none⟩ v').heap[w.heap.size]? = some (.cells #[.int .i64 (lv : Int)] 3 (0, 0)) := fun w1 v' o1 o2 o3 => by
        obtain ⟨q1, q2, q3⟩ := hPa.step hchl hcc.symm h3 h4 o1 o2 o3
        rw [← List.take_succ_eq_append_getElem hlt'] at q2
        have hX : ∀ k, (k = w.heap.size + 1 ∨ (cur.getD cc undef).ownBlock = some k) → w.heap.size + 1 ≤ k := fun k hk => by
          rcases hk with rfl | hk
          · exact Nat.le_refl _
          · have := (own_lt (hPa.own cc hchl) hk).1
            omega
        have b2 : Below (w.heap.size + 1) wa.drew (w1.setCell ⟨w.heap.size + 1, cc, none⟩ v') := q3.below (Nat.le_of_lt hza) hX
        have b1 : Below (w.heap.size + 1) wr (w1.setCell ⟨w.heap.size + 1, cc, none⟩ v') := (hba.drew.mono (by have := (Array.getElem?_eq_some_iff.1 hP.row).1; omega)).trans b2
        exact And.intro q1 (And.intro q2 (And.intro (hbel.out.trans (b1.mono (by omega))) ((b1.block w.heap.size (by omega)).trans hr0.out)))
      have hown := hPa.own cc hchl
      have hcell := (hPa.cell hchl).1
      have hlen2 := part_len lv (L.take j) cc
      obtain ⟨v, hv⟩ : ∃ v, v = cur.getD cc undef := ⟨_, rfl⟩
      rw [← hv] at hown hcell hpost
      obtain ⟨n, hn⟩ : ∃ n, n = (part lv (L.take j) cc).length := ⟨_, rfl⟩
      have hn2 : n ≤ 100 := by rw [List.length_take] at hlen2; omega
      rw [← hn] at hown hpost
      have L0 : wa.cell? ⟨w.heap.size, 0, none⟩ = some (.int .i64 (lv : Int)) := row_cell ((hba.block _ (Array.getElem?_eq_some_iff.1 hr0.out).1).trans hr0.out) rfl
      have rn : wa.heap[wr.heap.size]? = some (.cells #[.int .u64 ((L[j]).1 : Int), .slice ka (L[j]).2.1.length kc, .slice va (L[j]).2.2.length vc] 50 (0, 0)) := by rw [hwa]; exact heap_alloc_new wr _
      have E0 : wa.cell? ⟨wr.heap.size, 0, none⟩ = some (.int .u64 ((L[j]).1 : Int)) := row_cell rn rfl
      have E1 : wa.cell? ⟨wr.heap.size, 1, none⟩ = some (.slice ka (L[j]).2.1.length kc) := row_cell rn rfl
      have E2 : wa.cell? ⟨wr.heap.size, 2, none⟩ = some (.slice va (L[j]).2.2.length vc) := row_cell rn rfl
      have P0 : wa.cell? ⟨w.heap.size + 1, cc, none⟩ = some v := hcell
      have P1 : ∀ o, (wa.alloc o).cell? ⟨w.heap.size + 1, cc, none⟩ = some v := fun o => (cell_kept (((Below.refl _ wa).alloc (Nat.le_refl _) o).block (w.heap.size + 1) hza)).trans hcell
      have hzB : w.heap.size + 1 + 1 ≤ wa.drew.heap.size := hza
      obtain ⟨q, hq⟩ : ∃ q : Nat, q = (L[j]).1 := ⟨_, rfl⟩
      obtain ⟨x, hx⟩ : ∃ x : Nat, x = (L[j]).2.1.length := ⟨_, rfl⟩
      obtain ⟨y, hy⟩ : ∃ x : Nat, x = (L[j]).2.2.length := ⟨_, rfl⟩
      simp only [← hq] at h0 E0 hat hpost hwa
      simp only [← hx] at h1 E1 hpost hwa
      simp only [← hy] at h2 E2 hpost hwa
      have Q1 := P1 (.cells #[.int .u64 (q : Int), .slice ka x kc, .slice va y vc] 50)
      have L0s := L0
      rw [hwa] at L0s
      have HAT := Lib.hid hat; clear hat
      have HWI := Lib.hid hwith; clear hwith
      have HPO := Lib.hid hpost; clear hpost
      have HO := Lib.hid hown; clear hown
      have HM2 := Lib.hid hm2; clear hm2
      have HWA := Lib.hid hwa; clear hwa
      have HZB := Lib.hid hzB; clear hzB
      clear hq hx hy hn hv hPa hP hba hza hcell P1 rn hlen2 hpr hr0 hbel h3 h4 hm hm1 hcc hh HA HG HF HT HIH HAL
      have i0 : decide ((cc : Int) < 0) = false := decide_eq_false (by omega)
      have i1 : decide ((cc : Int) < 32) = true := decide_eq_true (by omega)
      have i2 : (cc : Int) < 32 := by omega
      have i3 : ¬ (32 : Int) ≤ (cc : Int) := by omega
      have i4 : ¬ (cc : Int) < 0 := by omega
      go_wp2_with fail
      rw [← HWA.out]
      refine (HAT.out _).mono ?_
      rintro e w' ⟨rfl, rfl⟩
      go_wp2_with fail
      refine wp_nofail ?_
      go_region_law (first
        | (refine step_appK 22 50 _ 3 56 Tryz.underlying22 Tryz.info50 rfl (by decide) (by decide) rfl (.tmp 25) (.tmp 27) rfl v n (xs cc) HO.out [.int .u64 (q : Int), .slice ka x kc, .slice va y vc] rfl (by intro u hu; simp at hu; rcases hu with rfl | rfl | rfl <;> rfl) (by simp [Act.eval]) (by simp [Act.eval]) (by omega) HZB.out ?_; intro v' w1 o1 o2 o3; obtain ⟨A', c', rfl, _⟩ := row_reads3 o1; obtain ⟨⟨s1, s2⟩, s3⟩ := HPO.out _ _ o1 o2 o3)
        | fail)
      all_goals
        have S3 := Lib.hid s3
        clear s3 o1 o2 o3 s1 s2
        go_wp2_with fail
        refine (HWI.out _).mono ?_
        rintro e w' ⟨rfl, rfl⟩
        go_wp2_with fail
        go_roundw
        case rel => exact ⟨j + 1, by go_num, by omega, by rw [HM2.out], S3.out.2.1, S3.out.2.2, S3.out.1⟩
        case measure => simp [intOf]; omega
    · obtain rfl : j = LL := by omega
      have hLt : L.take j = L := by rw [HLL.out, List.take_length]
      obtain ⟨cur, xs, hP⟩ := hpr.out
      rw [hLt] at hP ⊢
      obtain ⟨m, hm⟩ : ∃ m, m = mask lv L := ⟨_, rfl⟩
      have hm32 : m < 4294967296 := by rw [hm]; exact mask_lt lv L
      rw [← hm]
      obtain ⟨w1, hw1⟩ : ∃ w1, w1 = wr.alloc (.cells #[.slice none 0 0] 116) := ⟨_, rfl⟩
      have b1 : Below wr.heap.size wr w1 := by rw [hw1]; exact (Below.refl _ _).alloc (Nat.le_refl _) _
      have z1 : w1.heap.size = wr.heap.size + 1 := by rw [hw1]; simp
      have k1 : Boxed w1 wr.heap.size 116 (.slice none 0 0) := by rw [hw1]; exact Boxed.new wr 116 _
      have HALL := Lib.hid (fun W => all_any m W)
      have HW1 := Lib.hid hw1; clear hw1
      have HMM := Lib.hid hm; clear hm
      have HP := Lib.hid hP; clear hP
      clear hLt
      go_wp2_with fail
      rw [← HW1.out]
      refine (HALL.out _).mono ?_
      rintro e wy ⟨rfl, hwy⟩
      have b12 : Below w1.heap.size w1 wy := by rw [← hwy]; exact (Below.refl _ _).alloc (Nat.le_refl _) _
      have z2 : wy.heap.size = w1.heap.size + 1 := by rw [← hwy]; simp
      have rm : wy.heap[w1.heap.size]? = some (.cells #[.int .u32 (m : Int)] 54 (0, 0)) := by rw [← hwy]; exact heap_alloc_new w1 _
      have hef := fun lb : Array Value => (by kernel_rfl : Sem.run Tryz.prog (binOp BinOp.eql 140 (Value.func (Fn.func 85) #[] lb) Value.nilFunc) wy = .ok (.bool false) wy)
      clear hwy
      have bwy : Below wr.heap.size wr wy := below_then b1 b12
      have ky : Boxed wy wr.heap.size 116 (.slice none 0 0) := (b12.block _ (by omega)).trans k1
      have hTy : Tab wy := (HT.out.below hbel.out).below bwy
      obtain ⟨KB, hKB⟩ : ∃ KB, KB = wr.heap.size := ⟨_, rfl⟩
      obtain ⟨N, hN⟩ : ∃ N, N = wy.heap.size + 2 := ⟨_, rfl⟩
      rw [← hKB] at ky
      have hKB0 : 0 < KB := by have := hTy.lt; have := (HT.out.lt); have := hbel.out.size; omega
      obtain ⟨X, hX⟩ : ∃ X : Nat → Prop, X = fun k => k = KB ∨ N ≤ k := ⟨_, rfl⟩
      obtain ⟨kidF, hkidF⟩ : ∃ kidF : Nat → Nd, kidF = fun i => layL f (lv + 1) (part lv L (nthc m i)) := ⟨_, rfl⟩
      have hX0 : ¬ X 0 := by rw [hX]; rintro (h | h) <;> omega
      have hseq : HandsK 2 Tryz.prog 85 #[.pointer (some ⟨w1.heap.size, 0, none⟩)] X (fun j vs W => But X wy W ∧ j < (Bt.lst m 32).length ∧ vs = #[.int .i64 ((Bt.lst m 32).getD j 0)]) (fun j => j = (Bt.lst m 32).length) wy :=
        bits_handsK (by omega) hm32 (row_cell rm rfl) (by omega) hTy hX0
      obtain ⟨I, hI⟩ : ∃ I : Nat → World → Prop, I = fun (j : Nat) W => But X wy W ∧ ∃ vk vs, Kds F N KB kidF j W vk vs := ⟨_, rfl⟩
      obtain ⟨Ix, hIx⟩ : ∃ Ix : Code → Nat → World → Prop, Ix = fun (_ : Code) (_ : Nat) _ => False := ⟨_, rfl⟩
      have sI : ∀ j A B, I j A → But (fun k => k = wy.heap.size ∨ k = wy.heap.size + 1) A B → I j B := by
        subst hI
        rintro j A B ⟨h1, vk, vs, h2⟩ k
        refine ⟨⟨k.os.trans h1.os, k.tape.trans h1.tape, k.output.trans h1.output, Nat.le_trans h1.size k.size, fun i hi hx => (k.block i (Nat.lt_of_lt_of_le hi h1.size) (by omega)).trans (h1.block i hi hx)⟩, vk, vs, h2.but (by have := h1.size; omega) k fun q hq => by omega⟩
      have I0 : I 0 wy := by
        subst hI
        exact ⟨But.refl _ _, _, _, Kds.start F N KB kidF wy ky⟩
      have HI := Lib.hid (And.intro hI (And.intro hX hkidF)); clear hX hkidF
      have HBW := Lib.hid bwy; clear bwy
      have HKN : Hid (KB < wy.heap.size ∧ wy.heap.size + 2 = N ∧ KB = wr.heap.size) := ⟨by omega, by omega, hKB⟩
      clear b1 b12 k1 rm ky HALL z1 z2 hKB hN
      go_wp2_with fail
      clear hef
      refine (wpIn_wide (n := 3)).1 ?_
      refine wp_rangeK (n := 3) (gf := 85) (lb := #[.pointer (some ⟨w1.heap.size, 0, none⟩)]) rfl (enters_of Tryz.func85 (by kernel_rfl) rfl) I Ix hseq sI ?sIx ?hX I0 ?round ?done ?stop
      case sIx => subst hIx; exact fun c j A B h _ => h
      case hX =>
        rw [HI.out.2.1]
        have := HKN.out
        rintro k (h | h) <;> omega
      case stop =>
        intro d c j W hd hix hdf
        rw [hIx] at hix
        exact hix.elim
      case done =>
        clear hseq I0
        intro d jd W hd hD hi hdf
        rw [hI] at hi
        obtain ⟨g1, vk, vs, kds⟩ := hi
        have hkn := HKN.out
        have hn0 : L ≠ [] := fun e => by
          have := HAL.out
          rw [e] at this
          cases this
        have hk0 : 0 < (Bt.lst m 32).length := by rw [HMM.out]; exact mask_pos hn0
        have hk32 := Bt.list_le m 32
        have hvl := kds.len
        have hkcell : W.cell? ⟨wr.heap.size, 0, none⟩ = some vk := by rw [← hkn.2.2]; exact kds.box.cell
        obtain ⟨_, Ak, ck, rfl, hck, hkg⟩ := row_reads1 kds.row
        obtain ⟨g, rfl, hgN, hgW, hgc⟩ := hkg (by omega)
        have hlaid : ∀ i, Laid (part lv L (nthc m i)) (lv + 1) (kidF i) := fun i => by rw [HI.out.2.2]; exact lay_laid f (lv + 1) _ (by omega) (HG.out.part _)
        have hnds : Nds (fun b => F b ∧ N ≤ b) W (some ⟨g, 0, none⟩) jd kidF := .inr ⟨g, vs, rfl, hgW, hvl, fun i hi => by
          obtain ⟨v, e1, e2⟩ := kds.kids i (by omega)
          have e3 : v = vs[i] := by rw [List.getElem?_eq_getElem hi] at e1; exact (Option.some.inj e1).symm
          subst e3
          exact ⟨(hgc i (by omega)).trans e1, e2.mono fun b _ hF => ⟨hF.1, hF.2.1⟩⟩⟩
        have hsum : sumTo (fun i => (kidF i).cnt) jd = L.length := by
          rw [sumTo_congr _ fun i hi => (hlaid i).cnt, hD, HMM.out]
          exact sum_parts lv _ (lst_nodup _ _) L fun e he => (mask_mem lv L _).2 ⟨e, he, rfl⟩
        have hszW : wy.heap.size ≤ W.heap.size := g1.size
        have hdl : d < W.heap.size := (Array.getElem?_eq_some_iff.1 hdf).1
        have hFut : Fut (fun b => F b ∧ N ≤ b) W := fun b hb => ⟨HF.out b (by have := HBW.out.size; have := hbel.out.size; omega), by
          omega⟩
        have hbr := branch_any ck hFut hm32 hnds (by omega) (fun i _ => (hlaid i).ok) (by rw [hsum]; have := HG.out.len; omega)
        have hbran : Nd.branch m jd kidF = layL (f + 1) lv L := by
          have e1 : layL (f + 1) lv L = .bran m (Bt.lst m 32).length kidF := by
            rw [layL, if_neg (by rw [HAL.out]; decide), HI.out.2.2, ← HMM.out]
          have e2 : someTo kidF jd = true := (someTo_iff kidF jd).2 fun i hi e => by
            have := (hlaid i).nil.1 e
            refine part_ne (lv := lv) (L := L) (i := i) ?_ ?_
            · rw [← HMM.out]; omega
            · rw [← HMM.out]; exact this
          rw [e1, Nd.branch, if_pos (by rw [decide_eq_true (show 0 < jd by omega), decide_eq_true hD.symm, e2]; rfl), hD]
        rw [hbran] at hbr
        have hfin : ∀ w' : World, Below W.heap.size W w' → w'.heap[d]? = some (.deferred (some [])) ∧ ∀ v, Nde (fun b => F b ∧ N ≤ b) w' (layL (f + 1) lv L) v → Nde F (w'.putObj d (.deferred none)) (layL (f + 1) lv L) v ∧ Below w.heap.size w (w'.putObj d (.deferred none)) := fun w' hb => by
          have p := But.put w' d (.deferred none)
          refine ⟨(hb.block d hdl).trans hdf, fun v hv => ⟨(hv.kept fun b hF hl => p.block b hl (by omega)).mono fun b _ hF => hF.1, ?_⟩⟩
          refine ⟨p.os.trans (hb.os.trans (g1.os.trans (HBW.out.os.trans hbel.out.os))), p.tape.trans (hb.tape.trans (g1.tape.trans (HBW.out.tape.trans hbel.out.tape))), p.output.trans (hb.output.trans (g1.output.trans (HBW.out.output.trans hbel.out.output))), ?_, fun k hk => ?_⟩
          · have := hbel.out.size
            have := HBW.out.size
            have := hb.size
            have := p.size
            omega
          · have h1 := hbel.out.size
            have h2 := HBW.out.size
            have h3 := hb.size
            refine (p.block k (by omega) (by omega)).trans ((hb.block k (by omega)).trans ((g1.block k (by omega) fun e => ?_).trans ((HBW.out.block k (by omega)).trans (hbel.out.block k hk))))
            rw [HI.out.2.1] at e
            rcases e with e | e <;> omega
        have HBR := Lib.hid hbr; clear hbr
        have HFIN := Lib.hid hfin; clear hfin
        have HJD := Lib.hid hD; clear hD
        clear hbran hFut hdl hszW hsum hnds hlaid hgc hgW hgN hck hvl hk32 hk0 hn0 hkn kds g1 hdf hI hIx sI hd hj hlen hpr hr0
        go_wp2_with fail
        refine HBR.out.mono ?_
        rintro e w' ⟨v, rfl, hv, hb⟩
        obtain ⟨f1, f2⟩ := HFIN.out w' hb
        have HF2 := Lib.hid (f2 v hv); clear f2 hv hb
        have HF1 := Lib.hid f1; clear f1
        go_wp2_with fail
        refine ⟨by simp, .inl ⟨_, _, rfl, run_takeDeferred HF1.out, ?_⟩⟩
        refine ⟨v, ?_, ?_⟩
        · simp [results, Tryz.f43, go_sem]
        · exact ⟨v, rfl, HF2.out.1, HF2.out.2⟩
      case round =>
        clear hseq I0
        rintro l jj vs W hl hlt hi ⟨hkw, hj, rfl⟩
        have hkn := HKN.out
        have hcm := nthc_mem hj
        obtain ⟨cN, hcN⟩ : ∃ cN : Nat, (cN : Int) = nthc m jj := ⟨(nthc m jj).toNat, by have := Bt.lst_lt m 32 _ hcm; omega⟩
        have hc32 : cN < 32 := by have := Bt.lst_lt m 32 _ hcm; omega
        have hcg : (Bt.lst m 32).getD jj 0 = (cN : Int) := hcN.symm
        rw [hcg]
        refine ⟨rfl, fun K hK => ?_⟩
        have HK := Lib.hid hK; clear hK
        have HII := Lib.hid hi; clear hi
        have HKW := Lib.hid hkw; clear hkw
        have HCN := Lib.hid hcN; clear hcN
        have hc33 : (cN : Int) < 32 := by omega
        clear hcg hcm
        gi_wp2_with fail
        refine HK.out _ _ (But.refl _ _) ?_
        rintro W2 hk2 ⟨r, hr⟩
        have hI2 := sI jj W W2 HII.out (hk2.mono fun k e => .inr (by omega))
        rw [hI] at hI2
        obtain ⟨g1, vk, vs, kds⟩ := hI2
        have hl2 : l < W2.heap.size := Nat.lt_of_lt_of_le hlt hk2.size
        have bW2 : Below wr.heap.size wr W2 := by
          refine ⟨g1.os.trans HBW.out.os, g1.tape.trans HBW.out.tape, g1.output.trans HBW.out.output, Nat.le_trans HBW.out.size g1.size, fun k hk => (g1.block k (by have := HBW.out.size; omega) fun e => ?_).trans (HBW.out.block k hk)⟩
          rw [HI.out.2.1] at e
          rcases e with e | e
          · omega
          · have := HBW.out.size; omega
        obtain ⟨Ap, cp, hvp, hcp, hEp⟩ := ens_own (HP.out.own cN hc32) rfl (HP.out.ens cN hc32) hbel.out
        have hEp2 : Ens W2 Ap (part lv L cN) := hEp.below bW2
        have hpcell : W2.cell? ⟨w.heap.size + 1, cN, none⟩ = some (cur.getD cN undef) := ((bW2.cell (p := ⟨w.heap.size + 1, cN, none⟩) (Array.getElem?_eq_some_iff.1 HP.out.row).1)).trans (HP.out.cell hc32).1
        have hlcell : W2.cell? ⟨w.heap.size, 0, none⟩ = some (.int .i64 (lv : Int)) := row_cell ((bW2.block _ (Array.getElem?_eq_some_iff.1 hr0.out).1).trans hr0.out) rfl
        have hkcell : W2.cell? ⟨wr.heap.size, 0, none⟩ = some vk := by rw [← hkn.2.2]; exact kds.box.cell
        have hFut : Fut (Kd F N vk) W2 := fun b hb => ⟨HF.out b (by have := bW2.size; have := hbel.out.size; omega), by omega, fun e => by have := (own_lt kds.row e).2.1; omega⟩
        have hTW : Tab W2 := (HT.out.below hbel.out).below bW2
        have hkx : kidF jj = layL f (lv + 1) (part lv L cN) := by rw [HI.out.2.2, HCN.out]
        have hlaid : ∀ W', Below W2.heap.size W2 W' → Calls Tryz.prog 17 #[.slice Ap (part lv L cN).length cp, .int .i64 ((lv : Int) + 1)] W' fun e w' => ∃ v, e = .returned v ∧ Nde (Kd F N vk) w' (kidF jj) v ∧ Below W'.heap.size W' w' := fun W' hW' => by
          have := HIH.out (Kd F N vk) W' Ap cp (part lv L cN) (hFut.later hW'.size) (hTW.below hW') (hEp2.below hW') (HG.out.part cN)
          rw [← hkx] at this
          simpa using this
        have hadd := fun (W3 W4 : World) (nv vk' : Value) (q1 : Below W2.heap.size W2 W3) (q2 : Nde (Kd F N vk) W3 (kidF jj) nv) (q3 : W4.ownsRow N 26 1 vk' (jj + 1) (vs ++ [nv])) (q4 : W3.grownBy W4 vk.ownBlock) (q5 : vk'.ownBlock = vk.ownBlock ∨ ∃ b, vk'.ownBlock = some b ∧ W3.heap.size ≤ b) => kds.add (by omega) (by omega) q1 q2 q3 q4 q5
        have hrow := kds.row
        obtain ⟨vp, hvpn⟩ : ∃ vp, vp = cur.getD cN undef := ⟨_, rfl⟩
        rw [← hvpn] at hpcell hvp
        subst hvp
        obtain ⟨np, hnp⟩ : ∃ np, np = (part lv L cN).length := ⟨_, rfl⟩
        rw [← hnp] at hpcell hlaid
        obtain ⟨_, Ak, ck, rfl, hck, hkg⟩ := row_reads1 hrow
        have HKL : Hid (wr.heap.size < W2.heap.size) := by have := bW2.size; have := g1.size; show _ < _; omega
        have HPL : Hid (w.heap.size + 1 < W2.heap.size ∧ w.heap.size < W2.heap.size) := by have := bW2.size; have := (Array.getElem?_eq_some_iff.1 HP.out.row).1; exact ⟨by omega, by omega⟩
        have HKJ : Hid (jj < (Bt.lst m 32).length) := hj
        have HLA := Lib.hid hlaid; clear hlaid
        have HADD := Lib.hid hadd; clear hadd
        have HROW := Lib.hid hrow; clear hrow
        have HG1 := Lib.hid g1; clear g1
        have HKD := Lib.hid kds; clear kds
        have HQ := Lib.hid (And.intro hI hIx); clear hI hIx
        have HSI := Lib.hid sI; clear sI
        clear hkn hEp hEp2 hFut hTW hkx hcp hk2 hr HII HK HKW hnp hvpn bW2 hck hkg hj
        gi_wp2_with fail
        refine wpIn_region_mix 8 (by kernel_rfl) (by kernel_rfl) (fun _ W => Below W2.heap.size W2 W) (KG F N (w.heap.size + 1) cN lv (.slice Ak jj ck) (.slice Ap np cp) (kidF jj)) ?_ ?_ ?_ ?_
        · exact (Below.refl _ _).drew
        · intro i hi
          have hc : i = 0 ∨ i = 1 ∨ i = 2 ∨ i = 3 ∨ i = 4 ∨ i = 5 ∨ i = 6 ∨ i = 7 := by omega
          rcases hc with rfl | rfl | rfl | rfl | rfl | rfl | rfl | rfl <;> exact ⟨_, rfl, by simp⟩
        · intro i hi listed a w' hls hag hdep hun
          have hc : i = 0 ∨ i = 1 ∨ i = 2 ∨ i = 3 ∨ i = 4 ∨ i = 5 ∨ i = 6 ∨ i = 7 := by omega
          rcases hc with rfl | rfl | rfl | rfl | rfl | rfl | rfl | rfl
          · have he := hag.keeps 10 (.pointer (some ⟨wr.heap.size, 0, none⟩)) (by kernel_rfl) rfl
            have hx := (hag.inv.cell (p := ⟨wr.heap.size, 0, none⟩) HKL.out).trans hkcell
            refine wpOpIn_of _ rfl rfl ⟨fun _ _ => trivial, ?_⟩
            rw [Oper.semAt_eq _ _ _ (fun c h => by cases h)]
            unfold execOp
            go_simp
            first | exact ⟨_, rfl, hag.inv, rfl, fun _ _ _ _ _ h => h⟩ | exact ⟨_, rfl, hag.inv, rfl⟩ | trace_state
          · have he := hag.keeps 11 (.int .i64 (cN : Int)) (by kernel_rfl) rfl
            refine wpOpIn_of _ rfl rfl ⟨fun _ _ => trivial, ?_⟩
            rw [Oper.semAt_eq _ _ _ (fun c h => by cases h)]
            unfold execOp
            go_simp
            first | exact ⟨_, rfl, hag.inv, rfl, fun _ _ _ _ _ h => h⟩ | exact ⟨_, rfl, hag.inv, rfl⟩ | trace_state
          · obtain ⟨v1, hv1, hg1⟩ := hag.slot 1 38 (by decide) (hdep 1 ⟨_, rfl, ⟨1, .data⟩, by simp, rfl, rfl⟩) rfl
            obtain rfl : v1 = _ := hg1
            have hev := eval_tmp hv1
            have he := hag.keeps 5 (.pointer (some ⟨w.heap.size + 1, 0, none⟩)) (by kernel_rfl) rfl
            refine wpOpIn_of _ rfl rfl ⟨fun _ _ => trivial, ?_⟩
            rw [Oper.semAt_eq _ _ _ (fun c h => by cases h)]
            unfold execOp
            go_simp
            first | exact ⟨_, rfl, hag.inv, rfl, fun _ _ _ _ _ h => h⟩ | exact ⟨_, rfl, hag.inv, rfl⟩ | trace_state
          · obtain ⟨v2, hv2, hg2⟩ := hag.slot 2 39 (by decide) (hdep 2 ⟨_, rfl, ⟨2, .data⟩, by simp, rfl, rfl⟩) rfl
            obtain rfl : v2 = _ := hg2
            have hev := eval_tmp hv2
            have hx := (hag.inv.cell (p := ⟨w.heap.size + 1, cN, none⟩) HPL.out.1).trans hpcell
            refine wpOpIn_of _ rfl rfl ⟨fun _ _ => trivial, ?_⟩
            rw [Oper.semAt_eq _ _ _ (fun c h => by cases h)]
            unfold execOp
            go_simp
            first | exact ⟨_, rfl, hag.inv, rfl, fun _ _ _ _ _ h => h⟩ | exact ⟨_, rfl, hag.inv, rfl⟩ | trace_state
          · have he := hag.keeps 3 (.pointer (some ⟨w.heap.size, 0, none⟩)) (by kernel_rfl) rfl
            have hx := (hag.inv.cell (p := ⟨w.heap.size, 0, none⟩) HPL.out.2).trans hlcell
            refine wpOpIn_of _ rfl rfl ⟨fun _ _ => trivial, ?_⟩
            rw [Oper.semAt_eq _ _ _ (fun c h => by cases h)]
            unfold execOp
            go_simp
            first | exact ⟨_, rfl, hag.inv, rfl, fun _ _ _ _ _ h => h⟩ | exact ⟨_, rfl, hag.inv, rfl⟩ | trace_state
          · obtain ⟨v4, hv4, hg4⟩ := hag.slot 4 41 (by decide) (hdep 4 ⟨_, rfl, ⟨4, .data⟩, by simp, rfl, rfl⟩) rfl
            obtain rfl : v4 = _ := hg4
            have hev := eval_tmp hv4
            have hwr : IntKind.i64.wrap ((lv : Int) + 1) = (lv : Int) + 1 := by rw [IntKind.wrap_i64]; omega
            refine wpOpIn_of _ rfl rfl ⟨fun _ _ => trivial, ?_⟩
            rw [Oper.semAt_eq _ _ _ (fun c h => by cases h)]
            unfold execOp
            go_simp
            first | exact ⟨_, rfl, hag.inv, rfl, fun _ _ _ _ _ h => h⟩ | exact ⟨_, rfl, hag.inv, rfl⟩ | trace_state
          · obtain ⟨v3, hv3, hg3⟩ := hag.slot 3 40 (by decide) (hdep 3 ⟨_, rfl, ⟨3, .data⟩, by simp, rfl, rfl⟩) rfl
            obtain ⟨v5, hv5, hg5⟩ := hag.slot 5 42 (by decide) (hdep 5 ⟨_, rfl, ⟨5, .data⟩, by simp, rfl, rfl⟩) rfl
            obtain rfl : v3 = _ := hg3
            obtain rfl : v5 = _ := hg5
            have hev3 := eval_tmp hv3
            have hev5 := eval_tmp hv5
            refine wpOpIn_of _ rfl rfl ⟨fun _ _ => trivial, ?_⟩
            rw [Oper.semAt_eq _ _ _ (fun c h => by cases h)]
            unfold execOp
            go_simp
            refine (CallsIn.inRound l (callsIn_wide.2 (HLA.out w' hag.inv))).mono ?_
            rintro e w'' ⟨v, rfl, hv, hb⟩
            exact ⟨_, rfl, below_then hag.inv hb, hv, fun _ _ _ _ _ h => h.below hb⟩
          · obtain ⟨v6, hv6, hg6⟩ := hag.slot 6 43 (by decide) (hdep 6 ⟨_, rfl, ⟨6, .data⟩, by simp, rfl, rfl⟩) rfl
            have hev := eval_tmp hv6
            have hnl : Nde (Kd F N (.slice Ak jj ck)) w' (kidF jj) v6 := hg6
            have hbn : ∀ o, Below w'.heap.size w' (w'.alloc o) := fun o => (Below.refl _ _).alloc (Nat.le_refl _) _
            rcases hnl.nil_iff with ⟨hx0, hvv⟩ | ⟨hx0, tt, bb, hvv⟩ <;> subst hvv <;> clear hx0
            all_goals
              refine wpOpIn_of _ rfl rfl ⟨fun _ _ => trivial, ?_⟩
              rw [Oper.semAt_eq _ _ _ (fun c h => by cases h)]
              unfold execOp
              go_simp
              exact ⟨_, rfl, below_then hag.inv (hbn _), ⟨_, _, rfl, heap_alloc_new w' _, hnl.below (hbn _)⟩, fun _ _ _ _ _ h => h.below (hbn _)⟩
        · intro listed a w' hall hag
          obtain ⟨v0, s0, g0⟩ := hag.slot 0 37 (by decide) (hall 0 (by decide)) rfl
          obtain ⟨v1, s1, g1⟩ := hag.slot 1 38 (by decide) (hall 1 (by decide)) rfl
          obtain ⟨v2, s2, g2⟩ := hag.slot 2 39 (by decide) (hall 2 (by decide)) rfl
          obtain ⟨v3, s3, g3⟩ := hag.slot 3 40 (by decide) (hall 3 (by decide)) rfl
          obtain ⟨v4, s4, g4⟩ := hag.slot 4 41 (by decide) (hall 4 (by decide)) rfl
          obtain ⟨v5, s5, g5⟩ := hag.slot 5 42 (by decide) (hall 5 (by decide)) rfl
          obtain ⟨v6, s6, g6⟩ := hag.slot 6 43 (by decide) (hall 6 (by decide)) rfl
          obtain ⟨v7, s7, g7⟩ := hag.slot 7 44 (by decide) (hall 7 (by decide)) rfl
          obtain rfl : v0 = _ := g0
          obtain rfl : v1 = _ := g1
          obtain rfl : v2 = _ := g2
          obtain rfl : v3 = _ := g3
          obtain rfl : v4 = _ := g4
          obtain rfl : v5 = _ := g5
          obtain ⟨g, nv, rfl, hgr, hnv⟩ := g7
          have ha := hag.whole [(37, .slice Ak jj ck), (38, .int .i64 (cN : Int)), (39, .pointer (some ⟨w.heap.size + 1, cN, none⟩)), (40, .slice Ap np cp), (41, .int .i64 (lv : Int)), (42, .int .i64 ((lv : Int) + 1)), (43, v6), (44, .slice (some ⟨g, 0, none⟩) 1 1)] (by
            intro i hi
            have hc : i = 0 ∨ i = 1 ∨ i = 2 ∨ i = 3 ∨ i = 4 ∨ i = 5 ∨ i = 6 ∨ i = 7 := by omega
            rcases hc with rfl | rfl | rfl | rfl | rfl | rfl | rfl | rfl <;> exact ⟨_, rfl, by simp⟩) (List.forall_mem_cons.2 ⟨s0, List.forall_mem_cons.2 ⟨s1, List.forall_mem_cons.2 ⟨s2, List.forall_mem_cons.2 ⟨s3, List.forall_mem_cons.2 ⟨s4, List.forall_mem_cons.2 ⟨s5, List.forall_mem_cons.2 ⟨s6, List.forall_mem_cons.2 ⟨s7, fun p hp => absurd hp (by simp)⟩⟩⟩⟩⟩⟩⟩⟩)
          simp only [List.foldl_cons, List.foldl_nil, List.setIfInBounds_toArray, List.set_cons_succ, List.set_cons_zero] at ha
          have hkn := HKN.out
          have hjl : jj ≤ 32 := by have := HKJ.out; have := Bt.list_le m 32; omega
          obtain ⟨i0, hi0, hz0, hz1, hz2⟩ := info_parts Tryz.info26
          obtain ⟨v', W4, hr, hown, hg4, _, hob⟩ := run_append_own_at (P := Tryz.prog) (w := w') N 116 116 26 i0 .nilIface 1 16 Tryz.underlying116 hi0 hz0 hz1 hz2 rfl (by decide) _ jj vs (own_below HROW.out hag.inv) ⟨g, 0, none⟩ 1 1 [nv] rfl
            (by
              intro q u hq
              rw [Go.WideShapes.add_plain, Nat.zero_add, cell_of_row _ g q _ 26 (0, 0) hgr, ← hq]
              simp)
            (by
              intro u hu
              rw [List.mem_singleton] at hu
              subst hu
              exact hnv.one)
            (by unfold maxLen; omega) (by omega) (by have := hag.inv.size; omega)
          obtain ⟨⟨q1, q2⟩, q3, q4⟩ := HADD.out w' W4 nv v' hag.inv hnv hown hg4 (hob.imp id fun h => ⟨_, h, Nat.le_refl _⟩)
          obtain ⟨_, A4, c4, rfl, _, _⟩ := row_reads1 hown
          rw [hkn.2.2] at q1 q2 q3 q4
          have Q3 := Lib.hid (And.intro q3 q4); clear q3 q4
          rw [ha]
          clear ha hag hall s0 s1 s2 s3 s4 s5 s6 s7 g6 hgr hnv hown hg4 hob HADD HROW hkn hi0 hz0 hz1 hz2
          simp only [List.drop_succ_cons, List.drop_zero]
          refine listIn_app _ rfl rfl rfl rfl hr ?_
          clear hr
          gi_wp2_with fail
          have hbX : But X W2 (W4.setCell ⟨wr.heap.size, 0, none⟩ (.slice A4 (jj + 1) c4)) := by
            rw [HI.out.2.1, HKN.out.2.2]
            exact Q3.out.2
          refine ⟨hbX, ?_⟩
          rw [HQ.out.1]
          exact ⟨HG1.out.trans hbX, _, _, by rw [HKN.out.2.2]; exact Q3.out.1⟩
theorem leaf_alone (L : List En) (h : L.length = 1) : ∃ e, L = [e] := List.length_eq_one_iff.1 h
/-- the layout of entries of one hash, none, or but one; and of others, by branched -/
theorem laid_step {f lv : Nat} (hf : f + lv = 13) (F : Nat → Prop) (w : World) (A : Option Addr) (c : Nat) (L : List En) (hF : Fut F w) (ha : Ens w A L) (hG : Good lv L)
    (hbr : alike L = false → Calls Tryz.prog 43 #[.slice A L.length c, .int .i64 (lv : Int)] w fun e w' => ∃ v, e = .returned v ∧ Nde F w' (layL f lv L) v ∧ Below w.heap.size w w')
    (hbr2 : ∀ w', Below w.heap.size w w' → alike L = false → Calls Tryz.prog 43 #[.slice A L.length c, .int .i64 (lv : Int)] w' fun e w'' => ∃ v, e = .returned v ∧ Nde F w'' (layL f lv L) v ∧ Below w'.heap.size w' w'') :
    Calls Tryz.prog 17 #[.slice A L.length c, .int .i64 (lv : Int)] w fun e w' => ∃ v, e = .returned v ∧ Nde F w' (layL f lv L) v ∧ Below w.heap.size w w' := by
  have hflat : alike L = true → layL f lv L = flatL L := fun h => by
    cases f with
    | zero => rfl
    | succ f => rw [layL, if_pos h]
  have HFL := Lib.hid hflat; clear hflat
  have HB2 := Lib.hid hbr2; clear hbr2 hbr
  have HF := Lib.hid hF; clear hF
  have hlen := hG.len
  have hfits := hG.fits
  have hap := hG.apart
  clear hG
  by_cases h0 : L.length = 0
  · have hx : layL f lv L = .none := by
      rw [HFL.out (by rw [List.eq_nil_of_length_eq_zero h0]; rfl), flatL, if_pos h0]
    rw [hx, h0]
    go_enter Tryz.func17, Tryz.ntmps17
    go_wp2
    go_ret
    exact ⟨_, rfl, rfl, Below.refl _ _⟩
  · obtain ⟨b, off, ka, kc, va, vc, rfl, hbl, c0, c1, c2, h3, h4⟩ := ha.at (j := 0) (by omega)
    have hm := hfits _ (List.getElem_mem (show 0 < L.length by omega))
    have hhd : ehd L = L[0] := by
      cases L with
      | nil => exact absurd rfl h0
      | cons a t => rfl
    simp only [Nat.zero_mul, Nat.add_zero] at c0 c1 c2
    by_cases h1 : L.length = 1
    · have hx : layL f lv L = .leaf (L[0]).1 (L[0]).2 := by
        obtain ⟨e, rfl⟩ := leaf_alone L h1
        rw [HFL.out (by simp [alike, ehd]), flatL, if_neg h0, if_pos h1, hhd]
      have hlf := leaf_any (L[0]).1 kc vc HF.out h3 h4 ⟨by omega, by omega⟩
      rw [← hx] at hlf
      have HLF := Lib.hid hlf; clear hlf
      have HX := Lib.hid hx; clear hx
      rw [h1]
      obtain ⟨q, hq⟩ : ∃ q : Nat, q = (L[0]).1 := ⟨_, rfl⟩
      obtain ⟨x, hxx⟩ : ∃ x : Nat, x = (L[0]).2.1.length := ⟨_, rfl⟩
      obtain ⟨y, hy⟩ : ∃ x : Nat, x = (L[0]).2.2.length := ⟨_, rfl⟩
      rw [← hq] at c0 HLF
      rw [← hxx] at c1 HLF
      rw [← hy] at c2 HLF
      clear hq hxx hy hhd hm h3 h4 hap hfits hlen ha HB2 h0 h1 HX
      go_enter Tryz.func17, Tryz.ntmps17
      go_wp2_with fail
      refine HLF.out.mono ?_
      rintro e w' ⟨v, rfl, hv, hb⟩
      have HV := Lib.hid (And.intro hv hb); clear hv hb
      go_wp2_with fail
      go_ret
      exact ⟨v, rfl, HV.out⟩
    · have hall := allHave_any ha c (L[0]).1 (by omega)
      have hal : (L.all fun e => e.1 == (L[0]).1) = alike L := by rw [alike, hhd]
      rw [hal] at hall
      cases hk : alike L with
      | true =>
        rw [hk] at hall
        have hx : layL f lv L = .buck (L[0]).1 (come (eprs L)) := by rw [HFL.out hk, flatL, if_neg h0, if_neg h1, hhd]
        have hnd : ((eprs L).map fun p => p.1).Nodup := by rw [eprs_keys]; exact hap
        have hcl : (come (eprs L)).length = L.length := by rw [come_len hnd]; simp [eprs]
        have hpf : ∀ p ∈ eprs L, p.1.length ≤ 1000 ∧ p.2.length ≤ 1000 := fun p hp => by
          obtain ⟨e, he, rfl⟩ := List.mem_map.1 hp
          exact (hfits e he).2
        have hcf : Fits (come (eprs L)) := fun p hp => hpf p (come_sub _ _ hp)
        have hel : (eprs L).length = L.length := by simp [eprs]
        obtain ⟨nn, hnn⟩ : ∃ nn, nn = L.length := ⟨_, rfl⟩
        have hpo := fun W (hW : Below w.heap.size w W) => pairsOf_any (ha.below hW) c (by omega)
        have hco := fun W g (hp : Pcs W (some ⟨g, 0, none⟩) (eprs L)) => come_any hp nn (by omega) (fun p hp => by have := hpf p hp; omega)
        have hfr := fun W g (hW : w.heap.size ≤ W.heap.size) (hp : Pcs W (some ⟨g, 0, none⟩) (come (eprs L))) => from_any (c := nn) (HF.out.later hW) hp (by omega) (by omega) (fun p hp => by have := hcf p hp; omega)
        have hbk := fun W (t : Tr) (p : Option Addr) (hW : w.heap.size ≤ W.heap.size) (ht : Tre F W t p) (he : t.even) (htl : t.list = come (eprs L)) => bucket_any (L[0]).1 (HF.out.later hW) ht he (by rw [← Tr.length, htl]; omega) (by rw [htl]; exact hcf)
        have hbx : ∀ t : Tr, t.list = come (eprs L) → (if t.list.length = 0 then Nd.none else if t.list.length = 1 then .leaf (L[0]).1 (t.list.getD 0 ([], [])) else .buck (L[0]).1 t.list) = layL f lv L := fun t htl => by
          rw [htl, if_neg (by omega), if_neg (by omega), hx]
        obtain ⟨q, hq⟩ : ∃ q : Nat, q = (L[0]).1 := ⟨_, rfl⟩
        rw [← hq] at c0 hall
        simp only [← hq] at hbk hbx
        have HBX := Lib.hid hbx; clear hbx
        rw [hel] at hco
        simp only [hcl] at hco hfr
        rw [← hnn] at hpo hco hfr hall h0 h1 ⊢
        have HPO := Lib.hid hpo; clear hpo
        have HCO := Lib.hid hco; clear hco
        have HFR := Lib.hid hfr; clear hfr
        have HBK := Lib.hid hbk; clear hbk
        have HALL := Lib.hid hall; clear hall
        have hn2 : 2 ≤ nn := by omega
        have t0 : ((nn : Int) == 0) = false := by simp; omega
        have t1 : ((nn : Int) == 1) = false := by simp; omega
        clear hq hcl hel hnd hpf hcf hx hal hhd hm h3 h4 hap hfits ha HB2 HFL hk c1 c2 hnn h0 h1
        go_enter Tryz.func17, Tryz.ntmps17
        go_wp2_with fail
        refine HALL.out.mono ?_
        rintro e w2 ⟨rfl, b2⟩
        have B2 := Lib.hid b2; clear b2
        go_wp2_with fail
        refine (HPO.out w2 B2.out).mono ?_
        rintro e w3 ⟨rfl, p3, b3⟩
        have B3 := Lib.hid (And.intro p3 (below_then B2.out b3)); clear p3 b3
        go_wp2_with fail
        refine (HCO.out w3 _ B3.out.1).mono ?_
        rintro e w4 ⟨g4, rfl, n4, b4⟩
        have B4 := Lib.hid (And.intro n4.pcs (below_then B3.out.2 b4)); clear n4 b4
        go_wp2_with fail
        refine (HFR.out w4 _ B4.out.2.size B4.out.1).mono ?_
        rintro e w5 ⟨p5, t5, rfl, ht, he, htl, b5⟩
        have B5 := Lib.hid (And.intro ht (And.intro he (And.intro htl (below_then B4.out.2 b5)))); clear ht he htl b5
        go_wp2_with fail
        refine (HBK.out w5 t5 p5 B5.out.2.2.2.size B5.out.1 B5.out.2.1 B5.out.2.2.1).mono ?_
        rintro e w6 ⟨v, rfl, hv, b6⟩
        rw [HBX.out t5 B5.out.2.2.1] at hv
        have HV := Lib.hid (And.intro hv (below_then B5.out.2.2.2 b6)); clear hv b6
        go_wp2_with fail
        go_ret
        exact ⟨v, rfl, HV.out⟩
      | false =>
        rw [hk] at hall
        have HBR := Lib.hid (fun W (hW : Below w.heap.size w W) => HB2.out W hW hk); clear HB2
        obtain ⟨q, hq⟩ : ∃ q : Nat, q = (L[0]).1 := ⟨_, rfl⟩
        rw [← hq] at c0 hall
        obtain ⟨nn, hnn⟩ : ∃ nn, nn = L.length := ⟨_, rfl⟩
        rw [← hnn] at hall HBR h0 h1 ⊢
        have HALL := Lib.hid hall; clear hall
        have hn2 : 2 ≤ nn := by omega
        have hn3 : nn ≤ 100 := by omega
        have t0 : ((nn : Int) == 0) = false := by simp; omega
        have t1 : ((nn : Int) == 1) = false := by simp; omega
        clear hq hal hhd hm h3 h4 hap hfits ha HFL hk c1 c2 hnn h0 h1 hlen
        go_enter Tryz.func17, Tryz.ntmps17
        go_wp2_with fail
        refine HALL.out.mono ?_
        rintro e w2 ⟨rfl, b2⟩
        have B2 := Lib.hid b2; clear b2
        go_wp2_with fail
        refine (HBR.out w2 B2.out).mono ?_
        rintro e w3 ⟨v, rfl, hv, b3⟩
        have HV := Lib.hid (And.intro hv (below_then B2.out b3)); clear hv b3
        go_wp2_with fail
        go_ret
        exact ⟨v, rfl, HV.out⟩
theorem laid_all : ∀ f lv, f + lv = 13 → LaidAt f lv
  | 0, lv, hf => fun F w A c L hF hT ha hG => by
    obtain rfl : lv = 13 := by omega
    have hno : alike L = false → False := fun h => by rw [hG.top] at h; cases h
    exact laid_step hf F w A c L hF ha hG (fun h => (hno h).elim) (fun _ _ h => (hno h).elim)
  | f + 1, lv, hf => fun F w A c L hF hT ha hG =>
    laid_step hf F w A c L hF ha hG (fun h => branched_any hf (laid_all f (lv + 1) (by omega)) F w A c L hF hT ha hG h)
      (fun w' hw h => branched_any hf (laid_all f (lv + 1) (by omega)) F w' A c L (hF.later hw.size) (hT.below hw) (ha.below hw) hG h)
/-- the layout of entries of unlike keys -/
theorem laid_any {F : Nat → Prop} {w : World} {A : Option Addr} {L : List En} (c : Nat) (hF : Fut F w) (hT : Tab w) (ha : Ens w A L) (hG : Good 0 L) :
    Calls Tryz.prog 17 #[.slice A L.length c, .int .i64 0] w fun e w' => ∃ v, e = .returned v ∧ Nde F w' (layL 13 0 L) v ∧ Below w.heap.size w w' := laid_all 13 0 rfl F w A c L hF hT ha hG
end Go.Proofs.YtngfbkkfnooobaaGreatDoor
