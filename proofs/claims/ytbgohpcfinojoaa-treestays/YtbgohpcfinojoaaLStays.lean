/-
  TreeStays: for every input the law answers true and leaves its arguments as they were: the walk is typed by hand, the row's step is the guide's template.
  Conditions: none beside the row's own.
-/
import Derived.Test.YtbgohpcfinojoaaMids
import Derived.Deep.RegionHeld3
import Derived.Test.YtbgohpcfinojoaaOpen
import Derived.Test.YtbgohpcfinojoaaRows
import Derived.WalkKit
import Derived.ProofKit
import Derived.OpenShut
import Derived.ShutString
import Derived.ChangeOld
import Derived.Below
namespace Go.Proofs.Ytbgohpcfinojoaa.treeStays
open Go.ChangeShapes Go.WideShapes Go.ChangeAt Go.RowKit
set_option linter.unusedVariables false
theorem own : ownKnob Try.prog.godebug = none := by kernel_rfl
theorem laidOut : laidOutB Try.prog = true := by kernel_rfl
theorem told_en {F : Nat → Prop} {W : World} {t : Tr} {p : Option Addr} {L : List Pr} {n : Nat} (ht : Tre F W t p) (hl : t.list = L) (hn : n = L.length) (h1 : n ≤ 100) (hf : ∀ x ∈ L, x.1.length ≤ 100 ∧ x.2.length ≤ 100) :
    Calls Try.prog 13 #[.pointer p] W fun e w' => ∃ A c, e = .returned (.slice A n c) ∧ Pcs w' A L ∧ Below W.heap.size W w' := by
  subst hl hn
  refine (list_any ht (by rw [← Tr.length]; omega) (fun x hx => by have := hf x hx; omega)).mono ?_
  rintro e w' ⟨A, c, rfl, h, hb⟩
  exact ⟨A, c, rfl, h.pcs, hb⟩
theorem is_true {W : World} {A B : Option Addr} {L : List Pr} {n : Nat} (ha : Pcs W A L) (hb : Rcs W B L) (c d : Nat) (hn : n = L.length) (h1 : n ≤ 100) :
    Calls Try.prog 12 #[.slice A n c, .slice B n d] W fun e w' => e = .returned (.bool true) ∧ Below W.heap.size W w' := by
  subst hn
  have h := refIs_any ha hb c d (by omega)
  rwa [decide_eq_true (show L = L from rfl)] at h
set_option maxRecDepth 100000 in
set_option maxHeartbeats 4000000 in
theorem walk {A0 : Option Addr} {c0 : Nat} {L0 : List Opn} (w : World) (hc0 : L0.length ≤ c0) (hm0 : c0 ≤ maxLen) (ha0 : Ocs w A0 L0) :
    Calls Try.prog 4 #[.slice A0 L0.length c0] w fun e w' => e = .returned (.bool true) ∧ Below w.heap.size w w' := by
  have hsm := fine_any ha0 c0 40 (by decide) (Nat.le_trans hc0 hm0)
  have HAW := Lib.hid awake_any
  cases hs : (decide (L0.length ≤ 40) && tinyO L0) with
  | false =>
    rw [hs] at hsm
    have HSM := Lib.hid hsm; clear hsm
    clear ha0 hs hc0 hm0
    go_enter Try.func4, Try.ntmps4
    go_wp2_with fail
    refine HSM.out.mono ?_
    rintro e w1 ⟨rfl, hb⟩
    have HB := Lib.hid hb; clear hb
    go_wp2_with fail
    refine (HAW.out _).mono ?_
    rintro e w2 ⟨rfl, hb⟩
    have HB2 := Lib.hid hb; clear hb
    go_wp2_with fail
    go_ret
    exact ⟨rfl, below_then HB.out HB2.out⟩
  | true =>
    rw [hs] at hsm
    obtain ⟨hlen, htiny⟩ : L0.length ≤ 40 ∧ tinyO L0 = true := by simpa using hs
    have HTY := Lib.hid (tinyO_all htiny)
    have HSM := Lib.hid hsm; clear hsm
    have HA := Lib.hid ha0; clear ha0
    have HAL := Lib.hid (plays_all hlen htiny)
    clear hs hc0 hm0 htiny
    go_enter Try.func4, Try.ntmps4
    go_wp2_with fail
    refine HSM.out.mono ?_
    rintro e w1 ⟨rfl, hb⟩
    have HB := Lib.hid hb; clear hb
    go_wp2_with fail
    go_loopw [3, 4, 5, 6, 22] (fun x y vT vM u wr => ∃ (j n c : Nat) (p A : Option Addr), u = .int .i64 j ∧ x = .pointer p ∧ y = .slice A n c ∧ j ≤ L0.length ∧ Hid (n = (plays (L0.take j)).length) ∧ Hid (∃ S E t, E.length = j ∧ Now w (plays (L0.take j)) p A vT vM S E t wr)) (fun _ _ _ _ u _ => L0.length - (intOf u).toNat)
    case atStart =>
      exact ⟨0, 0, 0, none, none, rfl, rfl, rfl, by omega, rfl, fun _ => False, [], .nil, rfl, HB.out, fun _ h => h.elim, fun _ _ h => h.elim, rfl, trivial, rfl, .inl rfl, fun _ h => absurd h (by simp), ⟨rfl, .inl ⟨rfl, rfl⟩⟩, ⟨rfl, .inl ⟨rfl, rfl⟩⟩, fun _ h => by simp [Value.ownBlock] at h, fun _ h => by simp [Value.ownBlock] at h⟩
    case round =>

      obtain ⟨j, n, c, p, A, rfl, rfl, rfl, hj, hn, S, E, t, hE, hat⟩ := hrel
      by_cases hlt : j < L0.length
      · obtain ⟨b, off, ka, kc, va, vc, rfl, hbl, h0, h1, h2, h3, h4⟩ := (HA.out.below hat.bel).at hlt
        obtain ⟨a1, a2, a3⟩ := HAL.out j
        obtain ⟨a1', a2', a3'⟩ := HAL.out (j + 1)
        obtain ⟨o, ho⟩ : ∃ o, o = L0[j] := ⟨_, rfl⟩
        have hoT := HTY.out _ (List.getElem_mem hlt)
        have hps := plays_step hlt
        rw [← ho] at h0 h1 h2 h3 h4 hoT hps
        obtain ⟨M, hM⟩ : ∃ M, M = plays (L0.take j) := ⟨_, rfl⟩
        obtain ⟨M', hM'⟩ : ∃ M', M' = plays (L0.take (j + 1)) := ⟨_, rfl⟩
        rw [← hM] at a1 a2 a3 hps hat hn
        rw [← hM'] at a1' a2' a3' hps
        obtain ⟨z, hz⟩ : ∃ z : Int, z = o.1 := ⟨_, rfl⟩
        obtain ⟨K, hK⟩ : ∃ K, K = o.2.1 := ⟨_, rfl⟩
        obtain ⟨V, hV⟩ : ∃ V, V = o.2.2 := ⟨_, rfl⟩
        obtain ⟨x1, hx1⟩ : ∃ x : Nat, x = K.length := ⟨_, rfl⟩
        obtain ⟨x2, hx2⟩ : ∃ x : Nat, x = V.length := ⟨_, rfl⟩
        rw [← hK] at h1 h3 hoT
        rw [← hV] at h2 h4 hoT
        rw [← hz] at h0
        rw [← hx1] at h1 hoT
        rw [← hx2] at h2 hoT
        obtain ⟨hoT1, hoT2⟩ := hoT
        have HO : Hid (o = (z, K, V)) := by show _ = _; rw [hz, hK, hV]
        have HPS : Hid (M' = play M (z, K, V)) := by rw [← HO.out]; exact hps
        obtain ⟨gb, hgb⟩ : ∃ gb, gb = wr.heap.size := ⟨_, rfl⟩
        obtain ⟨w0, hw0⟩ : ∃ w0, w0 = wr.alloc (.cells #[.int .i64 z, .slice ka x1 kc, .slice va x2 vc] 29) := ⟨_, rfl⟩
        have hb0 : Below wr.heap.size wr w0 := by rw [hw0]; exact box3 wr _ _ _
        have hr0 : w0.heap[gb]? = some (.cells #[.int .i64 z, .slice ka x1 kc, .slice va x2 vc] 29 (0, 0)) := by rw [hw0, hgb]; exact heap_alloc_new wr _
        have hs0 : w0.heap.size = gb + 1 := by rw [hw0, hgb]; simp
        have KB := Lib.hid (h3.below hb0)
        have VB := Lib.hid (h4.below hb0)
        have HKL := Lib.hid hx1; clear hx1
        have HVL := Lib.hid hx2; clear hx2
        have HW0 := Lib.hid hw0; clear hw0
        have HGB := Lib.hid hgb; clear hgb
        have HR0 := Lib.hid hr0; clear hr0
        have HB0 := Lib.hid hb0; clear hb0
        have HS0 := Lib.hid hs0; clear hs0
        have HAT := Lib.hid hat; clear hat
        have HE := Lib.hid hE; clear hE
        have HA1 := Lib.hid a1; clear a1
        have HA2 := Lib.hid a2; clear a2
        have HA1' := Lib.hid a1'; clear a1'
        have HA2' := Lib.hid a2'; clear a2'
        have HM' := Lib.hid hM'; clear hM'
        have HN := hn; clear hn
        have HA3 := Lib.hid a3; clear a3
        have HA3' := Lib.hid a3'; clear a3'
        clear ho hz hK hV hps hM h3 h4
        go_wp2_with fail
        rw [← HW0.out, ← HGB.out]
        clear h0 h1 h2
        refine wp_region_grow 12 (by kernel_rfl) (by kernel_rfl) (GS gb z ka x1 kc va x2 vc K V) (fun i _ j _ => Dn i j) GS.below ?_ ?_ ?_
        · intro i hi
          have hc : i = 0 ∨ i = 1 ∨ i = 2 ∨ i = 3 ∨ i = 4 ∨ i = 5 ∨ i = 6 ∨ i = 7 ∨ i = 8 ∨ i = 9 ∨ i = 10 ∨ i = 11 := by omega
          rcases hc with rfl | rfl | rfl | rfl | rfl | rfl | rfl | rfl | rfl | rfl | rfl | rfl <;> exact ⟨_, rfl, by simp⟩
        · intro i hi listed a w' hag hdep
          have hbox := row_below (w := w0.drew) HR0.out hag.bel
          obtain ⟨k0, k1, k2⟩ := row3 hbox
          have e8 := hag.keeps 8 _ (by kernel_rfl) rfl
          have hN1 : gb < w'.heap.size := by have := HS0.out; have := hag.bel.size; have e : w0.drew.heap.size = w0.heap.size := rfl; omega
          have hN : gb ≤ w'.heap.size := by omega
          have hbw : Below w0.heap.size w0 w' := (show Below w0.heap.size w0 w0.drew from (Below.refl _ _).drew).trans hag.bel
          clear hbox
          have hc : i = 0 ∨ i = 1 ∨ i = 2 ∨ i = 3 ∨ i = 4 ∨ i = 5 ∨ i = 6 ∨ i = 7 ∨ i = 8 ∨ i = 9 ∨ i = 10 ∨ i = 11 := by omega
          rcases hc with rfl | rfl | rfl | rfl | rfl | rfl | rfl | rfl | rfl | rfl | rfl | rfl
          · refine wpOp_of _ rfl rfl ?_
            unfold Oper.wp execOp
            go_simp
            exact ⟨_, rfl, Below.refl _ _, rfl, fun _ _ _ _ _ => ⟨trivial, trivial⟩⟩
          · obtain ⟨v0, hv0, hg0⟩ := hag.slot 0 26 (by decide) (hdep 0 ⟨_, rfl, ⟨0, .data⟩, by simp, rfl, rfl⟩) rfl
            obtain rfl : v0 = _ := hg0
            have hev0 := eval_tmp hv0
            refine wpOp_of _ rfl rfl ?_
            unfold Oper.wp execOp
            go_simp
            exact ⟨_, rfl, Below.refl _ _, rfl, fun _ _ _ _ _ => ⟨trivial, trivial⟩⟩
          · refine wpOp_of _ rfl rfl ?_
            unfold Oper.wp execOp
            go_simp
            exact ⟨_, rfl, (Below.refl _ _).alloc (Nat.le_refl _) _, ⟨_, rfl, hN, heap_alloc_new w' _⟩, fun _ _ _ _ _ => ⟨trivial, trivial⟩⟩
          · refine wpOp_of _ rfl rfl ?_
            unfold Oper.wp execOp
            go_simp
            exact ⟨_, rfl, Below.refl _ _, rfl, fun _ _ _ _ _ => ⟨trivial, trivial⟩⟩
          · obtain ⟨v3, hv3, hg3⟩ := hag.slot 3 29 (by decide) (hdep 3 ⟨_, rfl, ⟨3, .data⟩, by simp, rfl, rfl⟩) rfl
            obtain rfl : v3 = _ := hg3
            have hev3 := eval_tmp hv3
            refine wpOp_of _ rfl rfl ?_
            unfold Oper.wp execOp
            go_simp
            exact ⟨_, rfl, Below.refl _ _, rfl, fun _ _ _ _ _ => ⟨trivial, trivial⟩⟩
          · obtain ⟨v2, hv2, hg2⟩ := hag.slot 2 28 (by decide) (hdep 2 ⟨_, rfl, ⟨2, .data⟩, by simp, rfl, rfl⟩) rfl
            obtain ⟨v4, hv4, hg4⟩ := hag.slot 4 30 (by decide) (hdep 4 ⟨_, rfl, ⟨4, .data⟩, by simp, rfl, rfl⟩) rfl
            obtain ⟨g2, rfl, hge, hgr⟩ := hg2
            obtain rfl : v4 = _ := hg4
            obtain ⟨g', c', w'', hr, hb', hN', hbts, hbr⟩ := run_app_fresh 27 hgr hge (KB.out.below hbw) kc (by rw [← HKL.out]; omega)
            rw [← HKL.out] at hr
            exact wpOp_app _ rfl rfl rfl (eval_tmp hv2) (eval_tmp hv4) hr ⟨_, rfl, hb', ⟨g', c', by rw [← HKL.out], hN', hbts, hbr⟩, fun _ _ _ _ _ => ⟨trivial, trivial⟩⟩
          · refine wpOp_of _ rfl rfl ?_
            unfold Oper.wp execOp
            go_simp
            exact ⟨_, rfl, (Below.refl _ _).alloc (Nat.le_refl _) _, ⟨_, rfl, hN, heap_alloc_new w' _⟩, fun _ _ _ _ _ => ⟨trivial, trivial⟩⟩
          · refine wpOp_of _ rfl rfl ?_
            unfold Oper.wp execOp
            go_simp
            exact ⟨_, rfl, Below.refl _ _, rfl, fun _ _ _ _ _ => ⟨trivial, trivial⟩⟩
          · obtain ⟨v7, hv7, hg7⟩ := hag.slot 7 33 (by decide) (hdep 7 ⟨_, rfl, ⟨7, .data⟩, by simp, rfl, rfl⟩) rfl
            obtain rfl : v7 = _ := hg7
            have hev7 := eval_tmp hv7
            refine wpOp_of _ rfl rfl ?_
            unfold Oper.wp execOp
            go_simp
            exact ⟨_, rfl, Below.refl _ _, rfl, fun _ _ _ _ _ => ⟨trivial, trivial⟩⟩
          · obtain ⟨v6, hv6, hg6⟩ := hag.slot 6 32 (by decide) (hdep 6 ⟨_, rfl, ⟨6, .data⟩, by simp, rfl, rfl⟩) rfl
            obtain ⟨v8, hv8, hg8⟩ := hag.slot 8 34 (by decide) (hdep 8 ⟨_, rfl, ⟨8, .data⟩, by simp, rfl, rfl⟩) rfl
            obtain ⟨g6, rfl, hge, hgr⟩ := hg6
            obtain rfl : v8 = _ := hg8
            obtain ⟨g', c', w'', hr, hb', hN', hbts, hbr⟩ := run_app_fresh 27 hgr hge (VB.out.below hbw) vc (by rw [← HVL.out]; omega)
            rw [← HVL.out] at hr
            exact wpOp_app _ rfl rfl rfl (eval_tmp hv6) (eval_tmp hv8) hr ⟨_, rfl, hb', ⟨g', c', by rw [← HVL.out], hN', hbts, hbr⟩, fun _ _ _ _ _ => ⟨trivial, trivial⟩⟩
          · obtain ⟨v1, hv1, hg1⟩ := hag.slot 1 27 (by decide) (hdep 1 ⟨_, rfl, ⟨1, .data⟩, by simp, rfl, rfl⟩) rfl
            obtain ⟨v5, hv5, hg5⟩ := hag.slot 5 31 (by decide) (hdep 5 ⟨_, rfl, ⟨5, .data⟩, by simp, rfl, rfl⟩) rfl
            obtain ⟨v9, hv9, hg9⟩ := hag.slot 9 35 (by decide) (hdep 9 ⟨_, rfl, ⟨9, .data⟩, by simp, rfl, rfl⟩) rfl
            obtain rfl : v1 = _ := hg1
            have hev1 := eval_tmp hv1
            have hev5 := eval_tmp hv5
            have hev9 := eval_tmp hv9
            obtain ⟨g5, c5, rfl, n5, b5, r5⟩ := hg5
            obtain ⟨g9, c9, rfl, n9, b9, r9⟩ := hg9
            refine wpOp_of _ rfl rfl ?_
            unfold Oper.wp execOp
            go_simp
            exact ⟨_, rfl, Below.refl _ _, ⟨_, _, rfl, ⟨g5, c5, rfl, n5, b5, r5⟩, ⟨g9, c9, rfl, n9, b9, r9⟩⟩, fun _ _ _ _ _ => ⟨trivial, trivial⟩⟩
          · refine wpOp_of _ rfl rfl ?_
            unfold Oper.wp execOp
            go_simp
            exact ⟨_, rfl, (Below.refl _ _).alloc (Nat.le_refl _) _, ⟨_, rfl, hN1, heap_alloc_new w' _⟩, fun _ _ _ _ _ => ⟨trivial, trivial⟩⟩
        · intro listed a w' hall hag
          obtain ⟨v0, s0, g0⟩ := hag.slot 0 26 (by decide) (hall 0 (by decide)) rfl
          obtain ⟨v1, s1, g1⟩ := hag.slot 1 27 (by decide) (hall 1 (by decide)) rfl
          obtain ⟨v2, s2, g2⟩ := hag.slot 2 28 (by decide) (hall 2 (by decide)) rfl
          obtain ⟨v3, s3, g3⟩ := hag.slot 3 29 (by decide) (hall 3 (by decide)) rfl
          obtain ⟨v4, s4, g4⟩ := hag.slot 4 30 (by decide) (hall 4 (by decide)) rfl
          obtain ⟨v5, s5, g5⟩ := hag.slot 5 31 (by decide) (hall 5 (by decide)) rfl
          obtain ⟨v6, s6, g6⟩ := hag.slot 6 32 (by decide) (hall 6 (by decide)) rfl
          obtain ⟨v7, s7, g7⟩ := hag.slot 7 33 (by decide) (hall 7 (by decide)) rfl
          obtain ⟨v8, s8, g8⟩ := hag.slot 8 34 (by decide) (hall 8 (by decide)) rfl
          obtain ⟨v9, s9, g9⟩ := hag.slot 9 35 (by decide) (hall 9 (by decide)) rfl
          obtain ⟨v10, s10, g10⟩ := hag.slot 10 36 (by decide) (hall 10 (by decide)) rfl
          obtain ⟨v11, s11, g11⟩ := hag.slot 11 9 (by decide) (hall 11 (by decide)) rfl
          obtain rfl : v0 = _ := g0
          obtain rfl : v1 = _ := g1
          obtain rfl : v3 = _ := g3
          obtain rfl : v4 = _ := g4
          obtain rfl : v7 = _ := g7
          obtain rfl : v8 = _ := g8
          obtain ⟨g2, rfl, _, _⟩ := g2
          obtain ⟨g6, rfl, _, _⟩ := g6
          obtain ⟨q5, c5, rfl, _, _, _⟩ := g5
          obtain ⟨q9, c9, rfl, _, _, _⟩ := g9
          obtain ⟨y1, y2, rfl, ⟨gk, c1, rfl, nk, bk, rk⟩, ⟨gv, c2, rfl, nv, bv, rv⟩⟩ := g10
          obtain ⟨g9, rfl, n9, r9⟩ := g11
          rw [← HKL.out] at s5 s10
          rw [← HVL.out] at s9 s10
          have ha := hag.whole [(26, .pointer (some ⟨gb, 0, none⟩)), (27, .int .i64 z), (28, .slice (some ⟨g2, 0, none⟩) 0 0), (29, .pointer (some ⟨gb, 1, none⟩)), (30, .slice ka x1 kc), (31, .slice (some ⟨q5, 0, none⟩) x1 c5), (32, .slice (some ⟨g6, 0, none⟩) 0 0), (33, .pointer (some ⟨gb, 2, none⟩)), (34, .slice va x2 vc), (35, .slice (some ⟨q9, 0, none⟩) x2 c9), (36, .agg #[.int .i64 z, .slice (some ⟨gk, 0, none⟩) x1 c1, .slice (some ⟨gv, 0, none⟩) x2 c2]), (9, .pointer (some ⟨g9, 0, none⟩))] (by
            intro i hi
            have hc : i = 0 ∨ i = 1 ∨ i = 2 ∨ i = 3 ∨ i = 4 ∨ i = 5 ∨ i = 6 ∨ i = 7 ∨ i = 8 ∨ i = 9 ∨ i = 10 ∨ i = 11 := by omega
            rcases hc with rfl | rfl | rfl | rfl | rfl | rfl | rfl | rfl | rfl | rfl | rfl | rfl <;> exact ⟨_, rfl, by simp⟩) (List.forall_mem_cons.2 ⟨s0, List.forall_mem_cons.2 ⟨s1, List.forall_mem_cons.2 ⟨s2, List.forall_mem_cons.2 ⟨s3, List.forall_mem_cons.2 ⟨s4, List.forall_mem_cons.2 ⟨s5, List.forall_mem_cons.2 ⟨s6, List.forall_mem_cons.2 ⟨s7, List.forall_mem_cons.2 ⟨s8, List.forall_mem_cons.2 ⟨s9, List.forall_mem_cons.2 ⟨s10, List.forall_mem_cons.2 ⟨s11, fun p hp => absurd hp (by simp)⟩⟩⟩⟩⟩⟩⟩⟩⟩⟩⟩⟩)
          simp only [List.foldl_cons, List.foldl_nil, List.setIfInBounds_toArray, List.set_cons_succ, List.set_cons_zero] at ha
          have hbw : Below wr.heap.size wr w' := below_then HB0.out ((show Below w0.heap.size w0 w0.drew from (Below.refl _ _).drew).trans hag.bel)
          have hgb := HGB.out
          obtain ⟨W1, hW1⟩ : ∃ W, W = (((w'.setCell ⟨g9, 0, none⟩ (.int .i64 z)).setCell ⟨g9, 1, none⟩ (.slice (some ⟨gk, 0, none⟩) x1 c1)).setCell ⟨g9, 2, none⟩ (.slice (some ⟨gv, 0, none⟩) x2 c2)) := ⟨_, rfl⟩
          obtain ⟨q1, q2, q3, q4, q5', q6⟩ := own_box (z := z) (c1 := c1) (c2 := c2) hbw (by omega) r9 bk rk bv rv W1 (by rw [← HKL.out, ← HVL.out]; exact hW1)
          rw [← HKL.out] at q2 q4
          rw [← HVL.out] at q2 q6
          have NOW1 := HAT.out.own q1 (by omega) (by omega) q4 q6
          have hst := step_any (F := fun b => ¬ (S b ∨ Kb gk x1 gv x2 b)) (m := none) (v := 0) (c := 0) (o := (z, K, V)) c c1 c2 (fun b hb hs => by have := NOW1.lt b hs; omega) NOW1.tre NOW1.rcs (.inl rfl) q3 q5' NOW1.ev HA1.out (by have := HA3.out; omega) HA2.out (by show K.length ≤ 100 ∧ V.length ≤ 100; rw [← HKL.out, ← HVL.out]; exact ⟨hoT1, hoT2⟩) (by omega) (by omega) NOW1.list
          simp only [← HPS.out, ← HN.out, ← HKL.out, ← HVL.out] at hst
          obtain ⟨d0, d1, d2⟩ := row3 r9
          have f0 : w'.frozen? ⟨g9, 0, none⟩ = false := by simp [World.frozen?, r9]
          have f1 : w'.frozen? ⟨g9, 1, none⟩ = false := by simp [World.frozen?, r9]
          have f2 : w'.frozen? ⟨g9, 2, none⟩ = false := by simp [World.frozen?, r9]
          have HST := Lib.hid hst; clear hst
          have HN1 := Lib.hid NOW1; clear NOW1
          have HQ2 := Lib.hid q2; clear q2
          have HQ4 := Lib.hid q4; clear q4
          have HQ6 := Lib.hid q6; clear q6
          have HNE : Hid (gb ≤ gk ∧ gb ≤ gv) := by show _ ∧ _; exact ⟨by omega, by omega⟩
          have HW1 := Lib.hid hW1; clear hW1
          have HBT : Hid (∀ b, (u5.ownBlock = some b ∨ u6.ownBlock = some b) → b < gb) := by
            rw [hgb]
            rintro b (e | e)
            · exact (own_lt HAT.out.rowT e).2.1
            · exact (own_lt HAT.out.rowM e).2.1
          have HWS : Hid (w.heap.size ≤ gb) := by rw [hgb]; exact HAT.out.bel.size
          clear q1 q3 q5' bk rk bv rv r9 hag hall s0 s1 s2 s3 s4 s5 s6 s7 s8 s9 s10 s11 hbw n9 nk nv hgb HAT
          rw [ha]
          clear ha a listed
          simp only [List.drop_succ_cons, List.drop_zero]
          go_wp2_with fail
          rw [← HW1.out]
          refine HST.out.mono ?_
          rintro e w2 ⟨p', t', A', c', v', k', rfl, g1, g2', g3, g4, _, _, g7⟩
          have hb2 := g7.nil
          have NOW2 := Lib.hid (HN1.out.step hb2 g1 g2' g3 g4)
          have MID := Lib.hid (Mid.mk (Off.refl (Kb gk x1 gv x2) w2) NOW2.out.scr (HQ4.out.below hb2) (HQ6.out.below hb2) (row_below HQ2.out hb2))
          obtain ⟨n', hn'⟩ : ∃ n', n' = M'.length := ⟨_, rfl⟩
          rw [← hn']
          have HN' := Lib.hid hn'; clear hn'
          clear g1 g2' g3 g4 g7 hb2 HST HN1 HQ2 HQ4 HQ6 HW1 d0 d1 d2 f0 f1 f2
          obtain ⟨m1, m2, m3⟩ := row3 MID.out.row
          go_wp2_with fail
          clear m1 m2 m3
          go_loopw [48] (fun u wr => ∃ i : Nat, u = .int .i64 i ∧ i ≤ x1 ∧ Hid (Mid (fun b => S b ∨ Kb gk x1 gv x2 b) gk x1 gv x2 g9 #[.int .i64 z, .slice (some ⟨gk, 0, none⟩) x1 c1, .slice (some ⟨gv, 0, none⟩) x2 c2] w2 wr)) (fun u _ => x1 - (intOf u).toNat)
          case atStart => exact ⟨0, rfl, by omega, MID.out⟩
          case round =>
            obtain ⟨i, rfl, hi, hmid⟩ := hrel
            obtain ⟨m1, m2, m3⟩ := row3 hmid.out.row
            by_cases hlt2 : i < x1
            · obtain ⟨u, hu, hfz⟩ := hmid.out.key.cell hlt2
              have hset := hmid.out.setK hlt2 (u + 1)
              obtain ⟨yy, hy⟩ : ∃ y : Int, y = (((u + 1 : UInt8).toNat : Nat) : Int) := ⟨_, rfl⟩
              obtain ⟨zz, hz⟩ : ∃ z : Nat, z = u.toNat := ⟨_, rfl⟩
              have hz2 : zz < 256 := by rw [hz]; exact u.toNat_lt
              have hwrap := byte_more u
              rw [← hy, ← hz] at hwrap
              rw [← hz] at hu
              rw [← hy] at hset
              have HSET := Lib.hid hset; clear hset hy hz hmid
              go_wp2
              go_roundw
              case rel => exact ⟨i + 1, by go_num, by omega, HSET.out⟩
              case measure => simp [intOf]; omega
            · clear MID
              have MID := hmid
              clear hmid
              go_wp2_with fail
              clear m1 m2 m3
              go_loopw [62] (fun u wr => ∃ i : Nat, u = .int .i64 i ∧ i ≤ x2 ∧ Hid (Mid (fun b => S b ∨ Kb gk x1 gv x2 b) gk x1 gv x2 g9 #[.int .i64 z, .slice (some ⟨gk, 0, none⟩) x1 c1, .slice (some ⟨gv, 0, none⟩) x2 c2] w2 wr)) (fun u _ => x2 - (intOf u).toNat)
              case atStart => exact ⟨0, rfl, by omega, MID.out⟩
              case round =>
                obtain ⟨i, rfl, hi, hmid⟩ := hrel
                obtain ⟨m1, m2, m3⟩ := row3 hmid.out.row
                by_cases hlt2 : i < x2
                · obtain ⟨u, hu, hfz⟩ := hmid.out.val.cell hlt2
                  have hset := hmid.out.setV hlt2 (u + 1)
                  obtain ⟨yy, hy⟩ : ∃ y : Int, y = (((u + 1 : UInt8).toNat : Nat) : Int) := ⟨_, rfl⟩
                  obtain ⟨zz, hz⟩ : ∃ z : Nat, z = u.toNat := ⟨_, rfl⟩
                  have hz2 : zz < 256 := by rw [hz]; exact u.toNat_lt
                  have hwrap := byte_more u
                  rw [← hy, ← hz] at hwrap
                  rw [← hz] at hu
                  rw [← hy] at hset
                  have HSET := Lib.hid hset; clear hset hy hz hmid
                  go_wp2
                  go_roundw
                  case rel => exact ⟨i + 1, by go_num, by omega, HSET.out⟩
                  case measure => simp [intOf]; omega
                · clear m1 m2 m3
                  have NOW4 := NOW2.out.off hmid.out.off (fun b hb => ⟨.inr hb, by
                    have h1 := HNE.out
                    have h2 := HWS.out
                    have h3 := HBT.out b
                    have h4 : gb ≤ b := by
                      rcases hb with ⟨rfl, _⟩ | ⟨rfl, _⟩
                      · exact h1.1
                      · exact h1.2
                    exact ⟨by omega, fun e => by have := h3 (.inl e); omega, fun e => by have := h3 (.inr e); omega⟩⟩) hmid.out.scr
                  have hli := list_any NOW4.tre (by rw [← Tr.length, NOW4.list]; have := HA3'.out; omega) (fun x hx => by rw [NOW4.list] at hx; have := HA2'.out x hx; omega)
                  rw [NOW4.list, ← HN'.out] at hli
                  have HLI := Lib.hid hli; clear hli
                  have HN4 := Lib.hid NOW4; clear NOW4
                  obtain ⟨w4, hw4⟩ : ∃ w4, w4 = wr := ⟨_, rfl⟩
                  rw [← hw4] at HLI HN4 ⊢
                  clear hmid MID NOW2 hw4
                  go_wp2_with fail
                  refine HLI.out.mono ?_
                  rintro e w5 ⟨BL, cb, rfl, hfr, hb5⟩
                  have LR := Lib.hid (Lrow.of hfr hb5)
                  clear hfr hb5 HLI
                  have hn40 : n' ≤ 40 := by have := HA3'.out; have := HN'.out; omega
                  go_wp2_with fail
                  go_loopw [76] (fun u wr => ∃ i : Nat, u = .int .i64 i ∧ i ≤ n' ∧ Hid (Lrow w4 BL M' wr)) (fun u _ => n' - (intOf u).toNat)
                  case atStart => exact ⟨0, rfl, by omega, LR.out⟩
                  case round =>
                    obtain ⟨i, rfl, hi, hL⟩ := hrel
                    by_cases hlt3 : i < n'
                    · have hiM : i < M'.length := by rw [← HN'.out]; exact hlt3
                      obtain ⟨gl, kb, vb, rfl, e0, e1, hvb, hbr⟩ := hL.out.cells hiM
                      obtain ⟨y1, hy1⟩ : ∃ y, y = (M'[i]).1.length := ⟨_, rfl⟩
                      obtain ⟨y2, hy2⟩ : ∃ y, y = (M'[i]).2.length := ⟨_, rfl⟩
                      have hy3 : y2 ≤ 100 := by rw [hy2]; exact (HA2'.out _ (List.getElem_mem hiM)).2
                      rw [← hy1] at e0
                      rw [← hy2] at e1 hbr
                      obtain ⟨gp, hgp⟩ : ∃ gp, gp = wr.heap.size := ⟨_, rfl⟩
                      obtain ⟨w6, hw6⟩ : ∃ w6, w6 = wr.alloc (.cells #[.slice (some ⟨kb, 0, none⟩) y1 y1, .slice (some ⟨vb, 0, none⟩) y2 y2] 39) := ⟨_, rfl⟩
                      have hb6 : Below wr.heap.size wr w6 := by rw [hw6]; exact (Below.refl _ _).alloc (Nat.le_refl _) _
                      have hr6 : w6.heap[gp]? = some (.cells #[.slice (some ⟨kb, 0, none⟩) y1 y1, .slice (some ⟨vb, 0, none⟩) y2 y2] 39 (0, 0)) := by rw [hw6, hgp]; exact heap_alloc_new wr _
                      have HL6 := Lib.hid (hL.out.below hb6)
                      have HBR6 := Lib.hid (hbr.below hb6)
                      have HR6 := Lib.hid hr6; clear hr6
                      have HW6 := Lib.hid hw6; clear hw6
                      have HGP := Lib.hid hgp; clear hgp
                      clear hL hbr hb6 hy1 hy2 hiM
                      go_wp2_with fail
                      rw [← HW6.out, ← HGP.out]
                      clear e0 e1
                      go_loopw [83] (fun u wr => ∃ i : Nat, u = .int .i64 i ∧ i ≤ y2 ∧ Hid (Lrow w4 (some ⟨gl, 0, none⟩) M' wr) ∧ Hid (Brow wr vb y2) ∧ Hid (wr.heap[gp]? = some (.cells #[.slice (some ⟨kb, 0, none⟩) y1 y1, .slice (some ⟨vb, 0, none⟩) y2 y2] 39 (0, 0)))) (fun u _ => y2 - (intOf u).toNat)
                      case atStart => exact ⟨0, rfl, by omega, HL6.out, HBR6.out, HR6.out⟩
                      case round =>
                        obtain ⟨i2, rfl, hi2, hL2, hbr2, hr2⟩ := hrel
                        obtain ⟨t0, t1, _, _⟩ := row2 hr2.out
                        by_cases hlt4 : i2 < y2
                        · obtain ⟨u, hu, hfz⟩ := hbr2.out.cell hlt4
                          have hset := hL2.out.set (i := i2) hvb hbr2.out (u + 1)
                          have hset2 := hbr2.out.set (b := vb) (i := i2) (u + 1)
                          have hset3 : (wr.setCell ⟨vb, i2, none⟩ (.int .u8 (((u + 1 : UInt8).toNat : Nat) : Int))).heap[gp]? = _ := (heap_setCell_other wr ⟨vb, i2, none⟩ gp _ (brow_ne hbr2.out hr2.out (by decide))).trans hr2.out
                          obtain ⟨yy, hy⟩ : ∃ y : Int, y = (((u + 1 : UInt8).toNat : Nat) : Int) := ⟨_, rfl⟩
                          obtain ⟨zz, hz⟩ : ∃ z : Nat, z = u.toNat := ⟨_, rfl⟩
                          have hz2 : zz < 256 := by rw [hz]; exact u.toNat_lt
                          have hwrap := byte_more u
                          rw [← hy, ← hz] at hwrap
                          rw [← hz] at hu
                          rw [← hy] at hset hset2 hset3
                          have HSET := Lib.hid hset; clear hset
                          have HSET2 := Lib.hid hset2; clear hset2
                          have HSET3 := Lib.hid hset3; clear hset3
                          clear hy hz hL2 hbr2 hr2
                          go_wp2
                          go_roundw
                          case rel => exact ⟨i2 + 1, by go_num, by omega, HSET.out, HSET2.out, HSET3.out⟩
                          case measure => simp [intOf]; omega
                        · clear t0 t1
                          go_wp2_with fail
                          go_roundw
                          case rel => exact ⟨i + 1, by go_num, by omega, hL2.out⟩
                          case measure => simp [intOf]; omega
                    · have NOW6 := Lib.hid (HN4.out.below hL.out.bel)
                      have hrt := NOW6.out.rowT
                      have hrm := fun W1 (g1 : wr.grownBy W1 u5.ownBlock) => NOW6.out.rowM' g1
                      rw [HE.out] at hrt
                      simp only [HE.out] at hrm
                      have HRT := Lib.hid hrt; clear hrt
                      have HRM := Lib.hid hrm; clear hrm
                      have HWW : Hid (w.heap.size ≤ wr.heap.size) := NOW6.out.bel.size
                      have hj40 : j ≤ 40 := by omega
                      clear hL LR
                      go_wp2_with (first
                        | (at_builtin; refine list_app1 (B := w.heap.size) (w := wr) 36 25 _ 8 Try.underlying36 Try.info25 rfl (by decide) rfl (.tmp 95) (.tmp 97) rfl _ j _ HRT.out (.pointer p') rfl rfl rfl (by omega) HWW.out ?_; intro vT2 w7 ho7 hg7 ha7; have HRM7 := Lib.hid (HRM.out _ hg7); have HO7 := Lib.hid ho7; have HG7 := Lib.hid hg7; have HA7 := Lib.hid ha7; have HWW7 : Hid (w.heap.size ≤ w7.heap.size) := Nat.le_trans HWW.out hg7.size; clear ho7 hg7 ha7)
                        | (at_builtin; refine list_app1 (B := w.heap.size) (w := w7) 37 26 _ 24 Try.underlying37 Try.info26 rfl (by decide) rfl (.tmp 99) (.tmp 101) rfl _ j _ HRM7.out (.slice A' n' c') rfl rfl rfl (by omega) HWW7.out ?_; intro vM2 w8 ho8 hg8 ha8; have HO8 := Lib.hid ho8; have HG8 := Lib.hid hg8; have HA8 := Lib.hid ha8; clear ho8 hg8 ha8)
                        | fail)
                      go_roundw
                      case rel =>
                        have o7 := HO7.out
                        have o8 := HO8.out
                        rw [HN'.out] at o8
                        rw [← HE.out] at o7 o8
                        obtain ⟨S', hS'⟩ := NOW6.out.add c' HA1'.out HA2'.out (by have := HA3'.out; omega) HG7.out o7 HA7.out HG8.out o8 HA8.out
                        exact ⟨j + 1, n', c', p', A', by go_num, rfl, rfl, by omega, by show _ = _; rw [HN'.out, HM'.out], S', E ++ [⟨p', A', c', M'⟩], t', by rw [List.length_append, HE.out]; rfl, by rw [← HM'.out]; exact hS'⟩
                      case measure => simp [intOf]; omega
      · obtain ⟨TA, tc, rfl, hrT⟩ := row_reads1 hat.rowT
        obtain ⟨MA, mc, rfl, hrM⟩ := row_reads1 hat.rowM
        rw [hE] at hrT hrM ⊢
        obtain ⟨wE, hwE⟩ : ∃ wE, wE = wr := ⟨_, rfl⟩
        rw [← hwE] at hat hrT hrM ⊢
        have HRT := Lib.hid hrT; clear hrT
        have HRM := Lib.hid hrM; clear hrM
        have HAT := Lib.hid hat; clear hat
        have HE := Lib.hid hE; clear hE
        have hj40 : j ≤ 40 := by omega
        clear hn hwE HA HAL HTY
        go_wp2_with fail
        go_loopw [106] (fun u wr => ∃ i : Nat, u = .int .i64 i ∧ i ≤ j ∧ Hid (Below wE.heap.size wE wr)) (fun u _ => j - (intOf u).toNat)
        case atStart => exact ⟨0, rfl, by omega, Below.refl _ _⟩
        case round =>
          obtain ⟨i, rfl, hi, hbE⟩ := hrel
          by_cases hlt2 : i < j
          · have hiE : i < E.length := by rw [HE.out]; exact hlt2
            obtain ⟨e, he⟩ : ∃ e, e = E[i] := ⟨_, rfl⟩
            have hh := HAT.out.all e (by rw [he]; exact List.getElem_mem hiE)
            obtain ⟨gT, rfl, ltT, cT⟩ := HRT.out (by omega)
            obtain ⟨gM, rfl, ltM, cM⟩ := HRM.out (by omega)
            have cT1 := cT i hlt2
            have cM1 := cM i hlt2
            obtain ⟨ep, eA, ec, eM⟩ := e
            obtain ⟨en, hen⟩ : ∃ en, en = eM.length := ⟨_, rfl⟩
            have hT1 : (ptrs E)[i]? = some (.pointer ep) := by simp [ptrs, hiE, ← he]
            have hM1 : (lists E)[i]? = some (.slice eA en ec) := by simp [lists, hiE, ← he, hen]
            rw [hT1] at cT1
            rw [hM1] at cM1
            obtain ⟨⟨et, ht, hev, hli⟩, hrc, hsr, hfi, hle⟩ := hh
            have hen1 : en ≤ 100 := by rw [hen]; exact hle
            have KEEP : Hid (∀ W, Below wE.heap.size wE W → W.cell? ⟨gT, i, none⟩ = some (.pointer ep) ∧ W.cell? ⟨gM, i, none⟩ = some (.slice eA en ec)) := fun W hW =>
              ⟨(hW.cell (p := ⟨gT, i, none⟩) ltT).trans cT1, (hW.cell (p := ⟨gM, i, none⟩) ltM).trans cM1⟩
            have L1 := Lib.hid (fun W (hW : Below wE.heap.size wE W) => told_en (ht.below hW) hli hen hen1 hfi)
            have L2 := Lib.hid (fun W A c (hW : Below wE.heap.size wE W) (hA : Pcs W A eM) => is_true hA (hrc.below hW) c ec hen hen1)
            have L3 := Lib.hid (fun W (hW : Below wE.heap.size wE W) => sound_any (ht.below hW) (by rw [← Tr.length, hli, ← hen]; omega) hev (by rw [hli]; exact hsr))
            have hz0 := hbE.out.drew
            have hi1 : i < j := hlt2
            clear ht hrc hsr hfi hle hli hev he hiE cT cM hT1 hM1 cT1 cM1 hen ltT ltM
            go_wp2_with fail
            go_region_held3 (fun W => W.cell? ⟨gT, i, none⟩ = some (.pointer ep) ∧ W.cell? ⟨gM, i, none⟩ = some (.slice eA en ec)) (first | exact KEEP.out _ hz0 | exact KEEP.out _ hzA | exact KEEP.out _ hzB | exact KEEP.out _ hzC | fail) (first
              | (go_at_call 13; (with_reducible refine (L1.out _ hz0).mono ?_); rintro e wA ⟨AA, cA, rfl, hPA, hbA⟩; have hzA := below_then hz0 hbA)
              | (go_at_call 12; (with_reducible refine (L2.out _ _ cA hzA hPA).mono ?_); rintro e wB ⟨rfl, hbB⟩; have hzB := below_then hzA hbB)
              | (go_at_call 14; (with_reducible refine (L3.out _ hzB).mono ?_); rintro e wC ⟨rfl, hbC⟩; have hzC := below_then hzB hbC)
              | fail)
            all_goals
              go_wp2_with fail
              go_roundw
              case rel => exact ⟨i + 1, by go_num, by omega, hzC⟩
              case measure => simp [intOf]; omega
          · go_wp2_with fail
            refine (HAW.out _).mono ?_
            rintro e w2 ⟨rfl, hb⟩
            have HB2 := Lib.hid hb; clear hb
            go_wp2_with fail
            go_ret
            exact ⟨rfl, below_then HAT.out.bel (below_then hbE.out HB2.out)⟩
/-! ### THE ROW's STEP -/
set_option maxRecDepth 100000 in
theorem lifted (os : Os) (started : os.Started) (H : Type) (enc : TypeId × Value → H) :
    ReturnsInHanded {} Try.checked os 4 .any (Rows.treeStaysSpec.pre6 enc Try.prog Try.f4 Rows.treeStaysRow.domain false) (Rows.treeStaysSpec.post enc Try.prog Try.f4 false true false false) := by
  refine returnsInHanded_of_change (C := Try.checked) own started (by kernel_rfl) Try.func4
    (ChangeSpec.witness6 (enc := enc) (C := Try.checked) false ⟨#[], #[.slice none 0 0], []⟩ 8 (by kernel_rfl) (by kernel_rfl) (by kernel_rfl) (by kernel_rfl)) ?_
  intro W base args ds gs before hval0 hW hcnd _
  have hval : ∀ (j : Nat) t v, Try.f4.params[j]? = some t → args[j]? = some v → Value.okWide Try.prog W .any base t v := hval0
  have hW' := hW
  obtain ⟨p, q, hA0, hV, rfl, hfz, hnd⟩ := hW
  have hA : DataW.TrodAll enc Try.prog W 0 (fun _ => true) true Try.f4.params.toList args.toList ds p := hA0
  rw [Try.params4] at hA hval
  obtain ⟨v0, vs0, d0, ds0, p0, q0, hargs, rfl, rfl, h0, r0⟩ := trodAll_cons hA
  obtain ⟨rfl, rfl, rfl⟩ := trodAll_nil r0
  obtain rfl : args = #[v0] := by cases args; simp_all
  obtain ⟨rfl, rfl⟩ := trodVars_none hV
  obtain ⟨a0, len0, cap0, rfl⟩ := okWide_slice Try.underlying22 (hval 0 22 v0 rfl rfl)
  have k0 := h0
  have lt0 : ∀ x ∈ p0, x.block < W.heap.size := by obtain ⟨m, hm⟩ := k0; exact DataW.trod_lt m _ _ _ hm
  obtain ⟨A0, c0, L0, e0, hc0, hm0, ha0⟩ : ∃ (A : Option Addr) (c : Nat) (L : List Opn), Value.slice a0 len0 cap0 = .slice A L.length c ∧ L.length ≤ c ∧ c ≤ maxLen ∧ Ocs W A L := by
    obtain ⟨fuel, hf⟩ := h0
    exact ops_open hf
  clear hA0 hval0
  obtain ⟨rfl, rfl, rfl⟩ : a0 = A0 ∧ len0 = L0.length ∧ cap0 = c0 := by
    injection e0 with x y z
    exact ⟨x, y, z⟩
  refine (walk W hc0 hm0 ha0).mono fun e W' ⟨he, bel⟩ => ?_
  subst he
  exact ⟨_, rfl, _, _, _, [], _, [], hW', trodAll_mk1 (shut_bool Try.underlying4 _), (trodAll_cons_mk (Below.trod laidOut (by kernel_rfl) (of_decide_eq_true (by kernel_rfl)) k0 bel lt0) trodAll_mk0), rfl, bel.frame _, fun h => by cases h⟩

theorem over : Rows.treeStaysRow.holds Try.pinned (OpenSpec.ofChange Rows.treeStaysSpec) :=
  OpenClaim.holds_of_wide 4 Try.f4 rfl rfl rfl rfl rfl rfl rfl ⟨rfl, rfl, rfl, rfl, rfl⟩ rfl rfl rfl rfl rfl (by kernel_rfl) Try.func4 (by kernel_rfl)
    (of_decide_eq_true (by kernel_rfl)) (by unfold Func.isWrapper; first | (rw [if_pos (by decide +kernel)]; kernel_rfl) | (rw [if_neg (by decide +kernel)]; exact ⟨rfl, rfl⟩))
    (fun os started H enc _ => lifted os started H enc)

/-- ████ THE STATEMENT ████ -/
theorem proved : Rows.TreeStaysSaid := over
#print axioms proved
end Go.Proofs.Ytbgohpcfinojoaa.treeStays
