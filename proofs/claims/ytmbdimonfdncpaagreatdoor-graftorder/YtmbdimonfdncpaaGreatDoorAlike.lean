/-
  Contracts of Same, with slices.EqualFunc at pairs.
-/
import Derived.Test.YtmbdimonfdncpaaGreatDoorWalks
import Derived.Test.YtmbdimonfdncpaaGreatDoorGather
import Derived.Test.YtmbdimonfdncpaaGreatDoorKSame
import Derived.LaidEql
namespace Go.Proofs.YtmbdimonfdncpaaGreatDoor
open Go.RowKit
set_option maxHeartbeats 400000
set_option maxRecDepth 100000
theorem equal_any {w : World} {A B : Option Addr} {l m : List UInt8} (ha : Bts w A l) (hb : Bts w B m) (c d : Nat) :
    Calls Tryz.prog 34 #[.slice A l.length c, .slice B m.length d] w fun e w' => e = .returned (.bool (l == m)) ∧ w = w' := by
  have hc := conv_any ha c
  have hd := conv_any hb d
  clear ha hb
  go_enter Tryz.func34, Tryz.ntmps34
  go_wp2
  go_ret
  refine ⟨ret_bool ?_, rfl⟩
  simp
theorem pairEq_any {w : World} {ka kb va vb : Option Addr} {l l' m m' : List UInt8} (h1 : Bts w ka l) (h2 : Bts w kb l') (h3 : Bts w va m) (h4 : Bts w vb m') (c1 c2 c3 c4 : Nat) :
    Calls Tryz.prog 33 #[.agg #[.slice ka l.length c1, .slice va m.length c2], .agg #[.slice kb l'.length c3, .slice vb m'.length c4]] w fun e w' => e = .returned (.bool (l == l' && m == m')) ∧ Below w.heap.size w w' := by
  have hb : Below w.heap.size w ((w.alloc (.cells #[.slice ka l.length c1, .slice va m.length c2] 29)).alloc (.cells #[.slice kb l'.length c3, .slice vb m'.length c4] 29)) :=
    ((Below.refl _ _).alloc (Nat.le_refl _) _).alloc (by simp) _
  obtain ⟨W, hW⟩ : ∃ W, W = ((w.alloc (.cells #[.slice ka l.length c1, .slice va m.length c2] 29)).alloc (.cells #[.slice kb l'.length c3, .slice vb m'.length c4] 29)) := ⟨_, rfl⟩
  rw [← hW] at hb
  have e1 := equal_any (h1.below hb) (h2.below hb) c1 c3
  have e2 := equal_any (h3.below hb) (h4.below hb) c2 c4
  rw [hW] at e1 e2 hb
  clear hW h1 h2 h3 h4
  have HB := Lib.hid hb; clear hb
  cases hk : l == l' with
  | true =>
    rw [hk] at e1
    obtain ⟨q, hq⟩ : ∃ q, q = (m == m') := ⟨_, rfl⟩
    rw [← hq] at e2 ⊢
    clear hk hq
    have H1 := Lib.hid e1; clear e1
    have H2 := Lib.hid e2; clear e2
    go_enter Tryz.func33, Tryz.ntmps33
    go_wp2_with fail
    refine H1.out.mono ?_
    rintro e w' ⟨rfl, rfl⟩
    go_wp2_with fail
    refine H2.out.mono ?_
    rintro e w' ⟨rfl, rfl⟩
    go_wp2_with fail
    go_ret
    exact ⟨rfl, HB.out⟩
  | false =>
    rw [hk] at e1
    clear hk
    have H1 := Lib.hid e1; clear e1 e2
    go_enter Tryz.func33, Tryz.ntmps33
    go_wp2_with fail
    refine H1.out.mono ?_
    rintro e w' ⟨rfl, rfl⟩
    go_wp2_with fail
    go_ret
    exact ⟨rfl, HB.out⟩
theorem take_more {L M : List Pr} {j : Nat} (h : L.take j = M.take j) (h1 : j < L.length) (h2 : j < M.length) (e : L[j] = M[j]) : L.take (j + 1) = M.take (j + 1) := by
  rw [List.take_succ_eq_append_getElem h1, List.take_succ_eq_append_getElem h2, h, e]
theorem pr_eq (p q : Pr) : (p.1 == q.1 && p.2 == q.2) = decide (p = q) := by
  obtain ⟨a, b⟩ := p
  obtain ⟨c, d⟩ := q
  rw [Bool.eq_iff_iff]
  simp
theorem sameF_any {w : World} {A B : Option Addr} {L M : List Pr} (ha : Pcs w A L) (hb : Pcs w B M) (c d : Nat) (hlen : L.length ≤ 1000) :
    Calls Tryz.prog 32 #[.slice A L.length c, .slice B M.length d, .func (.func 33) #[] #[]] w fun e w' => e = .returned (.bool (decide (L = M))) ∧ Below w.heap.size w w' := by
  have HA := Lib.hid ha; clear ha
  have HM := Lib.hid hb; clear hb
  have eg : ∀ args w, (callFunc 33 args).run Tryz.prog w = .ok (.enter 33 args) w := enters_of Tryz.func33 (by kernel_rfl) rfl
  by_cases hl : L.length = M.length
  · have d0 : (((L.length : Nat) : Int) != ((M.length : Nat) : Int)) = false := by simp; omega
    have HL := Lib.hid hl; clear hl
    go_enter Tryz.func32, Tryz.ntmps32
    go_wp2
    go_loopw [17] (fun i wr => ∃ j : Nat, i = .int .i64 j ∧ j ≤ L.length ∧ Hid (Below w.heap.size w wr) ∧ Hid (L.take j = M.take j)) (fun i _ => L.length - (intOf i).toNat)
    case atStart => exact ⟨0, rfl, by omega, Below.refl _ _, by simp [Hid]⟩
    case round =>
      obtain ⟨j, rfl, hj, hbel, htk⟩ := hrel
      by_cases hlt : j < L.length
      · have hlt2 : j < M.length := by have := HL.out; omega
        obtain ⟨b, off, ka, kc, va, vc, rfl, hbl, h1, h2, h3, h4⟩ := (HA.out.below hbel.out).at hlt
        obtain ⟨b', off', ka', kc', va', vc', rfl, hbl', k1, k2, k3, k4⟩ := (HM.out.below hbel.out).at hlt2
        have hq := fun W (hW : Below wr.heap.size wr W) => pairEq_any (h3.below hW) (k3.below hW) (h4.below hW) (k4.below hW) kc vc kc' vc'
        simp only [pr_eq (L[j]) (M[j])] at hq
        obtain ⟨x1, hx1⟩ : ∃ x : Nat, x = (L[j]).1.length := ⟨_, rfl⟩
        obtain ⟨x2, hx2⟩ : ∃ x : Nat, x = (L[j]).2.length := ⟨_, rfl⟩
        obtain ⟨y1, hy1⟩ : ∃ x : Nat, x = (M[j]).1.length := ⟨_, rfl⟩
        obtain ⟨y2, hy2⟩ : ∃ x : Nat, x = (M[j]).2.length := ⟨_, rfl⟩
        simp only [← hx1, ← hx2, ← hy1, ← hy2] at h1 h2 k1 k2 hq
        clear h3 h4 k3 k4 hx1 hx2 hy1 hy2 HA HM
        by_cases he : L[j] = M[j]
        · rw [decide_eq_true he] at hq
          have HQ := Lib.hid hq; clear hq
          have HE := Lib.hid he; clear he
          go_wp2_with fail
          refine (HQ.out _ (((Below.refl _ _).alloc (Nat.le_refl _) _).alloc (by simp) _)).mono ?_
          rintro e w' ⟨rfl, hb⟩
          have hb2 := below_then (((Below.refl wr.heap.size wr).alloc (Nat.le_refl _) _).alloc (by simp) _) hb
          have HB := Lib.hid hb2; clear hb hb2
          go_wp2_with fail
          go_roundw
          case rel => exact ⟨j + 1, by go_num, by omega, below_then hbel.out HB.out, take_more htk.out hlt hlt2 HE.out⟩
          case measure => simp [intOf]; omega
        · rw [decide_eq_false he] at hq
          have HQ := Lib.hid hq; clear hq
          have e : decide (L = M) = false := decide_eq_false fun e => he (by subst e; rfl)
          have HE := Lib.hid e; clear e he
          go_wp2_with fail
          refine (HQ.out _ (((Below.refl _ _).alloc (Nat.le_refl _) _).alloc (by simp) _)).mono ?_
          rintro e w' ⟨rfl, hb⟩
          have hb2 := below_then (((Below.refl wr.heap.size wr).alloc (Nat.le_refl _) _).alloc (by simp) _) hb
          have HB := Lib.hid hb2; clear hb hb2
          go_wp2_with fail
          go_ret
          exact ⟨ret_bool HE.out.symm, below_then hbel.out HB.out⟩
      · obtain rfl : j = L.length := by omega
        have e : L = M := by
          have h := htk.out
          rw [List.take_length, HL.out, List.take_length] at h
          exact h
        go_wp2_with fail
        go_ret
        exact ⟨ret_bool (decide_eq_true e).symm, hbel.out⟩
  · have d0 : (((L.length : Nat) : Int) != ((M.length : Nat) : Int)) = true := by simp; omega
    have e : decide (L = M) = false := decide_eq_false fun e => hl (by rw [e])
    rw [e]
    go_enter Tryz.func32, Tryz.ntmps32
    go_wp2
    go_ret
    exact ⟨rfl, Below.refl _ _⟩
theorem same_any {w : World} {A B : Option Addr} {L M : List Pr} (ha : Pcs w A L) (hb : Pcs w B M) (c d : Nat) (hlen : L.length ≤ 1000) :
    Calls Tryz.prog 19 #[.slice A L.length c, .slice B M.length d] w fun e w' => e = .returned (.bool (decide (L = M))) ∧ Below w.heap.size w w' := by
  have h := sameF_any ha hb c d hlen
  obtain ⟨q, hq⟩ : ∃ q, q = decide (L = M) := ⟨_, rfl⟩
  rw [← hq] at h ⊢
  have H := Lib.hid h; clear h
  clear ha hb hq
  go_enter Tryz.func19, Tryz.ntmps19
  go_wp2_with fail
  refine H.out.mono ?_
  rintro e w' ⟨rfl, hb⟩
  have HB := Lib.hid hb; clear hb
  go_wp2_with fail
  go_ret
  exact ⟨rfl, HB.out⟩
end Go.Proofs.YtmbdimonfdncpaaGreatDoor
/-
  layout.Same: whether two nodes are one.
-/
namespace Go.Proofs.YtmbdimonfdncpaaGreatDoor
open Go.RowKit Go.WideShapes Go.ChangeShapes
set_option maxHeartbeats 1000000
set_option maxRecDepth 100000
theorem own_all (x : Nd) (ho : x.ok) (hk : x.kind ≠ 3) : x.all = x.prs ∧ x.prs.length = x.cnt := by
  cases x with
  | none => exact ⟨rfl, rfl⟩
  | leaf h p => exact ⟨rfl, rfl⟩
  | buck h L =>
    refine ⟨?_, rfl⟩
    show L.foldl put [] = L
    have h1 := fold_cases L [] List.Pairwise.nil
    have hn : (L.foldl put []).length = ([] : List Pr).length + L.length := by
      have hs := ho.2.2.2.1
      have hnod : (L.map fun p => p.1).Nodup := List.pairwise_map.2 (List.Pairwise.imp (fun h => cmp_ne h) hs)
      have := come_len hnod
      simpa [come] using this
    have hp := h1.2.2 hn
    rw [List.nil_append] at hp
    exact srt_ext _ _ h1.1 ho.2.2.2.1 fun q => hp.mem_iff
  | bran m k kid => exact absurd rfl hk
/-- the pairs that a leaf, a bucket, or nothing, hands out -/
theorem pairsO_any {F : Nat → Prop} {w : World} {x : Nd} {v : Value} (hN : Nde F w x v) (ho : x.ok) (hk : x.kind ≠ 3) :
    Calls Tryz.prog 20 #[v] w fun e w' => (∃ A c, e = .returned (.slice A x.prs.length c) ∧ Pcs w' A x.prs) ∧ Below w.heap.size w w' := by
  obtain ⟨e1, e2⟩ := own_all x ho hk
  by_cases hx : x = .none
  · subst hx
    obtain rfl : v = .nilIface := hN
    refine (pairs_nil w).mono ?_
    rintro e w' ⟨rfl, rfl⟩
    exact ⟨⟨none, 0, rfl, .inl rfl⟩, Below.refl _ _⟩
  · have h := pairs_any (hN.mono (G := fun b => b < w.heap.size) fun b hl _ => hl) ho hx (fun q hq => hq) (by have := (Nd.ok_prs ho).2.2; omega) (by rw [e1, e2])
    rw [e1] at h
    exact h
theorem bran_form {F : Nat → Prop} {w : World} {x : Nd} {v : Value} (h : Nde F w x v) (hk : x.kind = 3) : ∃ b cs, v = .iface 113 (.pointer (some ⟨b, 0, none⟩)) ∧ F b ∧ w.heap[b]? = some (.cells cs 116 (0, 0)) := by
  cases x with
  | bran m' k kid =>
    obtain ⟨b, g, c, h1, h2, h3, _⟩ := h
    exact ⟨b, _, h1, h2, h3⟩
  | _ => cases hk
theorem run_eq_branches {a b : Nat} {ca cb : Array Value} {ta tb : TypeId} (w : World) (h : ¬ a = b) (ha : w.heap[a]? = some (.cells ca ta (0, 0))) (hb : w.heap[b]? = some (.cells cb tb (0, 0))) :
    (binOp .eql 34 (.iface 113 (.pointer (some ⟨a, 0, none⟩))) (.iface 113 (.pointer (some ⟨b, 0, none⟩)))).run Tryz.prog w = .ok (.bool false) w := by
  obtain ⟨ms, h41⟩ : ∃ ms, Tryz.prog.underlying 34 = some (.interface ms) := ⟨_, Tryz.underlying34⟩
  have h100 : Tryz.prog.underlying 113 = some (.pointer 116) := by kernel_rfl
  have hc : (Tryz.prog.info? 113).map (fun i => i.comparable) = some true := by kernel_rfl
  have hs : (Tryz.prog.info? 116).map (fun i => decide (i.size = 0)) = some false := by kernel_rfl
  obtain ⟨i, hi, hic⟩ := Option.map_eq_some_iff.1 hc
  obtain ⟨j, hj, hjs⟩ := Option.map_eq_some_iff.1 hs
  exact run_eql_iface_ptr_other (P := Tryz.prog) w h41 h100 hi hic hj (of_decide_eq_false hjs) (fun e => h (by injection e)) ha hb
set_option maxHeartbeats 4000000 in
theorem same_step (x : Nd) (ih : ∀ i, i < x.num → SameAt (x.kid i)) : SameAt x := fun F G w y v u hFG hn hp ho hq hT => by
  have hs1 : Calls Tryz.prog 18 #[v, .int .i64 0] w fun e w' => e = .returned (x.spot 0).agg ∧ Below w.heap.size w w' := by
    have := spotOf_any 0 hn ho
    rw [spotP_zero] at this
    exact this
  have hs2 : ∀ W, Below w.heap.size w W → Calls Tryz.prog 18 #[u, .int .i64 0] W fun e w' => e = .returned (y.spot 0).agg ∧ Below W.heap.size W w' := fun W hW => by
    have := spotOf_any 0 (hp.below hW) hq
    rw [spotP_zero] at this
    exact this
  have hne := fun W => run_neq_spot (x.spot 0) (y.spot 0) W
  have hgd := run_guard_spot
  obtain ⟨r, hr⟩ : ∃ r, r = x.same y := ⟨_, rfl⟩
  rw [← hr]
  obtain ⟨kd, hkd⟩ : ∃ k, k = x.kind := ⟨_, rfl⟩
  obtain ⟨hh, hhh⟩ : ∃ k, k = x.hash := ⟨_, rfl⟩
  obtain ⟨m, hm⟩ : ∃ k, k = x.bits := ⟨_, rfl⟩
  obtain ⟨ct, hct⟩ : ∃ k, k = x.cnt := ⟨_, rfl⟩
  have hxa : (x.spot 0).agg = .agg #[.int .i64 0, .int .i64 (kd : Int), .int .u64 (hh : Int), .int .u32 (m : Int), .int .i64 (ct : Int)] := by rw [hkd, hhh, hm, hct]; rfl
  obtain ⟨ya, hya⟩ : ∃ xs, (y.spot 0).agg = .agg xs := ⟨_, rfl⟩
  rw [hxa] at hs1
  simp only [hxa, hya] at hs2 hne
  obtain ⟨q, hq2⟩ : ∃ q, q = (!decide (x.spot 0 = y.spot 0)) := ⟨_, rfl⟩
  simp only [← hq2] at hne
  have HS1 := Lib.hid hs1; clear hs1
  have HS2 := Lib.hid hs2; clear hs2
  have HN := Lib.hid (And.intro hn ho)
  have HP := Lib.hid (And.intro hp hq)
  have HT := Lib.hid hT; clear hT
  have HX := Lib.hid (And.intro hr (And.intro hkd (And.intro hm hq2)))
  have HFG := Lib.hid hFG; clear hFG
  have HIH := Lib.hid ih; clear ih
  clear hn hp ho hq hr hkd hm hq2 hhh hct hxa hya
  go_enter Tryz.func10, Tryz.ntmps10
  go_wp2_with fail
  refine HS1.out.mono ?_
  rintro e w1 ⟨rfl, b1⟩
  have B1 := Lib.hid b1; clear b1
  go_upto_region 2 with fail
  obtain ⟨w2, hw2⟩ : ∃ w2, w2 = w1.alloc (.cells #[.int .i64 0, .int .i64 (kd : Int), .int .u64 (hh : Int), .int .u32 (m : Int), .int .i64 (ct : Int)] 64) := ⟨_, rfl⟩
  rw [← hw2]
  have b2 : Below w.heap.size w w2 := below_then B1.out (by rw [hw2]; exact (Below.refl _ _).alloc (Nat.le_refl _) _)
  have row : w2.heap[w1.heap.size]? = some (.cells #[.int .i64 0, .int .i64 (kd : Int), .int .u64 (hh : Int), .int .u32 (m : Int), .int .i64 (ct : Int)] 64 (0, 0)) := by rw [hw2]; exact heap_alloc_new w1 _
  have hs3 : ∀ W, Below w2.heap.size w2 W → Calls Tryz.prog 18 #[u, .int .i64 0] W fun e w' => e = .returned (.agg ya) ∧ Below w2.heap.size w2 w' := fun W hW =>
    (HS2.out W (below_then b2 hW)).mono fun e w' h => ⟨h.1, below_then hW h.2⟩
  have HB2 := Lib.hid (And.intro b2 row); clear b2 row hw2
  have HS3 := Lib.hid hs3; clear hs3
  clear HS2 HS1 B1
  have KD : Hid (∀ W, Below w2.heap.size w2 W → W.cell? ⟨w1.heap.size, 0, none⟩ = some (.int .i64 0) ∧ W.cell? ⟨w1.heap.size, 1, none⟩ = some (.int .i64 (kd : Int)) ∧ W.cell? ⟨w1.heap.size, 2, none⟩ = some (.int .u64 (hh : Int)) ∧ W.cell? ⟨w1.heap.size, 3, none⟩ = some (.int .u32 (m : Int)) ∧ W.cell? ⟨w1.heap.size, 4, none⟩ = some (.int .i64 (ct : Int))) := fun W hW => by
    have r := (hW.block _ (by exact (Array.getElem?_eq_some_iff.1 HB2.out.2).1)).trans HB2.out.2
    exact ⟨row_cell r rfl, row_cell r rfl, row_cell r rfl, row_cell r rfl, row_cell r rfl⟩
  obtain ⟨d0, d1, d2, d3, d4⟩ := KD.out w2 (Below.refl _ _)
  go_cut [11] from 8 (fun s11 wx => s11 = .bool q ∧ Hid (Below w2.heap.size w2 wx))
  case first =>
    go_region_with (go_at_call 18; refine (HS3.out _ ?_).mono ?_; (first | exact Below.refl _ _ | exact below_drewN (Below.refl _ _) 1 | exact below_drewN (Below.refl _ _) _); rintro e w' ⟨rfl, hb⟩; obtain ⟨e0, e1, e2, e3, e4⟩ := KD.out _ hb)
    all_goals (go_wp2_with fail; go_meet; exact ⟨rfl, hb⟩)
  case rest =>
    obtain ⟨rfl, hbx⟩ := hcut
    obtain ⟨e0, e1, e2, e3, e4⟩ := KD.out wc hbx.out
    have bw : Below w.heap.size w wc := below_then HB2.out.1 hbx.out
    have BW := Lib.hid bw; clear bw
    clear hne hgd HS3 d0 d1 d2 d3 d4 hbx
    cases q with
    | true =>
      have hf : r = false := by
        rw [HX.out.1]
        refine same_unlike fun e => ?_
        have := HX.out.2.2.2
        rw [decide_eq_true e] at this
        cases this
      subst hf
      go_wp2_with fail
      go_ret
      exact ⟨rfl, BW.out⟩
    | false =>
      have hsp : x.spot 0 = y.spot 0 := by
        have h := HX.out.2.2.2
        by_cases e : x.spot 0 = y.spot 0
        · exact e
        · rw [decide_eq_false e] at h
          cases h
      have hky : x.kind = y.kind := congrArg Sp.kind hsp
      have hby : x.bits = y.bits := congrArg Sp.map hsp
      by_cases hk : kd = 3
      · subst hk
        have hk3 := HX.out.2.1
        have hr := HX.out.1
        rw [same_bran hsp hk3.symm] at hr
        obtain ⟨bv, csv, hv, hFb, hrv⟩ := bran_form (HN.out.1.below BW.out) hk3.symm
        obtain ⟨bu, csu, hu, hGb, hru⟩ := bran_form (HP.out.1.below BW.out) (hky.symm.trans hk3.symm)
        subst hv hu
        have hbb : ¬ bv = bu := fun e => HFG.out bv hFb (by rw [e]; exact hGb)
        have heq := run_eq_branches wc hbb hrv hru
        have hx0 : x ≠ .none := fun e => by rw [e] at hk3; cases hk3
        have hy0 : y ≠ .none := fun e => by rw [hky, e] at hk3; cases hk3
        have hm32 : m < 4294967296 := by
          have := HN.out.2
          rw [HX.out.2.2.1]
          cases x with
          | bran m' k kid => exact this.1
          | _ => exact (by decide : 0 < 4294967296)
        have J := Lib.hid (sameKids_any x y HIH.out F G wc _ _ m HFG.out (HN.out.1.below BW.out) (HP.out.1.below BW.out) HN.out.2 HP.out.2 (HT.out.below BW.out) hm32 HX.out.2.2.1.symm (by rw [← hby, HX.out.2.2.1]) hx0 hy0)
        rw [← hr] at J
        clear hsp hby hky hk3 hr hFb hGb hx0 hy0 hm32 hrv hru hbb HIH
        go_wp2_with fail
        refine J.out.mono ?_
        rintro e w3 ⟨rfl, hb3⟩
        have B3 := Lib.hid (below_then BW.out hb3); clear hb3
        go_wp2_with fail
        go_ret
        exact ⟨rfl, B3.out⟩
      · have hkx : x.kind ≠ 3 := by rw [← HX.out.2.1]; exact hk
        have hr := HX.out.1
        rw [same_flat hsp hkx] at hr
        have J1 := Lib.hid (pairsO_any (HN.out.1.below BW.out) HN.out.2 hkx)
        have hj2 := fun W (hW : Below w.heap.size w W) => pairsO_any (HP.out.1.below hW) HP.out.2 (by rw [← hky]; exact hkx)
        have J2 := Lib.hid hj2; clear hj2
        have hlx := (Nd.ok_prs HN.out.2).2.2
        obtain ⟨L, hL⟩ : ∃ L, L = x.prs := ⟨_, rfl⟩
        obtain ⟨M, hM⟩ : ∃ L, L = y.prs := ⟨_, rfl⟩
        rw [← hL] at J1 hlx
        rw [← hM] at J2
        rw [← hL, ← hM] at hr
        have HR := Lib.hid hr; clear hr
        have HLX := Lib.hid hlx; clear hlx
        have hk' : ((kd : Int) != 3) = true := by rw [bne_iff_ne]; omega
        clear hL hM hsp hky hby HIH
        go_wp2_with fail
        refine J1.out.mono ?_
        rintro e w3 ⟨⟨A3, c3, rfl, hp3⟩, hb3⟩
        have B3 := Lib.hid (below_then BW.out hb3)
        have P3 := Lib.hid hp3; clear hb3 hp3
        clear J1
        go_wp2_with fail
        refine (J2.out w3 B3.out).mono ?_
        rintro e w4 ⟨⟨A4, c4, rfl, hp4⟩, hb4⟩
        have J5 := Lib.hid (same_any (P3.out.below hb4) hp4 c3 c4 (by have := HLX.out; omega))
        have B4 := Lib.hid (below_then B3.out hb4); clear hb4 hp4
        rw [← HR.out] at J5
        clear J2 P3
        go_wp2_with fail
        refine J5.out.mono ?_
        rintro e w5 ⟨rfl, hb5⟩
        have B5 := Lib.hid (below_then B4.out hb5); clear hb5
        go_wp2_with fail
        go_ret
        exact ⟨rfl, B5.out⟩
theorem same_node : ∀ x, SameAt x := Nd.by_kids same_step
end Go.Proofs.YtmbdimonfdncpaaGreatDoor
