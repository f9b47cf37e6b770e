/-
  LayoutSums: for every input the law answers true and leaves its arguments as they were; the row lists math/bits.deBruijn32tab, the card ties it to the program's text (the tie is given).
  Conditions: none beside the row's own.
-/
import Derived.Test.YtngfbkkfnooobaaDoorAwake
import Derived.Test.YtngfbkkfnooobaaDoorSummed
import Derived.Test.YtngfbkkfnooobaaDoorComeE
import Derived.Test.YtngfbkkfnooobaaDoorIn
import Derived.Test.YtngfbkkfnooobaaDoorLaid
import Derived.Test.YtngfbkkfnooobaaDoorCards
import Derived.Test.YtngfbkkfnooobaaDoorTie
import Derived.ShutString
import Derived.ChangeOld
import Derived.Below
namespace Go.Proofs.YtngfbkkfnooobaaDoor.layoutSums
open Go.ChangeShapes Go.WideShapes Go.ChangeAt Go.RowKit Go.Shelf
set_option linter.unusedVariables false
theorem laidOut : laidOutB Tryd.prog = true := by kernel_rfl
set_option maxRecDepth 100000
set_option maxHeartbeats 4000000 in
theorem walk {A0 : Option Addr} {c0 : Nat} {L0 : List En} (w : World) (hc0 : L0.length ≤ c0) (hm0 : c0 ≤ maxLen) (ha0 : Ens w A0 L0) (hh0 : ∀ e ∈ L0, e.1 < 18446744073709551616) (hT : Tab w) :
    Calls Tryd.prog 5 #[.slice A0 L0.length c0] w fun e w' => e = .returned (.bool true) ∧ Below w.heap.size w w' := by
  have hml : maxLen ≤ 9223372036854775807 := by decide
  have hsm := small_any ha0 c0 40 (by decide) (Nat.le_trans (Nat.le_trans hc0 hm0) hml)
  cases hs : (decide (L0.length ≤ 40) && tinyE L0) with
  | false =>
    rw [hs] at hsm
    have HSM := Lib.hid hsm; clear hsm
    have HT := Lib.hid hT; clear hT
    clear ha0 hs hc0 hm0 hh0
    go_enter Tryd.func5, Tryd.ntmps5
    go_wp2_with fail
    refine HSM.out.mono ?_
    rintro e w1 ⟨rfl, hb⟩
    have HAW := Lib.hid (awake_any (HT.out.below hb))
    have HB := Lib.hid hb; clear hb
    go_wp2_with fail
    refine HAW.out.mono ?_
    rintro e w2 ⟨rfl, hb⟩
    have HB2 := Lib.hid (below_then HB.out hb); clear hb
    go_wp2_with fail
    go_ret
    exact ⟨rfl, HB2.out⟩
  | true =>
    rw [hs] at hsm
    obtain ⟨hfit, hl40, ht60⟩ := small_fit (by decide) hs hh0
    obtain ⟨X, hX⟩ : ∃ X, X = layL 13 0 (comeE L0) := ⟨_, rfl⟩
    have hlaid : Laid (comeE L0) 0 X := by rw [hX]; exact laid_of hfit
    have hall : X.all.length = X.cnt := by rw [hX]; exact lay_all hfit.good
    have hcnt : X.cnt = (comeE L0).length := hlaid.cnt
    have hcl := comeE_len L0
    have hof := fun W (hW : Below w.heap.size w W) => of_any (F := fun b => W.heap.size ≤ b) c0 (fun b hb => hb) (hT.below hW) (ha0.below hW) hfit
    simp only [← hX] at hof
    have hfew := shape_few X 0 hlaid.ok hlaid.right (by decide)
    have hsnd := sound_shape X 0 [] hlaid.ok hlaid.right (by decide) (ends_nil 0) trivial
    rw [List.append_nil] at hsnd
    have hlv := leaves_shape X 0
    have hcs := shape_count X 0
    have hsp := fun (F : Nat → Prop) W v (h : Nde F W X v) (hT : Tab W) => shape_any h hlaid.ok hlaid.right hT (by omega)
    have hpr := fun (F : Nat → Prop) W v (h : Nde F W X v) => pairsN_any h hlaid.ok (by omega) hall
    have hco := fun W (hW : Below w.heap.size w W) => comeE_any (ha0.below hW) c0 (by omega) (fun e he => by have := ht60 e he; omega)
    obtain ⟨S, hS⟩ : ∃ S, S = X.shape 0 := ⟨_, rfl⟩
    obtain ⟨N, hN⟩ : ∃ n, n = S.length := ⟨_, rfl⟩
    obtain ⟨C, hC⟩ : ∃ n, n = X.cnt := ⟨_, rfl⟩
    simp only [← hS, ← hC] at hfew hsnd hlv hcs hsp hpr hcnt
    have hN8 : N ≤ 560 := by omega
    have hC40 : C ≤ 40 := by omega
    have hplace : Hid (∀ i (h : i < N), ∃ lv kd hh mp ct : Nat, S[i]? = some ⟨lv, kd, hh, mp, ct⟩ ∧ lv ≤ 13 ∧ 1 ≤ ct ∧ ct ≤ 40 ∧ mp < 4294967296 ∧ leaves (S.take (i + 1)) = leaves (S.take i) + (if kd = 3 then 0 else ct) ∧ leaves (S.take (i + 1)) ≤ 40 ∧ (kd = 3 → scan lv (S.drop (i + 1)) = (ct, Bt.cnt mp 32))) := fun i h => by
      have hi : i < S.length := by omega
      have j := sound_at hsnd hi
      have k := hcs _ (List.getElem_mem hi)
      have l := leaves_take S hi
      have m := leaves_le S (i + 1)
      rw [List.getElem?_eq_getElem hi]
      revert j k l
      generalize S[i] = s
      obtain ⟨lv, kd, hh, mp, ct⟩ := s
      intro j k l
      have k' : ct ≤ C := k
      have j1 : lv ≤ 13 := j.level
      have j2 : 1 ≤ ct := j.pos
      exact ⟨lv, kd, hh, mp, ct, rfl, j1, j2, by omega, j.set, l, by omega, j.below⟩
    have hend : Hid (leaves (S.take N) = C) := by rw [hN, List.take_length]; exact hlv
    have HSM := Lib.hid hsm; clear hsm
    have HOF := Lib.hid hof; clear hof
    have HSP := Lib.hid hsp; clear hsp
    have HPR := Lib.hid hpr; clear hpr
    have HCO := Lib.hid hco; clear hco
    have HT := Lib.hid hT; clear hT
    have HN := Lib.hid hN
    have HC := Lib.hid hcnt; clear hcnt
    clear ha0 hs hc0 hm0 hh0 hfit ht60 hall hlaid hcl hfew hsnd hlv hcs hl40 hC hX hS
    go_enter Tryd.func5, Tryd.ntmps5
    go_wp2_with fail
    refine HSM.out.mono ?_
    rintro e w1 ⟨rfl, hb⟩
    have B1 := Lib.hid hb; clear hb
    go_wp2_with fail
    refine (HOF.out w1 B1.out).mono ?_
    rintro e w2 ⟨v, rfl, hnd, hb⟩
    have hvf : v = .nilIface ∨ ∃ t b, v = .iface t (.pointer (some ⟨b, 0, none⟩)) := by
      rcases hnd.nil_iff with ⟨_, h⟩ | ⟨_, t, b, h⟩
      · exact .inl h
      · exact .inr ⟨t, b, h⟩
    have B2 := Lib.hid (below_then B1.out hb); clear hb
    have J := Lib.hid (HSP.out _ w2 v hnd (HT.out.below B2.out))
    have ND := Lib.hid hnd; clear hnd
    clear HSP HOF
    have HVF := Lib.hid hvf; clear hvf
    rw [← hN] at J
    clear hN
    go_wp2_with fail
    refine J.out.mono ?_
    rintro e w3 ⟨A3, c3, rfl, hcap, hsps, hb⟩
    have R3 := Lib.hid (And.intro hcap hsps); clear hcap hsps
    have ND3 := Lib.hid (ND.out.below hb)
    have B3 := Lib.hid (below_then B2.out hb); clear hb
    clear J ND
    go_wp2_with fail
    go_loopw [5, 22] (fun a u wr => ∃ i l : Nat, u = .int .i64 i ∧ i ≤ N ∧ a = .int .i64 l ∧ l ≤ 40 ∧ Hid (l = leaves (S.take i)) ∧ Hid (Below w3.heap.size w3 wr)) (fun _ u _ => N - (intOf u).toNat)
    case atStart => exact ⟨0, 0, rfl, by omega, rfl, by omega, rfl, Below.refl _ _⟩
    case round =>
      obtain ⟨i, l, rfl, hi, rfl, hl, hll, hbel⟩ := hrel
      by_cases hlt : i < N
      · obtain ⟨lv, kd, hh, mp, ct, hsi, q1, q2, q3, q4, q5, q6, q7⟩ := hplace.out i hlt
        obtain ⟨hi', hsi'⟩ := List.getElem?_eq_some_iff.1 hsi
        obtain ⟨g, rfl, hg, hcells⟩ := (R3.out.2.below hbel.out).at hi'
        have hx := hcells i hi'
        rw [hsi'] at hx
        obtain ⟨x0, x1, x2, x3, x4⟩ := hx
        simp only at x0 x1 x2 x3 x4
        have HCELLS := Lib.hid hcells; clear hcells
        have HQ5 := Lib.hid (And.intro q5 (And.intro q6 q7)); clear q5 q6 q7
        have HSI := Lib.hid (And.intro hi' hsi); clear hsi hi' hsi'
        by_cases hk3 : kd = 3
        · subst hk3
          have x1 : wr.cell? ⟨g, i * 5 + 1, none⟩ = some (.int .i64 3) := x1
          obtain ⟨A', hsl, hA'⟩ := run_behind g N c3 (i + 1) (by omega) R3.out.1
          rw [show ((i + 1 : Nat) : Int) = (i : Int) + 1 by omega] at hsl
          obtain ⟨D, hD⟩ : ∃ D, D = N - (i + 1) := ⟨_, rfl⟩
          obtain ⟨c4, hc4⟩ : ∃ c4, c4 = c3 - (i + 1) := ⟨_, rfl⟩
          rw [← hD, ← hc4] at hsl
          have HA := Lib.hid hA'; clear hA' hc4
          have HD := Lib.hid hD; clear hD
          go_wp2_with fail
          obtain ⟨W1, hW1⟩ : ∃ W, W = wr.alloc (.cells #[.int .i64 (lv : Int), .int .i64 3, .int .u64 (hh : Int), .int .u32 (mp : Int), .int .i64 (ct : Int)] 50) := ⟨_, rfl⟩
          rw [← hW1]
          have b1 : Below wr.heap.size wr W1 := by rw [hW1]; exact (Below.refl _ _).alloc (Nat.le_refl _) _
          have row1 : W1.heap[wr.heap.size]? = some (.cells #[.int .i64 (lv : Int), .int .i64 3, .int .u64 (hh : Int), .int .u32 (mp : Int), .int .i64 (ct : Int)] 50 (0, 0)) := by rw [hW1]; exact heap_alloc_new wr _
          have HW1 := Lib.hid (And.intro b1 row1); clear b1 row1 hW1
          obtain ⟨p, hp⟩ : ∃ p, p = Bt.cnt mp 32 := ⟨_, rfl⟩
          have hp32 : p ≤ 32 := by rw [hp]; exact Bt.cnt_le mp 32
          have hct := fun W => Bt.count_any mp W q4
          simp only [← hp] at hct
          have HCT := Lib.hid hct; clear hct
          obtain ⟨f, hf⟩ : ∃ f : Nat → Nat, f = fun j => (scan lv (S.drop (i + 1 + j))).1 := ⟨_, rfl⟩
          obtain ⟨k, hk⟩ : ∃ k : Nat → Nat, k = fun j => (scan lv (S.drop (i + 1 + j))).2 := ⟨_, rfl⟩
          have HF0 : Hid (f 0 = ct ∧ k 0 = p) := by
            have := HQ5.out.2.2 trivial
            subst hf hk
            show (scan lv (S.drop (i + 1 + 0))).1 = ct ∧ (scan lv (S.drop (i + 1 + 0))).2 = p
            rw [Nat.add_zero, this, hp]
            exact ⟨rfl, rfl⟩
          have HFD : Hid (f D = 0 ∧ k D = 0) := by
            have h1 : S.drop (i + 1 + D) = [] := List.drop_eq_nil_of_le (by have := HN.out; have := HD.out; omega)
            subst hf hk
            show (scan lv (S.drop (i + 1 + D))).1 = 0 ∧ (scan lv (S.drop (i + 1 + D))).2 = 0
            rw [h1]
            exact ⟨rfl, rfl⟩
          have HIN : Hid (∀ W, Below W1.heap.size W1 W → ∀ j, j < D → ∃ lv' kd' hh' mp' ct' : Nat, lv' ≤ 13 ∧ ct' ≤ 40 ∧ (lv' ≤ lv → f j = 0 ∧ k j = 0) ∧ (lv' = lv + 1 → f j = ct' + f (j + 1) ∧ k j = k (j + 1) + 1) ∧ (lv + 1 < lv' → f j = f (j + 1) ∧ k j = k (j + 1)) ∧
              A' = some ⟨g, (i + 1) * 5, none⟩ ∧ g < W.heap.size ∧ W.cell? ⟨g, (i + 1) * 5 + j * 5, none⟩ = some (.int .i64 (lv' : Int)) ∧ W.cell? ⟨g, (i + 1) * 5 + j * 5 + 1, none⟩ = some (.int .i64 (kd' : Int)) ∧ W.cell? ⟨g, (i + 1) * 5 + j * 5 + 2, none⟩ = some (.int .u64 (hh' : Int)) ∧
              W.cell? ⟨g, (i + 1) * 5 + j * 5 + 3, none⟩ = some (.int .u32 (mp' : Int)) ∧ W.cell? ⟨g, (i + 1) * 5 + j * 5 + 4, none⟩ = some (.int .i64 (ct' : Int))) := fun W hW j hj => by
            have hd := HD.out
            have hij : i + 1 + j < N := by omega
            obtain ⟨lv', kd', hh', mp', ct', hs', r1, r2, r3, _⟩ := hplace.out (i + 1 + j) hij
            obtain ⟨hl', hs''⟩ := List.getElem?_eq_some_iff.1 hs'
            have bW := below_then HW1.out.1 hW
            have e := bW.block g hg
            have hx := HCELLS.out (i + 1 + j) hl'
            rw [hs''] at hx
            obtain ⟨y0, y1, y2, y3, y4⟩ := hx
            rw [show (i + 1 + j) * 5 = (i + 1) * 5 + j * 5 by omega] at y0 y1 y2 y3 y4
            have hstep : scan lv (S.drop (i + 1 + j)) = if lv' ≤ lv then (0, 0) else if lv' = lv + 1 then (ct' + (scan lv (S.drop (i + 1 + (j + 1)))).1, (scan lv (S.drop (i + 1 + (j + 1)))).2 + 1) else scan lv (S.drop (i + 1 + (j + 1))) := by
              rw [List.drop_eq_getElem_cons hl', hs'', scan]
              rfl
            refine ⟨lv', kd', hh', mp', ct', r1, r3, fun h => ?_, fun h => ?_, fun h => ?_, HA.out (by omega), Nat.lt_of_lt_of_le hg bW.size, (cell_kept e).trans y0, (cell_kept e).trans y1, (cell_kept e).trans y2, (cell_kept e).trans y3, (cell_kept e).trans y4⟩
            · subst hf hk
              show (scan lv (S.drop (i + 1 + j))).1 = 0 ∧ (scan lv (S.drop (i + 1 + j))).2 = 0
              rw [hstep, if_pos h]
              exact ⟨rfl, rfl⟩
            · subst hf hk
              show (scan lv (S.drop (i + 1 + j))).1 = ct' + (scan lv (S.drop (i + 1 + (j + 1)))).1 ∧ (scan lv (S.drop (i + 1 + j))).2 = (scan lv (S.drop (i + 1 + (j + 1)))).2 + 1
              rw [hstep, if_neg (by omega), if_pos h]
              exact ⟨rfl, rfl⟩
            · subst hf hk
              show (scan lv (S.drop (i + 1 + j))).1 = (scan lv (S.drop (i + 1 + (j + 1)))).1 ∧ (scan lv (S.drop (i + 1 + j))).2 = (scan lv (S.drop (i + 1 + (j + 1)))).2
              rw [hstep, if_neg (by omega), if_neg (by omega)]
              exact ⟨rfl, rfl⟩
          have HD9 : Hid (D ≤ 560) := by have := HD.out; show D ≤ 560; omega
          have hD9 := HD9.out
          clear hf hk hp
          obtain ⟨wo, hwo⟩ : ∃ W, W = wr := ⟨_, rfl⟩
          subst hwo
          go_loopw [8, 9, 52] (fun s8 s9 u wx => ∃ sm kn j : Nat, s8 = .int .i64 sm ∧ s9 = .int .i64 kn ∧ u = .int .i64 j ∧ j ≤ D ∧ sm + f j = ct ∧ kn + k j = p ∧ Hid (Below W1.heap.size W1 wx)) (fun _ _ u _ => D - (intOf u).toNat)
          case atStart => exact ⟨0, 0, 0, rfl, rfl, rfl, by omega, by have := HF0.out.1; omega, by have := HF0.out.2; omega, Below.refl _ _⟩
          case round =>
            obtain ⟨sm, kn, j, rfl, rfl, rfl, hj, hsm, hkn, hbx⟩ := hrel
            have row2 := (hbx.out.block wo.heap.size (by have := (Array.getElem?_eq_some_iff.1 HW1.out.2).1; exact this)).trans HW1.out.2
            have lt2 := (Array.getElem?_eq_some_iff.1 row2).1
            have k0 : wr.cell? ⟨wo.heap.size, 0, none⟩ = some (.int .i64 (lv : Int)) := row_cell row2 rfl
            have k3 : wr.cell? ⟨wo.heap.size, 3, none⟩ = some (.int .u32 (mp : Int)) := row_cell row2 rfl
            have k4 : wr.cell? ⟨wo.heap.size, 4, none⟩ = some (.int .i64 (ct : Int)) := row_cell row2 rfl
            by_cases hjd : j < D
            · obtain ⟨lv', kd', hh', mp', ct', r1, r2, r3, r4, r5, rfl, hgx, y0, y1, y2, y3, y4⟩ := HIN.out wr hbx.out j hjd
              have bz := (Below.refl wr.heap.size wr).alloc (Nat.le_refl _) (.cells #[.int .i64 (lv' : Int), .int .i64 (kd' : Int), .int .u64 (hh' : Int), .int .u32 (mp' : Int), .int .i64 (ct' : Int)] 50)
              have z0 := (bz.cell (p := ⟨wo.heap.size, 0, none⟩) lt2).trans k0
              have z3 := (bz.cell (p := ⟨wo.heap.size, 3, none⟩) lt2).trans k3
              have z4 := (bz.cell (p := ⟨wo.heap.size, 4, none⟩) lt2).trans k4
              have HBZ := Lib.hid (below_then hbx.out bz); clear bz row2
              by_cases hle : lv' ≤ lv
              · have r3 := r3 hle
                have e1 : sm = ct := by omega
                have e2 : kn = p := by omega
                subst e1 e2
                clear r3 r4 r5 HIN HFD HF0
                go_wp2_with fail
                refine (HCT.out _).mono ?_
                rintro e w9 ⟨rfl, n9, rfl⟩
                go_wp2_with fail
                go_roundw
                case rel =>
                  refine ⟨i + 1, l, by go_num, by omega, rfl, hl, ?_, ?_⟩
                  · have e1 := HQ5.out.1
                    have e2 := hll.out
                    rw [if_pos trivial] at e1
                    show l = _
                    omega
                  · exact below_drewN (below_then hbel.out (below_then HW1.out.1 HBZ.out)) _
                case measure => simp [intOf]; omega
              · by_cases heq : lv' = lv + 1
                · obtain ⟨t1, t2⟩ := r4 heq
                  subst heq
                  clear r3 r4 r5 HIN HFD HF0 HCT hle
                  go_wp2_with fail
                  go_roundw
                  case rel => exact ⟨sm + ct', kn + 1, j + 1, by go_num, by go_num, by go_num, by omega, by omega, by omega, HBZ.out⟩
                  case measure => simp [intOf]; omega
                · obtain ⟨t1, t2⟩ := r5 (by omega)
                  clear r3 r4 r5 HIN HFD HF0 HCT
                  go_wp2_with fail
                  go_roundw
                  case rel => exact ⟨sm, kn, j + 1, rfl, rfl, by go_num, by omega, by omega, by omega, HBZ.out⟩
                  case measure => simp [intOf]; omega
            · obtain rfl : j = D := by omega
              have e1 : sm = ct := by have := HFD.out.1; omega
              have e2 : kn = p := by have := HFD.out.2; omega
              subst e1 e2
              clear HIN HFD HF0 row2
              go_wp2_with fail
              refine (HCT.out _).mono ?_
              rintro e w9 ⟨rfl, n9, rfl⟩
              go_wp2_with fail
              go_roundw
              case rel =>
                refine ⟨i + 1, l, by go_num, by omega, rfl, hl, ?_, ?_⟩
                · have e1 := HQ5.out.1
                  have e2 := hll.out
                  rw [if_pos trivial] at e1
                  show l = _
                  omega
                · exact below_drewN (below_then hbel.out (below_then HW1.out.1 hbx.out)) _
              case measure => simp [intOf]; omega
        · have hk3' : ((kd : Int) != 3) = true := by rw [bne_iff_ne]; omega
          go_wp2_with fail
          go_roundw
          case rel =>
            have e1 := HQ5.out.1
            have e2 := HQ5.out.2.1
            have e3 := hll.out
            rw [if_neg hk3] at e1
            exact ⟨i + 1, l + ct, by go_num, by omega, by go_num, by omega, (by show l + ct = _; omega), below_then hbel.out ((Below.refl _ _).alloc (Nat.le_refl _) _)⟩
          case measure => simp [intOf]; omega
      · obtain rfl : i = N := by omega
        have hlC : l = C := by have := hll.out; have := hend.out; omega
        subst hlC
        have bW := below_then B3.out hbel.out
        have J := Lib.hid (HCO.out wr bW)
        have BW := Lib.hid bW; clear bW
        have NDW := Lib.hid (ND3.out.below hbel.out)
        clear HCO ND3 hplace hend hll hbel R3
        go_wp2_with fail
        refine J.out.mono ?_
        rintro e w4 ⟨v4, rfl, hn4, hb⟩
        obtain ⟨A4, c4, rfl, hc4, hE4⟩ := hn4.ens
        have J5 := Lib.hid (HPR.out _ w4 v (NDW.out.below hb))
        have B4 := Lib.hid (below_then BW.out hb); clear hb hn4 hE4
        rw [← HC.out] at hc4 ⊢
        clear J NDW BW HPR
        go_wp2_with fail
        refine J5.out.mono ?_
        rintro e w5 ⟨⟨A5, c5, rfl⟩, hb⟩
        have B5 := Lib.hid (below_then B4.out hb); clear hb
        have J6 := Lib.hid (awake_any (HT.out.below B5.out))
        clear J5 B4
        go_wp2_with fail
        refine J6.out.mono ?_
        rintro e w6 ⟨rfl, hb⟩
        have B6 := Lib.hid (below_then B5.out hb); clear hb
        go_wp2_with fail
        go_ret
        exact ⟨rfl, B6.out⟩

theorem lifted (os : Os) (started : os.Started) (H : Type) (enc : TypeId × Value → H) :
    ReturnsInHanded {} Tryd.checked os 5 .any (fun w args => (Rows.layoutSumsSpec.pre enc Tryd.prog Tryd.f5 [] false w args ∧ laidMetH Tryd.prog laid w) ∧ sizedMet enc Tryd.prog Tryd.f5 (OpenSpec.ofChange Rows.layoutSumsSpec) false w args)
      (Rows.layoutSumsSpec.post enc Tryd.prog Tryd.f5 false true false false) := by
  refine returnsInHanded_of_change_and (C := Tryd.checked) (X := fun w _ => laidMetH Tryd.prog laid w) (fun _ _ _ hh h => h.of_heap hh) own started (by kernel_rfl) Tryd.func5
    (ChangeSpec.witness_shaped (enc := enc) (C := Tryd.checked) (os := os) (X := fun w _ => laidMetH Tryd.prog laid w) false (World.laidAll Tryd.prog os laid) #[.slice none 0 0] 8 (World.laidAll_os _ _ _)
      (World.shaped_of_ZipB (by kernel_rfl) (by kernel_rfl)) (by kernel_rfl) (by kernel_rfl) (by kernel_rfl)
      (by rw [MakeChecks.laidMetH_plain _ _ _ (by kernel_rfl)]; exact laidMet_laidAll _ (by kernel_rfl) (by kernel_rfl))) ?_
  intro W base args ds gs before hval0 hW _ _ hL _
  have hval : ∀ (j : Nat) t v, Tryd.f5.params[j]? = some t → args[j]? = some v → Value.okWide Tryd.prog W .any base t v := hval0
  have hW' := hW
  obtain ⟨p, q, hA0, hV, rfl, _, _⟩ := hW
  have hA : DataW.TrodAll enc Tryd.prog W 0 (fun _ => true) true Tryd.f5.params.toList args.toList ds p := hA0
  rw [Tryd.params5] at hA hval
  obtain ⟨v0, vs0, d0, ds0, p0, q0, hargs, rfl, rfl, h0, r0⟩ := trodAll_cons hA
  obtain ⟨rfl, rfl, rfl⟩ := trodAll_nil r0
  obtain rfl : args = #[v0] := by cases args; simp_all
  obtain ⟨rfl, rfl⟩ := trodVars_none hV
  have lt0 : ∀ x ∈ p0, x.block < W.heap.size := by obtain ⟨m, hm⟩ := h0; exact DataW.trod_lt m _ _ _ hm
  have ok0 := hval 0 22 v0 rfl rfl
  clear hA0 hval0 hval
  obtain ⟨A0, c0, L0, rfl, hc0, hm0, ha0, hh0⟩ := entries_in ok0 h0
  refine (walk W hc0 hm0 ha0 hh0 (tab_of_laid hL)).mono fun e W' ⟨he, bel⟩ => ?_
  subst he
  exact ⟨_, rfl, _, _, _, [], _, [], hW', trodAll_mk1 (shut_bool Tryd.underlying4 _), (trodAll_cons_mk (Below.trod laidOut (by kernel_rfl) (of_decide_eq_true (by kernel_rfl)) h0 bel lt0) trodAll_mk0), rfl, bel.frame _, fun h => by cases h⟩

theorem over : Rows.LayoutSumsSaid :=
  OpenClaim.holds_of_wide 5 Tryd.f5 rfl rfl rfl rfl rfl rfl rfl ⟨rfl, rfl, rfl, rfl, rfl⟩ rfl rfl rfl rfl rfl (by kernel_rfl) Tryd.func5 (by kernel_rfl)
    (of_decide_eq_true (by kernel_rfl)) (by unfold Func.isWrapper; first | (rw [if_pos (by decide +kernel)]; kernel_rfl) | (rw [if_neg (by decide +kernel)]; exact ⟨rfl, rfl⟩))
    (fun os started H enc _ => lifted os started H enc)

/-- ████ THE STATEMENT: THE TIED CARD ████ -/
theorem proved : Rows.LayoutSumsCardSaid :=
  Claim7.holds_tied_plain_at .later [] [.data] true (true, "41dacddf5f520ead60d17bced455855c118e313fc8aa3ad090142a0f83d9016d") true over (fun _ h => by cases h) (by kernel_rfl) (fun _ h => by cases h) layoutSums_row_tie rfl ⟨rfl, rfl⟩ (by kernel_rfl) rfl
    (fun f fn hf hfn => by
      obtain rfl : f = 5 := Option.some.inj ((show Tryd.prog.funcNamed "brushwood/brushwoodlaw17.LayoutSums" = some 5 by kernel_rfl).symm.trans hf) |>.symm
      obtain rfl : fn = Tryd.f5 := (Option.some.inj (Tryd.func5.symm.trans hfn)).symm
      exact ⟨by kernel_rfl, fun j t ht => by
        rw [Tryd.params5] at ht
        have hm : t ∈ [22] := by simpa using Array.mem_of_getElem? ht
        have hall : ([22].all fun u => !Tryd.prog.wantsStandIn u) = true := by kernel_rfl
        exact (show Tryd.prog.wantsStandIn t = false by simpa using List.all_eq_true.1 hall t hm)⟩)
    (by kernel_rfl)
#print axioms proved
end Go.Proofs.YtngfbkkfnooobaaDoor.layoutSums
