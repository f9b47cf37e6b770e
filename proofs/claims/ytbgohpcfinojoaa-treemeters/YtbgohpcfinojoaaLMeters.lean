/-
  TreeMeters: for every input the law answers true and leaves its arguments as they were: the walk is typed by hand, the row's step is the guide's template.
  Conditions: none beside the row's own.
-/
import Derived.Test.YtbgohpcfinojoaaPlays
import Derived.Test.YtbgohpcfinojoaaOpen
import Derived.Test.YtbgohpcfinojoaaRows
import Derived.WalkKit
import Derived.ProofKit
import Derived.OpenShut
import Derived.ShutString
import Derived.ChangeOld
import Derived.Below
namespace Go.Proofs.Ytbgohpcfinojoaa.treeMeters
open Go.ChangeShapes Go.WideShapes Go.ChangeAt Go.RowKit
set_option linter.unusedVariables false
theorem own : ownKnob Try.prog.godebug = none := by kernel_rfl
theorem laidOut : laidOutB Try.prog = true := by kernel_rfl
set_option maxRecDepth 100000 in
set_option maxHeartbeats 4000000 in
theorem walk {A0 : Option Addr} {c0 : Nat} {L0 : List Opn} (w : World) (hc0 : L0.length ≤ c0) (hm0 : c0 ≤ maxLen) (ha0 : Ocs w A0 L0) :
    Calls Try.prog 5 #[.slice A0 L0.length c0] w fun e w' => e = .returned (.bool true) ∧ Below w.heap.size w w' := by
  have hsm := fine_any ha0 c0 80 (by decide) (Nat.le_trans hc0 hm0)
  have HAW := Lib.hid awake_any
  cases hs : (decide (L0.length ≤ 80) && tinyO L0) with
  | false =>
    rw [hs] at hsm
    have HSM := Lib.hid hsm; clear hsm
    clear ha0 hs hc0 hm0
    go_enter Try.func5, Try.ntmps5
    go_wp2_with fail
    refine HSM.out.mono ?_
    rintro e w1 ⟨rfl, hb⟩
    have HB := Lib.hid hb; clear hb
    go_wp2_with fail
    refine (HAW.out _).mono ?_
    rintro e w2 ⟨rfl, hb⟩
    have HB2 := Lib.hid hb; clear hb
    go_wp2_with fail
    go_ret
    exact ⟨rfl, below_then HB.out HB2.out⟩
  | true =>
    rw [hs] at hsm
    obtain ⟨hlen, htiny⟩ : L0.length ≤ 80 ∧ tinyO L0 = true := by simpa using hs
    have HTY := Lib.hid (tinyO_all htiny)
    have HSM := Lib.hid hsm; clear hsm
    have HA := Lib.hid ha0; clear ha0
    have HAL := Lib.hid (plays_all hlen htiny)
    clear hs hc0 hm0 htiny
    go_enter Try.func5, Try.ntmps5
    go_wp2_with fail
    refine HSM.out.mono ?_
    rintro e w1 ⟨rfl, hb⟩
    have HB := Lib.hid hb; clear hb
    go_wp2_with fail
    go_loopw [3, 4, 16] (fun x y u wr => ∃ (j n c : Nat) (p A : Option Addr), u = .int .i64 j ∧ x = .pointer p ∧ y = .slice A n c ∧ j ≤ L0.length ∧ Hid (n = (plays (L0.take j)).length) ∧ Hid (∃ t, At w (plays (L0.take j)) p A wr t)) (fun _ _ u _ => L0.length - (intOf u).toNat)
    case atStart => exact ⟨0, 0, 0, none, none, rfl, rfl, rfl, by omega, rfl, .nil, rfl, trivial, rfl, .inl rfl, HB.out⟩
    case round =>
      obtain ⟨j, n, c, p, A, rfl, rfl, rfl, hj, hn, t, hat⟩ := hrel
      by_cases hlt : j < L0.length
      · obtain ⟨b, off, ka, kc, va, vc, rfl, hbl, h0, h1, h2, h3, h4⟩ := (HA.out.below hat.bel).at hlt
        obtain ⟨a1, a2, a3⟩ := HAL.out j
        obtain ⟨a1', a2', a3'⟩ := HAL.out (j + 1)
        have hts : t.size = (plays (L0.take j)).length := by rw [← Tr.length, hat.list]
        have hcube := Tr.high_cube hat.ev (by omega)
        have hsz := fun W (hW : Below wr.heap.size wr W) => size_any (hat.tre.below hW) (by omega)
        have hst := fun W (hW : Below wr.heap.size wr W) g (hg : Met W (some ⟨g, 0, none⟩) 0 0) => step_any (m := some ⟨g, 0, none⟩) (v := 0) (c := 0) c kc vc (fun _ _ => trivial) (hat.tre.below hW) (hat.rcs.below hW) hg (h3.below hW) (h4.below hW) hat.ev a1 (by omega) a2 (HTY.out _ (List.getElem_mem hlt)) (by omega) (by omega) hat.list
        simp only [← plays_step hlt, ← hn.out] at hst
        obtain ⟨M', hM'⟩ : ∃ M', M' = plays (L0.take (j + 1)) := ⟨_, rfl⟩
        obtain ⟨z, hz⟩ : ∃ z : Int, z = (L0[j]).1 := ⟨_, rfl⟩
        obtain ⟨x1, hx1⟩ : ∃ x : Nat, x = (L0[j]).2.1.length := ⟨_, rfl⟩
        obtain ⟨x2, hx2⟩ : ∃ x : Nat, x = (L0[j]).2.2.length := ⟨_, rfl⟩
        simp only [← hM'] at hst a1' a2' a3'
        rw [← hz] at h0
        rw [← hx1] at h1
        rw [← hx2] at h2
        simp only [← hz, ← hx1, ← hx2] at hst
        obtain ⟨wA, hwA⟩ : ∃ W, W = wr.alloc (.cells #[.int .i64 z, .slice ka x1 kc, .slice va x2 vc] 29) := ⟨_, rfl⟩
        have bA : Below wr.heap.size wr wA := by rw [hwA]; exact box3 wr _ _ _
        have rA : wA.heap[wr.heap.size]? = some (.cells #[.int .i64 z, .slice ka x1 kc, .slice va x2 vc] 29 (0, 0)) := by rw [hwA]; exact heap_alloc_new wr _
        have sA : wA.heap.size = wr.heap.size + 1 := by rw [hwA]; simp
        obtain ⟨wB, hwB⟩ : ∃ W, W = wA.alloc (.cells #[.int .i64 0, .int .i64 0] 41) := ⟨_, rfl⟩
        have bB : Below wA.heap.size wA wB := by rw [hwB]; exact (Below.refl _ _).alloc (Nat.le_refl _) _
        have rB : wB.heap[wA.heap.size]? = some (.cells #[.int .i64 0, .int .i64 0] 41 (0, 0)) := by rw [hwB]; exact heap_alloc_new wA _
        have bAB := below_then bA bB
        have mB : Met wB (some ⟨wA.heap.size, 0, none⟩) 0 0 := .inr ⟨_, rfl, rB⟩
        have rA' := (bB.block wr.heap.size (by omega)).trans rA
        obtain ⟨e0, e1, e2⟩ := row3 rA'
        have hsz2 := hsz wB bAB
        rw [hts, ← hn.out] at hsz2
        have HSZ := Lib.hid hsz2; clear hsz2
        have HST := Lib.hid (hst wB bAB wA.heap.size mB); clear hst hsz
        have HROW := Lib.hid rA'; clear rA'
        have HMB := Lib.hid mB; clear mB
        have HM := Lib.hid hM'; clear hM'
        have HBEL := Lib.hid (below_then hat.bel bAB)
        have HZ := Lib.hid hz; clear hz
        have HSA := Lib.hid sA; clear sA
        have HWA := Lib.hid hwA; clear hwA
        have HWB := Lib.hid hwB; clear hwB
        have HCU := Lib.hid hcube; clear hcube
        have HTS := Lib.hid hts; clear hts
        have HA3 := Lib.hid a3
        have HWL := Lib.hid hat.bel.size
        clear h3 h4 hx1 hx2 a1 a2 a3 HA bA rA bB rB bAB hat
        go_wp2_with (first | (rw [← HWA.out]) | (rw [← HWB.out]))
        refine HSZ.out.mono ?_
        rintro e w' ⟨rfl, rfl⟩
        go_wp2_with fail
        refine HST.out.mono ?_
        rintro e w2 ⟨p', t', A', c', v', k', rfl, g1, g2, g3, g4, g5, ⟨n1, n2, n3, n4, n5⟩, g7⟩
        have hn5 := HTS.out
        have hvis := visits_any v' n w2 (by have := hn.out; have := HA3.out; omega) (by have := HCU.out.1; omega) (Nat.le_trans (Nat.pow_le_pow_right (by decide) (show v' - 2 ≤ t.high - 2 by omega)) (by have h := HCU.out.2; rw [HTS.out, ← hn.out] at h; exact h))
        have r2 := row3_only HROW.out HMB.out g7
        obtain ⟨q0, q1, q2⟩ := row3 r2
        obtain ⟨g, hg, r3⟩ := g5.resolve_left (by simp)
        obtain rfl : wA.heap.size = g := by injection hg with hg; injection hg
        obtain ⟨m0, m1, _, _⟩ := row2 r3
        have hb2 : Below w.heap.size w w2 := HBEL.out.trans (g7.below HBEL.out.size (by have := HSA.out; have := HWL.out; omega))
        have hkv : k' ≤ v' := by omega
        have dk : decide ((v' : Int) < (k' : Int)) = false := decide_eq_false (by omega)
        have hpos : 1 ≤ z → z ≤ 3 → 0 < n → 0 < v' := fun y1 y2 y3 => n5 (HZ.out ▸ y1) (HZ.out ▸ y2) (by rintro rfl; have h := HTS.out; rw [← hn.out] at h; simp [Tr.size] at h; omega)
        obtain ⟨n', hn'⟩ : ∃ n', n' = M'.length := ⟨_, rfl⟩
        have REL : Hid (∃ (j' n'' c'' : Nat) (p'' A'' : Option Addr), Value.int .i64 ((j : Int) + 1) = .int .i64 j' ∧ Value.pointer p' = .pointer p'' ∧ Value.slice A' n' c' = .slice A'' n'' c'' ∧ j' ≤ L0.length ∧ Hid (n'' = (plays (L0.take j')).length) ∧ Hid (∃ t, At w (plays (L0.take j')) p'' A'' w2 t)) :=
          ⟨j + 1, n', c', p', A', by rfl, rfl, rfl, by omega, by show _ = _; rw [hn', HM.out], t', g1, g2, by rw [← HM.out]; exact g3, by rw [← HM.out]; exact g4, hb2⟩
        rw [← hn']
        have HV := Lib.hid hvis; clear hvis
        have HPOS := Lib.hid hpos; clear hpos
        clear HST g1 g2 g3 g4 g5 g7 h0 h1 h2 HBEL hb2 hn' r2 r3 n1 n2 n3 n4 n5 e0 e1 e2 hg HSZ HCU HTS HROW HMB HSA HWA HWB HWL hn5
        by_cases y1 : 1 ≤ z
        · have d1 : decide ((1 : Int) ≤ z) = true := decide_eq_true y1
          by_cases y2 : z ≤ 3
          · have d2 : decide (z ≤ (3 : Int)) = true := decide_eq_true y2
            by_cases y3 : 0 < n
            · have d3 : decide ((0 : Int) < (n : Int)) = true := decide_eq_true (by omega)
              have hp := HPOS.out y1 y2 y3
              have d4 : ((v' : Int) == 0) = false := by simpa using (show ¬ (v' : Int) = 0 by omega)
              go_wp2_with fail
              refine HV.out.mono ?_
              rintro e w' ⟨rfl, rfl⟩
              go_wp2_with fail
              go_roundw
              case rel => exact REL.out
              case measure => simp [intOf]; omega
            · have d3 : decide ((0 : Int) < (n : Int)) = false := decide_eq_false (by omega)
              go_wp2_with fail
              refine HV.out.mono ?_
              rintro e w' ⟨rfl, rfl⟩
              go_wp2_with fail
              go_roundw
              case rel => exact REL.out
              case measure => simp [intOf]; omega
          · have d2 : decide (z ≤ (3 : Int)) = false := decide_eq_false y2
            go_wp2_with fail
            refine HV.out.mono ?_
            rintro e w' ⟨rfl, rfl⟩
            go_wp2_with fail
            go_roundw
            case rel => exact REL.out
            case measure => simp [intOf]; omega
        · have d1 : decide ((1 : Int) ≤ z) = false := decide_eq_false y1
          go_wp2_with fail
          refine HV.out.mono ?_
          rintro e w' ⟨rfl, rfl⟩
          go_wp2_with fail
          go_roundw
          case rel => exact REL.out
          case measure => simp [intOf]; omega
      · have HAT := Lib.hid hat; clear hat
        go_wp2_with fail
        refine (HAW.out _).mono ?_
        rintro e w2 ⟨rfl, hb⟩
        have HB2 := Lib.hid hb; clear hb
        go_wp2_with fail
        go_ret
        exact ⟨rfl, below_then HAT.out.bel HB2.out⟩
/-! ### THE ROW's STEP -/
set_option maxRecDepth 100000 in
theorem lifted (os : Os) (started : os.Started) (H : Type) (enc : TypeId × Value → H) :
    ReturnsInHanded {} Try.checked os 5 .any (Rows.treeMetersSpec.pre6 enc Try.prog Try.f5 Rows.treeMetersRow.domain false) (Rows.treeMetersSpec.post enc Try.prog Try.f5 false true false false) := by
  refine returnsInHanded_of_change (C := Try.checked) own started (by kernel_rfl) Try.func5
    (ChangeSpec.witness6 (enc := enc) (C := Try.checked) false ⟨#[], #[.slice none 0 0], []⟩ 8 (by kernel_rfl) (by kernel_rfl) (by kernel_rfl) (by kernel_rfl)) ?_
  intro W base args ds gs before hval0 hW hcnd _
  have hval : ∀ (j : Nat) t v, Try.f5.params[j]? = some t → args[j]? = some v → Value.okWide Try.prog W .any base t v := hval0
  have hW' := hW
  obtain ⟨p, q, hA0, hV, rfl, hfz, hnd⟩ := hW
  have hA : DataW.TrodAll enc Try.prog W 0 (fun _ => true) true Try.f5.params.toList args.toList ds p := hA0
  rw [Try.params5] at hA hval
  obtain ⟨v0, vs0, d0, ds0, p0, q0, hargs, rfl, rfl, h0, r0⟩ := trodAll_cons hA
  obtain ⟨rfl, rfl, rfl⟩ := trodAll_nil r0
  obtain rfl : args = #[v0] := by cases args; simp_all
  obtain ⟨rfl, rfl⟩ := trodVars_none hV
  obtain ⟨a0, len0, cap0, rfl⟩ := okWide_slice Try.underlying22 (hval 0 22 v0 rfl rfl)
  have k0 := h0
  have lt0 : ∀ x ∈ p0, x.block < W.heap.size := by obtain ⟨m, hm⟩ := k0; exact DataW.trod_lt m _ _ _ hm
  obtain ⟨A0, c0, L0, e0, hc0, hm0, ha0⟩ : ∃ (A : Option Addr) (c : Nat) (L : List Opn), Value.slice a0 len0 cap0 = .slice A L.length c ∧ L.length ≤ c ∧ c ≤ maxLen ∧ Ocs W A L := by
    obtain ⟨fuel, hf⟩ := h0
    exact ops_open hf
  clear hA0 hval0
  obtain ⟨rfl, rfl, rfl⟩ : a0 = A0 ∧ len0 = L0.length ∧ cap0 = c0 := by
    injection e0 with x y z
    exact ⟨x, y, z⟩
  refine (walk W hc0 hm0 ha0).mono fun e W' ⟨he, bel⟩ => ?_
  subst he
  exact ⟨_, rfl, _, _, _, [], _, [], hW', trodAll_mk1 (shut_bool Try.underlying4 _), (trodAll_cons_mk (Below.trod laidOut (by kernel_rfl) (of_decide_eq_true (by kernel_rfl)) k0 bel lt0) trodAll_mk0), rfl, bel.frame _, fun h => by cases h⟩

theorem over : Rows.treeMetersRow.holds Try.pinned (OpenSpec.ofChange Rows.treeMetersSpec) :=
  OpenClaim.holds_of_wide 5 Try.f5 rfl rfl rfl rfl rfl rfl rfl ⟨rfl, rfl, rfl, rfl, rfl⟩ rfl rfl rfl rfl rfl (by kernel_rfl) Try.func5 (by kernel_rfl)
    (of_decide_eq_true (by kernel_rfl)) (by unfold Func.isWrapper; first | (rw [if_pos (by decide +kernel)]; kernel_rfl) | (rw [if_neg (by decide +kernel)]; exact ⟨rfl, rfl⟩))
    (fun os started H enc _ => lifted os started H enc)

/-- ████ THE STATEMENT ████ -/
theorem proved : Rows.TreeMetersSaid := over
#print axioms proved
end Go.Proofs.Ytbgohpcfinojoaa.treeMeters
