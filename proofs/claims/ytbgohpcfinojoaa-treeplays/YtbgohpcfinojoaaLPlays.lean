/-
  TreePlays: for every input the law answers true and leaves its arguments as they were: the walk is typed by hand, the row's step is the guide's template.
  Conditions: none beside the row's own.
-/
import Derived.Test.YtbgohpcfinojoaaPlays
import Derived.Test.YtbgohpcfinojoaaOpen
import Derived.Test.YtbgohpcfinojoaaRows
import Derived.WalkKit
import Derived.ProofKit
import Derived.OpenShut
import Derived.ShutString
import Derived.ChangeOld
import Derived.Below
namespace Go.Proofs.Ytbgohpcfinojoaa.treePlays
open Go.ChangeShapes Go.WideShapes Go.ChangeAt Go.RowKit
set_option linter.unusedVariables false
theorem own : ownKnob Try.prog.godebug = none := by kernel_rfl
theorem laidOut : laidOutB Try.prog = true := by kernel_rfl
set_option maxRecDepth 100000 in
set_option maxHeartbeats 4000000 in
theorem walk {A0 : Option Addr} {c0 : Nat} {L0 : List Opn} (w : World) (hc0 : L0.length ≤ c0) (hm0 : c0 ≤ maxLen) (ha0 : Ocs w A0 L0) :
    Calls Try.prog 3 #[.slice A0 L0.length c0] w fun e w' => e = .returned (.bool true) ∧ Below w.heap.size w w' := by
  have hsm := fine_any ha0 c0 80 (by decide) (Nat.le_trans hc0 hm0)
  have HAW := Lib.hid awake_any
  cases hs : (decide (L0.length ≤ 80) && tinyO L0) with
  | false =>
    rw [hs] at hsm
    have HSM := Lib.hid hsm; clear hsm
    clear ha0 hs hc0 hm0
    go_enter Try.func3, Try.ntmps3
    go_wp2_with fail
    refine HSM.out.mono ?_
    rintro e w1 ⟨rfl, hb⟩
    have HB := Lib.hid hb; clear hb
    go_wp2_with fail
    refine (HAW.out _).mono ?_
    rintro e w2 ⟨rfl, hb⟩
    have HB2 := Lib.hid hb; clear hb
    go_wp2_with fail
    go_ret
    exact ⟨rfl, below_then HB.out HB2.out⟩
  | true =>
    rw [hs] at hsm
    obtain ⟨hlen, htiny⟩ : L0.length ≤ 80 ∧ tinyO L0 = true := by simpa using hs
    have HTY := Lib.hid (tinyO_all htiny)
    have HSM := Lib.hid hsm; clear hsm
    have HA := Lib.hid ha0; clear ha0
    have HAL := Lib.hid (plays_all hlen htiny)
    clear hs hc0 hm0 htiny
    go_enter Try.func3, Try.ntmps3
    go_wp2_with fail
    refine HSM.out.mono ?_
    rintro e w1 ⟨rfl, hb⟩
    have HB := Lib.hid hb; clear hb
    go_wp2_with fail
    go_loopw [3, 4, 14] (fun x y u wr => ∃ (j n c : Nat) (p A : Option Addr), u = .int .i64 j ∧ x = .pointer p ∧ y = .slice A n c ∧ j ≤ L0.length ∧ Hid (n = (plays (L0.take j)).length) ∧ Hid (∃ t, At w (plays (L0.take j)) p A wr t)) (fun _ _ u _ => L0.length - (intOf u).toNat)
    case atStart => exact ⟨0, 0, 0, none, none, rfl, rfl, rfl, by omega, rfl, .nil, rfl, trivial, rfl, .inl rfl, HB.out⟩
    case round =>
      obtain ⟨j, n, c, p, A, rfl, rfl, rfl, hj, hn, t, hat⟩ := hrel
      by_cases hlt : j < L0.length
      · obtain ⟨b, off, ka, kc, va, vc, rfl, hbl, h0, h1, h2, h3, h4⟩ := (HA.out.below hat.bel).at hlt
        obtain ⟨a1, a2, a3⟩ := HAL.out j
        obtain ⟨a1', a2', a3'⟩ := HAL.out (j + 1)
        have hst := fun W (hW : Below wr.heap.size wr W) => step_any (m := none) (v := 0) (c := 0) c kc vc (fun _ _ => trivial) (hat.tre.below hW) (hat.rcs.below hW) (.inl rfl) (h3.below hW) (h4.below hW) hat.ev a1 (by omega) a2 (HTY.out _ (List.getElem_mem hlt)) (by omega) (by omega) hat.list
        simp only [← plays_step hlt, ← hn.out] at hst
        obtain ⟨M', hM'⟩ : ∃ M', M' = plays (L0.take (j + 1)) := ⟨_, rfl⟩
        obtain ⟨z, hz⟩ : ∃ z : Int, z = (L0[j]).1 := ⟨_, rfl⟩
        obtain ⟨x1, hx1⟩ : ∃ x : Nat, x = (L0[j]).2.1.length := ⟨_, rfl⟩
        obtain ⟨x2, hx2⟩ : ∃ x : Nat, x = (L0[j]).2.2.length := ⟨_, rfl⟩
        simp only [← hM'] at hst a1' a2' a3'
        rw [← hz] at h0
        rw [← hx1] at h1
        rw [← hx2] at h2
        simp only [← hz, ← hx1, ← hx2] at hst
        have HST := Lib.hid (hst _ (box3 wr (.int .i64 z) (.slice ka x1 kc) (.slice va x2 vc)))
        have HBEL := Lib.hid (below_then hat.bel (box3 wr (.int .i64 z) (.slice ka x1 kc) (.slice va x2 vc)))
        have HM := Lib.hid hM'; clear hM'
        clear hst h3 h4 hat hz hx1 hx2 a1 a2 a3 HA hn
        go_wp2_with fail
        refine HST.out.mono ?_
        rintro e w2 ⟨p', t', A', c', v', k', rfl, g1, g2, g3, g4, _, _, g7⟩
        have hfit : Fits t'.list := fun x hx => by rw [g3] at hx; have := a2' x hx; omega
        have hsz : t'.size ≤ 800 := by rw [← Tr.length, g3]; omega
        have hli := list_any g1 hsz hfit
        rw [g3] at hli
        obtain ⟨n', hn'⟩ : ∃ n', n' = M'.length := ⟨_, rfl⟩
        have hb2 := below_then HBEL.out g7.nil
        have HLI := Lib.hid hli; clear hli
        have HAT : Hid (At w M' p' A' w2 t') := ⟨g1, g2, g3, g4, hb2⟩
        rw [← hn']
        have HN' := Lib.hid hn'; clear hn'
        clear HST g1 g2 g3 g4 g7 hfit hsz h0 h1 h2 HBEL hb2
        go_wp2_with fail
        refine HLI.out.mono ?_
        rintro e w3 ⟨B, cb, rfl, hfr, hb3⟩
        have his := refIs_any hfr.pcs (HAT.out.rcs.below hb3) cb c' (by omega)
        rw [decide_eq_true (show M' = M' from rfl), ← HN'.out] at his
        rw [← HN'.out]
        have HIS := Lib.hid his; clear his
        have HB3 := Lib.hid hb3; clear hb3
        clear hfr HLI
        go_wp2_with fail
        refine HIS.out.mono ?_
        rintro e w4 ⟨rfl, hb4⟩
        have HB4 := Lib.hid hb4; clear hb4
        go_wp2_with fail
        go_roundw
        case rel =>
          have hq := HAT.out
          have hb := below_then HB3.out HB4.out
          exact ⟨j + 1, n', c', p', A', by go_num, rfl, rfl, by omega, by show _ = _; rw [HN'.out, HM.out], t', hq.tre.below hb, hq.ev, by rw [← HM.out]; exact hq.list, by rw [← HM.out]; exact hq.rcs.below hb, below_then hq.bel hb⟩
        case measure => simp [intOf]; omega
      · have HAT := Lib.hid hat; clear hat
        go_wp2_with fail
        refine (HAW.out _).mono ?_
        rintro e w2 ⟨rfl, hb⟩
        have HB2 := Lib.hid hb; clear hb
        go_wp2_with fail
        go_ret
        exact ⟨rfl, below_then HAT.out.bel HB2.out⟩
/-! ### THE ROW's STEP -/
set_option maxRecDepth 100000 in
theorem lifted (os : Os) (started : os.Started) (H : Type) (enc : TypeId × Value → H) :
    ReturnsInHanded {} Try.checked os 3 .any (Rows.treePlaysSpec.pre6 enc Try.prog Try.f3 Rows.treePlaysRow.domain false) (Rows.treePlaysSpec.post enc Try.prog Try.f3 false true false false) := by
  refine returnsInHanded_of_change (C := Try.checked) own started (by kernel_rfl) Try.func3
    (ChangeSpec.witness6 (enc := enc) (C := Try.checked) false ⟨#[], #[.slice none 0 0], []⟩ 8 (by kernel_rfl) (by kernel_rfl) (by kernel_rfl) (by kernel_rfl)) ?_
  intro W base args ds gs before hval0 hW hcnd _
  have hval : ∀ (j : Nat) t v, Try.f3.params[j]? = some t → args[j]? = some v → Value.okWide Try.prog W .any base t v := hval0
  have hW' := hW
  obtain ⟨p, q, hA0, hV, rfl, hfz, hnd⟩ := hW
  have hA : DataW.TrodAll enc Try.prog W 0 (fun _ => true) true Try.f3.params.toList args.toList ds p := hA0
  rw [Try.params3] at hA hval
  obtain ⟨v0, vs0, d0, ds0, p0, q0, hargs, rfl, rfl, h0, r0⟩ := trodAll_cons hA
  obtain ⟨rfl, rfl, rfl⟩ := trodAll_nil r0
  obtain rfl : args = #[v0] := by cases args; simp_all
  obtain ⟨rfl, rfl⟩ := trodVars_none hV
  obtain ⟨a0, len0, cap0, rfl⟩ := okWide_slice Try.underlying22 (hval 0 22 v0 rfl rfl)
  have k0 := h0
  have lt0 : ∀ x ∈ p0, x.block < W.heap.size := by obtain ⟨m, hm⟩ := k0; exact DataW.trod_lt m _ _ _ hm
  obtain ⟨A0, c0, L0, e0, hc0, hm0, ha0⟩ : ∃ (A : Option Addr) (c : Nat) (L : List Opn), Value.slice a0 len0 cap0 = .slice A L.length c ∧ L.length ≤ c ∧ c ≤ maxLen ∧ Ocs W A L := by
    obtain ⟨fuel, hf⟩ := h0
    exact ops_open hf
  clear hA0 hval0
  obtain ⟨rfl, rfl, rfl⟩ : a0 = A0 ∧ len0 = L0.length ∧ cap0 = c0 := by
    injection e0 with x y z
    exact ⟨x, y, z⟩
  refine (walk W hc0 hm0 ha0).mono fun e W' ⟨he, bel⟩ => ?_
  subst he
  exact ⟨_, rfl, _, _, _, [], _, [], hW', trodAll_mk1 (shut_bool Try.underlying4 _), (trodAll_cons_mk (Below.trod laidOut (by kernel_rfl) (of_decide_eq_true (by kernel_rfl)) k0 bel lt0) trodAll_mk0), rfl, bel.frame _, fun h => by cases h⟩

theorem over : Rows.treePlaysRow.holds Try.pinned (OpenSpec.ofChange Rows.treePlaysSpec) :=
  OpenClaim.holds_of_wide 3 Try.f3 rfl rfl rfl rfl rfl rfl rfl ⟨rfl, rfl, rfl, rfl, rfl⟩ rfl rfl rfl rfl rfl (by kernel_rfl) Try.func3 (by kernel_rfl)
    (of_decide_eq_true (by kernel_rfl)) (by unfold Func.isWrapper; first | (rw [if_pos (by decide +kernel)]; kernel_rfl) | (rw [if_neg (by decide +kernel)]; exact ⟨rfl, rfl⟩))
    (fun os started H enc _ => lifted os started H enc)

/-- ████ THE STATEMENT ████ -/
theorem proved : Rows.TreePlaysSaid := over
#print axioms proved
end Go.Proofs.Ytbgohpcfinojoaa.treePlays
