/-
  TreeParts: for every input the law answers true and leaves its arguments as they were: the walk is typed by hand, the row's step is the guide's template.
  Conditions: none beside the row's own.
-/
import Derived.Test.YtbgohpcfinojoaaParts
import Derived.Test.YtbgohpcfinojoaaOpen
import Derived.Test.YtbgohpcfinojoaaRows
import Derived.WalkKit
import Derived.ProofKit
import Derived.OpenShut
import Derived.ShutString
import Derived.ChangeOld
import Derived.Below
namespace Go.Proofs.Ytbgohpcfinojoaa.treeParts
open Go.ChangeShapes Go.WideShapes Go.ChangeAt Go.RowKit
set_option linter.unusedVariables false
theorem own : ownKnob Try.prog.godebug = none := by kernel_rfl
theorem laidOut : laidOutB Try.prog = true := by kernel_rfl
theorem and_one (z : Int) : bits .and .i64 z 1 = 0 ∨ bits .and .i64 z 1 = 1 := by
  have h : (BitVec.ofInt 64 z &&& BitVec.ofInt 64 1).toNat = (BitVec.ofInt 64 z).toNat % 2 := by
    rw [BitVec.toNat_and]
    exact Nat.and_one_is_mod _
  have e : bits .and .i64 z 1 = IntKind.i64.wrap (((BitVec.ofInt 64 z &&& BitVec.ofInt 64 1).toNat : Nat) : Int) := rfl
  rw [e, h]
  rcases Nat.mod_two_eq_zero_or_one (BitVec.ofInt 64 z).toNat with g | g
  · left; rw [g]; rfl
  · right; rw [g]; rfl
/-- where the puts have come to -/
structure Put (w : World) (j : Nat) (p : Option Addr) (wr : World) (t : Tr) : Prop where
  tre : Tre (fun _ => True) wr t p
  ev : t.even
  sorted : srt t.list
  size : t.size ≤ j
  fits : ∀ x ∈ t.list, x.1.length ≤ 100 ∧ x.2.length ≤ 100
  bel : Below w.heap.size w wr
set_option maxRecDepth 100000 in
set_option maxHeartbeats 4000000 in
theorem walk {A0 : Option Addr} {c0 : Nat} {L0 : List Opn} (w : World) (hc0 : L0.length ≤ c0) (hm0 : c0 ≤ maxLen) (ha0 : Ocs w A0 L0) :
    Calls Try.prog 8 #[.slice A0 L0.length c0] w fun e w' => e = .returned (.bool true) ∧ Below w.heap.size w w' := by
  have hsm := fine_any ha0 c0 60 (by decide) (Nat.le_trans hc0 hm0)
  have HAW := Lib.hid awake_any
  cases hs : (decide (L0.length ≤ 60) && tinyO L0) with
  | false =>
    rw [hs] at hsm
    have HSM := Lib.hid hsm; clear hsm
    clear ha0 hs hc0 hm0
    go_enter Try.func8, Try.ntmps8
    go_wp2_with fail
    refine HSM.out.mono ?_
    rintro e w1 ⟨rfl, hb⟩
    have HB := Lib.hid hb; clear hb
    go_wp2_with fail
    refine (HAW.out _).mono ?_
    rintro e w2 ⟨rfl, hb⟩
    have HB2 := Lib.hid hb; clear hb
    go_wp2_with fail
    go_ret
    exact ⟨rfl, below_then HB.out HB2.out⟩
  | true =>
    rw [hs] at hsm
    obtain ⟨hlen, htiny⟩ : L0.length ≤ 60 ∧ tinyO L0 = true := by simpa using hs
    have HTY := Lib.hid (tinyO_all htiny)
    have HSM := Lib.hid hsm; clear hsm
    have HA := Lib.hid ha0; clear ha0
    clear hs hc0 hm0 htiny
    go_enter Try.func8, Try.ntmps8
    go_wp2_with fail
    refine HSM.out.mono ?_
    rintro e w1 ⟨rfl, hb⟩
    have HB := Lib.hid hb; clear hb
    go_wp2_with fail
    go_loopw [3, 12] (fun x u wr => ∃ (j : Nat) (p : Option Addr), u = .int .i64 j ∧ x = .pointer p ∧ j ≤ L0.length ∧ Hid (∃ t, Put w j p wr t)) (fun _ u _ => L0.length - (intOf u).toNat)
    case atStart => exact ⟨0, none, rfl, rfl, by omega, .nil, rfl, trivial, List.Pairwise.nil, Nat.le_refl _, fun x hx => by simp [Tr.list] at hx, HB.out⟩
    case round =>
      obtain ⟨j, p, rfl, rfl, hj, t, hat⟩ := hrel
      by_cases hlt : j < L0.length
      · obtain ⟨b, off, ka, kc, va, vc, rfl, hbl, h0, h1, h2, h3, h4⟩ := (HA.out.below hat.bel).at hlt
        have hty := HTY.out _ (List.getElem_mem hlt)
        have hsz := hat.size
        have hh := (Tr.high_cube hat.ev (by omega)).1
        obtain ⟨z, hz⟩ : ∃ z : Int, z = (L0[j]).1 := ⟨_, rfl⟩
        obtain ⟨q, hq⟩ : ∃ q : Pr, q = (L0[j]).2 := ⟨_, rfl⟩
        rw [← hz] at h0
        rw [← hq] at h1 h2 h3 h4 hty
        rcases and_one z with hy | hy
        · have hst := fun W (hW : Below wr.heap.size wr W) => step_none (m := none) (v := 0) (c := 0) (XA := none) (M := []) (o := (0, q)) 0 kc vc (fun _ _ => trivial) (hat.tre.below hW) (.inl rfl) (.inl rfl) (h3.below hW) (h4.below hW) hat.ev hat.sorted (by omega) (by simp) (by simp) (by simp) (by simp)
          obtain ⟨x1, hx1⟩ : ∃ x : Nat, x = q.1.length := ⟨_, rfl⟩
          obtain ⟨x2, hx2⟩ : ∃ x : Nat, x = q.2.length := ⟨_, rfl⟩
          simp only [← hx1, ← hx2, List.length_nil] at hst h1 h2
          have HST := Lib.hid (hst _ (box3 wr (.int .i64 z) (.slice ka x1 kc) (.slice va x2 vc)))
          have HBOX := Lib.hid (box3 wr (.int .i64 z) (.slice ka x1 kc) (.slice va x2 vc))
          have HAT := Lib.hid hat; clear hat
          clear hst h3 h4 hz hq hx1 hx2 HA hty hsz hh
          go_wp2_with fail
          refine HST.out.mono ?_
          rintro e w2 ⟨rfl, g1, _, _, g4⟩
          have G1 := Lib.hid g1; clear g1
          have G4 := Lib.hid g4; clear g4
          clear h0 h1 h2 HST
          go_wp2_with fail
          go_roundw
          case rel =>
            have hq := HAT.out
            exact ⟨j + 1, p, by go_num, rfl, by omega, t, G1.out, hq.ev, hq.sorted, Nat.le_trans hq.size (by omega), hq.fits, below_then hq.bel (below_then HBOX.out G4.out.nil)⟩
          case measure => simp [intOf]; omega
        · have hst := fun W (hW : Below wr.heap.size wr W) => step_put (m := none) (v := 0) (c := 0) (XA := none) (M := []) (o := (1, q)) 0 kc vc (fun _ _ => trivial) (hat.tre.below hW) (.inl rfl) (.inl rfl) (h3.below hW) (h4.below hW) hat.ev hat.sorted (by omega) (by simp) (by simp) hty (by omega) (by omega) (by omega) rfl
          obtain ⟨x1, hx1⟩ : ∃ x : Nat, x = q.1.length := ⟨_, rfl⟩
          obtain ⟨x2, hx2⟩ : ∃ x : Nat, x = q.2.length := ⟨_, rfl⟩
          obtain ⟨pq, hpq⟩ : ∃ x, x = put [] q := ⟨_, rfl⟩
          simp only [← hx1, ← hx2, List.length_nil, ← hpq] at hst h1 h2
          have HST := Lib.hid (hst _ (box3 wr (.int .i64 z) (.slice ka x1 kc) (.slice va x2 vc)))
          have HBOX := Lib.hid (box3 wr (.int .i64 z) (.slice ka x1 kc) (.slice va x2 vc))
          have HAT := Lib.hid hat; clear hat
          have HTQ := Lib.hid hty; clear hty
          clear hst h3 h4 hz hq hx1 hx2 HA hsz hh hpq
          go_wp2_with fail
          refine HST.out.mono ?_
          rintro e w2 ⟨p', t', A', c', v', k', rfl, g1, g2, g3, _, _, _, g4⟩
          have G1 := Lib.hid g1; clear g1
          have G2 := Lib.hid g2; clear g2
          have G3 := Lib.hid g3; clear g3
          have G4 := Lib.hid g4; clear g4
          clear h0 h1 h2 HST
          go_wp2_with fail
          go_roundw
          case rel =>
            have hq := HAT.out
            refine ⟨j + 1, p', by go_num, rfl, by omega, t', G1.out, G2.out, by rw [G3.out]; exact srt_put _ _ hq.sorted, ?_, by rw [G3.out]; exact put_mem hq.fits HTQ.out, below_then hq.bel (below_then HBOX.out G4.out.nil)⟩
            have h := put_length t.list q
            have h2 := hq.size
            rw [Tr.length] at h
            rw [← Tr.length, G3.out]
            show (put t.list q).length ≤ j + 1
            omega
          case measure => simp [intOf]; omega
      · have hsz := hat.size
        have hh := (Tr.high_cube hat.ev (by omega)).1
        have hpt := parts_any t _ p wr 64 hat.tre (by omega) (by omega) (by omega) (fun x hx => by have := hat.fits x hx; omega)
        have HPT := Lib.hid hpt; clear hpt
        have HAT := Lib.hid hat; clear hat
        clear hsz hh
        go_wp2_with fail
        refine HPT.out.mono ?_
        rintro e w2 ⟨rfl, hb⟩
        have HB2 := Lib.hid hb; clear hb
        go_wp2_with fail
        refine (HAW.out _).mono ?_
        rintro e w3 ⟨rfl, hb⟩
        have HB3 := Lib.hid hb; clear hb
        go_wp2_with fail
        go_ret
        exact ⟨rfl, below_then HAT.out.bel (below_then HB2.out HB3.out)⟩
/-! ### THE ROW's STEP -/
set_option maxRecDepth 100000 in
theorem lifted (os : Os) (started : os.Started) (H : Type) (enc : TypeId × Value → H) :
    ReturnsInHanded {} Try.checked os 8 .any (Rows.treePartsSpec.pre6 enc Try.prog Try.f8 Rows.treePartsRow.domain false) (Rows.treePartsSpec.post enc Try.prog Try.f8 false true false false) := by
  refine returnsInHanded_of_change (C := Try.checked) own started (by kernel_rfl) Try.func8
    (ChangeSpec.witness6 (enc := enc) (C := Try.checked) false ⟨#[], #[.slice none 0 0], []⟩ 8 (by kernel_rfl) (by kernel_rfl) (by kernel_rfl) (by kernel_rfl)) ?_
  intro W base args ds gs before hval0 hW hcnd _
  have hval : ∀ (j : Nat) t v, Try.f8.params[j]? = some t → args[j]? = some v → Value.okWide Try.prog W .any base t v := hval0
  have hW' := hW
  obtain ⟨p, q, hA0, hV, rfl, hfz, hnd⟩ := hW
  have hA : DataW.TrodAll enc Try.prog W 0 (fun _ => true) true Try.f8.params.toList args.toList ds p := hA0
  rw [Try.params8] at hA hval
  obtain ⟨v0, vs0, d0, ds0, p0, q0, hargs, rfl, rfl, h0, r0⟩ := trodAll_cons hA
  obtain ⟨rfl, rfl, rfl⟩ := trodAll_nil r0
  obtain rfl : args = #[v0] := by cases args; simp_all
  obtain ⟨rfl, rfl⟩ := trodVars_none hV
  obtain ⟨a0, len0, cap0, rfl⟩ := okWide_slice Try.underlying22 (hval 0 22 v0 rfl rfl)
  have k0 := h0
  have lt0 : ∀ x ∈ p0, x.block < W.heap.size := by obtain ⟨m, hm⟩ := k0; exact DataW.trod_lt m _ _ _ hm
  obtain ⟨A0, c0, L0, e0, hc0, hm0, ha0⟩ : ∃ (A : Option Addr) (c : Nat) (L : List Opn), Value.slice a0 len0 cap0 = .slice A L.length c ∧ L.length ≤ c ∧ c ≤ maxLen ∧ Ocs W A L := by
    obtain ⟨fuel, hf⟩ := h0
    exact ops_open hf
  clear hA0 hval0
  obtain ⟨rfl, rfl, rfl⟩ : a0 = A0 ∧ len0 = L0.length ∧ cap0 = c0 := by
    injection e0 with x y z
    exact ⟨x, y, z⟩
  refine (walk W hc0 hm0 ha0).mono fun e W' ⟨he, bel⟩ => ?_
  subst he
  exact ⟨_, rfl, _, _, _, [], _, [], hW', trodAll_mk1 (shut_bool Try.underlying4 _), (trodAll_cons_mk (Below.trod laidOut (by kernel_rfl) (of_decide_eq_true (by kernel_rfl)) k0 bel lt0) trodAll_mk0), rfl, bel.frame _, fun h => by cases h⟩

theorem over : Rows.treePartsRow.holds Try.pinned (OpenSpec.ofChange Rows.treePartsSpec) :=
  OpenClaim.holds_of_wide 8 Try.f8 rfl rfl rfl rfl rfl rfl rfl ⟨rfl, rfl, rfl, rfl, rfl⟩ rfl rfl rfl rfl rfl (by kernel_rfl) Try.func8 (by kernel_rfl)
    (of_decide_eq_true (by kernel_rfl)) (by unfold Func.isWrapper; first | (rw [if_pos (by decide +kernel)]; kernel_rfl) | (rw [if_neg (by decide +kernel)]; exact ⟨rfl, rfl⟩))
    (fun os started H enc _ => lifted os started H enc)

/-- ████ THE STATEMENT ████ -/
theorem proved : Rows.TreePartsSaid := over
#print axioms proved
end Go.Proofs.Ytbgohpcfinojoaa.treeParts
