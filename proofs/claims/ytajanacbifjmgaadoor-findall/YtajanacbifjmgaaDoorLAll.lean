/-
  FindAll: for every input the law answers true and leaves its arguments as they were; the row lists math/bits.deBruijn32tab, the card ties it to the program's text (the tie is given).
  Conditions: none beside the row's own.
-/
import Derived.Test.YtajanacbifjmgaaDoorFAwake
import Derived.Test.YtajanacbifjmgaaDoorFFind
import Derived.Test.YtajanacbifjmgaaDoorComeE
import Derived.Deep.RegionHeld3
import Derived.Test.YtajanacbifjmgaaDoorIn
import Derived.Test.YtajanacbifjmgaaDoorLaid
import Derived.Test.YtajanacbifjmgaaDoorCards
import Derived.Test.YtajanacbifjmgaaDoorTie
import Derived.ShutString
import Derived.ChangeOld
import Derived.Below
namespace Go.Proofs.YtajanacbifjmgaaDoor.findAll
open Go.ChangeShapes Go.WideShapes Go.ChangeAt Go.RowKit Go.Shelf
set_option linter.unusedVariables false
theorem laidOut : laidOutB Tryd.prog = true := by kernel_rfl
set_option maxRecDepth 100000
set_option maxHeartbeats 4000000 in
theorem walk {A0 : Option Addr} {c0 : Nat} {L0 : List En} {z1 : Nat} (w : World) (hc0 : L0.length ≤ c0) (hm0 : c0 ≤ maxLen) (ha0 : Ens w A0 L0) (hh0 : ∀ e ∈ L0, e.1 < 18446744073709551616) (hz1 : z1 < 18446744073709551616) (hT : Tab w) :
    Calls Tryd.prog 4 #[.slice A0 L0.length c0, .int .u64 (z1 : Int)] w fun e w' => e = .returned (.bool true) ∧ Below w.heap.size w w' := by
  have hml : maxLen ≤ 9223372036854775807 := by decide
  have hsm := small_any ha0 c0 40 (by decide) (Nat.le_trans (Nat.le_trans hc0 hm0) hml)
  cases hs : (decide (L0.length ≤ 40) && tinyE L0) with
  | false =>
    rw [hs] at hsm
    have HSM := Lib.hid hsm; clear hsm
    have HT := Lib.hid hT; clear hT
    clear ha0 hs hc0 hm0 hh0
    go_enter Tryd.func4, Tryd.ntmps4
    go_wp2_with fail
    refine HSM.out.mono ?_
    rintro e w1 ⟨rfl, hb⟩
    have HAW := Lib.hid (awake_any (HT.out.below hb))
    have HB := Lib.hid hb; clear hb
    go_wp2_with fail
    refine HAW.out.mono ?_
    rintro e w2 ⟨rfl, hb⟩
    have HB2 := Lib.hid (below_then HB.out hb); clear hb
    go_wp2_with fail
    go_ret
    exact ⟨rfl, HB2.out⟩
  | true =>
    rw [hs] at hsm
    obtain ⟨hfit, hl40, ht60⟩ := small_fit (by decide) hs hh0
    obtain ⟨M, hM⟩ : ∃ M, M = comeE L0 := ⟨_, rfl⟩
    have hgood : Good 0 M := by rw [hM]; exact hfit.good
    have hM40 : M.length ≤ 40 := by rw [hM]; exact Nat.le_trans (comeE_len L0) hl40
    obtain ⟨X, hX⟩ : ∃ X, X = layL 13 0 M := ⟨_, rfl⟩
    have hlaid : Laid M 0 X := by rw [hX]; exact lay_laid 13 0 M rfl hgood
    have hok := hlaid.ok
    have hri := hlaid.right
    have hof : ∀ W, Below w.heap.size w W → Calls Tryd.prog 8 #[.slice A0 L0.length c0] W fun e w' => ∃ v, e = .returned v ∧ Nde (fun b => W.heap.size ≤ b) w' X v ∧ Below W.heap.size W w' := fun W hW => by
      have h := of_any (F := fun b => W.heap.size ≤ b) c0 (fun b hb => hb) (hT.below hW) (ha0.below hW) hfit
      rw [← hM, ← hX] at h
      exact h
    have hgt : ∀ W v h l A c, Nde (fun b => b < W.heap.size) W X v → h < 18446744073709551616 → Bts W A l → Calls Tryd.prog 14 #[v, .int .u64 ((h : Nat) : Int), .slice A l.length c, .pointer none] W fun e w' => ∃ A' cc, e = .returned (.tuple #[.slice A' (X.valKey h l).length cc, .bool (X.hasKey h l)]) ∧ Bts w' A' (X.valKey h l) ∧ Below W.heap.size W w' := fun W v h l A c hn hh hb =>
      (get18_any (k := l) (vv := 0) (c := 0) c hn hok hri (.inl rfl) (fun a e => by cases e) hh hb (by decide) (by decide)).mono fun e w' ⟨A', cc, v', c', h1, h2, _, h3, _⟩ => ⟨A', cc, h1, h2, h3.nil⟩
    have hco : ∀ W, Below w.heap.size w W → Calls Tryd.prog 16 #[.slice A0 L0.length c0] W fun e w' => (∃ A' c', e = .returned (.slice A' M.length c') ∧ Ens w' A' M) ∧ Below W.heap.size W w' := fun W hW => by
      have h := comeE_any (ha0.below hW) c0 (by omega) (fun e he => by have := ht60 e he; omega)
      rw [← hM] at h
      exact h.mono fun e w' ⟨v, h1, h2, h3⟩ => by
        obtain ⟨A', c', rfl, _, h4⟩ := h2.ens
        exact ⟨⟨A', c', h1, h4⟩, h3⟩
    have hfd : Hid (∀ e ∈ M, X.hasKey e.1 e.2.1 = true ∧ X.valKey e.1 e.2.1 = e.2.2 ∧ X.hasKey z1 e.2.1 = decide (z1 = e.1) ∧ e.1 < 18446744073709551616) := fun e he => by
      rw [hX]
      exact ⟨(found hgood he).1, (found hgood he).2, found_other hgood he z1, (hgood.fits e he).1⟩
    obtain ⟨L, hLL⟩ : ∃ n, n = L0.length := ⟨_, rfl⟩
    obtain ⟨ML, hMLn⟩ : ∃ n, n = M.length := ⟨_, rfl⟩
    rw [← hLL] at hsm ⊢
    simp only [← hLL] at hof hco
    simp only [← hMLn] at hco
    have hml40 : ML ≤ 40 := by omega
    have HSM := Lib.hid hsm; clear hsm
    have HOF := Lib.hid hof; clear hof
    have HCO := Lib.hid hco; clear hco
    have HGT := Lib.hid hgt; clear hgt
    have HT := Lib.hid hT; clear hT
    have HML := Lib.hid hMLn; clear hMLn
    have HZ := Lib.hid hz1; clear hz1
    clear ha0 hs hc0 hm0 hh0 hfit hl40 ht60 hM hX hgood hM40 hlaid hok hri hLL
    go_enter Tryd.func4, Tryd.ntmps4
    go_wp2_with fail
    refine HSM.out.mono ?_
    rintro e w1 ⟨rfl, hb⟩
    have B1 := Lib.hid hb
    have J := Lib.hid (HOF.out w1 hb); clear hb
    go_wp2_with fail
    refine J.out.mono ?_
    rintro e w2 ⟨v, rfl, hn, hb⟩
    have N2 := Lib.hid (hn.mono (G := fun b => b < w2.heap.size) fun b hl _ => hl)
    have B2 := Lib.hid (below_then B1.out hb); clear hn hb J
    have J := Lib.hid (HCO.out w2 B2.out)
    go_wp2_with fail
    refine J.out.mono ?_
    rintro e w3 ⟨⟨A3, c3, rfl, hen⟩, hb⟩
    have N3 := Lib.hid (N2.out.below hb)
    have E3 := Lib.hid hen; clear hen
    have B3 := Lib.hid (below_then B2.out hb); clear hb J HOF HCO HSM
    have N3' : Hid (∀ W, Below w3.heap.size w3 W → Nde (fun b => b < W.heap.size) W X v) := fun W hW => (N3.out.below hW).mono fun b hl _ => hl
    go_wp2_with fail
    go_loopw [21] (fun u wr => ∃ j : Nat, u = .int .i64 j ∧ j ≤ ML ∧ Hid (Below w3.heap.size w3 wr)) (fun u _ => ML - (intOf u).toNat)
    case atStart => exact ⟨0, rfl, by omega, Below.refl _ _⟩
    case round =>
      obtain ⟨j, rfl, hj, hbel⟩ := hrel
      by_cases hlt : j < ML
      · have hj' : j < M.length := by rw [← HML.out]; exact hlt
        obtain ⟨b, off, ka, kc, va, vc, rfl, hb, x0, x1, x2, hk, hv⟩ := (E3.out.below hbel.out).at hj'
        obtain ⟨f1, f2, f3, f4⟩ := hfd.out _ (List.getElem_mem hj')
        obtain ⟨en, hen⟩ : ∃ e : En, e = M[j] := ⟨_, rfl⟩
        rw [← hen] at x0 x1 x2 hk hv f1 f2 f3 f4
        obtain ⟨q, key, value⟩ := en
        simp only at x0 x1 x2 hk hv f1 f2 f3 f4
        obtain ⟨kl, hkl⟩ : ∃ n, n = key.length := ⟨_, rfl⟩
        obtain ⟨vl, hvl⟩ : ∃ n, n = value.length := ⟨_, rfl⟩
        obtain ⟨gx, hgx⟩ : ∃ g, g = wr.heap.size := ⟨_, rfl⟩
        rw [← hkl] at x1
        rw [← hvl] at x2
        obtain ⟨wz, hwz⟩ : ∃ wz, wz = wr.alloc (.cells #[.int .u64 (q : Int), .slice ka kl kc, .slice va vl vc] 51) := ⟨_, rfl⟩
        have bz : Below wr.heap.size wr wz := by rw [hwz]; exact (Below.refl _ _).alloc (Nat.le_refl _) _
        have rz : wz.heap[gx]? = some (.cells #[.int .u64 (q : Int), .slice ka kl kc, .slice va vl vc] 51 (0, 0)) := by rw [hwz, hgx]; exact heap_alloc_new wr _
        have hgz : gx < wz.heap.size := (Array.getElem?_eq_some_iff.1 rz).1
        have HX : Hid (∀ W, Below wz.heap.size wz W → W.cell? ⟨gx, 0, none⟩ = some (.int .u64 (q : Int)) ∧ W.cell? ⟨gx, 1, none⟩ = some (.slice ka kl kc) ∧ W.cell? ⟨gx, 2, none⟩ = some (.slice va vl vc)) := fun W hW => by
          have := (hW.block gx hgz).trans rz
          exact ⟨row_cell this rfl, row_cell this rfl, row_cell this rfl⟩
        have B3z := Lib.hid (below_then hbel.out bz)
        have HKB := Lib.hid (hk.below bz)
        have HVB := Lib.hid (hv.below bz)
        have J1 := Lib.hid (HGT.out wz v q key ka kc (N3'.out wz B3z.out) f4 HKB.out)
        have H2 : Hid (∀ W, Below wz.heap.size wz W → Calls Tryd.prog 14 #[v, .int .u64 (z1 : Int), .slice ka key.length kc, .pointer none] W fun e w' => ∃ A' cc vl', e = .returned (.tuple #[.slice A' vl' cc, .bool (decide (z1 = q))]) ∧ Below W.heap.size W w') := fun W hW =>
          (HGT.out W v z1 key ka kc (N3'.out W (below_then B3z.out hW)) HZ.out (HKB.out.below hW)).mono fun e w' ⟨A', cc, h1, _, h2⟩ => ⟨A', cc, _, by rw [← f3]; exact h1, h2⟩
        rw [f1, f2, ← hkl, ← hvl] at J1
        rw [← hkl] at H2
        obtain ⟨sv, hsv⟩ : ∃ s : ByteArray, s = ⟨value.toArray⟩ := ⟨_, rfl⟩
        have HCV : Hid (∀ W A c, Bts W A value → (convert 24 9 (.slice A vl c)).run Tryd.prog W = .ok (.string sv) W) := fun W A c h => by rw [hvl, hsv]; exact conv_any h c
        have hss : (sv.toList == sv.toList) = true := by simp
        have HGX := Lib.hid hgx; clear hgx
        have HWZ := Lib.hid hwz; clear hwz
        clear hen hkl hvl hsv bz rz hgz hk hv f1 f2 f3 f4 hj'
        go_upto_region 7 with fail
        simp only [← HGX.out] at HWZ ⊢
        rw [← HWZ.out]
        obtain ⟨q0, q1, q2⟩ := HX.out wz (Below.refl _ _)
        go_wp2_with fail
        refine J1.out.mono ?_
        rintro e w4 ⟨A4, c4, rfl, hb4, b4⟩
        have B4 := Lib.hid b4
        have cv1 := HCV.out w4 A4 c4 hb4
        have cv2 := HCV.out w4 va vc (HVB.out.below b4)
        have J2 := Lib.hid (H2.out w4 b4)
        clear q0 q1 q2
        obtain ⟨q0, q1, q2⟩ := HX.out w4 b4
        clear b4 hb4 J1
        go_wp2_with fail
        refine J2.out.mono ?_
        rintro e w5 ⟨A5, c5, l5, rfl, b5⟩
        have B5 := Lib.hid (below_then B4.out b5)
        have B35 := Lib.hid (below_then B3z.out B5.out)
        clear q0 q1 q2
        obtain ⟨q0, q1, q2⟩ := HX.out w5 B5.out
        clear b5 J2 cv1 cv2
        by_cases hzq : z1 = q
        · subst hzq
          have t1 : ((z1 : Int) == (z1 : Int)) = true := by simp
          rw [decide_eq_true rfl]
          go_wp2_with fail
          go_roundw
          case rel => exact ⟨j + 1, by go_num, by omega, B35.out⟩
          case measure => simp [intOf]; omega
        · have t1 : ((z1 : Int) == (q : Int)) = false := by simp; omega
          rw [decide_eq_false hzq]
          clear hzq
          go_wp2_with fail
          go_roundw
          case rel => exact ⟨j + 1, by go_num, by omega, B35.out⟩
          case measure => simp [intOf]; omega
      · obtain rfl : j = ML := by omega
        have JA := Lib.hid (awake_any (HT.out.below (below_then B3.out hbel.out)))
        go_wp2_with fail
        refine JA.out.mono ?_
        rintro e w4 ⟨rfl, hb⟩
        have B4 := Lib.hid (below_then (below_then B3.out hbel.out) hb); clear hb JA
        go_wp2_with fail
        go_ret
        exact ⟨rfl, B4.out⟩

theorem lifted (os : Os) (started : os.Started) (H : Type) (enc : TypeId × Value → H) :
    ReturnsInHanded {} Tryd.checked os 4 .any (fun w args => (Rows.findAllSpec.pre enc Tryd.prog Tryd.f4 [] false w args ∧ laidMetH Tryd.prog laid w) ∧ sizedMet enc Tryd.prog Tryd.f4 (OpenSpec.ofChange Rows.findAllSpec) false w args)
      (Rows.findAllSpec.post enc Tryd.prog Tryd.f4 false true false false) := by
  refine returnsInHanded_of_change_and (C := Tryd.checked) (X := fun w _ => laidMetH Tryd.prog laid w) (fun _ _ _ hh h => h.of_heap hh) own started (by kernel_rfl) Tryd.func4
    (ChangeSpec.witness_shaped (enc := enc) (C := Tryd.checked) (os := os) (X := fun w _ => laidMetH Tryd.prog laid w) false (World.laidAll Tryd.prog os laid) #[.slice none 0 0, .int .u64 0] 8 (World.laidAll_os _ _ _)
      (World.shaped_of_ZipB (by kernel_rfl) (by kernel_rfl)) (by kernel_rfl) (by kernel_rfl) (by kernel_rfl)
      (by rw [MakeChecks.laidMetH_plain _ _ _ (by kernel_rfl)]; exact laidMet_laidAll _ (by kernel_rfl) (by kernel_rfl))) ?_
  intro W base args ds gs before hval0 hW _ _ hL _
  have hval : ∀ (j : Nat) t v, Tryd.f4.params[j]? = some t → args[j]? = some v → Value.okWide Tryd.prog W .any base t v := hval0
  have hW' := hW
  obtain ⟨p, q, hA0, hV, rfl, _, _⟩ := hW
  have hA : DataW.TrodAll enc Tryd.prog W 0 (fun _ => true) true Tryd.f4.params.toList args.toList ds p := hA0
  rw [Tryd.params4] at hA hval
  obtain ⟨v0, vs0, d0, ds0, p0, q0, hargs, rfl, rfl, h0, r0⟩ := trodAll_cons hA
  obtain ⟨v1, vs1, d1, ds1, p1, q1, rfl, rfl, rfl, h1, r1⟩ := trodAll_cons r0
  obtain ⟨rfl, rfl, rfl⟩ := trodAll_nil r1
  obtain rfl : args = #[v0, v1] := by cases args; simp_all
  obtain ⟨rfl, rfl⟩ := trodVars_none hV
  have lt0 : ∀ x ∈ p0, x.block < W.heap.size := by obtain ⟨m, hm⟩ := h0; exact DataW.trod_lt m _ _ _ hm
  have ok0 := hval 0 22 v0 rfl rfl
  have lt1 : ∀ x ∈ p1, x.block < W.heap.size := by obtain ⟨m, hm⟩ := h1; exact DataW.trod_lt m _ _ _ hm
  have ok1 := hval 1 23 v1 rfl rfl
  clear hA0 hval0 hval
  obtain ⟨A0, c0, L0, rfl, hc0, hm0, ha0, hh0⟩ := entries_in ok0 h0
  obtain ⟨z1, rfl, hz1⟩ := num_in ok1 h1
  refine (walk W hc0 hm0 ha0 hh0 hz1 (tab_of_laid hL)).mono fun e W' ⟨he, bel⟩ => ?_
  subst he
  exact ⟨_, rfl, _, _, _, [], _, [], hW', trodAll_mk1 (shut_bool Tryd.underlying4 _), (trodAll_cons_mk (Below.trod laidOut (by kernel_rfl) (of_decide_eq_true (by kernel_rfl)) h0 bel lt0) (trodAll_cons_mk (Below.trod laidOut (by kernel_rfl) (of_decide_eq_true (by kernel_rfl)) h1 bel lt1) trodAll_mk0)), rfl, bel.frame _, fun h => by cases h⟩

theorem over : Rows.FindAllSaid :=
  OpenClaim.holds_of_wide 4 Tryd.f4 rfl rfl rfl rfl rfl rfl rfl ⟨rfl, rfl, rfl, rfl, rfl⟩ rfl rfl rfl rfl rfl (by kernel_rfl) Tryd.func4 (by kernel_rfl)
    (of_decide_eq_true (by kernel_rfl)) (by unfold Func.isWrapper; first | (rw [if_pos (by decide +kernel)]; kernel_rfl) | (rw [if_neg (by decide +kernel)]; exact ⟨rfl, rfl⟩))
    (fun os started H enc _ => lifted os started H enc)

/-- ████ THE STATEMENT: THE TIED CARD ████ -/
theorem proved : Rows.FindAllCardSaid :=
  Claim7.holds_tied_plain_at .later [] [.data] true (true, "ff3f2754b6fa9aed38bb7fb7396d085aee7f3ca0826b58b1b4ac0abbbe6f43fa") true over (fun _ h => by cases h) (by kernel_rfl) (fun _ h => by cases h) findAll_row_tie rfl ⟨rfl, rfl⟩ (by kernel_rfl) rfl
    (fun f fn hf hfn => by
      obtain rfl : f = 4 := Option.some.inj ((show Tryd.prog.funcNamed "brushwood/brushwoodlaw18.FindAll" = some 4 by kernel_rfl).symm.trans hf) |>.symm
      obtain rfl : fn = Tryd.f4 := (Option.some.inj (Tryd.func4.symm.trans hfn)).symm
      exact ⟨by kernel_rfl, fun j t ht => by
        rw [Tryd.params4] at ht
        have hm : t ∈ [22, 23] := by simpa using Array.mem_of_getElem? ht
        have hall : ([22, 23].all fun u => !Tryd.prog.wantsStandIn u) = true := by kernel_rfl
        exact (show Tryd.prog.wantsStandIn t = false by simpa using List.all_eq_true.1 hall t hm)⟩)
    (by kernel_rfl)
#print axioms proved
end Go.Proofs.YtajanacbifjmgaaDoor.findAll
