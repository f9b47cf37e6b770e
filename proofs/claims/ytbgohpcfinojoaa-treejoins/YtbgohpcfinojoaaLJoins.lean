/-
  TreeJoins: for every input the law answers true and leaves its arguments as they were: the walk is typed by hand, the row's step is the guide's template.
  Conditions: none beside the row's own.
-/
import Derived.Test.YtbgohpcfinojoaaFrom
import Derived.Test.YtbgohpcfinojoaaCome
import Derived.Test.YtbgohpcfinojoaaSmall
import Derived.Test.YtbgohpcfinojoaaPlays
import Derived.Test.YtbgohpcfinojoaaOpen
import Derived.Test.YtbgohpcfinojoaaRows
import Derived.WalkKit
import Derived.ProofKit
import Derived.OpenShut
import Derived.ShutString
import Derived.ChangeOld
import Derived.Below
namespace Go.Proofs.Ytbgohpcfinojoaa.treeJoins
open Go.ChangeShapes Go.WideShapes Go.ChangeAt Go.RowKit
set_option linter.unusedVariables false
theorem own : ownKnob Try.prog.godebug = none := by kernel_rfl
theorem laidOut : laidOutB Try.prog = true := by kernel_rfl
set_option maxRecDepth 100000 in
theorem num_open {H : Type} {enc : TypeId × Value → H} {W : World} {base : Nat} {v : Value} {d : DataW H} {ps : List MemPlace} (hv : Value.okWide Try.prog W .any base 5 v) (h : DataW.Trod enc Try.prog W 0 (fun _ => true) true 5 v d ps) : ∃ z : Nat, z < 256 ∧ v = .int .u8 (z : Int) := by
  obtain ⟨n, rfl⟩ := okWide_int Try.underlying5 hv
  obtain ⟨fuel, hf⟩ := h
  obtain ⟨z, e0, _, w0⟩ := DataW.trod_int Try.underlying5 hf
  have hb := bounds_u8 w0
  have hz : n = z := by simpa [Value.cells] using e0
  subst hz
  exact ⟨n.toNat, by omega, by rw [Int.toNat_of_nonneg hb.1]⟩
theorem told_any {F : Nat → Prop} {W : World} {t : Tr} {p : Option Addr} {L : List Pr} {n : Nat} (ht : Tre F W t p) (hl : t.list = L) (hn : n = L.length) (h1 : n ≤ 150) (hf : ∀ x ∈ L, x.1.length ≤ 100 ∧ x.2.length ≤ 100) :
    Calls Try.prog 13 #[.pointer p] W fun e w' => ∃ A c, e = .returned (.slice A n c) ∧ Pcs w' A L ∧ Below W.heap.size W w' := by
  subst hl hn
  refine (list_any ht (by rw [← Tr.length]; omega) (fun x hx => by have := hf x hx; omega)).mono ?_
  rintro e w' ⟨A, c, rfl, h, hb⟩
  exact ⟨A, c, rfl, h.pcs, hb⟩
theorem same_true {W : World} {A B : Option Addr} {L : List Pr} {n : Nat} (ha : Pcs W A L) (hb : Pcs W B L) (c d : Nat) (hn : n = L.length) (h1 : n ≤ 150) :
    Calls Try.prog 20 #[.slice A n c, .slice B n d] W fun e w' => e = .returned (.bool true) ∧ Below W.heap.size W w' := by
  subst hn
  have h := same_any ha hb c d (by omega)
  rwa [decide_eq_true (show L = L from rfl)] at h
set_option maxRecDepth 100000 in
set_option maxHeartbeats 4000000 in
theorem walk {A0 : Option Addr} {c0 : Nat} {L0 : List Pr} {z1 : Nat} (w : World) (hc0 : L0.length ≤ c0) (hm0 : c0 ≤ maxLen) (ha0 : Pcs w A0 L0) (hz1 : z1 < 256) :
    Calls Try.prog 7 #[.slice A0 L0.length c0, .int .u8 (z1 : Int)] w fun e w' => e = .returned (.bool true) ∧ Below w.heap.size w w' := by
  have hsm := small_any ha0 c0 150 (by decide) (Nat.le_trans hc0 hm0)
  have HAW := Lib.hid awake_any
  cases hs : (decide (L0.length ≤ 150) && tiny L0) with
  | false =>
    rw [hs] at hsm
    have HSM := Lib.hid hsm; clear hsm
    clear ha0 hs hc0 hm0
    go_enter Try.func7, Try.ntmps7
    go_wp2_with fail
    refine HSM.out.mono ?_
    rintro e w1 ⟨rfl, hb⟩
    have HB := Lib.hid hb; clear hb
    go_wp2_with fail
    refine (HAW.out _).mono ?_
    rintro e w2 ⟨rfl, hb⟩
    have HB2 := Lib.hid hb; clear hb
    go_wp2_with fail
    go_ret
    exact ⟨rfl, below_then HB.out HB2.out⟩
  | true =>
    rw [hs] at hsm
    obtain ⟨hlen, htiny⟩ : L0.length ≤ 150 ∧ tiny L0 = true := by simpa using hs
    have hty := tiny_all htiny
    have htc := tiny_come htiny
    have hcl := come_length L0
    have hco := fun W (hW : Below w.heap.size w W) => come_any (ha0.below hW) c0 (by omega) (fun q hq => by have := hty q hq; omega)
    have hsr := srt_come L0
    obtain ⟨M, hM⟩ : ∃ M, M = come L0 := ⟨_, rfl⟩
    simp only [← hM] at hco hsr htc hcl
    have hM1 : M.length ≤ 150 := by omega
    have HSM := Lib.hid hsm; clear hsm
    have HCO := Lib.hid hco; clear hco
    have HSR := Lib.hid hsr; clear hsr
    have HTC := Lib.hid htc; clear htc
    have HM1 := Lib.hid hM1; clear hM1
    clear hs hc0 hm0 htiny hty ha0 hcl hM
    go_enter Try.func7, Try.ntmps7
    go_wp2_with fail
    refine HSM.out.mono ?_
    rintro e w1 ⟨rfl, hb⟩
    have J1 := Lib.hid (HCO.out w1 hb)
    have HB := Lib.hid hb; clear hb
    clear HSM HCO
    go_wp2_with fail
    refine J1.out.mono ?_
    rintro e w2 ⟨g, rfl, hn, hb2⟩
    have hp := hn.pcs
    have HB2 := Lib.hid (below_then HB.out hb2); clear hb2
    obtain ⟨n, hnn⟩ : ∃ n, n = M.length := ⟨_, rfl⟩
    obtain ⟨k, hk⟩ : ∃ k, k = z1 % (n + 1) := ⟨_, rfl⟩
    have hkn : k ≤ n := by have := Nat.mod_lt z1 (show 0 < n + 1 by omega); omega
    have hn1 : n ≤ 150 := by rw [hnn]; exact HM1.out
    have hMf : ∀ x ∈ M, x.1.length ≤ 100000 ∧ x.2.length ≤ 100000 := fun x hx => by have := HTC.out x hx; omega
    have hremE : (z1 : Int) % ((n : Int) + 1) = (k : Int) := by rw [hk]; simp
    have hrem : (z1 : Int).tmod ((n : Int) + 1) = (k : Int) := by rw [Int.tmod_eq_emod_of_nonneg (by omega)]; exact hremE
    have hremw : IntKind.i64.wrap ((z1 : Int).tmod ((n : Int) + 1)) = (k : Int) := by rw [hrem]; exact IntWalk.i64_in _ (by omega)
    have hlt1 : (M.take k).length = k := by rw [List.length_take]; omega
    have hld1 : (M.drop k).length = n - k := by rw [List.length_drop, hnn]
    have f1 := fun W (hW : Below w2.heap.size w2 W) => from_any (F := fun _ => True) (c := n) (L := M.take k) (fun _ _ => trivial) ((hp.front k).below hW) (by omega) (by omega) (fun x hx => hMf x (List.mem_of_mem_take hx))
    have f2 := fun W (hW : Below w2.heap.size w2 W) => from_any (F := fun _ => True) (c := n - k) (L := M.drop k) (fun _ _ => trivial) ((hp.rest n k (by omega)).below hW) (by omega) (by omega) (fun x hx => hMf x (List.mem_of_mem_drop hx))
    have hs1 := slice_front (some ⟨g, 0, none⟩) n n k hkn
    have hs2 := fun W => slice_rest (some ⟨g, 0, none⟩) n n k hkn W (k : Int) rfl
    obtain ⟨R, hR⟩ : ∃ R, R = restP (some ⟨g, 0, none⟩) n k := ⟨_, rfl⟩
    obtain ⟨nk, hnk⟩ : ∃ nk, nk = n - k := ⟨_, rfl⟩
    simp only [hlt1, hld1, ← hR, ← hnk] at f1 f2 hs2
    have hpR := hp.rest n k (by omega)
    rw [← hR] at hpR
    have hpF := hp.front k
    rw [← hnn]
    have FR1 := Lib.hid f1; clear f1
    have FR2 := Lib.hid f2; clear f2
    have HP := Lib.hid hp; clear hp
    have HPR := Lib.hid hpR; clear hpR
    have HPF := Lib.hid hpF; clear hpF
    have HNN := Lib.hid hnn; clear hnn
    have HMF := Lib.hid hMf; clear hMf
    have HLT := Lib.hid hlt1; clear hlt1
    have HLD := Lib.hid hld1; clear hld1
    have HNK := Lib.hid hnk; clear hnk
    have hz0 : Below w2.heap.size w2 w2.drew := (Below.refl _ _).drew
    clear hn J1 HB hk hR hrem
    go_wp2_with fail
    go_region_held3 (fun _ => True) (trivial) (first
      | (go_at_call 19; (with_reducible refine (FR1.out _ hz0).mono ?_); rintro e wA ⟨pa, ta, rfl, ha, eva, la, hbA⟩; have hzA := below_then hz0 hbA)
      | (go_at_call 19; (with_reducible refine (FR2.out _ hzA).mono ?_); rintro e wB ⟨pb, tb, rfl, hb, evb, lb, hbB⟩; have hzB := below_then hzA hbB; have ha' := ha.below hbB)
      | fail)
    have hsa : ta.size = k := by rw [← Tr.length, la, HLT.out]
    have hsb : tb.size = nk := by rw [← Tr.length, lb, HLD.out, HNK.out]
    have hnk2 : nk = n - k := HNK.out
    have hhb := (Tr.high_cube evb (by omega)).1
    have hpr := pair_any (m := none) (v := 0) (c := 0) (fun _ _ => trivial) ha' hb (.inl rfl) eva evb (by omega) (by omega)
    have hwh : ta.list ++ tb.list = M := by rw [la, lb, List.take_append_drop]
    rw [hwh] at hpr
    have TA := Lib.hid (fun W (hW : Below wB.heap.size wB W) => told_any (ha'.below hW) la HLT.out.symm (by omega) (fun x hx => HTC.out x (List.mem_of_mem_take hx)))
    have TB := Lib.hid (fun W (hW : Below wB.heap.size wB W) => told_any (n := nk) (hb.below hW) lb (by rw [HLD.out, HNK.out]) (by omega) (fun x hx => HTC.out x (List.mem_of_mem_drop hx)))
    have JA := Lib.hid (fun W (hW : Below wB.heap.size wB W) => (And.intro (ha'.below hW) (And.intro eva la)))
    have JPR := Lib.hid hpr; clear hpr
    have PM := Lib.hid (fun W (hW : Below wB.heap.size wB W) => HP.out.below (below_then hzB hW))
    have PF := Lib.hid (fun W (hW : Below wB.heap.size wB W) => HPF.out.below (below_then hzB hW))
    have PR := Lib.hid (fun W (hW : Below wB.heap.size wB W) => HPR.out.below (below_then hzB hW))
    have HZB := Lib.hid (below_then HB2.out hzB)
    clear ha hb la lb ha' hbA hbB hzA hzB hz0 hwh hhb FR1 FR2 HP HPF HPR eva evb hsa hsb hremE hremw hnk2
    go_wp2_with fail
    refine JPR.out.mono ?_
    rintro e wC ⟨pC, tC, vC, rfl, hC, evC, lC, _, _, _, hoC⟩
    have hbC := hoC.nil
    have J3 := Lib.hid (told_any hC lC HNN.out hn1 HTC.out)
    have hsoC := fun W (hW : Below wC.heap.size wC W) => sound_any (hC.below hW) (by rw [← Tr.length, lC, ← HNN.out]; omega) evC (by rw [lC]; exact HSR.out)
    have S3 := Lib.hid hsoC; clear hsoC
    have HBC := Lib.hid hbC
    clear hoC hC evC lC hbC JPR
    go_wp2_with fail
    refine J3.out.mono ?_
    rintro e wD ⟨AD, cD, rfl, hD, hbD⟩
    have HBD := Lib.hid hbD
    have J4 := Lib.hid (same_true hD (PM.out _ (below_then HBC.out hbD)) cD n HNN.out hn1)
    clear hD hbD J3
    go_wp2_with fail
    refine J4.out.mono ?_
    rintro e wE ⟨rfl, hbE⟩
    have J5 := Lib.hid (S3.out wE (below_then HBD.out hbE))
    have HBE := Lib.hid (below_then HBC.out (below_then HBD.out hbE))
    clear hbE J4 S3 HBD HBC
    go_wp2_with fail
    refine J5.out.mono ?_
    rintro e wF ⟨rfl, hbF⟩
    have HBF := Lib.hid (below_then HBE.out hbF)
    clear hbF J5 HBE
    have hk150 : k ≤ 150 := by omega
    have hnk150 : nk ≤ 150 := by have := HNK.out; omega
    have HND : Hid (nk = (M.drop k).length) := by show _ = _; rw [HLD.out, HNK.out]
    by_cases hkl : k < n
    · have hkM : k < M.length := by rw [← HNN.out]; exact hkl
      obtain ⟨k1, hk1⟩ : ∃ k1, k1 = k + 1 := ⟨_, rfl⟩
      have hw1 : IntKind.i64.wrap ((k : Int) + 1) = (k1 : Int) := by rw [show (k : Int) + 1 = (k1 : Int) by omega]; exact IntWalk.i64_in _ (by omega)
      have hs3 := fun W => slice_rest (some ⟨g, 0, none⟩) n n k1 (by omega) W (k1 : Int) rfl
      have f3 := fun W (hW : Below wB.heap.size wB W) => from_any (F := fun _ => True) (c := n - k1) (L := M.drop k1) (fun _ _ => trivial) ((PM.out W hW).rest n k1 (by rw [← HNN.out]; omega)) (by rw [List.length_drop, ← HNN.out]; omega) (by rw [List.length_drop, ← HNN.out]; omega) (fun x hx => HMF.out x (List.mem_of_mem_drop hx))
      have hld1 : (M.drop k1).length = n - k1 := by rw [List.length_drop, HNN.out]
      obtain ⟨R1, hR1⟩ : ∃ R, R = restP (some ⟨g, 0, none⟩) n k1 := ⟨_, rfl⟩
      obtain ⟨n1, hn1'⟩ : ∃ n1, n1 = n - k1 := ⟨_, rfl⟩
      simp only [hld1, ← hR1, ← hn1'] at f3 hs3
      obtain ⟨b, off, ka, kc, va, vc, eA, hbl, q0, q1, q2, q3⟩ := (PM.out wF HBF.out).at hkM
      obtain ⟨rfl, rfl⟩ : g = b ∧ 0 = off := by
        injection eA with e
        injection e with e1 e2
        exact ⟨e1, e2⟩
      obtain ⟨Q, hQ⟩ : ∃ Q, Q = M[k] := ⟨_, rfl⟩
      rw [← hQ] at q0 q1 q2 q3
      obtain ⟨x1, hx1⟩ : ∃ x, x = Q.1.length := ⟨_, rfl⟩
      obtain ⟨x2, hx2⟩ : ∃ x, x = Q.2.length := ⟨_, rfl⟩
      have hj := fun W (hW : Below wF.heap.size wF W) p3 t3 (h3 : Tre (fun _ => True) W t3 p3) (e3 : t3.even) (l3 : t3.list = M.drop k1) =>
        joinP_any kc vc (fun _ _ => trivial) (JA.out W (below_then HBF.out hW)).1 h3 (q2.below hW) (q3.below hW) (by rw [hQ]; exact HMF.out _ (List.getElem_mem hkM)) (JA.out W (below_then HBF.out hW)).2.1 e3 (by rw [← Tr.length, ← Tr.length, (JA.out W (below_then HBF.out hW)).2.2, l3, HLT.out, hld1]; omega)
      have hwhole : ∀ t3 : Tr, t3.list = M.drop k1 → ta.list ++ Q :: t3.list = M := fun t3 l3 => by
        rw [(JA.out wF HBF.out).2.2, l3, hQ, hk1, List.getElem_cons_drop, List.take_append_drop]
      simp only [← hx1, ← hx2] at q0 q1 hj
      simp only [Nat.zero_add] at q0 q1
      have hkeep : ∀ W, Below wF.heap.size wF W → W.cell? ⟨g, k * 2, none⟩ = some (.slice ka x1 kc) ∧ W.cell? ⟨g, k * 2 + 1, none⟩ = some (.slice va x2 vc) := fun W hW =>
        ⟨(hW.cell (p := ⟨g, k * 2, none⟩) hbl).trans q0, (hW.cell (p := ⟨g, k * 2 + 1, none⟩) hbl).trans q1⟩
      have KEEP := Lib.hid hkeep; clear hkeep
      have F3 := Lib.hid f3; clear f3
      have HJ := Lib.hid hj; clear hj
      have HW := Lib.hid hwhole; clear hwhole
      have hz0 : Below wF.heap.size wF wF.drew := (Below.refl _ _).drew
      clear q0 q1 q2 q3 hbl eA hQ hx1 hx2 hR1 hn1' hld1 hk1 hkM
      go_wp2_with fail
      go_region_held3 (fun W => W.cell? ⟨g, k * 2, none⟩ = some (.slice ka x1 kc) ∧ W.cell? ⟨g, k * 2 + 1, none⟩ = some (.slice va x2 vc)) (first | exact KEEP.out _ hz0 | exact KEEP.out _ hzG | exact KEEP.out _ hzH | fail) (first
        | (go_at_call 19; (with_reducible refine (F3.out _ (below_then HBF.out hz0)).mono ?_); rintro e wG ⟨p3, t3, rfl, h3, e3, l3, hbG⟩; have hzG := below_then hz0 hbG)
        | (go_at_call 23; (with_reducible refine (HJ.out _ hzG _ _ h3 e3 l3).mono ?_); rintro e wH ⟨pH, tH, rfl, hH, evH, lH, hbH⟩; have hzH := below_then hzG hbH)
        | fail)
      have lH' := lH.trans (HW.out t3 l3)
      have J3 := Lib.hid (told_any hH lH' HNN.out hn1 HTC.out)
      have hsoC := fun W (hW : Below wH.heap.size wH W) => sound_any (hH.below hW) (by rw [← Tr.length, lH', ← HNN.out]; omega) evH (by rw [lH']; exact HSR.out)
      have S3 := Lib.hid hsoC; clear hsoC
      have HBH := Lib.hid (below_then HBF.out hzH)
      clear hH evH lH lH' hbH hzH hzG h3 e3 l3 hbG KEEP F3 HJ HW hz0
      go_wp2_with fail
      refine J3.out.mono ?_
      rintro e wI ⟨AI, cI, rfl, hI, hbI⟩
      have HBI := Lib.hid hbI
      have J4 := Lib.hid (same_true hI (PM.out _ (below_then HBH.out hbI)) cI n HNN.out hn1)
      clear hI hbI J3
      go_wp2_with fail
      refine J4.out.mono ?_
      rintro e wJ ⟨rfl, hbJ⟩
      have J5 := Lib.hid (S3.out wJ (below_then HBI.out hbJ))
      have HBJ := Lib.hid (below_then HBH.out (below_then HBI.out hbJ))
      clear hbJ J4 S3 HBI HBH
      go_wp2_with fail
      refine J5.out.mono ?_
      rintro e wK ⟨rfl, hbK⟩
      have HBK := Lib.hid (below_then HBJ.out hbK)
      clear hbK J5 HBJ
      have hz1' := HBK.out.drew
      go_wp2_with fail
      go_region_held3 (fun _ => True) (trivial) (first
        | (go_at_call 13; (with_reducible refine (TA.out _ hz1').mono ?_); rintro e wP ⟨AP, cP, rfl, hP, hbP⟩; have hzP := below_then hz1' hbP; have kP := Lib.hid (same_true hP (PF.out _ hzP) cP n HLT.out.symm hk150))
        | (go_at_call 20; (with_reducible refine kP.out.mono ?_); rintro e wQ ⟨rfl, hbQ⟩; have hzQ := below_then hzP hbQ)
        | (go_at_call 13; (with_reducible refine (TB.out _ hzQ).mono ?_); rintro e wR ⟨AR, cR, rfl, hR, hbR⟩; have hzR := below_then hzQ hbR; have kR := Lib.hid (same_true hR (PR.out _ hzR) cR nk HND.out hnk150))
        | (go_at_call 20; (with_reducible refine kR.out.mono ?_); rintro e wS ⟨rfl, hbS⟩; have hzS := below_then hzR hbS)
        | (go_at_call 10; (with_reducible refine (HAW.out _).mono ?_); rintro e wT ⟨rfl, hbT⟩; have hzT := below_then hzS hbT)
        | fail)
      all_goals
        go_wp2_with fail
        go_ret
        exact ⟨rfl, below_then HZB.out hzT⟩
    · have hz1' := HBF.out.drew
      go_wp2_with fail
      go_region_held3 (fun _ => True) (trivial) (first
        | (go_at_call 13; (with_reducible refine (TA.out _ hz1').mono ?_); rintro e wP ⟨AP, cP, rfl, hP, hbP⟩; have hzP := below_then hz1' hbP; have kP := Lib.hid (same_true hP (PF.out _ hzP) cP n HLT.out.symm hk150))
        | (go_at_call 20; (with_reducible refine kP.out.mono ?_); rintro e wQ ⟨rfl, hbQ⟩; have hzQ := below_then hzP hbQ)
        | (go_at_call 13; (with_reducible refine (TB.out _ hzQ).mono ?_); rintro e wR ⟨AR, cR, rfl, hR, hbR⟩; have hzR := below_then hzQ hbR; have kR := Lib.hid (same_true hR (PR.out _ hzR) cR nk HND.out hnk150))
        | (go_at_call 20; (with_reducible refine kR.out.mono ?_); rintro e wS ⟨rfl, hbS⟩; have hzS := below_then hzR hbS)
        | (go_at_call 10; (with_reducible refine (HAW.out _).mono ?_); rintro e wT ⟨rfl, hbT⟩; have hzT := below_then hzS hbT)
        | fail)
      all_goals
        go_wp2_with fail
        go_ret
        exact ⟨rfl, below_then HZB.out hzT⟩
/-! ### THE ROW's STEP -/
set_option maxRecDepth 100000 in
theorem lifted (os : Os) (started : os.Started) (H : Type) (enc : TypeId × Value → H) :
    ReturnsInHanded {} Try.checked os 7 .any (Rows.treeJoinsSpec.pre6 enc Try.prog Try.f7 Rows.treeJoinsRow.domain false) (Rows.treeJoinsSpec.post enc Try.prog Try.f7 false true false false) := by
  refine returnsInHanded_of_change (C := Try.checked) own started (by kernel_rfl) Try.func7
    (ChangeSpec.witness6 (enc := enc) (C := Try.checked) false ⟨#[], #[.slice none 0 0, .int .u8 0], []⟩ 8 (by kernel_rfl) (by kernel_rfl) (by kernel_rfl) (by kernel_rfl)) ?_
  intro W base args ds gs before hval0 hW hcnd _
  have hval : ∀ (j : Nat) t v, Try.f7.params[j]? = some t → args[j]? = some v → Value.okWide Try.prog W .any base t v := hval0
  have hW' := hW
  obtain ⟨p, q, hA0, hV, rfl, hfz, hnd⟩ := hW
  have hA : DataW.TrodAll enc Try.prog W 0 (fun _ => true) true Try.f7.params.toList args.toList ds p := hA0
  rw [Try.params7] at hA hval
  obtain ⟨v0, vs0, d0, ds0, p0, q0, hargs, rfl, rfl, h0, r0⟩ := trodAll_cons hA
  obtain ⟨v1, vs1, d1, ds1, p1, q1, rfl, rfl, rfl, h1, r1⟩ := trodAll_cons r0
  obtain ⟨rfl, rfl, rfl⟩ := trodAll_nil r1
  obtain rfl : args = #[v0, v1] := by cases args; simp_all
  obtain ⟨rfl, rfl⟩ := trodVars_none hV
  obtain ⟨a0, len0, cap0, rfl⟩ := okWide_slice Try.underlying33 (hval 0 33 v0 rfl rfl)
  have k0 := h0
  have lt0 : ∀ x ∈ p0, x.block < W.heap.size := by obtain ⟨m, hm⟩ := k0; exact DataW.trod_lt m _ _ _ hm
  obtain ⟨A0, c0, L0, e0, hc0, hm0, ha0⟩ : ∃ (A : Option Addr) (c : Nat) (L : List Pr), Value.slice a0 len0 cap0 = .slice A L.length c ∧ L.length ≤ c ∧ c ≤ maxLen ∧ Pcs W A L := by
    obtain ⟨fuel, hf⟩ := h0
    exact pairs_open hf
  have k1 := h1
  have lt1 : ∀ x ∈ p1, x.block < W.heap.size := by obtain ⟨m, hm⟩ := k1; exact DataW.trod_lt m _ _ _ hm
  obtain ⟨z1, hz1, rfl⟩ : ∃ z : Nat, z < 256 ∧ v1 = .int .u8 (z : Int) := by
    exact num_open (hval 1 5 v1 rfl rfl) h1
  clear hA0 hval0
  obtain ⟨rfl, rfl, rfl⟩ : a0 = A0 ∧ len0 = L0.length ∧ cap0 = c0 := by
    injection e0 with x y z
    exact ⟨x, y, z⟩
  refine (walk W hc0 hm0 ha0 hz1).mono fun e W' ⟨he, bel⟩ => ?_
  subst he
  exact ⟨_, rfl, _, _, _, [], _, [], hW', trodAll_mk1 (shut_bool Try.underlying4 _), (trodAll_cons_mk (Below.trod laidOut (by kernel_rfl) (of_decide_eq_true (by kernel_rfl)) k0 bel lt0) (trodAll_cons_mk (Below.trod laidOut (by kernel_rfl) (of_decide_eq_true (by kernel_rfl)) k1 bel lt1) trodAll_mk0)), rfl, bel.frame _, fun h => by cases h⟩

theorem over : Rows.treeJoinsRow.holds Try.pinned (OpenSpec.ofChange Rows.treeJoinsSpec) :=
  OpenClaim.holds_of_wide 7 Try.f7 rfl rfl rfl rfl rfl rfl rfl ⟨rfl, rfl, rfl, rfl, rfl⟩ rfl rfl rfl rfl rfl (by kernel_rfl) Try.func7 (by kernel_rfl)
    (of_decide_eq_true (by kernel_rfl)) (by unfold Func.isWrapper; first | (rw [if_pos (by decide +kernel)]; kernel_rfl) | (rw [if_neg (by decide +kernel)]; exact ⟨rfl, rfl⟩))
    (fun os started H enc _ => lifted os started H enc)

/-- ████ THE STATEMENT ████ -/
theorem proved : Rows.TreeJoinsSaid := over
#print axioms proved
end Go.Proofs.Ytbgohpcfinojoaa.treeJoins
