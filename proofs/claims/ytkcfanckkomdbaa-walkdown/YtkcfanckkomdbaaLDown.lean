/-
  WalkDown: for every input the law answers true and leaves its arguments as they were: the walk is typed by hand, the row's step is the guide's template.
  Conditions: none beside the row's own.
-/
import Derived.Test.YtkcfanckkomdbaaGive
import Derived.Test.YtkcfanckkomdbaaMoves
import Derived.Deep.RegionHeld3
import Derived.Deep.DeepCutAuto
import Derived.Test.YtkcfanckkomdbaaIn
import Derived.Test.YtkcfanckkomdbaaRows
import Derived.WalkKit
import Derived.ProofKit
import Derived.OpenShut
import Derived.ShutString
import Derived.ChangeOld
import Derived.Below
namespace Go.Proofs.Ytkcfanckkomdbaa.walkDown
open Go.ChangeShapes Go.WideShapes Go.ChangeAt Go.RowKit
set_option linter.unusedVariables false
theorem own : ownKnob Try.prog.godebug = none := by kernel_rfl
theorem laidOut : laidOutB Try.prog = true := by kernel_rfl
attribute [local go_sem] Oper.semAt_some
theorem _root_.Go.Proofs.Ytkcfanckkomdbaa.Rcs.put {w : World} {b : Nat} {t : TypeId} {u : Value} {A : Option Addr} {M : List Pr} (h : Rcs w A M) (hb : Boxed w b t u) (hu : ∀ s, u ≠ .string s) (v : Value) : Rcs (w.setCell ⟨b, 0, none⟩ v) A M := by
  rcases h with h | ⟨g, h1, h2, h3⟩
  · exact .inl h
  · by_cases hl : M = []
    · exact .inl hl
    · have hne : g ≠ b := by
        rintro rfl
        have e := (h3 0 (List.length_pos_iff.2 hl)).1
        have e2 := hb.cell
        simp only [Nat.zero_mul] at e
        rw [e2] at e
        injection e with e
        exact hu _ e
      have e : (w.setCell ⟨b, 0, none⟩ v).heap[g]? = w.heap[g]? := Below.heap_setCell w _ _ _ hne
      exact .inr ⟨g, h1, lt_kept e h2, fun i hi => ⟨(cell_kept e).trans (h3 i hi).1, (cell_kept e).trans (h3 i hi).2⟩⟩
theorem _root_.Go.Proofs.Ytkcfanckkomdbaa.Bts.loop {w w' : World} {l : Nat} {r : Loop} {A : Option Addr} {L : List UInt8} (h : Bts w A L) (k : But (fun k => k = l) w w') (hr : w.heap[l]? = some (.loop r)) : Bts w' A L := by
  rcases h with h | ⟨b, off, h1, h2, h3⟩
  · exact .inl h
  · by_cases hl : L = []
    · exact .inl hl
    · have hne : ¬ b = l := by
        rintro rfl
        have e := h3 0 (List.length_pos_iff.2 hl)
        simp [World.cell?, hr] at e
      have e := k.block b h2 hne
      exact .inr ⟨b, off, h1, lt_kept e h2, fun i hi => (cell_kept e).trans (h3 i hi)⟩
theorem _root_.Go.Proofs.Ytkcfanckkomdbaa.Pt.loop {o : Option Pr} {w w' : World} {l : Nat} {r : Loop} {ka va : Option Addr} {x1 x2 : Nat} {is : Bool} (h : Pt o w ka va x1 x2 is) (k : But (fun k => k = l) w w') (hr : w.heap[l]? = some (.loop r)) : Pt o w' ka va x1 x2 is :=
  ⟨h.1, h.2.1, h.2.2.1, h.2.2.2.1.loop k hr, h.2.2.2.2.loop k hr⟩
set_option maxRecDepth 100000 in
set_option maxHeartbeats 4000000 in
theorem walk {A0 : Option Addr} {c0 : Nat} {L0 : List Opn} {F1 T1 : Option Addr} {fc1 tc1 : Nat} {fr1 to1 : List UInt8} {cl1 : Bool} {z2 : Int} (w : World) (hc0 : L0.length ≤ c0) (hm0 : c0 ≤ maxLen) (ha0 : Ocs w A0 L0) (hf1 : fr1.length ≤ 9223372036854775807) (ht1 : to1.length ≤ 9223372036854775807) (hs1 : Spn w F1 T1 fr1 to1 fr1.length to1.length) (hl2 : -9223372036854775808 ≤ z2) (hu2 : z2 ≤ 9223372036854775807) :
    Calls Try.prog 5 #[.slice A0 L0.length c0, .agg #[.slice F1 fr1.length fc1, .slice T1 to1.length tc1, .bool cl1], .int .i64 z2] w fun e w' => e = .returned (.bool true) ∧ Below w.heap.size w w' := by
  obtain ⟨x, hx⟩ : ∃ x, x = fr1.length := ⟨_, rfl⟩
  obtain ⟨y, hy⟩ : ∃ y, y = to1.length := ⟨_, rfl⟩
  rw [← hx] at hf1 hs1 ⊢
  rw [← hy] at ht1 hs1 ⊢
  obtain ⟨w1, hw1, hb1, hk1⟩ := box_span w (.slice F1 x fc1) (.slice T1 y tc1) (.bool cl1)
  have z1 : w1.heap.size = w.heap.size + 1 := by rw [hw1]; simp
  obtain ⟨w3, hw3⟩ : ∃ w3, w3 = (w1.alloc (.cells #[.int .i64 z2] 3)).alloc (.cells #[.bool false] 4) := ⟨_, rfl⟩
  have hb3 : Below w1.heap.size w1 w3 := by rw [hw3]; exact ((Below.refl _ _).alloc (Nat.le_refl _) _).alloc (by simp) _
  have s2 : Boxed w3 (w.heap.size + 1) 3 (.int .i64 z2) := by rw [hw3, ← z1]; exact (Boxed.new w1 3 _).alloc _
  have s3 : Boxed w3 (w.heap.size + 1 + 1) 4 (.bool false) := by
    have z := Boxed.new (w1.alloc (.cells #[.int .i64 z2] 3)) 4 (.bool false)
    rw [World.size_alloc, z1] at z
    rw [hw3]
    exact z
  have z3 : w3.heap.size = w.heap.size + 1 + 1 + 1 := by rw [hw3]; simp [z1]
  have hb := below_then hb1 hb3
  have hsm := fine_any (ha0.below hb) c0 80 (by decide) (Nat.le_trans hc0 hm0)
  have HAW := Lib.hid awake_any
  have HMD := Lib.hid (fun W (h : Below w3.heap.size w3 W) hl ht => made_mod c0 ((ha0.below hb).below h) hl ht)
  have HSP := Lib.hid (hs1.below hb)
  have HFL := Lib.hid (And.intro hx hy)
  have K1 := Lib.hid (fun W (h : Below w3.heap.size w3 W) => hk1 W (below_then hb3 h)); clear hk1
  rw [hw1] at hw3
  have HW3 := Lib.hid hw3; clear hw3 hw1
  have S2 := Lib.hid s2; clear s2
  have S3 := Lib.hid s3; clear s3
  have HB := Lib.hid hb; clear hb hb1 hb3
  have Z3 := Lib.hid z3; clear z1 z3
  cases hs : (decide (L0.length ≤ 80) && tinyO L0) with
  | false =>
    rw [hs] at hsm
    have HSM := Lib.hid hsm; clear hsm
    clear ha0 hs hc0 hm0 hs1 hx hy hf1 ht1 HMD
    go_enter Try.func5, Try.ntmps5
    go_wp2_with fail
    rw [← HW3.out]
    refine HSM.out.mono ?_
    rintro e w4 ⟨rfl, b4⟩
    have r4 : Boxed w4 (w.heap.size + 1 + 1) 4 (.bool false) := (b4.block _ S3.out.lt).trans S3.out
    have R4 := Lib.hid r4; clear r4
    have RB := Lib.hid (below_then HB.out b4); clear b4
    go_wp2_with fail
    refine (HAW.out _).mono ?_
    rintro e w9 ⟨rfl, b9⟩
    have r9 : Boxed w9 (w.heap.size + 1 + 1) 4 (.bool false) := (b9.block _ R4.out.lt).trans R4.out
    have g4 := r9.cell
    have gf := r9.frozen
    have R9 := Lib.hid r9; clear r9
    have RB9 := Lib.hid (below_then RB.out b9); clear b9
    go_wp2_with fail
    have k2 := (R9.out.set (.bool true)).cell
    refine bodyPost_ret (v := .bool true) (by simp [results, Try.f5, go_sem, k2]) rfl ?_
    exact ⟨rfl, RB9.out.setCell (p := ⟨w.heap.size + 1 + 1, 0, none⟩) (by simp; omega) _⟩
  | true =>
    rw [hs] at hsm
    obtain ⟨hlen, htiny⟩ : L0.length ≤ 80 ∧ tinyO L0 = true := by simpa using hs
    have HSM := Lib.hid hsm; clear hsm
    have HMD2 := Lib.hid (fun W h => HMD.out W h hlen htiny); clear HMD
    clear ha0 hs hc0 hm0 hs1 hx hy hlen htiny hf1 ht1
    by_cases hk : x ≤ 100
    · have t1 : decide ((100 : Int) < (x : Int)) = false := decide_eq_false (by omega)
      have t2 : decide (100 < x) = false := decide_eq_false (by omega)
      by_cases hj : y ≤ 100
      · have t3 : decide ((100 : Int) < (y : Int)) = false := decide_eq_false (by omega)
        have t4 : decide (100 < y) = false := decide_eq_false (by omega)
        have HKL := Lib.hid (And.intro hk hj); clear hk hj
        refine (callsIn_wide (n := 3)).1 ?_
        refine callsIn_of_wp_marks Try.func5 rfl trivial ?_ rfl
        simp only [Try.ntmps5, List.size_toArray, List.length_cons, List.length_nil, Nat.reduceAdd, Nat.reduceSub, Array.replicate_succ, Array.replicate_zero, List.push_toArray, List.append_toArray, List.nil_append, List.cons_append]
        refine wpIn_wide.2 ?_
        go_wp2_with fail
        rw [← HW3.out]
        refine HSM.out.mono ?_
        rintro e w4 ⟨rfl, b4⟩
        obtain ⟨q0, q1, q2⟩ := K1.out w4 b4
        have M4 := Lib.hid (HMD2.out w4 b4)
        have B4 := Lib.hid b4; clear b4
        clear HMD2 HSM HW3
        go_wp2_with fail
        refine M4.out.mono ?_
        rintro e w5 ⟨p, A, c, nn, M, rfl, -, hwo, hmo, b5⟩
        have b35 := below_then B4.out b5
        clear q0 q1 q2
        obtain ⟨w6, hw6⟩ : ∃ w6, w6 = w5.alloc (.cells #[.slice A nn c] 27) := ⟨_, rfl⟩
        have b6 : Below w5.heap.size w5 w6 := by rw [hw6]; exact (Below.refl _ _).alloc (Nat.le_refl _) _
        have s8 : Boxed w6 w5.heap.size 27 (.slice A nn c) := by rw [hw6]; exact Boxed.new w5 27 _
        obtain ⟨r8, hr8⟩ : ∃ r, r = w5.heap.size := ⟨_, rfl⟩
        rw [← hr8] at s8
        have HR8 := Lib.hid hr8; clear hr8
        have b36 := below_then b35 b6
        have hlx : fr1.length ≤ 1000 ∧ to1.length ≤ 1000 := by rw [← HFL.out.1, ← HFL.out.2]; have := HKL.out; omega
        obtain ⟨sf, hsf⟩ : ∃ s : ByteArray, s = ⟨fr1.toArray⟩ := ⟨_, rfl⟩
        obtain ⟨st, hst⟩ : ∃ s : ByteArray, s = ⟨to1.toArray⟩ := ⟨_, rfl⟩
        have href := fun W (hW : Below w6.heap.size w6 W) => ref_any fc1 tc1 cl1 ((HSP.out.below b36).below hW)
        have hri := fun W (hW : Below w6.heap.size w6 W) => refIns_any ((hmo.rcs.below b6).below hW) c fr1 to1 cl1 (by have := hmo.few; have := hmo.len; omega) hlx.1 hlx.2 (fun q hq => by have := hmo.tiny q hq; omega)
        simp only [← hsf, ← hst] at href hri
        simp only [← hmo.len] at hri
        obtain ⟨IN, hIN⟩ : ∃ I, I = ins M fr1 to1 cl1 := ⟨_, rfl⟩
        simp only [← hIN] at hri
        have keep := fun W (hW : Below w6.heap.size w6 W) => And.intro (Boxed.cell (show Boxed W r8 27 (.slice A nn c) from (hW.block r8 s8.lt).trans s8)) (K1.out W (below_then b36 hW))
        have HREF := Lib.hid href; clear href
        have HRI := Lib.hid hri; clear hri
        have KEEP := Lib.hid keep; clear keep
        have HMO := Lib.hid hmo; clear hmo
        have HWO := Lib.hid hwo; clear hwo
        have HIN := Lib.hid hIN; clear hIN
        have S8 := Lib.hid s8; clear s8
        have HW6 := Lib.hid hw6; clear hw6
        have B6 := Lib.hid b6; clear b6
        have B36 := Lib.hid b36; clear b36 b35 b5 B4
        have hz0 : Below w6.heap.size w6 w6.drew := (Below.refl _ _).drew
        have hzP : Below w6.heap.size w6 (w6.alloc (.cells #[.slice none 0 0] 27)).drew := ((Below.refl _ _).alloc (Nat.le_refl _) _).drew
        clear hlx hsf hst M4
        go_wp2_with (rw [← HW6.out, ← HR8.out])
        go_cut [9] from 14 (fun s9 wx => ∃ bi A' c' n', s9 = .pointer (some ⟨bi, 0, none⟩) ∧ Hid (n' = IN.length ∧ w6.heap.size ≤ bi ∧ Rcs wx A' IN ∧ Boxed wx bi 27 (.slice A' n' c')) ∧ Hid (Below w6.heap.size w6 wx))
        case first =>
          have res : ∀ (W : World) (bi n' c' : Nat) (A' : Option Addr), Boxed W bi 27 (.slice none 0 0) → Below w6.heap.size w6 W → w6.heap.size ≤ bi → Rcs W A' IN → n' = IN.length →
              Hid (n' = IN.length ∧ w6.heap.size ≤ bi ∧ Rcs (W.setCell ⟨bi, 0, none⟩ (.slice A' n' c')) A' IN ∧ Boxed (W.setCell ⟨bi, 0, none⟩ (.slice A' n' c')) bi 27 (.slice A' n' c')) ∧ Hid (Below w6.heap.size w6 (W.setCell ⟨bi, 0, none⟩ (.slice A' n' c'))) :=
            fun W bi n' c' A' h1 h2 h3 h4 h5 => ⟨⟨h5, h3, h4.put h1 (by intro s e; cases e) _, h1.set _⟩, h2.setCell (p := ⟨bi, 0, none⟩) h3 _⟩
          have RES := Lib.hid res; clear res
          go_region_held3 (fun W => W.cell? ⟨r8, 0, none⟩ = some (.slice A nn c) ∧ W.cell? ⟨w.heap.size, 0, none⟩ = some (.slice F1 x fc1) ∧ W.cell? ⟨w.heap.size, 1, none⟩ = some (.slice T1 y tc1) ∧ W.cell? ⟨w.heap.size, 2, none⟩ = some (.bool cl1)) (first | exact KEEP.out _ hz0 | exact KEEP.out _ hzP | exact KEEP.out _ hzA | exact KEEP.out _ (hzA.alloc hzA.size _) | exact KEEP.out _ hzB | exact KEEP.out _ (hzB.alloc hzB.size _) | exact KEEP.out _ (hzB.setCell (p := ⟨w6.heap.size, 0, none⟩) (Nat.le_refl _) _) | exact KEEP.out _ (hzB.setCell (p := ⟨wA.heap.size, 0, none⟩) hzA.size _) | fail) (first
            | (go_at_call 21; (with_reducible refine (HREF.out _ hz0).mono ?_); rintro e wA ⟨rfl, hA⟩; have hzA := below_then hz0 hA)
            | (go_at_call 21; (with_reducible refine (HREF.out _ hzP).mono ?_); rintro e wA ⟨rfl, hA⟩; have hzA := below_then hzP hA; have hbx : Boxed wA w6.heap.size 27 (.slice none 0 0) := (hA.block _ (by simp [World.drew])).trans (heap_alloc_new w6 _))
            | (go_at_call 20; (with_reducible refine (HRI.out _ hzA).mono ?_); rintro e wB ⟨A', c', n', rfl, hn, hR, hB⟩; have hzB := below_then hzA hB; first | (have hby : Boxed wB w6.heap.size 27 (.slice none 0 0) := (hB.block _ hbx.lt).trans hbx; have FIN := Lib.hid (RES.out wB _ n' c' A' hby hzB (Nat.le_refl _) hR hn); obtain ⟨d, f⟩ := And.intro hby.cell hby.frozen; clear hn hR) | (have FIN : Hid (Hid (n' = IN.length ∧ w6.heap.size ≤ wB.heap.size ∧ Rcs (wB.alloc (.cells #[.slice A' n' c'] 27)) A' IN ∧ Boxed (wB.alloc (.cells #[.slice A' n' c'] 27)) wB.heap.size 27 (.slice A' n' c')) ∧ Hid (Below w6.heap.size w6 (wB.alloc (.cells #[.slice A' n' c'] 27)))) := ⟨⟨hn, hzB.size, hR.below ((Below.refl _ _).alloc (Nat.le_refl _) _), Boxed.new _ _ _⟩, hzB.alloc hzB.size _⟩; clear hn hR))
            | (go_at_call 20; (with_reducible refine (HRI.out _ (hzA.alloc hzA.size _)).mono ?_); rintro e wB ⟨A', c', n', rfl, hn, hR, hB⟩; have hzB := below_then (hzA.alloc hzA.size _) hB; have hby : Boxed wB wA.heap.size 27 (.slice none 0 0) := (hB.block _ (by simp)).trans (heap_alloc_new wA _); have FIN := Lib.hid (RES.out wB _ n' c' A' hby hzB hzA.size hR hn); obtain ⟨d, f⟩ := And.intro hby.cell hby.frozen; clear hn hR)
            | fail)
          all_goals
            go_wp2_with fail
            go_meet
            exact ⟨_, _, _, _, rfl, FIN.out⟩
        case rest =>
          obtain ⟨bi, A', c', n', rfl, hin, hbw⟩ := hcut
          obtain ⟨en, ebi, hrin, hbi⟩ := hin.out
          have b3c := B36.out.trans (hbw.out.mono B36.out.size)
          have b5c : Below w5.heap.size w5 wc := below_then B6.out hbw.out
          have hwo : Wood wc p M := HWO.out.below b5c
          have hmx : Mod wc M A nn := HMO.out.below b5c
          obtain ⟨pl1, pl2⟩ := ins_places hwo.sorted fr1 to1 cl1
          have hmi : Mod wc IN A' n' := ⟨hrin, en, by
            have := HMO.out.few
            have := HMO.out.len
            have e := List.length_filter_le (fun x => inS fr1 to1 cl1 x.1) M
            have e2 : IN.length ≤ M.length := by rw [HIN.out]; exact e
            omega, fun q hq => HMO.out.tiny q (by rw [HIN.out] at hq; exact (List.mem_filter.1 hq).1)⟩
          obtain ⟨a, ha⟩ : ∃ a, a = rank M fr1 := ⟨_, rfl⟩
          obtain ⟨u, hu⟩ : ∃ u, u = upper M to1 cl1 := ⟨_, rfl⟩
          have hal : a ≤ M.length := by rw [ha]; exact rank_le _ _
          have hul : u ≤ M.length := by rw [hu]; exact upper_le _ _ _
          rw [← ha, ← hu] at pl1 pl2
          rw [← HIN.out] at pl1 pl2
          have e8 : Boxed wc r8 27 (.slice A nn c) := (hbw.out.block _ S8.out.lt).trans S8.out
          have e2 : Boxed wc (w.heap.size + 1) 3 (.int .i64 z2) := (b3c.block _ S2.out.lt).trans S2.out
          have e3 : Boxed wc (w.heap.size + 1 + 1) 4 (.bool false) := (b3c.block _ S3.out.lt).trans S3.out
          obtain ⟨w7, hw7⟩ : ∃ w7, w7 = wc.alloc (.cells #[.int .i64 0] 3) := ⟨_, rfl⟩
          have b7 : Below wc.heap.size wc w7 := by rw [hw7]; exact (Below.refl _ _).alloc (Nat.le_refl _) _
          obtain ⟨kb, hkb⟩ : ∃ k, k = wc.heap.size := ⟨_, rfl⟩
          have e7 : Boxed w7 kb 3 (.int .i64 0) := by rw [hw7, hkb]; exact Boxed.new wc 3 _
          obtain ⟨q0, q1, q2⟩ := K1.out w7 (b3c.trans (b7.mono b3c.size))
          have hall := down_any fc1 tc1 cl1 (hwo.below b7) (HSP.out.below (b3c.trans (b7.mono b3c.size)))
          rw [← ha, ← hu] at hall
          have HALL := Lib.hid hall; clear hall
          have HE := Lib.hid (And.intro e8 (And.intro e2 (And.intro e3 hbi))); clear e8 e2 e3 hbi
          have HMX := Lib.hid hmx; clear hmx
          have HMI := Lib.hid hmi; clear hmi
          replace HWO := Lib.hid hwo; clear hwo
          have HPL := Lib.hid (And.intro en (And.intro pl1 (And.intro pl2 (And.intro hal hul)))); clear en pl1 pl2 hal hul
          have E7 := Lib.hid e7; clear e7
          have HKB := Lib.hid hkb; clear hkb
          have HW7 := Lib.hid hw7; clear hw7
          have B7 := Lib.hid b7; clear b7
          have B3C := Lib.hid b3c; clear b3c b5c
          clear hin hbw ebi hrin ha hu hz0 hzP HREF HRI KEEP HMO HIN S8 HW6 B6 B36 HR8
          rw [HW7.out] at q0 q1 q2
          go_wp2_with fail
          rw [← HW7.out, ← HKB.out]
          refine HALL.out.mono ?_
          rintro e w8 ⟨bt, bf, bto, rfl, hsq, l1, l2, l3, b8⟩
          have hef := fun lb : Array Value => (by kernel_rfl : Sem.run Try.prog (binOp BinOp.eql 54 (Value.func (Fn.func 37) #[] lb) Value.nilFunc) w8 = .ok (.bool false) w8)
          clear q0 q1 q2 HALL
          go_wp2_with fail
          clear hef
          have hkl : kb < w7.heap.size := E7.out.lt
          have hk8 : kb < w8.heap.size := Nat.lt_of_lt_of_le hkl b8.size
          have hbc : ∀ V, Below kb wc V → Below wc.heap.size wc V := by rw [HKB.out]; exact fun _ h => h
          have hb08 : Below kb wc w8 := by rw [HKB.out]; exact B7.out.trans (b8.mono (by rw [← HKB.out]; omega))
          have e8 : Boxed w8 kb 3 (.int .i64 0) := (b8.block _ hkl).trans E7.out
          have hseq : Hands 2 Try.prog 37 #[.pointer (some ⟨bt, 0, none⟩), .pointer (some ⟨bto, 0, none⟩), .pointer (some ⟨bf, 0, none⟩)] (fun k => k = kb) (fun j vs W => j < u - a ∧ But (fun k => k = kb) w8 W ∧ Given M (u - 1 - j) vs W) (fun j => j = u - a) w8 :=
            down1_hands (p := p) (by omega) (fun W hW => HWO.out.below (hbc W (hb08.trans (hW.below (by omega) (fun k e => by omega))))) hsq (by omega) (by omega) (by omega) (fun k e => by omega) HPL.out.2.2.2.2 HPL.out.2.2.2.1
          have HBC := Lib.hid hbc; clear hbc
          have HWB := Lib.hid (below_then HB.out (B3C.out.mono (Nat.le_refl _)))
          have hwk : w.heap.size + 1 + 1 < kb := by rw [HKB.out]; exact HE.out.2.2.1.lt
          refine (wpIn_wide (n := 3)).1 ?_
          obtain ⟨I, hI⟩ : ∃ I : Nat → World → Prop, I = fun (j : Nat) W => Below kb wc W ∧ Boxed W kb 3 (.int .i64 (j : Int)) := ⟨_, rfl⟩
          obtain ⟨Ix, hIx⟩ : ∃ Ix : Code → Nat → World → Prop, Ix = fun (c : Code) (j : Nat) W => c = Code.exit 0 ∧ (j : Int) = z2 ∧ I j W := ⟨_, rfl⟩
          have sI : ∀ j A B, I j A → Below w8.heap.size A B → I j B := by
            subst hI
            exact fun j A B h k => ⟨h.1.trans (k.mono (by omega)), (k.block _ hk8).trans h.2⟩
          have keep : ∀ j W, I j W → Boxed W kb 3 (.int .i64 (j : Int)) ∧ Boxed W r8 27 (.slice A nn c) ∧ Boxed W (w.heap.size + 1) 3 (.int .i64 z2) ∧ Boxed W (w.heap.size + 1 + 1) 4 (.bool false) ∧ Boxed W bi 27 (.slice A' n' c') ∧ Mod W M A nn ∧ Mod W IN A' n' ∧ Below w.heap.size w W := by
            subst hI
            intro j W h
            have q := HBC.out _ h.1
            obtain ⟨y1, y2, y3, y4⟩ := HE.out
            exact ⟨h.2, (q.block _ y1.lt).trans y1, (q.block _ y2.lt).trans y2, (q.block _ y3.lt).trans y3, (q.block _ y4.lt).trans y4, HMX.out.below q, HMI.out.below q, HWB.out.trans (q.mono (by have := y3.lt; omega))⟩
          have next : ∀ j W V, I j W → But (fun k => k = kb) W V → Boxed V kb 3 (.int .i64 ((j : Int) + 1)) → I (j + 1) V := by
            subst hI
            exact fun j W V h k e => ⟨h.1.trans (k.below (by have := (h.2 : Boxed W kb 3 _).lt; omega) (fun k e => by omega)), e⟩
          have I0 : I 0 w8 := by subst hI; exact ⟨hb08, e8⟩
          have SI := Lib.hid sI; clear sI
          have KEEP := Lib.hid keep; clear keep
          have NEXT := Lib.hid next; clear next
          clear hI HE HMX HMI HWO E7 HW7 B7 hkl hb08 e8 hsq l1 l2 l3 b8 HKB HBC HWB HSP HFL K1 S2 S3 HB Z3 t1 t2 t3 t4 HKL B3C
          refine wp_range (n := 3) (gf := 37) (lb := #[.pointer (some ⟨bt, 0, none⟩), .pointer (some ⟨bto, 0, none⟩), .pointer (some ⟨bf, 0, none⟩)]) rfl (enters_of Try.func37 (by kernel_rfl) rfl) I Ix hseq SI.out ?stab (fun k e => by omega) I0 ?round ?done ?stop
          case stab =>
            subst hIx
            exact fun c j A B h k => ⟨h.1, h.2.1, SI.out _ _ _ h.2.2 k⟩
          case round =>
            clear hseq I0
            rintro l j vs W hl hi ⟨hj, hkw, ka, kc, va, vc, x1, x2, rfl, hp⟩
            obtain ⟨i, hii⟩ : ∃ i, i = u - 1 - j := ⟨_, rfl⟩
            rw [← hii] at hp
            simp only [← hii]
            have hjn : j < n' := by have := HPL.out; omega
            have hnth : nth IN ((n' : Int) - 1 - (j : Int)) = nth M (i : Int) := by
              have e := HPL.out.2.2.1 (n' - 1 - j) (by have := HPL.out; omega)
              rw [show (n' : Int) - 1 - (j : Int) = ((n' - 1 - j : Nat) : Int) by omega, e, show a + (n' - 1 - j) = i by have := HPL.out; omega]
            refine ⟨rfl, fun K hK => ?_⟩
            have HK := Lib.hid hK; clear hK
            have HI := Lib.hid hi; clear hi
            have HP := Lib.hid hp; clear hp
            have HN := Lib.hid hnth; clear hnth
            have hjs : j < 80 := by
              obtain ⟨_, _, _, _, _, _, hm, _⟩ := KEEP.out _ _ HI.out
              have := hm.few
              have := HPL.out
              omega
            have his : i < 100000 := by
              obtain ⟨_, _, _, _, _, hm, _⟩ := KEEP.out _ _ HI.out
              have := hm.few
              have := hm.len
              have := HPL.out
              omega
            have hw8 := hkw.size
            have hn80 : n' ≤ 80 := by
              obtain ⟨_, _, _, _, _, _, hm, _⟩ := KEEP.out _ _ HI.out
              exact hm.few
            have hw2 : IntKind.i64.wrap ((n' : Int) - 1) = (n' : Int) - 1 := IntWalk.i64_in _ (by omega)
            have hw3 : IntKind.i64.wrap ((n' : Int) - 1 - (j : Int)) = (n' : Int) - 1 - (j : Int) := IntWalk.i64_in _ (by omega)
            clear hii hj hkw
            gi_wp2_with fail
            refine HK.out _ _ (But.of ((Below.refl _ _).alloc (Nat.le_refl _) _)) ?_
            rintro W2 hk2 ⟨r, hr⟩
            have hql : W.heap.size ≠ l := by
              rintro rfl
              rw [heap_alloc_new] at hr
              cases hr
            have hX2 : Box W2 W.heap.size ka x1 kc va x2 vc := (hk2.block _ (by simp) hql).trans (heap_alloc_new W _)
            have hp2 : Pt (nth M (i : Int)) W2 ka va x1 x2 true := (HP.out.below ((Below.refl _ W).alloc (Nat.le_refl _) _)).loop hk2 hr
            have hI2 : I j W2 := SI.out _ _ _ (SI.out _ _ _ HI.out ((Below.refl _ W).alloc hw8 (.cells #[.slice ka x1 kc, .slice va x2 vc] 37))) (hk2.below (by simp; omega) (fun k e => by omega))
            obtain ⟨q, hq⟩ : ∃ q, q = W.heap.size := ⟨_, rfl⟩
            rw [← hq] at hX2 ⊢
            obtain ⟨f1, f2, f3, f4, f5, f6, f7, f8⟩ := KEEP.out _ _ hI2
            have K1 := Lib.hid (f7.at (z := (n' : Int) - 1 - (j : Int)) c' kc vc HN.out hp2 (by omega) (by omega))
            have K2 := Lib.hid (fun V (hV : Below W2.heap.size W2 V) => (f6.below hV).at (z := (i : Int)) c kc vc rfl (hp2.below hV) (by omega) (by omega))
            have FX := Lib.hid (fun V (hV : Below W2.heap.size W2 V) => (And.intro (hX2.below hV).cells (And.intro (Boxed.cell (show Boxed V r8 27 (.slice A nn c) from (hV.block _ f2.lt).trans f2)) (And.intro (show Boxed V kb 3 (.int .i64 (j : Int)) from (hV.block _ f1.lt).trans f1) (Boxed.cell (show Boxed V (w.heap.size + 1) 3 (.int .i64 z2) from (hV.block _ f3.lt).trans f3))))))
            have HI2 := Lib.hid hI2; clear hI2
            obtain ⟨d0, d1⟩ := hX2.cells
            have d5 := f5.cell
            have d6 := f1.cell
            have hq8 := hq.symm ▸ hw8
            clear f1 f2 f3 f4 f5 f6 f7 f8 hX2 hp2 hk2 hr hql HK HP HI hq hw8 HN
            gi_wp2_with fail
            refine ⟨trivial, (CallsIn.inRound l (callsIn_wide.2 K1.out)).mono ?_⟩
            rintro e W3 ⟨rfl, hb3⟩
            clear d0 d1 d5 d6
            obtain ⟨⟨d0, d1⟩, d8, -, -⟩ := FX.out W3 hb3
            have K3 := Lib.hid (K2.out W3 hb3)
            have HB3 := Lib.hid hb3; clear hb3
            clear K1 K2
            gi_wp2_with fail
            refine ⟨trivial, (CallsIn.inRound l (callsIn_wide.2 K3.out)).mono ?_⟩
            rintro e W4 ⟨rfl, hb4⟩
            have hb24 := below_then HB3.out hb4
            clear d0 d1 d8
            obtain ⟨-, -, g1, d2⟩ := FX.out W4 hb24
            have fin : But (fun k => k = kb) W2 (W4.setCell ⟨kb, 0, none⟩ (.int .i64 ((j : Int) + 1))) ∧ I (j + 1) (W4.setCell ⟨kb, 0, none⟩ (.int .i64 ((j : Int) + 1))) := by
              have k := (But.of (X := fun k => k = kb) hb24).trans (But.set W4 kb 0 (.int .i64 ((j : Int) + 1)))
              exact ⟨k, NEXT.out _ _ _ HI2.out k (g1.set _)⟩
            have FIN := Lib.hid fin; clear fin
            have d6 := g1.cell
            have d7 := g1.frozen
            have ne1 : ¬ kb = w.heap.size + 1 := by omega
            have ne2 : ¬ w.heap.size + 1 = kb := by omega
            have hw1 : IntKind.i64.wrap ((j : Int) + 1) = (j : Int) + 1 := IntWalk.i64_in _ (by omega)
            clear g1 hb4 hb24 HB3 K3 FX HI2
            by_cases he : (j : Int) + 1 = z2
            · have h1 : ((j : Int) + 1 == z2) = true := by simpa using he
              have HE := Lib.hid he; clear he
              have HX := Lib.hid hIx; clear hIx
              gi_wp2_with fail
              exact ⟨FIN.out.1, by rw [HX.out]; exact ⟨rfl, by have := HE.out; omega, FIN.out.2⟩⟩
            · have h1 : ((j : Int) + 1 == z2) = false := by simpa using he
              clear he
              have HX := Lib.hid hIx; clear hIx
              gi_wp2_with fail
              exact FIN.out
          case done =>
            clear hseq I0 hIx
            intro d j W hd hj hi hdf
            obtain ⟨f1, f2, f3, f4, f5, f6, f7, f8⟩ := KEEP.out _ _ hi
            obtain rfl : j = n' := by have := HPL.out; omega
            have d5 := f5.cell
            have d6 := f1.cell
            have d2 := f3.cell
            have G4 := Lib.hid f4
            have G8 := Lib.hid f8
            have HDF := Lib.hid hdf
            clear hi hj hdf f1 f2 f3 f4 f5 f6 f7 f8
            have h2 : ((j : Int) == (j : Int)) = true := by simp
            by_cases he : (j : Int) = z2
            · have h1 : ((j : Int) == z2) = true := by simpa using he
              clear he
              go_wp2_with fail
              refine (HAW.out _).mono ?_
              rintro e w9 ⟨rfl, hb9⟩
              have r4 : Boxed w9 (w.heap.size + 1 + 1) 4 (.bool false) := (hb9.block _ G4.out.lt).trans G4.out
              have rK : w9.heap[d]? = some (.deferred (some [])) := (hb9.block _ (Array.getElem?_eq_some_iff.1 HDF.out).1).trans HDF.out
              have rB : Below w.heap.size w w9 := below_then G8.out hb9
              clear d5 d2 d6 hb9
              have g4 := r4.cell
              have gf := r4.frozen
              have R4 := Lib.hid r4; clear r4
              have RK := Lib.hid rK; clear rK
              have RB := Lib.hid rB; clear rB
              go_wp2_with fail
              have hK2 : (w9.setCell ⟨w.heap.size + 1 + 1, 0, none⟩ (.bool true)).heap[d]? = some (.deferred (some [])) := (Below.heap_setCell w9 _ _ _ (by show ¬ d = w.heap.size + 1 + 1; omega)).trans RK.out
              refine ⟨by simp, .inl ⟨_, _, rfl, run_takeDeferred hK2, ?_⟩⟩
              have k2 := ((But.put (w9.setCell ⟨w.heap.size + 1 + 1, 0, none⟩ (.bool true)) d (.deferred none)).box (R4.out.set (.bool true)) (by omega)).cell
              refine ⟨.bool true, ?_, rfl, (RB.out.setCell (p := ⟨w.heap.size + 1 + 1, 0, none⟩) (by simp; omega) _).trans ((But.put _ d _).below (by have := (Array.getElem?_eq_some_iff.1 hK2).1; omega) (fun k e => by omega))⟩
              simp [results, Try.f5, go_sem, k2]
            · have h1 : ((j : Int) == z2) = false := by simpa using he
              clear he
              go_wp2_with fail
              refine (HAW.out _).mono ?_
              rintro e w9 ⟨rfl, hb9⟩
              have r4 : Boxed w9 (w.heap.size + 1 + 1) 4 (.bool false) := (hb9.block _ G4.out.lt).trans G4.out
              have rK : w9.heap[d]? = some (.deferred (some [])) := (hb9.block _ (Array.getElem?_eq_some_iff.1 HDF.out).1).trans HDF.out
              have rB : Below w.heap.size w w9 := below_then G8.out hb9
              clear d5 d2 d6 hb9
              have g4 := r4.cell
              have gf := r4.frozen
              have R4 := Lib.hid r4; clear r4
              have RK := Lib.hid rK; clear rK
              have RB := Lib.hid rB; clear rB
              go_wp2_with fail
              have hK2 : (w9.setCell ⟨w.heap.size + 1 + 1, 0, none⟩ (.bool true)).heap[d]? = some (.deferred (some [])) := (Below.heap_setCell w9 _ _ _ (by show ¬ d = w.heap.size + 1 + 1; omega)).trans RK.out
              refine ⟨by simp, .inl ⟨_, _, rfl, run_takeDeferred hK2, ?_⟩⟩
              have k2 := ((But.put (w9.setCell ⟨w.heap.size + 1 + 1, 0, none⟩ (.bool true)) d (.deferred none)).box (R4.out.set (.bool true)) (by omega)).cell
              refine ⟨.bool true, ?_, rfl, (RB.out.setCell (p := ⟨w.heap.size + 1 + 1, 0, none⟩) (by simp; omega) _).trans ((But.put _ d _).below (by have := (Array.getElem?_eq_some_iff.1 hK2).1; omega) (fun k e => by omega))⟩
              simp [results, Try.f5, go_sem, k2]
          case stop =>
            clear hseq I0
            rintro d cc j W hd hix hdf
            rw [hIx] at hix
            obtain ⟨rfl, he, hi⟩ := hix
            obtain ⟨f1, f2, f3, f4, f5, f6, f7, f8⟩ := KEEP.out _ _ hi
            have d5 := f5.cell
            have d6 := f1.cell
            have d2 := f3.cell
            have G4 := Lib.hid f4
            have G8 := Lib.hid f8
            have HDF := Lib.hid hdf
            clear hi hdf f1 f2 f3 f4 f5 f6 f7 f8 hIx
            have h1 : ((j : Int) == z2) = true := by simpa using he
            clear he
            refine wpIn_wide.2 ?_
            go_wp2_with fail
            refine (HAW.out _).mono ?_
            rintro e w9 ⟨rfl, hb9⟩
            have r4 : Boxed w9 (w.heap.size + 1 + 1) 4 (.bool false) := (hb9.block _ G4.out.lt).trans G4.out
            have rK : w9.heap[d]? = some (.deferred (some [])) := (hb9.block _ (Array.getElem?_eq_some_iff.1 HDF.out).1).trans HDF.out
            have rB : Below w.heap.size w w9 := below_then G8.out hb9
            clear d5 d2 d6 hb9
            have g4 := r4.cell
            have gf := r4.frozen
            have R4 := Lib.hid r4; clear r4
            have RK := Lib.hid rK; clear rK
            have RB := Lib.hid rB; clear rB
            go_wp2_with fail
            have hK2 : (w9.setCell ⟨w.heap.size + 1 + 1, 0, none⟩ (.bool true)).heap[d]? = some (.deferred (some [])) := (Below.heap_setCell w9 _ _ _ (by show ¬ d = w.heap.size + 1 + 1; omega)).trans RK.out
            refine ⟨by simp, .inl ⟨_, _, rfl, run_takeDeferred hK2, ?_⟩⟩
            have k2 := ((But.put (w9.setCell ⟨w.heap.size + 1 + 1, 0, none⟩ (.bool true)) d (.deferred none)).box (R4.out.set (.bool true)) (by omega)).cell
            refine ⟨.bool true, ?_, rfl, (RB.out.setCell (p := ⟨w.heap.size + 1 + 1, 0, none⟩) (by simp; omega) _).trans ((But.put _ d _).below (by have := (Array.getElem?_eq_some_iff.1 hK2).1; omega) (fun k e => by omega))⟩
            simp [results, Try.f5, go_sem, k2]
      · have t3 : decide ((100 : Int) < (y : Int)) = true := decide_eq_true (by omega)
        have t4 : decide (100 < y) = true := decide_eq_true (by omega)
        clear hk hj HMD2
        go_enter Try.func5, Try.ntmps5
        go_wp2_with fail
        rw [← HW3.out]
        refine HSM.out.mono ?_
        rintro e w4 ⟨rfl, b4⟩
        obtain ⟨q0, q1, q2⟩ := K1.out w4 b4
        have r4 : Boxed w4 (w.heap.size + 1 + 1) 4 (.bool false) := (b4.block _ S3.out.lt).trans S3.out
        have R4 := Lib.hid r4; clear r4
        have RB := Lib.hid (below_then HB.out b4); clear b4
        go_wp2_with fail
        refine (HAW.out _).mono ?_
        rintro e w9 ⟨rfl, b9⟩
        have r9 : Boxed w9 (w.heap.size + 1 + 1) 4 (.bool false) := (b9.block _ R4.out.lt).trans R4.out
        have g4 := r9.cell
        have gf := r9.frozen
        have R9 := Lib.hid r9; clear r9
        have RB9 := Lib.hid (below_then RB.out b9); clear b9
        clear q0 q1 q2
        go_wp2_with fail
        have k2 := (R9.out.set (.bool true)).cell
        refine bodyPost_ret (v := .bool true) (by simp [results, Try.f5, go_sem, k2]) rfl ?_
        exact ⟨rfl, RB9.out.setCell (p := ⟨w.heap.size + 1 + 1, 0, none⟩) (by simp; omega) _⟩
    · have t1 : decide ((100 : Int) < (x : Int)) = true := decide_eq_true (by omega)
      have t2 : decide (100 < x) = true := decide_eq_true (by omega)
      clear hk HMD2
      go_enter Try.func5, Try.ntmps5
      go_wp2_with fail
      rw [← HW3.out]
      refine HSM.out.mono ?_
      rintro e w4 ⟨rfl, b4⟩
      obtain ⟨q0, q1, q2⟩ := K1.out w4 b4
      have r4 : Boxed w4 (w.heap.size + 1 + 1) 4 (.bool false) := (b4.block _ S3.out.lt).trans S3.out
      have R4 := Lib.hid r4; clear r4
      have RB := Lib.hid (below_then HB.out b4); clear b4
      go_wp2_with fail
      refine (HAW.out _).mono ?_
      rintro e w9 ⟨rfl, b9⟩
      have r9 : Boxed w9 (w.heap.size + 1 + 1) 4 (.bool false) := (b9.block _ R4.out.lt).trans R4.out
      have g4 := r9.cell
      have gf := r9.frozen
      have R9 := Lib.hid r9; clear r9
      have RB9 := Lib.hid (below_then RB.out b9); clear b9
      clear q0 q1 q2
      go_wp2_with fail
      have k2 := (R9.out.set (.bool true)).cell
      refine bodyPost_ret (v := .bool true) (by simp [results, Try.f5, go_sem, k2]) rfl ?_
      exact ⟨rfl, RB9.out.setCell (p := ⟨w.heap.size + 1 + 1, 0, none⟩) (by simp; omega) _⟩
/-! ### THE ROW's STEP -/
set_option maxRecDepth 100000 in
theorem lifted (os : Os) (started : os.Started) (H : Type) (enc : TypeId × Value → H) :
    ReturnsInHanded {} Try.checked os 5 .any (Rows.walkDownSpec.pre6 enc Try.prog Try.f5 Rows.walkDownRow.domain false) (Rows.walkDownSpec.post enc Try.prog Try.f5 false true false false) := by
  refine returnsInHanded_of_change (C := Try.checked) own started (by kernel_rfl) Try.func5
    (ChangeSpec.witness6 (enc := enc) (C := Try.checked) false ⟨#[], #[.slice none 0 0, .agg #[.slice none 0 0, .slice none 0 0, .bool false], .int .i64 0], []⟩ 8 (by kernel_rfl) (by kernel_rfl) (by kernel_rfl) (by kernel_rfl)) ?_
  intro W base args ds gs before hval0 hW hcnd _
  have hval : ∀ (j : Nat) t v, Try.f5.params[j]? = some t → args[j]? = some v → Value.okWide Try.prog W .any base t v := hval0
  have hW' := hW
  obtain ⟨p, q, hA0, hV, rfl, hfz, hnd⟩ := hW
  have hA : DataW.TrodAll enc Try.prog W 0 (fun _ => true) true Try.f5.params.toList args.toList ds p := hA0
  rw [Try.params5] at hA hval
  obtain ⟨v0, vs0, d0, ds0, p0, q0, hargs, rfl, rfl, h0, r0⟩ := trodAll_cons hA
  obtain ⟨v1, vs1, d1, ds1, p1, q1, rfl, rfl, rfl, h1, r1⟩ := trodAll_cons r0
  obtain ⟨v2, vs2, d2, ds2, p2, q2, rfl, rfl, rfl, h2, r2⟩ := trodAll_cons r1
  obtain ⟨rfl, rfl, rfl⟩ := trodAll_nil r2
  obtain rfl : args = #[v0, v1, v2] := by cases args; simp_all
  obtain ⟨rfl, rfl⟩ := trodVars_none hV
  have lt0 : ∀ x ∈ p0, x.block < W.heap.size := by obtain ⟨m, hm⟩ := h0; exact DataW.trod_lt m _ _ _ hm
  have ok0 := hval 0 22 v0 rfl rfl
  have lt1 : ∀ x ∈ p1, x.block < W.heap.size := by obtain ⟨m, hm⟩ := h1; exact DataW.trod_lt m _ _ _ hm
  have ok1 := hval 1 48 v1 rfl rfl
  have lt2 : ∀ x ∈ p2, x.block < W.heap.size := by obtain ⟨m, hm⟩ := h2; exact DataW.trod_lt m _ _ _ hm
  have ok2 := hval 2 3 v2 rfl rfl
  clear hA0 hval0 hval
  obtain ⟨A0, c0, L0, rfl, hc0, hm0, ha0⟩ := ops_in ok0 h0
  obtain ⟨F1, T1, fc1, tc1, fr1, to1, cl1, rfl, hf1, ht1, hs1⟩ := span_in ok1 h1
  obtain ⟨z2, rfl, hl2, hu2⟩ := int_in ok2 h2
  refine (walk W hc0 hm0 ha0 hf1 ht1 hs1 hl2 hu2).mono fun e W' ⟨he, bel⟩ => ?_
  subst he
  exact ⟨_, rfl, _, _, _, [], _, [], hW', trodAll_mk1 (shut_bool Try.underlying4 _), (trodAll_cons_mk (Below.trod laidOut (by kernel_rfl) (of_decide_eq_true (by kernel_rfl)) h0 bel lt0) (trodAll_cons_mk (Below.trod laidOut (by kernel_rfl) (of_decide_eq_true (by kernel_rfl)) h1 bel lt1) (trodAll_cons_mk (Below.trod laidOut (by kernel_rfl) (of_decide_eq_true (by kernel_rfl)) h2 bel lt2) trodAll_mk0))), rfl, bel.frame _, fun h => by cases h⟩

theorem over : Rows.walkDownRow.holds Try.pinned (OpenSpec.ofChange Rows.walkDownSpec) :=
  OpenClaim.holds_of_wide 5 Try.f5 rfl rfl rfl rfl rfl rfl rfl ⟨rfl, rfl, rfl, rfl, rfl⟩ rfl rfl rfl rfl rfl (by kernel_rfl) Try.func5 (by kernel_rfl)
    (of_decide_eq_true (by kernel_rfl)) (by unfold Func.isWrapper; first | (rw [if_pos (by decide +kernel)]; kernel_rfl) | (rw [if_neg (by decide +kernel)]; exact ⟨rfl, rfl⟩))
    (fun os started H enc _ => lifted os started H enc)

/-- ████ THE STATEMENT ████ -/
theorem proved : Rows.WalkDownSaid := over
#print axioms proved
end Go.Proofs.Ytkcfanckkomdbaa.walkDown
