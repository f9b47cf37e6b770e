/-
  KeysSpans: for every input the law answers true and leaves its arguments as they were: the walk is typed by hand, the row's step is the guide's template.
  Conditions: none beside the row's own.
-/
import Derived.Test.YtinhoglljadjgaaMade
import Derived.Lib.SmallJoins
import Derived.Test.YtinhoglljadjgaaRows
import Derived.WalkKit
import Derived.ProofKit
import Derived.OpenShut
import Derived.ShutString
import Derived.ChangeOld
import Derived.Below
namespace Go.Proofs.Ytinhoglljadjgaa.keysSpans
open Go.Joins Go.ChangeShapes Go.WideShapes Go.ChangeAt Go.RowKit
open Go.ChangeMaps (open_string shut_string)
set_option linter.unusedVariables false
set_option linter.unusedSimpArgs false

theorem own : ownKnob Try.prog.godebug = none := by kernel_rfl
theorem laidOut : laidOutB Try.prog = true := by kernel_rfl

/-- WHAT THE WALK IS TOLD OF A SLICE OF INTEGERS THAT CAME IN: it is nil; or it leads to a row of 'cap' cells, the numbers 'zs' (the first 'len' are its elements, the rest its spare room), each fitting its kind. -/
def IsRow (k : IntKind) (w : World) (a : Option Addr) (len cap : Nat) (zs : List Int) : Prop :=
  (a = none ∧ len = 0 ∧ cap = 0 ∧ zs = []) ∨
  ∃ x, a = some x ∧ len ≤ cap ∧ cap ≤ maxLen ∧ zs.length = cap ∧ (∀ i, i < zs.length → w.cell? (x.add i) = some (.int k (zs.getD i 0))) ∧ ∀ n ∈ zs, (Lit.int k n).wf = true

theorem lt_of_cell {w : World} {b i : Nat} {v : Value} (h : w.cell? ⟨b, i, none⟩ = some v) : b < w.heap.size := by
  rcases Nat.lt_or_ge b w.heap.size with hlt | hge
  · exact hlt
  · simp [World.cell?, Array.getElem?_eq_none hge] at h
theorem bts_of_row {w : World} {a : Option Addr} {len cap : Nat} {zs : List Int} (h : IsRow .u8 w a len cap zs) : ∃ l : List UInt8, l.length = len ∧ len ≤ cap ∧ (a = none → cap = 0) ∧ Bts w a l := by
  rcases h with ⟨rfl, rfl, rfl, rfl⟩ | ⟨x, rfl, h1, _, h3, h4, h5⟩
  · exact ⟨[], rfl, Nat.le_refl _, fun _ => rfl, .inl rfl⟩
  · refine ⟨(zs.take len).map (fun n => UInt8.ofNat n.toNat), by simp; omega, h1, (fun e => by cases e), ?_⟩
    rcases Nat.eq_zero_or_pos len with h0 | h0
    · left; subst h0; simp
    · right
      obtain ⟨b, off, rfl, hc⟩ := ints_at h4 (by omega)
      have hlt : b < w.heap.size := lt_of_cell (hc 0 (by omega))
      refine ⟨b, off, rfl, hlt, fun i hi => ?_⟩
      simp at hi
      rw [hc i (by omega)]
      have hwf := bounds_u8 (h5 (zs.getD i 0) (by rw [List.getD_eq_getElem?_getD, List.getElem?_eq_getElem (by omega)]; simp))
      congr 2
      have hi2 : i < zs.length := by omega
      rw [List.getElem_map, List.getElem_take, UInt8.toNat_ofNat']
      rw [List.getD_eq_getElem?_getD, List.getElem?_eq_getElem hi2] at hwf ⊢
      simp only [Option.getD_some] at hwf ⊢
      omega
/-! ### STEP 1: THE WALK -/
theorem small4' (w : World) (o : Obj) (A : Option Addr) (n c : Nat) (B : Option Addr) (m d : Nat) (C : Option Addr) (k e : Nat) (D : Option Addr) (j f : Nat) :
    Calls Try.prog 8 #[.slice (some ⟨w.heap.size + 1, 0, none⟩) 4 4] ((w.alloc o).alloc (.cells #[.slice A n c, .slice B m d, .slice C k e, .slice D j f] 22)) fun e' w' => e' = .returned (.bool (decide (n ≤ 200) && (decide (m ≤ 200) && (decide (k ≤ 200) && decide (j ≤ 200))))) ∧ (w.alloc o).alloc (.cells #[.slice A n c, .slice B m d, .slice C k e, .slice D j f] 22) = w' := by
  have h := small4 (w.alloc o) A n c B m d C k e D j f
  have h2 : (w.alloc o).heap.size = w.heap.size + 1 := by simp
  rw [h2] at h
  exact h
set_option maxHeartbeats 4000000 in
theorem walk (aF : Option Addr) (lenF capF : Nat) (zF : List Int) (aT : Option Addr) (lenT capT : Nat) (zT : List Int) (cl : Bool) (a1 : Option Addr) (len1 cap1 : Nat) (z1 : List Int) (a2 : Option Addr) (len2 cap2 : Nat) (z2 : List Int) (w : World)
    (wF : IsRow .u8 w aF lenF capF zF) (wT : IsRow .u8 w aT lenT capT zT) (w1 : IsRow .u8 w a1 len1 cap1 z1) (w2 : IsRow .u8 w a2 len2 cap2 z2) :
    Calls Try.prog 7 #[span aF lenF capF aT lenT capT cl, .slice a1 len1 cap1, .slice a2 len2 cap2] w fun e w' => e = .returned (.bool true) ∧ Below w.heap.size w w' := by
  obtain ⟨f, hf, _, _, hbF⟩ := bts_of_row wF
  obtain ⟨t, ht, _, _, hbT⟩ := bts_of_row wT
  obtain ⟨p, hp, _, _, hbP⟩ := bts_of_row w1
  obtain ⟨k, hk, hkc, hka, hbK⟩ := bts_of_row w2
  clear wF wT w1 w2
  subst hf ht hp hk
  have hsm := small4' w (.cells #[.slice aF f.length capF, .slice aT t.length capT, .bool cl] 35) aF f.length capF aT t.length capT a1 p.length cap1 a2 k.length cap2
  have hal : Below w.heap.size w ((w.alloc (.cells #[.slice aF f.length capF, .slice aT t.length capT, .bool cl] 35)).alloc (.cells #[.slice aF f.length capF, .slice aT t.length capT, .slice a1 p.length cap1, .slice a2 k.length cap2] 22)) := ((Below.refl _ _).alloc (Nat.le_refl _) _).alloc (by simp) _
  have hrow : ((w.alloc (.cells #[.slice aF f.length capF, .slice aT t.length capT, .bool cl] 35)).alloc (.cells #[.slice aF f.length capF, .slice aT t.length capT, .slice a1 p.length cap1, .slice a2 k.length cap2] 22)).heap[w.heap.size]? = some (.cells #[.slice aF f.length capF, .slice aT t.length capT, .bool cl] 35 (0, 0)) := by
    rw [Below.heap_alloc _ _ _ (by simp)]
    exact heap_alloc_new w _
  have hbF := hbF.below hal
  have hbT := hbT.below hal
  have hbP := hbP.below hal
  have hbK := hbK.below hal
  obtain ⟨W, hW⟩ : ∃ W, W = (w.alloc (.cells #[.slice aF f.length capF, .slice aT t.length capT, .bool cl] 35)).alloc (.cells #[.slice aF f.length capF, .slice aT t.length capT, .slice a1 p.length cap1, .slice a2 k.length cap2] 22) := ⟨_, rfl⟩
  rw [← hW] at hsm hal hbF hbT hbP hbK hrow
  have hcell : ∀ X, Below W.heap.size W X → X.cell? ⟨w.heap.size, 0, none⟩ = some (.slice aF f.length capF) ∧ X.cell? ⟨w.heap.size, 1, none⟩ = some (.slice aT t.length capT) ∧ X.cell? ⟨w.heap.size, 2, none⟩ = some (.bool cl) := by
    intro X hX
    have h2 : X.heap[w.heap.size]? = some (.cells #[.slice aF f.length capF, .slice aT t.length capT, .bool cl] 35 (0, 0)) := by
      rw [hX.block _ (Array.getElem?_eq_some_iff.1 hrow).1]
      exact hrow
    exact ⟨by rw [cell_of_row X _ 0 _ 35 _ h2]; rfl, by rw [cell_of_row X _ 1 _ 35 _ h2]; rfl, by rw [cell_of_row X _ 2 _ 35 _ h2]; rfl⟩
  have HAL := Lib.hid hal; clear hal
  have HW := Lib.hid hW; clear hW
  have HCELL := Lib.hid hcell; clear hcell
  have haw := awake_any W
  have HAW := Lib.hid haw; clear haw
  clear hrow
  by_cases hs : f.length ≤ 200 ∧ t.length ≤ 200 ∧ p.length ≤ 200 ∧ k.length ≤ 200
  · obtain ⟨hs1, hs2, hs3, hs4⟩ := hs
    simp only [hs1, hs2, hs3, hs4, decide_true, Bool.and_self] at hsm
    have HSM := Lib.hid hsm; clear hsm
    have hck := fun X (hX : Below W.heap.size W X) => conv_any (hbK.below hX) cap2
    have hcf := fun X (hX : Below W.heap.size W X) => conv_any (hbF.below hX) capF
    have hct := fun X (hX : Below W.heap.size W X) => conv_any (hbT.below hX) capT
    have hcp := fun X (hX : Below W.heap.size W X) => conv_any (hbP.below hX) cap1
    have hlkf := fun X => less_any ⟨k.toArray⟩ ⟨f.toArray⟩ X (by simp [ByteArray.size]; omega) (by simp [ByteArray.size]; omega)
    have hlkt := fun X => less_any ⟨k.toArray⟩ ⟨t.toArray⟩ X (by simp [ByteArray.size]; omega) (by simp [ByteArray.size]; omega)
    have hlft := fun X => less_any ⟨f.toArray⟩ ⟨t.toArray⟩ X (by simp [ByteArray.size]; omega) (by simp [ByteArray.size]; omega)
    have hrb := fun X => refBegins_any ⟨k.toArray⟩ ⟨p.toArray⟩ X (by simp [ByteArray.size]; omega) (by simp [ByteArray.size]; omega)
    simp only [] at hlkf hlkt hlft hrb
    obtain ⟨sk, hsk⟩ : ∃ s : ByteArray, s = ⟨k.toArray⟩ := ⟨_, rfl⟩
    obtain ⟨sf, hsf⟩ : ∃ s : ByteArray, s = ⟨f.toArray⟩ := ⟨_, rfl⟩
    obtain ⟨st, hst⟩ : ∃ s : ByteArray, s = ⟨t.toArray⟩ := ⟨_, rfl⟩
    obtain ⟨sp, hsp⟩ : ∃ s : ByteArray, s = ⟨p.toArray⟩ := ⟨_, rfl⟩
    simp only [← hsk] at hck hlkf hlkt hrb
    simp only [← hsf] at hcf hlkf hlft
    simp only [← hst] at hct hlkt hlft
    simp only [← hsp] at hcp hrb
    have hhas := fun X (hX : Below W.heap.size W X) => has_any (hbF.below hX) (hbT.below hX) (hbK.below hX) capF capT cap2 cl
    have hhasf := fun X (hX : Below W.heap.size W X) => has_any (hbF.below hX) (hbT.below hX) (hbF.below hX) capF capT capF cl
    have hemp := fun X (hX : Below W.heap.size W X) => empty_any (hbF.below hX) (hbT.below hX) capF capT cl
    have hbeg := fun X (hX : Below W.heap.size W X) => begins_any (hbK.below hX) (hbP.below hX) cap2 cap1 hkc hka
    have hof := fun X (hX : Below W.heap.size W X) => of_any (hbP.below hX) cap1 (by omega)
    have hohas : ∀ X F fc T tc, Below W.heap.size W X → Bts X F p → Bts X T ((bh p).getD []) → Calls Try.prog 17 #[span F p.length fc T ((bh p).getD []).length tc (bh p).isSome, .slice a2 k.length cap2] X fun e w' => e = .returned (.bool (p.isPrefixOf k)) ∧ Below X.heap.size X w' := by
      intro X F fc T tc hX hF hT
      have h := has_any hF hT (hbK.below hX) fc tc cap2 (bh p).isSome
      rw [span_of] at h
      exact h
    have hoemp : ∀ X F fc T tc, Bts X F p → Bts X T ((bh p).getD []) → Calls Try.prog 18 #[span F p.length fc T ((bh p).getD []).length tc (bh p).isSome] X fun e w' => e = .returned (.bool false) ∧ Below X.heap.size X w' := by
      intro X F fc T tc hF hT
      have h := empty_any hF hT fc tc (bh p).isSome
      rw [span_full] at h
      exact h
    obtain ⟨bg, hbg⟩ : ∃ b, b = p.isPrefixOf k := ⟨_, rfl⟩
    obtain ⟨q, hq⟩ : ∃ q, q = (bh p).isSome := ⟨_, rfl⟩
    obtain ⟨tl, htl⟩ : ∃ l, l = (bh p).getD [] := ⟨_, rfl⟩
    simp only [← hbg] at hrb hbeg hohas
    simp only [← hq, ← htl] at hof hohas hoemp
    have hA : decide (0 ≤ cmp k f) = !decide (cmp k f < 0) := by
      rw [Bool.eq_iff_iff]; simp
    have hC : decide (cmp t f ≤ 0) = !decide (cmp f t < 0) := by
      have := cmp_turn f t
      rw [Bool.eq_iff_iff]; simp; omega
    have hbw : cl = true → decide (cmp k f < 0) = false → decide (cmp k t < 0) = true → decide (cmp f t < 0) = true := by
      intro _ h1 h2
      simp only [decide_eq_true_eq, decide_eq_false_iff_not] at h1 h2 ⊢
      exact cmp_between (by omega) h2
    have hsf2 := span_some f t cl
    obtain ⟨hf, hhf⟩ : ∃ b, b = inSpan f t cl f := ⟨_, rfl⟩
    simp only [← hhf] at hhasf hsf2
    unfold inSpan at hhas
    unfold noSpan at hemp hsf2
    rw [hC] at hemp hsf2
    rw [hA] at hhas
    obtain ⟨A, hAA⟩ : ∃ b, b = decide (cmp k f < 0) := ⟨_, rfl⟩
    obtain ⟨B, hBB⟩ : ∃ b, b = decide (cmp k t < 0) := ⟨_, rfl⟩
    obtain ⟨C, hCC⟩ : ∃ b, b = decide (cmp f t < 0) := ⟨_, rfl⟩
    simp only [← hAA, ← hBB, ← hCC] at hlkf hlkt hlft hhas hemp hbw hsf2
    have HCK := Lib.hid hck; clear hck
    have HCF := Lib.hid hcf; clear hcf
    have HCT := Lib.hid hct; clear hct
    have HCP := Lib.hid hcp; clear hcp
    have HLKF := Lib.hid hlkf; clear hlkf
    have HLKT := Lib.hid hlkt; clear hlkt
    have HLFT := Lib.hid hlft; clear hlft
    have HRB := Lib.hid hrb; clear hrb
    have HHAS := Lib.hid hhas; clear hhas
    have HHASF := Lib.hid hhasf; clear hhasf
    have HEMP := Lib.hid hemp; clear hemp
    have HBEG := Lib.hid hbeg; clear hbeg
    have HOF := Lib.hid hof; clear hof
    have HOHAS := Lib.hid hohas; clear hohas
    have HOEMP := Lib.hid hoemp; clear hoemp
    clear hsk hsf hst hsp hbg hq htl hA hC hhf hAA hBB hCC hbF hbT hbP hbK hkc hka
    cases A
    · cases cl
      · obtain rfl : hf = true := hsf2 rfl
        clear hsf2 hbw
        simp only [Bool.not_true, Bool.not_false, Bool.true_and, Bool.false_and, Bool.and_true, Bool.and_false, Bool.true_or, Bool.false_or] at HHAS HEMP
        have HB0 := Lib.hid (Below.refl W.heap.size W)
        obtain ⟨c0, c1, c2⟩ := HCELL.out _ HB0.out
        have ck := HCK.out _ HB0.out
        have cf := HCF.out _ HB0.out
        have ct := HCT.out _ HB0.out
        have cp := HCP.out _ HB0.out
        go_enter Try.func7, Try.ntmps7
        go_wp2_with fail
        rw [← HW.out]
        refine HSM.out.mono ?_
        rintro e w' ⟨rfl, rfl⟩
        go_wp2_with fail
        refine (HLKF.out _).mono ?_
        clear c0 c1 c2 ck cf ct cp
        rintro e X1 ⟨rfl, hb⟩
        have hb2 := below_then HB0.out hb
        have HB1 := Lib.hid hb2; clear hb hb2
        obtain ⟨c0, c1, c2⟩ := HCELL.out _ HB1.out
        have ck := HCK.out _ HB1.out
        have cf := HCF.out _ HB1.out
        have ct := HCT.out _ HB1.out
        have cp := HCP.out _ HB1.out
        go_wp2_with fail
        refine (HHAS.out _ HB1.out).mono ?_
        clear c0 c1 c2 ck cf ct cp
        rintro e X2 ⟨rfl, hb⟩
        have hb2 := below_then HB1.out hb
        have HB2 := Lib.hid hb2; clear hb hb2
        obtain ⟨c0, c1, c2⟩ := HCELL.out _ HB2.out
        have ck := HCK.out _ HB2.out
        have cf := HCF.out _ HB2.out
        have ct := HCT.out _ HB2.out
        have cp := HCP.out _ HB2.out
        go_wp2_with fail
        refine (HEMP.out _ HB2.out).mono ?_
        clear c0 c1 c2 ck cf ct cp
        rintro e X3 ⟨rfl, hb⟩
        have hb2 := below_then HB2.out hb
        have HB3 := Lib.hid hb2; clear hb hb2
        obtain ⟨c0, c1, c2⟩ := HCELL.out _ HB3.out
        have ck := HCK.out _ HB3.out
        have cf := HCF.out _ HB3.out
        have ct := HCT.out _ HB3.out
        have cp := HCP.out _ HB3.out
        go_wp2_with fail
        refine (HHASF.out _ HB3.out).mono ?_
        clear c0 c1 c2 ck cf ct cp
        rintro e X4 ⟨rfl, hb⟩
        have hb2 := below_then HB3.out hb
        have HB4 := Lib.hid hb2; clear hb hb2
        obtain ⟨c0, c1, c2⟩ := HCELL.out _ HB4.out
        have ck := HCK.out _ HB4.out
        have cf := HCF.out _ HB4.out
        have ct := HCT.out _ HB4.out
        have cp := HCP.out _ HB4.out
        go_wp2_with fail
        refine (HRB.out _).mono ?_
        clear c0 c1 c2 ck cf ct cp
        rintro e X5 ⟨rfl, hb⟩
        have hb2 := below_then HB4.out hb
        have HB5 := Lib.hid hb2; clear hb hb2
        obtain ⟨c0, c1, c2⟩ := HCELL.out _ HB5.out
        have ck := HCK.out _ HB5.out
        have cf := HCF.out _ HB5.out
        have ct := HCT.out _ HB5.out
        have cp := HCP.out _ HB5.out
        go_wp2_with fail
        refine (HBEG.out _ HB5.out).mono ?_
        clear c0 c1 c2 ck cf ct cp
        rintro e w' ⟨rfl, rfl⟩
        obtain ⟨c0, c1, c2⟩ := HCELL.out _ HB5.out
        have ck := HCK.out _ HB5.out
        have cf := HCF.out _ HB5.out
        have ct := HCT.out _ HB5.out
        have cp := HCP.out _ HB5.out
        go_wp2_with fail
        refine (HOF.out _ HB5.out).mono ?_
        clear c0 c1 c2 ck cf ct cp
        rintro e X6 ⟨F, fc, T, tc, rfl, hF, hT, hb⟩
        have HF := Lib.hid hF; clear hF
        have HT := Lib.hid hT; clear hT
        have hb2 := below_then HB5.out hb
        have HB6 := Lib.hid hb2; clear hb hb2
        obtain ⟨c0, c1, c2⟩ := HCELL.out _ HB6.out
        have ck := HCK.out _ HB6.out
        have cf := HCF.out _ HB6.out
        have ct := HCT.out _ HB6.out
        have cp := HCP.out _ HB6.out
        go_wp2_with fail
        refine (HOHAS.out _ F fc T tc HB6.out HF.out HT.out).mono ?_
        clear c0 c1 c2 ck cf ct cp
        rintro e X7 ⟨rfl, hb⟩
        have hb2 := below_then HB6.out hb
        have HB7 := Lib.hid hb2; clear hb hb2
        obtain ⟨c0, c1, c2⟩ := HCELL.out _ HB7.out
        have ck := HCK.out _ HB7.out
        have cf := HCF.out _ HB7.out
        have ct := HCT.out _ HB7.out
        have cp := HCP.out _ HB7.out
        clear HF HT
        go_wp2_with fail
        refine (HOF.out _ HB7.out).mono ?_
        clear c0 c1 c2 ck cf ct cp
        rintro e X8 ⟨F2, fc2, T2, tc2, rfl, hF, hT, hb⟩
        have HF := Lib.hid hF; clear hF
        have HT := Lib.hid hT; clear hT
        have hb2 := below_then HB7.out hb
        have HB8 := Lib.hid hb2; clear hb hb2
        obtain ⟨c0, c1, c2⟩ := HCELL.out _ HB8.out
        have ck := HCK.out _ HB8.out
        have cf := HCF.out _ HB8.out
        have ct := HCT.out _ HB8.out
        have cp := HCP.out _ HB8.out
        go_wp2_with fail
        refine (HOEMP.out _ F2 fc2 T2 tc2 HF.out HT.out).mono ?_
        clear c0 c1 c2 ck cf ct cp
        rintro e X9 ⟨rfl, hb⟩
        have hb2 := below_then HB8.out hb
        have HB9 := Lib.hid hb2; clear hb hb2
        obtain ⟨c0, c1, c2⟩ := HCELL.out _ HB9.out
        have ck := HCK.out _ HB9.out
        have cf := HCF.out _ HB9.out
        have ct := HCT.out _ HB9.out
        have cp := HCP.out _ HB9.out
        go_wp2_with fail
        refine (awake_any _).mono ?_
        rintro e X99 ⟨rfl, hb⟩
        have hb2 := below_then HB9.out hb
        have HB99 := Lib.hid hb2; clear hb hb2
        go_wp2_with fail
        go_ret
        exact ⟨rfl, below_then HAL.out HB99.out⟩
      · cases B <;> cases C
        · clear hsf2 hbw
          simp only [Bool.not_true, Bool.not_false, Bool.true_and, Bool.false_and, Bool.and_true, Bool.and_false, Bool.true_or, Bool.false_or] at HHAS HEMP
          have HB0 := Lib.hid (Below.refl W.heap.size W)
          obtain ⟨c0, c1, c2⟩ := HCELL.out _ HB0.out
          have ck := HCK.out _ HB0.out
          have cf := HCF.out _ HB0.out
          have ct := HCT.out _ HB0.out
          have cp := HCP.out _ HB0.out
          go_enter Try.func7, Try.ntmps7
          go_wp2_with fail
          rw [← HW.out]
          refine HSM.out.mono ?_
          rintro e w' ⟨rfl, rfl⟩
          go_wp2_with fail
          refine (HLKF.out _).mono ?_
          clear c0 c1 c2 ck cf ct cp
          rintro e X1 ⟨rfl, hb⟩
          have hb2 := below_then HB0.out hb
          have HB1 := Lib.hid hb2; clear hb hb2
          obtain ⟨c0, c1, c2⟩ := HCELL.out _ HB1.out
          have ck := HCK.out _ HB1.out
          have cf := HCF.out _ HB1.out
          have ct := HCT.out _ HB1.out
          have cp := HCP.out _ HB1.out
          go_wp2_with fail
          refine (HLKT.out _).mono ?_
          clear c0 c1 c2 ck cf ct cp
          rintro e X2 ⟨rfl, hb⟩
          have hb2 := below_then HB1.out hb
          have HB2 := Lib.hid hb2; clear hb hb2
          obtain ⟨c0, c1, c2⟩ := HCELL.out _ HB2.out
          have ck := HCK.out _ HB2.out
          have cf := HCF.out _ HB2.out
          have ct := HCT.out _ HB2.out
          have cp := HCP.out _ HB2.out
          go_wp2_with fail
          refine (HLFT.out _).mono ?_
          clear c0 c1 c2 ck cf ct cp
          rintro e X3 ⟨rfl, hb⟩
          have hb2 := below_then HB2.out hb
          have HB3 := Lib.hid hb2; clear hb hb2
          obtain ⟨c0, c1, c2⟩ := HCELL.out _ HB3.out
          have ck := HCK.out _ HB3.out
          have cf := HCF.out _ HB3.out
          have ct := HCT.out _ HB3.out
          have cp := HCP.out _ HB3.out
          go_wp2_with fail
          refine (HHAS.out _ HB3.out).mono ?_
          clear c0 c1 c2 ck cf ct cp
          rintro e X4 ⟨rfl, hb⟩
          have hb2 := below_then HB3.out hb
          have HB4 := Lib.hid hb2; clear hb hb2
          obtain ⟨c0, c1, c2⟩ := HCELL.out _ HB4.out
          have ck := HCK.out _ HB4.out
          have cf := HCF.out _ HB4.out
          have ct := HCT.out _ HB4.out
          have cp := HCP.out _ HB4.out
          go_wp2_with fail
          refine (HEMP.out _ HB4.out).mono ?_
          clear c0 c1 c2 ck cf ct cp
          rintro e X5 ⟨rfl, hb⟩
          have hb2 := below_then HB4.out hb
          have HB5 := Lib.hid hb2; clear hb hb2
          obtain ⟨c0, c1, c2⟩ := HCELL.out _ HB5.out
          have ck := HCK.out _ HB5.out
          have cf := HCF.out _ HB5.out
          have ct := HCT.out _ HB5.out
          have cp := HCP.out _ HB5.out
          go_wp2_with fail
          refine (HRB.out _).mono ?_
          clear c0 c1 c2 ck cf ct cp
          rintro e X6 ⟨rfl, hb⟩
          have hb2 := below_then HB5.out hb
          have HB6 := Lib.hid hb2; clear hb hb2
          obtain ⟨c0, c1, c2⟩ := HCELL.out _ HB6.out
          have ck := HCK.out _ HB6.out
          have cf := HCF.out _ HB6.out
          have ct := HCT.out _ HB6.out
          have cp := HCP.out _ HB6.out
          go_wp2_with fail
          refine (HBEG.out _ HB6.out).mono ?_
          clear c0 c1 c2 ck cf ct cp
          rintro e w' ⟨rfl, rfl⟩
          obtain ⟨c0, c1, c2⟩ := HCELL.out _ HB6.out
          have ck := HCK.out _ HB6.out
          have cf := HCF.out _ HB6.out
          have ct := HCT.out _ HB6.out
          have cp := HCP.out _ HB6.out
          go_wp2_with fail
          refine (HOF.out _ HB6.out).mono ?_
          clear c0 c1 c2 ck cf ct cp
          rintro e X7 ⟨F, fc, T, tc, rfl, hF, hT, hb⟩
          have HF := Lib.hid hF; clear hF
          have HT := Lib.hid hT; clear hT
          have hb2 := below_then HB6.out hb
          have HB7 := Lib.hid hb2; clear hb hb2
          obtain ⟨c0, c1, c2⟩ := HCELL.out _ HB7.out
          have ck := HCK.out _ HB7.out
          have cf := HCF.out _ HB7.out
          have ct := HCT.out _ HB7.out
          have cp := HCP.out _ HB7.out
          go_wp2_with fail
          refine (HOHAS.out _ F fc T tc HB7.out HF.out HT.out).mono ?_
          clear c0 c1 c2 ck cf ct cp
          rintro e X8 ⟨rfl, hb⟩
          have hb2 := below_then HB7.out hb
          have HB8 := Lib.hid hb2; clear hb hb2
          obtain ⟨c0, c1, c2⟩ := HCELL.out _ HB8.out
          have ck := HCK.out _ HB8.out
          have cf := HCF.out _ HB8.out
          have ct := HCT.out _ HB8.out
          have cp := HCP.out _ HB8.out
          clear HF HT
          go_wp2_with fail
          refine (HOF.out _ HB8.out).mono ?_
          clear c0 c1 c2 ck cf ct cp
          rintro e X9 ⟨F2, fc2, T2, tc2, rfl, hF, hT, hb⟩
          have HF := Lib.hid hF; clear hF
          have HT := Lib.hid hT; clear hT
          have hb2 := below_then HB8.out hb
          have HB9 := Lib.hid hb2; clear hb hb2
          obtain ⟨c0, c1, c2⟩ := HCELL.out _ HB9.out
          have ck := HCK.out _ HB9.out
          have cf := HCF.out _ HB9.out
          have ct := HCT.out _ HB9.out
          have cp := HCP.out _ HB9.out
          go_wp2_with fail
          refine (HOEMP.out _ F2 fc2 T2 tc2 HF.out HT.out).mono ?_
          clear c0 c1 c2 ck cf ct cp
          rintro e X10 ⟨rfl, hb⟩
          have hb2 := below_then HB9.out hb
          have HB10 := Lib.hid hb2; clear hb hb2
          obtain ⟨c0, c1, c2⟩ := HCELL.out _ HB10.out
          have ck := HCK.out _ HB10.out
          have cf := HCF.out _ HB10.out
          have ct := HCT.out _ HB10.out
          have cp := HCP.out _ HB10.out
          go_wp2_with fail
          refine (awake_any _).mono ?_
          rintro e X99 ⟨rfl, hb⟩
          have hb2 := below_then HB10.out hb
          have HB99 := Lib.hid hb2; clear hb hb2
          go_wp2_with fail
          go_ret
          exact ⟨rfl, below_then HAL.out HB99.out⟩
        · obtain rfl : hf = true := hsf2 rfl
          clear hsf2 hbw
          simp only [Bool.not_true, Bool.not_false, Bool.true_and, Bool.false_and, Bool.and_true, Bool.and_false, Bool.true_or, Bool.false_or] at HHAS HEMP
          have HB0 := Lib.hid (Below.refl W.heap.size W)
          obtain ⟨c0, c1, c2⟩ := HCELL.out _ HB0.out
          have ck := HCK.out _ HB0.out
          have cf := HCF.out _ HB0.out
          have ct := HCT.out _ HB0.out
          have cp := HCP.out _ HB0.out
          go_enter Try.func7, Try.ntmps7
          go_wp2_with fail
          rw [← HW.out]
          refine HSM.out.mono ?_
          rintro e w' ⟨rfl, rfl⟩
          go_wp2_with fail
          refine (HLKF.out _).mono ?_
          clear c0 c1 c2 ck cf ct cp
          rintro e X1 ⟨rfl, hb⟩
          have hb2 := below_then HB0.out hb
          have HB1 := Lib.hid hb2; clear hb hb2
          obtain ⟨c0, c1, c2⟩ := HCELL.out _ HB1.out
          have ck := HCK.out _ HB1.out
          have cf := HCF.out _ HB1.out
          have ct := HCT.out _ HB1.out
          have cp := HCP.out _ HB1.out
          go_wp2_with fail
          refine (HLKT.out _).mono ?_
          clear c0 c1 c2 ck cf ct cp
          rintro e X2 ⟨rfl, hb⟩
          have hb2 := below_then HB1.out hb
          have HB2 := Lib.hid hb2; clear hb hb2
          obtain ⟨c0, c1, c2⟩ := HCELL.out _ HB2.out
          have ck := HCK.out _ HB2.out
          have cf := HCF.out _ HB2.out
          have ct := HCT.out _ HB2.out
          have cp := HCP.out _ HB2.out
          go_wp2_with fail
          refine (HLFT.out _).mono ?_
          clear c0 c1 c2 ck cf ct cp
          rintro e X3 ⟨rfl, hb⟩
          have hb2 := below_then HB2.out hb
          have HB3 := Lib.hid hb2; clear hb hb2
          obtain ⟨c0, c1, c2⟩ := HCELL.out _ HB3.out
          have ck := HCK.out _ HB3.out
          have cf := HCF.out _ HB3.out
          have ct := HCT.out _ HB3.out
          have cp := HCP.out _ HB3.out
          go_wp2_with fail
          refine (HHAS.out _ HB3.out).mono ?_
          clear c0 c1 c2 ck cf ct cp
          rintro e X4 ⟨rfl, hb⟩
          have hb2 := below_then HB3.out hb
          have HB4 := Lib.hid hb2; clear hb hb2
          obtain ⟨c0, c1, c2⟩ := HCELL.out _ HB4.out
          have ck := HCK.out _ HB4.out
          have cf := HCF.out _ HB4.out
          have ct := HCT.out _ HB4.out
          have cp := HCP.out _ HB4.out
          go_wp2_with fail
          refine (HEMP.out _ HB4.out).mono ?_
          clear c0 c1 c2 ck cf ct cp
          rintro e X5 ⟨rfl, hb⟩
          have hb2 := below_then HB4.out hb
          have HB5 := Lib.hid hb2; clear hb hb2
          obtain ⟨c0, c1, c2⟩ := HCELL.out _ HB5.out
          have ck := HCK.out _ HB5.out
          have cf := HCF.out _ HB5.out
          have ct := HCT.out _ HB5.out
          have cp := HCP.out _ HB5.out
          go_wp2_with fail
          refine (HHASF.out _ HB5.out).mono ?_
          clear c0 c1 c2 ck cf ct cp
          rintro e X6 ⟨rfl, hb⟩
          have hb2 := below_then HB5.out hb
          have HB6 := Lib.hid hb2; clear hb hb2
          obtain ⟨c0, c1, c2⟩ := HCELL.out _ HB6.out
          have ck := HCK.out _ HB6.out
          have cf := HCF.out _ HB6.out
          have ct := HCT.out _ HB6.out
          have cp := HCP.out _ HB6.out
          go_wp2_with fail
          refine (HRB.out _).mono ?_
          clear c0 c1 c2 ck cf ct cp
          rintro e X7 ⟨rfl, hb⟩
          have hb2 := below_then HB6.out hb
          have HB7 := Lib.hid hb2; clear hb hb2
          obtain ⟨c0, c1, c2⟩ := HCELL.out _ HB7.out
          have ck := HCK.out _ HB7.out
          have cf := HCF.out _ HB7.out
          have ct := HCT.out _ HB7.out
          have cp := HCP.out _ HB7.out
          go_wp2_with fail
          refine (HBEG.out _ HB7.out).mono ?_
          clear c0 c1 c2 ck cf ct cp
          rintro e w' ⟨rfl, rfl⟩
          obtain ⟨c0, c1, c2⟩ := HCELL.out _ HB7.out
          have ck := HCK.out _ HB7.out
          have cf := HCF.out _ HB7.out
          have ct := HCT.out _ HB7.out
          have cp := HCP.out _ HB7.out
          go_wp2_with fail
          refine (HOF.out _ HB7.out).mono ?_
          clear c0 c1 c2 ck cf ct cp
          rintro e X8 ⟨F, fc, T, tc, rfl, hF, hT, hb⟩
          have HF := Lib.hid hF; clear hF
          have HT := Lib.hid hT; clear hT
          have hb2 := below_then HB7.out hb
          have HB8 := Lib.hid hb2; clear hb hb2
          obtain ⟨c0, c1, c2⟩ := HCELL.out _ HB8.out
          have ck := HCK.out _ HB8.out
          have cf := HCF.out _ HB8.out
          have ct := HCT.out _ HB8.out
          have cp := HCP.out _ HB8.out
          go_wp2_with fail
          refine (HOHAS.out _ F fc T tc HB8.out HF.out HT.out).mono ?_
          clear c0 c1 c2 ck cf ct cp
          rintro e X9 ⟨rfl, hb⟩
          have hb2 := below_then HB8.out hb
          have HB9 := Lib.hid hb2; clear hb hb2
          obtain ⟨c0, c1, c2⟩ := HCELL.out _ HB9.out
          have ck := HCK.out _ HB9.out
          have cf := HCF.out _ HB9.out
          have ct := HCT.out _ HB9.out
          have cp := HCP.out _ HB9.out
          clear HF HT
          go_wp2_with fail
          refine (HOF.out _ HB9.out).mono ?_
          clear c0 c1 c2 ck cf ct cp
          rintro e X10 ⟨F2, fc2, T2, tc2, rfl, hF, hT, hb⟩
          have HF := Lib.hid hF; clear hF
          have HT := Lib.hid hT; clear hT
          have hb2 := below_then HB9.out hb
          have HB10 := Lib.hid hb2; clear hb hb2
          obtain ⟨c0, c1, c2⟩ := HCELL.out _ HB10.out
          have ck := HCK.out _ HB10.out
          have cf := HCF.out _ HB10.out
          have ct := HCT.out _ HB10.out
          have cp := HCP.out _ HB10.out
          go_wp2_with fail
          refine (HOEMP.out _ F2 fc2 T2 tc2 HF.out HT.out).mono ?_
          clear c0 c1 c2 ck cf ct cp
          rintro e X11 ⟨rfl, hb⟩
          have hb2 := below_then HB10.out hb
          have HB11 := Lib.hid hb2; clear hb hb2
          obtain ⟨c0, c1, c2⟩ := HCELL.out _ HB11.out
          have ck := HCK.out _ HB11.out
          have cf := HCF.out _ HB11.out
          have ct := HCT.out _ HB11.out
          have cp := HCP.out _ HB11.out
          go_wp2_with fail
          refine (awake_any _).mono ?_
          rintro e X99 ⟨rfl, hb⟩
          have hb2 := below_then HB11.out hb
          have HB99 := Lib.hid hb2; clear hb hb2
          go_wp2_with fail
          go_ret
          exact ⟨rfl, below_then HAL.out HB99.out⟩
        · exact absurd (hbw rfl rfl rfl) (by decide)
        · obtain rfl : hf = true := hsf2 rfl
          clear hsf2 hbw
          simp only [Bool.not_true, Bool.not_false, Bool.true_and, Bool.false_and, Bool.and_true, Bool.and_false, Bool.true_or, Bool.false_or] at HHAS HEMP
          have HB0 := Lib.hid (Below.refl W.heap.size W)
          obtain ⟨c0, c1, c2⟩ := HCELL.out _ HB0.out
          have ck := HCK.out _ HB0.out
          have cf := HCF.out _ HB0.out
          have ct := HCT.out _ HB0.out
          have cp := HCP.out _ HB0.out
          go_enter Try.func7, Try.ntmps7
          go_wp2_with fail
          rw [← HW.out]
          refine HSM.out.mono ?_
          rintro e w' ⟨rfl, rfl⟩
          go_wp2_with fail
          refine (HLKF.out _).mono ?_
          clear c0 c1 c2 ck cf ct cp
          rintro e X1 ⟨rfl, hb⟩
          have hb2 := below_then HB0.out hb
          have HB1 := Lib.hid hb2; clear hb hb2
          obtain ⟨c0, c1, c2⟩ := HCELL.out _ HB1.out
          have ck := HCK.out _ HB1.out
          have cf := HCF.out _ HB1.out
          have ct := HCT.out _ HB1.out
          have cp := HCP.out _ HB1.out
          go_wp2_with fail
          refine (HLKT.out _).mono ?_
          clear c0 c1 c2 ck cf ct cp
          rintro e X2 ⟨rfl, hb⟩
          have hb2 := below_then HB1.out hb
          have HB2 := Lib.hid hb2; clear hb hb2
          obtain ⟨c0, c1, c2⟩ := HCELL.out _ HB2.out
          have ck := HCK.out _ HB2.out
          have cf := HCF.out _ HB2.out
          have ct := HCT.out _ HB2.out
          have cp := HCP.out _ HB2.out
          go_wp2_with fail
          refine (HLFT.out _).mono ?_
          clear c0 c1 c2 ck cf ct cp
          rintro e X3 ⟨rfl, hb⟩
          have hb2 := below_then HB2.out hb
          have HB3 := Lib.hid hb2; clear hb hb2
          obtain ⟨c0, c1, c2⟩ := HCELL.out _ HB3.out
          have ck := HCK.out _ HB3.out
          have cf := HCF.out _ HB3.out
          have ct := HCT.out _ HB3.out
          have cp := HCP.out _ HB3.out
          go_wp2_with fail
          refine (HHAS.out _ HB3.out).mono ?_
          clear c0 c1 c2 ck cf ct cp
          rintro e X4 ⟨rfl, hb⟩
          have hb2 := below_then HB3.out hb
          have HB4 := Lib.hid hb2; clear hb hb2
          obtain ⟨c0, c1, c2⟩ := HCELL.out _ HB4.out
          have ck := HCK.out _ HB4.out
          have cf := HCF.out _ HB4.out
          have ct := HCT.out _ HB4.out
          have cp := HCP.out _ HB4.out
          go_wp2_with fail
          refine (HEMP.out _ HB4.out).mono ?_
          clear c0 c1 c2 ck cf ct cp
          rintro e X5 ⟨rfl, hb⟩
          have hb2 := below_then HB4.out hb
          have HB5 := Lib.hid hb2; clear hb hb2
          obtain ⟨c0, c1, c2⟩ := HCELL.out _ HB5.out
          have ck := HCK.out _ HB5.out
          have cf := HCF.out _ HB5.out
          have ct := HCT.out _ HB5.out
          have cp := HCP.out _ HB5.out
          go_wp2_with fail
          refine (HHASF.out _ HB5.out).mono ?_
          clear c0 c1 c2 ck cf ct cp
          rintro e X6 ⟨rfl, hb⟩
          have hb2 := below_then HB5.out hb
          have HB6 := Lib.hid hb2; clear hb hb2
          obtain ⟨c0, c1, c2⟩ := HCELL.out _ HB6.out
          have ck := HCK.out _ HB6.out
          have cf := HCF.out _ HB6.out
          have ct := HCT.out _ HB6.out
          have cp := HCP.out _ HB6.out
          go_wp2_with fail
          refine (HRB.out _).mono ?_
          clear c0 c1 c2 ck cf ct cp
          rintro e X7 ⟨rfl, hb⟩
          have hb2 := below_then HB6.out hb
          have HB7 := Lib.hid hb2; clear hb hb2
          obtain ⟨c0, c1, c2⟩ := HCELL.out _ HB7.out
          have ck := HCK.out _ HB7.out
          have cf := HCF.out _ HB7.out
          have ct := HCT.out _ HB7.out
          have cp := HCP.out _ HB7.out
          go_wp2_with fail
          refine (HBEG.out _ HB7.out).mono ?_
          clear c0 c1 c2 ck cf ct cp
          rintro e w' ⟨rfl, rfl⟩
          obtain ⟨c0, c1, c2⟩ := HCELL.out _ HB7.out
          have ck := HCK.out _ HB7.out
          have cf := HCF.out _ HB7.out
          have ct := HCT.out _ HB7.out
          have cp := HCP.out _ HB7.out
          go_wp2_with fail
          refine (HOF.out _ HB7.out).mono ?_
          clear c0 c1 c2 ck cf ct cp
          rintro e X8 ⟨F, fc, T, tc, rfl, hF, hT, hb⟩
          have HF := Lib.hid hF; clear hF
          have HT := Lib.hid hT; clear hT
          have hb2 := below_then HB7.out hb
          have HB8 := Lib.hid hb2; clear hb hb2
          obtain ⟨c0, c1, c2⟩ := HCELL.out _ HB8.out
          have ck := HCK.out _ HB8.out
          have cf := HCF.out _ HB8.out
          have ct := HCT.out _ HB8.out
          have cp := HCP.out _ HB8.out
          go_wp2_with fail
          refine (HOHAS.out _ F fc T tc HB8.out HF.out HT.out).mono ?_
          clear c0 c1 c2 ck cf ct cp
          rintro e X9 ⟨rfl, hb⟩
          have hb2 := below_then HB8.out hb
          have HB9 := Lib.hid hb2; clear hb hb2
          obtain ⟨c0, c1, c2⟩ := HCELL.out _ HB9.out
          have ck := HCK.out _ HB9.out
          have cf := HCF.out _ HB9.out
          have ct := HCT.out _ HB9.out
          have cp := HCP.out _ HB9.out
          clear HF HT
          go_wp2_with fail
          refine (HOF.out _ HB9.out).mono ?_
          clear c0 c1 c2 ck cf ct cp
          rintro e X10 ⟨F2, fc2, T2, tc2, rfl, hF, hT, hb⟩
          have HF := Lib.hid hF; clear hF
          have HT := Lib.hid hT; clear hT
          have hb2 := below_then HB9.out hb
          have HB10 := Lib.hid hb2; clear hb hb2
          obtain ⟨c0, c1, c2⟩ := HCELL.out _ HB10.out
          have ck := HCK.out _ HB10.out
          have cf := HCF.out _ HB10.out
          have ct := HCT.out _ HB10.out
          have cp := HCP.out _ HB10.out
          go_wp2_with fail
          refine (HOEMP.out _ F2 fc2 T2 tc2 HF.out HT.out).mono ?_
          clear c0 c1 c2 ck cf ct cp
          rintro e X11 ⟨rfl, hb⟩
          have hb2 := below_then HB10.out hb
          have HB11 := Lib.hid hb2; clear hb hb2
          obtain ⟨c0, c1, c2⟩ := HCELL.out _ HB11.out
          have ck := HCK.out _ HB11.out
          have cf := HCF.out _ HB11.out
          have ct := HCT.out _ HB11.out
          have cp := HCP.out _ HB11.out
          go_wp2_with fail
          refine (awake_any _).mono ?_
          rintro e X99 ⟨rfl, hb⟩
          have hb2 := below_then HB11.out hb
          have HB99 := Lib.hid hb2; clear hb hb2
          go_wp2_with fail
          go_ret
          exact ⟨rfl, below_then HAL.out HB99.out⟩
    · cases cl
      · obtain rfl : hf = true := hsf2 rfl
        clear hsf2 hbw
        simp only [Bool.not_true, Bool.not_false, Bool.true_and, Bool.false_and, Bool.and_true, Bool.and_false, Bool.true_or, Bool.false_or] at HHAS HEMP
        have HB0 := Lib.hid (Below.refl W.heap.size W)
        obtain ⟨c0, c1, c2⟩ := HCELL.out _ HB0.out
        have ck := HCK.out _ HB0.out
        have cf := HCF.out _ HB0.out
        have ct := HCT.out _ HB0.out
        have cp := HCP.out _ HB0.out
        go_enter Try.func7, Try.ntmps7
        go_wp2_with fail
        rw [← HW.out]
        refine HSM.out.mono ?_
        rintro e w' ⟨rfl, rfl⟩
        go_wp2_with fail
        refine (HLKF.out _).mono ?_
        clear c0 c1 c2 ck cf ct cp
        rintro e X1 ⟨rfl, hb⟩
        have hb2 := below_then HB0.out hb
        have HB1 := Lib.hid hb2; clear hb hb2
        obtain ⟨c0, c1, c2⟩ := HCELL.out _ HB1.out
        have ck := HCK.out _ HB1.out
        have cf := HCF.out _ HB1.out
        have ct := HCT.out _ HB1.out
        have cp := HCP.out _ HB1.out
        go_wp2_with fail
        refine (HHAS.out _ HB1.out).mono ?_
        clear c0 c1 c2 ck cf ct cp
        rintro e X2 ⟨rfl, hb⟩
        have hb2 := below_then HB1.out hb
        have HB2 := Lib.hid hb2; clear hb hb2
        obtain ⟨c0, c1, c2⟩ := HCELL.out _ HB2.out
        have ck := HCK.out _ HB2.out
        have cf := HCF.out _ HB2.out
        have ct := HCT.out _ HB2.out
        have cp := HCP.out _ HB2.out
        go_wp2_with fail
        refine (HEMP.out _ HB2.out).mono ?_
        clear c0 c1 c2 ck cf ct cp
        rintro e X3 ⟨rfl, hb⟩
        have hb2 := below_then HB2.out hb
        have HB3 := Lib.hid hb2; clear hb hb2
        obtain ⟨c0, c1, c2⟩ := HCELL.out _ HB3.out
        have ck := HCK.out _ HB3.out
        have cf := HCF.out _ HB3.out
        have ct := HCT.out _ HB3.out
        have cp := HCP.out _ HB3.out
        go_wp2_with fail
        refine (HHASF.out _ HB3.out).mono ?_
        clear c0 c1 c2 ck cf ct cp
        rintro e X4 ⟨rfl, hb⟩
        have hb2 := below_then HB3.out hb
        have HB4 := Lib.hid hb2; clear hb hb2
        obtain ⟨c0, c1, c2⟩ := HCELL.out _ HB4.out
        have ck := HCK.out _ HB4.out
        have cf := HCF.out _ HB4.out
        have ct := HCT.out _ HB4.out
        have cp := HCP.out _ HB4.out
        go_wp2_with fail
        refine (HRB.out _).mono ?_
        clear c0 c1 c2 ck cf ct cp
        rintro e X5 ⟨rfl, hb⟩
        have hb2 := below_then HB4.out hb
        have HB5 := Lib.hid hb2; clear hb hb2
        obtain ⟨c0, c1, c2⟩ := HCELL.out _ HB5.out
        have ck := HCK.out _ HB5.out
        have cf := HCF.out _ HB5.out
        have ct := HCT.out _ HB5.out
        have cp := HCP.out _ HB5.out
        go_wp2_with fail
        refine (HBEG.out _ HB5.out).mono ?_
        clear c0 c1 c2 ck cf ct cp
        rintro e w' ⟨rfl, rfl⟩
        obtain ⟨c0, c1, c2⟩ := HCELL.out _ HB5.out
        have ck := HCK.out _ HB5.out
        have cf := HCF.out _ HB5.out
        have ct := HCT.out _ HB5.out
        have cp := HCP.out _ HB5.out
        go_wp2_with fail
        refine (HOF.out _ HB5.out).mono ?_
        clear c0 c1 c2 ck cf ct cp
        rintro e X6 ⟨F, fc, T, tc, rfl, hF, hT, hb⟩
        have HF := Lib.hid hF; clear hF
        have HT := Lib.hid hT; clear hT
        have hb2 := below_then HB5.out hb
        have HB6 := Lib.hid hb2; clear hb hb2
        obtain ⟨c0, c1, c2⟩ := HCELL.out _ HB6.out
        have ck := HCK.out _ HB6.out
        have cf := HCF.out _ HB6.out
        have ct := HCT.out _ HB6.out
        have cp := HCP.out _ HB6.out
        go_wp2_with fail
        refine (HOHAS.out _ F fc T tc HB6.out HF.out HT.out).mono ?_
        clear c0 c1 c2 ck cf ct cp
        rintro e X7 ⟨rfl, hb⟩
        have hb2 := below_then HB6.out hb
        have HB7 := Lib.hid hb2; clear hb hb2
        obtain ⟨c0, c1, c2⟩ := HCELL.out _ HB7.out
        have ck := HCK.out _ HB7.out
        have cf := HCF.out _ HB7.out
        have ct := HCT.out _ HB7.out
        have cp := HCP.out _ HB7.out
        clear HF HT
        go_wp2_with fail
        refine (HOF.out _ HB7.out).mono ?_
        clear c0 c1 c2 ck cf ct cp
        rintro e X8 ⟨F2, fc2, T2, tc2, rfl, hF, hT, hb⟩
        have HF := Lib.hid hF; clear hF
        have HT := Lib.hid hT; clear hT
        have hb2 := below_then HB7.out hb
        have HB8 := Lib.hid hb2; clear hb hb2
        obtain ⟨c0, c1, c2⟩ := HCELL.out _ HB8.out
        have ck := HCK.out _ HB8.out
        have cf := HCF.out _ HB8.out
        have ct := HCT.out _ HB8.out
        have cp := HCP.out _ HB8.out
        go_wp2_with fail
        refine (HOEMP.out _ F2 fc2 T2 tc2 HF.out HT.out).mono ?_
        clear c0 c1 c2 ck cf ct cp
        rintro e X9 ⟨rfl, hb⟩
        have hb2 := below_then HB8.out hb
        have HB9 := Lib.hid hb2; clear hb hb2
        obtain ⟨c0, c1, c2⟩ := HCELL.out _ HB9.out
        have ck := HCK.out _ HB9.out
        have cf := HCF.out _ HB9.out
        have ct := HCT.out _ HB9.out
        have cp := HCP.out _ HB9.out
        go_wp2_with fail
        refine (awake_any _).mono ?_
        rintro e X99 ⟨rfl, hb⟩
        have hb2 := below_then HB9.out hb
        have HB99 := Lib.hid hb2; clear hb hb2
        go_wp2_with fail
        go_ret
        exact ⟨rfl, below_then HAL.out HB99.out⟩
      · cases C
        · clear hsf2 hbw
          simp only [Bool.not_true, Bool.not_false, Bool.true_and, Bool.false_and, Bool.and_true, Bool.and_false, Bool.true_or, Bool.false_or] at HHAS HEMP
          have HB0 := Lib.hid (Below.refl W.heap.size W)
          obtain ⟨c0, c1, c2⟩ := HCELL.out _ HB0.out
          have ck := HCK.out _ HB0.out
          have cf := HCF.out _ HB0.out
          have ct := HCT.out _ HB0.out
          have cp := HCP.out _ HB0.out
          go_enter Try.func7, Try.ntmps7
          go_wp2_with fail
          rw [← HW.out]
          refine HSM.out.mono ?_
          rintro e w' ⟨rfl, rfl⟩
          go_wp2_with fail
          refine (HLKF.out _).mono ?_
          clear c0 c1 c2 ck cf ct cp
          rintro e X1 ⟨rfl, hb⟩
          have hb2 := below_then HB0.out hb
          have HB1 := Lib.hid hb2; clear hb hb2
          obtain ⟨c0, c1, c2⟩ := HCELL.out _ HB1.out
          have ck := HCK.out _ HB1.out
          have cf := HCF.out _ HB1.out
          have ct := HCT.out _ HB1.out
          have cp := HCP.out _ HB1.out
          go_wp2_with fail
          refine (HLFT.out _).mono ?_
          clear c0 c1 c2 ck cf ct cp
          rintro e X2 ⟨rfl, hb⟩
          have hb2 := below_then HB1.out hb
          have HB2 := Lib.hid hb2; clear hb hb2
          obtain ⟨c0, c1, c2⟩ := HCELL.out _ HB2.out
          have ck := HCK.out _ HB2.out
          have cf := HCF.out _ HB2.out
          have ct := HCT.out _ HB2.out
          have cp := HCP.out _ HB2.out
          go_wp2_with fail
          refine (HHAS.out _ HB2.out).mono ?_
          clear c0 c1 c2 ck cf ct cp
          rintro e X3 ⟨rfl, hb⟩
          have hb2 := below_then HB2.out hb
          have HB3 := Lib.hid hb2; clear hb hb2
          obtain ⟨c0, c1, c2⟩ := HCELL.out _ HB3.out
          have ck := HCK.out _ HB3.out
          have cf := HCF.out _ HB3.out
          have ct := HCT.out _ HB3.out
          have cp := HCP.out _ HB3.out
          go_wp2_with fail
          refine (HEMP.out _ HB3.out).mono ?_
          clear c0 c1 c2 ck cf ct cp
          rintro e X4 ⟨rfl, hb⟩
          have hb2 := below_then HB3.out hb
          have HB4 := Lib.hid hb2; clear hb hb2
          obtain ⟨c0, c1, c2⟩ := HCELL.out _ HB4.out
          have ck := HCK.out _ HB4.out
          have cf := HCF.out _ HB4.out
          have ct := HCT.out _ HB4.out
          have cp := HCP.out _ HB4.out
          go_wp2_with fail
          refine (HRB.out _).mono ?_
          clear c0 c1 c2 ck cf ct cp
          rintro e X5 ⟨rfl, hb⟩
          have hb2 := below_then HB4.out hb
          have HB5 := Lib.hid hb2; clear hb hb2
          obtain ⟨c0, c1, c2⟩ := HCELL.out _ HB5.out
          have ck := HCK.out _ HB5.out
          have cf := HCF.out _ HB5.out
          have ct := HCT.out _ HB5.out
          have cp := HCP.out _ HB5.out
          go_wp2_with fail
          refine (HBEG.out _ HB5.out).mono ?_
          clear c0 c1 c2 ck cf ct cp
          rintro e w' ⟨rfl, rfl⟩
          obtain ⟨c0, c1, c2⟩ := HCELL.out _ HB5.out
          have ck := HCK.out _ HB5.out
          have cf := HCF.out _ HB5.out
          have ct := HCT.out _ HB5.out
          have cp := HCP.out _ HB5.out
          go_wp2_with fail
          refine (HOF.out _ HB5.out).mono ?_
          clear c0 c1 c2 ck cf ct cp
          rintro e X6 ⟨F, fc, T, tc, rfl, hF, hT, hb⟩
          have HF := Lib.hid hF; clear hF
          have HT := Lib.hid hT; clear hT
          have hb2 := below_then HB5.out hb
          have HB6 := Lib.hid hb2; clear hb hb2
          obtain ⟨c0, c1, c2⟩ := HCELL.out _ HB6.out
          have ck := HCK.out _ HB6.out
          have cf := HCF.out _ HB6.out
          have ct := HCT.out _ HB6.out
          have cp := HCP.out _ HB6.out
          go_wp2_with fail
          refine (HOHAS.out _ F fc T tc HB6.out HF.out HT.out).mono ?_
          clear c0 c1 c2 ck cf ct cp
          rintro e X7 ⟨rfl, hb⟩
          have hb2 := below_then HB6.out hb
          have HB7 := Lib.hid hb2; clear hb hb2
          obtain ⟨c0, c1, c2⟩ := HCELL.out _ HB7.out
          have ck := HCK.out _ HB7.out
          have cf := HCF.out _ HB7.out
          have ct := HCT.out _ HB7.out
          have cp := HCP.out _ HB7.out
          clear HF HT
          go_wp2_with fail
          refine (HOF.out _ HB7.out).mono ?_
          clear c0 c1 c2 ck cf ct cp
          rintro e X8 ⟨F2, fc2, T2, tc2, rfl, hF, hT, hb⟩
          have HF := Lib.hid hF; clear hF
          have HT := Lib.hid hT; clear hT
          have hb2 := below_then HB7.out hb
          have HB8 := Lib.hid hb2; clear hb hb2
          obtain ⟨c0, c1, c2⟩ := HCELL.out _ HB8.out
          have ck := HCK.out _ HB8.out
          have cf := HCF.out _ HB8.out
          have ct := HCT.out _ HB8.out
          have cp := HCP.out _ HB8.out
          go_wp2_with fail
          refine (HOEMP.out _ F2 fc2 T2 tc2 HF.out HT.out).mono ?_
          clear c0 c1 c2 ck cf ct cp
          rintro e X9 ⟨rfl, hb⟩
          have hb2 := below_then HB8.out hb
          have HB9 := Lib.hid hb2; clear hb hb2
          obtain ⟨c0, c1, c2⟩ := HCELL.out _ HB9.out
          have ck := HCK.out _ HB9.out
          have cf := HCF.out _ HB9.out
          have ct := HCT.out _ HB9.out
          have cp := HCP.out _ HB9.out
          go_wp2_with fail
          refine (awake_any _).mono ?_
          rintro e X99 ⟨rfl, hb⟩
          have hb2 := below_then HB9.out hb
          have HB99 := Lib.hid hb2; clear hb hb2
          go_wp2_with fail
          go_ret
          exact ⟨rfl, below_then HAL.out HB99.out⟩
        · obtain rfl : hf = true := hsf2 rfl
          clear hsf2 hbw
          simp only [Bool.not_true, Bool.not_false, Bool.true_and, Bool.false_and, Bool.and_true, Bool.and_false, Bool.true_or, Bool.false_or] at HHAS HEMP
          have HB0 := Lib.hid (Below.refl W.heap.size W)
          obtain ⟨c0, c1, c2⟩ := HCELL.out _ HB0.out
          have ck := HCK.out _ HB0.out
          have cf := HCF.out _ HB0.out
          have ct := HCT.out _ HB0.out
          have cp := HCP.out _ HB0.out
          go_enter Try.func7, Try.ntmps7
          go_wp2_with fail
          rw [← HW.out]
          refine HSM.out.mono ?_
          rintro e w' ⟨rfl, rfl⟩
          go_wp2_with fail
          refine (HLKF.out _).mono ?_
          clear c0 c1 c2 ck cf ct cp
          rintro e X1 ⟨rfl, hb⟩
          have hb2 := below_then HB0.out hb
          have HB1 := Lib.hid hb2; clear hb hb2
          obtain ⟨c0, c1, c2⟩ := HCELL.out _ HB1.out
          have ck := HCK.out _ HB1.out
          have cf := HCF.out _ HB1.out
          have ct := HCT.out _ HB1.out
          have cp := HCP.out _ HB1.out
          go_wp2_with fail
          refine (HLFT.out _).mono ?_
          clear c0 c1 c2 ck cf ct cp
          rintro e X2 ⟨rfl, hb⟩
          have hb2 := below_then HB1.out hb
          have HB2 := Lib.hid hb2; clear hb hb2
          obtain ⟨c0, c1, c2⟩ := HCELL.out _ HB2.out
          have ck := HCK.out _ HB2.out
          have cf := HCF.out _ HB2.out
          have ct := HCT.out _ HB2.out
          have cp := HCP.out _ HB2.out
          go_wp2_with fail
          refine (HHAS.out _ HB2.out).mono ?_
          clear c0 c1 c2 ck cf ct cp
          rintro e X3 ⟨rfl, hb⟩
          have hb2 := below_then HB2.out hb
          have HB3 := Lib.hid hb2; clear hb hb2
          obtain ⟨c0, c1, c2⟩ := HCELL.out _ HB3.out
          have ck := HCK.out _ HB3.out
          have cf := HCF.out _ HB3.out
          have ct := HCT.out _ HB3.out
          have cp := HCP.out _ HB3.out
          go_wp2_with fail
          refine (HEMP.out _ HB3.out).mono ?_
          clear c0 c1 c2 ck cf ct cp
          rintro e X4 ⟨rfl, hb⟩
          have hb2 := below_then HB3.out hb
          have HB4 := Lib.hid hb2; clear hb hb2
          obtain ⟨c0, c1, c2⟩ := HCELL.out _ HB4.out
          have ck := HCK.out _ HB4.out
          have cf := HCF.out _ HB4.out
          have ct := HCT.out _ HB4.out
          have cp := HCP.out _ HB4.out
          go_wp2_with fail
          refine (HHASF.out _ HB4.out).mono ?_
          clear c0 c1 c2 ck cf ct cp
          rintro e X5 ⟨rfl, hb⟩
          have hb2 := below_then HB4.out hb
          have HB5 := Lib.hid hb2; clear hb hb2
          obtain ⟨c0, c1, c2⟩ := HCELL.out _ HB5.out
          have ck := HCK.out _ HB5.out
          have cf := HCF.out _ HB5.out
          have ct := HCT.out _ HB5.out
          have cp := HCP.out _ HB5.out
          go_wp2_with fail
          refine (HRB.out _).mono ?_
          clear c0 c1 c2 ck cf ct cp
          rintro e X6 ⟨rfl, hb⟩
          have hb2 := below_then HB5.out hb
          have HB6 := Lib.hid hb2; clear hb hb2
          obtain ⟨c0, c1, c2⟩ := HCELL.out _ HB6.out
          have ck := HCK.out _ HB6.out
          have cf := HCF.out _ HB6.out
          have ct := HCT.out _ HB6.out
          have cp := HCP.out _ HB6.out
          go_wp2_with fail
          refine (HBEG.out _ HB6.out).mono ?_
          clear c0 c1 c2 ck cf ct cp
          rintro e w' ⟨rfl, rfl⟩
          obtain ⟨c0, c1, c2⟩ := HCELL.out _ HB6.out
          have ck := HCK.out _ HB6.out
          have cf := HCF.out _ HB6.out
          have ct := HCT.out _ HB6.out
          have cp := HCP.out _ HB6.out
          go_wp2_with fail
          refine (HOF.out _ HB6.out).mono ?_
          clear c0 c1 c2 ck cf ct cp
          rintro e X7 ⟨F, fc, T, tc, rfl, hF, hT, hb⟩
          have HF := Lib.hid hF; clear hF
          have HT := Lib.hid hT; clear hT
          have hb2 := below_then HB6.out hb
          have HB7 := Lib.hid hb2; clear hb hb2
          obtain ⟨c0, c1, c2⟩ := HCELL.out _ HB7.out
          have ck := HCK.out _ HB7.out
          have cf := HCF.out _ HB7.out
          have ct := HCT.out _ HB7.out
          have cp := HCP.out _ HB7.out
          go_wp2_with fail
          refine (HOHAS.out _ F fc T tc HB7.out HF.out HT.out).mono ?_
          clear c0 c1 c2 ck cf ct cp
          rintro e X8 ⟨rfl, hb⟩
          have hb2 := below_then HB7.out hb
          have HB8 := Lib.hid hb2; clear hb hb2
          obtain ⟨c0, c1, c2⟩ := HCELL.out _ HB8.out
          have ck := HCK.out _ HB8.out
          have cf := HCF.out _ HB8.out
          have ct := HCT.out _ HB8.out
          have cp := HCP.out _ HB8.out
          clear HF HT
          go_wp2_with fail
          refine (HOF.out _ HB8.out).mono ?_
          clear c0 c1 c2 ck cf ct cp
          rintro e X9 ⟨F2, fc2, T2, tc2, rfl, hF, hT, hb⟩
          have HF := Lib.hid hF; clear hF
          have HT := Lib.hid hT; clear hT
          have hb2 := below_then HB8.out hb
          have HB9 := Lib.hid hb2; clear hb hb2
          obtain ⟨c0, c1, c2⟩ := HCELL.out _ HB9.out
          have ck := HCK.out _ HB9.out
          have cf := HCF.out _ HB9.out
          have ct := HCT.out _ HB9.out
          have cp := HCP.out _ HB9.out
          go_wp2_with fail
          refine (HOEMP.out _ F2 fc2 T2 tc2 HF.out HT.out).mono ?_
          clear c0 c1 c2 ck cf ct cp
          rintro e X10 ⟨rfl, hb⟩
          have hb2 := below_then HB9.out hb
          have HB10 := Lib.hid hb2; clear hb hb2
          obtain ⟨c0, c1, c2⟩ := HCELL.out _ HB10.out
          have ck := HCK.out _ HB10.out
          have cf := HCF.out _ HB10.out
          have ct := HCT.out _ HB10.out
          have cp := HCP.out _ HB10.out
          go_wp2_with fail
          refine (awake_any _).mono ?_
          rintro e X99 ⟨rfl, hb⟩
          have hb2 := below_then HB10.out hb
          have HB99 := Lib.hid hb2; clear hb hb2
          go_wp2_with fail
          go_ret
          exact ⟨rfl, below_then HAL.out HB99.out⟩
  · have e : (decide (f.length ≤ 200) && (decide (t.length ≤ 200) && (decide (p.length ≤ 200) && decide (k.length ≤ 200)))) = false := by
      rw [Bool.eq_false_iff]
      intro e
      simp only [Bool.and_eq_true, decide_eq_true_eq] at e
      exact hs e
    rw [e] at hsm
    have HSM := Lib.hid hsm; clear hsm
    clear e hs hbF hbT hbP hbK hkc hka HCELL
    go_enter Try.func7, Try.ntmps7
    go_wp2_with fail
    rw [← HW.out]
    refine HSM.out.mono ?_
    rintro e w' ⟨rfl, rfl⟩
    go_wp2_with fail
    refine HAW.out.mono ?_
    rintro e w' ⟨rfl, hbel⟩
    have HBE := Lib.hid hbel; clear hbel
    go_wp2_with fail
    go_ret
    exact ⟨rfl, below_then HAL.out HBE.out⟩

/-! ### THE ROW's STEP -/
set_option maxRecDepth 100000 in
theorem lifted (os : Os) (started : os.Started) (H : Type) (enc : TypeId × Value → H) :
    ReturnsInHanded {} Try.checked os 7 .any (Rows.keysSpansSpec.pre6 enc Try.prog Try.f7 Rows.keysSpansRow.domain false) (Rows.keysSpansSpec.post enc Try.prog Try.f7 false true false false) := by
  refine returnsInHanded_of_change (C := Try.checked) own started (by kernel_rfl) Try.func7
    (ChangeSpec.witness6 (enc := enc) (C := Try.checked) false ⟨#[], #[.agg #[.slice none 0 0, .slice none 0 0, .bool false], .slice none 0 0, .slice none 0 0], []⟩ 8 (by kernel_rfl) (by kernel_rfl) (by kernel_rfl) (by kernel_rfl)) ?_
  intro W base args ds gs before hval0 hW hcnd _
  have hval : ∀ (j : Nat) t v, Try.f7.params[j]? = some t → args[j]? = some v → Value.okWide Try.prog W .any base t v := hval0
  have hW' := hW
  obtain ⟨p, q, hA0, hV, rfl, hfz, hnd⟩ := hW
  have hA : DataW.TrodAll enc Try.prog W 0 (fun _ => true) true Try.f7.params.toList args.toList ds p := hA0
  rw [Try.params7] at hA hval
  obtain ⟨v0, vs0, d0, ds0, p0, q0, hargs, rfl, rfl, h0, r0⟩ := trodAll_cons hA
  obtain ⟨v1, vs1, d1, ds1, p1, q1, rfl, rfl, rfl, h1, r1⟩ := trodAll_cons r0
  obtain ⟨v2, vs2, d2, ds2, p2, q2, rfl, rfl, rfl, h2, r2⟩ := trodAll_cons r1
  obtain ⟨rfl, rfl, rfl⟩ := trodAll_nil r2
  obtain rfl : args = #[v0, v1, v2] := by cases args; simp_all
  obtain ⟨rfl, rfl⟩ := trodVars_none hV
  have k0 := h0
  have lt0 : ∀ x ∈ p0, x.block < W.heap.size := by obtain ⟨m, hm⟩ := k0; exact DataW.trod_lt m _ _ _ hm
  obtain ⟨u0, u1, u2, y0, y1, y2, n, hv0, hd0, hp0, t0, t1, t2⟩ := open_agg3 Try.underlying35 (by kernel_rfl) (by kernel_rfl) (hval 0 35 v0 rfl rfl) h0
  obtain ⟨aF, lenF, capF, zF, rfl, wF⟩ : ∃ aF lenF capF zs, u0 = .slice aF lenF capF ∧ IsRow .u8 W aF lenF capF zs := by
    rcases open_ints Try.underlying22 Try.underlying5 (by kernel_rfl) t0 with ⟨hcs, _⟩ | ⟨x, l, c, zs, hcs, _, hl, hm, hz, _, hcell, hwz⟩
    · simp at hcs
      exact ⟨none, 0, 0, [], hcs, .inl ⟨rfl, rfl, rfl, rfl⟩⟩
    · simp at hcs
      exact ⟨some x, l, c, zs, hcs, .inr ⟨_, rfl, hl, hm, by simpa using hz, hcell, hwz⟩⟩
  obtain ⟨aT, lenT, capT, zT, rfl, wT⟩ : ∃ aT lenT capT zs, u1 = .slice aT lenT capT ∧ IsRow .u8 W aT lenT capT zs := by
    rcases open_ints Try.underlying22 Try.underlying5 (by kernel_rfl) t1 with ⟨hcs, _⟩ | ⟨x, l, c, zs, hcs, _, hl, hm, hz, _, hcell, hwz⟩
    · simp at hcs
      exact ⟨none, 0, 0, [], hcs, .inl ⟨rfl, rfl, rfl, rfl⟩⟩
    · simp at hcs
      exact ⟨some x, l, c, zs, hcs, .inr ⟨_, rfl, hl, hm, by simpa using hz, hcell, hwz⟩⟩
  obtain ⟨cl, rfl⟩ : ∃ b, u2 = .bool b := by
    obtain ⟨b, hb, _⟩ := DataW.trod_bool Try.underlying4 t2
    simp at hb
    exact ⟨b, hb⟩
  obtain ⟨a1, len1, cap1, rfl⟩ := okWide_slice Try.underlying22 (hval 1 22 v1 rfl rfl)
  have k1 := h1
  have lt1 : ∀ x ∈ p1, x.block < W.heap.size := by obtain ⟨m, hm⟩ := k1; exact DataW.trod_lt m _ _ _ hm
  obtain ⟨z1, w1⟩ : ∃ zs, IsRow .u8 W a1 len1 cap1 zs := by
    obtain ⟨fuel, hf⟩ := h1
    rcases open_ints Try.underlying22 Try.underlying5 (by kernel_rfl) hf with ⟨hcs, _⟩ | ⟨x, l, c, zs, hcs, _, hl, hm, hz, _, hcell, hwz⟩
    · simp [Value.cells] at hcs
      obtain ⟨rfl, rfl, rfl⟩ := hcs
      exact ⟨[], .inl ⟨rfl, rfl, rfl, rfl⟩⟩
    · simp [Value.cells] at hcs
      obtain ⟨rfl, rfl, rfl⟩ := hcs
      exact ⟨zs, .inr ⟨_, rfl, hl, hm, by simpa using hz, hcell, hwz⟩⟩
  obtain ⟨a2, len2, cap2, rfl⟩ := okWide_slice Try.underlying22 (hval 2 22 v2 rfl rfl)
  have k2 := h2
  have lt2 : ∀ x ∈ p2, x.block < W.heap.size := by obtain ⟨m, hm⟩ := k2; exact DataW.trod_lt m _ _ _ hm
  obtain ⟨z2, w2⟩ : ∃ zs, IsRow .u8 W a2 len2 cap2 zs := by
    obtain ⟨fuel, hf⟩ := h2
    rcases open_ints Try.underlying22 Try.underlying5 (by kernel_rfl) hf with ⟨hcs, _⟩ | ⟨x, l, c, zs, hcs, _, hl, hm, hz, _, hcell, hwz⟩
    · simp [Value.cells] at hcs
      obtain ⟨rfl, rfl, rfl⟩ := hcs
      exact ⟨[], .inl ⟨rfl, rfl, rfl, rfl⟩⟩
    · simp [Value.cells] at hcs
      obtain ⟨rfl, rfl, rfl⟩ := hcs
      exact ⟨zs, .inr ⟨_, rfl, hl, hm, by simpa using hz, hcell, hwz⟩⟩
  clear hA0 hval0
  subst hv0
  refine (walk aF lenF capF zF aT lenT capT zT cl a1 len1 cap1 z1 a2 len2 cap2 z2 W wF wT w1 w2).mono fun e W' ⟨he, bel⟩ => ?_
  subst he
  exact ⟨_, rfl, _, _, _, [], _, [], hW', trodAll_mk1 (shut_bool Try.underlying4 _), (trodAll_cons_mk (Below.trod laidOut (by kernel_rfl) (of_decide_eq_true (by kernel_rfl)) k0 bel lt0) (trodAll_cons_mk (Below.trod laidOut (by kernel_rfl) (of_decide_eq_true (by kernel_rfl)) k1 bel lt1) (trodAll_cons_mk (Below.trod laidOut (by kernel_rfl) (of_decide_eq_true (by kernel_rfl)) k2 bel lt2) trodAll_mk0))), rfl, bel.frame _, fun h => by cases h⟩

theorem over : Rows.keysSpansRow.holds Try.pinned (OpenSpec.ofChange Rows.keysSpansSpec) :=
  OpenClaim.holds_of_wide 7 Try.f7 rfl rfl rfl rfl rfl rfl rfl ⟨rfl, rfl, rfl, rfl, rfl⟩ rfl rfl rfl rfl rfl (by kernel_rfl) Try.func7 (by kernel_rfl)
    (of_decide_eq_true (by kernel_rfl)) (by unfold Func.isWrapper; first | (rw [if_pos (by decide +kernel)]; kernel_rfl) | (rw [if_neg (by decide +kernel)]; exact ⟨rfl, rfl⟩))
    (fun os started H enc _ => lifted os started H enc)

/-- ████ THE STATEMENT ████ -/
theorem proved : Rows.KeysSpansSaid := over
#print axioms proved
end Go.Proofs.Ytinhoglljadjgaa.keysSpans
