/-
  PairBig: for every input the law answers true and leaves its arguments as they were: the walk is typed by hand, the row's step is the guide's template.
  Conditions: none beside the row's own.
-/
import Derived.Test.YtljnlahgfdenfaaZeros
import Derived.Deep.DeepCutAuto
import Derived.Test.YtljnlahgfdenfaaRows
import Derived.WalkKit
import Derived.ProofKit
import Derived.OpenShut
import Derived.ShutString
namespace Go.Proofs.Ytljnlahgfdenfaa.pairBig
open Go.ChangeShapes Go.WideShapes Go.ChangeAt Go.RowKit
open Go.ChangeMaps (open_string shut_string)
set_option linter.unusedVariables false      -- a walk need not use every 'w<i>' (that an integer argument fits its kind)

theorem own : ownKnob Try.prog.godebug = none := by kernel_rfl

/-! ### STEP 1: THE WALK: the Go text returns true. 'Grown w w'': the world has at most new blocks (Derived/RowKit3.lean). Part the cases AHEAD of 'go_enter' where a test parts the walk; take each callee by a contract of your own. -/
set_option maxHeartbeats 4000000 in
theorem walk (a0 : Int) (a1 : Int) (a2 : Int) (w0 : (Lit.int .i64 a0).wf = true) (w1 : (Lit.int .i64 a1).wf = true) (w2 : (Lit.int .u8 a2).wf = true) (w : World) :
    Calls Try.prog 7 #[.int .i64 a0, .int .i64 a1, .int .u8 a2] w fun e w' => e = .returned (.bool true) ∧ Below w.heap.size w w' := by
  obtain ⟨kz, hkz⟩ : ∃ n : Nat, (n : Int) = min (max a0 0) 65538 := ⟨(min (max a0 0) 65538).toNat, by omega⟩
  obtain ⟨vz, hvz⟩ : ∃ n : Nat, (n : Int) = min (max a1 0) 65538 := ⟨(min (max a1 0) 65538).toNat, by omega⟩
  have hk2 : kz ≤ 65538 := by omega
  have hv2 : vz ≤ 65538 := by omega
  have hmk := fun W => run_make_key W kz (by omega)
  have hmv := fun W => run_make_key W vz (by omega)
  have HAW := Lib.hid awake_any
  have ha2 := bounds_u8 w2
  obtain ⟨k, hk⟩ : ∃ n : Nat, (n : Int) = a2 % 5 := ⟨(a2 % 5).toNat, by omega⟩
  have hk5 : k < 5 := by omega
  go_enter Try.func7, Try.ntmps7
  go_upto_region 2 with fail
  rw [← hkz, ← hvz]
  clear hkz hvz
  go_cut [7] (fun s7 wx => ∃ pb kb vb : Nat, s7 = .pointer (some ⟨pb, 0, none⟩) ∧ w.heap.size ≤ pb ∧ wx.heap[pb]? = some (.cells #[.slice (some ⟨kb, 0, none⟩) kz kz, .slice (some ⟨vb, 0, none⟩) vz vz] 37 (0, 0)) ∧ wx.heap[kb]? = some (.cells (Lib.byteCells (List.replicate kz 0)).toArray 5 (0, 0)) ∧ wx.heap[vb]? = some (.cells (Lib.byteCells (List.replicate vz 0)).toArray 5 (0, 0)) ∧ Below w.heap.size w wx)
  case first =>
    go_region
    all_goals
      go_wp2_with fail
      go_meet
      first
        | exact ⟨_, _, _, rfl, by omega, (three w _ _ _).2.2.1, (three w _ _ _).1, (three w _ _ _).2.1, (three w _ _ _).2.2.2⟩
        | exact ⟨_, _, _, rfl, by omega, (three w _ _ _).2.1, (three w _ _ _).1, (three w _ _ _).2.2.1, (three w _ _ _).2.2.2⟩
        | exact ⟨_, _, _, rfl, by omega, (three w _ _ _).2.2.1, (three w _ _ _).2.1, (three w _ _ _).1, (three w _ _ _).2.2.2⟩
        | exact ⟨_, _, _, rfl, by omega, (three w _ _ _).2.1, (three w _ _ _).2.2.1, (three w _ _ _).1, (three w _ _ _).2.2.2⟩
        | exact ⟨_, _, _, rfl, Nat.le_refl _, (three w _ _ _).1, (three w _ _ _).2.1, (three w _ _ _).2.2.1, (three w _ _ _).2.2.2⟩
        | exact ⟨_, _, _, rfl, Nat.le_refl _, (three w _ _ _).1, (three w _ _ _).2.2.1, (three w _ _ _).2.1, (three w _ _ _).2.2.2⟩
  case rest =>
    obtain ⟨pb, kb, vb, rfl, hpb, hP, hK, hV, hB⟩ := hcut
    have HK := Lib.hid hK; clear hK
    have HV := Lib.hid hV; clear hV
    have HB := Lib.hid hB; clear hB
    have c1 : wc.cell? ⟨pb, 0, none⟩ = some (.slice (some ⟨kb, 0, none⟩) kz kz) := by rw [cell_of_row wc pb 0 _ 37 (0, 0) hP]; rfl
    have c2 : wc.cell? ⟨pb, 1, none⟩ = some (.slice (some ⟨vb, 0, none⟩) vz vz) := by rw [cell_of_row wc pb 1 _ 37 (0, 0) hP]; rfl
    have hpl : pb < wc.heap.size := (Array.getElem?_eq_some_iff.1 hP).1
    clear hP
    have hck := check_any wc (some ⟨kb, 0, none⟩) (some ⟨vb, 0, none⟩) kz vz kz vz
    by_cases hbig : 65536 < kz ∨ 65536 < vz
    · rw [if_pos hbig] at hck
      have HCK := Lib.hid hck; clear hck
      have hfl : k ≤ kz → flt (zl k ++ [(List.replicate kz 0, List.replicate vz 0)]) k = 4 := fun h => by rw [flt_high (by omega) h, if_pos hbig]
      have HFL := Lib.hid hfl; clear hfl
      by_cases hkb : 65536 < kz
      · have d1 : decide ((65536 : Int) < (kz : Int)) = true := decide_eq_true (by omega)
        have HBG := Lib.hid hbig; clear hbig
        go_wp2_with fail
        refine HCK.out.mono ?_
        rintro e w3 ⟨rfl, hb3⟩
        have HB3 := Lib.hid hb3; clear hb3
        go_wp2_with fail
        rw [← hk]
        clear hk ha2 hmk hmv
        go_loopw [9, 39] (fun v u wr => ∃ (j : Nat) (xs : List Value), u = .int .i64 j ∧ j ≤ k ∧ Hid (Below wc.heap.size wc wr) ∧ Hid (wr.ownsRow wc.heap.size 37 2 v j xs) ∧ Hid (ZRow wr xs j)) (fun _ u _ => k - (intOf u).toNat)
        case atStart => exact ⟨0, [], rfl, by omega, HB3.out, World.ownsRow_nil _ _ _ _, ZRow.nil _⟩
        case round =>
          obtain ⟨j, xs, rfl, hj, hbel, hown, hz⟩ := hrel
          by_cases hlt : j < k
          · have hmj := run_make_key wr j (by omega)
            have HSZ : Hid (wc.heap.size ≤ (wr.alloc (.cells (Lib.byteCells (List.replicate j 0)).toArray 5)).heap.size) := by have := hbel.out.size; simp [Hid]; omega
            have HOA : Hid ((wr.alloc (.cells (Lib.byteCells (List.replicate j 0)).toArray 5)).ownsRow wc.heap.size 37 2 u9 j xs) := World.ownsRow.alloc hown.out _
            go_wp2_with (at_builtin; refine list_app2 (B := wc.heap.size) (w := wr.alloc (.cells (Lib.byteCells (List.replicate j 0)).toArray 5)) 22 37 _ 48 Try.underlying22 Try.info37 rfl (by decide) rfl (.tmp 42) (.tmp 46) rfl _ j xs HOA.out (.slice (some ⟨wr.heap.size, 0, none⟩) j j) (.slice none 0 0) rfl rfl rfl (by rw [World.size_alloc]; rfl) (by omega) HSZ.out ?_; intro v4 w4 ho4 hg4)
            go_roundw
            case rel => exact ⟨j + 1, _, by go_num, by omega, (hbel.out.alloc hbel.out.size _).grown hg4 HSZ.out (fun k hk => (HOA.out.lt k hk).1), ho4, ((hz.out.alloc _).snoc (new_at _ rfl)).kept HOA.out hg4⟩
            case measure => simp [intOf]; omega
          · obtain rfl : j = k := by omega
            by_cases hkk : kz < j
            · go_wp2_with fail
              refine (HAW.out _).mono ?_
              rintro e w5 ⟨rfl, hb5⟩
              have HB5 := Lib.hid (below_then hbel.out hb5); clear hb5
              go_wp2_with fail
              go_ret
              exact ⟨rfl, below_then HB.out HB5.out⟩
            · have hx1 := (hbel.out.cell (p := ⟨pb, 0, none⟩) hpl).trans c1
              have hx2 := (hbel.out.cell (p := ⟨pb, 1, none⟩) hpl).trans c2
              have HKK := Lib.hid hkk
              go_wp2_with (at_builtin; refine list_app2 (B := wc.heap.size) (w := wr) 22 37 _ 48 Try.underlying22 Try.info37 rfl (by decide) rfl (.tmp 54) (.tmp 56) rfl _ j xs hown.out (.slice (some ⟨kb, 0, none⟩) kz kz) (.slice (some ⟨vb, 0, none⟩) vz vz) rfl rfl rfl rfl (by omega) hbel.out.size ?_; intro v5 w5 ho5 hg5)
              have hb5 : Below wc.heap.size wc w5 := hbel.out.grown hg5 hbel.out.size (fun k hk => (hown.out.lt k hk).1)
              have hrow : Prow w5 (xs ++ [.slice (some ⟨kb, 0, none⟩) kz kz, .slice (some ⟨vb, 0, none⟩) vz vz]) (zl j ++ [(List.replicate kz 0, List.replicate vz 0)]) := by
                have h1 := (hz.out.kept hown.out hg5).prow
                have q1 : w5.heap[kb]? = some (.cells (Lib.byteCells (List.replicate kz 0)).toArray 5 (0, 0)) := (hb5.block kb (Array.getElem?_eq_some_iff.1 HK.out).1).trans HK.out
                have q2 : w5.heap[vb]? = some (.cells (Lib.byteCells (List.replicate vz 0)).toArray 5 (0, 0)) := (hb5.block vb (Array.getElem?_eq_some_iff.1 HV.out).1).trans HV.out
                have h2 := h1.snoc (p := (List.replicate kz 0, List.replicate vz 0)) (kc := kz) (vc := vz) (bts_row q1) (bts_row q2)
                simpa using h2
              obtain ⟨A5, c5, rfl, hp5⟩ := pcs_own ho5 (by simp [zl_length]) hrow (Below.refl _ _)
              have hM := map_any hp5 c5 j 4 (by simp [zl_length]; omega) (fun i hi => flt_low hi (by omega)) (.inr ⟨by simp [zl_length], HFL.out (by have := HKK.out; omega), by decide⟩)
              have HM := Lib.hid hM; clear hM
              have HB5 := Lib.hid hb5; clear hb5
              clear hp5 hrow ho5 hg5
              refine HM.out.mono ?_
              rintro e w6 ⟨rfl, hb6⟩
              have HB6 := Lib.hid (below_then HB5.out hb6); clear hb6
              go_wp2_with fail
              refine (HAW.out _).mono ?_
              rintro e w7 ⟨rfl, hb7⟩
              have HB7 := Lib.hid (below_then HB6.out hb7); clear hb7
              go_wp2_with fail
              go_ret
              exact ⟨rfl, below_then HB.out HB7.out⟩
      · have d1 : decide ((65536 : Int) < (kz : Int)) = false := decide_eq_false (by omega)
        have d2 : decide ((65536 : Int) < (vz : Int)) = true := decide_eq_true (by omega)
        have HBG := Lib.hid hbig; clear hbig
        go_wp2_with fail
        refine HCK.out.mono ?_
        rintro e w3 ⟨rfl, hb3⟩
        have HB3 := Lib.hid hb3; clear hb3
        go_wp2_with fail
        rw [← hk]
        clear hk ha2 hmk hmv
        go_loopw [9, 39] (fun v u wr => ∃ (j : Nat) (xs : List Value), u = .int .i64 j ∧ j ≤ k ∧ Hid (Below wc.heap.size wc wr) ∧ Hid (wr.ownsRow wc.heap.size 37 2 v j xs) ∧ Hid (ZRow wr xs j)) (fun _ u _ => k - (intOf u).toNat)
        case atStart => exact ⟨0, [], rfl, by omega, HB3.out, World.ownsRow_nil _ _ _ _, ZRow.nil _⟩
        case round =>
          obtain ⟨j, xs, rfl, hj, hbel, hown, hz⟩ := hrel
          by_cases hlt : j < k
          · have hmj := run_make_key wr j (by omega)
            have HSZ : Hid (wc.heap.size ≤ (wr.alloc (.cells (Lib.byteCells (List.replicate j 0)).toArray 5)).heap.size) := by have := hbel.out.size; simp [Hid]; omega
            have HOA : Hid ((wr.alloc (.cells (Lib.byteCells (List.replicate j 0)).toArray 5)).ownsRow wc.heap.size 37 2 u9 j xs) := World.ownsRow.alloc hown.out _
            go_wp2_with (at_builtin; refine list_app2 (B := wc.heap.size) (w := wr.alloc (.cells (Lib.byteCells (List.replicate j 0)).toArray 5)) 22 37 _ 48 Try.underlying22 Try.info37 rfl (by decide) rfl (.tmp 42) (.tmp 46) rfl _ j xs HOA.out (.slice (some ⟨wr.heap.size, 0, none⟩) j j) (.slice none 0 0) rfl rfl rfl (by rw [World.size_alloc]; rfl) (by omega) HSZ.out ?_; intro v4 w4 ho4 hg4)
            go_roundw
            case rel => exact ⟨j + 1, _, by go_num, by omega, (hbel.out.alloc hbel.out.size _).grown hg4 HSZ.out (fun k hk => (HOA.out.lt k hk).1), ho4, ((hz.out.alloc _).snoc (new_at _ rfl)).kept HOA.out hg4⟩
            case measure => simp [intOf]; omega
          · obtain rfl : j = k := by omega
            by_cases hkk : kz < j
            · go_wp2_with fail
              refine (HAW.out _).mono ?_
              rintro e w5 ⟨rfl, hb5⟩
              have HB5 := Lib.hid (below_then hbel.out hb5); clear hb5
              go_wp2_with fail
              go_ret
              exact ⟨rfl, below_then HB.out HB5.out⟩
            · have hx1 := (hbel.out.cell (p := ⟨pb, 0, none⟩) hpl).trans c1
              have hx2 := (hbel.out.cell (p := ⟨pb, 1, none⟩) hpl).trans c2
              have HKK := Lib.hid hkk
              go_wp2_with (at_builtin; refine list_app2 (B := wc.heap.size) (w := wr) 22 37 _ 48 Try.underlying22 Try.info37 rfl (by decide) rfl (.tmp 54) (.tmp 56) rfl _ j xs hown.out (.slice (some ⟨kb, 0, none⟩) kz kz) (.slice (some ⟨vb, 0, none⟩) vz vz) rfl rfl rfl rfl (by omega) hbel.out.size ?_; intro v5 w5 ho5 hg5)
              have hb5 : Below wc.heap.size wc w5 := hbel.out.grown hg5 hbel.out.size (fun k hk => (hown.out.lt k hk).1)
              have hrow : Prow w5 (xs ++ [.slice (some ⟨kb, 0, none⟩) kz kz, .slice (some ⟨vb, 0, none⟩) vz vz]) (zl j ++ [(List.replicate kz 0, List.replicate vz 0)]) := by
                have h1 := (hz.out.kept hown.out hg5).prow
                have q1 : w5.heap[kb]? = some (.cells (Lib.byteCells (List.replicate kz 0)).toArray 5 (0, 0)) := (hb5.block kb (Array.getElem?_eq_some_iff.1 HK.out).1).trans HK.out
                have q2 : w5.heap[vb]? = some (.cells (Lib.byteCells (List.replicate vz 0)).toArray 5 (0, 0)) := (hb5.block vb (Array.getElem?_eq_some_iff.1 HV.out).1).trans HV.out
                have h2 := h1.snoc (p := (List.replicate kz 0, List.replicate vz 0)) (kc := kz) (vc := vz) (bts_row q1) (bts_row q2)
                simpa using h2
              obtain ⟨A5, c5, rfl, hp5⟩ := pcs_own ho5 (by simp [zl_length]) hrow (Below.refl _ _)
              have hM := map_any hp5 c5 j 4 (by simp [zl_length]; omega) (fun i hi => flt_low hi (by omega)) (.inr ⟨by simp [zl_length], HFL.out (by have := HKK.out; omega), by decide⟩)
              have HM := Lib.hid hM; clear hM
              have HB5 := Lib.hid hb5; clear hb5
              clear hp5 hrow ho5 hg5
              refine HM.out.mono ?_
              rintro e w6 ⟨rfl, hb6⟩
              have HB6 := Lib.hid (below_then HB5.out hb6); clear hb6
              go_wp2_with fail
              refine (HAW.out _).mono ?_
              rintro e w7 ⟨rfl, hb7⟩
              have HB7 := Lib.hid (below_then HB6.out hb7); clear hb7
              go_wp2_with fail
              go_ret
              exact ⟨rfl, below_then HB.out HB7.out⟩
    · rw [if_neg hbig] at hck
      have d1 : decide ((65536 : Int) < (kz : Int)) = false := decide_eq_false (by omega)
      have d2 : decide ((65536 : Int) < (vz : Int)) = false := decide_eq_false (by omega)
      have HCK := Lib.hid hck; clear hck
      have hfl : k ≤ kz → flt (zl k ++ [(List.replicate kz 0, List.replicate vz 0)]) k = 0 := fun h => by rw [flt_high (by omega) h, if_neg hbig]
      have HFL := Lib.hid hfl; clear hfl
      have HBG := Lib.hid hbig; clear hbig
      go_wp2_with fail
      refine HCK.out.mono ?_
      rintro e w3 ⟨rfl, hb3⟩
      have HB3 := Lib.hid hb3; clear hb3
      go_wp2_with fail
      rw [← hk]
      clear hk ha2 hmk hmv
      go_loopw [9, 39] (fun v u wr => ∃ (j : Nat) (xs : List Value), u = .int .i64 j ∧ j ≤ k ∧ Hid (Below wc.heap.size wc wr) ∧ Hid (wr.ownsRow wc.heap.size 37 2 v j xs) ∧ Hid (ZRow wr xs j)) (fun _ u _ => k - (intOf u).toNat)
      case atStart => exact ⟨0, [], rfl, by omega, HB3.out, World.ownsRow_nil _ _ _ _, ZRow.nil _⟩
      case round =>
        obtain ⟨j, xs, rfl, hj, hbel, hown, hz⟩ := hrel
        by_cases hlt : j < k
        · have hmj := run_make_key wr j (by omega)
          have HSZ : Hid (wc.heap.size ≤ (wr.alloc (.cells (Lib.byteCells (List.replicate j 0)).toArray 5)).heap.size) := by have := hbel.out.size; simp [Hid]; omega
          have HOA : Hid ((wr.alloc (.cells (Lib.byteCells (List.replicate j 0)).toArray 5)).ownsRow wc.heap.size 37 2 u9 j xs) := World.ownsRow.alloc hown.out _
          go_wp2_with (at_builtin; refine list_app2 (B := wc.heap.size) (w := wr.alloc (.cells (Lib.byteCells (List.replicate j 0)).toArray 5)) 22 37 _ 48 Try.underlying22 Try.info37 rfl (by decide) rfl (.tmp 42) (.tmp 46) rfl _ j xs HOA.out (.slice (some ⟨wr.heap.size, 0, none⟩) j j) (.slice none 0 0) rfl rfl rfl (by rw [World.size_alloc]; rfl) (by omega) HSZ.out ?_; intro v4 w4 ho4 hg4)
          go_roundw
          case rel => exact ⟨j + 1, _, by go_num, by omega, (hbel.out.alloc hbel.out.size _).grown hg4 HSZ.out (fun k hk => (HOA.out.lt k hk).1), ho4, ((hz.out.alloc _).snoc (new_at _ rfl)).kept HOA.out hg4⟩
          case measure => simp [intOf]; omega
        · obtain rfl : j = k := by omega
          by_cases hkk : kz < j
          · go_wp2_with fail
            refine (HAW.out _).mono ?_
            rintro e w5 ⟨rfl, hb5⟩
            have HB5 := Lib.hid (below_then hbel.out hb5); clear hb5
            go_wp2_with fail
            go_ret
            exact ⟨rfl, below_then HB.out HB5.out⟩
          · have hx1 := (hbel.out.cell (p := ⟨pb, 0, none⟩) hpl).trans c1
            have hx2 := (hbel.out.cell (p := ⟨pb, 1, none⟩) hpl).trans c2
            have HKK := Lib.hid hkk
            go_wp2_with (at_builtin; refine list_app2 (B := wc.heap.size) (w := wr) 22 37 _ 48 Try.underlying22 Try.info37 rfl (by decide) rfl (.tmp 54) (.tmp 56) rfl _ j xs hown.out (.slice (some ⟨kb, 0, none⟩) kz kz) (.slice (some ⟨vb, 0, none⟩) vz vz) rfl rfl rfl rfl (by omega) hbel.out.size ?_; intro v5 w5 ho5 hg5)
            have hb5 : Below wc.heap.size wc w5 := hbel.out.grown hg5 hbel.out.size (fun k hk => (hown.out.lt k hk).1)
            have hrow : Prow w5 (xs ++ [.slice (some ⟨kb, 0, none⟩) kz kz, .slice (some ⟨vb, 0, none⟩) vz vz]) (zl j ++ [(List.replicate kz 0, List.replicate vz 0)]) := by
              have h1 := (hz.out.kept hown.out hg5).prow
              have q1 : w5.heap[kb]? = some (.cells (Lib.byteCells (List.replicate kz 0)).toArray 5 (0, 0)) := (hb5.block kb (Array.getElem?_eq_some_iff.1 HK.out).1).trans HK.out
              have q2 : w5.heap[vb]? = some (.cells (Lib.byteCells (List.replicate vz 0)).toArray 5 (0, 0)) := (hb5.block vb (Array.getElem?_eq_some_iff.1 HV.out).1).trans HV.out
              have h2 := h1.snoc (p := (List.replicate kz 0, List.replicate vz 0)) (kc := kz) (vc := vz) (bts_row q1) (bts_row q2)
              simpa using h2
            obtain ⟨A5, c5, rfl, hp5⟩ := pcs_own ho5 (by simp [zl_length]) hrow (Below.refl _ _)
            have hM := map_any hp5 c5 (j + 1) 0 (by simp [zl_length]; omega) (fun i hi => by
              rcases Nat.lt_or_ge i j with g | g
              · exact flt_low g (by omega)
              · obtain rfl : i = j := by omega
                exact HFL.out (by have := HKK.out; omega)) (.inl ⟨by simp [zl_length], rfl⟩)
            have HM := Lib.hid hM; clear hM
            have HB5 := Lib.hid hb5; clear hb5
            clear hp5 hrow ho5 hg5
            refine HM.out.mono ?_
            rintro e w6 ⟨rfl, hb6⟩
            have HB6 := Lib.hid (below_then HB5.out hb6); clear hb6
            go_wp2_with fail
            refine (HAW.out _).mono ?_
            rintro e w7 ⟨rfl, hb7⟩
            have HB7 := Lib.hid (below_then HB6.out hb7); clear hb7
            go_wp2_with fail
            go_ret
            exact ⟨rfl, below_then HB.out HB7.out⟩

/-! ### THE ROW's STEP: WRITTEN OUT: LEAVE IT -/
set_option maxRecDepth 100000 in
theorem lifted (os : Os) (started : os.Started) (H : Type) (enc : TypeId × Value → H) :
    ReturnsInHanded {} Try.checked os 7 .any (Rows.pairBigSpec.pre6 enc Try.prog Try.f7 Rows.pairBigRow.domain false) (Rows.pairBigSpec.post enc Try.prog Try.f7 false true false false) := by
  refine returnsInHanded_of_change (C := Try.checked) own started (by kernel_rfl) Try.func7
    (ChangeSpec.witness6 (enc := enc) (C := Try.checked) false ⟨#[], #[.int .i64 0, .int .i64 0, .int .u8 0], []⟩ 8 (by kernel_rfl) (by kernel_rfl) (by kernel_rfl) (by kernel_rfl)) ?_
  intro W base args ds gs before hval0 hW hcnd _
  have hval : ∀ (j : Nat) t v, Try.f7.params[j]? = some t → args[j]? = some v → Value.okWide Try.prog W .any base t v := hval0
  have hW' := hW
  obtain ⟨p, q, hA0, hV, rfl, hfz, hnd⟩ := hW
  have hA : DataW.TrodAll enc Try.prog W 0 (fun _ => true) true Try.f7.params.toList args.toList ds p := hA0
  rw [Try.params7] at hA hval
  obtain ⟨v0, vs0, d0, ds0, p0, q0, hargs, rfl, rfl, h0, r0⟩ := trodAll_cons hA
  obtain ⟨v1, vs1, d1, ds1, p1, q1, rfl, rfl, rfl, h1, r1⟩ := trodAll_cons r0
  obtain ⟨v2, vs2, d2, ds2, p2, q2, rfl, rfl, rfl, h2, r2⟩ := trodAll_cons r1
  obtain ⟨rfl, rfl, rfl⟩ := trodAll_nil r2
  obtain rfl : args = #[v0, v1, v2] := by cases args; simp_all
  obtain ⟨rfl, rfl⟩ := trodVars_none hV
  obtain ⟨a0, rfl, rfl, rfl, w0⟩ := open_int Try.underlying3 (hval 0 3 v0 rfl rfl) h0
  obtain ⟨a1, rfl, rfl, rfl, w1⟩ := open_int Try.underlying3 (hval 1 3 v1 rfl rfl) h1
  obtain ⟨a2, rfl, rfl, rfl, w2⟩ := open_int Try.underlying5 (hval 2 5 v2 rfl rfl) h2
  clear hA0 hval0
  refine (walk a0 a1 a2 w0 w1 w2 W).mono fun e W' ⟨he, hg⟩ => ?_
  subst he
  exact ⟨_, rfl, _, _, _, [], _, [], hW', trodAll_mk1 (shut_bool Try.underlying4 _), (trodAll_cons_mk (shut_int Try.underlying3 w0) (trodAll_cons_mk (shut_int Try.underlying3 w1) (trodAll_cons_mk (shut_int Try.underlying5 w2) trodAll_mk0))), rfl, hg.frame _, fun h => by cases h⟩

theorem over : Rows.pairBigRow.holds Try.pinned (OpenSpec.ofChange Rows.pairBigSpec) :=
  OpenClaim.holds_of_wide 7 Try.f7 rfl rfl rfl rfl rfl rfl rfl ⟨rfl, rfl, rfl, rfl, rfl⟩ rfl rfl rfl rfl rfl (by kernel_rfl) Try.func7 (by kernel_rfl)
    (of_decide_eq_true (by kernel_rfl)) (by unfold Func.isWrapper; first | (rw [if_pos (by decide +kernel)]; kernel_rfl) | (rw [if_neg (by decide +kernel)]; exact ⟨rfl, rfl⟩))
    (fun os started H enc _ => lifted os started H enc)

/-- ████ THE STATEMENT ████ -/
theorem proved : Rows.PairBigSaid :=
  over
#print axioms proved
end Go.Proofs.Ytljnlahgfdenfaa.pairBig
