/-
  Contracts of the document's Of and Come; lists of plans in memory; contract of fine.
-/
import Derived.Test.YtfhnmmiakknilaaCatch
import Derived.Test.YtfhnmmiakknilaaSmall
namespace Go.Proofs.Ytfhnmmiakknilaa
open Go.RowKit
set_option maxHeartbeats 4000000
set_option maxRecDepth 100000
theorem refOf_any {w : World} {A : Option Addr} {L : List Pr} (ha : Pcs w A L) (c : Nat) (hlen : L.length ≤ 1000) :
    Calls Try.prog 19 #[.slice A L.length c] w fun e w' => ∃ A' c', e = .returned (.slice A' L.length c') ∧ Rcs w' A' L ∧ Below w.heap.size w w' := by
  have HA := Lib.hid ha; clear ha
  go_enter Try.func19, Try.ntmps19
  go_wp2
  go_loopw [3, 8] (fun v u wr => ∃ j : Nat, u = .int .i64 j ∧ j ≤ L.length ∧ Hid (Below w.heap.size w wr) ∧ Hid (wr.ownsRow w.heap.size 73 2 v j (scells (L.take j)))) (fun _ u _ => L.length - (intOf u).toNat)
  case atStart => exact ⟨0, rfl, by omega, Below.refl _ _, World.ownsRow_nil _ _ _ _⟩
  case round =>
    obtain ⟨j, rfl, hj, hbel, hown⟩ := hrel
    by_cases hlt : j < L.length
    · obtain ⟨b, off, ka, kc, va, vc, rfl, hbl, h1, h2, h3, h4⟩ := (HA.out.below hbel.out).at hlt
      have hba : Below wr.heap.size wr (wr.alloc (.cells #[.slice ka (L[j]).1.length kc, .slice va (L[j]).2.length vc] 54)) := (Below.refl _ _).alloc (Nat.le_refl _) _
      have v1 := conv_any (h3.below hba) kc
      have v2 := conv_any (h4.below hba) vc
      obtain ⟨x, hx⟩ : ∃ x : Nat, x = (L[j]).1.length := ⟨_, rfl⟩
      obtain ⟨y, hy⟩ : ∃ x : Nat, x = (L[j]).2.length := ⟨_, rfl⟩
      obtain ⟨s, hs⟩ : ∃ s : ByteArray, s = ⟨(L[j]).1.toArray⟩ := ⟨_, rfl⟩
      obtain ⟨t, ht⟩ : ∃ t : ByteArray, t = ⟨(L[j]).2.toArray⟩ := ⟨_, rfl⟩
      rw [← hs] at v1
      rw [← ht] at v2
      rw [← hx] at h1 v1 v2
      rw [← hy] at h2 v1 v2
      clear h3 h4 hba HA
      have HS := Lib.hid hs; clear hs
      have HT := Lib.hid ht; clear ht
      clear hx hy
      go_wp2_with (at_builtin; refine list_app2 (B := w.heap.size) (w := wr.alloc (.cells #[.slice ka x kc, .slice va y vc] 54)) 28 73 _ 32 Try.underlying28 Try.info73 rfl (by decide) rfl (.tmp 12) (.tmp 20) rfl _ j (scells (L.take j)) (World.ownsRow.alloc hown.out _) (.string s) (.string t) rfl rfl rfl (by rw [World.size_alloc]; rfl) (by omega) (by have := hbel.out.size; simp; omega) ?_; intro v1 w1' hb1 hs1)
      go_roundw
      case rel =>
        refine ⟨j + 1, by go_num, by omega, ?_, ?_⟩
        · exact (hbel.out.alloc hbel.out.size _).grown hs1 (by have := hbel.out.size; simp; omega) (fun k hk => (hown.out.lt k hk).1)
        · rw [List.take_succ_eq_append_getElem hlt, scells_snoc, ← HS.out, ← HT.out]; exact hb1
      case measure => simp [intOf]; omega
    · obtain rfl : j = L.length := by omega
      have ho := hown.out
      rw [List.take_length] at ho
      obtain ⟨A2, c2, rfl, hp2⟩ := rcs_own ho
      have HP := Lib.hid hp2; clear hp2 ho
      go_wp2_with fail
      go_ret
      exact ⟨A2, c2, rfl, HP.out, hbel.out⟩
theorem refCome_any {w : World} {A : Option Addr} {L : List Pr} (ha : Rcs w A L) (c : Nat) (hlen : L.length ≤ 900) (hm : ∀ q ∈ L, q.1.length ≤ 1000) :
    Calls Try.prog 18 #[.slice A L.length c] w fun e w' => ∃ A' c', e = .returned (.slice A' (come L).length c') ∧ Rcs w' A' (come L) ∧ NewIn w.heap.size w' A' ∧ Below w.heap.size w w' := by
  have HA := Lib.hid ha; clear ha
  have HM := Lib.hid hm; clear hm
  go_enter Try.func18, Try.ntmps18
  go_wp2
  go_loopw [3, 8] (fun v u wr => ∃ (j c' : Nat) (A' : Option Addr), u = .int .i64 j ∧ v = .slice A' (come (L.take j)).length c' ∧ j ≤ L.length ∧ Hid (Below w.heap.size w wr) ∧ Hid (Rcs wr A' (come (L.take j)) ∧ NewIn w.heap.size wr A')) (fun _ u _ => L.length - (intOf u).toNat)
  case atStart => exact ⟨0, 0, none, rfl, rfl, by omega, Below.refl _ _, .inl rfl, fun a e => by cases e⟩
  case round =>
    obtain ⟨j, c', A', rfl, rfl, hj, hbel, hrc⟩ := hrel
    by_cases hlt : j < L.length
    · obtain ⟨bm, rfl, hbl, h1, h2⟩ := (HA.out.below hbel.out).at hlt
      have hqm := HM.out _ (List.getElem_mem hlt)
      have hcl := come_length (L.take j)
      have hst := come_step hlt
      have hP := refPut_any (w := wr.alloc (.cells #[.string ⟨(L[j]).1.toArray⟩, .string ⟨(L[j]).2.toArray⟩] 73)) (L[j]) (hrc.out.1.below ((Below.refl _ _).alloc (Nat.le_refl _) _)) c' (by rw [List.length_take] at hcl; omega) hqm (fun q hq => HM.out q (List.mem_of_mem_take (come_sub _ q hq)))
      rw [← hst] at hP
      obtain ⟨x, hx⟩ : ∃ s : ByteArray, s = ⟨(L[j]).1.toArray⟩ := ⟨_, rfl⟩
      obtain ⟨y, hy⟩ : ∃ s : ByteArray, s = ⟨(L[j]).2.toArray⟩ := ⟨_, rfl⟩
      obtain ⟨n, hn⟩ : ∃ n : Nat, n = (come (L.take j)).length := ⟨_, rfl⟩
      rw [← hx] at h1
      rw [← hy] at h2
      rw [← hx, ← hy, ← hn] at hP
      rw [← hn]
      have HP := Lib.hid hP; clear hP
      have HN := Lib.hid hn; clear hn
      clear hcl hst hqm hx hy HA
      go_wp2_with fail
      refine HP.out.mono ?_
      rintro e w' ⟨A2, c2, rfl, hr2, hn2, hb2⟩
      have HR := Lib.hid (And.intro hr2 (hn2.less (show w.heap.size ≤ _ from by have := hbel.out.size; simp; omega))); clear hr2 hn2
      have HB := Lib.hid (below_then ((Below.refl wr.heap.size wr).alloc (Nat.le_refl _) _) hb2); clear hb2
      go_wp2_with fail
      go_roundw
      case rel => exact ⟨j + 1, c2, A2, by go_num, rfl, by omega, below_then hbel.out HB.out, HR.out⟩
      case measure => simp [intOf]; omega
    · obtain rfl : j = L.length := by omega
      have hr := hrc.out
      simp only [List.take_length] at hr
      have hn : (come (L.take L.length)).length = (come L).length := by rw [List.take_length]
      rw [hn]
      have HR := Lib.hid hr; clear hr hn
      go_wp2_with fail
      go_ret
      exact ⟨A', c', rfl, HR.out.1, HR.out.2, hbel.out⟩
/-- a plan: is it a branch; a hash; pairs; a set; places -/
structure Pln where
  br : Bool
  h : Nat
  prs : List Pr
  set : Nat
  kids : List Int
/-- the slice at A reads as the plans L -/
def Pls (w : World) (A : Option Addr) (L : List Pln) : Prop :=
  L = [] ∨ ∃ b off, A = some ⟨b, off, none⟩ ∧ b < w.heap.size ∧ ∀ i (h : i < L.length), ∃ pa pc ka kc, w.cell? ⟨b, off + i * 5, none⟩ = some (.bool L[i].br) ∧ w.cell? ⟨b, off + i * 5 + 1, none⟩ = some (.int .u64 (L[i].h : Int)) ∧
    w.cell? ⟨b, off + i * 5 + 2, none⟩ = some (.slice pa L[i].prs.length pc) ∧ w.cell? ⟨b, off + i * 5 + 3, none⟩ = some (.int .u32 (L[i].set : Int)) ∧ w.cell? ⟨b, off + i * 5 + 4, none⟩ = some (.slice ka L[i].kids.length kc) ∧
    Pcs w pa L[i].prs ∧ Bt.Ints w ka L[i].kids ∧ L[i].h < 18446744073709551616 ∧ L[i].set < 4294967296 ∧ (∀ z ∈ L[i].kids, -9223372036854775808 ≤ z ∧ z ≤ 9223372036854775807) ∧ L[i].prs.length ≤ 9223372036854775807 ∧ L[i].kids.length ≤ 9223372036854775807
theorem Pls.below {w w' : World} {A : Option Addr} {L : List Pln} (h : Pls w A L) (hb : Below w.heap.size w w') : Pls w' A L := by
  rcases h with h | ⟨b, off, h1, h2, h3⟩
  · exact .inl h
  · refine .inr ⟨b, off, h1, Nat.lt_of_lt_of_le h2 hb.size, fun i hi => ?_⟩
    obtain ⟨pa, pc, ka, kc, c0, c1, c2, c3, c4, hp, hk, hr⟩ := h3 i hi
    exact ⟨pa, pc, ka, kc, (hb.cell (p := ⟨b, off + i * 5, none⟩) h2).trans c0, (hb.cell (p := ⟨b, off + i * 5 + 1, none⟩) h2).trans c1, (hb.cell (p := ⟨b, off + i * 5 + 2, none⟩) h2).trans c2, (hb.cell (p := ⟨b, off + i * 5 + 3, none⟩) h2).trans c3, (hb.cell (p := ⟨b, off + i * 5 + 4, none⟩) h2).trans c4, hp.below hb, hk.below hb, hr⟩
theorem Pls.at {w : World} {A : Option Addr} {L : List Pln} (h : Pls w A L) {i : Nat} (hi : i < L.length) : ∃ b off pa pc ka kc, A = some ⟨b, off, none⟩ ∧ b < w.heap.size ∧ w.cell? ⟨b, off + i * 5, none⟩ = some (.bool L[i].br) ∧ w.cell? ⟨b, off + i * 5 + 1, none⟩ = some (.int .u64 (L[i].h : Int)) ∧
    w.cell? ⟨b, off + i * 5 + 2, none⟩ = some (.slice pa L[i].prs.length pc) ∧ w.cell? ⟨b, off + i * 5 + 3, none⟩ = some (.int .u32 (L[i].set : Int)) ∧ w.cell? ⟨b, off + i * 5 + 4, none⟩ = some (.slice ka L[i].kids.length kc) ∧
    Pcs w pa L[i].prs ∧ Bt.Ints w ka L[i].kids ∧ L[i].h < 18446744073709551616 ∧ L[i].set < 4294967296 ∧ (∀ z ∈ L[i].kids, -9223372036854775808 ≤ z ∧ z ≤ 9223372036854775807) ∧ L[i].prs.length ≤ 9223372036854775807 ∧ L[i].kids.length ≤ 9223372036854775807 := by
  rcases h with rfl | ⟨b, off, h1, h2, h3⟩
  · simp at hi
  · obtain ⟨pa, pc, ka, kc, r⟩ := h3 i hi
    exact ⟨b, off, pa, pc, ka, kc, h1, h2, r⟩
/-- five cells of a new block, in all that comes -/
theorem row_cells5 (w : World) (a b c d e : Value) (t : TypeId) : ∀ W, Below (w.alloc (.cells #[a, b, c, d, e] t)).heap.size (w.alloc (.cells #[a, b, c, d, e] t)) W →
    W.cell? ⟨w.heap.size, 0, none⟩ = some a ∧ W.cell? ⟨w.heap.size, 1, none⟩ = some b ∧ W.cell? ⟨w.heap.size, 2, none⟩ = some c ∧ W.cell? ⟨w.heap.size, 3, none⟩ = some d ∧ W.cell? ⟨w.heap.size, 4, none⟩ = some e := by
  intro W hW
  have r0 : W.heap[w.heap.size]? = some (.cells #[a, b, c, d, e] t (0, 0)) := (hW.block _ (by simp)).trans (heap_alloc_new w _)
  exact ⟨row_cell r0 rfl, row_cell r0 rfl, row_cell r0 rfl, row_cell r0 rfl, row_cell r0 rfl⟩
/-- may this plan be made? -/
def okP (p : Pln) : Bool := (decide (p.prs.length ≤ 12) && tiny p.prs) && decide (p.kids.length ≤ 6)
def kidSum (L : List Pln) : Nat := (L.map fun p => p.kids.length).sum
/-- may these plans be made? -/
def fineB (L : List Pln) : Bool := (decide (L.length ≤ 12) && L.all okP) && decide (kidSum L ≤ 14)
theorem kidSum_take {L : List Pln} {j : Nat} (h : j < L.length) : kidSum (L.take (j + 1)) = kidSum (L.take j) + L[j].kids.length := by
  unfold kidSum
  rw [List.take_succ_eq_append_getElem h, List.map_append, List.sum_append]
  simp
theorem okP_take {L : List Pln} {j : Nat} (h : j < L.length) : (L.take (j + 1)).all okP = ((L.take j).all okP && okP L[j]) := by
  rw [List.take_succ_eq_append_getElem h, List.all_append]
  simp
theorem okP_no {L : List Pln} {j : Nat} (h : j < L.length) (hn : okP L[j] = false) : fineB L = false := by
  unfold fineB
  have : L.all okP = false := by
    rw [List.all_eq_false]
    exact ⟨L[j], List.getElem_mem h, by rw [hn]; decide⟩
  rw [this, Bool.and_false, Bool.false_and]
theorem fine_any {w : World} {A : Option Addr} {L : List Pln} (ha : Pls w A L) (c : Nat) (hlen : L.length ≤ 9223372036854775807) :
    Calls Try.prog 6 #[.slice A L.length c] w fun e w' => e = .returned (.bool (fineB L)) ∧ Below w.heap.size w w' := by
  by_cases hl : L.length ≤ 12
  · have hf : L.all okP = true → fineB L = decide (kidSum L ≤ 14) := fun h => by
      unfold fineB
      rw [decide_eq_true hl, h]; rfl
    have hno : ∀ j (h : j < L.length), okP L[j] = false → fineB L = false := fun j h e => okP_no h e
    have HF := Lib.hid hf; clear hf
    have HNO := Lib.hid hno; clear hno
    have HA := Lib.hid ha; clear ha
    go_enter Try.func6, Try.ntmps6
    go_wp2
    go_loopw [3, 11] (fun s i wr => ∃ j n : Nat, i = .int .i64 (j : Int) ∧ s = .int .i64 (n : Int) ∧ j ≤ L.length ∧ n ≤ j * 6 ∧ Hid (n = kidSum (L.take j)) ∧ Hid ((L.take j).all okP = true) ∧ Hid (Below w.heap.size w wr)) (fun _ i _ => L.length - (intOf i).toNat)
    case atStart => exact ⟨0, 0, rfl, rfl, by omega, by omega, by simp [Hid, kidSum], by simp [Hid], Below.refl _ _⟩
    case round =>
      obtain ⟨j, n, rfl, rfl, hj, hn, hsum, hall, hbel⟩ := hrel
      by_cases hlt : j < L.length
      · obtain ⟨b, off, pa, pc, ka, kc, rfl, hbl, c0, c1, c2, c3, c4, hp, hk, h1, h2, h3, h4, h5⟩ := (HA.out.below hbel.out).at hlt
        have hsm := fun W (hW : Below wr.heap.size wr W) => small_any (hp.below hW) pc 12 (by decide) h4
        have hok : okP L[j] = ((decide (L[j].prs.length ≤ 12) && tiny L[j].prs) && decide (L[j].kids.length ≤ 6)) := rfl
        have hks := kidSum_take hlt
        have hot := okP_take hlt
        rw [hall.out, Bool.true_and] at hot
        rw [← hsum.out] at hks
        obtain ⟨p, hpp⟩ : ∃ p, p = L[j] := ⟨_, rfl⟩
        simp only [← hpp] at c0 c1 c2 c3 c4 hsm hok hks hot h5
        have hno := HNO.out j hlt
        rw [← hpp] at hno
        obtain ⟨br, hbr⟩ : ∃ x, x = p.br := ⟨_, rfl⟩
        obtain ⟨hh, hhh⟩ : ∃ x, x = p.h := ⟨_, rfl⟩
        obtain ⟨st, hst⟩ : ∃ x, x = p.set := ⟨_, rfl⟩
        obtain ⟨x, hx⟩ : ∃ x, x = p.prs.length := ⟨_, rfl⟩
        obtain ⟨y, hy⟩ : ∃ x, x = p.kids.length := ⟨_, rfl⟩
        rw [← hbr] at c0
        rw [← hhh] at c1
        rw [← hst] at c3
        simp only [← hx] at c2 hsm hok
        simp only [← hy] at c4 hok hks h5
        have hbw : Below wr.heap.size wr (wr.alloc (.cells #[.bool br, .int .u64 (hh : Int), .slice pa x pc, .int .u32 (st : Int), .slice ka y kc] 49)) := (Below.refl _ _).alloc (Nat.le_refl _) _
        have hsm := hsm _ hbw
        have hcells := row_cells5 wr (.bool br) (.int .u64 (hh : Int)) (.slice pa x pc) (.int .u32 (st : Int)) (.slice ka y kc) 49
        obtain ⟨t, ht⟩ : ∃ t, t = (decide (x ≤ 12) && tiny p.prs) := ⟨_, rfl⟩
        rw [← ht] at hsm hok
        have HSM := Lib.hid hsm; clear hsm
        have HOK := Lib.hid hok; clear hok
        have HKS := Lib.hid hks; clear hks
        have HOT := Lib.hid hot; clear hot
        have HNJ := Lib.hid hno; clear hno
        have HBW := Lib.hid hbw; clear hbw
        clear hp hk h1 h2 h3 h4 hpp hbr hhh hst hx hy ht hsum hall
        have H5 := Lib.hid h5; clear h5
        have HCC := Lib.hid hcells; clear hcells
        cases t with
        | false =>
          go_wp2_with fail
          refine HSM.out.mono ?_
          rintro e w2 ⟨rfl, hb2⟩
          have HB2 := Lib.hid hb2; clear hb2
          go_wp2_with fail
          go_ret
          refine ⟨ret_bool ?_, (hbel.out.trans (HBW.out.mono hbel.out.size)).trans (HB2.out.mono (by have := hbel.out.size; have := HBW.out.size; omega))⟩
          rw [HNJ.out (by rw [HOK.out, Bool.false_and])]
        | true =>
          by_cases hy6 : y ≤ 6
          · have d6 : decide ((6 : Int) < (y : Int)) = false := decide_eq_false (by omega)
            have HOKT : Hid (okP p = true) := by show _ = _; rw [HOK.out, decide_eq_true hy6]; rfl
            go_wp2_with fail
            refine HSM.out.mono ?_
            rintro e w2 ⟨rfl, hb2⟩
            obtain ⟨q0, q1, q2, q3, q4⟩ := HCC.out w2 hb2
            have HB2 := Lib.hid hb2; clear hb2
            obtain ⟨n2, hn2⟩ : ∃ n2, n2 = n + y := ⟨_, rfl⟩
            go_wp2_with fail
            go_roundw
            case rel => exact ⟨j + 1, n + y, by go_num, by go_num, by omega, by omega, HKS.out.symm, by show _ = _; rw [HOT.out, HOKT.out], (hbel.out.trans (HBW.out.mono hbel.out.size)).trans (HB2.out.mono (by have := hbel.out.size; have := HBW.out.size; omega))⟩
            case measure => simp [intOf]; omega
          · have d6 : decide ((6 : Int) < (y : Int)) = true := decide_eq_true (by omega)
            have HNY := Lib.hid hy6; clear hy6
            go_wp2_with fail
            refine HSM.out.mono ?_
            rintro e w2 ⟨rfl, hb2⟩
            obtain ⟨q0, q1, q2, q3, q4⟩ := HCC.out w2 hb2
            have HB2 := Lib.hid hb2; clear hb2
            go_wp2_with fail
            go_ret
            refine ⟨ret_bool ?_, (hbel.out.trans (HBW.out.mono hbel.out.size)).trans (HB2.out.mono (by have := hbel.out.size; have := HBW.out.size; omega))⟩
            rw [HNJ.out (by rw [HOK.out, decide_eq_false HNY.out]; rfl)]
      · obtain rfl : j = L.length := by omega
        have hs := hsum.out
        have ha := hall.out
        rw [List.take_length] at hs ha
        have HX := Lib.hid (HF.out ha)
        have HS := Lib.hid hs
        clear hs ha hsum hall
        by_cases h14 : n ≤ 14
        · go_wp2_with fail
          go_ret
          refine ⟨ret_bool ?_, hbel.out⟩
          rw [HX.out, ← HS.out]
          exact decide_eq_decide.2 (by omega)
        · go_wp2_with fail
          go_ret
          refine ⟨ret_bool ?_, hbel.out⟩
          rw [HX.out, ← HS.out]
          exact decide_eq_decide.2 (by omega)
  · have hf : fineB L = false := by
      unfold fineB
      rw [decide_eq_false hl]; rfl
    rw [hf]
    clear ha hf
    go_enter Try.func6, Try.ntmps6
    go_wp2
    go_ret
    exact ⟨rfl, Below.refl _ _⟩
end Go.Proofs.Ytfhnmmiakknilaa
