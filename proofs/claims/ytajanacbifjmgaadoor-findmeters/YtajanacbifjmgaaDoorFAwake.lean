/-
  Contract of awake: the document's example.
-/
import Derived.Test.YtajanacbifjmgaaDoorFinds
import Derived.Test.YtajanacbifjmgaaDoorOf
import Derived.Lib.ConvBytes
namespace Go.Proofs.YtajanacbifjmgaaDoor
open Go.RowKit
set_option maxHeartbeats 4000000
set_option maxRecDepth 100000
/-- the example's entry -/
def exM : List En := [(5, ([107], [118]))]
theorem exM_lay : layL 13 0 (comeE exM) = .leaf 5 ([107], [118]) := rfl
theorem exM_fit : FitE exM := by
  refine ⟨by decide, fun e he => ?_⟩
  simp only [exM, List.mem_cons, List.not_mem_nil, or_false] at he
  rcases he with rfl
  exact ⟨by decide, by decide, by decide⟩
theorem laid_of {L : List En} (h : FitE L) : Laid (comeE L) 0 (layL 13 0 (comeE L)) := lay_laid 13 0 _ rfl h.good
theorem conv_const (w : World) (C : Array Value) (n c : Nat) : (convert 24 24 (.slice (some ⟨w.heap.size, 0, none⟩) n c)).run Tryd.prog (w.alloc (.cells C 5)) = .ok (.slice (some ⟨w.heap.size, 0, none⟩) n c) (w.alloc (.cells C 5 (C.size, C.size + 1))) :=
  Lib.run_convert_bytes_const (P := Tryd.prog) w 24 5 C n c Tryd.underlying24 Tryd.underlying5
theorem awake_any {w : World} (hT : Tab w) : Calls Tryd.prog 7 #[] w fun e w' => e = .returned (.bool true) ∧ Below w.heap.size w w' := by
  have cc1 := conv_const w #[.int .u8 107] 1 1
  obtain ⟨w1, hw1⟩ : ∃ w1, w1 = w.alloc (.cells #[.int .u8 107] 5 (1, 2)) := ⟨_, rfl⟩
  have s1 : w1.heap.size = w.heap.size + 1 := by rw [hw1]; simp
  have cc2 := conv_const w1 #[.int .u8 118] 1 1
  obtain ⟨w3, hw3⟩ : ∃ w3, w3 = (w1.alloc (.cells #[.int .u8 118] 5 (1, 2))).alloc (.cells #[.int .u64 5, .slice (some ⟨w.heap.size, 0, none⟩) 1 1, .slice (some ⟨w.heap.size + 1, 0, none⟩) 1 1] 51) := ⟨_, rfl⟩
  have b3 : Below w.heap.size w w3 := by rw [hw3, hw1]; exact (((Below.refl _ _).alloc (Nat.le_refl _) _).alloc (by simp) _).alloc (by simp; omega) _
  have r0 : w3.heap[w.heap.size]? = some (.cells #[.int .u8 107] 5 (1, 2)) := by
    rw [hw3, hw1, Below.heap_alloc _ _ _ (by simp; omega), heap_alloc2_old]
  have r1 : w3.heap[w.heap.size + 1]? = some (.cells #[.int .u8 118] 5 (1, 2)) := by
    rw [hw3, hw1, Below.heap_alloc _ _ _ (by simp)]
    exact heap_alloc2_new w _ _
  have r2 : w3.heap[w.heap.size + 1 + 1]? = some (.cells #[.int .u64 5, .slice (some ⟨w.heap.size, 0, none⟩) 1 1, .slice (some ⟨w.heap.size + 1, 0, none⟩) 1 1] 51 (0, 0)) := by
    have := heap_alloc_new (w1.alloc (.cells #[.int .u8 118] 5 (1, 2))) (.cells #[.int .u64 5, .slice (some ⟨w.heap.size, 0, none⟩) 1 1, .slice (some ⟨w.heap.size + 1, 0, none⟩) 1 1] 51)
    rw [World.size_alloc, s1] at this
    rw [hw3]
    exact this
  have hE : Ens w3 (some ⟨w.heap.size + 1 + 1, 0, none⟩) exM := by
    have k0 : Bts w3 (some ⟨w.heap.size, 0, none⟩) [107] := bts_row (l := [107]) r0
    have k1 : Bts w3 (some ⟨w.heap.size + 1, 0, none⟩) [118] := bts_row (l := [118]) r1
    refine .inr ⟨w.heap.size + 1 + 1, 0, rfl, (Array.getElem?_eq_some_iff.1 r2).1, fun i hi => ?_⟩
    obtain rfl : i = 0 := by simp [exM] at hi; omega
    exact ⟨_, 1, _, 1, row_cell r2 rfl, row_cell r2 rfl, row_cell r2 rfl, k0, k1⟩
  have hof := of_any (F := fun b => w3.heap.size ≤ b) 1 (fun b hb => hb) (hT.below b3) hE exM_fit
  have hlaid := laid_of exM_fit
  rw [exM_lay] at hof hlaid
  obtain ⟨X, hX⟩ : ∃ X, X = Nd.leaf 5 ([107], [118]) := ⟨_, rfl⟩
  rw [← hX] at hof hlaid
  have hg6 : ∀ W v g A, Nde (fun b => b < g) W X v → Met W (some ⟨g, 0, none⟩) 0 0 → Bts W A [107] → Calls Tryd.prog 14 #[v, .int .u64 6, .slice A 1 1, .pointer (some ⟨g, 0, none⟩)] W fun e w' => ∃ A' cc, e = .returned (.tuple #[.slice A' 0 cc, .bool false]) ∧ Met w' (some ⟨g, 0, none⟩) 1 0 ∧ Only (some ⟨g, 0, none⟩) W w' := fun W v g A hn hm hb => by
    refine (get18_any (h := 6) (k := [107]) 1 hn hlaid.ok hlaid.right hm (fun a e => by cases e; exact Nat.lt_irrefl g) (by decide) hb (by decide) (by decide)).mono ?_
    rintro e w' ⟨A', cc, v', c', h1, _, h2, h3, h4⟩
    subst hX
    obtain ⟨k1, k2⟩ := h4.1 rfl
    rw [k1, k2] at h2
    exact ⟨A', cc, h1, h2, h3⟩
  have hg5 : ∀ W v A, Nde (fun _ => True) W X v → Bts W A [107] → Calls Tryd.prog 14 #[v, .int .u64 5, .slice A 1 1, .pointer none] W fun e w' => ∃ A' cc, e = .returned (.tuple #[.slice A' 1 cc, .bool true]) ∧ Bts w' A' [118] ∧ Below W.heap.size W w' := fun W v A hn hb => by
    refine (get18_any (h := 5) (k := [107]) (vv := 0) (c := 0) 1 hn hlaid.ok hlaid.right (.inl rfl) (fun a e => by cases e) (by decide) hb (by decide) (by decide)).mono ?_
    rintro e w' ⟨A', cc, v', c', h1, h2, _, h3, _⟩
    subst hX
    exact ⟨A', cc, h1, h2, h3.nil⟩
  rw [s1] at cc2
  have HW1 := Lib.hid hw1
  rw [hw1] at cc2
  have HG6 := Lib.hid hg6; clear hg6
  have HG5 := Lib.hid hg5; clear hg5
  have HOF : Hid (Calls Tryd.prog 8 #[.slice (some ⟨w.heap.size + 1 + 1, 0, none⟩) 1 1] w3 fun e w' => ∃ v, e = .returned v ∧ Nde (fun b => w3.heap.size ≤ b) w' X v ∧ Below w3.heap.size w3 w') := hof
  clear hof hE r0 r1 r2 s1 hlaid hX
  rw [hw1] at hw3
  have HW3 := Lib.hid hw3; clear hw3 hw1
  have HB3 := Lib.hid b3; clear b3
  clear hT
  go_enter Tryd.func7, Tryd.ntmps7
  go_wp2_with fail
  rw [← HW3.out]
  refine HOF.out.mono ?_
  rintro e w4 ⟨v, rfl, hv, b4⟩
  have HV := Lib.hid (hv.mono (G := fun b => b < w4.heap.size) fun b hb _ => hb); clear hv
  have B4 := Lib.hid (below_then HB3.out b4); clear b4
  obtain ⟨gm, hgm⟩ : ∃ g, g = w4.heap.size := ⟨_, rfl⟩
  obtain ⟨w5, hw5⟩ : ∃ x, x = w4.alloc (.cells #[.int .i64 0, .int .i64 0] 54) := ⟨_, rfl⟩
  have b5 : Below w4.heap.size w4 w5 := by rw [hw5]; exact (Below.refl _ _).alloc (Nat.le_refl _) _
  have r5 : w5.heap[gm]? = some (.cells #[.int .i64 0, .int .i64 0] 54 (0, 0)) := by rw [hw5, hgm]; exact heap_alloc_new w4 _
  have cc3 := conv_const w5 #[.int .u8 107] 1 1
  obtain ⟨w6, hw6⟩ : ∃ x, x = w5.alloc (.cells #[.int .u8 107] 5 (1, 2)) := ⟨_, rfl⟩
  have b6 : Below w5.heap.size w5 w6 := by rw [hw6]; exact (Below.refl _ _).alloc (Nat.le_refl _) _
  have r6 : w6.heap[w5.heap.size]? = some (.cells #[.int .u8 107] 5 (1, 2)) := by rw [hw6]; exact heap_alloc_new w5 _
  have m6 : Met w6 (some ⟨gm, 0, none⟩) 0 0 := Met.below (.inr ⟨gm, rfl, r5⟩) b6
  have n6 : Nde (fun b => b < gm) w6 X v := by
    have := (HV.out.below b5).below b6
    rw [← hgm] at this
    exact this
  have J6 := Lib.hid (HG6.out w6 v gm (some ⟨w5.heap.size, 0, none⟩) n6 m6 (bts_row (l := [107]) r6))
  have B6 := Lib.hid (below_then (below_then B4.out b5) b6)
  have N6 := Lib.hid n6; clear n6
  have M6 := Lib.hid m6; clear m6
  have HS : Hid (w.heap.size ≤ gm ∧ gm < w6.heap.size) := ⟨by rw [hgm]; exact B4.out.size, Nat.lt_of_lt_of_le (Array.getElem?_eq_some_iff.1 r5).1 b6.size⟩
  have HGM := Lib.hid hgm; clear hgm
  have HW5 := Lib.hid hw5; clear hw5
  have HW6 := Lib.hid hw6; clear hw6
  clear b5 r5 b6 r6
  go_upto_region 3 with fail
  simp only [← HGM.out] at HW5 ⊢
  rw [← HW5.out]
  go_wp2_with fail
  rw [← HW6.out]
  refine J6.out.mono ?_
  rintro e w7 ⟨A7, c7, rfl, m7, o7⟩
  have b7 : Below w.heap.size w6 w7 := o7.below B6.out.size HS.out.1
  have n7 := N6.out.kept (kept_only (F := fun b => b < gm) (fun a e => by cases e; exact Nat.lt_irrefl gm) o7)
  have cc4 := conv_const w7 #[.int .u8 107] 1 1
  obtain ⟨w8, hw8⟩ : ∃ x, x = w7.alloc (.cells #[.int .u8 107] 5 (1, 2)) := ⟨_, rfl⟩
  have b8 : Below w7.heap.size w7 w8 := by rw [hw8]; exact (Below.refl _ _).alloc (Nat.le_refl _) _
  have r8 : w8.heap[w7.heap.size]? = some (.cells #[.int .u8 107] 5 (1, 2)) := by rw [hw8]; exact heap_alloc_new w7 _
  have J8 := Lib.hid (HG5.out w8 v (some ⟨w7.heap.size, 0, none⟩) ((n7.below b8).mono fun _ _ _ => trivial) (bts_row (l := [107]) r8))
  have M8 := Lib.hid (m7.below b8)
  have B8 := Lib.hid (below_then (B6.out.trans b7) b8)
  have HW8 := Lib.hid hw8; clear hw8
  clear m7 o7 b7 n7 b8 r8 cc3
  go_wp2_with fail
  rw [← HW8.out]
  refine J8.out.mono ?_
  rintro e w9 ⟨A9, c9, rfl, hb9, b9⟩
  obtain ⟨g2, hg2, r9⟩ : ∃ g2, (some (⟨gm, 0, none⟩ : Addr)) = some ⟨g2, 0, none⟩ ∧ w9.heap[g2]? = some (.cells #[.int .i64 1, .int .i64 0] 54 (0, 0)) := by
    rcases M8.out.below b9 with h | h
    · cases h
    · exact h
  cases hg2
  have d0 := (row2 r9).1
  have d1 := (row2 r9).2.1
  have cv : (convert 24 9 (.slice A9 1 c9)).run Tryd.prog w9 = .ok (.string ⟨#[118]⟩) w9 := conv_any hb9 c9
  have em := fun W => eq_met 1 0 1 0 W
  have gm1 := fun W x y => guard_met W x y #[.int .i64 1, .int .i64 0] #[.int .i64 1, .int .i64 0]
  have B9 := Lib.hid (below_then B8.out b9)
  clear hb9 b9 r9 cc4
  go_wp2_with fail
  go_ret
  exact ⟨rfl, B9.out⟩
end Go.Proofs.YtajanacbifjmgaaDoor
