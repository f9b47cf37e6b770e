/-
  Contracts of Of; of spotOf.
-/
import Derived.Test.YtmbdimonfdncpaaGreatDoorBuilts
import Derived.Test.YtmbdimonfdncpaaGreatDoorLast
namespace Go.Proofs.YtmbdimonfdncpaaGreatDoor
open Go.RowKit
set_option maxHeartbeats 1000000
set_option maxRecDepth 100000
/-- entries that may be laid out: few, and short -/
def FitE (L : List En) : Prop := L.length ≤ 100 ∧ ∀ e ∈ L, e.1 < 18446744073709551616 ∧ e.2.1.length ≤ 1000 ∧ e.2.2.length ≤ 1000
theorem FitE.good {L : List En} (h : FitE L) : Good 0 (comeE L) := good_come h.2 h.1
/-- a spot's value -/
def Sp.agg (s : Sp) : Value := .agg #[.int .i64 (s.level : Int), .int .i64 (s.kind : Int), .int .u64 (s.hash : Int), .int .u32 (s.map : Int), .int .i64 (s.count : Int)]
def Sp.cells (s : Sp) : List Value := [.int .i64 (s.level : Int), .int .i64 (s.kind : Int), .int .u64 (s.hash : Int), .int .u32 (s.map : Int), .int .i64 (s.count : Int)]
theorem Tryz.info56 : (Tryz.prog.info? 64).map (fun i => (i.zero, i.size, i.bytes)) = some (some (.agg #[.int .i64 0, .int .i64 0, .int .u64 0, .int .u32 0, .int .i64 0]), 5, 40) := by kernel_rfl
theorem bits_map (x : Nd) : x.bits = x.map := by cases x <;> rfl
/-- the spot of a node at a level, as the program tells it -/
def Nd.spotP (x : Nd) (lv : Nat) : Sp := if x.kind = 0 then ⟨0, 0, 0, 0, 0⟩ else x.spot lv
/-- the world behind five stores into a row of five -/
def set5 (W : World) (g : Nat) (v0 v1 v2 v3 v4 : Value) : World := ((((W.setCell ⟨g, 0, none⟩ v0).setCell ⟨g, 1, none⟩ v1).setCell ⟨g, 2, none⟩ v2).setCell ⟨g, 3, none⟩ v3).setCell ⟨g, 4, none⟩ v4
theorem set5_row {W : World} {g t : Nat} {a b c d e : Value} (h : W.heap[g]? = some (.cells #[a, b, c, d, e] t (0, 0))) (v0 v1 v2 v3 v4 : Value) : (set5 W g v0 v1 v2 v3 v4).heap[g]? = some (.cells #[v0, v1, v2, v3, v4] t (0, 0)) := by
  have h0 := heap_setCell_same W g 0 _ t v0 h
  have h1 := heap_setCell_same _ g 1 _ t v1 h0
  have h2 := heap_setCell_same _ g 2 _ t v2 h1
  have h3 := heap_setCell_same _ g 3 _ t v3 h2
  have h4 := heap_setCell_same _ g 4 _ t v4 h3
  exact h4
theorem set5_below {W : World} {B g : Nat} (hB : B ≤ g) (v0 v1 v2 v3 v4 : Value) : Below B W (set5 W g v0 v1 v2 v3 v4) :=
  ((((Below.refl B W |>.setCell (p := ⟨g, 0, none⟩) hB v0).setCell (p := ⟨g, 1, none⟩) hB v1).setCell (p := ⟨g, 2, none⟩) hB v2).setCell (p := ⟨g, 3, none⟩) hB v3).setCell (p := ⟨g, 4, none⟩) hB v4
theorem row5f {w : World} {b t : Nat} {a0 a1 a2 a3 a4 : Value} (h : w.heap[b]? = some (.cells #[a0, a1, a2, a3, a4] t (0, 0))) :
    (w.cell? ⟨b, 0, none⟩ = some a0 ∧ w.cell? ⟨b, 1, none⟩ = some a1 ∧ w.cell? ⟨b, 2, none⟩ = some a2 ∧ w.cell? ⟨b, 3, none⟩ = some a3 ∧ w.cell? ⟨b, 4, none⟩ = some a4) ∧
      (w.frozen? ⟨b, 0, none⟩ = false ∧ w.frozen? ⟨b, 1, none⟩ = false ∧ w.frozen? ⟨b, 2, none⟩ = false ∧ w.frozen? ⟨b, 3, none⟩ = false ∧ w.frozen? ⟨b, 4, none⟩ = false) :=
  ⟨⟨row_cell h rfl, row_cell h rfl, row_cell h rfl, row_cell h rfl, row_cell h rfl⟩, frozen_of_row _ _ _ _ _ h, frozen_of_row _ _ _ _ _ h, frozen_of_row _ _ _ _ _ h, frozen_of_row _ _ _ _ _ h, frozen_of_row _ _ _ _ _ h⟩
theorem spotOf_any {F : Nat → Prop} {w : World} {x : Nd} {v : Value} (lv : Nat) (h : Nde F w x v) (ho : x.ok) :
    Calls Tryz.prog 18 #[v, .int .i64 (lv : Int)] w fun e w' => e = .returned (x.spotP lv).agg ∧ Below w.heap.size w w' := by
  have hb : Below w.heap.size w (w.alloc (.cells #[.int .i64 0, .int .i64 0, .int .u64 0, .int .u32 0, .int .i64 0] 64)) := (Below.refl _ _).alloc (Nat.le_refl _) _
  have r0 : (w.alloc (.cells #[.int .i64 0, .int .i64 0, .int .u64 0, .int .u32 0, .int .i64 0] 64)).heap[w.heap.size]? = some (.cells #[.int .i64 0, .int .i64 0, .int .u64 0, .int .u32 0, .int .i64 0] 64 (0, 0)) := heap_alloc_new w _
  obtain ⟨w1, hw1⟩ : ∃ w1, w1 = w.alloc (.cells #[.int .i64 0, .int .i64 0, .int .u64 0, .int .u32 0, .int .i64 0] 64) := ⟨_, rfl⟩
  rw [← hw1] at hb r0
  have hh := hash_any (h.below hb)
  have hm := map_any (h.below hb)
  obtain ⟨⟨d0, d1, d2, d3, d4⟩, f0, f1, f2, f3, f4⟩ := row5f r0
  have HW := Lib.hid hw1; clear hw1
  by_cases hx : x = .none
  · subst hx
    obtain rfl : v = .nilIface := h
    have hs : (Nd.none).spotP lv = ⟨0, 0, 0, 0, 0⟩ := rfl
    rw [hs]
    have hh' : Calls Tryz.prog 30 #[.nilIface] w1 fun e w' => e = .returned (.tuple #[.int .u64 0, .bool false]) ∧ w1 = w' := hh
    have hm' : Calls Tryz.prog 31 #[.nilIface] w1 fun e w' => e = .returned (.tuple #[.int .u32 0, .bool false]) ∧ w1 = w' := hm
    have HH := Lib.hid hh'; clear hh hh'
    have HM := Lib.hid hm'; clear hm hm'
    have HS := Lib.hid (And.intro (set5_row r0 (.int .i64 0) (.int .i64 0) (.int .u64 0) (.int .u32 0) (.int .i64 0)) (hb.trans (set5_below (B := w.heap.size) (Nat.le_refl _) (.int .i64 0) (.int .i64 0) (.int .u64 0) (.int .u32 0) (.int .i64 0))))
    clear r0 hb hs ho
    go_enter Tryz.func18, Tryz.ntmps18
    go_wp2_with fail
    rw [← HW.out]
    refine HH.out.mono ?_
    rintro e w' ⟨rfl, rfl⟩
    go_wp2_with fail
    refine HM.out.mono ?_
    rintro e w' ⟨rfl, rfl⟩
    go_wp2_with fail
    refine bodyPost_ret (results_cell_row rfl _ _ w.heap.size 64 _ (0, 0) _ rfl HS.out.1 Tryz.underlying64 rfl (by kernel_rfl)) rfl ?_
    exact ⟨rfl, HS.out.2⟩
  · obtain ⟨tk, bk, fk, hv0, hmk, hck, hcalk⟩ := kind_meth (h.below hb) hx
    obtain ⟨tc, bc, fc, hv1, hmc, hcc, hcalc⟩ := count_meth (h.below hb) ho hx
    have hv2 := hv0
    rw [hv1] at hv2
    injection hv2 with e1 e2
    injection e2 with e2
    injection e2 with e2
    subst e1
    subst e2
    clear hv1
    subst hv0
    have hk0 : x.kind ≠ 0 := fun e => hx (by cases x <;> first | rfl | cases e)
    have hs : x.spotP lv = ⟨lv, x.kind, x.hash, x.map, x.cnt⟩ := by rw [Nd.spotP, if_neg hk0, Nd.spot, bits_map]
    rw [hs]
    have hor : (!x.hashed && !(x.kind == 3)) = false := by cases x <;> first | exact absurd rfl hx | rfl
    have HS := Lib.hid (And.intro (set5_row r0 (.int .i64 (lv : Int)) (.int .i64 (x.kind : Int)) (.int .u64 (x.hash : Int)) (.int .u32 (x.map : Int)) (.int .i64 (x.cnt : Int))) (hb.trans (set5_below (B := w.heap.size) (Nat.le_refl _) (.int .i64 (lv : Int)) (.int .i64 (x.kind : Int)) (.int .u64 (x.hash : Int)) (.int .u32 (x.map : Int)) (.int .i64 (x.cnt : Int)))))
    have hck' := hcalk w1 (kept_below (Below.refl _ _))
    have hcc' := hcalc w1 (kept_below (Below.refl _ _))
    have m1 := hmk w1
    have m2 := hmc w1
    have m3 := hck #[.pointer (some bc)] w1
    have m4 := hcc #[.pointer (some bc)] w1
    obtain ⟨bh, hbh⟩ : ∃ b, b = x.hashed := ⟨_, rfl⟩
    obtain ⟨bm, hbm⟩ : ∃ b, b = (x.kind == 3) := ⟨_, rfl⟩
    obtain ⟨kd, hkd⟩ : ∃ k, k = x.kind := ⟨_, rfl⟩
    rw [← hbh] at hh
    rw [← hbm] at hm
    rw [← hbh, ← hbm] at hor
    rw [← hkd] at hck' HS ⊢
    obtain ⟨q1, hq1⟩ : ∃ k, k = x.hash := ⟨_, rfl⟩
    obtain ⟨q2, hq2⟩ : ∃ k, k = x.map := ⟨_, rfl⟩
    obtain ⟨q3, hq3⟩ : ∃ k, k = x.cnt := ⟨_, rfl⟩
    rw [← hq1] at hh HS ⊢
    rw [← hq2] at hm HS ⊢
    rw [← hq3] at hcc' HS ⊢
    have HH := Lib.hid hh; clear hh
    have HM := Lib.hid hm; clear hm
    have HCK := Lib.hid hck'; clear hck'
    have HCC := Lib.hid hcc'; clear hcc'
    clear hq1 hq2 hq3 hkd hbh hbm hcalk hcalc hmk hmc hck hcc r0 hb hs hk0 hx h ho
    cases bh with
    | true =>
      go_enter Tryz.func18, Tryz.ntmps18
      go_wp2_with fail
      rw [← HW.out]
      refine HH.out.mono ?_
      rintro e w' ⟨rfl, rfl⟩
      go_wp2_with fail
      refine HM.out.mono ?_
      rintro e w' ⟨rfl, rfl⟩
      go_wp2_with fail
      refine HCK.out.mono ?_
      rintro e w' ⟨rfl, rfl⟩
      go_wp2_with fail
      refine HCC.out.mono ?_
      rintro e w' ⟨rfl, rfl⟩
      go_wp2_with fail
      refine bodyPost_ret (results_cell_row rfl _ _ w.heap.size 64 _ (0, 0) _ rfl HS.out.1 Tryz.underlying64 rfl (by kernel_rfl)) rfl ?_
      exact ⟨rfl, HS.out.2⟩
    | false =>
      obtain rfl : bm = true := by cases bm <;> first | rfl | cases hor
      clear hor
      go_enter Tryz.func18, Tryz.ntmps18
      go_wp2_with fail
      rw [← HW.out]
      refine HH.out.mono ?_
      rintro e w' ⟨rfl, rfl⟩
      go_wp2_with fail
      refine HM.out.mono ?_
      rintro e w' ⟨rfl, rfl⟩
      go_wp2_with fail
      refine HCK.out.mono ?_
      rintro e w' ⟨rfl, rfl⟩
      go_wp2_with fail
      refine HCC.out.mono ?_
      rintro e w' ⟨rfl, rfl⟩
      go_wp2_with fail
      refine bodyPost_ret (results_cell_row rfl _ _ w.heap.size 64 _ (0, 0) _ rfl HS.out.1 Tryz.underlying64 rfl (by kernel_rfl)) rfl ?_
      exact ⟨rfl, HS.out.2⟩
end Go.Proofs.YtmbdimonfdncpaaGreatDoor
