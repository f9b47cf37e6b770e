/-
  Contract of the law's Shaped: a node has just the shape that it is compared with.
-/
import Derived.Test.YtngfbkkfnooobaaGreatDoorShape
import Derived.BigQuiet
namespace Go.Proofs.YtngfbkkfnooobaaGreatDoor
open Go.RowKit Go.ChangeShapes
set_option maxHeartbeats 4000000
set_option maxRecDepth 100000
theorem Sps.at {w : World} {A : Option Addr} {S : List Sp} (h : Sps w A S) {i : Nat} (hi : i < S.length) : ∃ g, A = some ⟨g, 0, none⟩ ∧ g < w.heap.size ∧ w.cell? ⟨g, i * 5, none⟩ = some (.int .i64 ((S[i]).level : Int)) ∧ w.cell? ⟨g, i * 5 + 1, none⟩ = some (.int .i64 ((S[i]).kind : Int)) ∧
    w.cell? ⟨g, i * 5 + 2, none⟩ = some (.int .u64 ((S[i]).hash : Int)) ∧ w.cell? ⟨g, i * 5 + 3, none⟩ = some (.int .u32 ((S[i]).map : Int)) ∧ w.cell? ⟨g, i * 5 + 4, none⟩ = some (.int .i64 ((S[i]).count : Int)) := by
  rcases h with h | ⟨g, h1, h2, h3⟩
  · rw [h] at hi; exact absurd hi (Nat.not_lt_zero _)
  · exact ⟨g, h1, h2, h3 i hi⟩
/-- the reference's spots as they are read -/
theorem sps_ref {w : World} {B : Nat} {v : Value} {S : List Sp} (h : w.ownsRow B 83 5 v S.length (spcells S)) : ∃ A c, v = .slice A S.length c ∧ Sps w A S ∧ NewIn B w A ∧ S.length ≤ c := by
  obtain ⟨A, c, rfl, hr⟩ := row_reads5 h
  have hcap : S.length ≤ c := by
    obtain ⟨_, h⟩ := h
    rcases h with ⟨h1, h2⟩ | ⟨g, cap, cur, h1, _, _, hc1, _⟩
    · injection h1 with _ h3 h4
      omega
    · injection h1 with _ h3 h4
      omega
  refine ⟨A, c, rfl, ?_, own_new h, hcap⟩
  rcases Nat.eq_zero_or_pos S.length with h0 | h0
  · exact .inl (List.eq_nil_of_length_eq_zero h0)
  · obtain ⟨g, rfl, _, hg, hc⟩ := hr h0
    refine .inr ⟨g, rfl, hg, fun i hi => ?_⟩
    have e := fun c (h : c < 5) => spcells_at S i hi c h
    rw [hc _ (by omega), hc _ (by omega), hc _ (by omega), hc _ (by omega), hc _ (by omega)]
    exact ⟨by rw [← Nat.add_zero (i * 5), e 0 (by omega)]; rfl, by rw [e 1 (by omega)]; rfl, by rw [e 2 (by omega)]; rfl, by rw [e 3 (by omega)]; rfl, by rw [e 4 (by omega)]; rfl⟩
/-- append of one struct that was laid into a block of its own just ahead, in a round -/
theorem shaped_any {F : Nat → Prop} {w : World} {x : Nd} {v : Value} {A : Option Addr} {c : Nat} (h : Nde F w x v) (ho : x.ok) (hr : x.right 0 = true) (hT : Tab w) (hlen : (x.shape 0).length ≤ 8000) (hm : ∀ s ∈ x.shape 0, s.map < 4294967296) (hA : Sps w A (x.shape 0)) :
    Calls Tryz.prog 12 #[v, .slice A (x.shape 0).length c] w fun e w' => e = .returned (.bool true) ∧ Below w.heap.size w w' := by
  have hsh := shape_any h ho hr hT hlen
  obtain ⟨S, hS⟩ : ∃ S, S = x.shape 0 := ⟨_, rfl⟩
  rw [← hS] at hsh hA hlen hm ⊢
  obtain ⟨N, hN⟩ : ∃ n, n = S.length := ⟨_, rfl⟩
  rw [← hN] at hsh hlen ⊢
  have HSH := Lib.hid hsh; clear hsh
  have HA := Lib.hid hA; clear hA
  have HN := Lib.hid (And.intro hN hm); clear hN hm
  clear h ho hr hT hS
  go_enter Tryz.func12, Tryz.ntmps12
  go_wp2_with fail
  refine HSH.out.mono ?_
  rintro e w2 ⟨A2, c2, rfl, hc2, hs2, hb2⟩
  have R2 := Lib.hid (And.intro hs2 (HA.out.below hb2))
  have B2 := Lib.hid hb2; clear hb2 hs2
  clear HSH HA
  go_wp2_with fail
  go_loopw [17] (fun u wr => ∃ i : Nat, u = .int .i64 i ∧ i ≤ N ∧ Hid (Below w2.heap.size w2 wr)) (fun u _ => N - (intOf u).toNat)
  case atStart => exact ⟨0, rfl, by omega, Below.refl _ _⟩
  case round =>
    obtain ⟨i, rfl, hi, hbel⟩ := hrel
    by_cases hlt : i < N
    · have hi' : i < S.length := by rw [← HN.out.1]; exact hlt
      obtain ⟨g, rfl, hg, x0, x1, x2, x3, x4⟩ := (R2.out.1.below hbel.out).at hi'
      obtain ⟨g', rfl, hg', y0, y1, y2, y3, y4⟩ := (R2.out.2.below hbel.out).at hi'
      have hmp := HN.out.2 _ (List.getElem_mem hi')
      obtain ⟨a0, ha0⟩ : ∃ k, k = (S[i]).level := ⟨_, rfl⟩
      obtain ⟨a1, ha1⟩ : ∃ k, k = (S[i]).kind := ⟨_, rfl⟩
      obtain ⟨a2, ha2⟩ : ∃ k, k = (S[i]).hash := ⟨_, rfl⟩
      obtain ⟨a3, ha3⟩ : ∃ k, k = (S[i]).map := ⟨_, rfl⟩
      obtain ⟨a4, ha4⟩ : ∃ k, k = (S[i]).count := ⟨_, rfl⟩
      rw [← ha0] at x0 y0
      rw [← ha1] at x1 y1
      rw [← ha2] at x2 y2
      rw [← ha3] at x3 y3 hmp
      rw [← ha4] at x4 y4
      clear ha0 ha1 ha2 ha3 ha4
      have bz := (Below.refl wr.heap.size wr).alloc (Nat.le_refl _) (.cells #[.int .i64 (a0 : Int), .int .i64 (a1 : Int), .int .u64 (a2 : Int), .int .u32 (a3 : Int), .int .i64 (a4 : Int)] 56)
      have z0 := (bz.cell (p := ⟨g', i * 5, none⟩) hg').trans y0
      have z1 := (bz.cell (p := ⟨g', i * 5 + 1, none⟩) hg').trans y1
      have z2 := (bz.cell (p := ⟨g', i * 5 + 2, none⟩) hg').trans y2
      have z3 := (bz.cell (p := ⟨g', i * 5 + 3, none⟩) hg').trans y3
      have z4 := (bz.cell (p := ⟨g', i * 5 + 4, none⟩) hg').trans y4
      have HBZ := Lib.hid (below_then hbel.out bz); clear bz y0 y1 y2 y3 y4
      go_wp2_with fail
      go_quiet (fail)
      go_wp2_with fail
      go_roundw
      case rel => exact ⟨i + 1, by go_num, by omega, below_drewN HBZ.out _⟩
      case measure => simp [intOf]; omega
    · have HB := Lib.hid (below_then B2.out hbel.out); clear hbel
      go_wp2_with fail
      go_ret
      exact ⟨rfl, HB.out⟩
end Go.Proofs.YtngfbkkfnooobaaGreatDoor
