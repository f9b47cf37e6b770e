/-
  Contracts of Small (layer 4), Fine and awake: which arguments the statements speak of, and the document's example.
-/
import Derived.Test.YtmbdimonfdncpaaGreatDoorGrafts
import Derived.Test.YtmbdimonfdncpaaGreatDoorGHash
import Derived.Lib.ConvBytes
namespace Go.Proofs.YtmbdimonfdncpaaGreatDoor
open Go.RowKit
set_option maxHeartbeats 4000000
set_option maxRecDepth 100000
attribute [local irreducible] Bt.lst
def tinyP (L : List Pr) : Bool := L.all fun p => decide (p.1.length ≤ 100) && decide (p.2.length ≤ 100)
theorem tinyP_take {L : List Pr} {n : Nat} (h : n < L.length) : tinyP (L.take (n + 1)) = (tinyP (L.take n) && (decide ((L[n]).1.length ≤ 100) && decide ((L[n]).2.length ≤ 100))) := by
  rw [List.take_succ_eq_append_getElem h]
  simp only [tinyP, List.all_append, List.all_cons, List.all_nil, Bool.and_true]
theorem tinyP_no {L : List Pr} {n : Nat} (h : n < L.length) (hn : (decide ((L[n]).1.length ≤ 100) && decide ((L[n]).2.length ≤ 100)) = false) : tinyP L = false := by
  rw [Bool.eq_false_iff]
  intro e
  have := List.all_eq_true.1 e _ (List.getElem_mem h)
  rw [hn] at this
  cases this
theorem pcs_at {w : World} {A : Option Addr} {L : List Pr} (h : Pcs w A L) {j : Nat} (hj : j < L.length) : ∃ b off ka kc va vc, A = some ⟨b, off, none⟩ ∧ b < w.heap.size ∧
    w.cell? ⟨b, off + j * 2, none⟩ = some (.slice ka (L[j]).1.length kc) ∧ w.cell? ⟨b, off + j * 2 + 1, none⟩ = some (.slice va (L[j]).2.length vc) ∧ Bts w ka (L[j]).1 ∧ Bts w va (L[j]).2 := by
  rcases h with rfl | ⟨b, off, rfl, hlt, hc⟩
  · simp at hj
  · obtain ⟨ka, kc, va, vc, h⟩ := hc j hj
    exact ⟨b, off, ka, kc, va, vc, rfl, hlt, h⟩
theorem small4_any {w : World} {A : Option Addr} {L : List Pr} (ha : Pcs w A L) (c : Nat) (most : Nat) (hm : most ≤ 1000) (hlen : L.length ≤ 9223372036854775807) :
    Calls Tryz.prog 15 #[.slice A L.length c, .int .i64 (most : Int)] w fun e w' => e = .returned (.bool (decide (L.length ≤ most) && tinyP L)) ∧ Below w.heap.size w w' := by
  have HA := Lib.hid ha; clear ha
  by_cases hl : L.length ≤ most
  · have hl1 : decide (L.length ≤ most) = true := by simpa using hl
    rw [hl1]
    go_enter Tryz.func15, Tryz.ntmps15
    go_wp2
    go_loopw [13] (fun i wr => ∃ j : Nat, i = .int .i64 j ∧ j ≤ L.length ∧ Hid (Below w.heap.size w wr) ∧ Hid (tinyP (L.take j) = true)) (fun i _ => L.length - (intOf i).toNat)
    case atStart => exact ⟨0, rfl, by omega, Below.refl _ _, by simp [Hid, tinyP]⟩
    case round =>
      obtain ⟨j, rfl, hj, hbel, ht⟩ := hrel
      by_cases hlt : j < L.length
      · obtain ⟨b, off, ka, kc, va, vc, rfl, hbl, h1, h2, _, _⟩ := pcs_at (HA.out.below hbel.out) hlt
        obtain ⟨x, hx⟩ : ∃ x : Nat, x = (L[j]).1.length := ⟨_, rfl⟩
        obtain ⟨y, hy⟩ : ∃ x : Nat, x = (L[j]).2.length := ⟨_, rfl⟩
        rw [← hx] at h1
        rw [← hy] at h2
        have HX := Lib.hid hx; clear hx
        have HY := Lib.hid hy; clear hy
        clear HA
        by_cases g1 : 100 < x
        · go_wp2
          go_ret
          refine ⟨ret_bool ?_, hbel.out.alloc hbel.out.size _⟩
          rw [tinyP_no hlt (by rw [← HX.out, decide_eq_false (show ¬ x ≤ 100 by omega), Bool.false_and])]
        · by_cases g2 : 100 < y
          · go_wp2
            go_ret
            refine ⟨ret_bool ?_, hbel.out.alloc hbel.out.size _⟩
            rw [tinyP_no hlt (by rw [← HY.out, decide_eq_false (show ¬ y ≤ 100 by omega), Bool.and_false])]
            rfl
          · have d1 : decide ((100 : Int) < (x : Int)) = false := decide_eq_false (by omega)
            have d2 : decide ((100 : Int) < (y : Int)) = false := decide_eq_false (by omega)
            go_wp2
            go_roundw
            case rel =>
              refine ⟨j + 1, by go_num, by omega, hbel.out.alloc hbel.out.size _, ?_⟩
              show _ = _
              rw [tinyP_take hlt, ht.out, ← HX.out, ← HY.out, decide_eq_true (by omega), decide_eq_true (by omega)]
              rfl
            case measure => simp [intOf]; omega
      · obtain rfl : j = L.length := by omega
        have hT := ht.out
        rw [List.take_length] at hT
        go_wp2
        go_ret
        refine ⟨ret_bool ?_, hbel.out⟩
        rw [hT]
        rfl
  · have hl1 : decide (L.length ≤ most) = false := by simpa using hl
    rw [hl1]
    go_enter Tryz.func15, Tryz.ntmps15
    go_wp2
    go_ret
    exact ⟨rfl, Below.refl _ _⟩
/-- few numbers, few pairs, of few bytes -/
def fineP (t : Nat) (L : List Pr) (most : Nat) : Bool := decide (t ≤ 200) && (decide (L.length ≤ most) && tinyP L)
theorem fine19_any {w : World} {A T : Option Addr} {L : List Pr} (ha : Pcs w A L) (t ct c : Nat) (most : Nat) (hm : most ≤ 1000) (hlen : L.length ≤ 9223372036854775807) :
    Calls Tryz.prog 5 #[.slice T t ct, .slice A L.length c, .int .i64 (most : Int)] w fun e w' => e = .returned (.bool (fineP t L most)) ∧ Below w.heap.size w w' := by
  have H := small4_any ha c most hm hlen
  obtain ⟨b, hb⟩ : ∃ b, b = (decide (L.length ≤ most) && tinyP L) := ⟨_, rfl⟩
  rw [fineP, ← hb]
  rw [← hb] at H
  obtain ⟨ll, hll⟩ : ∃ n, n = L.length := ⟨_, rfl⟩
  rw [← hll] at H ⊢
  have HH := Lib.hid H
  clear H ha hm hlen hb hll
  by_cases h : t ≤ 200
  · have d1 : decide ((t : Int) ≤ 200) = true := decide_eq_true (by omega)
    have d2 : decide (t ≤ 200) = true := decide_eq_true h
    rw [d2]
    go_enter Tryz.func5, Tryz.ntmps5
    go_wp2_with fail
    refine HH.out.mono ?_
    rintro e w' ⟨rfl, hb⟩
    have HB := Lib.hid hb; clear hb
    go_wp2_with fail
    go_ret
    exact ⟨ret_bool (by cases b <;> rfl), HB.out⟩
  · have d1 : decide ((t : Int) ≤ 200) = false := decide_eq_false (by omega)
    have d2 : decide (t ≤ 200) = false := decide_eq_false h
    rw [d2]
    go_enter Tryz.func5, Tryz.ntmps5
    go_wp2_with fail
    go_ret
    exact ⟨rfl, Below.refl _ _⟩
theorem conv_const19 (w : World) (C : Array Value) (n c : Nat) : (convert 27 27 (.slice (some ⟨w.heap.size, 0, none⟩) n c)).run Tryz.prog (w.alloc (.cells C 5)) = .ok (.slice (some ⟨w.heap.size, 0, none⟩) n c) (w.alloc (.cells C 5 (C.size, C.size + 1))) :=
  Lib.run_convert_bytes_const (P := Tryz.prog) w 27 5 C n c Tryz.underlying27 Tryz.underlying5
theorem awake19_any {w : World} (hT : Tab w) : Calls Tryz.prog 6 #[] w fun e w' => e = .returned (.bool true) ∧ Below w.heap.size w w' := by
  have cc1 := conv_const19 w #[.int .u8 107] 1 1
  obtain ⟨w1, hw1⟩ : ∃ w1, w1 = w.alloc (.cells #[.int .u8 107] 5 (1, 2)) := ⟨_, rfl⟩
  have b1 : Below w.heap.size w w1 := by rw [hw1]; exact (Below.refl _ _).alloc (Nat.le_refl _) _
  have r1 : w1.heap[w.heap.size]? = some (.cells #[.int .u8 107] 5 (1, 2)) := by rw [hw1]; exact heap_alloc_new w _
  have hg : Good 0 [] := ⟨List.nodup_nil, fun e he => absurd he List.not_mem_nil, Nat.zero_le _, fun x hx => absurd hx List.not_mem_nil⟩
  have hpu := put19_any (F := fun _ => True) (w := w1) (m := none) (ka := some ⟨w.heap.size, 0, none⟩) (va := none) (L := []) (e := (5, ([107], []))) (v := .nilIface) (vv := 0) (c := 0) 1 0 (fun _ _ => trivial) (hT.below b1) (by rw [lay_nil]; rfl) hg (by decide) (fun a ha => by cases ha) (by decide) (.inl rfl) (fun a e => by cases e) (bts_row (l := [107]) r1) (.inl rfl) (by decide) (by decide)
  rw [putE_nil, lay_one] at hpu
  have HPU : Hid (Calls Tryz.prog 8 #[.nilIface, .int .u64 5, .agg #[.slice (some ⟨w.heap.size, 0, none⟩) 1 1, .slice none 0 0], .pointer none] w1 fun r w' => ∃ v', r = .returned (.tuple #[v', .bool true]) ∧ Nde (fun _ => True) w' (.leaf 5 ([107], [])) v' ∧ Below w1.heap.size w1 w') := hpu.mono fun r w' ⟨v', vv', c', h1, h2, _, h4, _⟩ => ⟨v', h1, h2, h4.nil⟩
  have HW1 := Lib.hid hw1
  have HB1 := Lib.hid b1
  clear hpu hT hg r1 b1 hw1
  go_enter Tryz.func6, Tryz.ntmps6
  go_wp2_with fail
  rw [← HW1.out]
  refine HPU.out.mono ?_
  rintro r w2 ⟨v', rfl, hn, hb⟩
  have B2 := Lib.hid (below_then HB1.out hb)
  obtain ⟨tk, bk, fk, hv0, hmk, hck, hcalk⟩ := kind_meth hn (by intro h; cases h)
  obtain ⟨tc, bc, fc, hv1, hmc, hcc, hcalc⟩ := count_meth hn (show 5 < 18446744073709551616 ∧ [107].length ≤ 1000 ∧ ([] : List UInt8).length ≤ 1000 by decide) (by intro h; cases h)
  have hv2 := hv0
  rw [hv1] at hv2
  injection hv2 with e1 e2
  injection e2 with e2
  injection e2 with e2
  subst e1
  subst e2
  clear hv1
  subst hv0
  have hck' : Calls Tryz.prog fk #[.pointer (some bc)] w2 fun e w' => e = .returned (.int .i64 1) ∧ w' = w2 := hcalk w2 (kept_below (Below.refl _ _))
  have hcc' : Calls Tryz.prog fc #[.pointer (some bc)] w2 fun e w' => e = .returned (.int .i64 1) ∧ w' = w2 := hcalc w2 (kept_below (Below.refl _ _))
  have m1 := hmk w2
  have m2 := hmc w2
  have m3 := hck #[.pointer (some bc)] w2
  have m4 := hcc #[.pointer (some bc)] w2
  have HCK := Lib.hid hck'; clear hck'
  have HCC := Lib.hid hcc'; clear hcc'
  clear hcalk hcalc hmk hmc hck hcc hn hb HPU
  go_wp2_with fail
  refine HCK.out.mono ?_
  rintro e w' ⟨rfl, rfl⟩
  go_wp2_with fail
  refine HCC.out.mono ?_
  rintro e w' ⟨rfl, rfl⟩
  go_wp2_with fail
  go_ret
  exact ⟨rfl, B2.out⟩
end Go.Proofs.YtmbdimonfdncpaaGreatDoor
