/-
  Contracts of a way: level, leadsTo, through; and of needed.
-/
import Derived.Test.YtngfbkkfnooobaaGreatDoorMaking
import Derived.Test.YtngfbkkfnooobaaGreatDoorHandz
import Derived.Test.YtngfbkkfnooobaaGreatDoorFromz
import Derived.Deep.RegionHeld3
namespace Go.Proofs.YtngfbkkfnooobaaGreatDoor
open Go.RowKit
set_option maxHeartbeats 4000000
set_option maxRecDepth 100000
attribute [local go_sem] Oper.semAt_some
theorem level_any (fr n c : Nat) (A : Option Addr) (w : World) (h : fr + n ≤ 1000) :
    Calls Tryz.prog 81 #[.agg #[.int .i64 (fr : Int), .slice A n c]] w fun e w' => e = .returned (.int .i64 ((fr + n : Nat) : Int)) ∧ Below w.heap.size w w' := by
  have r0 : (w.alloc (.cells #[.int .i64 (fr : Int), .slice A n c] 87)).heap[w.heap.size]? = some (.cells #[.int .i64 (fr : Int), .slice A n c] 87 (0, 0)) := heap_alloc_new w _
  obtain ⟨d0, d1, _, _⟩ := row2 r0
  have HB : Hid (Below w.heap.size w (w.alloc (.cells #[.int .i64 (fr : Int), .slice A n c] 87))) := (Below.refl _ _).alloc (Nat.le_refl _) _
  clear r0
  go_enter Tryz.func81, Tryz.ntmps81
  go_wp2
  go_ret
  exact ⟨ret_int (by go_num), HB.out⟩
theorem leads_any (fr h : Nat) {ns : List Int} (c : Nat) {A : Option Addr} {w : World} (hA : Bt.Ints w A ns) (hf : fr + ns.length ≤ 13) (hh : h < 18446744073709551616) :
    Calls Tryz.prog 56 #[.agg #[.int .i64 (fr : Int), .slice A ns.length c], .int .u64 (h : Int)] w fun e w' => e = .returned (.bool (led fr ns h)) ∧ Below w.heap.size w w' := by
  obtain ⟨n, hn⟩ : ∃ n, n = ns.length := ⟨_, rfl⟩
  rw [← hn] at hf ⊢
  have r0 : (w.alloc (.cells #[.int .i64 (fr : Int), .slice A n c] 87)).heap[w.heap.size]? = some (.cells #[.int .i64 (fr : Int), .slice A n c] 87 (0, 0)) := heap_alloc_new w _
  obtain ⟨d0, d1, _, _⟩ := row2 r0
  have hb : Below w.heap.size w (w.alloc (.cells #[.int .i64 (fr : Int), .slice A n c] 87)) := (Below.refl _ _).alloc (Nat.le_refl _) _
  have HA := Lib.hid (hA.below hb)
  have HB := Lib.hid hb; clear hb
  have HN := Lib.hid hn
  have HAT : Hid (∀ (i : Nat) W, i ≤ 12 → Calls Tryz.prog 72 #[.int .u64 (h : Int), .int .i64 (i : Int)] W fun e w' => e = .returned (.int .i64 (ch h i : Nat)) ∧ W = w') := fun i W hi => at_nat h i W hh hi
  clear r0 hn hA
  go_enter Tryz.func56, Tryz.ntmps56
  go_wp2_with fail
  go_loop [10] (fun i => ∃ j : Nat, i = .int .i64 (j : Int) ∧ j ≤ n ∧ Hid (allTo (fun i => decide ((ch h (fr + i) : Int) = ns.getD i 0)) j = true)) (fun i => n - (intOf i).toNat)
  case atStart => exact ⟨0, rfl, by omega, rfl⟩
  case round =>
    obtain ⟨j, rfl, hj, hall⟩ := hrel
    by_cases hlt : j < n
    · have hjl : j < ns.length := by have := HN.out; omega
      obtain ⟨b, off, rfl, hc⟩ := HA.out.at_ j hjl
      have hg : ns.getD j 0 = ns[j] := by rw [List.getD_eq_getElem?_getD, List.getElem?_eq_getElem hjl]; rfl
      obtain ⟨z, hz⟩ : ∃ z, z = ns[j] := ⟨_, rfl⟩
      rw [← hz] at hc hg
      have hat := HAT.out (fr + j) (w.alloc (.cells #[.int .i64 (fr : Int), .slice (some ⟨b, off, none⟩) n c] 87)) (by omega)
      obtain ⟨y, hy⟩ : ∃ y, y = ch h (fr + j) := ⟨_, rfl⟩
      rw [← hy] at hat
      have hadd : IntKind.i64.wrap ((fr : Int) + (j : Int)) = ((fr + j : Nat) : Int) := by rw [IntKind.wrap_i64]; omega
      have hadd2 : (fr : Int) + (j : Int) = ((fr + j : Nat) : Int) := by omega
      obtain ⟨q, hq⟩ : ∃ q, q = fr + j := ⟨_, rfl⟩
      rw [← hq] at hat hadd hadd2
      have H1 := Lib.hid hat; clear hat
      have HGY := Lib.hid (And.intro hg (And.intro hy hq))
      have HLT := Lib.hid hlt
      clear hz hg hy hq hjl
      by_cases he : (y : Int) = z
      · have t1 : ((y : Int) != z) = false := by simpa using he
        have hall2 : Hid (allTo (fun i => decide ((ch h (fr + i) : Int) = ns.getD i 0)) (j + 1) = true) := by
          show _ = _
          rw [allTo, hall.out, HGY.out.1, ← HGY.out.2.1, decide_eq_true he]; rfl
        clear he
        go_wp2_with fail
        refine H1.out.mono ?_
        rintro e w' ⟨rfl, rfl⟩
        go_wp2_with fail
        go_round
        case rel => exact ⟨j + 1, by go_num, HLT.out, hall2.out⟩
        case measure =>
          have := HLT.out
          simp [intOf]; omega
      · have t1 : ((y : Int) != z) = true := by simpa using he
        have HX : Hid (led fr ns h = false) := by
          show _ = _
          unfold led
          refine allTo_false (i := j) (by have := HN.out; omega) ?_
          rw [HGY.out.1, ← HGY.out.2.1]
          exact decide_eq_false he
        clear he
        go_wp2_with fail
        refine H1.out.mono ?_
        rintro e w' ⟨rfl, rfl⟩
        go_wp2_with fail
        change bodyPost Tryz.prog Tryz.f56 (fun e w' => _) Exit.ret _ _
        go_ret
        rw [HX.out]
        exact ⟨rfl, HB.out⟩
    · obtain rfl : j = n := by omega
      have HX : Hid (led fr ns h = true) := by
        show _ = _
        unfold led
        rw [← HN.out]
        exact hall.out
      go_wp2_with fail
      go_ret
      rw [HX.out]
      exact ⟨rfl, HB.out⟩
theorem needed_any {F : Nat → Prop} {w : World} {b g k c m ct : Nat} {kid : Nat → Nd} (hr : w.heap[b]? = some (.cells #[.int .u32 (m : Int), .slice (some ⟨g, 0, none⟩) k c, .int .i64 (ct : Int)] 118 (0, 0))) (hk : ∀ i, i < k → ∃ vi, w.cell? ⟨g, i, none⟩ = some vi ∧ Nde F w (kid i) vi) (h0 : 0 < k) (hn : kid 0 ≠ .none) :
    Calls Tryz.prog 82 #[.pointer (some ⟨b, 0, none⟩)] w fun e w' => e = .returned (.bool (decide (k ≠ 1 ∨ (kid 0).kind = 3))) ∧ w = w' := by
  have c1 := row_cell (i := 1) hr rfl
  by_cases k1 : k = 1
  · obtain ⟨vi, hc, hN⟩ := hk 0 h0
    obtain ⟨t, bb, f, rfl, hme, hcf, hcal⟩ := kind_meth hN hn
    have hcal := hcal w (fun _ _ _ => rfl)
    have hme := hme w
    have hcf := hcf #[.pointer (some bb)] w
    have hx : decide (k ≠ 1 ∨ (kid 0).kind = 3) = ((kid 0).kind == 3) := by
      rw [k1]; simp
      cases h : (kid 0).kind == 3 <;> simp_all
    rw [hx]
    obtain ⟨kd, hkd⟩ : ∃ z, z = (kid 0).kind := ⟨_, rfl⟩
    rw [← hkd] at hcal ⊢
    subst k1
    have HC := Lib.hid hcal; clear hcal
    clear hr hk hN hn hkd hx h0
    have t0 : ((kd : Int) == 3) = (kd == 3) := by
      cases h : kd == 3 <;> simp_all <;> omega
    go_enter Tryz.func82, Tryz.ntmps82
    go_wp2_with fail
    refine HC.out.mono ?_
    rintro e w' ⟨rfl, rfl⟩
    go_wp2_with fail
    go_ret
    exact ⟨rfl, rfl⟩
  · rw [decide_eq_true (Or.inl k1)]
    have t0 : (1 : Int) < (k : Int) := by omega
    clear hr hk hn k1
    go_enter Tryz.func82, Tryz.ntmps82
    go_wp2_with fail
    go_ret
    exact ⟨rfl, rfl⟩
/-- what an append leaves of the row that was appended to: it is owned as before -/
theorem run_append_pre {w : World} (B : Nat) (t ty e : TypeId) (i : TypeInfo) (z : Value) (size bytes : Nat) (ht : Tryz.prog.underlying t = some (.slice e)) (hi : Tryz.prog.info? e = some i) (hz : i.zero = some z)
    (hsize : i.size = size) (hby : i.bytes = bytes) (hzs : z.cells.size = size) (hsz : 0 < size)
    (v : Value) (n : Nat) (xs : List Value) (hown : w.ownsRow B e size v n xs)
    (a : Addr) (m c : Nat) (news : List Value) (hl : news.length = m * size) (hnews : ∀ j u, news[j]? = some u → w.cell? (a.add j) = some u) (h1 : ∀ u ∈ news, u.oneCell' = true)
    (h63 : n + m ≤ maxLen) (hbytes : (n + m) * bytes ≤ 140737488355328) (hbase : B ≤ w.heap.size) :
    ∃ v' w', (Builtin.append_ #[t, t] ty #[v, .slice (some a) m c]).run Tryz.prog w = .ok v' w' ∧ w'.ownsRow B e size v' (n + m) (xs ++ news) ∧ w.grownBy w' v.ownBlock ∧
      (v'.ownBlock = v.ownBlock ∨ v'.ownBlock = some w.heap.size) ∧ w'.ownsRow B e size v n xs := by
  obtain ⟨v', w', hr, h2, h3, _, h5⟩ := run_append_own_at (P := Tryz.prog) (w := w) B t ty e i z size bytes ht hi hz hsize hby hzs hsz v n xs hown a m c news hl hnews h1 h63 hbytes hbase
  refine ⟨v', w', hr, h2, h3, h5, hown.1, ?_⟩
  rcases hown.2 with h | ⟨g, cap, cur, rfl, hbg, hg, hnc, hcm, hcs, htake⟩
  · exact .inl h
  · refine .inr ⟨g, cap, ?_⟩
    by_cases hroom : n + m ≤ cap
    · subst hsize
      have hfit : n * i.size + news.length ≤ cur.size := by rw [hl, hcs, ← Nat.add_mul]; exact Nat.mul_le_mul_right _ hroom
      have hr2 := run_append_room (P := Tryz.prog) w t ty e i ht hi g n cap cur hg a m c news hl hnews h1 hroom hfit
      rw [hr] at hr2
      injection hr2 with _ hw
      subst hw
      refine ⟨_, rfl, hbg, setRow_heap w g cur _ e _ hg, hnc, hcm, ?_, ?_⟩
      · simp only [List.size_toArray, List.length_append, List.length_take, List.length_drop, Array.length_toList]
        omega
      · have hln : (cur.toList.take (n * i.size)).length = n * i.size := by rw [List.length_take, Array.length_toList]; omega
        rw [show (cur.toList.take (n * i.size) ++ news ++ cur.toList.drop (n * i.size + news.length)).toArray.toList = cur.toList.take (n * i.size) ++ (news ++ cur.toList.drop (n * i.size + news.length)) by simp]
        rw [List.take_append_of_le_length (by omega), List.take_of_length_le (by omega)]
        exact htake
    · subst hsize
      subst hby
      have hsmall : n + m ≤ 9223372036854775807 := by simp only [maxLen] at h63; omega
      have holds : ∀ j u, xs[j]? = some u → w.cell? ((⟨g, 0, none⟩ : Addr).add j) = some u := hown.cells (g := g) rfl
      have hr2 := run_append_grow (P := Tryz.prog) w t ty e i z ht hi hz ⟨g, 0, none⟩ n cap xs hown.1 holds a m c news hl hnews (by omega) (by omega) (growslice_fits (by omega) hbytes)
      rw [hr] at hr2
      injection hr2 with _ hw
      subst hw
      exact ⟨cur, rfl, hbg, (heap_alloc_old w.drew _ (Array.getElem?_eq_some_iff.1 hg).1).trans hg, hnc, hcm, hcs, htake⟩
end Go.Proofs.YtngfbkkfnooobaaGreatDoor
