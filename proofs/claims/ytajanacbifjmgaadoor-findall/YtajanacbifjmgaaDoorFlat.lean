/-
  Contracts of pairsOf and allHave.
-/
import Derived.Test.YtajanacbifjmgaaDoorEnts
import Derived.Test.YtajanacbifjmgaaDoorMade
namespace Go.Proofs.YtajanacbifjmgaaDoor
open Go.RowKit
set_option maxHeartbeats 1000000
set_option maxRecDepth 100000
/-- the first j pairs of entries lie in a row, their bytes in w -/
def Prs (w : World) (cur : Array Value) (L : List En) (j : Nat) : Prop := ∀ i (h : i < L.length), i < j → ∃ ka kc va vc,
  cur[i * 2]? = some (.slice ka (L[i]).2.1.length kc) ∧ cur[i * 2 + 1]? = some (.slice va (L[i]).2.2.length vc) ∧ Bts w ka (L[i]).2.1 ∧ Bts w va (L[i]).2.2
theorem pairsOf_any {w : World} {A : Option Addr} {L : List En} (ha : Ens w A L) (c : Nat) (hlen : L.length ≤ 1000) :
    Calls Tryd.prog 29 #[.slice A L.length c] w fun e w' => e = .returned (.slice (some ⟨w.heap.size, 0, none⟩) L.length L.length) ∧ Pcs w' (some ⟨w.heap.size, 0, none⟩) (eprs L) ∧ Below w.heap.size w w' := by
  obtain ⟨C, hC, hmk⟩ := run_make_pairs w L.length (by omega)
  obtain ⟨LL, hLL⟩ : ∃ n, n = L.length := ⟨_, rfl⟩
  have hnew : (w.alloc (.cells C 49)).heap[w.heap.size]? = some (.cells C 49 (0, 0)) := heap_alloc_new w _
  have hb0 : Below w.heap.size w (w.alloc (.cells C 49)) := (Below.refl _ _).alloc (Nat.le_refl _) _
  obtain ⟨w0, hw0⟩ : ∃ w0, w0 = w.alloc (.cells C 49) := ⟨_, rfl⟩
  rw [← hw0] at hmk hnew hb0
  rw [← hLL] at hmk hlen hC ⊢
  have HN := Lib.hid hnew; clear hnew
  have HB0 := Lib.hid hb0; clear hb0
  have HA := Lib.hid ha; clear ha
  have HC := Lib.hid hC; clear hC
  have HLL := Lib.hid hLL; clear hLL
  clear hw0
  go_enter Tryd.func29, Tryd.ntmps29
  go_wp2
  go_loopw [11] (fun u wr => ∃ j : Nat, u = .int .i64 j ∧ j ≤ LL ∧ Hid (Below w.heap.size w wr) ∧ Hid (∃ cur, wr.heap[w.heap.size]? = some (.cells cur 49 (0, 0)) ∧ cur.size = LL * 2 ∧ Prs w cur L j)) (fun u _ => LL - (intOf u).toNat)
  case atStart => exact ⟨0, rfl, by omega, HB0.out, C, HN.out, HC.out, fun i _ h => by omega⟩
  case round =>
    obtain ⟨j, rfl, hj, hbel, hinv⟩ := hrel
    by_cases hlt : j < LL
    · have hlt' : j < L.length := by rw [← HLL.out]; exact hlt
      obtain ⟨b, off, ka, kc, va, vc, rfl, hbl, g0, g1, g2, h3, h4⟩ := HA.out.at hlt'
      have h0 := (hbel.out.cell (p := ⟨b, off + j * 3, none⟩) hbl).trans g0
      have h1 := (hbel.out.cell (p := ⟨b, off + j * 3 + 1, none⟩) hbl).trans g1
      have h2 := (hbel.out.cell (p := ⟨b, off + j * 3 + 2, none⟩) hbl).trans g2
      clear g0 g1 g2
      obtain ⟨cur, hcur, hcs, hdone⟩ := hinv.out
      have hgl : w.heap.size < wr.heap.size := (Array.getElem?_eq_some_iff.1 hcur).1
      obtain ⟨g, hg⟩ : ∃ g, g = w.heap.size := ⟨_, rfl⟩
      rw [← hg] at hgl hcur ⊢
      obtain ⟨q, hq⟩ : ∃ q : Nat, q = (L[j]).1 := ⟨_, rfl⟩
      obtain ⟨x, hx⟩ : ∃ x : Nat, x = (L[j]).2.1.length := ⟨_, rfl⟩
      obtain ⟨y, hy⟩ : ∃ x : Nat, x = (L[j]).2.2.length := ⟨_, rfl⟩
      have hx' := hx
      have hy' := hy
      rw [← hq] at h0
      rw [← hx] at h1
      rw [← hy] at h2
      have u1 : ∃ u, cur[j * 2]? = some u := ⟨_, Array.getElem?_eq_getElem (by omega)⟩
      have u2 : ∃ u, cur[j * 2 + 1]? = some u := ⟨_, Array.getElem?_eq_getElem (by omega)⟩
      obtain ⟨u1, hu1⟩ := u1
      obtain ⟨u2, hu2⟩ := u2
      obtain ⟨wa, hwa⟩ : ∃ wa, wa = wr.alloc (.cells #[.int .u64 (q : Int), .slice ka x kc, .slice va y vc] 51) := ⟨_, rfl⟩
      have hba : Below w.heap.size w wa := by rw [hwa]; exact hbel.out.alloc hbel.out.size _
      have rg : wa.heap[g]? = some (.cells cur 49 (0, 0)) := by
        rw [hwa]
        exact (Below.heap_alloc wr _ g hgl).trans hcur
      have e1 := cell_of_row wa g (j * 2) _ 49 (0, 0) rg
      have e2 := cell_of_row wa g (j * 2 + 1) _ 49 (0, 0) rg
      rw [hu1] at e1
      rw [hu2] at e2
      have f1 : wa.frozen? ⟨g, j * 2, none⟩ = false := by simp [World.frozen?, rg]
      have f2 : wa.frozen? ⟨g, j * 2 + 1, none⟩ = false := by simp [World.frozen?, rg]
      have rn : wa.heap[wr.heap.size]? = some (.cells #[.int .u64 (q : Int), .slice ka x kc, .slice va y vc] 51 (0, 0)) := by rw [hwa]; exact heap_alloc_new wr _
      have c0 := cell_of_row wa wr.heap.size 0 _ 51 (0, 0) rn
      have c1 := cell_of_row wa wr.heap.size 1 _ 51 (0, 0) rn
      have c2 := cell_of_row wa wr.heap.size 2 _ 51 (0, 0) rn
      have HF : Hid (∃ cur', ((wa.setCell ⟨g, j * 2, none⟩ (.slice ka x kc)).setCell ⟨g, j * 2 + 1, none⟩ (.slice va y vc)).heap[g]? = some (.cells cur' 49 (0, 0)) ∧ cur'.size = LL * 2 ∧ Prs w cur' L (j + 1)) := by
        have h2 := heap_setCell_same wa g (j * 2) cur 49 (.slice ka x kc) rg
        have h3' := heap_setCell_same _ g (j * 2 + 1) _ 49 (.slice va y vc) h2
        refine ⟨_, h3', by simpa using hcs, fun i hi hij => ?_⟩
        rcases Nat.lt_or_ge i j with g1 | g1
        · obtain ⟨ka', kc', va', vc', e1, e2, e3, e4⟩ := hdone i hi g1
          refine ⟨ka', kc', va', vc', ?_, ?_, e3, e4⟩
          · rw [Array.getElem?_setIfInBounds_ne (by omega), Array.getElem?_setIfInBounds_ne (by omega)]; exact e1
          · rw [Array.getElem?_setIfInBounds_ne (by omega), Array.getElem?_setIfInBounds_ne (by omega)]; exact e2
        · obtain rfl : i = j := by omega
          refine ⟨ka, kc, va, vc, ?_, ?_, h3, h4⟩
          · rw [Array.getElem?_setIfInBounds_ne (by omega), Array.getElem?_setIfInBounds_self_of_lt (by omega), hx']
          · rw [Array.getElem?_setIfInBounds_self_of_lt (by simp; omega), hy']
      rw [← hg] at hba
      have HB : Hid (Below g w ((wa.setCell ⟨g, j * 2, none⟩ (.slice ka x kc)).setCell ⟨g, j * 2 + 1, none⟩ (.slice va y vc))) := by
        exact (hba.setCell (p := ⟨g, j * 2, none⟩) (Nat.le_refl _) _).setCell (p := ⟨g, j * 2 + 1, none⟩) (Nat.le_refl _) _
      subst hwa
      clear hx hy hx' hy' hq h3 h4 hdone hcs hinv hbel rg rn hcur hgl HA hu1 hu2 hba hlt'
      have HG := Lib.hid hg; clear hg
      clear c0 c1 c2
      go_wp2_with fail
      go_roundw
      case rel => exact ⟨j + 1, by go_num, by omega, HB.out, HF.out⟩
      case measure => simp [intOf]; omega
    · obtain rfl : j = LL := by omega
      obtain ⟨cur, hcur, hcs, hdone⟩ := hinv.out
      have HP : Hid (Pcs wr (some ⟨w.heap.size, 0, none⟩) (eprs L)) := by
        refine .inr ⟨w.heap.size, 0, rfl, (Array.getElem?_eq_some_iff.1 hcur).1, fun i hi => ?_⟩
        have hi2 : i < L.length := by simpa [eprs] using hi
        obtain ⟨ka, kc, va, vc, e1, e2, e3, e4⟩ := hdone i hi2 (by rw [HLL.out]; exact hi2)
        have e : (eprs L)[i] = (L[i]).2 := by simp [eprs]
        rw [e, Nat.zero_add, cell_of_row wr w.heap.size _ _ 49 (0, 0) hcur, cell_of_row wr w.heap.size _ _ 49 (0, 0) hcur]
        exact ⟨ka, kc, va, vc, e1, e2, e3.below hbel.out, e4.below hbel.out⟩
      clear hcur hcs hdone hinv
      go_wp2_with fail
      go_ret
      exact ⟨rfl, HP.out, hbel.out⟩
theorem allHave_any {w : World} {A : Option Addr} {L : List En} (ha : Ens w A L) (c h : Nat) (hlen : L.length ≤ 1000) :
    Calls Tryd.prog 33 #[.slice A L.length c, .int .u64 (h : Int)] w fun e w' => e = .returned (.bool (L.all fun e => e.1 == h)) ∧ Below w.heap.size w w' := by
  have HA := Lib.hid ha; clear ha
  obtain ⟨LL, hLL⟩ : ∃ n, n = L.length := ⟨_, rfl⟩
  rw [← hLL] at hlen ⊢
  have HLL := Lib.hid hLL; clear hLL
  go_enter Tryd.func33, Tryd.ntmps33
  go_wp2
  go_loopw [9] (fun u wr => ∃ j : Nat, u = .int .i64 j ∧ j ≤ LL ∧ Hid (Below w.heap.size w wr) ∧ Hid (∀ i (hi : i < L.length), i < j → (L[i]).1 = h)) (fun u _ => LL - (intOf u).toNat)
  case atStart => exact ⟨0, rfl, by omega, Below.refl _ _, fun i _ h => by omega⟩
  case round =>
    obtain ⟨j, rfl, hj, hbel, hinv⟩ := hrel
    by_cases hlt : j < LL
    · have hlt' : j < L.length := by rw [← HLL.out]; exact hlt
      obtain ⟨b, off, ka, kc, va, vc, rfl, hbl, h0, h1, h2, _, _⟩ := (HA.out.below hbel.out).at hlt'
      have HX : Hid (∀ i (hi : i < L.length), i < j + 1 → (L[j]).1 = h → (L[i]).1 = h) := fun i hi hij e => by
        rcases Nat.lt_or_ge i j with g | g
        · exact hinv.out i hi g
        · obtain rfl : i = j := by omega
          exact e
      have HY : Hid ((L[j]).1 ≠ h → L.all (fun e => e.1 == h) = false) := fun e => by
        rw [Bool.eq_false_iff]
        intro e2
        have := List.all_eq_true.1 e2 _ (List.getElem_mem hlt')
        exact e (by simpa using this)
      obtain ⟨q, hq⟩ : ∃ q : Nat, q = (L[j]).1 := ⟨_, rfl⟩
      obtain ⟨x, hx⟩ : ∃ x : Nat, x = (L[j]).2.1.length := ⟨_, rfl⟩
      obtain ⟨y, hy⟩ : ∃ x : Nat, x = (L[j]).2.2.length := ⟨_, rfl⟩
      rw [← hq] at h0 HX HY
      rw [← hx] at h1
      rw [← hy] at h2
      clear hq hx hy hinv HA
      by_cases hqh : q = h
      · subst hqh
        go_wp2
        go_roundw
        case rel => exact ⟨j + 1, by go_num, by omega, hbel.out.alloc hbel.out.size _, fun i hi hij => HX.out i hi hij rfl⟩
        case measure => simp [intOf]; omega
      · have hne : ((q : Int) != (h : Int)) = true := by simp; omega
        have hF := HY.out hqh
        have HF := Lib.hid hF; clear hF
        go_wp2
        go_ret
        refine ⟨ret_bool ?_, hbel.out.alloc hbel.out.size _⟩
        rw [HF.out]
    · obtain rfl : j = LL := by omega
      have HF : Hid (L.all (fun e => e.1 == h) = true) := by
        show _ = _
        rw [List.all_eq_true]
        intro e he
        obtain ⟨i, hi, rfl⟩ := List.getElem_of_mem he
        simpa using hinv.out i hi (by rw [HLL.out]; exact hi)
      clear hinv HA
      go_wp2
      go_ret
      refine ⟨ret_bool ?_, hbel.out⟩
      rw [HF.out]
end Go.Proofs.YtajanacbifjmgaaDoor
