/-
  Contracts of Same and Find, with slices.EqualFunc and slices.BinarySearchFunc at pairs.
-/
import Derived.Test.YtljnlahgfdenfaaWalks
namespace Go.Proofs.Ytljnlahgfdenfaa
open Go.RowKit
set_option maxHeartbeats 400000
set_option maxRecDepth 100000
theorem take_more {L M : List Pr} {j : Nat} (h : L.take j = M.take j) (h1 : j < L.length) (h2 : j < M.length) (e : L[j] = M[j]) : L.take (j + 1) = M.take (j + 1) := by
  rw [List.take_succ_eq_append_getElem h1, List.take_succ_eq_append_getElem h2, h, e]
theorem pr_eq (p q : Pr) : (p.1 == q.1 && p.2 == q.2) = decide (p = q) := by
  obtain ⟨a, b⟩ := p
  obtain ⟨c, d⟩ := q
  rw [Bool.eq_iff_iff]
  simp
theorem sameF_any {w : World} {A B : Option Addr} {L M : List Pr} (ha : Pcs w A L) (hb : Pcs w B M) (c d : Nat) (hlen : L.length ≤ 1000) :
    Calls Try.prog 28 #[.slice A L.length c, .slice B M.length d, .func (.func 29) #[] #[]] w fun e w' => e = .returned (.bool (decide (L = M))) ∧ Below w.heap.size w w' := by
  have HA := Lib.hid ha; clear ha
  have HM := Lib.hid hb; clear hb
  have eg : ∀ args w, (callFunc 29 args).run Try.prog w = .ok (.enter 29 args) w := enters_of Try.func29 (by kernel_rfl) rfl
  by_cases hl : L.length = M.length
  · have d0 : (((L.length : Nat) : Int) != ((M.length : Nat) : Int)) = false := by simp; omega
    have HL := Lib.hid hl; clear hl
    go_enter Try.func28, Try.ntmps28
    go_wp2
    go_loopw [17] (fun i wr => ∃ j : Nat, i = .int .i64 j ∧ j ≤ L.length ∧ Hid (Below w.heap.size w wr) ∧ Hid (L.take j = M.take j)) (fun i _ => L.length - (intOf i).toNat)
    case atStart => exact ⟨0, rfl, by omega, Below.refl _ _, by simp [Hid]⟩
    case round =>
      obtain ⟨j, rfl, hj, hbel, htk⟩ := hrel
      by_cases hlt : j < L.length
      · have hlt2 : j < M.length := by have := HL.out; omega
        obtain ⟨b, off, ka, kc, va, vc, rfl, hbl, h1, h2, h3, h4⟩ := (HA.out.below hbel.out).at hlt
        obtain ⟨b', off', ka', kc', va', vc', rfl, hbl', k1, k2, k3, k4⟩ := (HM.out.below hbel.out).at hlt2
        have hq := fun W (hW : Below wr.heap.size wr W) => pairEq_any (h3.below hW) (k3.below hW) (h4.below hW) (k4.below hW) kc vc kc' vc'
        simp only [pr_eq (L[j]) (M[j])] at hq
        obtain ⟨x1, hx1⟩ : ∃ x : Nat, x = (L[j]).1.length := ⟨_, rfl⟩
        obtain ⟨x2, hx2⟩ : ∃ x : Nat, x = (L[j]).2.length := ⟨_, rfl⟩
        obtain ⟨y1, hy1⟩ : ∃ x : Nat, x = (M[j]).1.length := ⟨_, rfl⟩
        obtain ⟨y2, hy2⟩ : ∃ x : Nat, x = (M[j]).2.length := ⟨_, rfl⟩
        simp only [← hx1, ← hx2, ← hy1, ← hy2] at h1 h2 k1 k2 hq
        clear h3 h4 k3 k4 hx1 hx2 hy1 hy2 HA HM
        by_cases he : L[j] = M[j]
        · rw [decide_eq_true he] at hq
          have HQ := Lib.hid hq; clear hq
          have HE := Lib.hid he; clear he
          go_wp2_with fail
          refine (HQ.out _ (((Below.refl _ _).alloc (Nat.le_refl _) _).alloc (by simp) _)).mono ?_
          rintro e w' ⟨rfl, hb⟩
          have hb2 := below_then (((Below.refl wr.heap.size wr).alloc (Nat.le_refl _) _).alloc (by simp) _) hb
          have HB := Lib.hid hb2; clear hb hb2
          go_wp2_with fail
          go_roundw
          case rel => exact ⟨j + 1, by go_num, by omega, below_then hbel.out HB.out, take_more htk.out hlt hlt2 HE.out⟩
          case measure => simp [intOf]; omega
        · rw [decide_eq_false he] at hq
          have HQ := Lib.hid hq; clear hq
          have e : decide (L = M) = false := decide_eq_false fun e => he (by subst e; rfl)
          have HE := Lib.hid e; clear e he
          go_wp2_with fail
          refine (HQ.out _ (((Below.refl _ _).alloc (Nat.le_refl _) _).alloc (by simp) _)).mono ?_
          rintro e w' ⟨rfl, hb⟩
          have hb2 := below_then (((Below.refl wr.heap.size wr).alloc (Nat.le_refl _) _).alloc (by simp) _) hb
          have HB := Lib.hid hb2; clear hb hb2
          go_wp2_with fail
          go_ret
          exact ⟨ret_bool HE.out.symm, below_then hbel.out HB.out⟩
      · obtain rfl : j = L.length := by omega
        have e : L = M := by
          have h := htk.out
          rw [List.take_length, HL.out, List.take_length] at h
          exact h
        go_wp2_with fail
        go_ret
        exact ⟨ret_bool (decide_eq_true e).symm, hbel.out⟩
  · have d0 : (((L.length : Nat) : Int) != ((M.length : Nat) : Int)) = true := by simp; omega
    have e : decide (L = M) = false := decide_eq_false fun e => hl (by rw [e])
    rw [e]
    go_enter Try.func28, Try.ntmps28
    go_wp2
    go_ret
    exact ⟨rfl, Below.refl _ _⟩
theorem same_any {w : World} {A B : Option Addr} {L M : List Pr} (ha : Pcs w A L) (hb : Pcs w B M) (c d : Nat) (hlen : L.length ≤ 1000) :
    Calls Try.prog 16 #[.slice A L.length c, .slice B M.length d] w fun e w' => e = .returned (.bool (decide (L = M))) ∧ Below w.heap.size w w' := by
  have h := sameF_any ha hb c d hlen
  obtain ⟨q, hq⟩ : ∃ q, q = decide (L = M) := ⟨_, rfl⟩
  rw [← hq] at h ⊢
  have H := Lib.hid h; clear h
  clear ha hb hq
  go_enter Try.func16, Try.ntmps16
  go_wp2_with fail
  refine H.out.mono ?_
  rintro e w' ⟨rfl, hb⟩
  have HB := Lib.hid hb; clear hb
  go_wp2_with fail
  go_ret
  exact ⟨rfl, HB.out⟩
theorem ret_two {a b : Int} {p q : Bool} (h : a = b) (k : p = q) : Ending.returned (.tuple #[.int .i64 a, .bool p]) = .returned (.tuple #[.int .i64 b, .bool q]) := by rw [h, k]
theorem findCmp_any {w : World} {ka kb va : Option Addr} {l k : List UInt8} (h1 : Bts w ka l) (h2 : Bts w kb k) (c1 c2 x vc : Nat) :
    Calls Try.prog 32 #[.agg #[.slice ka l.length c1, .slice va x vc], .slice kb k.length c2] w fun e w' => e = .returned (.int .i64 (cmp l k)) ∧ Below w.heap.size w w' := by
  have hb : Below w.heap.size w (w.alloc (.cells #[.slice ka l.length c1, .slice va x vc] 37)) := (Below.refl _ _).alloc (Nat.le_refl _) _
  have hc := compare_any (h1.below hb) (h2.below hb) c1 c2
  have HB := Lib.hid hb; clear hb
  have HC := Lib.hid hc; clear hc
  clear h1 h2
  go_enter Try.func32, Try.ntmps32
  go_wp2_with fail
  refine HC.out.mono ?_
  rintro e w' ⟨rfl, rfl⟩
  go_wp2_with fail
  go_ret
  exact ⟨rfl, HB.out⟩
/-- the search: all ahead of i are less, none from j on is -/
theorem search_any {w : World} {A K : Option Addr} {L : List Pr} {k : List UInt8} (ha : Pcs w A L) (hk : Bts w K k) (hs : srt L) (c d : Nat) (hlen : L.length ≤ 1000) :
    Calls Try.prog 31 #[.slice A L.length c, .slice K k.length d, .func (.func 32) #[] #[]] w fun e w' => e = .returned (.tuple #[.int .i64 (rank L k : Int), .bool (has L k)]) ∧ Below w.heap.size w w' := by
  have HA := Lib.hid ha; clear ha
  have HK := Lib.hid hk; clear hk
  have HS := Lib.hid hs; clear hs
  have eg : ∀ args w, (callFunc 32 args).run Try.prog w = .ok (.enter 32 args) w := enters_of Try.func32 (by kernel_rfl) rfl
  obtain ⟨kl, hkl⟩ : ∃ x : Nat, x = k.length := ⟨_, rfl⟩
  rw [← hkl]
  have HKL := Lib.hid hkl; clear hkl
  go_enter Try.func31, Try.ntmps31
  go_wp2
  go_loopw [9, 10] (fun u v wr => ∃ i j : Nat, u = .int .i64 i ∧ v = .int .i64 j ∧ i ≤ j ∧ j ≤ L.length ∧ Hid (Below w.heap.size w wr) ∧ Hid (∀ t (h : t < L.length), t < i → cmp (L[t]).1 k < 0) ∧ Hid (∀ t (h : t < L.length), j ≤ t → 0 ≤ cmp (L[t]).1 k)) (fun u v _ => (intOf v).toNat - (intOf u).toNat)
  case atStart => exact ⟨0, L.length, rfl, rfl, by omega, by omega, Below.refl _ _, fun t _ h => by omega, fun t h g => by omega⟩
  case round =>
    obtain ⟨i, j, rfl, rfl, hij, hjl, hbel, hlo, hhi⟩ := hrel
    by_cases hlt : i < j
    · obtain ⟨h, hh⟩ : ∃ h : Nat, h = (i + j) / 2 := ⟨_, rfl⟩
      have hhl : h < L.length := by omega
      obtain ⟨b, off, ka, kc, va, vc, rfl, hbl, h1, h2, h3, h4⟩ := (HA.out.below hbel.out).at hhl
      have hq := findCmp_any h3 (HK.out.below hbel.out) kc d (va := va) (L[h]).2.length vc
      obtain ⟨x1, hx1⟩ : ∃ x : Nat, x = (L[h]).1.length := ⟨_, rfl⟩
      obtain ⟨x2, hx2⟩ : ∃ x : Nat, x = (L[h]).2.length := ⟨_, rfl⟩
      obtain ⟨z, hz⟩ : ∃ x : Int, x = cmp (L[h]).1 k := ⟨_, rfl⟩
      rw [← HKL.out, ← hx1, ← hx2, ← hz] at hq
      rw [← hx1] at h1
      rw [← hx2] at h2
      clear h3 h4 hx1 hx2 HA HK
      have HQ := Lib.hid hq; clear hq
      have HZ := Lib.hid hz; clear hz
      have hdiv : ((i : Int) + (j : Int)) / 2 = (h : Int) := by omega
      have hih : i ≤ h := by omega
      have hhj : h < j := by omega
      clear hh
      by_cases hz : z < 0
      · go_wp2_with fail
        refine HQ.out.mono ?_
        rintro e w' ⟨rfl, hb⟩
        have HB := Lib.hid hb; clear hb
        go_wp2_with fail
        go_roundw
        case rel =>
          refine ⟨h + 1, j, by go_num, rfl, by omega, hjl, below_then hbel.out HB.out, ?_, hhi⟩
          intro t ht hth
          rcases Nat.lt_or_ge t h with g | g
          · exact cmp_lt_trans (srt_at HS.out ht hhl g) (by rw [← HZ.out]; exact hz)
          · obtain rfl : t = h := by omega
            rw [← HZ.out]; exact hz
        case measure => simp [intOf]; omega
      · go_wp2_with fail
        refine HQ.out.mono ?_
        rintro e w' ⟨rfl, hb⟩
        have HB := Lib.hid hb; clear hb
        go_wp2_with fail
        go_roundw
        case rel =>
          refine ⟨i, h, rfl, rfl, by omega, by omega, below_then hbel.out HB.out, hlo, ?_⟩
          intro t ht hth
          rcases Nat.lt_or_ge h t with g | g
          · have e1 := srt_at HS.out hhl ht g
            rcases Int.lt_or_le (cmp (L[t]).1 k) 0 with e | e
            · have e2 := cmp_lt_trans e1 e
              rw [← HZ.out] at e2
              omega
            · exact e
          · obtain rfl : t = h := by omega
            rw [← HZ.out]; omega
        case measure => simp [intOf]; omega
    · obtain rfl : i = j := by omega
      have hr := rank_split L k i hjl hlo.out (fun t h g e => by have := hhi.out t h g; omega)
      have hh := has_split L k HS.out i hlo.out (fun t h g e => by have := hhi.out t h g; omega)
      by_cases hil : i < L.length
      · obtain ⟨b, off, ka, kc, va, vc, rfl, hbl, h1, h2, h3, h4⟩ := (HA.out.below hbel.out).at hil
        have hq := findCmp_any h3 (HK.out.below hbel.out) kc d (va := va) (L[i]).2.length vc
        obtain ⟨x1, hx1⟩ : ∃ x : Nat, x = (L[i]).1.length := ⟨_, rfl⟩
        obtain ⟨x2, hx2⟩ : ∃ x : Nat, x = (L[i]).2.length := ⟨_, rfl⟩
        obtain ⟨z, hz⟩ : ∃ x : Int, x = cmp (L[i]).1 k := ⟨_, rfl⟩
        rw [← HKL.out, ← hx1, ← hx2, ← hz] at hq
        rw [← hx1] at h1
        rw [← hx2] at h2
        have hres : has L k = (z == 0) := by
          rw [Bool.eq_iff_iff, hh, hz]
          simp only [beq_iff_eq, cmp_iff]
          exact ⟨fun h => h.2, fun h => ⟨hil, h⟩⟩
        have HR := Lib.hid hr; clear hr
        have HE := Lib.hid hres; clear hres
        clear h3 h4 hx1 hx2 HA HK hz hh hhi hlo HKL
        have HQ := Lib.hid hq; clear hq
        go_wp2_with fail
        refine HQ.out.mono ?_
        rintro e w' ⟨rfl, hb⟩
        have HB := Lib.hid hb; clear hb
        go_wp2_with fail
        go_ret2
        exact ⟨ret_two (by rw [HR.out]) HE.out.symm, below_then hbel.out HB.out⟩
      · have hres : has L k = false := by
          rw [Bool.eq_false_iff, ne_eq, hh]
          exact fun h => hil h.1
        have HR := Lib.hid hr; clear hr
        have HE := Lib.hid hres; clear hres
        clear hh hhi hlo HKL HA HK
        go_wp2_with fail
        go_ret2
        exact ⟨ret_two (by rw [HR.out]) HE.out.symm, hbel.out⟩
theorem find_any {w : World} {A K : Option Addr} {L : List Pr} {k : List UInt8} (ha : Pcs w A L) (hk : Bts w K k) (hs : srt L) (c d : Nat) (hlen : L.length ≤ 1000) :
    Calls Try.prog 19 #[.slice A L.length c, .slice K k.length d] w fun e w' => e = .returned (.tuple #[.int .i64 (rank L k : Int), .bool (has L k)]) ∧ Below w.heap.size w w' := by
  have h := search_any ha hk hs c d hlen
  have H := Lib.hid h; clear h
  clear ha hk hs
  go_enter Try.func19, Try.ntmps19
  go_wp2_with fail
  refine H.out.mono ?_
  rintro e w' ⟨rfl, hb⟩
  have HB := Lib.hid hb; clear hb
  go_wp2_with fail
  go_ret2
  exact ⟨rfl, HB.out⟩
end Go.Proofs.Ytljnlahgfdenfaa
