/-
  Contracts of the reference: Come, Is, Get, Rank, Same.
-/
import Derived.Test.YtfhnmmiakknilaaRef
import Derived.Laws.StructEq
namespace Go.Proofs.Ytfhnmmiakknilaa
open Go.RowKit
set_option maxHeartbeats 400000
set_option maxRecDepth 100000
theorem take_more' {L M : List Pr} {j : Nat} (h : L.take j = M.take j) (h1 : j < L.length) (h2 : j < M.length) (e : L[j] = M[j]) : L.take (j + 1) = M.take (j + 1) := by
  rw [List.take_succ_eq_append_getElem h1, List.take_succ_eq_append_getElem h2, h, e]
theorem no_eq {L M : List Pr} {j : Nat} (h1 : j < L.length) (h2 : j < M.length) (e : L[j] ≠ M[j]) : decide (L = M) = false := decide_eq_false fun h => e (by subst h; rfl)
theorem refIs_any {w : World} {A B : Option Addr} {L M : List Pr} (ha : Pcs w A L) (hb : Rcs w B M) (c d : Nat) (hlen : M.length ≤ 1000) :
    Calls Try.prog 14 #[.slice A L.length c, .slice B M.length d] w fun e w' => e = .returned (.bool (decide (L = M))) ∧ Below w.heap.size w w' := by
  have HA := Lib.hid ha; clear ha
  have HM := Lib.hid hb; clear hb
  by_cases hl : L.length = M.length
  · have d0 : (((L.length : Nat) : Int) != ((M.length : Nat) : Int)) = false := by simp; omega
    have HL := Lib.hid hl; clear hl
    go_enter Try.func14, Try.ntmps14
    go_wp2
    go_loopw [13] (fun i wr => ∃ j : Nat, i = .int .i64 j ∧ j ≤ M.length ∧ Hid (Below w.heap.size w wr) ∧ Hid (L.take j = M.take j)) (fun i _ => M.length - (intOf i).toNat)
    case atStart => exact ⟨0, rfl, by omega, Below.refl _ _, by simp [Hid]⟩
    case round =>
      obtain ⟨j, rfl, hj, hbel, htk⟩ := hrel
      by_cases hlt2 : j < M.length
      · have hlt : j < L.length := by have := HL.out; omega
        obtain ⟨b, off, ka, kc, va, vc, rfl, hbl, h1, h2, h3, h4⟩ := (HA.out.below hbel.out).at hlt
        obtain ⟨b', rfl, hbl', k1, k2⟩ := (HM.out.below hbel.out).at hlt2
        have v1 : ∀ q, _ := fun q => conv_any (h3.below (below_drewN (Below.refl _ _) q)) kc
        have v2 : ∀ q, _ := fun q => conv_any (h4.below (below_drewN (Below.refl _ _) q)) vc
        obtain ⟨x1, hx1⟩ : ∃ x : Nat, x = (L[j]).1.length := ⟨_, rfl⟩
        obtain ⟨x2, hx2⟩ : ∃ x : Nat, x = (L[j]).2.length := ⟨_, rfl⟩
        obtain ⟨s, hs⟩ : ∃ s : ByteArray, s = ⟨(L[j]).1.toArray⟩ := ⟨_, rfl⟩
        obtain ⟨t, ht⟩ : ∃ s : ByteArray, s = ⟨(L[j]).2.toArray⟩ := ⟨_, rfl⟩
        obtain ⟨s', hs'⟩ : ∃ s : ByteArray, s = ⟨(M[j]).1.toArray⟩ := ⟨_, rfl⟩
        obtain ⟨t', ht'⟩ : ∃ s : ByteArray, s = ⟨(M[j]).2.toArray⟩ := ⟨_, rfl⟩
        simp only [← hx1, ← hx2, ← hs, ← ht, ← hs', ← ht'] at h1 h2 k1 k2 v1 v2
        clear h3 h4 hx1 hx2 HA HM
        by_cases he1 : (L[j]).1 = (M[j]).1
        · have e1 : s = s' := by rw [hs, hs', he1]
          subst e1
          by_cases he2 : (L[j]).2 = (M[j]).2
          · have e2 : t = t' := by rw [ht, ht', he2]
            subst e2
            have HE : Hid (L[j] = M[j]) := Prod.ext he1 he2
            clear hs ht hs' ht' he1 he2
            go_wp2_with fail
            go_quiet (fail)
            go_wp2_with fail
            go_roundw
            case rel => exact ⟨j + 1, by go_num, by omega, below_drewN hbel.out _, take_more' htk.out hlt hlt2 HE.out⟩
            case measure => simp [intOf]; omega
          · have e2 : (t.toList == t'.toList) = false := by rw [ht, ht']; exact bs_ne he2
            have e3 : (t.toList != t'.toList) = true := by simp [bne, e2]
            have HE := Lib.hid (no_eq hlt hlt2 fun e => he2 (by rw [e]))
            clear hs ht hs' ht' he1 he2
            go_wp2_with fail
            go_quiet (fail)
            go_wp2_with fail
            go_ret
            exact ⟨ret_bool HE.out.symm, below_drewN hbel.out _⟩
        · have e2 : (s.toList == s'.toList) = false := by rw [hs, hs']; exact bs_ne he1
          have e3 : (s.toList != s'.toList) = true := by simp [bne, e2]
          have HE := Lib.hid (no_eq hlt hlt2 fun e => he1 (by rw [e]))
          clear hs ht hs' ht' he1
          go_wp2_with fail
          go_quiet (fail)
          go_wp2_with fail
          go_ret
          exact ⟨ret_bool HE.out.symm, below_drewN hbel.out _⟩
      · obtain rfl : j = M.length := by omega
        have e : L = M := by
          have h := htk.out
          rw [List.take_length, ← HL.out, List.take_length] at h
          exact h
        have HE := Lib.hid (decide_eq_true e); clear e
        go_wp2_with fail
        go_ret
        exact ⟨ret_bool HE.out.symm, hbel.out⟩
  · have d0 : (((L.length : Nat) : Int) != ((M.length : Nat) : Int)) = true := by simp; omega
    have e : decide (L = M) = false := decide_eq_false fun e => hl (by rw [e])
    rw [e]
    go_enter Try.func14, Try.ntmps14
    go_wp2
    go_ret
    exact ⟨rfl, Below.refl _ _⟩
theorem has_take {M : List Pr} {j : Nat} {k : List UInt8} (h : j < M.length) : has (M.take (j + 1)) k = (has (M.take j) k || decide ((M[j]).1 = k)) := by
  rw [List.take_succ_eq_append_getElem h]
  simp only [has, List.any_append, List.any_cons, List.any_nil, Bool.or_false]
end Go.Proofs.Ytfhnmmiakknilaa
