/-
  Contracts of Same and Find, with slices.EqualFunc and slices.BinarySearchFunc at pairs.
-/
import Derived.Test.YtbgohpcfinojoaaWalks
namespace Go.Proofs.Ytbgohpcfinojoaa
open Go.RowKit
set_option maxHeartbeats 400000
set_option maxRecDepth 100000
theorem take_more {L M : List Pr} {j : Nat} (h : L.take j = M.take j) (h1 : j < L.length) (h2 : j < M.length) (e : L[j] = M[j]) : L.take (j + 1) = M.take (j + 1) := by
  rw [List.take_succ_eq_append_getElem h1, List.take_succ_eq_append_getElem h2, h, e]
theorem pr_eq (p q : Pr) : (p.1 == q.1 && p.2 == q.2) = decide (p = q) := by
  obtain ⟨a, b⟩ := p
  obtain ⟨c, d⟩ := q
  rw [Bool.eq_iff_iff]
  simp
theorem sameF_any {w : World} {A B : Option Addr} {L M : List Pr} (ha : Pcs w A L) (hb : Pcs w B M) (c d : Nat) (hlen : L.length ≤ 1000) :
    Calls Try.prog 41 #[.slice A L.length c, .slice B M.length d, .func (.func 42) #[] #[]] w fun e w' => e = .returned (.bool (decide (L = M))) ∧ Below w.heap.size w w' := by
  have HA := Lib.hid ha; clear ha
  have HM := Lib.hid hb; clear hb
  have eg : ∀ args w, (callFunc 42 args).run Try.prog w = .ok (.enter 42 args) w := enters_of Try.func42 (by kernel_rfl) rfl
  by_cases hl : L.length = M.length
  · have d0 : (((L.length : Nat) : Int) != ((M.length : Nat) : Int)) = false := by simp; omega
    have HL := Lib.hid hl; clear hl
    go_enter Try.func41, Try.ntmps41
    go_wp2
    go_loopw [17] (fun i wr => ∃ j : Nat, i = .int .i64 j ∧ j ≤ L.length ∧ Hid (Below w.heap.size w wr) ∧ Hid (L.take j = M.take j)) (fun i _ => L.length - (intOf i).toNat)
    case atStart => exact ⟨0, rfl, by omega, Below.refl _ _, by simp [Hid]⟩
    case round =>
      obtain ⟨j, rfl, hj, hbel, htk⟩ := hrel
      by_cases hlt : j < L.length
      · have hlt2 : j < M.length := by have := HL.out; omega
        obtain ⟨b, off, ka, kc, va, vc, rfl, hbl, h1, h2, h3, h4⟩ := (HA.out.below hbel.out).at hlt
        obtain ⟨b', off', ka', kc', va', vc', rfl, hbl', k1, k2, k3, k4⟩ := (HM.out.below hbel.out).at hlt2
        have hq := fun W (hW : Below wr.heap.size wr W) => pairEq_any (h3.below hW) (k3.below hW) (h4.below hW) (k4.below hW) kc vc kc' vc'
        simp only [pr_eq (L[j]) (M[j])] at hq
        obtain ⟨x1, hx1⟩ : ∃ x : Nat, x = (L[j]).1.length := ⟨_, rfl⟩
        obtain ⟨x2, hx2⟩ : ∃ x : Nat, x = (L[j]).2.length := ⟨_, rfl⟩
        obtain ⟨y1, hy1⟩ : ∃ x : Nat, x = (M[j]).1.length := ⟨_, rfl⟩
        obtain ⟨y2, hy2⟩ : ∃ x : Nat, x = (M[j]).2.length := ⟨_, rfl⟩
        simp only [← hx1, ← hx2, ← hy1, ← hy2] at h1 h2 k1 k2 hq
        clear h3 h4 k3 k4 hx1 hx2 hy1 hy2 HA HM
        by_cases he : L[j] = M[j]
        · rw [decide_eq_true he] at hq
          have HQ := Lib.hid hq; clear hq
          have HE := Lib.hid he; clear he
          go_wp2_with fail
          refine (HQ.out _ (((Below.refl _ _).alloc (Nat.le_refl _) _).alloc (by simp) _)).mono ?_
          rintro e w' ⟨rfl, hb⟩
          have hb2 := below_then (((Below.refl wr.heap.size wr).alloc (Nat.le_refl _) _).alloc (by simp) _) hb
          have HB := Lib.hid hb2; clear hb hb2
          go_wp2_with fail
          go_roundw
          case rel => exact ⟨j + 1, by go_num, by omega, below_then hbel.out HB.out, take_more htk.out hlt hlt2 HE.out⟩
          case measure => simp [intOf]; omega
        · rw [decide_eq_false he] at hq
          have HQ := Lib.hid hq; clear hq
          have e : decide (L = M) = false := decide_eq_false fun e => he (by subst e; rfl)
          have HE := Lib.hid e; clear e he
          go_wp2_with fail
          refine (HQ.out _ (((Below.refl _ _).alloc (Nat.le_refl _) _).alloc (by simp) _)).mono ?_
          rintro e w' ⟨rfl, hb⟩
          have hb2 := below_then (((Below.refl wr.heap.size wr).alloc (Nat.le_refl _) _).alloc (by simp) _) hb
          have HB := Lib.hid hb2; clear hb hb2
          go_wp2_with fail
          go_ret
          exact ⟨ret_bool HE.out.symm, below_then hbel.out HB.out⟩
      · obtain rfl : j = L.length := by omega
        have e : L = M := by
          have h := htk.out
          rw [List.take_length, HL.out, List.take_length] at h
          exact h
        go_wp2_with fail
        go_ret
        exact ⟨ret_bool (decide_eq_true e).symm, hbel.out⟩
  · have d0 : (((L.length : Nat) : Int) != ((M.length : Nat) : Int)) = true := by simp; omega
    have e : decide (L = M) = false := decide_eq_false fun e => hl (by rw [e])
    rw [e]
    go_enter Try.func41, Try.ntmps41
    go_wp2
    go_ret
    exact ⟨rfl, Below.refl _ _⟩
theorem same_any {w : World} {A B : Option Addr} {L M : List Pr} (ha : Pcs w A L) (hb : Pcs w B M) (c d : Nat) (hlen : L.length ≤ 1000) :
    Calls Try.prog 20 #[.slice A L.length c, .slice B M.length d] w fun e w' => e = .returned (.bool (decide (L = M))) ∧ Below w.heap.size w w' := by
  have h := sameF_any ha hb c d hlen
  obtain ⟨q, hq⟩ : ∃ q, q = decide (L = M) := ⟨_, rfl⟩
  rw [← hq] at h ⊢
  have H := Lib.hid h; clear h
  clear ha hb hq
  go_enter Try.func20, Try.ntmps20
  go_wp2_with fail
  refine H.out.mono ?_
  rintro e w' ⟨rfl, hb⟩
  have HB := Lib.hid hb; clear hb
  go_wp2_with fail
  go_ret
  exact ⟨rfl, HB.out⟩
end Go.Proofs.Ytbgohpcfinojoaa
