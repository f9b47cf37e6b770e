/-
  Contracts of Same, with slices.EqualFunc at pairs.
-/
import Derived.Test.YtnniojlofhbioaaWalks
namespace Go.Proofs.Ytnniojlofhbioaa
open Go.RowKit
set_option maxHeartbeats 400000
set_option maxRecDepth 100000
theorem equal_any {w : World} {A B : Option Addr} {l m : List UInt8} (ha : Bts w A l) (hb : Bts w B m) (c d : Nat) :
    Calls Try.prog 40 #[.slice A l.length c, .slice B m.length d] w fun e w' => e = .returned (.bool (l == m)) ∧ w = w' := by
  have hc := conv_any ha c
  have hd := conv_any hb d
  clear ha hb
  go_enter Try.func40, Try.ntmps40
  go_wp2
  go_ret
  refine ⟨ret_bool ?_, rfl⟩
  simp
theorem pairEq_any {w : World} {ka kb va vb : Option Addr} {l l' m m' : List UInt8} (h1 : Bts w ka l) (h2 : Bts w kb l') (h3 : Bts w va m) (h4 : Bts w vb m') (c1 c2 c3 c4 : Nat) :
    Calls Try.prog 39 #[.agg #[.slice ka l.length c1, .slice va m.length c2], .agg #[.slice kb l'.length c3, .slice vb m'.length c4]] w fun e w' => e = .returned (.bool (l == l' && m == m')) ∧ Below w.heap.size w w' := by
  have hb : Below w.heap.size w ((w.alloc (.cells #[.slice ka l.length c1, .slice va m.length c2] 48)).alloc (.cells #[.slice kb l'.length c3, .slice vb m'.length c4] 48)) :=
    ((Below.refl _ _).alloc (Nat.le_refl _) _).alloc (by simp) _
  obtain ⟨W, hW⟩ : ∃ W, W = ((w.alloc (.cells #[.slice ka l.length c1, .slice va m.length c2] 48)).alloc (.cells #[.slice kb l'.length c3, .slice vb m'.length c4] 48)) := ⟨_, rfl⟩
  rw [← hW] at hb
  have e1 := equal_any (h1.below hb) (h2.below hb) c1 c3
  have e2 := equal_any (h3.below hb) (h4.below hb) c2 c4
  rw [hW] at e1 e2 hb
  clear hW h1 h2 h3 h4
  have HB := Lib.hid hb; clear hb
  cases hk : l == l' with
  | true =>
    rw [hk] at e1
    obtain ⟨q, hq⟩ : ∃ q, q = (m == m') := ⟨_, rfl⟩
    rw [← hq] at e2 ⊢
    clear hk hq
    have H1 := Lib.hid e1; clear e1
    have H2 := Lib.hid e2; clear e2
    go_enter Try.func39, Try.ntmps39
    go_wp2_with fail
    refine H1.out.mono ?_
    rintro e w' ⟨rfl, rfl⟩
    go_wp2_with fail
    refine H2.out.mono ?_
    rintro e w' ⟨rfl, rfl⟩
    go_wp2_with fail
    go_ret
    exact ⟨rfl, HB.out⟩
  | false =>
    rw [hk] at e1
    clear hk
    have H1 := Lib.hid e1; clear e1 e2
    go_enter Try.func39, Try.ntmps39
    go_wp2_with fail
    refine H1.out.mono ?_
    rintro e w' ⟨rfl, rfl⟩
    go_wp2_with fail
    go_ret
    exact ⟨rfl, HB.out⟩
theorem take_more {L M : List Pr} {j : Nat} (h : L.take j = M.take j) (h1 : j < L.length) (h2 : j < M.length) (e : L[j] = M[j]) : L.take (j + 1) = M.take (j + 1) := by
  rw [List.take_succ_eq_append_getElem h1, List.take_succ_eq_append_getElem h2, h, e]
theorem pr_eq (p q : Pr) : (p.1 == q.1 && p.2 == q.2) = decide (p = q) := by
  obtain ⟨a, b⟩ := p
  obtain ⟨c, d⟩ := q
  rw [Bool.eq_iff_iff]
  simp
theorem sameF_any {w : World} {A B : Option Addr} {L M : List Pr} (ha : Pcs w A L) (hb : Pcs w B M) (c d : Nat) (hlen : L.length ≤ 1000) :
    Calls Try.prog 38 #[.slice A L.length c, .slice B M.length d, .func (.func 39) #[] #[]] w fun e w' => e = .returned (.bool (decide (L = M))) ∧ Below w.heap.size w w' := by
  have HA := Lib.hid ha; clear ha
  have HM := Lib.hid hb; clear hb
  have eg : ∀ args w, (callFunc 39 args).run Try.prog w = .ok (.enter 39 args) w := enters_of Try.func39 (by kernel_rfl) rfl
  by_cases hl : L.length = M.length
  · have d0 : (((L.length : Nat) : Int) != ((M.length : Nat) : Int)) = false := by simp; omega
    have HL := Lib.hid hl; clear hl
    go_enter Try.func38, Try.ntmps38
    go_wp2
    go_loopw [17] (fun i wr => ∃ j : Nat, i = .int .i64 j ∧ j ≤ L.length ∧ Hid (Below w.heap.size w wr) ∧ Hid (L.take j = M.take j)) (fun i _ => L.length - (intOf i).toNat)
    case atStart => exact ⟨0, rfl, by omega, Below.refl _ _, by simp [Hid]⟩
    case round =>
      obtain ⟨j, rfl, hj, hbel, htk⟩ := hrel
      by_cases hlt : j < L.length
      · have hlt2 : j < M.length := by have := HL.out; omega
        obtain ⟨b, off, ka, kc, va, vc, rfl, hbl, h1, h2, h3, h4⟩ := (HA.out.below hbel.out).at hlt
        obtain ⟨b', off', ka', kc', va', vc', rfl, hbl', k1, k2, k3, k4⟩ := (HM.out.below hbel.out).at hlt2
        have hq := fun W (hW : Below wr.heap.size wr W) => pairEq_any (h3.below hW) (k3.below hW) (h4.below hW) (k4.below hW) kc vc kc' vc'
        simp only [pr_eq (L[j]) (M[j])] at hq
        obtain ⟨x1, hx1⟩ : ∃ x : Nat, x = (L[j]).1.length := ⟨_, rfl⟩
        obtain ⟨x2, hx2⟩ : ∃ x : Nat, x = (L[j]).2.length := ⟨_, rfl⟩
        obtain ⟨y1, hy1⟩ : ∃ x : Nat, x = (M[j]).1.length := ⟨_, rfl⟩
        obtain ⟨y2, hy2⟩ : ∃ x : Nat, x = (M[j]).2.length := ⟨_, rfl⟩
        simp only [← hx1, ← hx2, ← hy1, ← hy2] at h1 h2 k1 k2 hq
        clear h3 h4 k3 k4 hx1 hx2 hy1 hy2 HA HM
        by_cases he : L[j] = M[j]
        · rw [decide_eq_true he] at hq
          have HQ := Lib.hid hq; clear hq
          have HE := Lib.hid he; clear he
          go_wp2_with fail
          refine (HQ.out _ (((Below.refl _ _).alloc (Nat.le_refl _) _).alloc (by simp) _)).mono ?_
          rintro e w' ⟨rfl, hb⟩
          have hb2 := below_then (((Below.refl wr.heap.size wr).alloc (Nat.le_refl _) _).alloc (by simp) _) hb
          have HB := Lib.hid hb2; clear hb hb2
          go_wp2_with fail
          go_roundw
          case rel => exact ⟨j + 1, by go_num, by omega, below_then hbel.out HB.out, take_more htk.out hlt hlt2 HE.out⟩
          case measure => simp [intOf]; omega
        · rw [decide_eq_false he] at hq
          have HQ := Lib.hid hq; clear hq
          have e : decide (L = M) = false := decide_eq_false fun e => he (by subst e; rfl)
          have HE := Lib.hid e; clear e he
          go_wp2_with fail
          refine (HQ.out _ (((Below.refl _ _).alloc (Nat.le_refl _) _).alloc (by simp) _)).mono ?_
          rintro e w' ⟨rfl, hb⟩
          have hb2 := below_then (((Below.refl wr.heap.size wr).alloc (Nat.le_refl _) _).alloc (by simp) _) hb
          have HB := Lib.hid hb2; clear hb hb2
          go_wp2_with fail
          go_ret
          exact ⟨ret_bool HE.out.symm, below_then hbel.out HB.out⟩
      · obtain rfl : j = L.length := by omega
        have e : L = M := by
          have h := htk.out
          rw [List.take_length, HL.out, List.take_length] at h
          exact h
        go_wp2_with fail
        go_ret
        exact ⟨ret_bool (decide_eq_true e).symm, hbel.out⟩
  · have d0 : (((L.length : Nat) : Int) != ((M.length : Nat) : Int)) = true := by simp; omega
    have e : decide (L = M) = false := decide_eq_false fun e => hl (by rw [e])
    rw [e]
    go_enter Try.func38, Try.ntmps38
    go_wp2
    go_ret
    exact ⟨rfl, Below.refl _ _⟩
theorem same_any {w : World} {A B : Option Addr} {L M : List Pr} (ha : Pcs w A L) (hb : Pcs w B M) (c d : Nat) (hlen : L.length ≤ 1000) :
    Calls Try.prog 19 #[.slice A L.length c, .slice B M.length d] w fun e w' => e = .returned (.bool (decide (L = M))) ∧ Below w.heap.size w w' := by
  have h := sameF_any ha hb c d hlen
  obtain ⟨q, hq⟩ : ∃ q, q = decide (L = M) := ⟨_, rfl⟩
  rw [← hq] at h ⊢
  have H := Lib.hid h; clear h
  clear ha hb hq
  go_enter Try.func19, Try.ntmps19
  go_wp2_with fail
  refine H.out.mono ?_
  rintro e w' ⟨rfl, hb⟩
  have HB := Lib.hid hb; clear hb
  go_wp2_with fail
  go_ret
  exact ⟨rfl, HB.out⟩
end Go.Proofs.Ytnniojlofhbioaa
