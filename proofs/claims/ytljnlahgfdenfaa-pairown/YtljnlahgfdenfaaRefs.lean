/-
  Contracts of the reference: Come, Is, Get, Rank, Same.
-/
import Derived.Test.YtljnlahgfdenfaaRef
import Derived.Laws.StructEq
namespace Go.Proofs.Ytljnlahgfdenfaa
open Go.RowKit
set_option maxHeartbeats 400000
set_option maxRecDepth 100000
theorem refCome_any {w : World} {A : Option Addr} {L : List Pr} (ha : Rcs w A L) (c : Nat) (hlen : L.length ≤ 900) (hm : ∀ q ∈ L, q.1.length ≤ 1000) :
    Calls Try.prog 14 #[.slice A L.length c] w fun e w' => ∃ A' c', e = .returned (.slice A' (come L).length c') ∧ Rcs w' A' (come L) ∧ Below w.heap.size w w' := by
  have HA := Lib.hid ha; clear ha
  have HM := Lib.hid hm; clear hm
  go_enter Try.func14, Try.ntmps14
  go_wp2
  go_loopw [3, 8] (fun v u wr => ∃ (j c' : Nat) (A' : Option Addr), u = .int .i64 j ∧ v = .slice A' (come (L.take j)).length c' ∧ j ≤ L.length ∧ Hid (Below w.heap.size w wr) ∧ Hid (Rcs wr A' (come (L.take j)))) (fun _ u _ => L.length - (intOf u).toNat)
  case atStart => exact ⟨0, 0, none, rfl, rfl, by omega, Below.refl _ _, .inl rfl⟩
  case round =>
    obtain ⟨j, c', A', rfl, rfl, hj, hbel, hrc⟩ := hrel
    by_cases hlt : j < L.length
    · obtain ⟨bm, rfl, hbl, h1, h2⟩ := (HA.out.below hbel.out).at hlt
      have hqm := HM.out _ (List.getElem_mem hlt)
      have hcl := come_length (L.take j)
      have hst := come_step hlt
      have hP := refPut_any (w := wr.alloc (.cells #[.string ⟨(L[j]).1.toArray⟩, .string ⟨(L[j]).2.toArray⟩] 54)) (L[j]) (hrc.out.below ((Below.refl _ _).alloc (Nat.le_refl _) _)) c' (by rw [List.length_take] at hcl; omega) hqm (fun q hq => HM.out q (List.mem_of_mem_take (come_sub _ q hq)))
      rw [← hst] at hP
      obtain ⟨x, hx⟩ : ∃ s : ByteArray, s = ⟨(L[j]).1.toArray⟩ := ⟨_, rfl⟩
      obtain ⟨y, hy⟩ : ∃ s : ByteArray, s = ⟨(L[j]).2.toArray⟩ := ⟨_, rfl⟩
      obtain ⟨n, hn⟩ : ∃ n : Nat, n = (come (L.take j)).length := ⟨_, rfl⟩
      rw [← hx] at h1
      rw [← hy] at h2
      rw [← hx, ← hy, ← hn] at hP
      rw [← hn]
      have HP := Lib.hid hP; clear hP
      have HN := Lib.hid hn; clear hn
      clear hcl hst hqm hx hy HA
      go_wp2_with fail
      refine HP.out.mono ?_
      rintro e w' ⟨A2, c2, rfl, hr2, hb2⟩
      have HR := Lib.hid hr2; clear hr2
      have HB := Lib.hid (below_then ((Below.refl wr.heap.size wr).alloc (Nat.le_refl _) _) hb2); clear hb2
      go_wp2_with fail
      go_roundw
      case rel => exact ⟨j + 1, c2, A2, by go_num, rfl, by omega, below_then hbel.out HB.out, HR.out⟩
      case measure => simp [intOf]; omega
    · obtain rfl : j = L.length := by omega
      have hr := hrc.out
      rw [List.take_length] at hr
      have hn : (come (L.take L.length)).length = (come L).length := by rw [List.take_length]
      rw [hn]
      have HR := Lib.hid hr; clear hr hn
      go_wp2_with fail
      go_ret
      exact ⟨A', c', rfl, HR.out, hbel.out⟩
theorem take_more' {L M : List Pr} {j : Nat} (h : L.take j = M.take j) (h1 : j < L.length) (h2 : j < M.length) (e : L[j] = M[j]) : L.take (j + 1) = M.take (j + 1) := by
  rw [List.take_succ_eq_append_getElem h1, List.take_succ_eq_append_getElem h2, h, e]
theorem no_eq {L M : List Pr} {j : Nat} (h1 : j < L.length) (h2 : j < M.length) (e : L[j] ≠ M[j]) : decide (L = M) = false := decide_eq_false fun h => e (by subst h; rfl)
theorem refIs_any {w : World} {A B : Option Addr} {L M : List Pr} (ha : Pcs w A L) (hb : Rcs w B M) (c d : Nat) (hlen : M.length ≤ 1000) :
    Calls Try.prog 13 #[.slice A L.length c, .slice B M.length d] w fun e w' => e = .returned (.bool (decide (L = M))) ∧ Below w.heap.size w w' := by
  have HA := Lib.hid ha; clear ha
  have HM := Lib.hid hb; clear hb
  by_cases hl : L.length = M.length
  · have d0 : (((L.length : Nat) : Int) != ((M.length : Nat) : Int)) = false := by simp; omega
    have HL := Lib.hid hl; clear hl
    go_enter Try.func13, Try.ntmps13
    go_wp2
    go_loopw [13] (fun i wr => ∃ j : Nat, i = .int .i64 j ∧ j ≤ M.length ∧ Hid (Below w.heap.size w wr) ∧ Hid (L.take j = M.take j)) (fun i _ => M.length - (intOf i).toNat)
    case atStart => exact ⟨0, rfl, by omega, Below.refl _ _, by simp [Hid]⟩
    case round =>
      obtain ⟨j, rfl, hj, hbel, htk⟩ := hrel
      by_cases hlt2 : j < M.length
      · have hlt : j < L.length := by have := HL.out; omega
        obtain ⟨b, off, ka, kc, va, vc, rfl, hbl, h1, h2, h3, h4⟩ := (HA.out.below hbel.out).at hlt
        obtain ⟨b', rfl, hbl', k1, k2⟩ := (HM.out.below hbel.out).at hlt2
        have v1 : ∀ q, _ := fun q => conv_any (h3.below (below_drewN (Below.refl _ _) q)) kc
        have v2 : ∀ q, _ := fun q => conv_any (h4.below (below_drewN (Below.refl _ _) q)) vc
        obtain ⟨x1, hx1⟩ : ∃ x : Nat, x = (L[j]).1.length := ⟨_, rfl⟩
        obtain ⟨x2, hx2⟩ : ∃ x : Nat, x = (L[j]).2.length := ⟨_, rfl⟩
        obtain ⟨s, hs⟩ : ∃ s : ByteArray, s = ⟨(L[j]).1.toArray⟩ := ⟨_, rfl⟩
        obtain ⟨t, ht⟩ : ∃ s : ByteArray, s = ⟨(L[j]).2.toArray⟩ := ⟨_, rfl⟩
        obtain ⟨s', hs'⟩ : ∃ s : ByteArray, s = ⟨(M[j]).1.toArray⟩ := ⟨_, rfl⟩
        obtain ⟨t', ht'⟩ : ∃ s : ByteArray, s = ⟨(M[j]).2.toArray⟩ := ⟨_, rfl⟩
        simp only [← hx1, ← hx2, ← hs, ← ht, ← hs', ← ht'] at h1 h2 k1 k2 v1 v2
        clear h3 h4 hx1 hx2 HA HM
        by_cases he1 : (L[j]).1 = (M[j]).1
        · have e1 : s = s' := by rw [hs, hs', he1]
          subst e1
          by_cases he2 : (L[j]).2 = (M[j]).2
          · have e2 : t = t' := by rw [ht, ht', he2]
            subst e2
            have HE : Hid (L[j] = M[j]) := Prod.ext he1 he2
            clear hs ht hs' ht' he1 he2
            go_wp2_with fail
            go_quiet (fail)
            go_wp2_with fail
            go_roundw
            case rel => exact ⟨j + 1, by go_num, by omega, below_drewN hbel.out _, take_more' htk.out hlt hlt2 HE.out⟩
            case measure => simp [intOf]; omega
          · have e2 : (t.toList == t'.toList) = false := by rw [ht, ht']; exact bs_ne he2
            have e3 : (t.toList != t'.toList) = true := by simp [bne, e2]
            have HE := Lib.hid (no_eq hlt hlt2 fun e => he2 (by rw [e]))
            clear hs ht hs' ht' he1 he2
            go_wp2_with fail
            go_quiet (fail)
            go_wp2_with fail
            go_ret
            exact ⟨ret_bool HE.out.symm, below_drewN hbel.out _⟩
        · have e2 : (s.toList == s'.toList) = false := by rw [hs, hs']; exact bs_ne he1
          have e3 : (s.toList != s'.toList) = true := by simp [bne, e2]
          have HE := Lib.hid (no_eq hlt hlt2 fun e => he1 (by rw [e]))
          clear hs ht hs' ht' he1
          go_wp2_with fail
          go_quiet (fail)
          go_wp2_with fail
          go_ret
          exact ⟨ret_bool HE.out.symm, below_drewN hbel.out _⟩
      · obtain rfl : j = M.length := by omega
        have e : L = M := by
          have h := htk.out
          rw [List.take_length, ← HL.out, List.take_length] at h
          exact h
        have HE := Lib.hid (decide_eq_true e); clear e
        go_wp2_with fail
        go_ret
        exact ⟨ret_bool HE.out.symm, hbel.out⟩
  · have d0 : (((L.length : Nat) : Int) != ((M.length : Nat) : Int)) = true := by simp; omega
    have e : decide (L = M) = false := decide_eq_false fun e => hl (by rw [e])
    rw [e]
    go_enter Try.func13, Try.ntmps13
    go_wp2
    go_ret
    exact ⟨rfl, Below.refl _ _⟩
theorem has_take {M : List Pr} {j : Nat} {k : List UInt8} (h : j < M.length) : has (M.take (j + 1)) k = (has (M.take j) k || decide ((M[j]).1 = k)) := by
  rw [List.take_succ_eq_append_getElem h]
  simp only [has, List.any_append, List.any_cons, List.any_nil, Bool.or_false]
theorem refGet_any {w : World} {A : Option Addr} {M : List Pr} (ha : Rcs w A M) (c : Nat) (k : List UInt8) (hlen : M.length ≤ 1000) :
    Calls Try.prog 18 #[.slice A M.length c, .string ⟨k.toArray⟩] w fun e w' => ∃ s, e = .returned (.tuple #[.string s, .bool (has M k)]) ∧ Below w.heap.size w w' := by
  have HA := Lib.hid ha; clear ha
  obtain ⟨kk, hkk⟩ : ∃ s : ByteArray, s = ⟨k.toArray⟩ := ⟨_, rfl⟩
  rw [← hkk]
  have HK := Lib.hid hkk; clear hkk
  go_enter Try.func18, Try.ntmps18
  go_wp2
  go_loopw [10] (fun i wr => ∃ j : Nat, i = .int .i64 j ∧ j ≤ M.length ∧ Hid (Below w.heap.size w wr) ∧ Hid (has (M.take j) k = false)) (fun i _ => M.length - (intOf i).toNat)
  case atStart => exact ⟨0, rfl, by omega, Below.refl _ _, by simp [Hid, has]⟩
  case round =>
    obtain ⟨j, rfl, hj, hbel, hno⟩ := hrel
    by_cases hlt : j < M.length
    · obtain ⟨b', rfl, hbl', k1, k2⟩ := (HA.out.below hbel.out).at hlt
      obtain ⟨s, hs⟩ : ∃ s : ByteArray, s = ⟨(M[j]).1.toArray⟩ := ⟨_, rfl⟩
      obtain ⟨t, ht⟩ : ∃ s : ByteArray, s = ⟨(M[j]).2.toArray⟩ := ⟨_, rfl⟩
      rw [← hs] at k1
      rw [← ht] at k2
      clear HA
      by_cases he : (M[j]).1 = k
      · have e1 : s = kk := by rw [hs, HK.out, he]
        subst e1
        have HE : Hid (has M k = true) := List.any_eq_true.2 ⟨M[j], List.getElem_mem hlt, by simpa using he⟩
        clear hs ht he
        go_wp2_with fail
        go_ret2
        exact ⟨t, by rw [HE.out]; rfl, hbel.out.alloc hbel.out.size _⟩
      · have e2 : (s.toList == kk.toList) = false := by rw [hs, HK.out]; exact bs_ne he
        have HE := Lib.hid (decide_eq_false he)
        clear hs ht he
        go_wp2_with fail
        go_roundw
        case rel => exact ⟨j + 1, by go_num, by omega, hbel.out.alloc hbel.out.size _, by show _ = _; rw [has_take hlt, hno.out, HE.out]; rfl⟩
        case measure => simp [intOf]; omega
    · obtain rfl : j = M.length := by omega
      have HE : Hid (has M k = false) := by
        have h := hno.out
        rw [List.take_length] at h
        exact h
      go_wp2_with fail
      go_ret2
      exact ⟨⟨#[]⟩, by rw [HE.out]; rfl, hbel.out⟩
theorem rank_take {M : List Pr} {j : Nat} {k : List UInt8} (h : j < M.length) : rank (M.take (j + 1)) k = rank (M.take j) k + if cmp (M[j]).1 k < 0 then 1 else 0 := by
  rw [List.take_succ_eq_append_getElem h]
  simp only [rank, List.countP_append, List.countP_cons, List.countP_nil, decide_eq_true_eq, Nat.zero_add]
theorem rank_le (M : List Pr) (k : List UInt8) : rank M k ≤ M.length := List.countP_le_length
theorem refRank_any {w : World} {A : Option Addr} {M : List Pr} (ha : Rcs w A M) (c : Nat) (k : List UInt8) (hlen : M.length ≤ 1000) (hk : k.length ≤ 1000) (hm : ∀ q ∈ M, q.1.length ≤ 1000) :
    Calls Try.prog 20 #[.slice A M.length c, .string ⟨k.toArray⟩] w fun e w' => e = .returned (.int .i64 (rank M k : Int)) ∧ Below w.heap.size w w' := by
  have HA := Lib.hid ha; clear ha
  have HM := Lib.hid hm; clear hm
  obtain ⟨kk, hkk⟩ : ∃ s : ByteArray, s = ⟨k.toArray⟩ := ⟨_, rfl⟩
  rw [← hkk]
  have HK := Lib.hid hkk; clear hkk
  go_enter Try.func20, Try.ntmps20
  go_wp2
  go_loopw [5, 10] (fun v i wr => ∃ j r : Nat, i = .int .i64 j ∧ v = .int .i64 r ∧ j ≤ M.length ∧ r ≤ j ∧ Hid (Below w.heap.size w wr) ∧ Hid (r = rank (M.take j) k)) (fun _ i _ => M.length - (intOf i).toNat)
  case atStart => exact ⟨0, 0, rfl, rfl, by omega, by omega, Below.refl _ _, by simp [Hid, rank]⟩
  case round =>
    obtain ⟨j, r, rfl, rfl, hj, hr, hbel, hrk⟩ := hrel
    by_cases hlt : j < M.length
    · obtain ⟨b', rfl, hbl', k1, k2⟩ := (HA.out.below hbel.out).at hlt
      have hqm := HM.out _ (List.getElem_mem hlt)
      obtain ⟨s, hs⟩ : ∃ s : ByteArray, s = ⟨(M[j]).1.toArray⟩ := ⟨_, rfl⟩
      obtain ⟨t, ht⟩ : ∃ s : ByteArray, s = ⟨(M[j]).2.toArray⟩ := ⟨_, rfl⟩
      rw [← hs] at k1
      rw [← ht] at k2
      have hless := less_any s kk (wr.alloc (.cells #[.string s, .string t] 54)) (by rw [hs, bs_size]; exact hqm) (by rw [HK.out, bs_size]; exact hk)
      rw [show cmp s.data.toList kk.data.toList = cmp (M[j]).1 k by rw [hs, HK.out]] at hless
      have hrt := rank_take (k := k) hlt
      clear HA hs ht hqm
      by_cases hc : cmp (M[j]).1 k < 0
      · rw [decide_eq_true hc] at hless
        rw [if_pos hc] at hrt
        have HR := Lib.hid hrt; clear hrt
        have HL := Lib.hid hless; clear hless hc
        go_wp2_with fail
        refine HL.out.mono ?_
        rintro e w' ⟨rfl, hb⟩
        have HB := Lib.hid (below_then ((Below.refl wr.heap.size wr).alloc (Nat.le_refl _) _) hb); clear hb
        go_wp2_with fail
        go_roundw
        case rel => exact ⟨j + 1, r + 1, by go_num, by go_num, by omega, by omega, below_then hbel.out HB.out, by show _ = _; rw [HR.out, ← hrk.out]⟩
        case measure => simp [intOf]; omega
      · rw [decide_eq_false hc] at hless
        rw [if_neg hc] at hrt
        have HR := Lib.hid hrt; clear hrt
        have HL := Lib.hid hless; clear hless hc
        go_wp2_with fail
        refine HL.out.mono ?_
        rintro e w' ⟨rfl, hb⟩
        have HB := Lib.hid (below_then ((Below.refl wr.heap.size wr).alloc (Nat.le_refl _) _) hb); clear hb
        go_wp2_with fail
        go_roundw
        case rel => exact ⟨j + 1, r, by go_num, rfl, by omega, by omega, below_then hbel.out HB.out, by show _ = _; rw [HR.out, ← hrk.out]; rfl⟩
        case measure => simp [intOf]; omega
    · obtain rfl : j = M.length := by omega
      have HE : Hid (r = rank M k) := by
        have h := hrk.out
        rw [List.take_length] at h
        exact h
      go_wp2_with fail
      go_ret
      exact ⟨ret_int (by rw [HE.out]), hbel.out⟩
theorem run_neq_pair (w : World) (s t s' t' : ByteArray) : (binOp .neq 54 (.agg #[.string s, .string t]) (.agg #[.string s', .string t'])).run Try.prog w = .ok (.bool (!(s.toList == s'.toList && t.toList == t'.toList))) w := by
  have u9 := Try.underlying9
  have a9 := Try.isAgg9
  have z9 := Try.sizeOf9
  have hS : Try.prog.underlying 54 = some (.struct (Try.prog.fieldsOf 54)) := by kernel_rfl
  have hp : Try.prog.stoodInHeld 54 = false := by kernel_rfl
  rw [run_neq_struct, show (10000 : Nat) = 9999 + 1 from rfl, run_equalIn_agg w 9999 54 _ _ hS hp]
  simp only [Program.fieldsOf, Try.underlying54]
  go_simp
  by_cases h1 : s.toList = s'.toList <;> by_cases h2 : t.toList = t'.toList <;> simp [h1, h2]
theorem run_guard_pair (w : World) (x y : Operand) (s t s' t' : ByteArray) : (eqGuard .neq 54 x y (.agg #[.string s, .string t]) (.agg #[.string s', .string t'])).run Try.prog w = .ok () w :=
  run_eqGuard_agg w .neq 54 x y _ _ (by kernel_rfl)
theorem refSame_any {w : World} {A B : Option Addr} {L M : List Pr} (ha : Rcs w A L) (hb : Rcs w B M) (c d : Nat) (hlen : L.length ≤ 1000) :
    Calls Try.prog 23 #[.slice A L.length c, .slice B M.length d] w fun e w' => e = .returned (.bool (decide (L = M))) ∧ Below w.heap.size w w' := by
  have HA := Lib.hid ha; clear ha
  have HM := Lib.hid hb; clear hb
  by_cases hl : L.length = M.length
  · have d0 : (((L.length : Nat) : Int) != ((M.length : Nat) : Int)) = false := by simp; omega
    have HL := Lib.hid hl; clear hl
    go_enter Try.func23, Try.ntmps23
    go_wp2
    go_loopw [13] (fun i wr => ∃ j : Nat, i = .int .i64 j ∧ j ≤ L.length ∧ Hid (Below w.heap.size w wr) ∧ Hid (L.take j = M.take j)) (fun i _ => L.length - (intOf i).toNat)
    case atStart => exact ⟨0, rfl, by omega, Below.refl _ _, by simp [Hid]⟩
    case round =>
      obtain ⟨j, rfl, hj, hbel, htk⟩ := hrel
      by_cases hlt : j < L.length
      · have hlt2 : j < M.length := by have := HL.out; omega
        obtain ⟨b, rfl, hbl, h1, h2⟩ := (HA.out.below hbel.out).at hlt
        obtain ⟨b', rfl, hbl', k1, k2⟩ := (HM.out.below hbel.out).at hlt2
        obtain ⟨s, hs⟩ : ∃ s : ByteArray, s = ⟨(L[j]).1.toArray⟩ := ⟨_, rfl⟩
        obtain ⟨t, ht⟩ : ∃ s : ByteArray, s = ⟨(L[j]).2.toArray⟩ := ⟨_, rfl⟩
        obtain ⟨s', hs'⟩ : ∃ s : ByteArray, s = ⟨(M[j]).1.toArray⟩ := ⟨_, rfl⟩
        obtain ⟨t', ht'⟩ : ∃ s : ByteArray, s = ⟨(M[j]).2.toArray⟩ := ⟨_, rfl⟩
        simp only [← hs, ← ht, ← hs', ← ht'] at h1 h2 k1 k2
        have hn := fun W => run_neq_pair W s t s' t'
        have hres : (!(s.toList == s'.toList && t.toList == t'.toList)) = !decide (L[j] = M[j]) := by
          rw [hs, ht, hs', ht', ByteArray.toList_eq, ByteArray.toList_eq, ByteArray.toList_eq, ByteArray.toList_eq]
          congr 1
          rw [Bool.eq_iff_iff]
          simp [Prod.ext_iff]
        rw [hres] at hn
        have hgd := fun W x y => run_guard_pair W x y s t s' t'
        clear hs ht hs' ht' HA HM hres
        by_cases he : L[j] = M[j]
        · rw [decide_eq_true he] at hn
          have HE := Lib.hid he; clear he
          go_wp2_with fail
          go_quiet (fail)
          go_wp2_with fail
          go_roundw
          case rel => exact ⟨j + 1, by go_num, by omega, below_drewN hbel.out _, take_more' htk.out hlt hlt2 HE.out⟩
          case measure => simp [intOf]; omega
        · rw [decide_eq_false he] at hn
          have HE := Lib.hid (no_eq hlt hlt2 he); clear he
          go_wp2_with fail
          go_quiet (fail)
          go_wp2_with fail
          go_ret
          exact ⟨ret_bool HE.out.symm, below_drewN hbel.out _⟩
      · obtain rfl : j = L.length := by omega
        have e : L = M := by
          have h := htk.out
          rw [List.take_length, HL.out, List.take_length] at h
          exact h
        have HE := Lib.hid (decide_eq_true e); clear e
        go_wp2_with fail
        go_ret
        exact ⟨ret_bool HE.out.symm, hbel.out⟩
  · have d0 : (((L.length : Nat) : Int) != ((M.length : Nat) : Int)) = true := by simp; omega
    have e : decide (L = M) = false := decide_eq_false fun e => hl (by rw [e])
    rw [e]
    go_enter Try.func23, Try.ntmps23
    go_wp2
    go_ret
    exact ⟨rfl, Below.refl _ _⟩
end Go.Proofs.Ytljnlahgfdenfaa
