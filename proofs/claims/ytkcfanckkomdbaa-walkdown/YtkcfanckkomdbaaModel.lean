/-
  Contracts of the reference's Get and Without, of Visits, and of the statements' own Fine.
-/
import Derived.Test.YtkcfanckkomdbaaRefs
import Derived.Test.YtkcfanckkomdbaaLists
namespace Go.Proofs.Ytkcfanckkomdbaa
open Go.RowKit
set_option maxHeartbeats 4000000
set_option maxRecDepth 100000
theorem val_at {M : List Pr} {k : List UInt8} {j : Nat} (h : j < M.length) (hno : has (M.take j) k = false) (he : (M[j]).1 = k) : val M k = (M[j]).2 := by
  have e : M = M.take j ++ M[j] :: M.drop (j + 1) := by rw [List.getElem_cons_drop, List.take_append_drop]
  have hn : ∀ x ∈ M.take j, x.1 ≠ k := fun x hx e => by
    have : has (M.take j) k = true := List.any_eq_true.2 ⟨x, hx, decide_eq_true e⟩
    rw [hno] at this
    cases this
  conv => lhs; rw [e]
  rw [val_none hn, val, List.find?_cons_of_pos (p := fun x : Pr => decide (x.1 = k)) (by simpa using he)]
  rfl
theorem has_none {M : List Pr} {k : List UInt8} (h : has M k = false) : out M k = M ∧ val M k = [] := by
  have hn : ∀ x ∈ M, x.1 ≠ k := fun x hx e => by
    have : has M k = true := List.any_eq_true.2 ⟨x, hx, decide_eq_true e⟩
    rw [h] at this
    cases this
  exact ⟨(out_none hn).1, (out_none hn).2.2⟩
theorem refVal_any {w : World} {A : Option Addr} {M : List Pr} (ha : Rcs w A M) (c : Nat) (k : List UInt8) (hlen : M.length ≤ 1000) :
    Calls Try.prog 40 #[.slice A M.length c, .string ⟨k.toArray⟩] w fun e w' => e = .returned (.tuple #[.string ⟨(val M k).toArray⟩, .bool (has M k)]) ∧ Below w.heap.size w w' := by
  have HA := Lib.hid ha; clear ha
  obtain ⟨kk, hkk⟩ : ∃ s : ByteArray, s = ⟨k.toArray⟩ := ⟨_, rfl⟩
  obtain ⟨vv, hvv⟩ : ∃ s : ByteArray, s = ⟨(val M k).toArray⟩ := ⟨_, rfl⟩
  rw [← hkk, ← hvv]
  have HK := Lib.hid hkk; clear hkk
  have HV := Lib.hid hvv; clear hvv
  go_enter Try.func40, Try.ntmps40
  go_wp2
  go_loopw [10] (fun i wr => ∃ j : Nat, i = .int .i64 j ∧ j ≤ M.length ∧ Hid (Below w.heap.size w wr) ∧ Hid (has (M.take j) k = false)) (fun i _ => M.length - (intOf i).toNat)
  case atStart => exact ⟨0, rfl, by omega, Below.refl _ _, by simp [Hid, has]⟩
  case round =>
    obtain ⟨j, rfl, hj, hbel, hno⟩ := hrel
    by_cases hlt : j < M.length
    · obtain ⟨b', rfl, hbl', k1, k2⟩ := (HA.out.below hbel.out).at hlt
      obtain ⟨s, hs⟩ : ∃ s : ByteArray, s = ⟨(M[j]).1.toArray⟩ := ⟨_, rfl⟩
      obtain ⟨t, ht⟩ : ∃ s : ByteArray, s = ⟨(M[j]).2.toArray⟩ := ⟨_, rfl⟩
      rw [← hs] at k1
      rw [← ht] at k2
      clear HA
      by_cases he : (M[j]).1 = k
      · have e1 : s = kk := by rw [hs, HK.out, he]
        subst e1
        have HE : Hid (has M k = true) := List.any_eq_true.2 ⟨M[j], List.getElem_mem hlt, by simpa using he⟩
        have HT : Hid (t = vv) := by show t = vv; rw [ht, HV.out, val_at hlt hno.out he]
        clear hs ht he
        go_wp2_with fail
        go_ret2
        exact ⟨by rw [HE.out, ← HT.out]; rfl, hbel.out.alloc hbel.out.size _⟩
      · have e2 : (s.toList == kk.toList) = false := by rw [hs, HK.out]; exact bs_ne he
        have HE := Lib.hid (decide_eq_false he)
        clear hs ht he
        go_wp2_with fail
        go_roundw
        case rel => exact ⟨j + 1, by go_num, by omega, hbel.out.alloc hbel.out.size _, by show _ = _; rw [has_take hlt, hno.out, HE.out]; rfl⟩
        case measure => simp [intOf]; omega
    · obtain rfl : j = M.length := by omega
      have HE : Hid (has M k = false) := by
        have h := hno.out
        rw [List.take_length] at h
        exact h
      go_wp2_with fail
      go_ret2
      exact ⟨by rw [HE.out, HV.out, (has_none HE.out).2]; rfl, hbel.out⟩
theorem out_take {M : List Pr} {j : Nat} {k : List UInt8} (h : j < M.length) : out (M.take (j + 1)) k = out (M.take j) k ++ (if (M[j]).1 = k then [] else [M[j]]) := by
  rw [List.take_succ_eq_append_getElem h, out_append]
  congr 1
  by_cases e : (M[j]).1 = k
  · rw [if_pos e]; simp [out, e]
  · rw [if_neg e]; simp [out, e]
theorem without_any {w : World} {A : Option Addr} {M : List Pr} (ha : Rcs w A M) (c : Nat) (k : List UInt8) (hlen : M.length ≤ 900) :
    Calls Try.prog 43 #[.slice A M.length c, .string ⟨k.toArray⟩] w fun e w' => ∃ A' c', e = .returned (.slice A' (out M k).length c') ∧ Rcs w' A' (out M k) ∧ Below w.heap.size w w' := by
  obtain ⟨kk, hkk⟩ : ∃ s : ByteArray, s = ⟨k.toArray⟩ := ⟨_, rfl⟩
  rw [← hkk]
  have HA := Lib.hid ha; clear ha
  have HK := Lib.hid hkk; clear hkk
  go_enter Try.func43, Try.ntmps43
  go_wp2
  go_loopw [5, 10] (fun v u wr => ∃ (j : Nat) (N : List Pr), u = .int .i64 j ∧ j ≤ M.length ∧ N.length ≤ j ∧ Hid (N = out (M.take j) k) ∧ Hid (Below w.heap.size w wr) ∧ Hid (wr.ownsRow w.heap.size 68 2 v N.length (scells N))) (fun _ u _ => M.length - (intOf u).toNat)
  case atStart => exact ⟨0, [], rfl, by omega, by simp, rfl, Below.refl _ _, World.ownsRow_nil _ _ _ _⟩
  case round =>
    obtain ⟨j, N, rfl, hj, hN, hNe, hbel, hown⟩ := hrel
    by_cases hlt : j < M.length
    · obtain ⟨bm, rfl, hbl, h1, h2⟩ := (HA.out.below hbel.out).at hlt
      obtain ⟨x, hx⟩ : ∃ s : ByteArray, s = ⟨(M[j]).1.toArray⟩ := ⟨_, rfl⟩
      obtain ⟨y, hy⟩ : ∃ s : ByteArray, s = ⟨(M[j]).2.toArray⟩ := ⟨_, rfl⟩
      rw [← hx] at h1
      rw [← hy] at h2
      have hbq : Below wr.heap.size wr (wr.alloc (.cells #[.string x, .string y] 68)) := (Below.refl _ _).alloc (Nat.le_refl _) _
      have HBQ := Lib.hid (below_then hbel.out hbq)
      have HOQ := Lib.hid (own_keep hown.out hbq); clear hbq
      have HX := Lib.hid hx; clear hx
      have HY := Lib.hid hy; clear hy
      have hnn : N.length ≤ 1000 := by omega
      clear HA
      by_cases he : (M[j]).1 = k
      · have hxk : x = kk := by rw [HX.out, HK.out, he]
        have HI : Hid (N = out (M.take (j + 1)) k) := by show _ = _; rw [out_take hlt, if_pos he, List.append_nil]; exact hNe.out
        subst hxk
        clear he hNe
        go_wp2_with fail
        go_roundw
        case rel => exact ⟨j + 1, N, by go_num, by omega, by omega, HI.out, HBQ.out, HOQ.out⟩
        case measure => simp [intOf]; omega
      · have dn : (x.toList == kk.toList) = false := by rw [HX.out, HK.out]; exact bs_ne he
        have HI : Hid (N ++ [M[j]] = out (M.take (j + 1)) k) := by show _ = _; rw [out_take hlt, if_neg he, hNe.out]
        clear he hNe
        go_wp2_with (at_builtin; refine list_app2 (B := w.heap.size) (w := wr.alloc (.cells #[.string x, .string y] 68)) 27 68 _ 32 Try.underlying27 Try.info68 rfl (by decide) rfl (.tmp 18) (.tmp 20) rfl _ (N).length (scells (N)) HOQ.out (.string x) (.string y) rfl rfl rfl (by rw [World.size_alloc]; rfl) (hnn) (HBQ.out.size) ?_; intro v1 w2 ho2 hg2)
        go_roundw
        case rel =>
          refine ⟨j + 1, N ++ [M[j]], by go_num, by omega, by simp; omega, HI.out, HBQ.out.grown hg2 HBQ.out.size (fun k hk => (HOQ.out.lt k hk).1), ?_⟩
          show World.ownsRow _ _ _ _ _ _ _
          rw [scells_snoc, List.length_append, ← HX.out, ← HY.out]; exact ho2
        case measure => simp [intOf]; omega
    · obtain rfl : j = M.length := by omega
      have HE : Hid (N = out M k) := by
        have h := hNe.out
        rw [List.take_length] at h
        exact h
      obtain ⟨A', c', e, hr⟩ := rcs_own hown.out
      subst e
      have HR := Lib.hid hr; clear hr
      clear hNe hown
      go_wp2_with fail
      go_ret
      exact ⟨A', c', by rw [← HE.out]; rfl, by rw [← HE.out]; exact HR.out, hbel.out⟩
/-- a call: its kind, its key and value -/
abbrev Opn := Int × Pr
/-- the slice at A reads as the calls L -/
def Ocs (w : World) (A : Option Addr) (L : List Opn) : Prop :=
  L = [] ∨ ∃ b off, A = some ⟨b, off, none⟩ ∧ b < w.heap.size ∧ ∀ i (h : i < L.length), ∃ ka kc va vc,
    w.cell? ⟨b, off + i * 3, none⟩ = some (.int .i64 (L[i]).1) ∧ w.cell? ⟨b, off + i * 3 + 1, none⟩ = some (.slice ka (L[i]).2.1.length kc) ∧ w.cell? ⟨b, off + i * 3 + 2, none⟩ = some (.slice va (L[i]).2.2.length vc) ∧ Bts w ka (L[i]).2.1 ∧ Bts w va (L[i]).2.2
theorem Ocs.below {w w' : World} {A : Option Addr} {L : List Opn} (h : Ocs w A L) (hb : Below w.heap.size w w') : Ocs w' A L := by
  rcases h with h | ⟨b, off, rfl, hlt, hc⟩
  · exact .inl h
  · refine .inr ⟨b, off, rfl, Nat.lt_of_lt_of_le hlt hb.size, fun i hi => ?_⟩
    obtain ⟨ka, kc, va, vc, h1, h2, h3, h4, h5⟩ := hc i hi
    exact ⟨ka, kc, va, vc, (hb.cell (p := ⟨b, off + i * 3, none⟩) hlt).trans h1, (hb.cell (p := ⟨b, off + i * 3 + 1, none⟩) hlt).trans h2, (hb.cell (p := ⟨b, off + i * 3 + 2, none⟩) hlt).trans h3, h4.below hb, h5.below hb⟩
theorem Ocs.at {w : World} {A : Option Addr} {L : List Opn} (h : Ocs w A L) {j : Nat} (hj : j < L.length) : ∃ b off ka kc va vc, A = some ⟨b, off, none⟩ ∧ b < w.heap.size ∧
    w.cell? ⟨b, off + j * 3, none⟩ = some (.int .i64 (L[j]).1) ∧ w.cell? ⟨b, off + j * 3 + 1, none⟩ = some (.slice ka (L[j]).2.1.length kc) ∧ w.cell? ⟨b, off + j * 3 + 2, none⟩ = some (.slice va (L[j]).2.2.length vc) ∧ Bts w ka (L[j]).2.1 ∧ Bts w va (L[j]).2.2 := by
  rcases h with rfl | ⟨b, off, rfl, hlt, hc⟩
  · simp at hj
  · obtain ⟨ka, kc, va, vc, h⟩ := hc j hj
    exact ⟨b, off, ka, kc, va, vc, rfl, hlt, h⟩
def tinyO (L : List Opn) : Bool := L.all fun p => decide (p.2.1.length ≤ 100) && decide (p.2.2.length ≤ 100)
theorem tinyO_take {L : List Opn} {n : Nat} (h : n < L.length) : tinyO (L.take (n + 1)) = (tinyO (L.take n) && (decide ((L[n]).2.1.length ≤ 100) && decide ((L[n]).2.2.length ≤ 100))) := by
  rw [List.take_succ_eq_append_getElem h]
  simp only [tinyO, List.all_append, List.all_cons, List.all_nil, Bool.and_true]
theorem tinyO_no {L : List Opn} {n : Nat} (h : n < L.length) (hn : (decide ((L[n]).2.1.length ≤ 100) && decide ((L[n]).2.2.length ≤ 100)) = false) : tinyO L = false := by
  rw [Bool.eq_false_iff]
  intro e
  have := List.all_eq_true.1 e _ (List.getElem_mem h)
  rw [hn] at this
  cases this
theorem tinyO_all {L : List Opn} (h : tinyO L = true) : ∀ p ∈ L, p.2.1.length ≤ 100 ∧ p.2.2.length ≤ 100 := fun p hp => by
  have := List.all_eq_true.1 h p hp
  simpa using this
theorem fine_any {w : World} {A : Option Addr} {L : List Opn} (ha : Ocs w A L) (c : Nat) (most : Nat) (hm : most ≤ 1000) (hlen : L.length ≤ 9223372036854775807) :
    Calls Try.prog 7 #[.slice A L.length c, .int .i64 (most : Int)] w fun e w' => e = .returned (.bool (decide (L.length ≤ most) && tinyO L)) ∧ Below w.heap.size w w' := by
  have HA := Lib.hid ha; clear ha
  by_cases hl : L.length ≤ most
  · have hl1 : decide (L.length ≤ most) = true := by simpa using hl
    rw [hl1]
    go_enter Try.func7, Try.ntmps7
    go_wp2
    go_loopw [13] (fun i wr => ∃ j : Nat, i = .int .i64 j ∧ j ≤ L.length ∧ Hid (Below w.heap.size w wr) ∧ Hid (tinyO (L.take j) = true)) (fun i _ => L.length - (intOf i).toNat)
    case atStart => exact ⟨0, rfl, by omega, Below.refl _ _, by simp [Hid, tinyO]⟩
    case round =>
      obtain ⟨j, rfl, hj, hbel, ht⟩ := hrel
      by_cases hlt : j < L.length
      · obtain ⟨b, off, ka, kc, va, vc, rfl, hbl, h0, h1, h2, _, _⟩ := (HA.out.below hbel.out).at hlt
        obtain ⟨z, hz⟩ : ∃ z : Int, z = (L[j]).1 := ⟨_, rfl⟩
        obtain ⟨x, hx⟩ : ∃ x : Nat, x = (L[j]).2.1.length := ⟨_, rfl⟩
        obtain ⟨y, hy⟩ : ∃ y : Nat, y = (L[j]).2.2.length := ⟨_, rfl⟩
        rw [← hz] at h0
        rw [← hx] at h1
        rw [← hy] at h2
        have HX := Lib.hid hx; clear hx
        have HY := Lib.hid hy; clear hy
        clear HA hz
        by_cases g1 : 100 < x
        · go_wp2
          go_ret
          refine ⟨ret_bool ?_, hbel.out.alloc hbel.out.size _⟩
          rw [tinyO_no hlt (by rw [← HX.out, decide_eq_false (show ¬ x ≤ 100 by omega), Bool.false_and])]
        · by_cases g2 : 100 < y
          · go_wp2
            go_ret
            refine ⟨ret_bool ?_, hbel.out.alloc hbel.out.size _⟩
            rw [tinyO_no hlt (by rw [← HY.out, decide_eq_false (show ¬ y ≤ 100 by omega), Bool.and_false])]
            rfl
          · have d1 : decide ((100 : Int) < (x : Int)) = false := decide_eq_false (by omega)
            have d2 : decide ((100 : Int) < (y : Int)) = false := decide_eq_false (by omega)
            go_wp2
            go_roundw
            case rel =>
              refine ⟨j + 1, by go_num, by omega, hbel.out.alloc hbel.out.size _, ?_⟩
              show _ = _
              rw [tinyO_take hlt, ht.out, ← HX.out, ← HY.out, decide_eq_true (by omega), decide_eq_true (by omega)]
              rfl
            case measure => simp [intOf]; omega
      · obtain rfl : j = L.length := by omega
        go_wp2
        go_ret
        refine ⟨ret_bool ?_, hbel.out⟩
        have := ht.out
        rw [List.take_length] at this
        rw [this]
        rfl
  · have hl1 : decide (L.length ≤ most) = false := by simpa using hl
    rw [hl1]
    go_enter Try.func7, Try.ntmps7
    go_wp2
    go_ret
    exact ⟨rfl, Below.refl _ _⟩
end Go.Proofs.Ytkcfanckkomdbaa
