/-
  Contracts of the reference's Hash and Entries: a key's hash by a table, a map's entries.
-/
import Derived.Test.YtmbdimonfdncpaaGreatDoorFinds
import Derived.Test.YtmbdimonfdncpaaGreatDoorLays
import Derived.Deep.DeepCutAuto
namespace Go.Proofs.YtmbdimonfdncpaaGreatDoor
open Go.RowKit
set_option maxHeartbeats 4000000
set_option maxRecDepth 100000
attribute [local irreducible] Bt.lst
def sumB : List UInt8 → Nat
  | [] => 0
  | b :: l => b.toNat + sumB l
theorem sumB_snoc (l : List UInt8) (b : UInt8) : sumB (l ++ [b]) = sumB l + b.toNat := by
  induction l with
  | nil => simp [sumB]
  | cons a l ih => rw [List.cons_append, sumB, sumB, ih, Nat.add_assoc]
theorem sumB_le : ∀ l : List UInt8, sumB l ≤ l.length * 255
  | [] => Nat.le_refl _
  | b :: l => by
    have := sumB_le l
    have := b.toNat_lt
    rw [sumB, List.length_cons, Nat.add_mul]
    omega
/-- a key's hash by a table -/
def hashT (T : List Nat) (k : List UInt8) : Nat := if T = [] then 0 else T.getD ((k.length + sumB k) % T.length) 0
/-- a slice of numbers -/
def N64 (w : World) (A : Option Addr) (T : List Nat) : Prop := T = [] ∨ ∃ b off, A = some ⟨b, off, none⟩ ∧ b < w.heap.size ∧ ∀ i (h : i < T.length), w.cell? ⟨b, off + i, none⟩ = some (.int .u64 (T[i] : Int))
theorem N64.below {w w' : World} {A : Option Addr} {T : List Nat} (h : N64 w A T) (hb : Below w.heap.size w w') : N64 w' A T := by
  rcases h with h | ⟨b, off, rfl, hlt, hc⟩
  · exact .inl h
  · exact .inr ⟨b, off, rfl, Nat.lt_of_lt_of_le hlt hb.size, fun i hi => (hb.cell (p := ⟨b, off + i, none⟩) hlt).trans (hc i hi)⟩
theorem hashT_lt {T : List Nat} (hT : ∀ z ∈ T, z < 18446744073709551616) (k : List UInt8) : hashT T k < 18446744073709551616 := by
  unfold hashT
  split
  · decide
  · rename_i h
    have h0 : 0 < T.length := List.length_pos_iff.2 h
    have hlt := Nat.mod_lt (k.length + sumB k) h0
    rw [List.getD_eq_getElem?_getD, List.getElem?_eq_getElem hlt]
    exact hT _ (List.getElem_mem hlt)
theorem hash19_any {w : World} {A : Option Addr} {T : List Nat} (c : Nat) (k : List UInt8) (hA : N64 w A T) (hT : T.length ≤ 200) (hk : k.length ≤ 1000) :
    Calls Tryz.prog 9 #[.slice A T.length c, .string ⟨k.toArray⟩] w fun e w' => e = .returned (.int .u64 (hashT T k : Int)) ∧ w = w' := by
  obtain ⟨s, hs⟩ : ∃ s : ByteArray, s = ⟨k.toArray⟩ := ⟨_, rfl⟩
  have hsl : s.size = k.length := by rw [hs]; simp [ByteArray.size]
  have hsg : ∀ i (h : i < k.length), s[i]'(by rw [hsl]; exact h) = k[i] := fun i h => by subst hs; rfl
  rw [← hs]
  rcases Nat.eq_zero_or_pos T.length with h0 | h0
  · obtain rfl := List.eq_nil_of_length_eq_zero h0
    have hh : hashT [] k = 0 := rfl
    rw [hh]
    clear hA hT hs hsl hsg
    go_enter Tryz.func9, Tryz.ntmps9
    go_wp2_with fail
    go_ret
    exact ⟨rfl, rfl⟩
  · rcases hA with hA | ⟨b, off, rfl, hbl, hcell⟩
    · rw [hA] at h0
      exact absurd h0 (by decide)
    · have hh : hashT T k = T.getD ((k.length + sumB k) % T.length) 0 := if_neg (fun e => by rw [e] at h0; exact absurd h0 (by decide))
      have hlt := Nat.mod_lt (k.length + sumB k) h0
      have hcl := hcell _ hlt
      have hhe : hashT T k = T[(k.length + sumB k) % T.length] := by
        rw [hh, List.getD_eq_getElem?_getD, List.getElem?_eq_getElem hlt]
        rfl
      rw [← hhe] at hcl
      obtain ⟨H, hH⟩ : ∃ h, h = hashT T k := ⟨_, rfl⟩
      rw [← hH] at hcl ⊢
      obtain ⟨tl, htl⟩ : ∃ n, n = T.length := ⟨_, rfl⟩
      rw [← htl] at hcl hlt h0 hT ⊢
      have HSG := Lib.hid hsg; clear hsg
      have HCL := Lib.hid (And.intro hcl hlt); clear hcl hlt
      have hne : ((tl : Int) == 0) = false := by simp; omega
      clear hs hh hhe hH htl hcell
      go_enter Tryz.func9, Tryz.ntmps9
      go_wp2_with fail
      go_loop [5, 6] (fun n i => ∃ j : Nat, i = .int .i64 j ∧ j ≤ k.length ∧ ∃ m : Nat, n = .int .i64 (m : Int) ∧ Hid (m = k.length + sumB (k.take j)) ∧ m ≤ 300000) (fun _ i => k.length - (intOf i).toNat)
      case atStart => exact ⟨0, rfl, Nat.zero_le _, k.length, rfl, rfl, by omega⟩
      case round =>
        obtain ⟨j, rfl, hj, m, rfl, hm, hm3⟩ := hrel
        by_cases hlt : j < k.length
        · obtain ⟨bj, hbj⟩ : ∃ n, n = k[j].toNat := ⟨_, rfl⟩
          have hsj : (s[j]'(by rw [hsl]; exact hlt)).toNat = bj := by rw [HSG.out j hlt, hbj]
          have hb256 : bj < 256 := by rw [hbj]; exact UInt8.toNat_lt _
          have HN : Hid (m + bj = k.length + sumB (k.take (j + 1))) := by
            show _ = _
            rw [List.take_succ_eq_append_getElem hlt, sumB_snoc, hm.out, hbj, Nat.add_assoc]
          have hmb : m + bj ≤ 300000 := by
            rw [HN.out]
            have := sumB_le (k.take (j + 1))
            rw [List.length_take] at this
            omega
          clear hbj hm
          go_wp2_with fail
          go_round
          case rel => exact ⟨j + 1, by go_num, by omega, m + bj, by go_num, HN.out, hmb⟩
          case measure => simp [intOf]; omega
        · obtain rfl : j = k.length := by omega
          have hmm : m = k.length + sumB k := by rw [hm.out, List.take_length]
          obtain ⟨hc1, hc2⟩ := HCL.out
          rw [← hmm] at hc1 hc2
          have hne2 : ¬ (tl : Int) = 0 := by omega
          have hrem : (m : Int) % (tl : Int) = ((m % tl : Nat) : Int) := (Int.natCast_emod m tl).symm
          have hrem2 : Int.tmod (m : Int) (tl : Int) = ((m % tl : Nat) : Int) := by rw [Int.tmod_eq_emod_of_nonneg (by omega)]; exact hrem
          obtain ⟨r, hr⟩ : ∃ r, r = m % tl := ⟨_, rfl⟩
          rw [← hr] at hc1 hc2 hrem hrem2
          clear hm hmm hr
          go_wp2_with fail
          go_ret
          exact ⟨rfl, rfl⟩
theorem entE_take {H : List UInt8 → Nat} {M : List Pr} {j : Nat} (h : j < M.length) : entE H (M.take (j + 1)) = entE H (M.take j) ++ [(H (M[j]).1, M[j])] := by
  rw [List.take_succ_eq_append_getElem h, entE, List.map_append]
  rfl
theorem entries19_any {w : World} {A B : Option Addr} {T : List Nat} {M : List Pr} (c d : Nat) (hA : N64 w A T) (hB : Rcs w B M) (hT : T.length ≤ 200) (hM : M.length ≤ 900) (hk : ∀ p ∈ M, p.1.length ≤ 1000) :
    Calls Tryz.prog 13 #[.slice A T.length c, .slice B M.length d] w fun e w' => (∃ A' c', e = .returned (.slice A' M.length c') ∧ Res w' A' (entE (hashT T) M) ∧ NewIn w.heap.size w' A') ∧ Below w.heap.size w w' := by
  have hha := fun W (k : List UInt8) (hW : Below w.heap.size w W) (h : k.length ≤ 1000) => hash19_any c k (hA.below hW) hT h
  obtain ⟨TL, hTL⟩ : ∃ n, n = T.length := ⟨_, rfl⟩
  obtain ⟨ML, hML⟩ : ∃ n, n = M.length := ⟨_, rfl⟩
  simp only [← hTL] at hha ⊢
  rw [← hML] at hM ⊢
  have HHA := Lib.hid hha; clear hha
  have HB := Lib.hid hB; clear hB
  have HK := Lib.hid hk; clear hk
  have HML := Lib.hid hML; clear hML
  clear hA hT hTL
  go_enter Tryz.func13, Tryz.ntmps13
  go_wp2_with fail
  go_loopw [5, 10] (fun v u wr => ∃ j : Nat, u = .int .i64 j ∧ j ≤ ML ∧ Hid (Below w.heap.size w wr) ∧ Hid (wr.ownsRow w.heap.size 72 3 v j (encells (entE (hashT T) (M.take j))))) (fun _ u _ => ML - (intOf u).toNat)
  case atStart => exact ⟨0, rfl, by omega, Below.refl _ _, World.ownsRow_nil _ _ _ _⟩
  case round =>
    obtain ⟨j, rfl, hj, hbel, hown⟩ := hrel
    by_cases hlt : j < ML
    · have hlt' : j < M.length := by rw [← HML.out]; exact hlt
      obtain ⟨b, rfl, hbl, h0, h1⟩ := (HB.out.below hbel.out).at hlt'
      obtain ⟨s, hs⟩ : ∃ s : ByteArray, s = ⟨(M[j]).1.toArray⟩ := ⟨_, rfl⟩
      obtain ⟨t, ht⟩ : ∃ s : ByteArray, s = ⟨(M[j]).2.toArray⟩ := ⟨_, rfl⟩
      rw [← hs] at h0
      rw [← ht] at h1
      obtain ⟨wa, hwa⟩ : ∃ wa, wa = wr.alloc (.cells #[.string s, .string t] 32) := ⟨_, rfl⟩
      have hba : Below wr.heap.size wr wa := by rw [hwa]; exact (Below.refl _ _).alloc (Nat.le_refl _) _
      have ra : wa.heap[wr.heap.size]? = some (.cells #[.string s, .string t] 32 (0, 0)) := by rw [hwa]; exact heap_alloc_new wr _
      have hbw := below_then hbel.out hba
      obtain ⟨q, hq⟩ : ∃ q, q = hashT T (M[j]).1 := ⟨_, rfl⟩
      have J : Hid (∀ W, Below wa.heap.size wa W → Calls Tryz.prog 9 #[.slice A TL c, .string s] W fun e w' => e = .returned (.int .u64 (q : Int)) ∧ W = w') := fun W hW => by
        have := HHA.out W (M[j]).1 (below_then hbw hW) (HK.out _ (List.getElem_mem hlt'))
        rw [← hs, ← hq] at this
        exact this
      have d0 : (wa.drew).cell? ⟨wr.heap.size, 0, none⟩ = some (.string s) := (row2 ra).1
      have d1 : (wa.drew).cell? ⟨wr.heap.size, 1, none⟩ = some (.string t) := (row2 ra).2.1
      have d0a : ∀ o, (wa.drew.alloc o).cell? ⟨wr.heap.size, 0, none⟩ = some (.string s) := fun o => row_cell (((Below.refl _ wa.drew).alloc (Nat.le_refl _) o).block wr.heap.size (Array.getElem?_eq_some_iff.1 ra).1 |>.trans ra) rfl
      have d1a : ∀ o, (wa.drew.alloc o).cell? ⟨wr.heap.size, 1, none⟩ = some (.string t) := fun o => row_cell (((Below.refl _ wa.drew).alloc (Nat.le_refl _) o).block wr.heap.size (Array.getElem?_eq_some_iff.1 ra).1 |>.trans ra) rfl
      have hz0 : Below wa.heap.size wa wa.drew := (Below.refl _ _).drew
      have HO : Hid (wa.drew.ownsRow w.heap.size 72 3 u5 j (encells (entE (hashT T) (M.take j)))) := own_below hown.out (below_then hba hz0)
      have HSZ : Hid (w.heap.size ≤ wa.drew.heap.size) := (below_then hbw hz0).size
      have HBW := Lib.hid (below_then hbw hz0)
      have HE : Hid (encells (entE (hashT T) (M.take (j + 1))) = encells (entE (hashT T) (M.take j)) ++ [.int .u64 (q : Int), .string s, .string t]) := by
        show _ = _
        rw [entE_take hlt', encells_snoc, hq, hs, ht]
      have HWA := Lib.hid hwa; clear hwa
      clear hs ht hq ra hba hbw HHA HB HK
      go_wp2_with fail
      rw [← HWA.out]
      go_region_law (first
        | (refine step_appK (B := w.heap.size) (w := wa.drew) 48 72 _ 3 40 Tryz.underlying48 Tryz.info62 rfl (by decide) (by decide) rfl (.tmp 14) (.tmp 21) rfl u5 j (encells (entE (hashT T) (M.take j))) HO.out [.int .u64 (q : Int), .string s, .string t] rfl (by intro u hu; simp at hu; rcases hu with rfl | rfl | rfl <;> rfl) (by simp [Act.eval]) (by simp [Act.eval]) (by omega) HSZ.out ?_; intro v' w1 o1 o2 _)
        | (go_simp; go_at_call 9; (with_reducible refine (J.out _ hz0).mono ?_); rintro r w' ⟨rfl, rfl⟩)
        | fail)
      all_goals
        go_wp2_with fail
        go_roundw
        case rel => exact ⟨j + 1, by go_num, by omega, HBW.out.grown o2 HSZ.out (fun k hk => (HO.out.lt k hk).1), by show World.ownsRow _ _ _ _ _ _ _; rw [HE.out]; exact o1⟩
        case measure => simp [intOf]; omega
    · obtain rfl : j = ML := by omega
      have ho := hown.out
      have hMt : M.take j = M := by rw [HML.out, List.take_length]
      have hel : j = (entE (hashT T) M).length := by rw [HML.out]; simp [entE]
      rw [hMt] at ho
      rw [hel] at ho
      obtain ⟨A2, c2, hv, _, hR, hN⟩ := res_own ho
      rw [← hel] at hv
      subst hv
      have HP := Lib.hid (And.intro hR hN); clear hR hN ho hel hMt
      go_wp2_with fail
      go_ret
      exact ⟨⟨A2, c2, rfl, HP.out⟩, hbel.out⟩
end Go.Proofs.YtmbdimonfdncpaaGreatDoor
