/-
  slices.symMergeCmpFunc at pairs, where the first stretch is one place; where the second is.
-/
import Derived.Test.YtfhnmmiakknilaaSwap
namespace Go.Proofs.Ytfhnmmiakknilaa
open Go.Shelf Go.RowKit Go.Lib Go.Sort Go.Proofs
set_option maxHeartbeats 4000000
set_option maxRecDepth 1000000
variable {g : Nat → PV} {w0 : World} {blk off : Nat} {d0 : Array Nat} {cf : Nat → Nat → Int}
/-- what a test reads: two pairs, in every world of the class, and what it tells there -/
theorem SWK.test {W : World} {dk : Array Nat} (h : SWK (enc2 g) 2 w0 blk off dk W) (R : RowK (enc2 g) 2 w0 blk off d0) (hC : CmpLays Try.prog 38 #[] (enc2 g) 2 cf blk off d0.size w0) (hs : dk.size = d0.size) {i j : Nat} (hi : i < dk.size) (hj : j < dk.size) :
    ∃ pa pn pc qa qn qc ra rn rc sa sn sc, (∀ n os, (grow (W.drewN n) os).cell? ⟨blk, off + i * 2, none⟩ = some (.slice pa pn pc) ∧ (grow (W.drewN n) os).cell? ⟨blk, off + i * 2 + 1, none⟩ = some (.slice qa qn qc) ∧ (grow (W.drewN n) os).cell? ⟨blk, off + j * 2, none⟩ = some (.slice ra rn rc) ∧ (grow (W.drewN n) os).cell? ⟨blk, off + j * 2 + 1, none⟩ = some (.slice sa sn sc)) ∧
      (∀ n os, Calls Try.prog 38 #[.agg #[.slice pa pn pc, .slice qa qn qc], .agg #[.slice ra rn rc, .slice sa sn sc]] (grow (W.drewN n) os) fun e w' => e = .returned (.int .i64 (cf (pl dk i) (pl dk j))) ∧ ∃ q os', w' = grow ((grow (W.drewN n) os).drewN q) os') := by
  refine ⟨(g dk[i]!).a, (g dk[i]!).n, (g dk[i]!).c, (g dk[i]!).b, (g dk[i]!).m, (g dk[i]!).d, (g dk[j]!).a, (g dk[j]!).n, (g dk[j]!).c, (g dk[j]!).b, (g dk[j]!).m, (g dk[j]!).d, fun n os => ?_, fun n os => h.cmp hC hs (dk[i]!) (dk[j]!) n os⟩
  obtain ⟨x1, x2, _, _⟩ := row_two ((h.grown n os).holds R.hblk R.hH hs) hi
  obtain ⟨y1, y2, _, _⟩ := row_two ((h.grown n os).holds R.hblk R.hH hs) hj
  exact ⟨x1, x2, y1, y2⟩
theorem sym_up (R : RowK (enc2 g) 2 w0 blk off d0) (hC : CmpLays Try.prog 38 #[] (enc2 g) 2 cf blk off d0.size w0) (hS : SWO (ltOf cf)) (cap a b : Nat) {w : World} {d : Array Nat} (hW : SWK (enc2 g) 2 w0 blk off d w) (hs : d.size = d0.size) (hsz : d0.size < 4611686018427387904) (h1 : a + 1 < b) (h2 : b ≤ d0.size) (B : Asc (ltOf cf) (pl d) (a + 1) b) :
    Calls Try.prog 70 #[.slice (some ⟨blk, off, none⟩) d0.size cap, .int .i64 (a : Int), .int .i64 ((a + 1 : Nat) : Int), .int .i64 (b : Int), .func (.func 38) #[] #[]] w fun e w' => e = .returned (.tuple #[]) ∧ ∃ d', SWK (enc2 g) 2 w0 blk off d' w' ∧ d'.size = d0.size ∧ Mgd (ltOf cf) (pl d) (pl d') a b := by
  have S0 : Hid (SWK (enc2 g) 2 w0 blk off d w) := hW
  have HR : Hid (RowK (enc2 g) 2 w0 blk off d0) := R
  have HC : Hid (CmpLays Try.prog 38 #[] (enc2 g) 2 cf blk off d0.size w0) := hC
  have HS := Lib.hid hS
  have HB := Lib.hid B
  obtain ⟨sz, hz⟩ : ∃ sz, sz = d0.size := ⟨_, rfl⟩
  obtain ⟨m, hm⟩ : ∃ m, m = a + 1 := ⟨_, rfl⟩
  rw [← hz] at hs hsz h2 ⊢
  rw [← hm] at h1 ⊢
  have HZ := Lib.hid hz
  have HM := Lib.hid hm
  have e1 : IntKind.i64.wrap ((m : Int) - (a : Int)) = 1 := by rw [IntKind.wrap_i64]; omega
  have e2 : (m : Int) - (a : Int) = 1 := by omega
  clear hW hz R hC hS B hm
  have mixed : Try.prog.follows .mixedOrders = true := by kernel_rfl
  go_enter Try.func70, Try.ntmps70
  go_wp2_with fail
  go_loopg [10, 11, 12] (b - m) (fun kx s10 s11 s12 wr => ∃ (i j : Nat), s10 = .int .i64 (i : Int) ∧ s11 = .int .i64 (j : Int) ∧ m ≤ i ∧ i ≤ j ∧ j ≤ b ∧ j - i ≤ kx ∧ Hid (SWK (enc2 g) 2 w0 blk off d wr) ∧ Hid (i = m ∨ ltOf cf (pl d (i - 1)) (pl d a) = true) ∧ Hid (j = b ∨ ltOf cf (pl d j) (pl d a) = false))
  case atStart => exact ⟨m, b, rfl, rfl, by omega, by omega, by omega, by omega, S0.out, .inl rfl, .inl rfl⟩
  case round =>
    clear S0
    obtain ⟨i, j, rfl, rfl, hmi, hij, hjb, hkx, S1, hci, hcj⟩ := hrel
    by_cases hlt : i < j
    · have hltz : (i : Int) < (j : Int) := by omega
      obtain ⟨h, hh⟩ : ∃ h, h = (i + j) / 2 := ⟨_, rfl⟩
      have a1 : IntKind.i64.wrap ((i : Int) + (j : Int)) = (i : Int) + (j : Int) := by rw [IntKind.wrap_i64]; omega
      have a2 : ((i : Int) + (j : Int)) / 2 = (h : Int) := by omega
      obtain ⟨pa, pn, pc, qa, qn, qc, ra, rn, rc, sa, sn, sc, hcell, hcall⟩ := SWK.test S1.out HR.out HC.out (hs.trans HZ.out) (show h < d.size by omega) (show a < d.size by omega)
      have HH : Hid (h = (i + j) / 2) := hh
      have hih : i ≤ h := by omega
      have hhj : h < j := by omega
      have hzh : (h : Int) < (sz : Int) := by omega
      have hza : (a : Int) < (sz : Int) := by omega
      clear hh
      have q1 := fun n os => (hcell n os).1
      have q2 := fun n os => (hcell n os).2.1
      have q3 := fun n os => (hcell n os).2.2.1
      have q4 := fun n os => (hcell n os).2.2.2
      obtain ⟨c, hc⟩ : ∃ c, c = cf (pl d h) (pl d a) := ⟨_, rfl⟩
      rw [← hc] at hcall
      have hlc : ltOf cf (pl d h) (pl d a) = decide (c < 0) := by rw [hc]; rfl
      have HLC := Lib.hid hlc; clear hlc hc hcell
      have kw : IntKind.i64.wrap ((h : Int) + 1) = (h : Int) + 1 := by rw [IntKind.wrap_i64]; omega
      by_cases hv : c < 0
      · go_wp2_with fail
        go_quiet_grown (first | (go_at_call 38; refine Calls.grown_of (hcall _ _)))
        have hS2 := Lib.hid (S1.out.grown nq osq)
        have hn1 : Hid (h + 1 = m ∨ ltOf cf (pl d (h + 1 - 1)) (pl d a) = true) := .inr (by rw [Nat.add_sub_cancel, HLC.out]; exact decide_eq_true hv)
        clear q1 q2 q3 q4 hcall S1
        generalize grow (wr.drewN nq) osq = w2 at hS2 ⊢
        go_wp2_with fail
        go_roundg (j - (h + 1))
        case measure => omega
        case rel => exact ⟨h + 1, j, by go_num, rfl, by omega, by omega, by omega, by omega, hS2.out, hn1.out, hcj.out⟩
      · go_wp2_with fail
        go_quiet_grown (first | (go_at_call 38; refine Calls.grown_of (hcall _ _)))
        have hS2 := Lib.hid (S1.out.grown nq osq)
        have hn1 : Hid (h = b ∨ ltOf cf (pl d h) (pl d a) = false) := .inr (by rw [HLC.out]; exact decide_eq_false (by omega))
        clear q1 q2 q3 q4 hcall S1
        generalize grow (wr.drewN nq) osq = w2 at hS2 ⊢
        go_wp2_with fail
        go_roundg (h - i)
        case measure => omega
        case rel => exact ⟨i, h, rfl, by go_num, by omega, by omega, by omega, by omega, hS2.out, hci.out, hn1.out⟩
    · obtain rfl : i = j := by omega
      have kw : IntKind.i64.wrap ((i : Int) - 1) = (i : Int) - 1 := by rw [IntKind.wrap_i64]; omega
      go_wp2_with fail
      go_loopg [13] (i - a) (fun kx s13 wr2 => ∃ (k : Nat) (dk : Array Nat), s13 = .int .i64 (k : Int) ∧ a ≤ k ∧ k + 1 ≤ i ∧ i - k ≤ kx ∧ dk.size = sz ∧ Hid (SWK (enc2 g) 2 w0 blk off dk wr2) ∧ Hid (pl dk = rotf (pl d) a (a + 1) (k + 1)))
      case atStart => exact ⟨a, d, rfl, by omega, by omega, by omega, hs, S1.out, (rotf_right (pl d) a (a + 1) (by omega)).symm⟩
      case round =>
        clear S1
        obtain ⟨k, dk, rfl, hak, hki, hkx2, hds, S1, hpl⟩ := hrel
        by_cases hlt2 : k + 1 < i
        · have hltz : (k : Int) < (i : Int) - 1 := by omega
          have ra : IntKind.i64.wrap ((k : Int) + 1) = (k : Int) + 1 := by rw [IntKind.wrap_i64]; omega
          have ea : ((k : Int) + 1).toNat = k + 1 := by omega
          have pa : (0 : Int) ≤ (k : Int) + 1 := by omega
          have ba : (k : Int) + 1 < (sz : Int) := by omega
          have ba2 : (k : Int) < (sz : Int) := by omega
          go_wp2_with fail
          obtain ⟨pa', pn, pc, qa, qn, qc, ra', rn, rc, sa, sn, sc, c1, c2, c3, c4, f1, f2, f3, f4, c5, c6, c7, hS⟩ := SWK.exch S1.out HR.out (hds.trans HZ.out) (show k < dk.size by omega) (show k + 1 < dk.size by omega) (by omega)
          have S2 := Lib.hid hS; clear hS
          have hp2 : Hid (pl (swp dk k (k + 1)) = rotf (pl d) a (a + 1) (k + 2)) := by
            show _ = _
            rw [pl_swp dk (by omega) (by omega), hpl.out, rotf_up _ _ _ hak]
          have hs2 : Hid ((swp dk k (k + 1)).size = sz) := by show _ = _; rw [size_swp]; exact hds
          clear S1
          go_wp2_with fail
          go_big_region_o
          all_goals
            clear c1 c2 c3 c4 f1 f2 f3 f4 c5 c6 c7
            generalize ((((wr.setCell ⟨blk, off + k * 2, none⟩ (.slice ra' rn rc)).setCell ⟨blk, off + k * 2 + 1, none⟩ (.slice sa sn sc)).setCell ⟨blk, off + (k + 1) * 2, none⟩ (.slice pa' pn pc)).setCell ⟨blk, off + (k + 1) * 2 + 1, none⟩ (.slice qa qn qc)).drew = w2 at S2 ⊢
            go_wp2_with fail
            go_roundg (i - (k + 1))
            case measure => omega
            case rel => exact ⟨k + 1, _, by go_num, by omega, by omega, by omega, hs2.out, S2.out, hp2.out⟩
        · obtain rfl : i = k + 1 := by omega
          have hnl : ¬ (k : Int) < ((k + 1 : Nat) : Int) - 1 := by omega
          go_wp2_with fail
          refine bodyPost_ret (results_none rfl _ _ _) rfl ?_
          refine ⟨rfl, dk, S1.out, by rw [hds, HZ.out], ?_⟩
          rw [hpl.out]
          have hmm := HM.out
          exact mgd_up HS.out (by omega) (by omega) HB.out (hmm ▸ hci.out) hcj.out
end Go.Proofs.Ytfhnmmiakknilaa
namespace Go.Proofs.Ytfhnmmiakknilaa
open Go.Shelf Go.RowKit Go.Lib Go.Sort Go.Proofs
set_option maxHeartbeats 4000000
set_option maxRecDepth 1000000
variable {g : Nat → PV} {w0 : World} {blk off : Nat} {d0 : Array Nat} {cf : Nat → Nat → Int}
theorem sym_down (R : RowK (enc2 g) 2 w0 blk off d0) (hC : CmpLays Try.prog 38 #[] (enc2 g) 2 cf blk off d0.size w0) (hS : SWO (ltOf cf)) (cap a m : Nat) {w : World} {d : Array Nat} (hW : SWK (enc2 g) 2 w0 blk off d w) (hs : d.size = d0.size) (hsz : d0.size < 4611686018427387904) (h1 : a + 1 < m) (h2 : m + 1 ≤ d0.size) (A : Asc (ltOf cf) (pl d) a m) :
    Calls Try.prog 70 #[.slice (some ⟨blk, off, none⟩) d0.size cap, .int .i64 (a : Int), .int .i64 (m : Int), .int .i64 ((m + 1 : Nat) : Int), .func (.func 38) #[] #[]] w fun e w' => e = .returned (.tuple #[]) ∧ ∃ d', SWK (enc2 g) 2 w0 blk off d' w' ∧ d'.size = d0.size ∧ Mgd (ltOf cf) (pl d) (pl d') a (m + 1) := by
  have S0 : Hid (SWK (enc2 g) 2 w0 blk off d w) := hW
  have HR : Hid (RowK (enc2 g) 2 w0 blk off d0) := R
  have HC : Hid (CmpLays Try.prog 38 #[] (enc2 g) 2 cf blk off d0.size w0) := hC
  have HS := Lib.hid hS
  have HA := Lib.hid A
  obtain ⟨sz, hz⟩ : ∃ sz, sz = d0.size := ⟨_, rfl⟩
  obtain ⟨b, hb⟩ : ∃ b, b = m + 1 := ⟨_, rfl⟩
  rw [← hz] at hs hsz h2 ⊢
  rw [← hb] at h2 ⊢
  have HZ := Lib.hid hz
  have HBB := Lib.hid hb
  have e1 : IntKind.i64.wrap ((m : Int) - (a : Int)) = (m : Int) - (a : Int) := by rw [IntKind.wrap_i64]; omega
  have e3 : ((m : Int) - (a : Int) == 1) = false := by
    have : ¬ (m : Int) - (a : Int) = 1 := by omega
    simpa using this
  have e4 : ¬ (m : Int) - (a : Int) = 1 := by omega
  have e5 : IntKind.i64.wrap ((b : Int) - (m : Int)) = 1 := by rw [IntKind.wrap_i64]; omega
  have e6 : (b : Int) - (m : Int) = 1 := by omega
  have hmsz : m < sz := by omega
  clear hW hz R hC hS A hb
  have mixed : Try.prog.follows .mixedOrders = true := by kernel_rfl
  go_enter Try.func70, Try.ntmps70
  go_wp2_with fail
  go_loopg [14, 15, 16] (m - a) (fun kx s10 s11 s12 wr => ∃ (i j : Nat), s10 = .int .i64 (i : Int) ∧ s11 = .int .i64 (j : Int) ∧ a ≤ i ∧ i ≤ j ∧ j ≤ m ∧ j - i ≤ kx ∧ Hid (SWK (enc2 g) 2 w0 blk off d wr) ∧ Hid (i = a ∨ ltOf cf (pl d m) (pl d (i - 1)) = false) ∧ Hid (j = m ∨ ltOf cf (pl d m) (pl d j) = true))
  case atStart => exact ⟨a, m, rfl, rfl, by omega, by omega, by omega, by omega, S0.out, .inl rfl, .inl rfl⟩
  case round =>
    clear S0
    obtain ⟨i, j, rfl, rfl, hmi, hij, hjb, hkx, S1, hci, hcj⟩ := hrel
    by_cases hlt : i < j
    · have hltz : (i : Int) < (j : Int) := by omega
      obtain ⟨h, hh⟩ : ∃ h, h = (i + j) / 2 := ⟨_, rfl⟩
      have a1 : IntKind.i64.wrap ((i : Int) + (j : Int)) = (i : Int) + (j : Int) := by rw [IntKind.wrap_i64]; omega
      have a2 : ((i : Int) + (j : Int)) / 2 = (h : Int) := by omega
      obtain ⟨pa, pn, pc, qa, qn, qc, ra, rn, rc, sa, sn, sc, hcell, hcall⟩ := SWK.test S1.out HR.out HC.out (hs.trans HZ.out) (show m < d.size by omega) (show h < d.size by omega)
      have HH : Hid (h = (i + j) / 2) := hh
      have hih : i ≤ h := by omega
      have hhj : h < j := by omega
      have hzh : (h : Int) < (sz : Int) := by omega
      have hza : (m : Int) < (sz : Int) := by omega
      clear hh
      have q1 := fun n os => (hcell n os).1
      have q2 := fun n os => (hcell n os).2.1
      have q3 := fun n os => (hcell n os).2.2.1
      have q4 := fun n os => (hcell n os).2.2.2
      obtain ⟨c, hc⟩ : ∃ c, c = cf (pl d m) (pl d h) := ⟨_, rfl⟩
      rw [← hc] at hcall
      have hlc : ltOf cf (pl d m) (pl d h) = decide (c < 0) := by rw [hc]; rfl
      have HLC := Lib.hid hlc; clear hlc hc hcell
      have kw : IntKind.i64.wrap ((h : Int) + 1) = (h : Int) + 1 := by rw [IntKind.wrap_i64]; omega
      by_cases hv : c < 0
      · go_wp2_with fail
        go_quiet_grown (first | (go_at_call 38; refine Calls.grown_of (hcall _ _)))
        have hS2 := Lib.hid (S1.out.grown nq osq)
        have hn1 : Hid (h = m ∨ ltOf cf (pl d m) (pl d h) = true) := .inr (by rw [HLC.out]; exact decide_eq_true hv)
        clear q1 q2 q3 q4 hcall S1
        generalize grow (wr.drewN nq) osq = w2 at hS2 ⊢
        go_wp2_with fail
        go_roundg (h - i)
        case measure => omega
        case rel => exact ⟨i, h, rfl, by go_num, by omega, by omega, by omega, by omega, hS2.out, hci.out, hn1.out⟩
      · have hnv : decide (c < 0) = false := decide_eq_false (by omega)
        have hnw : (!decide (c < 0)) = true := by rw [hnv]; rfl
        go_wp2_with fail
        go_quiet_grown (first | (go_at_call 38; refine Calls.grown_of (hcall _ _)))
        have hS2 := Lib.hid (S1.out.grown nq osq)
        have hn1 : Hid (h + 1 = a ∨ ltOf cf (pl d m) (pl d (h + 1 - 1)) = false) := .inr (by rw [Nat.add_sub_cancel, HLC.out]; exact decide_eq_false (by omega))
        clear q1 q2 q3 q4 hcall S1
        generalize grow (wr.drewN nq) osq = w2 at hS2 ⊢
        go_wp2_with fail
        go_roundg (j - (h + 1))
        case measure => omega
        case rel => exact ⟨h + 1, j, by go_num, rfl, by omega, by omega, by omega, by omega, hS2.out, hn1.out, hcj.out⟩
    · obtain rfl : i = j := by omega
      go_wp2_with fail
      go_loopg [17] (m - i) (fun kx s13 wr2 => ∃ (k : Nat) (dk : Array Nat), s13 = .int .i64 (k : Int) ∧ i ≤ k ∧ k ≤ m ∧ k - i ≤ kx ∧ dk.size = sz ∧ Hid (SWK (enc2 g) 2 w0 blk off dk wr2) ∧ Hid (pl dk = rotf (pl d) k m (m + 1)))
      case atStart => exact ⟨m, d, rfl, by omega, by omega, by omega, hs, S1.out, (rotf_left (pl d) m (m + 1)).symm⟩
      case round =>
        clear S1
        obtain ⟨k0, dk, rfl, hak, hki, hkx2, hds, S1, hpl⟩ := hrel
        by_cases hlt2 : i < k0
        · obtain ⟨k, rfl⟩ : ∃ k, k0 = k + 1 := ⟨k0 - 1, by omega⟩
          have hltz : (i : Int) < (k : Int) + 1 := by omega
          have hwp : IntKind.i64.wrap (k : Int) = (k : Int) := by rw [IntKind.wrap_i64]; omega
          have ra : IntKind.i64.wrap ((k : Int) + 1 - 1) = (k : Int) := by rw [IntKind.wrap_i64]; omega
          have ea : ((k : Int) + 1).toNat = k + 1 := by omega
          have pa : (0 : Int) ≤ (k : Int) + 1 := by omega
          have ba : (k : Int) + 1 < (sz : Int) := by omega
          have ba2 : (k : Int) < (sz : Int) := by omega
          go_wp2_with fail
          obtain ⟨pa', pn, pc, qa, qn, qc, ra', rn, rc, sa, sn, sc, c1, c2, c3, c4, f1, f2, f3, f4, c5, c6, c7, hS⟩ := SWK.exch S1.out HR.out (hds.trans HZ.out) (show k + 1 < dk.size by omega) (show k < dk.size by omega) (by omega)
          have S2 := Lib.hid hS; clear hS
          have hp2 : Hid (pl (swp dk (k + 1) k) = rotf (pl d) k m (m + 1)) := by
            show _ = _
            rw [pl_swp dk (by omega) (by omega), hpl.out, rotf_down _ _ _ (by omega)]
          have hs2 : Hid ((swp dk (k + 1) k).size = sz) := by show _ = _; rw [size_swp]; exact hds
          clear S1
          go_wp2_with fail
          go_big_region_o
          all_goals
            clear c1 c2 c3 c4 f1 f2 f3 f4 c5 c6 c7
            generalize ((((wr.setCell ⟨blk, off + (k + 1) * 2, none⟩ (.slice ra' rn rc)).setCell ⟨blk, off + (k + 1) * 2 + 1, none⟩ (.slice sa sn sc)).setCell ⟨blk, off + k * 2, none⟩ (.slice pa' pn pc)).setCell ⟨blk, off + k * 2 + 1, none⟩ (.slice qa qn qc)).drew = w2 at S2 ⊢
            go_wp2_with fail
            go_roundg (k - i)
            case measure => omega
            case rel => exact ⟨k, _, by go_num, by omega, by omega, by omega, hs2.out, S2.out, hp2.out⟩
        · obtain rfl : i = k0 := by omega
          go_wp2_with fail
          refine bodyPost_ret (results_none rfl _ _ _) rfl ?_
          refine ⟨rfl, dk, S1.out, by rw [hds, HZ.out], ?_⟩
          rw [hpl.out, HBB.out]
          exact mgd_down HS.out (by omega) (by omega) HA.out hci.out hcj.out
end Go.Proofs.Ytfhnmmiakknilaa
