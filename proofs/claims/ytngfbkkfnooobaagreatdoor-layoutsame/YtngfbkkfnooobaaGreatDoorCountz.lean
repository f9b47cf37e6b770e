/-
  Contract of the law's count.
-/
import Derived.Test.YtngfbkkfnooobaaGreatDoorBranch
import Derived.Test.YtngfbkkfnooobaaGreatDoorThree
namespace Go.Proofs.YtngfbkkfnooobaaGreatDoor
open Go.RowKit
set_option maxHeartbeats 4000000
set_option maxRecDepth 100000
/-- how many children each has -/
def Nd.few : Nd → Prop
  | .bran _ k kid => k ≤ 1000 ∧ ∀ i, i < k → (kid i).few
  | _ => True
theorem Nd.ok_few : ∀ (x : Nd), x.ok → x.few
  | .none, _ => trivial
  | .leaf _ _, _ => trivial
  | .buck _ _, _ => trivial
  | .bran m k kid, h => ⟨by have := Bt.list_le m 32; have := h.2.2.1; omega, fun i hi => Nd.ok_few (kid i) (h.2.2.2 i hi).2⟩
theorem Nd.num_le {x : Nd} (h : x.ok) : x.num ≤ 32 := by
  cases x with
  | bran m k kid => have := Bt.list_le m 32; have := h.2.2.1; simp only [Nd.num]; omega
  | _ => exact Nat.zero_le _
end Go.Proofs.YtngfbkkfnooobaaGreatDoor
/-
  Contract of the reference's Count.
-/
namespace Go.Proofs.YtngfbkkfnooobaaGreatDoor
open Go.RowKit
set_option maxHeartbeats 4000000
set_option maxRecDepth 100000
theorem count_ref (x : Nd) : ∀ (F : Nat → Prop) (w : World) (r : RN), Mde F w x r → x.ok → x.cnt ≤ 1000000000000 →
    Calls Tryz.prog 30 #[RN.agg r x] w fun e w' => e = .returned (.int .i64 (x.cnt : Int)) ∧ Below w.heap.size w w' := by
  induction x using Nd.by_kids with
  | h x ih =>
    intro F w r hm ho hc
    have hnum := Nd.num_le ho
    have hcnt := Nd.cnt_eq x
    unfold RN.agg
    obtain ⟨pa, pc, sa, sc, ka, kc⟩ := r
    obtain ⟨kd, hkd⟩ : ∃ k, k = x.kind := ⟨_, rfl⟩
    obtain ⟨hs, hhs⟩ : ∃ k, k = x.hash := ⟨_, rfl⟩
    obtain ⟨np, hnp⟩ : ∃ k, k = x.prs.length := ⟨_, rfl⟩
    obtain ⟨ns, hns⟩ : ∃ k, k = x.set.length := ⟨_, rfl⟩
    obtain ⟨nk, hnk⟩ : ∃ k, k = x.num := ⟨_, rfl⟩
    rw [← hkd, ← hhs, ← hnp, ← hns, ← hnk]
    rw [← hnp, ← hnk] at hcnt
    rw [← hnk] at hnum
    obtain ⟨w1, hw1⟩ : ∃ w1, w1 = w.alloc (.cells #[.int .i64 (kd : Int), .int .u64 (hs : Int), .slice pa np pc, .slice sa ns sc, .slice ka nk kc] 33) := ⟨_, rfl⟩
    have hb1 : Below w.heap.size w w1 := by rw [hw1]; exact (Below.refl _ _).alloc (Nat.le_refl _) _
    have r1 : w1.heap[w.heap.size]? = some (.cells #[.int .i64 (kd : Int), .int .u64 (hs : Int), .slice pa np pc, .slice sa ns sc, .slice ka nk kc] 33 (0, 0)) := by rw [hw1]; exact heap_alloc_new w _
    obtain ⟨⟨_, _, c2, _, c4⟩, _⟩ := row5 r1
    have HW := Lib.hid hw1; clear hw1
    have HB := Lib.hid hb1; clear hb1
    have HM := Lib.hid hm; clear hm
    have HC := Lib.hid hcnt; clear hcnt
    have HIH := Lib.hid ih; clear ih
    have HO := Lib.hid ho; clear ho
    have HK := Lib.hid hnk; clear hnk
    have HCC := Lib.hid hc; clear hc
    have HNP : Hid (np + sumTo (fun i => (x.kid i).cnt) nk ≤ 1000000000000) := by show _ ≤ _; rw [← HC.out]; exact HCC.out
    clear hkd hhs hnp hns r1
    go_enter Tryz.func30, Tryz.ntmps30
    go_wp2_with fail
    rw [← HW.out]
    go_loopw [3, 12] (fun s i wr => ∃ j n : Nat, i = .int .i64 (j : Int) ∧ s = .int .i64 (n : Int) ∧ j ≤ nk ∧ Hid (n = np + sumTo (fun i => (x.kid i).cnt) j) ∧ Hid (Below w.heap.size w wr)) (fun _ i _ => nk - (intOf i).toNat)
    case atStart => exact ⟨0, np, rfl, rfl, by omega, rfl, HB.out⟩
    case round =>
      obtain ⟨j, n, rfl, rfl, hj, hn, hbel⟩ := hrel
      by_cases hlt : j < nk
      · obtain ⟨g, hka, hg, ⟨pa5, pc5, sa5, sc5, ka5, kc5⟩, ⟨q0, q1, q2, q3, q4⟩, hm5⟩ := (HM.out.below hbel.out).child (i := j) (by have := HK.out; omega)
        subst hka
        have hk5 := (Nd.ok_kid HO.out (i := j) (by have := HK.out; omega)).2
        have hc5 : (x.kid j).cnt ≤ 1000000000000 := Nat.le_trans (Nd.cnt_kid x (by have := HK.out; omega)) HCC.out
        have hst : sumTo (fun i => (x.kid i).cnt) (j + 1) = sumTo (fun i => (x.kid i).cnt) j + (x.kid j).cnt := rfl
        have hmx := sumTo_le (fun i => (x.kid i).cnt) (show j + 1 ≤ nk by omega)
        have hbw : ∀ o, Below wr.heap.size wr (wr.alloc o) := fun o => (Below.refl _ _).alloc (Nat.le_refl _) o
        have J := fun o => HIH.out j (by have := HK.out; omega) F (wr.alloc o) ⟨pa5, pc5, sa5, sc5, ka5, kc5⟩ (hm5.below (hbw o)) hk5 hc5
        simp only [RN.agg] at J
        obtain ⟨x5, hx5⟩ : ∃ k, k = (x.kid j).cnt := ⟨_, rfl⟩
        obtain ⟨k0, hk0⟩ : ∃ k, k = (x.kid j).kind := ⟨_, rfl⟩
        obtain ⟨k1, hk1⟩ : ∃ k, k = (x.kid j).hash := ⟨_, rfl⟩
        obtain ⟨k2, hk2⟩ : ∃ k, k = (x.kid j).prs.length := ⟨_, rfl⟩
        obtain ⟨k3, hk3⟩ : ∃ k, k = (x.kid j).set.length := ⟨_, rfl⟩
        obtain ⟨k4, hk4⟩ : ∃ k, k = (x.kid j).num := ⟨_, rfl⟩
        simp only [← hx5, ← hk0, ← hk1, ← hk2, ← hk3, ← hk4] at J
        rw [← hk0] at q0
        rw [← hk1] at q1
        rw [← hk2] at q2
        rw [← hk3] at q3
        rw [← hk4] at q4
        have hnn : n + x5 = np + sumTo (fun i => (x.kid i).cnt) (j + 1) := by rw [hst, ← hx5]; have := hn.out; omega
        have hnb : n + x5 ≤ 1000000000000 := by have := HNP.out; omega
        have HNN := Lib.hid hnn; clear hnn
        have HJ := Lib.hid J; clear J
        have HBW := Lib.hid hbw; clear hbw
        clear hm5 hk5 hc5 hst hmx hx5 hk0 hk1 hk2 hk3 hk4
        go_wp2_with fail
        refine (HJ.out _).mono ?_
        rintro e w2 ⟨rfl, hb2⟩
        have HB2 := Lib.hid (hbel.out.trans ((below_then (HBW.out _) hb2).mono hbel.out.size)); clear hb2
        go_wp2_with fail
        go_roundw
        case rel => exact ⟨j + 1, n + x5, by go_num, by go_num, by omega, HNN.out, HB2.out⟩
        case measure => simp [intOf]; omega
      · obtain rfl : nk = j := by omega
        have HE : Hid (n = x.cnt) := by show _ = _; rw [HC.out]; exact hn.out
        clear hn
        go_wp2_with fail
        go_ret
        exact ⟨by rw [HE.out]; rfl, hbel.out⟩
end Go.Proofs.YtngfbkkfnooobaaGreatDoor
