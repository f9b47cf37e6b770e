/-
  Contract of Hash.
-/
import Derived.Test.YtmkibkeacbhhaaaBegin
import Derived.StillTailTactics
namespace Go.Proofs.Ytmkibkeacbhhaaa
open Go.RowKit
set_option maxHeartbeats 400000
/-- what 's[k:]' comes to -/
def restA (A : Option Addr) (c k : Nat) : Option Addr := if c = k then A else A.map (·.add k)
theorem slice_rest (A : Option Addr) (n c k : Nat) (hk : k ≤ n) (W : World) :
    (Instr.slice 24 (.slice A n c) (some (.int .i64 (k : Int))) none none).run Try.prog W = .ok (.slice (restA A c k) (n - k) (c - k)) W := by
  have hz : ∀ W, (sizeOf (Try.prog.elem 24)).run Try.prog W = .ok 1 W := fun W => by kernel_rfl
  rw [run_slice_l W 24 A n c Try.underlying24 .i64 (k : Int) (by omega) (by omega), hz]
  simp only [Result.andThen, sliced, Int.toNat_natCast, Nat.mul_one, restA]
theorem slice_rest8 (A : Option Addr) (n c k : Nat) (hk : 8 * k ≤ n) (W : World) :
    (Instr.slice 24 (.slice A n c) (some (.int .i64 (8 * (k : Int)))) none none).run Try.prog W = .ok (.slice (restA A c (8 * k)) (n - 8 * k) (c - 8 * k)) W :=
  slice_rest A n c (8 * k) hk W
theorem Bts.rest {W : World} {A : Option Addr} {l : List UInt8} (h : Bts W A l) (c k : Nat) (hc : l.length ≤ c) : Bts W (restA A c k) (l.drop k) := by
  by_cases hk : l.length ≤ k
  · left; rw [List.drop_eq_nil_iff]; exact hk
  · rcases h with rfl | ⟨b, off, rfl, hlt, hcl⟩
    · left; simp
    · refine .inr ⟨b, off + k, ?_, hlt, fun i hi => ?_⟩
      · rw [restA, if_neg (by omega), Option.map_some, Go.WideShapes.add_plain]
      · rw [List.length_drop] at hi
        rw [List.getElem_drop, Nat.add_assoc]
        exact hcl (k + i) (by omega)
theorem hash_any (sd l : List UInt8) (A : Option Addr) (c : Nat) (w : World) (hb : Bts w A l) (hc : l.length ≤ c) (hl : l.length ≤ 1000000) (hs : sd.length = 16) :
    Calls Try.prog 9 #[.agg (seedV sd), .slice A l.length c] w fun e w' => e = .returned (.int .u64 ((hashN sd l : Nat) : Int)) ∧ Below w.heap.size w w' := by
  have hsz := seedV_size sd
  rw [hs] at hsz
  obtain ⟨z, hz⟩ : ∃ z, z = St.start sd := ⟨_, rfl⟩
  have hbg := fun W => begin_any sd W hs z hz
  obtain ⟨arr, harr⟩ : ∃ a, a = seedV sd := ⟨_, rfl⟩
  rw [← harr] at hsz
  rw [← harr]
  simp only [← harr] at hbg
  obtain ⟨za, zb, zc, zd⟩ := z
  simp only at hbg
  have hzo : St.ok ⟨za, zb, zc, zd⟩ := by rw [hz]; exact St.start_ok hs
  have HZO := Lib.hid hzo; clear hzo
  have HBG := Lib.hid hbg; clear hbg
  have HZ := Lib.hid hz; clear hz
  clear harr
  have HBT := Lib.hid hb; clear hb
  obtain ⟨wh, hwh⟩ : ∃ x, x = l.length / 8 := ⟨_, rfl⟩
  have hq1 : ((l.length : Int)).tdiv 8 = (wh : Int) := by rw [Int.tdiv_eq_ediv_of_nonneg (by omega)]; omega
  have hq2 : ((l.length : Int)) / 8 = (wh : Int) := by omega
  have hwb : wh ≤ 1000000 := by omega
  have HWH := Lib.hid hwh; clear hwh
  go_enter Try.func9, Try.ntmps9
  go_wp2_with (refine wpList_load_row rfl 23 _ rfl w.heap.size rfl 23 arr (0, 0) _ (heap_alloc_new w _) Try.underlying23 rfl (by rw [hsz]; kernel_rfl) ?_)
  refine (HBG.out _).mono ?_
  rintro e w1 ⟨rfl, hb1⟩
  have hgw : w.heap.size ≤ w1.heap.size := Nat.le_trans (by simp) hb1.size
  have HB1 := Lib.hid hb1; clear hb1
  have HGW := Lib.hid hgw; clear hgw
  go_wp2_with fail
  go_loopw [14] (fun i wr => ∃ (j a b c d : Nat), j ≤ wh ∧ i = .int .i64 j ∧ Hid (St.mk a b c d = St.mid ⟨za, zb, zc, zd⟩ l j) ∧ Hid (Below w.heap.size w wr) ∧
    Hid (wr.heap[w1.heap.size]? = some (.cells #[.int .u64 a, .int .u64 b, .int .u64 c, .int .u64 d] 31 (0, 0)))) (fun i _ => wh - (intOf i).toNat)
  case atStart => exact ⟨0, za, zb, zc, zd, by omega, rfl, rfl, (below_then ((Below.refl _ _).alloc (Nat.le_refl _) _) HB1.out).alloc HGW.out _, heap_alloc_new w1 _⟩
  case round =>
    obtain ⟨j, a, b, cc, d, hj, rfl, hx, hb, hr0⟩ := hrel
    by_cases hlt : j < wh
    · have h8 : 8 * j ≤ l.length := by have := HWH.out; omega
      have hsl := slice_rest8 A l.length c j h8
      have hm8 : IntKind.i64.wrap (8 * (j : Int)) = 8 * (j : Int) := IntWalk.i64_in _ (by omega)
      have hlo := low_any _ _ (c - 8 * j) wr.drew (((HBT.out.below hb.out).below (Below.refl _ _).drew).rest c (8 * j) hc) (by rw [List.length_drop]; omega)
      rw [List.length_drop] at hlo
      obtain ⟨m, hm⟩ : ∃ m, m = part l j := ⟨_, rfl⟩
      have hm2 := hm
      unfold part at hm2
      rw [← hm2] at hlo
      have hml : m < 18446744073709551616 := by rw [hm]; exact part_lt l j
      have hok : St.ok ⟨a, b, cc, d⟩ := by rw [hx.out]; exact St.mid_ok HZO.out l j
      obtain ⟨z, hz⟩ : ∃ z, z = St.take ⟨a, b, cc, d⟩ m := ⟨_, rfl⟩
      have htk := take_any a b cc d m wr.drew hok hml z hz
      have hz2 : z = St.mid ⟨za, zb, zc, zd⟩ l (j + 1) := by rw [St.mid, ← hx.out, hz, hm]
      obtain ⟨a2, b2, c2, d2⟩ := z
      simp only at htk
      have HLO := Lib.hid hlo; clear hlo
      have HTK := Lib.hid htk; clear htk
      have HZ2 := Lib.hid hz2; clear hz2
      clear hm hm2 hz hok hml
      obtain ⟨k0, k1, k2, k3, k4⟩ := cells4 hr0.out
      go_wp2_with fail
      refine wp_region_still_tail 6 (by kernel_rfl) (by kernel_rfl) ?_
      simp only [List.take_succ_cons, List.take_zero, List.drop_succ_cons, List.drop_zero]
      still_step
      still_step
      still_step
      still_step
      still_step
      still_call (HLO.out.mono (fun e w' h => ⟨h.1, h.2.symm⟩))
      refine wpStill_nil ?_
      change wpList _ _ _ _ _ wr.drew
      go_wp2_with fail
      refine HTK.out.mono ?_
      rintro e w2 ⟨rfl, hb2⟩
      clear k0 k1 k2 k3 k4
      have HB2 := Lib.hid hb2; clear hb2
      obtain ⟨k0, k1, k2, k3, k4⟩ := cells4 (row_below (w := wr.drew) hr0.out HB2.out)
      go_wp2_with fail
      go_roundw
      case rel =>
        exact ⟨j + 1, a2, b2, c2, d2, by omega, by go_num, HZ2.out, below4 (hb.out.drew.trans (HB2.out.mono hb.out.size)) HGW.out _ _ _ _, store4 _ _ _ _ _ _ _ _ _ _ _ (row_below (w := wr.drew) hr0.out HB2.out)⟩
      case measure => simp [intOf]; omega
    · have hjn : j = wh := by omega
      subst hjn
      have h8 : 8 * j ≤ l.length := by have := HWH.out; omega
      have hsl := slice_rest8 A l.length c j h8
      have hm8 : IntKind.i64.wrap (8 * (j : Int)) = 8 * (j : Int) := IntWalk.i64_in _ (by omega)
      obtain ⟨m, hm⟩ : ∃ m, m = lastN l := ⟨_, rfl⟩
      have hm2 := hm
      unfold lastN at hm2
      rw [← HWH.out] at hm2
      have hla := last_any _ l.length _ (c - 8 * j) wr.drew (((HBT.out.below hb.out).below (Below.refl _ _).drew).rest c (8 * j) hc) (by rw [List.length_drop]; have := HWH.out; omega) hl m hm2
      rw [List.length_drop] at hla
      have hml : m < 18446744073709551616 := by rw [hm]; exact lastN_lt l
      have hok : St.ok ⟨a, b, cc, d⟩ := by rw [hx.out]; exact St.mid_ok HZO.out l j
      obtain ⟨z, hz⟩ : ∃ z, z = St.take ⟨a, b, cc, d⟩ m := ⟨_, rfl⟩
      have htk := take_any a b cc d m wr.drew hok hml z hz
      have hzo : z.ok := by rw [hz]; exact St.take_ok hok hml
      obtain ⟨y, hy⟩ : ∃ y, y = St.fin z := ⟨_, rfl⟩
      have hy2 : y = hashN sd l := by rw [hy, hz, hx.out, hm, HZ.out, hashN, ← HWH.out]
      obtain ⟨a2, b2, c2, d2⟩ := z
      have hen := fun W => end_any a2 b2 c2 d2 W hzo y hy
      simp only at htk
      have HY2 := Lib.hid hy2
      have HLA := Lib.hid hla; clear hla
      have HTK := Lib.hid htk; clear htk
      have HEN := Lib.hid hen; clear hen
      clear hm hm2 hz hok hml hy hy2 hzo
      obtain ⟨k0, k1, k2, k3, k4⟩ := cells4 hr0.out
      go_wp2_with fail
      refine wp_region_still_tail 8 (by kernel_rfl) (by kernel_rfl) ?_
      simp only [List.take_succ_cons, List.take_zero, List.drop_succ_cons, List.drop_zero]
      still_step
      still_step
      still_step
      still_step
      still_step
      still_step
      still_step
      still_call (HLA.out.mono (fun e w' h => ⟨h.1, h.2.symm⟩))
      refine wpStill_nil ?_
      change wpList _ _ _ _ _ wr.drew
      go_wp2_with fail
      refine HTK.out.mono ?_
      rintro e w2 ⟨rfl, hb2⟩
      have HB2 := Lib.hid hb2; clear hb2
      clear k0 k1 k2 k3 k4
      go_wp2_with fail
      refine (HEN.out _).mono ?_
      rintro e w3 ⟨rfl, hb3⟩
      have HB3 := Lib.hid hb3; clear hb3
      go_wp2_with fail
      go_ret
      exact ⟨ret_int (by rw [HY2.out]), below_then (hb.out.drew.trans (HB2.out.mono hb.out.size)) HB3.out⟩
end Go.Proofs.Ytmkibkeacbhhaaa
