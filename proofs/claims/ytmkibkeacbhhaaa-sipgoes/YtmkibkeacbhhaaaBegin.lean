/-
  Slices of bytes and what they read as; contracts of Low, last, Begin.
-/
import Derived.Test.YtmkibkeacbhhaaaTake
namespace Go.Proofs.Ytmkibkeacbhhaaa
open Go.RowKit
set_option maxHeartbeats 400000
/-- the slice at A reads as the bytes l, in blocks that are there -/
def Bts (w : World) (A : Option Addr) (l : List UInt8) : Prop :=
  l = [] ∨ ∃ b off, A = some ⟨b, off, none⟩ ∧ b < w.heap.size ∧ ∀ i (h : i < l.length), w.cell? ⟨b, off + i, none⟩ = some (.int .u8 (l[i].toNat : Int))
theorem Bts.below {w w' : World} {A : Option Addr} {l : List UInt8} (h : Bts w A l) (hb : Below w.heap.size w w') : Bts w' A l := by
  rcases h with h | ⟨b, off, rfl, hlt, hc⟩
  · exact .inl h
  · exact .inr ⟨b, off, rfl, Nat.lt_of_lt_of_le hlt hb.size, fun i hi => (hb.cell (p := ⟨b, off + i, none⟩) hlt).trans (hc i hi)⟩
theorem Bts.at_ {w : World} {A : Option Addr} {l : List UInt8} (h : Bts w A l) (j : Nat) (hj : j < l.length) : ∃ b off, A = some ⟨b, off, none⟩ ∧ w.cell? ⟨b, off + j, none⟩ = some (.int .u8 (l[j].toNat : Int)) := by
  rcases h with rfl | ⟨b, off, rfl, hlt, hc⟩
  · simp at hj
  · exact ⟨b, off, rfl, hc j hj⟩
theorem low_any (l : List UInt8) (A : Option Addr) (c : Nat) (w : World) (hb : Bts w A l) (hl : l.length ≤ 1000000) :
    Calls Try.prog 19 #[.slice A l.length c] w fun e w' => e = .returned (.int .u64 ((lowN (l.take 8) : Nat) : Int)) ∧ w = w' := by
  have hb2 := Lib.hid hb; clear hb
  obtain ⟨n8, hn8⟩ : ∃ n8, n8 = min l.length 8 := ⟨_, rfl⟩
  have e8 : (if (8 : Int) < (l.length : Int) then 8 else (l.length : Int)) = (n8 : Int) := by split <;> omega
  have h8 : n8 ≤ l.length := by omega
  have h88 : n8 ≤ 8 := by omega
  have H8 := Lib.hid hn8; clear hn8
  go_enter Try.func19, Try.ntmps19
  go_wp2
  go_loop [3, 8] (fun a i => ∃ j m : Nat, j ≤ n8 ∧ i = .int .i64 j ∧ a = .int .u64 (m : Int) ∧ Hid (m = lowN (l.take j))) (fun _ i => n8 - (intOf i).toNat)
  case atStart => exact ⟨0, 0, by omega, rfl, by simp, by simp [Hid, lowN]⟩
  case round =>
    obtain ⟨j, m, hj, rfl, rfl, hm⟩ := hrel
    by_cases hlt : j < n8
    · obtain ⟨b, off, rfl, hcell⟩ := hb2.out.at_ j (by omega)
      go_wp2
      go_round
      case rel =>
        have hn := lowN_take l j (by omega)
        have hlt2 := lowN_lt (l.take j)
        rw [← hm.out, List.length_take, Nat.min_eq_left (by omega)] at hlt2
        rw [← hm.out] at hn
        refine ⟨j + 1, l[j].toNat * 256 ^ j + m, by omega, by go_num, ?_, hn.symm⟩
        rw [wrap_byte]
        first | rw [low_step m _ j hlt2 l[j].toNat_lt (by omega)] | skip
      case measure => simp [intOf]; omega
    · go_wp2
      go_ret
      refine ⟨ret_int ?_, rfl⟩
      have e : j = n8 := by omega
      rw [hm.out, e, H8.out]
      by_cases h : l.length ≤ 8
      · rw [Nat.min_eq_left h, List.take_of_length_le (Nat.le_refl _), List.take_of_length_le h]
      · rw [Nat.min_eq_right (by omega)]
theorem last_any (l : List UInt8) (n : Nat) (A : Option Addr) (c : Nat) (w : World) (hb : Bts w A l) (hl : l.length ≤ 7) (hn : n ≤ 1000000) (y : Nat) (hy : y = lowN l + n % 256 * 72057594037927936) :
    Calls Try.prog 20 #[.slice A l.length c, .int .i64 n] w fun e w' => e = .returned (.int .u64 (y : Int)) ∧ w = w' := by
  have hc := low_any l A c w hb (by omega)
  rw [List.take_of_length_le (by omega)] at hc
  have h1 : (n : Int).tmod 256 = ((n % 256 : Nat) : Int) := by rw [Int.tmod_eq_emod_of_nonneg (by omega)]; omega
  have h2 := last_bits (lowN l) (n % 256) (lowN_lt56 l hl) (by omega)
  rw [← hy, show IntKind.u64.wrap (((n % 256 : Nat) : Int) * 72057594037927936) = ((n % 256 : Nat) : Int) * 72057594037927936 by rw [IntKind.wrap_u64]; omega] at h2
  have hk : n % 256 < 256 := by omega
  obtain ⟨k, hk2⟩ : ∃ k, k = n % 256 := ⟨_, rfl⟩
  obtain ⟨a, ha⟩ : ∃ k, k = lowN l := ⟨_, rfl⟩
  rw [← hk2] at h1 h2 hk
  rw [← ha] at hc h2
  have HC := Lib.hid hc; clear hc
  clear hy hk2 ha
  go_enter Try.func20, Try.ntmps20
  go_wp2_with fail
  refine HC.out.mono ?_
  rintro e w1 ⟨rfl, rfl⟩
  go_wp2_with fail
  go_ret
  exact ⟨rfl, rfl⟩
/-- the value of sixteen bytes -/
def seedV (l : List UInt8) : Array Value := (l.map (fun b => Value.int .u8 (b.toNat : Int))).toArray
theorem seedV_size (l : List UInt8) : (seedV l).size = l.length := by simp [seedV]
theorem seed_bts {W : World} {g : Nat} {l : List UInt8} {t : TypeId} (h : W.heap[g]? = some (.cells (seedV l) t (0, 0))) (i n : Nat) : Bts W (some ⟨g, i, none⟩) ((l.drop i).take n) := by
  refine .inr ⟨g, i, rfl, (Array.getElem?_eq_some_iff.1 h).1, fun j hj => ?_⟩
  rw [List.length_take, List.length_drop] at hj
  rw [cell_of_row W g _ _ t _ h, List.getElem_take, List.getElem_drop]
  simp [seedV, List.getElem?_eq_getElem (show i + j < l.length by omega)]
theorem begin_any (l : List UInt8) (w : World) (hl : l.length = 16) (y : St) (hy : y = St.start l) :
    Calls Try.prog 13 #[.agg (seedV l)] w fun e w' => e = .returned (.agg #[.int .u64 (y.p : Int), .int .u64 (y.q : Int), .int .u64 (y.r : Int), .int .u64 (y.s : Int)]) ∧ Below w.heap.size w w' := by
  have hsz := seedV_size l
  rw [hl] at hsz
  obtain ⟨arr, harr⟩ : ∃ a, a = seedV l := ⟨_, rfl⟩
  rw [← harr] at hsz
  rw [← harr]
  obtain ⟨W, hW⟩ : ∃ W, W = (w.alloc (.cells arr 23)).alloc (.cells #[.int .u64 0, .int .u64 0, .int .u64 0, .int .u64 0] 31) := ⟨_, rfl⟩
  have hr0 : W.heap[w.heap.size]? = some (.cells (seedV l) 23 (0, 0)) := by rw [hW, ← harr]; exact heap_alloc2_old w _ _
  have hr1 : W.heap[w.heap.size + 1]? = some (.cells #[.int .u64 0, .int .u64 0, .int .u64 0, .int .u64 0] 31 (0, 0)) := by rw [hW]; exact heap_alloc2_new w _ _
  have hb : Below w.heap.size w W := by rw [hW]; exact ((Below.refl _ _).alloc (Nat.le_refl _) _).alloc (by simp) _
  have h1 := low_any _ _ 16 W (seed_bts hr0 0 8) (by rw [List.length_take]; omega)
  have h2 := low_any _ _ 8 W (seed_bts hr0 8 8) (by rw [List.length_take]; omega)
  rw [List.drop_zero, List.take_take, Nat.min_self, List.length_take, hl] at h1
  rw [List.take_take, Nat.min_self, List.length_take, List.length_drop, hl, List.take_of_length_le (by rw [List.length_drop]; omega)] at h2
  have b1 := lowN_lt64 (l.take 8) (by rw [List.length_take]; omega)
  have b2 := lowN_lt64 (l.drop 8) (by rw [List.length_drop]; omega)
  unfold St.start at hy
  obtain ⟨k, hk⟩ : ∃ k, k = lowN (l.take 8) := ⟨_, rfl⟩
  obtain ⟨j, hj⟩ : ∃ k, k = lowN (l.drop 8) := ⟨_, rfl⟩
  rw [← hk] at h1 b1 hy
  rw [← hj] at h2 b2 hy
  obtain ⟨x1, hx1⟩ : ∃ x, x = k ^^^ 8317987319222330741 := ⟨_, rfl⟩
  have e1 := (name_xor x1 hx1 b1 (by decide)).1
  obtain ⟨x2, hx2⟩ : ∃ x, x = j ^^^ 7237128888997146477 := ⟨_, rfl⟩
  have e2 := (name_xor x2 hx2 b2 (by decide)).1
  obtain ⟨x3, hx3⟩ : ∃ x, x = k ^^^ 7816392313619706465 := ⟨_, rfl⟩
  have e3 := (name_xor x3 hx3 b1 (by decide)).1
  obtain ⟨x4, hx4⟩ : ∃ x, x = j ^^^ 8387220255154660723 := ⟨_, rfl⟩
  have e4 := (name_xor x4 hx4 b2 (by decide)).1
  rw [← hx1, ← hx2, ← hx3, ← hx4] at hy
  subst hy
  simp only
  have f1 : bits .xor .u64 (k : Int) 8317987319222330741 = (x1 : Int) := e1
  have f2 : bits .xor .u64 (j : Int) 7237128888997146477 = (x2 : Int) := e2
  have f3 : bits .xor .u64 (k : Int) 7816392313619706465 = (x3 : Int) := e3
  have f4 : bits .xor .u64 (j : Int) 8387220255154660723 = (x4 : Int) := e4
  clear e1 e2 e3 e4 hx1 hx2 hx3 hx4 b1 b2 hk hj hr0
  have H1 := Lib.hid h1; clear h1
  have H2 := Lib.hid h2; clear h2
  have HW := Lib.hid hW; clear hW
  have HR1 := Lib.hid hr1
  have HB := Lib.hid hb; clear hb harr
  obtain ⟨m0, m1, m2, m3, m4⟩ := cells4 hr1
  clear hr1
  go_enter Try.func13, Try.ntmps13
  go_wp2_with fail
  rw [← HW.out]
  refine H1.out.mono ?_
  rintro e w1 ⟨rfl, rfl⟩
  go_wp2_with fail
  refine H2.out.mono ?_
  rintro e w1 ⟨rfl, rfl⟩
  go_wp2_with fail
  refine bodyPost_ret (results_cell_row rfl _ _ (w.heap.size + 1) 31 _ (0, 0) _ rfl (store4 _ _ _ _ _ _ _ _ _ _ _ HR1.out) Try.underlying31 rfl (by kernel_rfl)) rfl ?_
  exact ⟨rfl, below4 HB.out (by omega) _ _ _ _⟩
end Go.Proofs.Ytmkibkeacbhhaaa
