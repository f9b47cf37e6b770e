/-
  slices.stableCmpFunc at pairs: the comparator's contract; blocks of twenty sorted by insertion, then merged.
-/
import Derived.Test.YtfhnmmiakknilaaSymAny
import Derived.Test.YtfhnmmiakknilaaMerge
import Derived.Shelf.SlSortCmp.PdqK
namespace Go.Proofs.Ytfhnmmiakknilaa
open Go.Shelf Go.RowKit Go.Lib Go.Sort Go.Proofs
set_option maxHeartbeats 4000000
set_option maxRecDepth 1000000
variable {g : Nat → PV} {w0 : World} {blk off : Nat} {d0 : Array Nat} {cf : Nat → Nat → Int}
def Try.insL_ren : Ren := ⟨fun | 20 => 69 | n => n, fun | 22 => 44 | 24 => 54 | 25 => 83 | n => n, fun n => n⟩
theorem Try.insL : SlLaysF0.n20 Try.prog Try.insL_ren := {
  mixed := by kernel_rfl
  f20 := ⟨Try.f69.name, by decide, Try.func69.trans (congrArg some (by kernel_rfl))⟩
  t0 := Try.underlying0
  a0 := Try.isAgg0
  z0 := Try.sizeOf0
  v0 := Try.zeroValue0
  t3 := Try.underlying3
  a3 := Try.isAgg3
  z3 := Try.sizeOf3
  v3 := Try.zeroValue3
  t4 := Try.underlying4
  a4 := Try.isAgg4
  z4 := Try.sizeOf4
  v4 := Try.zeroValue4
  t22 := Try.underlying44
  a22 := Try.isAgg44
  z22 := Try.sizeOf44
  v22 := Try.zeroValue44
  t25 := Try.underlying83
  a25 := Try.isAgg83
  z25 := Try.sizeOf83
  v25 := Try.zeroValue83 }
/-- the order of keys -/
def kcf (key : Nat → List UInt8) (x y : Nat) : Int := cmp (key x) (key y)
theorem kcf_swo (key : Nat → List UInt8) : SWO (ltOf (kcf key)) where
  irrefl x := decide_eq_false (by show ¬ cmp (key x) (key x) < 0; rw [cmp_self]; omega)
  trans x y z h1 h2 := decide_eq_true (cmp_lt_trans (of_decide_eq_true h1) (of_decide_eq_true h2))
  ntrans x y z h1 h2 := decide_eq_false fun h => by
    have a1 : ¬ cmp (key x) (key y) < 0 := of_decide_eq_false h1
    have a2 : ¬ cmp (key y) (key z) < 0 := of_decide_eq_false h2
    have t1 := cmp_turn (key x) (key y)
    have t2 := cmp_turn (key y) (key z)
    have t3 := cmp_turn (key x) (key z)
    have := cmp_trans (key z) (key y) (key x) (by omega) (by omega)
    have h : cmp (key x) (key z) < 0 := h
    omega
theorem sort_other {dk : Array Nat} {n : Nat} {os : Array Obj} {q : Nat} (hq : q < w0.heap.size) (hb : q ≠ blk) (i : Nat) : (sortWorldK (enc2 g) 2 w0 blk off n dk os).cell? ⟨q, i, none⟩ = w0.cell? ⟨q, i, none⟩ := by
  unfold sortWorldK
  rw [cell?_grow _ _ _ (by rw [size_putRowK]; exact hq), cell?_putRowK_other (enc2 g) 2 _ blk off dk _ hb]
  rfl
/-- the bytes of the pairs lie beside the row -/
def Keyed (g : Nat → PV) (key : Nat → List UInt8) (w0 : World) (blk : Nat) : Prop :=
  ∀ x, (g x).n = (key x).length ∧ (key x = [] ∨ ∃ q o, (g x).a = some ⟨q, o, none⟩ ∧ q < w0.heap.size ∧ q ≠ blk ∧ ∀ i (h : i < (key x).length), w0.cell? ⟨q, o + i, none⟩ = some (.int .u8 (((key x)[i].toNat : Nat) : Int)))
theorem keyed_bts {key : Nat → List UInt8} (h : Keyed g key w0 blk) (n : Nat) (dk : Array Nat) (os : Array Obj) (x : Nat) : Bts (sortWorldK (enc2 g) 2 w0 blk off n dk os) (g x).a (key x) := by
  rcases (h x).2 with e | ⟨q, o, e, hq, hb, hc⟩
  · exact .inl e
  · refine .inr ⟨q, o, e, Nat.lt_of_lt_of_le hq (size_sortWorldK_c (enc2 g) 2 w0 blk off n dk os), fun i hi => ?_⟩
    rw [sort_other hq hb]
    exact hc i hi
theorem pairs1_any {w : World} {A B C D : Option Addr} {l m : List UInt8} (ha : Bts w A l) (hb : Bts w B m) (c d n1 n2 c1 c2 : Nat) :
    Calls Try.prog 38 #[.agg #[.slice A l.length c, .slice C n1 c1], .agg #[.slice B m.length d, .slice D n2 c2]] w fun e w' => e = .returned (.int .i64 (cmp l m)) ∧ w' = (w.alloc (.cells #[.slice A l.length c, .slice C n1 c1] 54)).alloc (.cells #[.slice B m.length d, .slice D n2 c2] 54) := by
  obtain ⟨w2, hw2⟩ : ∃ w2, w2 = (w.alloc (.cells #[.slice A l.length c, .slice C n1 c1] 54)).alloc (.cells #[.slice B m.length d, .slice D n2 c2] 54) := ⟨_, rfl⟩
  have hb2 : Below w.heap.size w w2 := by rw [hw2]; exact ((Below.refl _ _).alloc (Nat.le_refl _) _).alloc (by simp) _
  have H := Lib.hid (compare_any (ha.below hb2) (hb.below hb2) c d)
  have r0 : w2.heap[w.heap.size]? = some (.cells #[.slice A l.length c, .slice C n1 c1] 54 (0, 0)) := by rw [hw2]; exact heap_alloc2_old w _ _
  have r1 : w2.heap[w.heap.size + 1]? = some (.cells #[.slice B m.length d, .slice D n2 c2] 54 (0, 0)) := by rw [hw2]; exact heap_alloc2_new w _ _
  have d0 : w2.cell? ⟨w.heap.size, 0, none⟩ = some (.slice A l.length c) := by rw [cell_of_row _ _ _ _ _ _ r0]; rfl
  have d1 : w2.cell? ⟨w.heap.size + 1, 0, none⟩ = some (.slice B m.length d) := by rw [cell_of_row _ _ _ _ _ _ r1]; rfl
  rw [← hw2]
  obtain ⟨x1, hx1⟩ : ∃ x, x = l.length := ⟨_, rfl⟩
  obtain ⟨x2, hx2⟩ : ∃ x, x = m.length := ⟨_, rfl⟩
  obtain ⟨r, hr⟩ : ∃ r, r = cmp l m := ⟨_, rfl⟩
  rw [← hx1, ← hx2] at H hw2 ⊢
  rw [← hr] at H ⊢
  rw [← hx1] at d0
  rw [← hx2] at d1
  have e0 := d0
  have e1 := d1
  rw [hw2] at e0 e1
  have HW := Lib.hid hw2; clear hw2
  clear r0 r1 hb2 ha hb hx1 hx2 hr
  go_enter Try.func38, Try.ntmps38
  go_wp2_with fail
  rw [← HW.out]
  refine H.out.mono ?_
  rintro e w' ⟨rfl, rfl⟩
  go_wp2_with fail
  go_ret
  exact ⟨rfl, rfl⟩
theorem cmp_lays {key : Nat → List UInt8} (h : Keyed g key w0 blk) (size : Nat) : CmpLays Try.prog 38 #[] (enc2 g) 2 (kcf key) blk off size w0 := by
  intro n os dk _ x y
  have a := pairs1_any (C := (g x).b) (D := (g y).b) (keyed_bts (off := off) h n dk os x) (keyed_bts (off := off) h n dk os y) (g x).c (g y).c (g x).m (g y).m (g x).d (g y).d
  rw [← (h x).1, ← (h y).1] at a
  refine a.mono ?_
  rintro e w' ⟨rfl, rfl⟩
  refine ⟨rfl, 0, (#[.cells #[.slice (g x).a (g x).n (g x).c, .slice (g x).b (g x).m (g x).d] 54] : Array Obj) ++ #[.cells #[.slice (g y).a (g y).n (g y).c, .slice (g y).b (g y).m (g y).d] 54], ?_⟩
  rw [alloc_eq_grow, alloc_eq_grow, grow_grow]
  rfl
theorem ins_any (R : RowK (enc2 g) 2 w0 blk off d0) (hC : CmpLays Try.prog 38 #[] (enc2 g) 2 cf blk off d0.size w0) (hS : SWO (ltOf cf)) (cap a b : Nat) {w : World} {d : Array Nat} (hW : SWK (enc2 g) 2 w0 blk off d w) (hs : d.size = d0.size) (hsz : d0.size < 4611686018427387904) (h1 : a ≤ b) (h2 : b ≤ d0.size) :
    Calls Try.prog 69 #[.slice (some ⟨blk, off, none⟩) d0.size cap, .int .i64 (a : Int), .int .i64 (b : Int), .func (.func 38) #[] #[]] w fun e w' => e = .returned (.tuple #[]) ∧ ∃ d', SWK (enc2 g) 2 w0 blk off d' w' ∧ d'.size = d0.size ∧ Mgd (ltOf cf) (pl d) (pl d') a b := by
  have h := AnyQ.insertionSortCmpFunc_w Try.insL 2 Try.isAgg54 Try.sizeOf54 (enc2 g) cf 38 #[] blk off cap a b d0 d w0 w (enters_of Try.func38 (by kernel_rfl) rfl) hC R hs.symm hW hS h1 (by omega) (by omega)
  rw [hs] at h
  obtain ⟨p1, p2⟩ := insertionSort_holds hS d a b h1 (by omega)
  refine h.mono ?_
  rintro e w' ⟨rfl, hk⟩
  exact ⟨rfl, _, hk, p1.1.trans hs, mgd_of_sorted h1 (by omega) p1 p2⟩
theorem stable_any (R : RowK (enc2 g) 2 w0 blk off d0) (hC : CmpLays Try.prog 38 #[] (enc2 g) 2 cf blk off d0.size w0) (hS : SWO (ltOf cf)) (cap : Nat) {w : World} (hW : SWK (enc2 g) 2 w0 blk off d0 w) (hsz : d0.size < 1000000000000) :
    Calls Try.prog 59 #[.slice (some ⟨blk, off, none⟩) d0.size cap, .int .i64 (d0.size : Int), .func (.func 38) #[] #[]] w fun e w' => e = .returned (.tuple #[]) ∧ ∃ d', SWK (enc2 g) 2 w0 blk off d' w' ∧ d'.size = d0.size ∧ (sl (pl d') 0 d0.size).Perm (sl (pl d0) 0 d0.size) ∧ Asc (ltOf cf) (pl d') 0 d0.size := by
  have INS := Lib.hid (fun (x y : Nat) (W : World) (D : Array Nat) (hS1 : SWK (enc2 g) 2 w0 blk off D W) (hD : D.size = d0.size) (k1 : x ≤ y) (k2 : y ≤ d0.size) => ins_any R hC hS cap x y hS1 hD (by omega) k1 k2)
  have SYM := Lib.hid (fun (x y z : Nat) (W : World) (D : Array Nat) (k1 : x < y) (k2 : y < z) (k3 : z ≤ d0.size) (hS1 : SWK (enc2 g) 2 w0 blk off D W) (hD : D.size = d0.size) (A : Asc (ltOf cf) (pl D) x y) (B : Asc (ltOf cf) (pl D) y z) => sym_any R hC hS cap (by omega) (z - x) x y z (Nat.le_refl _) W D k1 k2 k3 hS1 hD A B)
  have S0 : Hid (SWK (enc2 g) 2 w0 blk off d0 w) := hW
  obtain ⟨n, hn⟩ : ∃ n, n = d0.size := ⟨_, rfl⟩
  have HD0 : Hid (d0.size = n) := hn.symm
  rw [← hn] at hsz INS SYM ⊢
  clear hW R hC hS hn
  go_enter Try.func59, Try.ntmps59
  go_wp2_with fail
  go_loopg [7, 8] (n + 20 - 0) (fun kx s7 s8 wr => ∃ (a : Nat) (dk : Array Nat), s7 = .int .i64 (a : Int) ∧ s8 = .int .i64 ((a + 20 : Nat) : Int) ∧ a ≤ n ∧ n - a ≤ kx ∧ Hid (20 ∣ a) ∧ Hid (dk.size = n) ∧ Hid (SWK (enc2 g) 2 w0 blk off dk wr) ∧ Hid ((sl (pl dk) 0 n).Perm (sl (pl d0) 0 n)) ∧ Hid (Blk (ltOf cf) 20 (pl dk) 0 a))
  case atStart => exact ⟨0, d0, rfl, rfl, by omega, by omega, ⟨0, rfl⟩, HD0.out, S0.out, List.Perm.refl _, blk_none _ _⟩
  case round =>
    clear S0
    obtain ⟨a, dk, rfl, rfl, han, hkx, hdv, hds, S1, hpm, hbl⟩ := hrel
    by_cases hlt : a + 20 ≤ n
    · have hltz : ((a + 20 : Nat) : Int) ≤ (n : Int) := by omega
      have J := Lib.hid (INS.out a (a + 20) wr dk S1.out hds.out (by omega) hlt)
      clear S1
      go_wp2_with fail
      refine J.out.mono ?_
      rintro e w2 ⟨rfl, d', h5, h6, h7⟩
      have S2 := Lib.hid h5; clear h5
      have Z2 := Lib.hid h6; clear h6
      have P2 : Hid ((sl (pl d') 0 n).Perm (sl (pl d0) 0 n)) := (mgd_whole h7 (by omega) hlt).trans hpm.out
      have B2 : Hid (Blk (ltOf cf) 20 (pl d') 0 (a + 20)) := blk_next hdv.out hbl.out h7 (Nat.le_refl _) (by omega)
      have V2 : Hid (20 ∣ a + 20) := (Nat.dvd_add_right hdv.out).2 (Nat.dvd_refl _)
      clear h7 J
      go_wp2_with fail
      go_roundg (n - (a + 20))
      case measure => omega
      case rel => exact ⟨a + 20, d', rfl, by go_num, hlt, by omega, V2.out, Z2.out, S2.out, P2.out, B2.out⟩
    · have hltz : ¬ ((a + 20 : Nat) : Int) ≤ (n : Int) := by omega
      have J := Lib.hid (INS.out a n wr dk S1.out hds.out han (Nat.le_refl _))
      clear S1
      go_wp2_with fail
      refine J.out.mono ?_
      rintro e w2 ⟨rfl, d', h5, h6, h7⟩
      have S2 := Lib.hid h5; clear h5
      have Z2 := Lib.hid h6; clear h6
      have P2 : Hid ((sl (pl d') 0 n).Perm (sl (pl d0) 0 n)) := (mgd_whole h7 han (Nat.le_refl _)).trans hpm.out
      have B2 : Hid (Blk (ltOf cf) 20 (pl d') 0 n) := blk_next hdv.out hbl.out h7 (by omega) han
      clear h7 J hdv hds hpm hbl hkx
      go_wp2_with fail
      go_loopg [6, 7, 8, 9] (n) (fun kx s6 s7 s8 s9 wr => ∃ (s : Nat) (dk : Array Nat), s6 = .int .i64 (s : Int) ∧ 20 ≤ s ∧ s ≤ 2 * n + 20 ∧ n - s ≤ kx ∧ Hid (dk.size = n) ∧ Hid (SWK (enc2 g) 2 w0 blk off dk wr) ∧ Hid ((sl (pl dk) 0 n).Perm (sl (pl d0) 0 n)) ∧ Hid (Blk (ltOf cf) s (pl dk) 0 n))
      case atStart => exact ⟨20, d', rfl, by omega, by omega, by omega, Z2.out, S2.out, P2.out, B2.out⟩
      case round =>
        clear S2 Z2 P2 B2
        obtain ⟨s, dk, rfl, hs20, hs2n, hkx, hds, S1, hpm, hbl⟩ := hrel
        by_cases hsn : s < n
        · have hsz2 : (s : Int) < (n : Int) := by omega
          obtain ⟨o, ho⟩ : ∃ o, o = 2 * s := ⟨_, rfl⟩
          have m1 : IntKind.i64.wrap (2 * (s : Int)) = (o : Int) := by rw [IntKind.wrap_i64]; omega
          have m2 : 2 * (s : Int) = (o : Int) := by omega
          have m3 : IntKind.i64.wrap ((s : Int) * 2) = (o : Int) := by rw [IntKind.wrap_i64]; omega
          have m4 : (s : Int) * 2 = (o : Int) := by omega
          have m5 : IntKind.i64.wrap (o : Int) = (o : Int) := by rw [IntKind.wrap_i64]; omega
          have HO := Lib.hid ho; clear ho
          go_wp2_with fail
          go_loopg [7, 8] (n) (fun ky s7 s8 wr => ∃ (a : Nat) (dk : Array Nat), s7 = .int .i64 (a : Int) ∧ s8 = .int .i64 ((a + o : Nat) : Int) ∧ a ≤ n ∧ n - a ≤ ky ∧ Hid (2 * s ∣ a) ∧ Hid (dk.size = n) ∧ Hid (SWK (enc2 g) 2 w0 blk off dk wr) ∧ Hid ((sl (pl dk) 0 n).Perm (sl (pl d0) 0 n)) ∧ Hid (Blk (ltOf cf) (2 * s) (pl dk) 0 a) ∧ Hid (Blk (ltOf cf) s (pl dk) a n))
          case atStart => exact ⟨0, dk, rfl, by go_num, by omega, by omega, Nat.dvd_zero _, hds.out, S1.out, hpm.out, blk_none _ _, hbl.out⟩
          case round =>
            clear S1 hds hpm hbl
            obtain ⟨a, dk, rfl, rfl, han, hky, hdv, hds, S1, hpm, hb1, hb2⟩ := hrel
            have ho2 := HO.out
            by_cases hlt : a + o ≤ n
            · have hltz : ((a + o : Nat) : Int) ≤ (n : Int) := by omega
              have n1 : IntKind.i64.wrap ((a : Int) + (s : Int)) = ((a + s : Nat) : Int) := by rw [IntKind.wrap_i64]; omega
              have n2 : (a : Int) + (s : Int) = ((a + s : Nat) : Int) := by omega
              have n3 : IntKind.i64.wrap (((a + o : Nat) : Int) + (o : Int)) = ((a + o : Nat) : Int) + (o : Int) := by rw [IntKind.wrap_i64]; omega
              obtain ⟨q1, q2⟩ := blk_at hb2.out (dvd_two hdv.out).1 (by omega) (by omega)
              rw [show min (a + 2 * s) n = a + o by omega] at q2
              have J := Lib.hid (SYM.out a (a + s) (a + o) wr dk (by omega) (by omega) hlt S1.out hds.out q1 q2)
              obtain ⟨c1, hc1⟩ : ∃ c, c = a + s := ⟨_, rfl⟩
              obtain ⟨c2, hc2⟩ : ∃ c, c = a + o := ⟨_, rfl⟩
              rw [← hc1] at J n1 n2
              rw [← hc2] at J n3 hltz ⊢
              have HC := Lib.hid (And.intro hc1 hc2)
              clear S1 q1 q2 ho2 hc1 hc2
              go_wp2_with fail
              refine J.out.mono ?_
              rintro e w3 ⟨rfl, d3, h5, h6, h7⟩
              have S3 := Lib.hid h5; clear h5
              have Z3 := Lib.hid h6; clear h6
              have ho2 := HO.out
              have hc := HC.out
              have P3 : Hid ((sl (pl d3) 0 n).Perm (sl (pl d0) 0 n)) := (mgd_whole h7 (by omega) (by omega)).trans hpm.out
              obtain ⟨b1, b2⟩ := blk_two hdv.out hb1.out hb2.out h7 (by omega)
              have B3 := Lib.hid b1; clear b1
              have B4 := Lib.hid b2; clear b2
              have V3 : Hid (2 * s ∣ c2) := by
                show _ ∣ _
                rw [show c2 = a + 2 * s by omega]
                exact (dvd_two hdv.out).2
              clear h7 J ho2 hc
              go_wp2_with fail
              go_roundg (n - c2)
              case measure => have := HC.out; have := HO.out; omega
              case rel => exact ⟨c2, d3, rfl, by go_num, by have := HC.out; omega, by omega, V3.out, Z3.out, S3.out, P3.out, B3.out, B4.out⟩
            · have hltz : ¬ ((a + o : Nat) : Int) ≤ (n : Int) := by omega
              have n1 : IntKind.i64.wrap ((a : Int) + (s : Int)) = ((a + s : Nat) : Int) := by rw [IntKind.wrap_i64]; omega
              have n2 : (a : Int) + (s : Int) = ((a + s : Nat) : Int) := by omega
              by_cases hm : a + s < n
              · have hmz : ((a + s : Nat) : Int) < (n : Int) := by omega
                obtain ⟨q1, q2⟩ := blk_at hb2.out (dvd_two hdv.out).1 (by omega) hm
                rw [show min (a + 2 * s) n = n by omega] at q2
                have J := Lib.hid (SYM.out a (a + s) n wr dk (by omega) hm (Nat.le_refl _) S1.out hds.out q1 q2)
                obtain ⟨c1, hc1⟩ : ∃ c, c = a + s := ⟨_, rfl⟩
                rw [← hc1] at J n1 n2 hmz
                have HC := Lib.hid hc1
                clear S1 q1 q2 ho2 hc1 hm
                go_wp2_with fail
                refine J.out.mono ?_
                rintro e w3 ⟨rfl, d3, h5, h6, h7⟩
                have S3 := Lib.hid h5; clear h5
                have Z3 := Lib.hid h6; clear h6
                have ho2 := HO.out
                have P3 : Hid ((sl (pl d3) 0 n).Perm (sl (pl d0) 0 n)) := (mgd_whole h7 (by omega) (by omega)).trans hpm.out
                have B3 : Hid (Blk (ltOf cf) o (pl d3) 0 n) := by
                  show Blk _ _ _ _ _
                  rw [ho2]
                  exact blk_last hdv.out hb1.out h7 (by omega) han
                clear h7 J ho2
                go_wp2_with fail
                go_roundg (n - o)
                case measure => have := HO.out; omega
                case rel => exact ⟨o, d3, rfl, by have := HO.out; omega, by have := HO.out; omega, by omega, Z3.out, S3.out, P3.out, B3.out⟩
              · have hmz : ¬ ((a + s : Nat) : Int) < (n : Int) := by omega
                have B3 : Hid (Blk (ltOf cf) o (pl dk) 0 n) := by
                  show Blk _ _ _ _ _
                  rw [ho2]
                  exact blk_rest hdv.out hb1.out hb2.out (by omega) han
                obtain ⟨c1, hc1⟩ : ∃ c, c = a + s := ⟨_, rfl⟩
                rw [← hc1] at n1 n2 hmz
                have HC := Lib.hid hc1
                clear ho2 hc1 hm
                go_wp2_with fail
                go_roundg (n - o)
                case measure => have := HO.out; omega
                case rel => exact ⟨o, dk, rfl, by have := HO.out; omega, by have := HO.out; omega, by omega, hds.out, S1.out, hpm.out, B3.out⟩
        · have hsz2 : ¬ (s : Int) < (n : Int) := by omega
          go_wp2_with fail
          go_end0
          exact ⟨rfl, dk, S1.out, hds.out, hpm.out, blk_end hbl.out (by omega)⟩
end Go.Proofs.Ytfhnmmiakknilaa
