/-
  slices.swapRangeCmpFunc and slices.rotateCmpFunc at pairs: contracts from a world of the sort's to a world of the sort's.
-/
import Derived.Test.YtfhnmmiakknilaaMerge
import Derived.Test.YtfhnmmiakknilaaWalks
import Derived.Shelf.SlSortCmp.KitK
import Derived.Sort.WalkB2
import Derived.Sort.WalkB12
import Derived.Deep.LoopGhost
namespace Go.Proofs.Ytfhnmmiakknilaa
open Go.Shelf Go.RowKit Go.Lib Go.Sort Go.Proofs
set_option maxHeartbeats 4000000
set_option maxRecDepth 1000000
/-- the places of an array -/
def pl {α : Type} [Inhabited α] (d : Array α) (x : Nat) : α := d[x]!
theorem pl_swp {α : Type} [Inhabited α] (d : Array α) {i j : Nat} (hi : i < d.size) (hj : j < d.size) : pl (swp d i j) = sw1 (pl d) i j := by
  funext x
  unfold pl sw1 swp
  by_cases hx : x = j
  · subst hx
    rw [if_pos rfl]
    simp [hj, Array.getElem!_eq_getD, Array.getD_eq_getD_getElem?]
  · rw [if_neg hx]
    by_cases hxi : x = i
    · subst hxi
      rw [if_pos rfl]
      have : j ≠ x := fun e => hx e.symm
      simp [this, hi, Array.getElem!_eq_getD, Array.getD_eq_getD_getElem?]
    · rw [if_neg hxi]
      have h1 : j ≠ x := fun e => hx e.symm
      have h2 : i ≠ x := fun e => hxi e.symm
      simp [h1, h2, Array.getElem!_eq_getD, Array.getD_eq_getD_getElem?]
theorem ext_pl {α : Type} [Inhabited α] {d e : Array α} (hs : d.size = e.size) (h : pl d = pl e) : d = e := by
  refine Array.ext hs fun i h1 h2 => ?_
  have := congrFun h i
  unfold pl at this
  simpa [h1, h2] using this
/-- where a pair's bytes lie -/
structure PV where
  a : Option Addr
  n : Nat
  c : Nat
  b : Option Addr
  m : Nat
  d : Nat
def enc2 (g : Nat → PV) (i : Nat) : List Value := [.slice (g i).a (g i).n (g i).c, .slice (g i).b (g i).m (g i).d]
theorem enc2_two (g : Nat → PV) (x : Nat) : (enc2 g x).length = 2 := rfl
theorem row_two {g : Nat → PV} {W : World} {blk off : Nat} {d : Array Nat} (H : HoldsK (enc2 g) 2 W blk off d) {i : Nat} (hi : i < d.size) :
    W.cell? ⟨blk, off + i * 2, none⟩ = some (.slice (g d[i]!).a (g d[i]!).n (g d[i]!).c) ∧ W.cell? ⟨blk, off + i * 2 + 1, none⟩ = some (.slice (g d[i]!).b (g d[i]!).m (g d[i]!).d) ∧ W.frozen? ⟨blk, off + i * 2, none⟩ = false ∧ W.frozen? ⟨blk, off + i * 2 + 1, none⟩ = false := by
  have h0 := H.cell hi (show 0 < 2 by decide)
  have h1 := H.cell hi (show 1 < 2 by decide)
  exact ⟨h0.1, h1.1, h0.2, h1.2⟩
variable {g : Nat → PV} {w0 : World} {blk off : Nat} {d0 : Array Nat}
/-- what an exchange reads and writes, and what it comes to -/
theorem SWK.exch {W : World} {dk : Array Nat} (h : SWK (enc2 g) 2 w0 blk off dk W) (R : RowK (enc2 g) 2 w0 blk off d0) (hs : dk.size = d0.size) {i j : Nat} (hi : i < dk.size) (hj : j < dk.size) (hij : i ≠ j) :
    ∃ pa pn pc qa qn qc ra rn rc sa sn sc, W.cell? ⟨blk, off + i * 2, none⟩ = some (.slice pa pn pc) ∧ W.cell? ⟨blk, off + i * 2 + 1, none⟩ = some (.slice qa qn qc) ∧ W.cell? ⟨blk, off + j * 2, none⟩ = some (.slice ra rn rc) ∧ W.cell? ⟨blk, off + j * 2 + 1, none⟩ = some (.slice sa sn sc) ∧
      W.frozen? ⟨blk, off + i * 2, none⟩ = false ∧ W.frozen? ⟨blk, off + i * 2 + 1, none⟩ = false ∧ W.frozen? ⟨blk, off + j * 2, none⟩ = false ∧ W.frozen? ⟨blk, off + j * 2 + 1, none⟩ = false ∧
      (W.setCell ⟨blk, off + i * 2, none⟩ (.slice ra rn rc)).cell? ⟨blk, off + i * 2 + 1, none⟩ = some (.slice qa qn qc) ∧ ((W.setCell ⟨blk, off + i * 2, none⟩ (.slice ra rn rc)).setCell ⟨blk, off + i * 2 + 1, none⟩ (.slice sa sn sc)).cell? ⟨blk, off + j * 2, none⟩ = some (.slice ra rn rc) ∧ (((W.setCell ⟨blk, off + i * 2, none⟩ (.slice ra rn rc)).setCell ⟨blk, off + i * 2 + 1, none⟩ (.slice sa sn sc)).setCell ⟨blk, off + j * 2, none⟩ (.slice pa pn pc)).cell? ⟨blk, off + j * 2 + 1, none⟩ = some (.slice sa sn sc) ∧
      SWK (enc2 g) 2 w0 blk off (swp dk i j) ((((W.setCell ⟨blk, off + i * 2, none⟩ (.slice ra rn rc)).setCell ⟨blk, off + i * 2 + 1, none⟩ (.slice sa sn sc)).setCell ⟨blk, off + j * 2, none⟩ (.slice pa pn pc)).setCell ⟨blk, off + j * 2 + 1, none⟩ (.slice qa qn qc)).drew := by
  obtain ⟨x1, x2, x3, x4⟩ := row_two (h.holds R.hblk R.hH hs) hi
  obtain ⟨y1, y2, y3, y4⟩ := row_two (h.holds R.hblk R.hH hs) hj
  have S := h.swapped R i j hi hj
  simp only [enc2, World.setCells] at S
  have n1 : off + i * 2 + 1 ≠ off + i * 2 := by omega
  have n2 : off + j * 2 ≠ off + i * 2 := by omega
  have n3 : off + j * 2 ≠ off + i * 2 + 1 := by omega
  have n4 : off + j * 2 + 1 ≠ off + i * 2 := by omega
  have n5 : off + j * 2 + 1 ≠ off + i * 2 + 1 := by omega
  have n6 : off + j * 2 + 1 ≠ off + j * 2 := by omega
  refine ⟨_, _, _, _, _, _, _, _, _, _, _, _, x1, x2, y1, y2, x3, x4, y3, y4, ?_, ?_, ?_, S⟩
  · rw [World.cell?_setCell_other (h := fun e => n1 (congrArg Addr.off e).symm)]; exact x2
  · rw [World.cell?_setCell_other (h := fun e => n3 (congrArg Addr.off e).symm), World.cell?_setCell_other (h := fun e => n2 (congrArg Addr.off e).symm)]; exact y1
  · rw [World.cell?_setCell_other (h := fun e => n6 (congrArg Addr.off e).symm), World.cell?_setCell_other (h := fun e => n5 (congrArg Addr.off e).symm), World.cell?_setCell_other (h := fun e => n4 (congrArg Addr.off e).symm)]; exact y2
theorem swapRange_any (R : RowK (enc2 g) 2 w0 blk off d0) (cap a b n : Nat) (fn : Value) {w : World} {d : Array Nat} (hW : SWK (enc2 g) 2 w0 blk off d w) (hs : d.size = d0.size) (hsz : d0.size < 4611686018427387904) (h1 : a + n ≤ b) (h2 : b + n ≤ d0.size) :
    Calls Try.prog 88 #[.slice (some ⟨blk, off, none⟩) d0.size cap, .int .i64 (a : Int), .int .i64 (b : Int), .int .i64 (n : Int), fn] w fun e w' => e = .returned (.tuple #[]) ∧ ∃ d', SWK (enc2 g) 2 w0 blk off d' w' ∧ d'.size = d0.size ∧ pl d' = swapf (pl d) a b n := by
  have S0 : Hid (SWK (enc2 g) 2 w0 blk off d w) := hW
  have HR : Hid (RowK (enc2 g) 2 w0 blk off d0) := R
  obtain ⟨sz, hz⟩ : ∃ sz, sz = d0.size := ⟨_, rfl⟩
  rw [← hz] at hs hsz h2 ⊢
  have HZ := Lib.hid hz
  clear hW hz R
  have mixed : Try.prog.follows .mixedOrders = true := by kernel_rfl
  go_enter Try.func88, Try.ntmps88
  go_wp2_with fail
  go_loopg [10] n (fun kx s10 wr => ∃ (i : Nat) (dk : Array Nat), s10 = .int .i64 (i : Int) ∧ i ≤ n ∧ n - i ≤ kx ∧ dk.size = sz ∧ Hid (SWK (enc2 g) 2 w0 blk off dk wr) ∧ Hid (pl dk = swapf (pl d) a b i))
  case atStart => exact ⟨0, d, rfl, by omega, by omega, hs, S0.out, (swapf_zero _ _ _).symm⟩
  case round =>
    clear S0
    obtain ⟨i, dk, rfl, hi, hkx, hds, S1, hpl⟩ := hrel
    by_cases hlt : i < n
    · have hltz : (i : Int) < (n : Int) := by omega
      go_wp2_with fail
      have ea : ((a : Int) + (i : Int)).toNat = a + i := by omega
      have pa : (0 : Int) ≤ (a : Int) + (i : Int) := by omega
      have ba : (a : Int) + (i : Int) < (sz : Int) := by omega
      have ra : IntKind.i64.wrap ((a : Int) + (i : Int)) = (a : Int) + (i : Int) := by rw [IntKind.wrap_i64]; omega
      have eb : ((b : Int) + (i : Int)).toNat = b + i := by omega
      have pb : (0 : Int) ≤ (b : Int) + (i : Int) := by omega
      have bb : (b : Int) + (i : Int) < (sz : Int) := by omega
      have rb : IntKind.i64.wrap ((b : Int) + (i : Int)) = (b : Int) + (i : Int) := by rw [IntKind.wrap_i64]; omega
      obtain ⟨pa', pn, pc, qa, qn, qc, ra', rn, rc, sa, sn, sc, c1, c2, c3, c4, f1, f2, f3, f4, c5, c6, c7, hS⟩ := SWK.exch S1.out HR.out (hds.trans HZ.out) (show a + i < dk.size by omega) (show b + i < dk.size by omega) (by omega)
      have S2 := Lib.hid hS; clear hS
      have hp2 : Hid (pl (swp dk (a + i) (b + i)) = swapf (pl d) a b (i + 1)) := by
        show _ = _
        rw [pl_swp dk (by omega) (by omega), hpl.out, swapf_step _ h1 hlt]
      have hs2 : Hid ((swp dk (a + i) (b + i)).size = sz) := by show _ = _; rw [size_swp]; exact hds
      clear S1
      go_wp2_with fail
      go_big_region_o
      all_goals
        clear c1 c2 c3 c4 f1 f2 f3 f4 c5 c6 c7
        generalize ((((wr.setCell ⟨blk, off + (a + i) * 2, none⟩ (.slice ra' rn rc)).setCell ⟨blk, off + (a + i) * 2 + 1, none⟩ (.slice sa sn sc)).setCell ⟨blk, off + (b + i) * 2, none⟩ (.slice pa' pn pc)).setCell ⟨blk, off + (b + i) * 2 + 1, none⟩ (.slice qa qn qc)).drew = w2 at S2 ⊢
        go_wp2_with fail
        go_roundg (n - (i + 1))
        case measure => omega
        case rel => exact ⟨i + 1, _, by go_num, by omega, by omega, hs2.out, S2.out, hp2.out⟩
    · obtain rfl : n = i := by omega
      go_wp2_with fail
      go_end0
      exact ⟨rfl, dk, S1.out, by rw [hds, HZ.out], hpl.out⟩
theorem rotate_any (R : RowK (enc2 g) 2 w0 blk off d0) (cap a m b : Nat) (fn : Value) {w : World} {d : Array Nat} (hW : SWK (enc2 g) 2 w0 blk off d w) (hs : d.size = d0.size) (hsz : d0.size < 4611686018427387904) (h1 : a < m) (h2 : m < b) (h3 : b ≤ d0.size) :
    Calls Try.prog 76 #[.slice (some ⟨blk, off, none⟩) d0.size cap, .int .i64 (a : Int), .int .i64 (m : Int), .int .i64 (b : Int), fn] w fun e w' => e = .returned (.tuple #[]) ∧ ∃ d', SWK (enc2 g) 2 w0 blk off d' w' ∧ d'.size = d0.size ∧ pl d' = rotf (pl d) a m b := by
  have S0 : Hid (SWK (enc2 g) 2 w0 blk off d w) := hW
  have SR := Lib.hid (fun (x y n : Nat) (W : World) (D : Array Nat) (hS : SWK (enc2 g) 2 w0 blk off D W) (hD : D.size = d0.size) (k1 : x + n ≤ y) (k2 : y + n ≤ d0.size) => swapRange_any R cap x y n fn hS hD hsz k1 k2)
  obtain ⟨sz, hz⟩ : ∃ sz, sz = d0.size := ⟨_, rfl⟩
  rw [← hz] at hs hsz h3 SR ⊢
  have HZ := Lib.hid hz
  clear hW hz R
  have e1 : IntKind.i64.wrap ((m : Int) - (a : Int)) = ((m - a : Nat) : Int) := by rw [IntKind.wrap_i64]; omega
  have e2 : IntKind.i64.wrap ((b : Int) - (m : Int)) = ((b - m : Nat) : Int) := by rw [IntKind.wrap_i64]; omega
  have e3 : (m : Int) - (a : Int) = ((m - a : Nat) : Int) := by omega
  have e4 : (b : Int) - (m : Int) = ((b - m : Nat) : Int) := by omega
  go_enter Try.func76, Try.ntmps76
  go_wp2_with fail
  go_loopg [10, 11] (b - a) (fun kx s10 s11 wr => ∃ (i j : Nat) (dk : Array Nat), s10 = .int .i64 (i : Int) ∧ s11 = .int .i64 (j : Int) ∧ 0 < i ∧ 0 < j ∧ i ≤ m - a ∧ j ≤ b - m ∧ i + j ≤ kx ∧ dk.size = sz ∧ Hid (SWK (enc2 g) 2 w0 blk off dk wr) ∧ Hid (rotf (pl dk) (m - i) m (m + j) = rotf (pl d) a m b))
  case atStart => exact ⟨m - a, b - m, d, rfl, rfl, by omega, by omega, by omega, by omega, by omega, hs, S0.out, by show _ = _; rw [show m - (m - a) = a by omega, show m + (b - m) = b by omega]⟩
  case round =>
    clear S0
    obtain ⟨i, j, dk, rfl, rfl, hi0, hj0, hi, hj, hkx, hds, S1, hpl⟩ := hrel
    by_cases hne : i = j
    · subst hne
      have hme : IntKind.i64.wrap ((m : Int) - (i : Int)) = ((m - i : Nat) : Int) := by rw [IntKind.wrap_i64]; omega
      have hme2 : (m : Int) - (i : Int) = ((m - i : Nat) : Int) := by omega
      have J := Lib.hid (SR.out (m - i) m i wr dk S1.out hds (by omega) (by omega))
      have t1 : ((i : Int) != (i : Int)) = false := by simp
      go_wp2_with fail
      refine J.out.mono ?_
      rintro e w2 ⟨rfl, d', h5, h6, h7⟩
      have HS := Lib.hid h5; clear h5
      have HP := Lib.hid h7; clear h7
      go_wp2_with fail
      go_end0
      refine ⟨rfl, d', HS.out, by rw [h6, HZ.out], ?_⟩
      rw [HP.out, ← hpl.out, rotf_even (pl dk) (by omega)]
    · have t1 : ((i : Int) != (j : Int)) = true := by
        have : ¬ (i : Int) = (j : Int) := by omega
        simpa using this
      by_cases hlt : j < i
      · have t2 : (j : Int) < (i : Int) := by omega
        have hme : IntKind.i64.wrap ((m : Int) - (i : Int)) = ((m - i : Nat) : Int) := by rw [IntKind.wrap_i64]; omega
        have hme2 : (m : Int) - (i : Int) = ((m - i : Nat) : Int) := by omega
        have J := Lib.hid (SR.out (m - i) m j wr dk S1.out hds (by omega) (by omega))
        have hi2 : IntKind.i64.wrap ((i : Int) - (j : Int)) = ((i - j : Nat) : Int) := by rw [IntKind.wrap_i64]; omega
        have hi3 : (i : Int) - (j : Int) = ((i - j : Nat) : Int) := by omega
        go_wp2_with fail
        refine J.out.mono ?_
        rintro e w2 ⟨rfl, d', h5, h6, h7⟩
        have HS := Lib.hid h5; clear h5
        have HP : Hid (rotf (pl d') (m - (i - j)) m (m + j) = rotf (pl d) a m b) := by
          show _ = _
          rw [h7, ← hpl.out, rotf_more (pl dk) hlt (by omega)]
        clear h7
        go_wp2_with fail
        go_roundg (i - j + j)
        case measure => omega
        case rel => exact ⟨i - j, j, d', by go_num, rfl, by omega, by omega, by omega, by omega, by omega, h6, HS.out, HP.out⟩
      · have t2 : (i : Int) < (j : Int) := by omega
        have t3 : ¬ (j : Int) < (i : Int) := by omega
        have hme : IntKind.i64.wrap ((m : Int) - (i : Int)) = ((m - i : Nat) : Int) := by rw [IntKind.wrap_i64]; omega
        have hme2 : (m : Int) - (i : Int) = ((m - i : Nat) : Int) := by omega
        obtain ⟨q, hq⟩ : ∃ q, q = m + j - i := ⟨_, rfl⟩
        have J := Lib.hid (SR.out (m - i) q i wr dk S1.out hds (by omega) (by omega))
        have hmf : IntKind.i64.wrap ((m : Int) + (j : Int)) = (m : Int) + (j : Int) := by rw [IntKind.wrap_i64]; omega
        have hmg : IntKind.i64.wrap ((m : Int) + (j : Int) - (i : Int)) = (q : Int) := by rw [IntKind.wrap_i64]; omega
        have hmg3 : (m : Int) + (j : Int) - (i : Int) = (q : Int) := by omega
        have HQ := Lib.hid hq; clear hq
        have hi2 : IntKind.i64.wrap ((j : Int) - (i : Int)) = ((j - i : Nat) : Int) := by rw [IntKind.wrap_i64]; omega
        have hi3 : (j : Int) - (i : Int) = ((j - i : Nat) : Int) := by omega
        go_wp2_with fail
        refine J.out.mono ?_
        rintro e w2 ⟨rfl, d', h5, h6, h7⟩
        have HS := Lib.hid h5; clear h5
        have HP : Hid (rotf (pl d') (m - i) m (m + (j - i)) = rotf (pl d) a m b) := by
          show _ = _
          rw [h7, HQ.out, ← hpl.out, rotf_less (pl dk) (by omega) (by omega)]
        clear h7
        go_wp2_with fail
        go_roundg (i + (j - i))
        case measure => omega
        case rel => exact ⟨i, j - i, d', rfl, by go_num, by omega, by omega, by omega, by omega, by omega, h6, HS.out, HP.out⟩
end Go.Proofs.Ytfhnmmiakknilaa
