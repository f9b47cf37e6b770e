/-
  Contract of Seed: dry, and not.
-/
import Derived.Test.YtialpajnjbchgaaFeed
import Derived.Laws.ResultCell
import Derived.Deep.DeepCutAuto
import Derived.BigRegion
namespace Go.Proofs.Ytialpajnjbchgaa
open Go.RowKit
set_option maxHeartbeats 400000
set_option maxRecDepth 100000
/-- the value of some bytes, as an array -/
def seedV (l : List UInt8) : Array Value := (Lib.byteCells l).toArray
theorem seedV_size (l : List UInt8) : (seedV l).size = l.length := by simp [seedV, Lib.byteCells_length]
theorem seedV_one (l : List UInt8) : (seedV l).all (·.oneCell') = true := by
  rw [seedV, List.all_toArray, List.all_eq_true]
  exact byteCells_one l
def zeros : List UInt8 := List.replicate 16 0
theorem zeros_len : zeros.length = 16 := rfl
theorem zeros_seed : #[Value.int .u8 0, .int .u8 0, .int .u8 0, .int .u8 0, .int .u8 0, .int .u8 0, .int .u8 0, .int .u8 0, .int .u8 0, .int .u8 0, .int .u8 0, .int .u8 0, .int .u8 0, .int .u8 0, .int .u8 0, .int .u8 0] = seedV zeros := by
  simp [seedV, zeros, Lib.byteCells, List.replicate]
theorem results_two {P : Program} {fn : Func} {p u : Tmp} {ty : TypeId} (h : fn.results = #[.cell p ty, .tmp u]) (tmps : Array Value) (w : World) (g : Nat) (t : TypeId) (cs : Array Value) (fr : Nat × Nat) (d : TypeDesc) (v : Value)
    (hp : tmps.getD p undef = .pointer (some ⟨g, 0, none⟩)) (hg : w.heap[g]? = some (.cells cs t fr)) (hv : tmps.getD u undef = v)
    (hu : P.underlying ty = some d) (hd : (match d with | .struct _ | .array _ _ => true | _ => false) = true) (hi : (P.info? ty).map (·.size) = some cs.size) :
    (results fn tmps).run P w = .ok (.tuple #[.agg cs, v]) w := by
  have hp' : tmps[p]?.getD undef = .pointer (some ⟨g, 0, none⟩) := by simpa using hp
  have hv' : tmps[u]?.getD undef = v := by simpa using hv
  simp [results, h, hp', hv', asAddr, run_loadVar_row w g t ty cs fr d hg hu hd hi]
theorem seed_dry {B s n : Nat} {w : World} {v : Value} {l : List UInt8} (h : Src B w s v l n) (hl : l.length < 16) :
    Calls Try.prog 10 #[.pointer (some ⟨s, 0, none⟩)] w fun e w' => e = .returned (.tuple #[.agg (seedV zeros), .int .i64 11]) ∧ Below w.heap.size w w' := by
  obtain ⟨c0, _⟩ := h.cells
  have hlt := h.lt
  obtain ⟨A, c, rfl, _, _⟩ := h.2.2.bts
  clear h
  go_enter Try.func10, Try.ntmps10
  go_wp2_with fail
  rw [zeros_seed]
  refine bodyPost_ret (results_two rfl _ _ w.heap.size 36 (seedV zeros) (0, 0) _ (.int .i64 11) rfl (heap_alloc2_old w _ _) rfl Try.underlying36 rfl (by rw [seedV_size]; kernel_rfl)) rfl ?_
  exact ⟨rfl, ((Below.refl _ _).alloc (Nat.le_refl _) _).alloc (by simp) _⟩
/-- copy of the first sixteen bytes into an array -/
theorem run_copy_seed {W : World} {g : Nat} (hg : W.heap[g]? = some (.cells (seedV zeros) 36 (0, 0))) {A : Option Addr} {l : List UInt8} (ha : Bts W A l) (c : Nat) (hl : 16 ≤ l.length) :
    (Builtin.copy_ #[22, 22] 3 #[.slice (some ⟨g, 0, none⟩) 16 16, .slice A l.length c]).run Try.prog W = .ok (.int .i64 16) (W.setRow g (seedV (l.take 16))) := by
  have hlen : (Lib.byteCells (l.take 16)).length = 16 := by rw [Lib.byteCells_length, List.length_take]; omega
  obtain ⟨a, rfl, _, hc⟩ := (ha.take 16).cells (by rw [List.length_take]; omega)
  have hz : (seedV zeros).toList.length = 16 := rfl
  have h := run_copy_row (P := Try.prog) W 22 22 3 5 g 0 16 16 a l.length c (seedV zeros) 36 _ Try.underlying22 Try.size5 hg (by rw [hlen]; exact (Nat.min_eq_right hl).symm) hc (by rw [hlen, seedV_size]; decide) (byteCells_one _)
  rw [hlen] at h
  simp only [List.take_zero, List.nil_append, Nat.zero_add] at h
  rw [List.drop_of_length_le (by rw [hz]; omega), List.append_nil] at h
  exact h
/-- the source behind the front sixteen, ahead of the count -/
theorem Src.cut {B s n g off c : Nat} {w : World} {l : List UInt8} (h : Src B w s (.slice (some ⟨g, off, none⟩) l.length c) l n) (hl : 16 ≤ l.length) (off' : Nat) (ho : off' = if c = 16 then off else off + 16) :
    Src B (w.setCell ⟨s, 0, none⟩ (.slice (some ⟨g, off', none⟩) (l.length - 16) (c - 16))) s (.slice (some ⟨g, off', none⟩) (l.length - 16) (c - 16)) (l.drop 16) n := by
  subst ho
  have hd := h.2.2.drop 16 hl
  refine ⟨h.1, ?_, hd.keep fun k hk => heap_setCell_other w ⟨s, 0, none⟩ k _ (fun e => h.ne h.2.2 (Eq.trans hk (congrArg some e)))⟩
  rw [heap_setCell_same w s 0 _ 45 _ h.2.1]
  rfl
theorem Src.count {B s n : Nat} {w : World} {v : Value} {l : List UInt8} (h : Src B w s v l n) : Src B (w.setCell ⟨s, 1, none⟩ (.int .i64 ((n : Int) + 1))) s v l (n + 1) := by
  refine ⟨h.1, ?_, h.2.2.keep fun k hk => heap_setCell_other w ⟨s, 1, none⟩ k _ (fun e => h.ne h.2.2 (by rw [hk]; exact congrArg some e))⟩
  rw [heap_setCell_same w s 1 _ 45 _ h.2.1]
  simp
set_option maxHeartbeats 4000000 in
theorem seed_any {B s n : Nat} {w : World} {v : Value} {l : List UInt8} (h : Src B w s v l n) (hl : 16 ≤ l.length) (hn : n < 1000000000) :
    Calls Try.prog 10 #[.pointer (some ⟨s, 0, none⟩)] w fun e w' => e = .returned (.tuple #[.agg (seedV (l.take 16)), .int .i64 0]) ∧ ∃ v', Src B w' s v' (l.drop 16) (n + 1) ∧ v'.ownBlock = v.ownBlock ∧ Kept (fun k => k = s) w w' := by
  obtain ⟨c0, c1, _⟩ := h.cells
  have hlt := h.lt
  obtain ⟨Z, hZ⟩ : ∃ Z, Z = (w.alloc (.cells (seedV zeros) 36)).alloc (.cells (seedV zeros) 36) := ⟨_, rfl⟩
  have hb : Below w.heap.size w Z := by rw [hZ]; exact ((Below.refl _ _).alloc (Nat.le_refl _) _).alloc (by simp) _
  have hz0 : Z.heap[w.heap.size]? = some (.cells (seedV zeros) 36 (0, 0)) := by rw [hZ]; exact heap_alloc2_old w _ _
  have hz1 : Z.heap[w.heap.size + 1]? = some (.cells (seedV zeros) 36 (0, 0)) := by rw [hZ]; exact heap_alloc2_new w _ _
  have hS := h.below hb
  obtain ⟨A, c, rfl, hc, hbt⟩ := hS.2.2.bts
  have hcp := run_copy_seed (W := Z.drew) hz1 hbt c hl
  obtain ⟨g, off, rfl⟩ : ∃ g off, A = some ⟨g, off, none⟩ := by
    rcases hbt with rfl | ⟨g, off, rfl, _⟩
    · simp at hl
    · exact ⟨g, off, rfl⟩
  obtain ⟨Y, hY⟩ : ∃ Y, Y = Z.drew.setRow (w.heap.size + 1) (seedV (l.take 16)) := ⟨_, rfl⟩
  rw [← hY] at hcp
  have hyo : ∀ k, k ≠ w.heap.size + 1 → Y.heap[k]? = Z.heap[k]? := fun k hk => by rw [hY]; exact setRow_other Z.drew _ k _ hk
  have hy1 : Y.heap[w.heap.size + 1]? = some (.cells (seedV (l.take 16)) 36 (0, 0)) := by rw [hY]; exact setRow_heap Z.drew _ _ _ 36 (0, 0) hz1
  have hbZ : Below w.heap.size Z Y := ⟨by rw [hY]; rfl, by rw [hY]; rfl, by rw [hY]; rfl, by rw [hY]; simp, fun k hk => hyo k (by omega)⟩
  have hbY : Below w.heap.size w Y := hb.trans hbZ
  have hSY := h.below hbY
  have hy0 : Y.heap[w.heap.size]? = some (.cells (seedV zeros) 36 (0, 0)) := (hyo _ (by omega)).trans hz0
  obtain ⟨z0, z1, z2, z3⟩ := hS.cells
  obtain ⟨y0, y1, y2, y3⟩ := hSY.cells
  obtain ⟨off', ho⟩ : ∃ o, o = if c = 16 then off else off + 16 := ⟨_, rfl⟩
  have hcut := hSY.cut hl off' ho
  obtain ⟨V, hV⟩ : ∃ V, V = Value.slice (some ⟨g, off', none⟩) (l.length - 16) (c - 16) := ⟨_, rfl⟩
  rw [← hV] at hcut
  have HCUT := Lib.hid hcut; clear hcut
  have HV := Lib.hid hV
  have HO := Lib.hid ho
  have HZ := Lib.hid hZ
  have HY1 := Lib.hid hy1
  have HY0 := Lib.hid hy0
  have HBY := Lib.hid hbY
  clear h hb hz0 hz1 hS hbt hY hyo hy1 hbZ hbY hSY hy0 hZ ho hV
  go_enter Try.func10, Try.ntmps10
  go_wp2_with fail
  rw [zeros_seed, ← HZ.out]
  go_cut [4] (fun s4 wx => s4 = .pointer (some ⟨w.heap.size + 1, 0, none⟩) ∧ wx = Y.setCell ⟨s, 0, none⟩ V)
  case first =>
    by_cases hc16 : c = 16
    · subst hc16
      have ho := HO.out
      rw [if_pos rfl] at ho
      subst ho
      go_region
      all_goals
        go_wp2_with fail
        go_meet
        refine ⟨rfl, ?_⟩
        rw [HV.out, show l.length - 16 = 0 by omega]
    · have ho := HO.out
      rw [if_neg hc16] at ho
      subst ho
      go_region
      all_goals
        go_wp2_with fail
        go_meet
        refine ⟨rfl, ?_⟩
        rw [HV.out]
  obtain ⟨rfl, hX⟩ := hcut
  have hkX : Kept (fun k => k = s) Y wc := by rw [hX]; exact Kept.set (X := fun k => k = s) (p := ⟨s, 0, none⟩) rfl _
  have hSX : Src B wc s V (l.drop 16) n := by rw [hX]; exact HCUT.out
  have hne0 : w.heap.size ≠ s := by omega
  have hne1 : w.heap.size + 1 ≠ s := by omega
  have hx1 : wc.heap[w.heap.size + 1]? = some (.cells (seedV (l.take 16)) 36 (0, 0)) := (hkX.block _ (Array.getElem?_eq_some_iff.1 HY1.out).1 hne1).trans HY1.out
  have hx0 : wc.heap[w.heap.size]? = some (.cells (seedV zeros) 36 (0, 0)) := (hkX.block _ (Array.getElem?_eq_some_iff.1 HY0.out).1 hne0).trans HY0.out
  obtain ⟨x0, x1, x2, x3⟩ := hSX.cells
  obtain ⟨X, hXX⟩ : ∃ X, X = wc.setCell ⟨s, 1, none⟩ (.int .i64 ((n : Int) + 1)) := ⟨_, rfl⟩
  have hkW : Kept (fun k => k = s) wc X := by rw [hXX]; exact Kept.set (X := fun k => k = s) (p := ⟨s, 1, none⟩) rfl _
  have HX1 := Lib.hid ((hkW.block _ (Array.getElem?_eq_some_iff.1 hx1).1 hne1).trans hx1)
  have HX0 := Lib.hid ((hkW.block _ (Array.getElem?_eq_some_iff.1 hx0).1 hne0).trans hx0)
  have HSX : Hid (Src B X s V (l.drop 16) (n + 1)) := by show Src _ _ _ _ _ _; rw [hXX]; exact hSX.count
  have HKX : Hid (Kept (fun k => k = s) w X) := ((Kept.of_below HBY.out).trans hkX).trans hkW
  have HXX := Lib.hid hXX
  have HT : Hid ((l.take 16).length = 16) := by show _ = _; rw [List.length_take]; omega
  clear hX hkX hSX hx1 hx0 hkW hXX hcp z0 z1 z2 z3 y0 y1 y2 y3 c0 c1
  obtain ⟨m, hm⟩ : ∃ m, m = l.take 16 := ⟨_, rfl⟩
  rw [← hm] at HT HX1
  have HM := Lib.hid hm; clear hm
  go_wp2_with (first
    | (refine wpList_load_row rfl 36 _ rfl (w.heap.size + 1) rfl 36 (seedV m) (0, 0) _ (by rw [← HXX.out]; exact HX1.out) Try.underlying36 rfl (by rw [seedV_size, HT.out]; kernel_rfl) ?_)
    | (refine wpList_store_row rfl 36 _ _ rfl w.heap.size (seedV m) rfl rfl 36 (seedV zeros) (by rw [← HXX.out]; exact HX0.out) (by rw [seedV_size, HT.out]; kernel_rfl) (by rw [seedV_size, seedV_size, HT.out]; rfl) (seedV_one m) ?_))
  rw [← HXX.out]
  refine bodyPost_ret (results_two rfl _ _ w.heap.size 36 (seedV m) (0, 0) _ (.int .i64 0) rfl (setRow_heap X _ _ _ 36 (0, 0) HX0.out) rfl Try.underlying36 rfl (by rw [seedV_size, HT.out]; kernel_rfl)) rfl ?_
  refine ⟨by rw [HM.out], V, HSX.out.keep (setRow_other X _ s _ (Ne.symm hne0)) (fun k hk => setRow_other X _ k _ ?_), by rw [HV.out]; rfl, ?_⟩
  · rintro rfl
    obtain ⟨_, _, cur, hcur⟩ := HSX.out.2.2.lt hk
    rw [HX0.out] at hcur
    injection hcur with hcur
    injection hcur with _ hcur
    cases hcur
  · have h := HKX.out
    exact ⟨h.os, h.tape, h.output, by simpa using h.size, fun k hk hx => (setRow_other X _ k _ (Nat.ne_of_lt hk)).trans (h.block k hk hx)⟩
end Go.Proofs.Ytialpajnjbchgaa
