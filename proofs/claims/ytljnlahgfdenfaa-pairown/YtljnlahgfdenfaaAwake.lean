/-
  The contract of the statements' own awake: the document's example is what Come says.
-/
import Derived.Test.YtljnlahgfdenfaaCome
namespace Go.Proofs.Ytljnlahgfdenfaa
open Go.RowKit
set_option maxHeartbeats 400000
set_option maxRecDepth 100000
theorem conv_const (w : World) (b : Nat) (C : Array Value) (n c : Nat) (hb : b = w.heap.size) : (convert 35 35 (.slice (some ⟨b, 0, none⟩) n c)).run Try.prog (w.alloc (.cells C 5)) = .ok (.slice (some ⟨b, 0, none⟩) n c) (w.alloc (.cells C 5 (C.size, C.size + 1))) := by
  subst hb
  exact Lib.run_convert_bytes_const (P := Try.prog) w 35 5 C n c Try.underlying35 Try.underlying5
/-- the world in which the example's list lies -/
def exWorld (w : World) : World := (((((((w.alloc (Obj.cells #[Value.int IntKind.u8 98] 5 (1, 2))).alloc (Obj.cells #[Value.int IntKind.u8 49] 5 (1, 2))).alloc (Obj.cells #[Value.int IntKind.u8 97] 5 (1, 2))).alloc
  (Obj.cells #[Value.int IntKind.u8 50] 5 (1, 2))).alloc (Obj.cells #[Value.int IntKind.u8 98] 5 (1, 2))).alloc (Obj.cells #[Value.int IntKind.u8 51] 5 (1, 2))).alloc
    (Obj.cells #[Value.slice (some { block := w.heap.size, off := 0 }) 1 1, Value.slice (some { block := w.heap.size + 1, off := 0 }) 1 1, Value.slice (some { block := w.heap.size + 1 + 1, off := 0 }) 1 1,
      Value.slice (some { block := w.heap.size + 1 + 1 + 1, off := 0 }) 1 1, Value.slice (some { block := w.heap.size + 1 + 1 + 1 + 1, off := 0 }) 1 1, Value.slice (some { block := w.heap.size + 1 + 1 + 1 + 1 + 1, off := 0 }) 1 1] 37))
def exList : List Pr := [([98], [49]), ([97], [50]), ([98], [51])]
theorem ex_come : come exList = [([97], [50]), ([98], [51])] := by decide
theorem ex_below (w : World) : Below w.heap.size w (exWorld w) := by
  unfold exWorld
  exact (((((((Below.refl _ _).alloc (Nat.le_refl _) _).alloc (by simp) _).alloc (by simp; omega) _).alloc (by simp; omega) _).alloc (by simp; omega) _).alloc (by simp; omega) _).alloc (by simp; omega) _
theorem new_at {w : World} {b : Nat} (o : Obj) (hb : b = w.heap.size) : (w.alloc o).heap[b]? = some o := by
  subst hb
  exact heap_alloc_new w o
theorem keep_at {w : World} {b : Nat} {x : Obj} (h : w.heap[b]? = some x) (o : Obj) : (w.alloc o).heap[b]? = some x :=
  (Below.heap_alloc w o b (Array.getElem?_eq_some_iff.1 h).1).trans h
theorem ex_pcs (w : World) : Pcs (exWorld w) (some ⟨w.heap.size + 1 + 1 + 1 + 1 + 1 + 1, 0, none⟩) exList := by
  have h0 : (exWorld w).heap[w.heap.size]? = some (.cells #[.int .u8 98] 5 (1, 2)) := keep_at (keep_at (keep_at (keep_at (keep_at (keep_at (new_at _ (by simp)) _) _) _) _) _) _
  have h1 : (exWorld w).heap[w.heap.size + 1]? = some (.cells #[.int .u8 49] 5 (1, 2)) := keep_at (keep_at (keep_at (keep_at (keep_at (new_at _ (by simp)) _) _) _) _) _
  have h2 : (exWorld w).heap[w.heap.size + 1 + 1]? = some (.cells #[.int .u8 97] 5 (1, 2)) := keep_at (keep_at (keep_at (keep_at (new_at _ (by simp)) _) _) _) _
  have h3 : (exWorld w).heap[w.heap.size + 1 + 1 + 1]? = some (.cells #[.int .u8 50] 5 (1, 2)) := keep_at (keep_at (keep_at (new_at _ (by simp)) _) _) _
  have h4 : (exWorld w).heap[w.heap.size + 1 + 1 + 1 + 1]? = some (.cells #[.int .u8 98] 5 (1, 2)) := keep_at (keep_at (new_at _ (by simp)) _) _
  have h5 : (exWorld w).heap[w.heap.size + 1 + 1 + 1 + 1 + 1]? = some (.cells #[.int .u8 51] 5 (1, 2)) := keep_at (new_at _ (by simp)) _
  have h6 : (exWorld w).heap[w.heap.size + 1 + 1 + 1 + 1 + 1 + 1]? = some (.cells _ 37 (0, 0)) := new_at _ (by simp)
  have hlt : w.heap.size + 1 + 1 + 1 + 1 + 1 + 1 < (exWorld w).heap.size := (Array.getElem?_eq_some_iff.1 h6).1
  have hc : ∀ j, (exWorld w).cell? ⟨w.heap.size + 1 + 1 + 1 + 1 + 1 + 1, j, none⟩ = _ := fun j => cell_of_row (exWorld w) _ j _ 37 (0, 0) h6
  refine .inr ⟨_, 0, rfl, hlt, fun i hi => ?_⟩
  match i, hi with
  | 0, _ => exact ⟨_, _, _, _, hc _, hc _, bts_row (l := [98]) h0, bts_row (l := [49]) h1⟩
  | 1, _ => exact ⟨_, _, _, _, hc _, hc _, bts_row (l := [97]) h2, bts_row (l := [50]) h3⟩
  | 2, _ => exact ⟨_, _, _, _, hc _, hc _, bts_row (l := [98]) h4, bts_row (l := [51]) h5⟩
theorem awake_any (w : World) : Calls Try.prog 10 #[] w fun e w' => e = .returned (.bool true) ∧ Below w.heap.size w w' := by
  have hcv := conv_const
  go_enter Try.func10, Try.ntmps10
  go_wp2_with fail
  refine (come_any (L := exList) (ex_pcs w) 3 (by decide) (by decide)).mono ?_
  rintro e w' ⟨g, rfl, hn, hb⟩
  have hB := below_then (ex_below w) hb
  rw [ex_come] at hn ⊢
  obtain ⟨b0, off0, ka, kc, va, vc, e0, _, h1, h2, h3, h4⟩ := hn.pcs.at (j := 0) (by decide)
  obtain ⟨b1, off1, ka', kc', va', vc', e1, _, k1, k2, k3, k4⟩ := hn.pcs.at (j := 1) (by decide)
  obtain ⟨rfl, rfl⟩ : g = b0 ∧ 0 = off0 := by
    injection e0 with e0
    injection e0 with e1 e2
    exact ⟨e1, e2⟩
  obtain ⟨rfl, rfl⟩ : g = b1 ∧ 0 = off1 := by
    injection e1 with e0
    injection e0 with e1 e2
    exact ⟨e1, e2⟩
  have c1 := conv_any h3 kc
  have c2 := conv_any k4 vc'
  have HB := Lib.hid hB; clear hB hb
  simp only [List.getElem_cons_zero, List.getElem_cons_succ, List.length_cons, List.length_nil, Nat.zero_add, Nat.zero_mul, Nat.one_mul] at h1 k2 c1 c2 ⊢
  clear hn e0 e1 h2 h3 h4 k1 k3 k4 hcv
  go_wp2_with fail
  go_ret
  exact ⟨rfl, HB.out⟩
end Go.Proofs.Ytljnlahgfdenfaa
