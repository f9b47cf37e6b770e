/-
  Contracts of Must, which panics, and of Is, which catches it.
-/
import Derived.Test.YtfhnmmiakknilaaBranch
import Derived.Defers
import Derived.Recover
namespace Go.Proofs.Ytfhnmmiakknilaa
open Go.RowKit
set_option maxHeartbeats 4000000
set_option maxRecDepth 100000
theorem must_ok {F : Nat → Prop} {w : World} {x : Nd} {v : Value} (z : Int) (h : Nde F w x v) (hx : x ≠ .none) (hz : z = (x.kind : Int)) : Calls Try.prog 12 #[v, .int .i64 z] w fun e w' => e = .returned v ∧ w = w' := by
  subst hz
  have hmd := made_any h
  have hkk : (x.kind != 0) = true := by cases e : x <;> first | exact absurd e hx | rfl
  rw [hkk] at hmd
  obtain ⟨t, b, f, rfl, hme, hcf, hcal⟩ := kind_meth h hx
  obtain ⟨y, hy⟩ : ∃ y, y = (x.kind : Int) := ⟨_, rfl⟩
  rw [← hy] at hcal ⊢
  have HCA := Lib.hid (hcal w fun _ _ _ => rfl); clear hcal
  have HMD := Lib.hid hmd; clear hmd
  have hm1 := hme w
  have hm2 := hcf #[.pointer (some b)] w
  clear h hx hkk hme hcf hy
  have hn : (y != y) = false := by simp
  go_enter Try.func12, Try.ntmps12
  go_wp2_with fail
  refine HMD.out.mono ?_
  rintro e w' ⟨rfl, rfl⟩
  go_wp2_with fail
  refine HCA.out.mono ?_
  rintro e w' ⟨rfl, rfl⟩
  go_wp2_with fail
  go_ret
  exact ⟨rfl, rfl⟩
theorem must_no {F : Nat → Prop} {w : World} {x : Nd} {v : Value} (z : Int) (h : Nde F w x v) (hx : x = .none ∨ z ≠ (x.kind : Int)) : Calls Try.prog 12 #[v, .int .i64 z] w fun e w' => e = .panicked [{ v := .iface 38 (.int .i64 12), recovered := false }] ∧ w' = w := by
  have hmd := made_any h
  by_cases h0 : x = .none
  · subst h0
    obtain rfl : v = .nilIface := h
    have HMD := Lib.hid hmd; clear hmd
    clear hx
    go_enter Try.func12, Try.ntmps12
    go_wp2_with fail
    refine HMD.out.mono ?_
    rintro e w' ⟨rfl, rfl⟩
    go_wp2_with fail
    exact ⟨rfl, rfl, rfl⟩
  · have hkk : (x.kind != 0) = true := by cases e : x <;> first | exact absurd e h0 | rfl
    rw [hkk] at hmd
    obtain ⟨t, b, f, rfl, hme, hcf, hcal⟩ := kind_meth h h0
    obtain ⟨y, hy⟩ : ∃ y, y = (x.kind : Int) := ⟨_, rfl⟩
    rw [← hy] at hcal hx
    have hn : (y != z) = true := by
      rcases hx with hx | hx
      · exact absurd hx h0
      · simpa using fun e => hx e.symm
    have HCA := Lib.hid (hcal w fun _ _ _ => rfl); clear hcal
    have HMD := Lib.hid hmd; clear hmd
    have hm1 := hme w
    have hm2 := hcf #[.pointer (some b)] w
    clear h hx hkk hme hcf hy h0
    go_enter Try.func12, Try.ntmps12
    go_wp2_with fail
    refine HMD.out.mono ?_
    rintro e w' ⟨rfl, rfl⟩
    go_wp2_with fail
    refine HCA.out.mono ?_
    rintro e w' ⟨rfl, rfl⟩
    go_wp2_with fail
    exact ⟨rfl, rfl, rfl⟩
theorem ta38 (v : Value) (w : World) : (Instr.typeAssert (.iface 38 v) 20 38 false).run Try.prog w = .ok v w := by kernel_rfl
theorem ne20_some (t : TypeId) (v : Value) (w : World) : (binOp .neq 20 (.iface t v) .nilIface).run Try.prog w = .ok (.bool true) w := by kernel_rfl
theorem ne20_none (w : World) : (binOp .neq 20 .nilIface .nilIface).run Try.prog w = .ok (.bool false) w := by kernel_rfl
theorem catch_thrown (p : Addr) (x : Int) (older : List PanicEntry) (w : World) (hc : w.cell? p = some (.int .i64 x)) (hz : w.frozen? p = false) :
    CallsD Try.prog 33 #[.pointer (some p)] (.panicking ({ v := .iface 38 (.int .i64 12), recovered := false } :: older)) w fun e u' w' =>
      e = .returned (.tuple #[]) ∧ u' = .panicking ({ v := .iface 38 (.int .i64 12), recovered := true } :: older) ∧ w' = w.setCell p (.int .i64 12) := by
  refine callsD_of_wpS Try.func33 rfl fun c₀ cs hu => ?_
  apply wpS_seq
  apply wpS_region
  simp [wpOpsS, go_sem, recoverD, hu, Try.ntmps33, Exit.thenS]
  apply wpS_seq
  apply wpS_region
  simp [wpOpsS, go_sem, ne20_some, Exit.thenS]
  refine wpS_cond (t := true) (by simp [Act.eval, Array.replicate]) ?_
  simp only [if_true]
  apply wpS_region
  simp [wpOpsS, go_sem, ta38, hc, hz, bodyPostS, results, Try.results33]
theorem catch_idle (p : Addr) (w : World) :
    CallsD Try.prog 33 #[.pointer (some p)] .returning w fun e u' w' => e = .returned (.tuple #[]) ∧ u' = .returning ∧ w' = w := by
  refine callsD_of_wpS Try.func33 rfl fun c₀ cs hu => ?_
  apply wpS_seq
  apply wpS_region
  simp [wpOpsS, go_sem, recoverD, hu, Try.ntmps33, Exit.thenS]
  apply wpS_seq
  apply wpS_region
  simp [wpOpsS, go_sem, ne20_none, Exit.thenS]
  refine wpS_cond (t := false) (by simp [Act.eval, Array.replicate]) ?_
  simp only [Bool.false_eq_true, if_false]
  refine wpS_of_wp (wp_skip ?_)
  cases c₀
  simp_all [bodyPostS, results, Try.results33]
/-- what Is tells: 0 (OK) of a node of that kind, else 12 (ErrKind) -/
theorem is_any {F : Nat → Prop} {w : World} {x : Nd} {v : Value} (z : Int) (h : Nde F w x v) : Calls Try.prog 11 #[v, .int .i64 z] w fun e w' => e = .returned (.int .i64 (if x.kind ≠ 0 ∧ z = (x.kind : Int) then 0 else 12)) ∧ Below w.heap.size w w' := by
  obtain ⟨w1, hw1⟩ : ∃ w1, w1 = w.alloc (.cells #[.int .i64 0] 38) := ⟨_, rfl⟩
  have hb1 : Below w.heap.size w w1 := by rw [hw1]; exact (Below.refl _ _).alloc (Nat.le_refl _) _
  have hr1 : w1.heap[w.heap.size]? = some (.cells #[.int .i64 0] 38 (0, 0)) := by rw [hw1]; exact heap_alloc_new w _
  have hmf : ∀ (fn : Fn) (first cap : Array Value) (w : World), (Instr.makeFunc fn first cap).run Try.prog w = .ok (.func fn first cap) w := fun _ _ _ _ => rfl
  have hc := row_cell (i := 0) hr1 rfl
  have hz : w1.frozen? ⟨w.heap.size, 0, none⟩ = false := by simp [World.frozen?, hr1]
  have hset : ∀ u, Below w.heap.size w (w1.setCell ⟨w.heap.size, 0, none⟩ u) := fun u => hb1.setCell (p := ⟨w.heap.size, 0, none⟩) (Nat.le_refl _) u
  have hrow : ∀ u, (w1.setCell ⟨w.heap.size, 0, none⟩ u).heap[w.heap.size]? = some (.cells #[u] 38 (0, 0)) := fun u => by
    rw [heap_setCell_same w1 w.heap.size 0 _ 38 u hr1]; rfl
  have hcell : ∀ u, (w1.setCell ⟨w.heap.size, 0, none⟩ u).cell? ⟨w.heap.size, 0, none⟩ = some u := fun u => row_cell (i := 0) (hrow u) rfl
  by_cases hx : x.kind ≠ 0 ∧ z = (x.kind : Int)
  · rw [if_pos hx]
    have hm := must_ok z (h.below hb1) (fun e => hx.1 (by rw [e]; rfl)) hx.2
    have HM := Lib.hid hm; clear hm
    have HW := Lib.hid hw1; clear hw1
    have HS := Lib.hid hset; clear hset
    have HC := Lib.hid hcell; clear hcell hrow
    clear h hx hb1 hr1
    go_enter_defers Try.func11, Try.ntmps11
    go_wp2_with (rw [← HW.out])
    refine HM.out.mono ?_
    rintro e w' ⟨rfl, rfl⟩
    go_wp2_with fail
    refine leaves_cons (f := 33) (args := #[.pointer (some ⟨w.heap.size, 0, none⟩)]) (by simp) (by simp [go_sem]) ?_
    refine (catch_idle ⟨w.heap.size, 0, none⟩ _).mono ?_
    rintro e u' w'' ⟨rfl, rfl, rfl⟩
    simp [Leaves, settle, results, Try.results11, go_sem, HC.out]
    exact HS.out _
  · rw [if_neg hx]
    have hm := must_no z (h.below hb1) (by
      by_cases h0 : x = .none
      · exact .inl h0
      · exact .inr fun e => hx ⟨by cases x <;> first | exact absurd rfl h0 | exact (by simp [Nd.kind]), e⟩)
    have HM := Lib.hid hm; clear hm
    have HW := Lib.hid hw1; clear hw1
    have HS := Lib.hid hset; clear hset
    have HC := Lib.hid hcell; clear hcell hrow
    have HCZ := Lib.hid (And.intro hc hz)
    clear h hx hb1 hr1
    go_enter_defers Try.func11, Try.ntmps11
    go_wp2_with (rw [← HW.out])
    refine HM.out.mono ?_
    rintro e w' ⟨rfl, rfl⟩
    go_wp2_with fail
    refine leaves_cons (f := 33) (args := #[.pointer (some ⟨w.heap.size, 0, none⟩)]) (by simp) (by simp [go_sem]) ?_
    refine (catch_thrown ⟨w.heap.size, 0, none⟩ 0 [] _ HCZ.out.1 HCZ.out.2).mono ?_
    rintro e u' w'' ⟨rfl, rfl, rfl⟩
    simp [Leaves, settle, results, Try.results11, go_sem, HC.out]
    exact HS.out _
end Go.Proofs.Ytfhnmmiakknilaa
