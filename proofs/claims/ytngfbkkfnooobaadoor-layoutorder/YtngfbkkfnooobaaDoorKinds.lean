/-
  What a node is: contracts of the methods, of what asks for a kind, and of what tells a node's parts.
-/
import Derived.Test.YtngfbkkfnooobaaDoorNodes
namespace Go.Proofs.YtngfbkkfnooobaaDoor
open Go.RowKit
set_option maxHeartbeats 400000
set_option maxRecDepth 100000
theorem ta84_84 (v : Value) (w : World) : (Instr.typeAssert (.iface 90 v) 41 90 true).run Tryd.prog w = .ok (.tuple #[v, .bool true]) w := by kernel_rfl
theorem ta84_91 (v : Value) (w : World) : (Instr.typeAssert (.iface 96 v) 41 90 true).run Tryd.prog w = .ok (.tuple #[.pointer none, .bool false]) w := by kernel_rfl
theorem ta84_100 (v : Value) (w : World) : (Instr.typeAssert (.iface 100 v) 41 90 true).run Tryd.prog w = .ok (.tuple #[.pointer none, .bool false]) w := by kernel_rfl
theorem ta84_nil (w : World) : (Instr.typeAssert .nilIface 41 90 true).run Tryd.prog w = .ok (.tuple #[.pointer none, .bool false]) w := by kernel_rfl
theorem ta91_84 (v : Value) (w : World) : (Instr.typeAssert (.iface 90 v) 41 96 true).run Tryd.prog w = .ok (.tuple #[.pointer none, .bool false]) w := by kernel_rfl
theorem ta91_91 (v : Value) (w : World) : (Instr.typeAssert (.iface 96 v) 41 96 true).run Tryd.prog w = .ok (.tuple #[v, .bool true]) w := by kernel_rfl
theorem ta91_100 (v : Value) (w : World) : (Instr.typeAssert (.iface 100 v) 41 96 true).run Tryd.prog w = .ok (.tuple #[.pointer none, .bool false]) w := by kernel_rfl
theorem ta91_nil (w : World) : (Instr.typeAssert .nilIface 41 96 true).run Tryd.prog w = .ok (.tuple #[.pointer none, .bool false]) w := by kernel_rfl
theorem ta100_84 (v : Value) (w : World) : (Instr.typeAssert (.iface 90 v) 41 100 true).run Tryd.prog w = .ok (.tuple #[.pointer none, .bool false]) w := by kernel_rfl
theorem ta100_91 (v : Value) (w : World) : (Instr.typeAssert (.iface 96 v) 41 100 true).run Tryd.prog w = .ok (.tuple #[.pointer none, .bool false]) w := by kernel_rfl
theorem ta100_100 (v : Value) (w : World) : (Instr.typeAssert (.iface 100 v) 41 100 true).run Tryd.prog w = .ok (.tuple #[v, .bool true]) w := by kernel_rfl
theorem ta100_nil (w : World) : (Instr.typeAssert .nilIface 41 100 true).run Tryd.prog w = .ok (.tuple #[.pointer none, .bool false]) w := by kernel_rfl
theorem kind84 (a : Option Addr) (w : World) : (method 267 90 (.pointer a) "Kind").run Tryd.prog w = .ok (116, .pointer a) w := by kernel_rfl
theorem count84 (a : Option Addr) (w : World) : (method 267 90 (.pointer a) "Count").run Tryd.prog w = .ok (115, .pointer a) w := by kernel_rfl
theorem kind91 (a : Option Addr) (w : World) : (method 267 96 (.pointer a) "Kind").run Tryd.prog w = .ok (118, .pointer a) w := by kernel_rfl
theorem count91 (a : Option Addr) (w : World) : (method 267 96 (.pointer a) "Count").run Tryd.prog w = .ok (117, .pointer a) w := by kernel_rfl
theorem kind100 (a : Option Addr) (w : World) : (method 267 100 (.pointer a) "Kind").run Tryd.prog w = .ok (120, .pointer a) w := by kernel_rfl
theorem count100 (a : Option Addr) (w : World) : (method 267 100 (.pointer a) "Count").run Tryd.prog w = .ok (119, .pointer a) w := by kernel_rfl
theorem eq_some (t : TypeId) (v : Value) (w : World) : (binOp .eql 41 (.iface t v) .nilIface).run Tryd.prog w = .ok (.bool false) w := by kernel_rfl
theorem ne_some (t : TypeId) (v : Value) (w : World) : (binOp .neq 41 (.iface t v) .nilIface).run Tryd.prog w = .ok (.bool true) w := by kernel_rfl
theorem eq_none (w : World) : (binOp .eql 41 .nilIface .nilIface).run Tryd.prog w = .ok (.bool true) w := by kernel_rfl
theorem ne_none (w : World) : (binOp .neq 41 .nilIface .nilIface).run Tryd.prog w = .ok (.bool false) w := by kernel_rfl
theorem made84 (p : Value) (w : World) : Calls Tryd.prog 73 #[.iface 90 p] w fun e w' => e = .returned (.bool true) ∧ w = w' := by
  have h1 := ta84_84 p
  have h2 := ta91_84 p
  have h3 := ta100_84 p
  go_enter Tryd.func73, Tryd.ntmps73
  go_wp2
  go_ret
  exact ⟨rfl, rfl⟩
theorem made91 (p : Value) (w : World) : Calls Tryd.prog 73 #[.iface 96 p] w fun e w' => e = .returned (.bool true) ∧ w = w' := by
  have h1 := ta84_91 p
  have h2 := ta91_91 p
  have h3 := ta100_91 p
  go_enter Tryd.func73, Tryd.ntmps73
  go_wp2
  go_ret
  exact ⟨rfl, rfl⟩
theorem made100 (p : Value) (w : World) : Calls Tryd.prog 73 #[.iface 100 p] w fun e w' => e = .returned (.bool true) ∧ w = w' := by
  have h1 := ta84_100 p
  have h2 := ta91_100 p
  have h3 := ta100_100 p
  go_enter Tryd.func73, Tryd.ntmps73
  go_wp2
  go_ret
  exact ⟨rfl, rfl⟩
theorem made_nil (w : World) : Calls Tryd.prog 73 #[.nilIface] w fun e w' => e = .returned (.bool false) ∧ w = w' := by
  have h1 := ta84_nil
  have h2 := ta91_nil
  have h3 := ta100_nil
  go_enter Tryd.func73, Tryd.ntmps73
  go_wp2
  go_ret
  exact ⟨rfl, rfl⟩
theorem made_any {F : Nat → Prop} {w : World} {x : Nd} {v : Value} (h : Nde F w x v) : Calls Tryd.prog 73 #[v] w fun e w' => e = .returned (.bool (x.kind != 0)) ∧ w = w' := by
  cases x with
  | none => obtain rfl : v = .nilIface := h; exact made_nil w
  | leaf h' p => obtain ⟨b, _, _, _, _, rfl, _⟩ := h; exact made84 _ w
  | buck h' L => obtain ⟨b, _, _, rfl, _⟩ := h; exact made91 _ w
  | bran m k kid => obtain ⟨b, _, _, rfl, _⟩ := h; exact made100 _ w
theorem kindOf84 (a : Option Addr) (w : World) : Calls Tryd.prog 116 #[.pointer a] w fun e w' => e = .returned (.int .i64 1) ∧ w = w' := by
  go_enter Tryd.func116, Tryd.ntmps116
  go_wp2
  go_ret
  exact ⟨rfl, rfl⟩
theorem kindOf91 (a : Option Addr) (w : World) : Calls Tryd.prog 118 #[.pointer a] w fun e w' => e = .returned (.int .i64 2) ∧ w = w' := by
  go_enter Tryd.func118, Tryd.ntmps118
  go_wp2
  go_ret
  exact ⟨rfl, rfl⟩
theorem kindOf100 (a : Option Addr) (w : World) : Calls Tryd.prog 120 #[.pointer a] w fun e w' => e = .returned (.int .i64 3) ∧ w = w' := by
  go_enter Tryd.func120, Tryd.ntmps120
  go_wp2
  go_ret
  exact ⟨rfl, rfl⟩
theorem countOf84 (a : Option Addr) (w : World) : Calls Tryd.prog 115 #[.pointer a] w fun e w' => e = .returned (.int .i64 1) ∧ w = w' := by
  go_enter Tryd.func115, Tryd.ntmps115
  go_wp2
  go_ret
  exact ⟨rfl, rfl⟩
theorem row_cell {w : World} {b i : Nat} {cs : Array Value} {t : TypeId} {v : Value} (h : w.heap[b]? = some (.cells cs t (0, 0))) (hi : cs[i]? = some v) : w.cell? ⟨b, i, none⟩ = some v := by
  rw [cell_of_row w b i cs t (0, 0) h]; exact hi
theorem countOf91 {F : Nat → Prop} {w : World} {b h : Nat} {p : Option Addr} {t : Tr} (hr : w.heap[b]? = some (.cells #[.int .u64 (h : Int), .pointer p] 98 (0, 0))) (ht : Tre F w t p) (hs : t.size ≤ 10000) :
    Calls Tryd.prog 117 #[.pointer (some ⟨b, 0, none⟩)] w fun e w' => e = .returned (.int .i64 (t.size : Int)) ∧ w = w' := by
  have c1 := row_cell (i := 1) hr rfl
  have H := Lib.hid (size_any ht hs)
  clear ht hs
  go_enter Tryd.func117, Tryd.ntmps117
  go_wp2_with fail
  refine H.out.mono ?_
  rintro e w' ⟨rfl, rfl⟩
  go_wp2_with fail
  go_ret
  exact ⟨rfl, rfl⟩
theorem countOf100 {w : World} {b n k c m : Nat} {g : Option Addr} (hr : w.heap[b]? = some (.cells #[.int .u32 (m : Int), .slice g k c, .int .i64 (n : Int)] 103 (0, 0))) :
    Calls Tryd.prog 119 #[.pointer (some ⟨b, 0, none⟩)] w fun e w' => e = .returned (.int .i64 (n : Int)) ∧ w = w' := by
  have c2 := row_cell (i := 2) hr rfl
  go_enter Tryd.func119, Tryd.ntmps119
  go_wp2
  go_ret
  exact ⟨rfl, rfl⟩
theorem sum_any (a b : Nat) (w : World) (ha : a + b ≤ 4611686018427387904) : Calls Tryd.prog 74 #[.int .i64 (a : Int), .int .i64 (b : Int)] w fun e w' => e = .returned (.int .i64 ((a + b : Nat) : Int)) ∧ w = w' := by
  have d : decide ((a : Int) > 9223372036854775807 - (b : Int)) = false := decide_eq_false (by omega)
  go_enter Tryd.func74, Tryd.ntmps74
  go_wp2
  go_ret
  exact ⟨ret_int (by omega), rfl⟩
end Go.Proofs.YtngfbkkfnooobaaDoor
