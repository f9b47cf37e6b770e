/-
  What a node is: contracts of the methods, of what asks for a kind, and of what tells a node's parts.
-/
import Derived.Test.YtfhnmmiakknilaaNodes
namespace Go.Proofs.Ytfhnmmiakknilaa
open Go.RowKit
set_option maxHeartbeats 400000
set_option maxRecDepth 100000
theorem ta84_84 (v : Value) (w : World) : (Instr.typeAssert (.iface 84 v) 26 84 true).run Try.prog w = .ok (.tuple #[v, .bool true]) w := by kernel_rfl
theorem ta84_91 (v : Value) (w : World) : (Instr.typeAssert (.iface 91 v) 26 84 true).run Try.prog w = .ok (.tuple #[.pointer none, .bool false]) w := by kernel_rfl
theorem ta84_100 (v : Value) (w : World) : (Instr.typeAssert (.iface 100 v) 26 84 true).run Try.prog w = .ok (.tuple #[.pointer none, .bool false]) w := by kernel_rfl
theorem ta84_nil (w : World) : (Instr.typeAssert .nilIface 26 84 true).run Try.prog w = .ok (.tuple #[.pointer none, .bool false]) w := by kernel_rfl
theorem ta91_84 (v : Value) (w : World) : (Instr.typeAssert (.iface 84 v) 26 91 true).run Try.prog w = .ok (.tuple #[.pointer none, .bool false]) w := by kernel_rfl
theorem ta91_91 (v : Value) (w : World) : (Instr.typeAssert (.iface 91 v) 26 91 true).run Try.prog w = .ok (.tuple #[v, .bool true]) w := by kernel_rfl
theorem ta91_100 (v : Value) (w : World) : (Instr.typeAssert (.iface 100 v) 26 91 true).run Try.prog w = .ok (.tuple #[.pointer none, .bool false]) w := by kernel_rfl
theorem ta91_nil (w : World) : (Instr.typeAssert .nilIface 26 91 true).run Try.prog w = .ok (.tuple #[.pointer none, .bool false]) w := by kernel_rfl
theorem ta100_84 (v : Value) (w : World) : (Instr.typeAssert (.iface 84 v) 26 100 true).run Try.prog w = .ok (.tuple #[.pointer none, .bool false]) w := by kernel_rfl
theorem ta100_91 (v : Value) (w : World) : (Instr.typeAssert (.iface 91 v) 26 100 true).run Try.prog w = .ok (.tuple #[.pointer none, .bool false]) w := by kernel_rfl
theorem ta100_100 (v : Value) (w : World) : (Instr.typeAssert (.iface 100 v) 26 100 true).run Try.prog w = .ok (.tuple #[v, .bool true]) w := by kernel_rfl
theorem ta100_nil (w : World) : (Instr.typeAssert .nilIface 26 100 true).run Try.prog w = .ok (.tuple #[.pointer none, .bool false]) w := by kernel_rfl
theorem kind84 (a : Option Addr) (w : World) : (method 260 84 (.pointer a) "Kind").run Try.prog w = .ok (113, .pointer a) w := by kernel_rfl
theorem count84 (a : Option Addr) (w : World) : (method 260 84 (.pointer a) "Count").run Try.prog w = .ok (112, .pointer a) w := by kernel_rfl
theorem kind91 (a : Option Addr) (w : World) : (method 260 91 (.pointer a) "Kind").run Try.prog w = .ok (115, .pointer a) w := by kernel_rfl
theorem count91 (a : Option Addr) (w : World) : (method 260 91 (.pointer a) "Count").run Try.prog w = .ok (114, .pointer a) w := by kernel_rfl
theorem kind100 (a : Option Addr) (w : World) : (method 260 100 (.pointer a) "Kind").run Try.prog w = .ok (117, .pointer a) w := by kernel_rfl
theorem count100 (a : Option Addr) (w : World) : (method 260 100 (.pointer a) "Count").run Try.prog w = .ok (116, .pointer a) w := by kernel_rfl
theorem eq_some (t : TypeId) (v : Value) (w : World) : (binOp .eql 26 (.iface t v) .nilIface).run Try.prog w = .ok (.bool false) w := by kernel_rfl
theorem ne_some (t : TypeId) (v : Value) (w : World) : (binOp .neq 26 (.iface t v) .nilIface).run Try.prog w = .ok (.bool true) w := by kernel_rfl
theorem eq_none (w : World) : (binOp .eql 26 .nilIface .nilIface).run Try.prog w = .ok (.bool true) w := by kernel_rfl
theorem ne_none (w : World) : (binOp .neq 26 .nilIface .nilIface).run Try.prog w = .ok (.bool false) w := by kernel_rfl
theorem made84 (p : Value) (w : World) : Calls Try.prog 34 #[.iface 84 p] w fun e w' => e = .returned (.bool true) ∧ w = w' := by
  have h1 := ta84_84 p
  have h2 := ta91_84 p
  have h3 := ta100_84 p
  go_enter Try.func34, Try.ntmps34
  go_wp2
  go_ret
  exact ⟨rfl, rfl⟩
theorem made91 (p : Value) (w : World) : Calls Try.prog 34 #[.iface 91 p] w fun e w' => e = .returned (.bool true) ∧ w = w' := by
  have h1 := ta84_91 p
  have h2 := ta91_91 p
  have h3 := ta100_91 p
  go_enter Try.func34, Try.ntmps34
  go_wp2
  go_ret
  exact ⟨rfl, rfl⟩
theorem made100 (p : Value) (w : World) : Calls Try.prog 34 #[.iface 100 p] w fun e w' => e = .returned (.bool true) ∧ w = w' := by
  have h1 := ta84_100 p
  have h2 := ta91_100 p
  have h3 := ta100_100 p
  go_enter Try.func34, Try.ntmps34
  go_wp2
  go_ret
  exact ⟨rfl, rfl⟩
theorem made_nil (w : World) : Calls Try.prog 34 #[.nilIface] w fun e w' => e = .returned (.bool false) ∧ w = w' := by
  have h1 := ta84_nil
  have h2 := ta91_nil
  have h3 := ta100_nil
  go_enter Try.func34, Try.ntmps34
  go_wp2
  go_ret
  exact ⟨rfl, rfl⟩
theorem made_any {F : Nat → Prop} {w : World} {x : Nd} {v : Value} (h : Nde F w x v) : Calls Try.prog 34 #[v] w fun e w' => e = .returned (.bool (x.kind != 0)) ∧ w = w' := by
  cases x with
  | none => obtain rfl : v = .nilIface := h; exact made_nil w
  | leaf h' p => obtain ⟨b, _, _, _, _, rfl, _⟩ := h; exact made84 _ w
  | buck h' L => obtain ⟨b, _, _, rfl, _⟩ := h; exact made91 _ w
  | bran m k kid => obtain ⟨b, _, _, rfl, _⟩ := h; exact made100 _ w
theorem kindOf84 (a : Option Addr) (w : World) : Calls Try.prog 113 #[.pointer a] w fun e w' => e = .returned (.int .i64 1) ∧ w = w' := by
  go_enter Try.func113, Try.ntmps113
  go_wp2
  go_ret
  exact ⟨rfl, rfl⟩
theorem kindOf91 (a : Option Addr) (w : World) : Calls Try.prog 115 #[.pointer a] w fun e w' => e = .returned (.int .i64 2) ∧ w = w' := by
  go_enter Try.func115, Try.ntmps115
  go_wp2
  go_ret
  exact ⟨rfl, rfl⟩
theorem kindOf100 (a : Option Addr) (w : World) : Calls Try.prog 117 #[.pointer a] w fun e w' => e = .returned (.int .i64 3) ∧ w = w' := by
  go_enter Try.func117, Try.ntmps117
  go_wp2
  go_ret
  exact ⟨rfl, rfl⟩
theorem countOf84 (a : Option Addr) (w : World) : Calls Try.prog 112 #[.pointer a] w fun e w' => e = .returned (.int .i64 1) ∧ w = w' := by
  go_enter Try.func112, Try.ntmps112
  go_wp2
  go_ret
  exact ⟨rfl, rfl⟩
theorem row_cell {w : World} {b i : Nat} {cs : Array Value} {t : TypeId} {v : Value} (h : w.heap[b]? = some (.cells cs t (0, 0))) (hi : cs[i]? = some v) : w.cell? ⟨b, i, none⟩ = some v := by
  rw [cell_of_row w b i cs t (0, 0) h]; exact hi
theorem countOf91 {F : Nat → Prop} {w : World} {b h : Nat} {p : Option Addr} {t : Tr} (hr : w.heap[b]? = some (.cells #[.int .u64 (h : Int), .pointer p] 93 (0, 0))) (ht : Tre F w t p) (hs : t.size ≤ 10000) :
    Calls Try.prog 114 #[.pointer (some ⟨b, 0, none⟩)] w fun e w' => e = .returned (.int .i64 (t.size : Int)) ∧ w = w' := by
  have c1 := row_cell (i := 1) hr rfl
  have H := Lib.hid (size_any ht hs)
  clear ht hs
  go_enter Try.func114, Try.ntmps114
  go_wp2_with fail
  refine H.out.mono ?_
  rintro e w' ⟨rfl, rfl⟩
  go_wp2_with fail
  go_ret
  exact ⟨rfl, rfl⟩
theorem countOf100 {w : World} {b n k c m : Nat} {g : Option Addr} (hr : w.heap[b]? = some (.cells #[.int .u32 (m : Int), .slice g k c, .int .i64 (n : Int)] 103 (0, 0))) :
    Calls Try.prog 116 #[.pointer (some ⟨b, 0, none⟩)] w fun e w' => e = .returned (.int .i64 (n : Int)) ∧ w = w' := by
  have c2 := row_cell (i := 2) hr rfl
  go_enter Try.func116, Try.ntmps116
  go_wp2
  go_ret
  exact ⟨rfl, rfl⟩
theorem sum_any (a b : Nat) (w : World) (ha : a + b ≤ 4611686018427387904) : Calls Try.prog 48 #[.int .i64 (a : Int), .int .i64 (b : Int)] w fun e w' => e = .returned (.int .i64 ((a + b : Nat) : Int)) ∧ w = w' := by
  have d : decide ((a : Int) > 9223372036854775807 - (b : Int)) = false := decide_eq_false (by omega)
  go_enter Try.func48, Try.ntmps48
  go_wp2
  go_ret
  exact ⟨ret_int (by omega), rfl⟩
end Go.Proofs.Ytfhnmmiakknilaa
