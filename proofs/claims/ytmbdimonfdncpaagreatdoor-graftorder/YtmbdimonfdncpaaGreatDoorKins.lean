/-
  What a node is: contracts of the methods, of what asks for a kind, and of what tells a node's parts.
-/
import Derived.Test.YtmbdimonfdncpaaGreatDoorNods
namespace Go.Proofs.YtmbdimonfdncpaaGreatDoor
open Go.RowKit
set_option maxHeartbeats 400000
set_option maxRecDepth 100000
theorem ta84_84 (v : Value) (w : World) : (Instr.typeAssert (.iface 105 v) 34 105 true).run Tryz.prog w = .ok (.tuple #[v, .bool true]) w := by kernel_rfl
theorem ta84_91 (v : Value) (w : World) : (Instr.typeAssert (.iface 110 v) 34 105 true).run Tryz.prog w = .ok (.tuple #[.pointer none, .bool false]) w := by kernel_rfl
theorem ta84_100 (v : Value) (w : World) : (Instr.typeAssert (.iface 113 v) 34 105 true).run Tryz.prog w = .ok (.tuple #[.pointer none, .bool false]) w := by kernel_rfl
theorem ta84_nil (w : World) : (Instr.typeAssert .nilIface 34 105 true).run Tryz.prog w = .ok (.tuple #[.pointer none, .bool false]) w := by kernel_rfl
theorem ta91_84 (v : Value) (w : World) : (Instr.typeAssert (.iface 105 v) 34 110 true).run Tryz.prog w = .ok (.tuple #[.pointer none, .bool false]) w := by kernel_rfl
theorem ta91_91 (v : Value) (w : World) : (Instr.typeAssert (.iface 110 v) 34 110 true).run Tryz.prog w = .ok (.tuple #[v, .bool true]) w := by kernel_rfl
theorem ta91_100 (v : Value) (w : World) : (Instr.typeAssert (.iface 113 v) 34 110 true).run Tryz.prog w = .ok (.tuple #[.pointer none, .bool false]) w := by kernel_rfl
theorem ta91_nil (w : World) : (Instr.typeAssert .nilIface 34 110 true).run Tryz.prog w = .ok (.tuple #[.pointer none, .bool false]) w := by kernel_rfl
theorem ta100_84 (v : Value) (w : World) : (Instr.typeAssert (.iface 105 v) 34 113 true).run Tryz.prog w = .ok (.tuple #[.pointer none, .bool false]) w := by kernel_rfl
theorem ta100_91 (v : Value) (w : World) : (Instr.typeAssert (.iface 110 v) 34 113 true).run Tryz.prog w = .ok (.tuple #[.pointer none, .bool false]) w := by kernel_rfl
theorem ta100_100 (v : Value) (w : World) : (Instr.typeAssert (.iface 113 v) 34 113 true).run Tryz.prog w = .ok (.tuple #[v, .bool true]) w := by kernel_rfl
theorem ta100_nil (w : World) : (Instr.typeAssert .nilIface 34 113 true).run Tryz.prog w = .ok (.tuple #[.pointer none, .bool false]) w := by kernel_rfl
theorem kind84 (a : Option Addr) (w : World) : (method 269 105 (.pointer a) "Kind").run Tryz.prog w = .ok (123, .pointer a) w := by kernel_rfl
theorem count84 (a : Option Addr) (w : World) : (method 269 105 (.pointer a) "Count").run Tryz.prog w = .ok (122, .pointer a) w := by kernel_rfl
theorem kind91 (a : Option Addr) (w : World) : (method 269 110 (.pointer a) "Kind").run Tryz.prog w = .ok (125, .pointer a) w := by kernel_rfl
theorem count91 (a : Option Addr) (w : World) : (method 269 110 (.pointer a) "Count").run Tryz.prog w = .ok (124, .pointer a) w := by kernel_rfl
theorem kind100 (a : Option Addr) (w : World) : (method 269 113 (.pointer a) "Kind").run Tryz.prog w = .ok (127, .pointer a) w := by kernel_rfl
theorem count100 (a : Option Addr) (w : World) : (method 269 113 (.pointer a) "Count").run Tryz.prog w = .ok (126, .pointer a) w := by kernel_rfl
theorem eq_some (t : TypeId) (v : Value) (w : World) : (binOp .eql 34 (.iface t v) .nilIface).run Tryz.prog w = .ok (.bool false) w := by kernel_rfl
theorem ne_some (t : TypeId) (v : Value) (w : World) : (binOp .neq 34 (.iface t v) .nilIface).run Tryz.prog w = .ok (.bool true) w := by kernel_rfl
theorem eq_none (w : World) : (binOp .eql 34 .nilIface .nilIface).run Tryz.prog w = .ok (.bool true) w := by kernel_rfl
theorem ne_none (w : World) : (binOp .neq 34 .nilIface .nilIface).run Tryz.prog w = .ok (.bool false) w := by kernel_rfl
theorem made84 (p : Value) (w : World) : Calls Tryz.prog 74 #[.iface 105 p] w fun e w' => e = .returned (.bool true) ∧ w = w' := by
  have h1 := ta84_84 p
  have h2 := ta91_84 p
  have h3 := ta100_84 p
  go_enter Tryz.func74, Tryz.ntmps74
  go_wp2
  go_ret
  exact ⟨rfl, rfl⟩
theorem made91 (p : Value) (w : World) : Calls Tryz.prog 74 #[.iface 110 p] w fun e w' => e = .returned (.bool true) ∧ w = w' := by
  have h1 := ta84_91 p
  have h2 := ta91_91 p
  have h3 := ta100_91 p
  go_enter Tryz.func74, Tryz.ntmps74
  go_wp2
  go_ret
  exact ⟨rfl, rfl⟩
theorem made100 (p : Value) (w : World) : Calls Tryz.prog 74 #[.iface 113 p] w fun e w' => e = .returned (.bool true) ∧ w = w' := by
  have h1 := ta84_100 p
  have h2 := ta91_100 p
  have h3 := ta100_100 p
  go_enter Tryz.func74, Tryz.ntmps74
  go_wp2
  go_ret
  exact ⟨rfl, rfl⟩
theorem made_nil (w : World) : Calls Tryz.prog 74 #[.nilIface] w fun e w' => e = .returned (.bool false) ∧ w = w' := by
  have h1 := ta84_nil
  have h2 := ta91_nil
  have h3 := ta100_nil
  go_enter Tryz.func74, Tryz.ntmps74
  go_wp2
  go_ret
  exact ⟨rfl, rfl⟩
theorem made_any {F : Nat → Prop} {w : World} {x : Nd} {v : Value} (h : Nde F w x v) : Calls Tryz.prog 74 #[v] w fun e w' => e = .returned (.bool (x.kind != 0)) ∧ w = w' := by
  cases x with
  | none => obtain rfl : v = .nilIface := h; exact made_nil w
  | leaf h' p => obtain ⟨b, _, _, _, _, rfl, _⟩ := h; exact made84 _ w
  | buck h' L => obtain ⟨b, _, _, rfl, _⟩ := h; exact made91 _ w
  | bran m k kid => obtain ⟨b, _, _, rfl, _⟩ := h; exact made100 _ w
theorem kindOf84 (a : Option Addr) (w : World) : Calls Tryz.prog 123 #[.pointer a] w fun e w' => e = .returned (.int .i64 1) ∧ w = w' := by
  go_enter Tryz.func123, Tryz.ntmps123
  go_wp2
  go_ret
  exact ⟨rfl, rfl⟩
theorem kindOf91 (a : Option Addr) (w : World) : Calls Tryz.prog 125 #[.pointer a] w fun e w' => e = .returned (.int .i64 2) ∧ w = w' := by
  go_enter Tryz.func125, Tryz.ntmps125
  go_wp2
  go_ret
  exact ⟨rfl, rfl⟩
theorem kindOf100 (a : Option Addr) (w : World) : Calls Tryz.prog 127 #[.pointer a] w fun e w' => e = .returned (.int .i64 3) ∧ w = w' := by
  go_enter Tryz.func127, Tryz.ntmps127
  go_wp2
  go_ret
  exact ⟨rfl, rfl⟩
theorem countOf84 (a : Option Addr) (w : World) : Calls Tryz.prog 122 #[.pointer a] w fun e w' => e = .returned (.int .i64 1) ∧ w = w' := by
  go_enter Tryz.func122, Tryz.ntmps122
  go_wp2
  go_ret
  exact ⟨rfl, rfl⟩
theorem row_cell {w : World} {b i : Nat} {cs : Array Value} {t : TypeId} {v : Value} (h : w.heap[b]? = some (.cells cs t (0, 0))) (hi : cs[i]? = some v) : w.cell? ⟨b, i, none⟩ = some v := by
  rw [cell_of_row w b i cs t (0, 0) h]; exact hi
theorem countOf91 {F : Nat → Prop} {w : World} {b h : Nat} {p : Option Addr} {t : Tr} (hr : w.heap[b]? = some (.cells #[.int .u64 (h : Int), .pointer p] 112 (0, 0))) (ht : Tre F w t p) (hs : t.size ≤ 10000) :
    Calls Tryz.prog 124 #[.pointer (some ⟨b, 0, none⟩)] w fun e w' => e = .returned (.int .i64 (t.size : Int)) ∧ w = w' := by
  have c1 := row_cell (i := 1) hr rfl
  have H := Lib.hid (size_any ht hs)
  clear ht hs
  go_enter Tryz.func124, Tryz.ntmps124
  go_wp2_with fail
  refine H.out.mono ?_
  rintro e w' ⟨rfl, rfl⟩
  go_wp2_with fail
  go_ret
  exact ⟨rfl, rfl⟩
theorem countOf100 {w : World} {b n k c m : Nat} {g : Option Addr} (hr : w.heap[b]? = some (.cells #[.int .u32 (m : Int), .slice g k c, .int .i64 (n : Int)] 116 (0, 0))) :
    Calls Tryz.prog 126 #[.pointer (some ⟨b, 0, none⟩)] w fun e w' => e = .returned (.int .i64 (n : Int)) ∧ w = w' := by
  have c2 := row_cell (i := 2) hr rfl
  go_enter Tryz.func126, Tryz.ntmps126
  go_wp2
  go_ret
  exact ⟨rfl, rfl⟩
theorem sum_any (a b : Nat) (w : World) (ha : a + b ≤ 4611686018427387904) : Calls Tryz.prog 75 #[.int .i64 (a : Int), .int .i64 (b : Int)] w fun e w' => e = .returned (.int .i64 ((a + b : Nat) : Int)) ∧ w = w' := by
  have d : decide ((a : Int) > 9223372036854775807 - (b : Int)) = false := decide_eq_false (by omega)
  go_enter Tryz.func75, Tryz.ntmps75
  go_wp2
  go_ret
  exact ⟨ret_int (by omega), rfl⟩
end Go.Proofs.YtmbdimonfdncpaaGreatDoor
/-
  Contracts of owned, Leaf, Bucket.
-/
namespace Go.Proofs.YtmbdimonfdncpaaGreatDoor
open Go.RowKit
set_option maxHeartbeats 4000000
set_option maxRecDepth 100000
theorem pcs_one {w : World} {g : Nat} {ka va : Option Addr} {q : Pr} {kc vc : Nat} (hr : w.heap[g]? = some (.cells #[.slice ka q.1.length kc, .slice va q.2.length vc] 29 (0, 0))) (hk : Bts w ka q.1) (hv : Bts w va q.2) : Pcs w (some ⟨g, 0, none⟩) [q] := by
  refine .inr ⟨g, 0, rfl, (Array.getElem?_eq_some_iff.1 hr).1, fun i hi => ?_⟩
  obtain rfl : i = 0 := by simpa using hi
  exact ⟨ka, kc, va, vc, row_cell hr rfl, row_cell hr rfl, hk, hv⟩
theorem owned_any {w : World} {ka va : Option Addr} {q : Pr} (kc vc : Nat) (hk : Bts w ka q.1) (hv : Bts w va q.2) (hn : q.1.length ≤ 100000 ∧ q.2.length ≤ 100000) :
    Calls Tryz.prog 54 #[.agg #[.slice ka q.1.length kc, .slice va q.2.length vc]] w fun e w' => ∃ g1 g2, e = .returned (.agg #[.slice (some ⟨g1, 0, none⟩) q.1.length q.1.length, .slice (some ⟨g2, 0, none⟩) q.2.length q.2.length]) ∧ NewRow w.heap.size w' g1 q.1 ∧ NewRow w.heap.size w' g2 q.2 ∧ Below w.heap.size w w' := by
  obtain ⟨g, hg⟩ : ∃ g, g = w.heap.size := ⟨_, rfl⟩
  obtain ⟨w1, hw1⟩ : ∃ w1, w1 = ((w.alloc (.cells #[.slice ka q.1.length kc, .slice va q.2.length vc] 29)).alloc (.cells #[.slice none 0 0, .slice none 0 0] 29)).alloc (.cells #[.slice ka q.1.length kc, .slice va q.2.length vc] 29) := ⟨_, rfl⟩
  have hb1 : Below w.heap.size w w1 := by rw [hw1]; exact (((Below.refl _ _).alloc (Nat.le_refl _) _).alloc (by simp) _).alloc (by simp; omega) _
  have hsz : w1.heap.size = g + 3 := by rw [hw1, hg]; simp
  have r2 : w1.heap[g + 2]? = some (.cells #[.slice ka q.1.length kc, .slice va q.2.length vc] 29 (0, 0)) := by
    have := heap_alloc_new ((w.alloc (.cells #[.slice ka q.1.length kc, .slice va q.2.length vc] 29)).alloc (.cells #[.slice none 0 0, .slice none 0 0] 29)) (.cells #[.slice ka q.1.length kc, .slice va q.2.length vc] 29)
    rw [hw1, hg]
    simpa using this
  have r1 : w1.heap[g + 1]? = some (.cells #[.slice none 0 0, .slice none 0 0] 29 (0, 0)) := by
    have := heap_alloc_new (w.alloc (.cells #[.slice ka q.1.length kc, .slice va q.2.length vc] 29)) (.cells #[.slice none 0 0, .slice none 0 0] 29)
    rw [hw1, hg, Below.heap_alloc _ _ _ (by simp)]
    simpa using this
  have own := own_any (pcs_one r2 (hk.below hb1) (hv.below hb1)) 1 (by simp) (by simpa using hn)
  obtain ⟨x, hx⟩ : ∃ x : Nat, x = q.1.length := ⟨_, rfl⟩
  obtain ⟨y, hy⟩ : ∃ y : Nat, y = q.2.length := ⟨_, rfl⟩
  simp only [← hx, ← hy, List.length_cons, List.length_nil, Nat.zero_add] at hw1 own ⊢
  have OWN := Lib.hid own; clear own
  have HW := Lib.hid hw1; clear hw1
  have HB := Lib.hid hb1; clear hb1
  have HSZ := Lib.hid hsz; clear hsz
  have R1 := Lib.hid r1; clear r1
  have HX := Lib.hid hx; clear hx
  have HY := Lib.hid hy; clear hy
  have HG := Lib.hid hg; clear hg
  clear r2 hk hv hn
  have c0 : ∀ a b : Value, (w.alloc (.cells #[a, b] 29)).heap[w.heap.size]? = some (.cells #[a, b] 29 (0, 0)) := fun a b => heap_alloc_new w _
  go_enter Tryz.func54, Tryz.ntmps54
  go_wp2_with fail
  simp only [← HG.out] at HW ⊢
  rw [← HW.out]
  refine OWN.out.mono ?_
  rintro e w2 ⟨rfl, hn, hb⟩
  obtain ⟨hgl, cur, hcur, hsz, hat⟩ := hn
  obtain ⟨kb, vb, k0, k1, k2, k3⟩ := hat 0 (by simp)
  simp only [Nat.zero_mul, Nat.zero_add] at k0 k1
  have d0 := row_cell hcur k0
  have d1 := row_cell hcur k1
  have q1 := (hb.block (g + 1) (by have := HSZ.out; omega)).trans R1.out
  obtain ⟨e0, e1, f0, f1⟩ := row2 q1
  have e2 : ([q][0]'(by simp)).1.length = x := HX.out.symm
  have e3 : ([q][0]'(by simp)).2.length = y := HY.out.symm
  rw [e2] at d0
  rw [e3] at d1
  have HS := Lib.hid (set2 q1 (.slice (some ⟨kb, 0, none⟩) x x) (.slice (some ⟨vb, 0, none⟩) y y))
  have HB2 := Lib.hid (below_set2 (w := w2) (g := g + 1) (B := w.heap.size) (.slice (some ⟨kb, 0, none⟩) x x) (.slice (some ⟨vb, 0, none⟩) y y) (by have := HG.out; omega))
  have K2 := Lib.hid k2; clear k2
  have K3 := Lib.hid k3; clear k3
  have HB3 := Lib.hid hb; clear hb
  clear hcur hsz hat k0 k1 q1 e2 e3 hgl
  go_wp2_with fail
  refine bodyPost_ret (results_cell_row rfl _ _ (g + 1) 29 _ (0, 0) _ rfl HS.out.1 Tryz.underlying29 rfl (by kernel_rfl)) rfl ?_
  have a0 := HG.out
  have a1 := K2.out.1
  have a2 := K3.out.1
  have a3 := HSZ.out
  refine ⟨kb, vb, rfl, ⟨by omega, (HS.out.2 kb (by omega)).trans K2.out.2⟩, ⟨by omega, (HS.out.2 vb (by omega)).trans K3.out.2⟩, ?_⟩
  exact (below_then HB.out HB3.out).trans HB2.out
theorem leaf_any {F : Nat → Prop} {w : World} {ka va : Option Addr} {q : Pr} (h : Nat) (kc vc : Nat) (hF : Fut F w) (hk : Bts w ka q.1) (hv : Bts w va q.2) (hn : q.1.length ≤ 100000 ∧ q.2.length ≤ 100000) :
    Calls Tryz.prog 53 #[.int .u64 (h : Int), .agg #[.slice ka q.1.length kc, .slice va q.2.length vc]] w fun e w' => ∃ v, e = .returned v ∧ Nde F w' (.leaf h q) v ∧ Below w.heap.size w w' := by
  obtain ⟨w1, hw1⟩ : ∃ w1, w1 = w.alloc (.cells #[.slice ka q.1.length kc, .slice va q.2.length vc] 29) := ⟨_, rfl⟩
  have hb1 : Below w.heap.size w w1 := by rw [hw1]; exact (Below.refl _ _).alloc (Nat.le_refl _) _
  have ho := owned_any kc vc (hk.below hb1) (hv.below hb1) hn
  have hF1 := hF.later hb1.size
  obtain ⟨x, hx⟩ : ∃ x : Nat, x = q.1.length := ⟨_, rfl⟩
  obtain ⟨y, hy⟩ : ∃ y : Nat, y = q.2.length := ⟨_, rfl⟩
  simp only [← hx, ← hy] at hw1 ho ⊢
  have HO := Lib.hid ho; clear ho
  have HW := Lib.hid hw1; clear hw1
  have HB := Lib.hid hb1; clear hb1
  have HX := Lib.hid hx; clear hx
  have HY := Lib.hid hy; clear hy
  have HF := Lib.hid hF1; clear hF1 hF
  clear hk hv hn
  go_enter Tryz.func53, Tryz.ntmps53
  go_wp2_with fail
  rw [← HW.out]
  refine HO.out.mono ?_
  rintro e w2 ⟨g1, g2, rfl, h1, h2, hb⟩
  have H1 := Lib.hid h1; clear h1
  have H2 := Lib.hid h2; clear h2
  have HB2 := Lib.hid hb; clear hb
  go_wp2_with fail
  go_ret
  have hb3 : Below w2.heap.size w2 (w2.alloc (.cells #[.int .u64 (h : Int), .slice (some ⟨g1, 0, none⟩) x x, .slice (some ⟨g2, 0, none⟩) y y] 109)) := (Below.refl _ _).alloc (Nat.le_refl _) _
  refine ⟨_, rfl, ⟨w2.heap.size, some ⟨g1, 0, none⟩, x, some ⟨g2, 0, none⟩, y, rfl, HF.out _ (by have := HB2.out.size; omega), ?_, ?_, ?_⟩, below_then (below_then HB.out HB2.out) hb3⟩
  · rw [← HX.out, ← HY.out]
    exact heap_alloc_new w2 _
  · exact (byt_new H1.out HF.out).below hb3
  · exact (byt_new H2.out HF.out).below hb3
theorem bucket_any {F : Nat → Prop} {w : World} {t : Tr} {p : Option Addr} (h : Nat) (hF : Fut F w) (ht : Tre F w t p) (he : t.even) (hs : t.size ≤ 800) (hf : Fits t.list) :
    Calls Tryz.prog 48 #[.int .u64 (h : Int), .pointer p] w fun e w' => ∃ v, e = .returned v ∧ Nde F w' (if t.list.length = 0 then .none else if t.list.length = 1 then .leaf h (t.list.getD 0 ([], [])) else .buck h t.list) v ∧ Below w.heap.size w w' := by
  have hl : t.list.length = t.size := Tr.length t
  rw [hl]
  have hsz := size_any ht (by omega)
  obtain ⟨n, hn⟩ : ∃ n, n = t.size := ⟨_, rfl⟩
  rw [← hn] at hsz ⊢
  have HSZ := Lib.hid hsz; clear hsz
  rcases Nat.lt_or_ge n 1 with h0 | h0
  · obtain rfl : n = 0 := by omega
    rw [if_pos rfl]
    clear ht he hs hf hl hn
    go_enter Tryz.func48, Tryz.ntmps48
    go_wp2_with fail
    refine HSZ.out.mono ?_
    rintro e w' ⟨rfl, rfl⟩
    go_wp2_with fail
    go_ret
    exact ⟨_, rfl, rfl, Below.refl _ _⟩
  · rcases Nat.lt_or_ge n 2 with h1 | h1
    · obtain rfl : n = 1 := by omega
      cases t with
      | nil => cases hn
      | node l q r =>
        have el : l = .nil ∧ r = .nil := by
          have e1 : l.size + r.size = 0 := by simp only [Tr.size] at hn; omega
          constructor
          · cases l with
            | nil => rfl
            | node _ _ _ => simp only [Tr.size] at e1; omega
          · cases r with
            | nil => rfl
            | node _ _ _ => simp only [Tr.size] at e1; omega
        obtain ⟨rfl, rfl⟩ := el
        rw [if_neg (by decide), if_pos rfl]
        simp only [Tr.list, List.nil_append, List.getD_cons_zero] at hf ⊢
        have hq := hf q (by simp)
        have hr := root_any ht (by omega)
        have hlf := fun (W : World) (hW : Below w.heap.size w W) (g1 g2 : Nat) (n1 : NewRow w.heap.size W g1 q.1) (n2 : NewRow w.heap.size W g2 q.2) =>
          leaf_any (F := F) (w := W) (ka := some ⟨g1, 0, none⟩) (va := some ⟨g2, 0, none⟩) (q := q) h q.1.length q.2.length (hF.later hW.size) (bts_row n1.2) (bts_row n2.2) (by omega)
        have HR := Lib.hid hr; clear hr
        have HLF := Lib.hid hlf; clear hlf
        clear ht he hs hf hl hn hq hF
        go_enter Tryz.func48, Tryz.ntmps48
        go_wp2_with fail
        refine HSZ.out.mono ?_
        rintro e w' ⟨rfl, rfl⟩
        go_wp2_with fail
        refine HR.out.mono ?_
        rintro e w2 ⟨g1, g2, rfl, n1, n2, hb⟩
        have J := Lib.hid (HLF.out w2 hb g1 g2 n1 n2)
        have HB := Lib.hid hb; clear hb n1 n2
        go_wp2_with fail
        refine J.out.mono ?_
        rintro e w3 ⟨v, rfl, hv, hb⟩
        have HV := Lib.hid hv; clear hv
        have HB3 := Lib.hid hb; clear hb
        go_wp2_with fail
        go_ret
        exact ⟨_, rfl, HV.out, below_then HB.out HB3.out⟩
    · have d0 : ((n : Int) == 0) = false := by simpa using (show ¬ (n : Int) = 0 by omega)
      have d1 : ((n : Int) == 1) = false := by simpa using (show ¬ (n : Int) = 1 by omega)
      rw [if_neg (by omega), if_neg (by omega)]
      have HT := Lib.hid (And.intro ht (And.intro he (hF w.heap.size (Nat.le_refl _))))
      clear ht he hs hf hl hn h0 h1 hF
      go_enter Tryz.func48, Tryz.ntmps48
      go_wp2_with fail
      refine HSZ.out.mono ?_
      rintro e w' ⟨rfl, rfl⟩
      go_wp2_with fail
      go_ret
      refine ⟨_, rfl, ?_, (Below.refl _ _).alloc (Nat.le_refl _) _⟩
      exact ⟨w.heap.size, p, t, rfl, HT.out.2.2, heap_alloc_new w _, HT.out.1.below ((Below.refl _ _).alloc (Nat.le_refl _) _), HT.out.2.1, rfl⟩
end Go.Proofs.YtmbdimonfdncpaaGreatDoor
/-
  Contracts of Hash, Pair, Tree, Map, Kid.
-/
namespace Go.Proofs.YtmbdimonfdncpaaGreatDoor
open Go.RowKit
set_option maxHeartbeats 4000000
set_option maxRecDepth 100000
def Nd.hashed (x : Nd) : Bool := x.kind == 1 || x.kind == 2
def Nd.pr : Nd → Pr
  | .leaf _ p => p
  | _ => ([], [])
def Nd.map : Nd → Nat
  | .bran m _ _ => m
  | _ => 0
theorem hash_any {F : Nat → Prop} {w : World} {x : Nd} {v : Value} (h : Nde F w x v) : Calls Tryz.prog 30 #[v] w fun e w' => e = .returned (.tuple #[.int .u64 (x.hash : Int), .bool x.hashed]) ∧ w = w' := by
  cases x with
  | none =>
    obtain rfl : v = .nilIface := h
    have h1 := ta84_nil
    have h2 := ta91_nil
    go_enter Tryz.func30, Tryz.ntmps30
    go_wp2
    go_ret2
    exact ⟨rfl, rfl⟩
  | leaf h' p =>
    obtain ⟨b, ka, kc, va, vc, rfl, _, hr, _⟩ := h
    have c0 := row_cell (i := 0) hr rfl
    have h1 := ta84_84 (.pointer (some ⟨b, 0, none⟩))
    clear hr
    go_enter Tryz.func30, Tryz.ntmps30
    go_wp2
    go_ret2
    exact ⟨rfl, rfl⟩
  | buck h' L =>
    obtain ⟨b, p, t, rfl, _, hr, _⟩ := h
    have c0 := row_cell (i := 0) hr rfl
    have h1 := ta84_91 (.pointer (some ⟨b, 0, none⟩))
    have h2 := ta91_91 (.pointer (some ⟨b, 0, none⟩))
    clear hr
    go_enter Tryz.func30, Tryz.ntmps30
    go_wp2
    go_ret2
    exact ⟨rfl, rfl⟩
  | bran m k kid =>
    obtain ⟨b, g, c, rfl, _⟩ := h
    have h1 := ta84_100 (.pointer (some ⟨b, 0, none⟩))
    have h2 := ta91_100 (.pointer (some ⟨b, 0, none⟩))
    go_enter Tryz.func30, Tryz.ntmps30
    go_wp2
    go_ret2
    exact ⟨rfl, rfl⟩
theorem map_any {F : Nat → Prop} {w : World} {x : Nd} {v : Value} (h : Nde F w x v) : Calls Tryz.prog 31 #[v] w fun e w' => e = .returned (.tuple #[.int .u32 (x.map : Int), .bool (x.kind == 3)]) ∧ w = w' := by
  have nope : ∀ v, x.kind ≠ 3 → x.map = 0 → (∀ w, (Instr.typeAssert v 34 113 true).run Tryz.prog w = .ok (.tuple #[.pointer none, .bool false]) w) → Calls Tryz.prog 31 #[v] w fun e w' => e = .returned (.tuple #[.int .u32 (x.map : Int), .bool (x.kind == 3)]) ∧ w = w' := by
    intro v hk hm h1
    have hb : (x.kind == 3) = false := by simpa using hk
    rw [hb, hm]
    clear hk hb h hm
    go_enter Tryz.func31, Tryz.ntmps31
    go_wp2
    go_ret2
    exact ⟨rfl, rfl⟩
  cases x with
  | none => obtain rfl : v = .nilIface := h; exact nope _ (by simp [Nd.kind]) rfl ta100_nil
  | leaf h' p => obtain ⟨b, _, _, _, _, rfl, _⟩ := h; exact nope _ (by simp [Nd.kind]) rfl (ta100_84 _)
  | buck h' L => obtain ⟨b, _, _, rfl, _⟩ := h; exact nope _ (by simp [Nd.kind]) rfl (ta100_91 _)
  | bran m k kid =>
    obtain ⟨b, g, c, rfl, _, hr, _⟩ := h
    have c0 := row_cell (i := 0) hr rfl
    have h1 := ta100_100 (.pointer (some ⟨b, 0, none⟩))
    clear hr nope
    go_enter Tryz.func31, Tryz.ntmps31
    go_wp2
    go_ret2
    exact ⟨rfl, rfl⟩
/-- the child for a number of the set -/
theorem kid_any {F : Nat → Prop} {w : World} {x : Nd} {v : Value} (c : Int) (h : Nde F w x v) (ho : x.ok) : Calls Tryz.prog 40 #[v, .int .i64 c] w fun e w' => (∃ vk, e = .returned (.tuple #[vk, .bool (decide (c ∈ x.set))]) ∧
    Nde F w (if c ∈ x.set then x.kid (Bt.less x.set c) else .none) vk) ∧ ∃ n, w' = w.drewN n := by
  have nope : ∀ v, x.set = [] → (∀ w, (Instr.typeAssert v 34 113 true).run Tryz.prog w = .ok (.tuple #[.pointer none, .bool false]) w) → Calls Tryz.prog 40 #[v, .int .i64 c] w fun e w' => (∃ vk, e = .returned (.tuple #[vk, .bool (decide (c ∈ x.set))]) ∧
      Nde F w (if c ∈ x.set then x.kid (Bt.less x.set c) else .none) vk) ∧ ∃ n, w' = w.drewN n := by
    intro v hs h1
    have hm : ¬ c ∈ x.set := by rw [hs]; exact List.not_mem_nil
    rw [decide_eq_false hm, if_neg hm]
    clear h hm hs ho
    go_enter Tryz.func40, Tryz.ntmps40
    go_wp2
    go_ret2
    exact ⟨⟨_, rfl, rfl⟩, 0, rfl⟩
  cases x with
  | none => obtain rfl : v = .nilIface := h; exact nope _ rfl ta100_nil
  | leaf h' p => obtain ⟨b, _, _, _, _, rfl, _⟩ := h; exact nope _ rfl (ta100_84 _)
  | buck h' L => obtain ⟨b, _, _, rfl, _⟩ := h; exact nope _ rfl (ta100_91 _)
  | bran m k kid =>
    clear nope
    obtain ⟨b, g, cc, rfl, _, hr, _, hg, hk⟩ := h
    have c0 := row_cell (i := 0) hr rfl
    have c1 := row_cell (i := 1) hr rfl
    have h1 := ta100_100 (.pointer (some ⟨b, 0, none⟩))
    have hh := fun W => Bt.has_any m c W ho.1
    have hp := fun W => Bt.place_any m c W ho.1
    by_cases hm : c ∈ (Nd.bran m k kid).set
    · have hlt : Bt.less (Bt.lst m 32) c < k := by
        rw [← ho.2.2.1]
        refine Nat.lt_of_le_of_ne (Bt.less_le _ _) fun e => ?_
        unfold Bt.less at e
        have := (List.length_filter_eq_length_iff.1 e) c hm
        simp at this
      rw [decide_eq_true hm, if_pos hm]
      simp only [Nd.set, Nd.kid]
      simp only [show decide (c ∈ Bt.lst m 32) = true from decide_eq_true hm] at hh
      obtain ⟨j, hj⟩ : ∃ j, j = Bt.less (Bt.lst m 32) c := ⟨_, rfl⟩
      simp only [← hj] at hp hlt ⊢
      obtain ⟨vi, k1, k2⟩ := hk j hlt
      have HH := Lib.hid hh; clear hh
      have HP := Lib.hid hp; clear hp
      have K2 := Lib.hid k2; clear k2
      clear hr hk hj hm ho hg
      go_enter Tryz.func40, Tryz.ntmps40
      go_wp2_with fail
      refine (HH.out _).mono ?_
      rintro e w' ⟨rfl, rfl⟩
      go_wp2_with fail
      go_quiet (first | (go_at_call 62; refine Calls.quiet_of (HP.out _)))
      go_wp2_with fail
      go_ret2
      exact ⟨⟨vi, rfl, K2.out⟩, _, rfl⟩
    · rw [decide_eq_false hm, if_neg hm]
      simp only [show decide (c ∈ Bt.lst m 32) = false from decide_eq_false hm] at hh
      have HH := Lib.hid hh; clear hh
      clear hr hk hm ho hg hp
      go_enter Tryz.func40, Tryz.ntmps40
      go_wp2_with fail
      refine (HH.out _).mono ?_
      rintro e w' ⟨rfl, rfl⟩
      go_wp2_with fail
      go_ret2
      exact ⟨⟨_, rfl, rfl⟩, 0, rfl⟩
end Go.Proofs.YtmbdimonfdncpaaGreatDoor
/-
  Contracts of Hash, Pair, Tree, Map, Kid.
-/
namespace Go.Proofs.YtmbdimonfdncpaaGreatDoor
open Go.RowKit
set_option maxHeartbeats 4000000
set_option maxRecDepth 100000
theorem tree_any {F : Nat → Prop} {w : World} {x : Nd} {v : Value} (h : Nde F w x v) : Calls Tryz.prog 46 #[v] w fun e w' => (∃ p, e = .returned (.tuple #[.pointer p, .bool (x.kind == 2)]) ∧
    ((x.kind ≠ 2 ∧ p = none) ∨ ∃ t, Tre F w t p ∧ t.even ∧ t.list = x.prs ∧ x.kind = 2)) ∧ w = w' := by
  have nope : ∀ v, x.kind ≠ 2 → (∀ w, (Instr.typeAssert v 34 110 true).run Tryz.prog w = .ok (.tuple #[.pointer none, .bool false]) w) → Calls Tryz.prog 46 #[v] w fun e w' => (∃ p, e = .returned (.tuple #[.pointer p, .bool (x.kind == 2)]) ∧
      ((x.kind ≠ 2 ∧ p = none) ∨ ∃ t, Tre F w t p ∧ t.even ∧ t.list = x.prs ∧ x.kind = 2)) ∧ w = w' := by
    intro v hk h1
    have hb : (x.kind == 2) = false := by simpa using hk
    rw [hb]
    have HK := Lib.hid hk; clear hk hb h
    go_enter Tryz.func46, Tryz.ntmps46
    go_wp2
    go_ret2
    exact ⟨⟨none, rfl, .inl ⟨HK.out, rfl⟩⟩, rfl⟩
  cases x with
  | none => obtain rfl : v = .nilIface := h; exact nope _ (by simp [Nd.kind]) ta91_nil
  | leaf h' p => obtain ⟨b, _, _, _, _, rfl, _⟩ := h; exact nope _ (by simp [Nd.kind]) (ta91_84 _)
  | bran m k kid => obtain ⟨b, _, _, rfl, _⟩ := h; exact nope _ (by simp [Nd.kind]) (ta91_100 _)
  | buck h' L =>
    obtain ⟨b, p, t, rfl, _, hr, ht, he, hl⟩ := h
    have c1 := row_cell (i := 1) hr rfl
    have h1 := ta91_91 (.pointer (some ⟨b, 0, none⟩))
    have HT := Lib.hid (And.intro ht (And.intro he hl))
    clear hr nope ht he hl
    go_enter Tryz.func46, Tryz.ntmps46
    go_wp2
    go_ret2
    exact ⟨⟨p, rfl, .inr ⟨t, HT.out.1, HT.out.2.1, HT.out.2.2, rfl⟩⟩, rfl⟩
theorem pair_any {F : Nat → Prop} {w : World} {x : Nd} {v : Value} (h : Nde F w x v) (ho : x.ok) : Calls Tryz.prog 43 #[v] w fun e w' => ∃ A B c d, e = .returned (.tuple #[.agg #[.slice A x.pr.1.length c, .slice B x.pr.2.length d], .bool (x.kind == 1)]) ∧
    Bts w' A x.pr.1 ∧ Bts w' B x.pr.2 ∧ Below w.heap.size w w' := by
  have r0 : (w.alloc (.cells #[.slice none 0 0, .slice none 0 0] 29)).heap[w.heap.size]? = some (.cells #[.slice none 0 0, .slice none 0 0] 29 (0, 0)) := heap_alloc_new w _
  have hb0 : Below w.heap.size w (w.alloc (.cells #[.slice none 0 0, .slice none 0 0] 29)) := (Below.refl _ _).alloc (Nat.le_refl _) _
  have nope : ∀ v, x.kind ≠ 1 → x.pr = ([], []) → (∀ w, (Instr.typeAssert v 34 105 true).run Tryz.prog w = .ok (.tuple #[.pointer none, .bool false]) w) → Calls Tryz.prog 43 #[v] w fun e w' => ∃ A B c d, e = .returned (.tuple #[.agg #[.slice A x.pr.1.length c, .slice B x.pr.2.length d], .bool (x.kind == 1)]) ∧
      Bts w' A x.pr.1 ∧ Bts w' B x.pr.2 ∧ Below w.heap.size w w' := by
    intro v hk hp h1
    have hb : (x.kind == 1) = false := by simpa using hk
    rw [hb, hp]
    obtain ⟨e0, e1, f0, f1⟩ := row2 r0
    have HS := Lib.hid r0
    have HB := Lib.hid hb0
    clear hk hb h hp r0 hb0 ho
    go_enter Tryz.func43, Tryz.ntmps43
    go_wp2
    refine bodyPost_ret (results_two rfl _ _ w.heap.size 29 _ (0, 0) _ _ rfl HS.out rfl Tryz.underlying29 rfl (by kernel_rfl)) rfl ?_
    exact ⟨none, none, 0, 0, rfl, .inl rfl, .inl rfl, HB.out⟩
  cases x with
  | none => obtain rfl : v = .nilIface := h; exact nope _ (by simp [Nd.kind]) rfl ta84_nil
  | buck h' L => obtain ⟨b, _, _, rfl, _⟩ := h; exact nope _ (by simp [Nd.kind]) rfl (ta84_91 _)
  | bran m k kid => obtain ⟨b, _, _, rfl, _⟩ := h; exact nope _ (by simp [Nd.kind]) rfl (ta84_100 _)
  | leaf h' p =>
    clear nope
    obtain ⟨b, ka, kc, va, vc, rfl, _, hr, hk, hv⟩ := h
    obtain ⟨w1, hw1⟩ : ∃ w1, w1 = w.alloc (.cells #[.slice none 0 0, .slice none 0 0] 29) := ⟨_, rfl⟩
    have hsz : w1.heap.size = w.heap.size + 1 := by rw [hw1]; simp
    rw [← hw1] at r0 hb0
    have hr1 := (hb0.block b (Array.getElem?_eq_some_iff.1 hr).1).trans hr
    have c1 := row_cell (i := 1) hr1 rfl
    have c2 := row_cell (i := 2) hr1 rfl
    have h1 := ta84_84 (.pointer (some ⟨b, 0, none⟩))
    have own := owned_any kc vc (hk.below hb0).bts (hv.below hb0).bts (by have := ho.2; omega)
    simp only [Nd.pr]
    obtain ⟨n1, hn1⟩ : ∃ k, k = p.1.length := ⟨_, rfl⟩
    obtain ⟨n2, hn2⟩ : ∃ k, k = p.2.length := ⟨_, rfl⟩
    rw [← hn1] at c1
    rw [← hn2] at c2
    simp only [← hn1, ← hn2] at own ⊢
    have OWN := Lib.hid own; clear own
    have R0 := Lib.hid r0; clear r0
    have HB0 := Lib.hid hb0; clear hb0
    have HW := Lib.hid hw1; clear hw1
    have HSZ := Lib.hid hsz; clear hsz
    clear hr hr1 hk hv ho hn1 hn2
    go_enter Tryz.func43, Tryz.ntmps43
    go_wp2_with (rw [← HW.out])
    refine OWN.out.mono ?_
    rintro e w2 ⟨g1, g2, rfl, k1, k2, hb⟩
    have r2 := (hb.block w.heap.size (by have := HSZ.out; omega)).trans R0.out
    obtain ⟨d0, d1, f0, f1⟩ := row2 r2
    have HS := Lib.hid (set2 r2 (.slice (some ⟨g1, 0, none⟩) n1 n1) (.slice (some ⟨g2, 0, none⟩) n2 n2))
    have HB2 := Lib.hid (below_set2 (w := w2) (g := w.heap.size) (.slice (some ⟨g1, 0, none⟩) n1 n1) (.slice (some ⟨g2, 0, none⟩) n2 n2) (Nat.le_refl _))
    have K1 := Lib.hid k1; clear k1
    have K2 := Lib.hid k2; clear k2
    have HB3 := Lib.hid hb; clear hb
    clear c1 c2 r2
    go_wp2_with fail
    refine bodyPost_ret (results_two rfl _ _ w.heap.size 29 _ (0, 0) _ _ rfl HS.out.1 rfl Tryz.underlying29 rfl (by kernel_rfl)) rfl ?_
    have hz := HSZ.out
    have a1 := K1.out.1
    have a2 := K2.out.1
    refine ⟨_, _, _, _, rfl, bts_row ((HS.out.2 g1 (by omega)).trans K1.out.2), bts_row ((HS.out.2 g2 (by omega)).trans K2.out.2), ?_⟩
    exact (below_then HB0.out HB3.out).trans HB2.out
end Go.Proofs.YtmbdimonfdncpaaGreatDoor
