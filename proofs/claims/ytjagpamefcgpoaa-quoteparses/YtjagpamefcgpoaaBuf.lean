/-
  Rows of bytes that a call owns, and the contracts of what appends to them: appendDigits, appendRune, isStray, Print.
-/
import Derived.Test.YtjagpamefcgpoaaRows
import Derived.Test.YtjagpamefcgpoaaMath
import Derived.Test.YtjagpamefcgpoaaShelf
import Derived.WalkKit
import Derived.WalkLawsBesides
import Derived.Outline
import Derived.IntWalk
import Derived.Lib.Hide
import Derived.Lib.AppendStr
import Derived.Lib.OthersKept
import Derived.Laws.IdiomStrings
import Derived.Laws.MakeOwn
import Derived.Laws.BitsAllLaws
import Derived.Laws.BitsLemmas
import Derived.Laws.ShiftsVarLaws
import Derived.OwnWalk
import Derived.Maps.AppendAt
import Derived.Deep.QuietTactic
import Derived.Deep.RegionHeld3
import Derived.BigQuiet
import Derived.BigCall
import Derived.WalkSmall
namespace Go.Proofs.Ytjagpamefcgpoaa
open Go.RowKit
set_option maxHeartbeats 400000
theorem below_then {w a b : World} (h : Below w.heap.size w a) (k : Below a.heap.size a b) : Below w.heap.size w b := h.trans (k.mono h.size)
theorem ret_int {k : IntKind} {a b : Int} (h : a = b) : Ending.returned (.int k a) = .returned (.int k b) := by rw [h]
theorem ret_str {a b : ByteArray} (h : a = b) : Ending.returned (.string a) = .returned (.string b) := by rw [h]
theorem ret_bool {a b : Bool} (h : a = b) : Ending.returned (.bool a) = .returned (.bool b) := by rw [h]
theorem Try.info5 : (Try.prog.info? 5).map (fun i => (i.zero, i.size, i.bytes)) = some (some (.int .u8 0), 1, 1) := by kernel_rfl
/-- the value v is a row of bytes of the call's own (block B and above), and holds l -/
def Own (B : Nat) (w : World) (v : Value) (l : List UInt8) : Prop := w.ownsRow B 5 1 v l.length (Lib.byteCells l)
/-- .. a row that is full, marked behind its end or not -/
def Full (B : Nat) (w : World) (v : Value) (l : List UInt8) : Prop :=
  ∃ g cur fz, v = .slice (some ⟨g, 0, none⟩) l.length l.length ∧ B ≤ g ∧ w.heap[g]? = some (.cells cur 5 fz) ∧ cur.toList = Lib.byteCells l
/-- either -/
def Buf (B : Nat) (w : World) (v : Value) (l : List UInt8) : Prop := Own B w v l ∨ Full B w v l
/-- what lies below B stands, and every block that is no row of bytes -/
def Steps (B : Nat) (w w' : World) : Prop := Below B w w' ∧ Lib.OthersKept 5 none w w'
theorem Steps.refl (B : Nat) (w : World) : Steps B w w := ⟨Below.refl _ _, Lib.OthersKept.refl _ _ _⟩
theorem Steps.trans {B : Nat} {a b c : World} (h : Steps B a b) (k : Steps B b c) : Steps B a c := ⟨h.1.trans k.1, h.2.trans k.2⟩
theorem Steps.alloc {B : Nat} {a w : World} (h : Steps B a w) (hB : B ≤ w.heap.size) (o : Obj) : Steps B a (w.alloc o) := ⟨h.1.alloc hB o, h.2.alloc o⟩
theorem Steps.drew {B : Nat} {a w : World} (h : Steps B a w) : Steps B a w.drew := ⟨h.1.drew, h.2.drew⟩
theorem Steps.iter {B : Nat} {w w' : World} (h : Steps B w w') {k : Nat} {s : ByteArray} {pos : Nat} (hk : w.heap[k]? = some (.stringIter s pos)) : w'.heap[k]? = some (.stringIter s pos) :=
  h.2 k _ hk (fun e => by cases e) (fun _ _ e => by cases e)
theorem own_kind {w : World} {B : Nat} {v : Value} {n : Nat} {xs : List Value} (h : w.ownsRow B 5 1 v n xs) : ∀ g, v.ownBlock = some g → ∃ c fz, w.heap[g]? = some (.cells c 5 fz) := by
  intro g hg
  rcases h.2 with ⟨rfl, _⟩ | ⟨g', cap, cur, rfl, _, hgg, _⟩
  · simp [Value.ownBlock] at hg
  · simp [Value.ownBlock] at hg
    subst hg
    exact ⟨cur, _, hgg⟩
theorem own_steps {w w' : World} {B : Nat} {v : Value} {n : Nat} {xs : List Value} (h : w.ownsRow B 5 1 v n xs) (hg : w.grownBy w' v.ownBlock) (hB : B ≤ w.heap.size) : Steps B w w' :=
  ⟨(Below.refl _ _).grown hg hB (fun k hk => (h.lt k hk).1), (Lib.OthersKept.refl _ _ _).grown hg (own_kind h)⟩
theorem Full.cells {B : Nat} {w : World} {g n c : Nat} {l : List UInt8} (h : Full B w (.slice (some ⟨g, 0, none⟩) n c) l) : ∀ j u, (Lib.byteCells l)[j]? = some u → w.cell? ((⟨g, 0, none⟩ : Addr).add j) = some u := by
  intro j u hu
  obtain ⟨g', cur, fz, hv, _, hg, hc⟩ := h
  obtain rfl : g = g' := by injection hv with h1; injection h1 with h1; injection h1
  rw [Go.WideShapes.add_plain, Nat.zero_add, cell_of_row w g j cur 5 fz hg, ← hu, ← hc]
  simp
theorem Own.alloc {B : Nat} {w : World} {v : Value} {l : List UInt8} (h : Own B w v l) (o : Obj) : Own B (w.alloc o) v l := World.ownsRow.alloc h o
theorem Full.alloc {B : Nat} {w : World} {v : Value} {l : List UInt8} (h : Full B w v l) (o : Obj) : Full B (w.alloc o) v l := by
  obtain ⟨g, cur, fz, hv, hb, hg, hc⟩ := h
  exact ⟨g, cur, fz, hv, hb, (Below.heap_alloc w o g (Array.getElem?_eq_some_iff.1 hg).1).trans hg, hc⟩
theorem Buf.alloc {B : Nat} {w : World} {v : Value} {l : List UInt8} (h : Buf B w v l) (o : Obj) : Buf B (w.alloc o) v l := h.elim (fun h => .inl (h.alloc o)) (fun h => .inr (h.alloc o))
theorem Buf.drew {B : Nat} {w : World} {v : Value} {l : List UInt8} (h : Buf B w v l) : Buf B w.drew v l := h
theorem Own.drew {B : Nat} {w : World} {v : Value} {l : List UInt8} (h : Own B w v l) : Own B w.drew v l := h
theorem Own.iterAt {B : Nat} {w : World} {v : Value} {l : List UInt8} (h : Own B w v l) {k : Nat} {s : ByteArray} {pos : Nat} (hk : w.heap[k]? = some (.stringIter s pos)) (pos' : Nat) : Own B (w.iterAt k s pos') v l := by
  refine ⟨h.1, ?_⟩
  rcases h.2 with hn | ⟨g, cap, cur, rfl, hb, hg, rest⟩
  · exact .inl hn
  · have hkg : g ≠ k := by
      rintro rfl
      rw [hk] at hg
      cases hg
    exact .inr ⟨g, cap, cur, rfl, hb, (Lib.iterAt_other w k g s pos' hkg).trans hg, rest⟩
theorem Full.iterAt {B : Nat} {w : World} {v : Value} {l : List UInt8} (h : Full B w v l) {k : Nat} {s : ByteArray} {pos : Nat} (hk : w.heap[k]? = some (.stringIter s pos)) (pos' : Nat) : Full B (w.iterAt k s pos') v l := by
  obtain ⟨g, cur, fz, hv, hb, hg, hc⟩ := h
  have hkg : g ≠ k := by
    rintro rfl
    rw [hk] at hg
    cases hg
  exact ⟨g, cur, fz, hv, hb, (Lib.iterAt_other w k g s pos' hkg).trans hg, hc⟩
theorem Buf.iterAt {B : Nat} {w : World} {v : Value} {l : List UInt8} (h : Buf B w v l) {k : Nat} {s : ByteArray} {pos : Nat} (hk : w.heap[k]? = some (.stringIter s pos)) (pos' : Nat) : Buf B (w.iterAt k s pos') v l :=
  h.elim (fun h => .inl (h.iterAt hk pos')) (fun h => .inr (h.iterAt hk pos'))
theorem own_of {B : Nat} {w : World} {v : Value} {n : Nat} {xs : List Value} {l : List UInt8} (h : w.ownsRow B 5 1 v n xs) (hn : n = l.length) (hx : xs = Lib.byteCells l) : Own B w v l := by
  subst hn; subst hx; exact h
theorem strCells_mk (l : List UInt8) : Lib.strCells ⟨l.toArray⟩ = Lib.byteCells l := by simp [Lib.strCells, Lib.byteCells]
theorem byteCells_one (l : List UInt8) : ∀ u ∈ Lib.byteCells l, u.oneCell' = true := by
  intro u hu
  simp only [Lib.byteCells, List.mem_map] at hu
  obtain ⟨b, _, rfl⟩ := hu
  rfl
/-- a new row that is grown out of a full one -/
theorem own_grown {B : Nat} (w : World) (l m : List UInt8) (cap : Nat) (hcap : l.length + m.length ≤ cap) (hm : cap ≤ maxLen) (hB : B ≤ w.heap.size) :
    Own B (w.drew.alloc (.cells ((Lib.byteCells l).toArray ++ (Lib.byteCells m).toArray ++ Builtin.zeroCells (Value.int .u8 0).cells (cap - (l.length + m.length))) 5)) (.slice (some ⟨w.heap.size, 0, none⟩) (l.length + m.length) cap) (l ++ m) := by
  refine ⟨by simp [Lib.byteCells], .inr ⟨w.heap.size, cap, _, by simp, hB, heap_alloc_new w.drew _, by simpa using hcap, hm, ?_, ?_⟩⟩
  · simp only [Array.size_append, List.size_toArray, size_zeroCells, Lib.byteCells_length]
    have : (Value.int IntKind.u8 0).cells.size = 1 := rfl
    rw [this]; omega
  · simp only [Array.toList_append, Nat.mul_one]
    rw [Lib.byteCells_append, List.take_append_of_le_length (by simp [Lib.byteCells_length])]
    exact List.take_of_length_le (by simp [Lib.byteCells_length])
theorem steps_grown {B : Nat} (w : World) (o : Obj) (hB : B ≤ w.heap.size) : Steps B w (w.drew.alloc o) := ((Steps.refl B w).drew).alloc hB o
/-- append of a string onto such a row: the run -/
theorem run_app_str {B : Nat} {w : World} {v : Value} {l : List UInt8} (h : Buf B w v l) (m : List UInt8) (hm : 0 < m.length) (ty : TypeId) (hlen : l.length + m.length ≤ 1000000) (hB : B ≤ w.heap.size) :
    ∃ v' w', (Builtin.append_ #[22, 9] ty #[v, .string ⟨m.toArray⟩]).run Try.prog w = .ok v' w' ∧ Own B w' v' (l ++ m) ∧ Steps B w w' := by
  obtain ⟨i0, hi, hz0, hz1, hz2⟩ := info_parts Try.info5
  have hsz : (⟨m.toArray⟩ : ByteArray).size = m.length := by simp [ByteArray.size]
  rcases h with h | h
  · obtain ⟨v', w', hr, h2, h3, _⟩ := Lib.run_append_own_string (P := Try.prog) w B 22 9 ty 5 i0 Try.underlying22 Try.underlying9 hi hz0 hz1 hz2 v _ _ h ⟨m.toArray⟩ (by rw [hsz]; unfold maxLen; omega) (by rw [hsz]; omega) hB
    exact ⟨v', w', hr, own_of h2 (by rw [hsz]; simp) (by rw [strCells_mk, Lib.byteCells_append]), own_steps h h3 hB⟩
  · obtain ⟨g, cur, fz, rfl, hb, hg, hc⟩ := id h
    have hcl := h.cells
    have hr := Lib.run_append_grow_string (P := Try.prog) w 22 9 ty 5 i0 (.int .u8 0) Try.underlying22 Try.underlying9 hi hz0 ⟨g, 0, none⟩ l.length l.length (Lib.byteCells l) (by rw [hz1, Lib.byteCells_length, Nat.mul_one]) hcl ⟨m.toArray⟩ (by rw [hsz]; omega) (by rw [hsz]; omega) (by rw [hsz, hz2]; exact growslice_fits (by omega) (by omega))
    rw [strCells_mk, hsz] at hr
    exact ⟨_, _, hr, own_grown w l m _ (grownCap_ge w _ _ _) (grownCap_le_maxLen w _ _ _ (by unfold maxLen; omega)) hB, steps_grown w _ hB⟩
/-- append of bytes that lie at an address -/
theorem run_app_bytes {B : Nat} {w : World} {v : Value} {l : List UInt8} (h : Buf B w v l) (m : List UInt8) (hm : 0 < m.length) (a : Addr) (c : Nat) (hnews : ∀ j u, (Lib.byteCells m)[j]? = some u → w.cell? (a.add j) = some u) (ty : TypeId) (hlen : l.length + m.length ≤ 1000000) (hB : B ≤ w.heap.size) :
    ∃ v' w', (Builtin.append_ #[22, 22] ty #[v, .slice (some a) m.length c]).run Try.prog w = .ok v' w' ∧ Own B w' v' (l ++ m) ∧ Steps B w w' := by
  obtain ⟨i0, hi, hz0, hz1, hz2⟩ := info_parts Try.info5
  rcases h with h | h
  · obtain ⟨v', w', hr, h2, h3, _⟩ := run_append_own (P := Try.prog) w B 22 ty 5 i0 (.int .u8 0) 1 1 Try.underlying22 hi hz0 hz1 hz2 rfl (by decide) v _ _ h a m.length c (Lib.byteCells m) (by rw [Lib.byteCells_length, Nat.mul_one]) hnews (byteCells_one m) (by unfold maxLen; omega) (by omega) hB
    exact ⟨v', w', hr, own_of h2 (by simp) (by rw [Lib.byteCells_append]), own_steps h h3 hB⟩
  · obtain ⟨g, cur, fz, rfl, hb, hg, hc⟩ := id h
    have hcl := h.cells
    have hr := run_append_grow (P := Try.prog) w 22 ty 5 i0 (.int .u8 0) Try.underlying22 hi hz0 ⟨g, 0, none⟩ l.length l.length (Lib.byteCells l) (by rw [hz1, Lib.byteCells_length, Nat.mul_one]) hcl a m.length c (Lib.byteCells m) (by rw [hz1, Lib.byteCells_length, Nat.mul_one]) hnews (by omega) (by omega) (by rw [hz2]; exact growslice_fits (by omega) (by omega))
    exact ⟨_, _, hr, own_grown w l m _ (grownCap_ge w _ _ _) (grownCap_le_maxLen w _ _ _ (by unfold maxLen; omega)) hB, steps_grown w _ hB⟩
theorem wp_app_str {B : Nat} {w : World} {o : Oper} {a : Act} {K : Act → World → Prop} {Q : Exit → Act → World → Prop} (s x : Operand) (ho : o.op = .call { callee := .builtin .append, args := #[s, x], argTypes := #[22, 9] })
    (v : Value) (l m : List UInt8) (hm : 0 < m.length) (h : Buf B w v l) (hs : a.eval s = v) (hx : a.eval x = .string ⟨m.toArray⟩) (hlen : l.length + m.length ≤ 1000000) (hB : B ≤ w.heap.size)
    (hK : ∀ v' w', Own B w' v' (l ++ m) → Steps B w w' → K (a.put o.dst v') w') : o.wp Try.prog a w K Q := by
  obtain ⟨v', w', hr, h2, h3⟩ := run_app_str h m hm o.type hlen hB
  unfold Oper.wp execOp
  simp only [ho, resolve, invoke, builtin, Sem.run_bind, Sem.run_pure, Result.andThen_ok, List.map_toArray, List.map_cons, List.map_nil, hs, hx, hr]
  exact hK v' w' h2 h3
theorem list_app_str {B : Nat} {w : World} {ops : Array Oper} {rest : List Oper} {o : Oper} {a : Act} {Q : Exit → Act → World → Prop} (hgd : o.guard = none) (s x : Operand) (ho : o.op = .call { callee := .builtin .append, args := #[s, x], argTypes := #[22, 9] })
    (v : Value) (l m : List UInt8) (hm : 0 < m.length) (h : Buf B w v l) (hs : a.eval s = v) (hx : a.eval x = .string ⟨m.toArray⟩) (hlen : l.length + m.length ≤ 1000000) (hB : B ≤ w.heap.size)
    (hK : ∀ v' w', Own B w' v' (l ++ m) → Steps B w w' → wpList Try.prog ops Q rest (a.put o.dst v') w') : wpList Try.prog ops Q (o :: rest) a w :=
  wpList_plain hgd fun _ hk => wp_app_str s x ho v l m hm h hs hx hlen hB fun v' w' h2 h3 => hk _ _ (hK v' w' h2 h3)
theorem step_app_str {B : Nat} {w : World} {ops : Array Oper} {o : Oper} {a : Act} {K : Act → World → Prop} {Q : Exit → Act → World → Prop} {E : Prop} (hgd : o.guard = none) (s x : Operand) (ho : o.op = .call { callee := .builtin .append, args := #[s, x], argTypes := #[22, 9] })
    (v : Value) (l m : List UInt8) (hm : 0 < m.length) (h : Buf B w v l) (hs : a.eval s = v) (hx : a.eval x = .string ⟨m.toArray⟩) (hlen : l.length + m.length ≤ 1000000) (hB : B ≤ w.heap.size)
    (hK : ∀ v' w', Own B w' v' (l ++ m) → Steps B w w' → K (a.put o.dst v') w') :
    if Region.wanted o (yielded ops a.tmps) = true then Oper.wp Try.prog o a w K Q else E := by
  have hw : Region.wanted o (yielded ops a.tmps) = true := by simp [Region.wanted, hgd]
  rw [if_pos hw]
  exact wp_app_str s x ho v l m hm h hs hx hlen hB hK
/-- append of bytes that lie at an address, at the operation -/
theorem list_app_bytes {B : Nat} {w : World} {ops : Array Oper} {rest : List Oper} {o : Oper} {a : Act} {Q : Exit → Act → World → Prop} (hgd : o.guard = none) (s x : Operand) (ho : o.op = .call { callee := .builtin .append, args := #[s, x], argTypes := #[22, 22] })
    (v : Value) (l m : List UInt8) (hm : 0 < m.length) (ad : Addr) (n c : Nat) (hn : n = m.length) (hnews : ∀ j u, (Lib.byteCells m)[j]? = some u → w.cell? (ad.add j) = some u) (h : Buf B w v l) (hs : a.eval s = v) (hx : a.eval x = .slice (some ad) n c) (hlen : l.length + m.length ≤ 1000000) (hB : B ≤ w.heap.size)
    (hK : ∀ v' w', Own B w' v' (l ++ m) → Steps B w w' → wpList Try.prog ops Q rest (a.put o.dst v') w') : wpList Try.prog ops Q (o :: rest) a w := by
  subst hn
  refine wpList_plain hgd fun _ hk => ?_
  obtain ⟨v', w', hr, h2, h3⟩ := run_app_bytes h m hm ad c hnews o.type hlen hB
  unfold Oper.wp execOp
  simp only [ho, resolve, invoke, builtin, Sem.run_bind, Sem.run_pure, Result.andThen_ok, List.map_toArray, List.map_cons, List.map_nil, hs, hx, hr]
  exact hk _ _ (hK v' w' h2 h3)
/-- append of bytes that were laid into a block of their own just ahead -/
theorem list_app_new {B : Nat} {w : World} {ops : Array Oper} {rest : List Oper} {o : Oper} {a : Act} {Q : Exit → Act → World → Prop} (hgd : o.guard = none) (s x : Operand) (ho : o.op = .call { callee := .builtin .append, args := #[s, x], argTypes := #[22, 22] })
    (v : Value) (l m : List UInt8) (hm : 0 < m.length) (C : Array Value) (hC : C.toList = Lib.byteCells m) (n c : Nat) (hn : n = m.length) (h : Buf B w v l) (hs : a.eval s = v) (hx : a.eval x = .slice (some ⟨w.heap.size, 0, none⟩) n c) (hlen : l.length + m.length ≤ 1000000) (hB : B ≤ w.heap.size)
    (hK : ∀ v' w', Own B w' v' (l ++ m) → Steps B w w' → wpList Try.prog ops Q rest (a.put o.dst v') w') : wpList Try.prog ops Q (o :: rest) a (w.alloc (.cells C 5)) := by
  refine list_app_bytes hgd s x ho v l m hm ⟨w.heap.size, 0, none⟩ n c hn ?_ (h.alloc _) hs hx hlen (by simp; omega) ?_
  · intro j u hu
    rw [Go.WideShapes.add_plain, Nat.zero_add, cell_of_row (w.alloc (.cells C 5)) w.heap.size j C 5 (0, 0) (heap_alloc_new w _), ← hu, ← hC]
    simp
  · intro v' w' h2 h3
    exact hK v' w' h2 (((Steps.refl B w).alloc hB _).trans h3)
end Go.Proofs.Ytjagpamefcgpoaa
