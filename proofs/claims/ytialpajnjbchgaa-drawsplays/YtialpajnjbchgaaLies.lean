/-
  Slices of bytes and what they read as; rows of bytes that a source owns, from some place on; a source in memory; what is appended to such a row.
-/
import Derived.Test.YtialpajnjbchgaaRows
import Derived.WalkKit
import Derived.WalkLawsBesides
import Derived.Outline
import Derived.IntWalk
import Derived.Lib.Hide
import Derived.Laws.IdiomStrings
import Derived.Laws.MakeOwn
import Derived.Laws.CopyOwn
import Derived.Laws.Tables
import Derived.OwnWalk
import Derived.Maps.AppendAt
import Derived.Deep.QuietTactic
import Derived.Deep.RegionHeld3
import Derived.Deep.WholeRow
import Derived.BigQuiet
import Derived.BigCall
import Derived.WalkSmall
import Derived.Lib.SlBytesConst
namespace Go.Proofs.Ytialpajnjbchgaa
open Go.RowKit
set_option maxHeartbeats 400000
set_option maxRecDepth 100000
theorem below_then {w a b : World} (h : Below w.heap.size w a) (k : Below a.heap.size a b) : Below w.heap.size w b := h.trans (k.mono h.size)
theorem ret_int {k : IntKind} {a b : Int} (h : a = b) : Ending.returned (.int k a) = .returned (.int k b) := by rw [h]
theorem ret_bool {a b : Bool} (h : a = b) : Ending.returned (.bool a) = .returned (.bool b) := by rw [h]
theorem Try.info5 : (Try.prog.info? 5).map (fun i => (i.zero, i.size, i.bytes)) = some (some (.int .u8 0), 1, 1) := by kernel_rfl
theorem Try.size5 : (Try.prog.info? 5).map (·.size) = some 1 := by kernel_rfl
/-- the slice at A reads as the bytes l, in blocks that are there -/
def Bts (w : World) (A : Option Addr) (l : List UInt8) : Prop :=
  l = [] ∨ ∃ b off, A = some ⟨b, off, none⟩ ∧ b < w.heap.size ∧ ∀ i (h : i < l.length), w.cell? ⟨b, off + i, none⟩ = some (.int .u8 (l[i].toNat : Int))
theorem Bts.below {w w' : World} {A : Option Addr} {l : List UInt8} (h : Bts w A l) (hb : Below w.heap.size w w') : Bts w' A l := by
  rcases h with h | ⟨b, off, rfl, hlt, hc⟩
  · exact .inl h
  · exact .inr ⟨b, off, rfl, Nat.lt_of_lt_of_le hlt hb.size, fun i hi => (hb.cell (p := ⟨b, off + i, none⟩) hlt).trans (hc i hi)⟩
theorem Bts.take {w : World} {A : Option Addr} {l : List UInt8} (h : Bts w A l) (n : Nat) : Bts w A (l.take n) := by
  rcases h with rfl | ⟨b, off, rfl, hlt, hc⟩
  · left; simp
  · refine .inr ⟨b, off, rfl, hlt, fun i hi => ?_⟩
    rw [List.length_take] at hi
    rw [hc i (by omega), List.getElem_take]
theorem Bts.nil (w : World) (A : Option Addr) : Bts w A [] := .inl rfl
theorem conv_any {w : World} {A : Option Addr} {l : List UInt8} (h : Bts w A l) (c : Nat) : (convert 22 9 (.slice A l.length c)).run Try.prog w = .ok (.string ⟨l.toArray⟩) w := by
  rcases h with rfl | ⟨b, off, rfl, _, hc⟩
  · cases A with
    | none => exact run_convert_bytes_nil w 22 5 Try.underlying22 Try.underlying5 0 c 9 Try.underlying9
    | some a => exact run_convert_bytes_back w 22 9 5 a c [] Try.underlying22 Try.underlying5 Try.underlying9 (fun j hj => by simp at hj)
  · exact run_convert_bytes_back w 22 9 5 _ c l Try.underlying22 Try.underlying5 Try.underlying9 (fun j hj => by rw [Go.WideShapes.add_plain]; exact hc j hj)
theorem Bts.cells {w : World} {A : Option Addr} {l : List UInt8} (h : Bts w A l) (hp : 0 < l.length) : ∃ a, A = some a ∧ a.block < w.heap.size ∧ ∀ j v, (Lib.byteCells l)[j]? = some v → w.cell? (a.add j) = some v := by
  rcases h with rfl | ⟨b, off, rfl, hlt, hc⟩
  · simp at hp
  · refine ⟨_, rfl, hlt, fun j v hv => ?_⟩
    simp only [Lib.byteCells, List.getElem?_map, Option.map_eq_some_iff] at hv
    obtain ⟨x, hx, rfl⟩ := hv
    obtain ⟨hj, rfl⟩ := List.getElem?_eq_some_iff.1 hx
    rw [Go.WideShapes.add_plain]
    exact hc j hj
theorem byteCells_one (l : List UInt8) : ∀ u ∈ Lib.byteCells l, u.oneCell' = true := by
  intro u hu
  simp only [Lib.byteCells, List.mem_map] at hu
  obtain ⟨b, _, rfl⟩ := hu
  rfl
theorem byteCells_at (l : List UInt8) (i : Nat) (h : i < l.length) : (Lib.byteCells l)[i]? = some (.int .u8 (l[i].toNat : Int)) := by
  simp [Lib.byteCells, h]
/-- the slice v is a row of bytes in block B or above, from some place of the block on, with all that it may grow over, and holds l -/
def Lies (B : Nat) (w : World) (v : Value) (l : List UInt8) : Prop :=
  (v = .slice none 0 0 ∧ l = []) ∨
  ∃ g off cap cur, v = .slice (some ⟨g, off, none⟩) l.length cap ∧ B ≤ g ∧ w.heap[g]? = some (.cells cur 5 (0, 0)) ∧ l.length ≤ cap ∧ cap ≤ maxLen ∧ off + cap ≤ cur.size ∧ ∀ i (h : i < l.length), cur[off + i]? = some (.int .u8 (l[i].toNat : Int))
theorem Lies.nil (B : Nat) (w : World) : Lies B w (.slice none 0 0) [] := .inl ⟨rfl, rfl⟩
theorem Lies.bts {B : Nat} {w : World} {v : Value} {l : List UInt8} (h : Lies B w v l) : ∃ A c, v = .slice A l.length c ∧ l.length ≤ c ∧ Bts w A l := by
  rcases h with ⟨rfl, rfl⟩ | ⟨g, off, cap, cur, rfl, _, hg, hc, _, _, hi⟩
  · exact ⟨none, 0, rfl, Nat.le_refl _, .inl rfl⟩
  · exact ⟨_, _, rfl, hc, .inr ⟨g, off, rfl, (Array.getElem?_eq_some_iff.1 hg).1, fun i h => by rw [cell_of_row w g _ cur 5 (0, 0) hg]; exact hi i h⟩⟩
theorem Lies.lt {B : Nat} {w : World} {v : Value} {l : List UInt8} (h : Lies B w v l) {k : Nat} (hk : v.ownBlock = some k) : B ≤ k ∧ k < w.heap.size ∧ ∃ cur, w.heap[k]? = some (.cells cur 5 (0, 0)) := by
  rcases h with ⟨rfl, rfl⟩ | ⟨g, off, cap, cur, rfl, hb, hg, _⟩
  · simp [Value.ownBlock] at hk
  · simp only [Value.ownBlock, Option.some.injEq] at hk
    subst hk
    exact ⟨hb, (Array.getElem?_eq_some_iff.1 hg).1, cur, hg⟩
/-- what leaves the row's block as it was keeps the row -/
theorem Lies.keep {B : Nat} {w w' : World} {v : Value} {l : List UInt8} (h : Lies B w v l) (hb : ∀ k, v.ownBlock = some k → w'.heap[k]? = w.heap[k]?) : Lies B w' v l := by
  rcases h with h | ⟨g, off, cap, cur, rfl, hB, hg, rest⟩
  · exact .inl h
  · exact .inr ⟨g, off, cap, cur, rfl, hB, (hb g rfl).trans hg, rest⟩
theorem Lies.below {B : Nat} {w w' : World} {v : Value} {l : List UInt8} (h : Lies B w v l) (hb : Below w.heap.size w w') : Lies B w' v l :=
  h.keep fun k hk => hb.block k (h.lt hk).2.1
theorem Lies.mono {B B' : Nat} {w : World} {v : Value} {l : List UInt8} (h : Lies B w v l) (hb : B' ≤ B) : Lies B' w v l := by
  rcases h with h | ⟨g, off, cap, cur, rfl, hB, rest⟩
  · exact .inl h
  · exact .inr ⟨g, off, cap, cur, rfl, Nat.le_trans hb hB, rest⟩
theorem Lies.drop {B g off n cap : Nat} {w : World} {l : List UInt8} (h : Lies B w (.slice (some ⟨g, off, none⟩) n cap) l) (k : Nat) (hk : k ≤ l.length) : Lies B w (.slice (some ⟨g, if cap = k then off else off + k, none⟩) (l.length - k) (cap - k)) (l.drop k) := by
  rcases h with ⟨h, _⟩ | ⟨g', off', cap', cur, h, hB, hg, hc, hm, hs, hi⟩
  · cases h
  · injection h with h1 h2 h3
    injection h1 with h1
    injection h1 with h1 h4
    subst h1 h2 h3 h4
    refine .inr ⟨g, _, cap - k, cur, by rw [List.length_drop], hB, hg, by rw [List.length_drop]; omega, by omega, by split <;> omega, fun i h => ?_⟩
    rw [List.length_drop] at h
    rw [if_neg (by omega), Nat.add_assoc, hi (k + i) (by omega), List.getElem_drop]
/-- append into room that is there, behind any place -/
theorem run_app_room (w : World) (ty : TypeId) (g off sLen sCap : Nat) (cur : Array Value) (hg : w.heap[g]? = some (.cells cur 5 (0, 0))) (a : Addr) (m c : Nat) (news : List Value) (hl : news.length = m)
    (hnews : ∀ j u, news[j]? = some u → w.cell? (a.add j) = some u) (h1 : ∀ u ∈ news, u.oneCell' = true) (hroom : sLen + m ≤ sCap) (hfit : off + sLen + news.length ≤ cur.size) :
    (Builtin.append_ #[22, 22] ty #[.slice (some ⟨g, off, none⟩) sLen sCap, .slice (some a) m c]).run Try.prog w =
      .ok (.slice (some ⟨g, off, none⟩) (sLen + m) sCap) (w.setRow g (cur.toList.take (off + sLen) ++ news ++ cur.toList.drop (off + sLen + news.length)).toArray) := by
  obtain ⟨i0, hi, hz0, hz1, hz2⟩ := info_parts Try.info5
  have hf := run_firstCells_some (P := Try.prog) w i0.size m a m c news (by rw [hz1, Nat.mul_one]; exact hl) hnews
  have hst := run_storeCells_at Try.prog g (off + sLen) 5 news 0 cur w hg (by simpa using hfit) h1
  simp only [Nat.add_zero] at hst
  rw [hz1] at hf
  simp [Builtin.append_, run_underlying Try.underlying22, Go.sizeOf, typeInfo, hi, Builtin.lenOf, hroom, hf, Addr.add_lit, hz1, hst]
/-- append of bytes to a row that lies so: the run -/
theorem run_app {B : Nat} {w : World} {v : Value} {l : List UInt8} (h : Lies B w v l) {A : Option Addr} {m : List UInt8} (hm : Bts w A m) (c : Nat) (ty : TypeId) (hlen : l.length + m.length ≤ 140737488355328) (hB : B ≤ w.heap.size) :
    ∃ v' w', (Builtin.append_ #[22, 22] ty #[v, .slice A m.length c]).run Try.prog w = .ok v' w' ∧ Lies B w' v' (l ++ m) ∧ w.grownBy w' v.ownBlock ∧ (v'.ownBlock = v.ownBlock ∨ v'.ownBlock = some w.heap.size) := by
  obtain ⟨i0, hi, hz0, hz1, hz2⟩ := info_parts Try.info5
  rcases Nat.eq_zero_or_pos m.length with h0 | h0
  · obtain rfl : m = [] := List.eq_nil_of_length_eq_zero h0
    refine ⟨v, w, ?_, by simpa using h, ⟨rfl, rfl, rfl, Nat.le_refl _, fun _ _ _ => rfl⟩, .inl rfl⟩
    have hf : ∀ ad : Addr, (Builtin.firstCells i0.size 0 (.slice (some ad) 0 c)).run Try.prog w = .ok #[] w := fun ad => run_firstCells_some (P := Try.prog) w i0.size 0 ad 0 c [] (by simp) (by simp)
    rcases h with ⟨rfl, rfl⟩ | ⟨g, off, cap, cur, rfl, _, hg, hc, _⟩
    · cases A with
      | none => simp [Builtin.append_, run_underlying Try.underlying22, Go.sizeOf, typeInfo, hi, Builtin.lenOf, Builtin.firstCells]
      | some ad => simp [Builtin.append_, run_underlying Try.underlying22, Go.sizeOf, typeInfo, hi, Builtin.lenOf, hf]
    · cases A with
      | none => simp [Builtin.append_, run_underlying Try.underlying22, Go.sizeOf, typeInfo, hi, Builtin.lenOf, Builtin.firstCells, hc, storeCells]
      | some ad => simp [Builtin.append_, run_underlying Try.underlying22, Go.sizeOf, typeInfo, hi, Builtin.lenOf, hf, hc, storeCells]
  · obtain ⟨a, rfl, hlt, hnews⟩ := hm.cells h0
    have hbl := Lib.byteCells_length m
    have grown : ∀ (old : Nat), Lies B (w.drew.alloc (.cells ((Lib.byteCells l).toArray ++ (Lib.byteCells m).toArray ++ Builtin.zeroCells (Value.int .u8 0).cells (grownCap w (l.length + m.length) old 5 - (l.length + m.length))) 5)) (.slice (some ⟨w.heap.size, 0, none⟩) (l.length + m.length) (grownCap w (l.length + m.length) old 5)) (l ++ m) := by
      intro old
      have hge := grownCap_ge w (l.length + m.length) old 5
      have hcm : grownCap w (l.length + m.length) old 5 ≤ maxLen := grownCap_le_maxLen w (l.length + m.length) old 5 (by unfold maxLen; omega)
      refine .inr ⟨w.heap.size, 0, _, _, by rw [List.length_append], hB, heap_alloc_new w.drew _, by rw [List.length_append]; exact hge, hcm, ?_, fun i hi => ?_⟩
      · have e1 : (Value.int IntKind.u8 0).cells.size = 1 := rfl
        simp only [Array.size_append, List.size_toArray, size_zeroCells, Lib.byteCells_length, e1]
        omega
      · rw [List.length_append] at hi
        have e2 : (Lib.byteCells l).toArray ++ (Lib.byteCells m).toArray = (Lib.byteCells (l ++ m)).toArray := by rw [Lib.byteCells_append]; simp
        rw [e2, Nat.zero_add, Array.getElem?_append_left (by simp [Lib.byteCells_length]; omega), List.getElem?_toArray]
        exact byteCells_at _ _ _
    rcases h with ⟨rfl, rfl⟩ | ⟨g, off, cap, cur, rfl, hb, hg, hc, hcm, hs, hcell⟩
    · have hr := run_append_nil (P := Try.prog) w 22 ty 5 i0 _ Try.underlying22 hi hz0 a m.length c (Lib.byteCells m) (by rw [hz1, Nat.mul_one]; exact hbl) hnews h0 (by simp at hlen; omega) (by rw [hz2]; simp at hlen; omega)
      have hgr := grown 0
      simp only [List.length_nil, Nat.zero_add, List.nil_append, Lib.byteCells, List.map_nil, Array.empty_append] at hgr hr ⊢
      exact ⟨_, _, hr, hgr, ⟨rfl, rfl, rfl, by simp, fun k hk _ => Below.heap_alloc w.drew _ k hk⟩, .inr rfl⟩
    · by_cases hroom : l.length + m.length ≤ cap
      · have hr := run_app_room w ty g off l.length cap cur hg a m.length c (Lib.byteCells m) hbl hnews (byteCells_one m) hroom (by rw [hbl]; omega)
        refine ⟨_, _, hr, .inr ⟨g, off, cap, _, by rw [List.length_append], hb, setRow_heap w g cur _ 5 (0, 0) hg, by rw [List.length_append]; exact hroom, hcm, ?_, fun i hi => ?_⟩, ⟨rfl, rfl, rfl, by simp, fun k _ hk => setRow_other w g k _ (fun e => hk (by simp [Value.ownBlock, e]))⟩, .inl rfl⟩
        · simp only [List.size_toArray, List.length_append, List.length_take, List.length_drop, Array.length_toList, hbl]
          omega
        · rw [List.length_append] at hi
          have ht : (cur.toList.take (off + l.length)).length = off + l.length := by have := Array.length_toList (xs := cur); rw [List.length_take]; omega
          rw [List.getElem?_toArray, List.append_assoc]
          rcases Nat.lt_or_ge i l.length with hil | hil
          · rw [List.getElem?_append_left (by omega), List.getElem?_take_of_lt (by omega), Array.getElem?_toList, hcell i hil, List.getElem_append_left hil]
          · rw [List.getElem?_append_right (by omega), ht, List.getElem?_append_left (by rw [hbl]; omega), show off + i - (off + l.length) = i - l.length by omega, byteCells_at m _ (by omega), List.getElem_append_right hil]
      · have holds : ∀ j u, (Lib.byteCells l)[j]? = some u → w.cell? ((⟨g, off, none⟩ : Addr).add j) = some u := by
          intro j u hu
          have hj : j < l.length := by
            have := (List.getElem?_eq_some_iff.1 hu).1
            rwa [Lib.byteCells_length] at this
          rw [byteCells_at l j hj] at hu
          rw [Go.WideShapes.add_plain, cell_of_row w g _ cur 5 (0, 0) hg, hcell j hj, hu]
        have hr := run_append_grow (P := Try.prog) w 22 ty 5 i0 _ Try.underlying22 hi hz0 ⟨g, off, none⟩ l.length cap (Lib.byteCells l) (by rw [hz1, Nat.mul_one, Lib.byteCells_length]) holds a m.length c (Lib.byteCells m) (by rw [hz1, Nat.mul_one]; exact hbl) hnews (by omega) (by omega) (by rw [hz2]; exact growslice_fits (by omega) (by omega))
        exact ⟨_, _, hr, grown cap, ⟨rfl, rfl, rfl, by simp, fun k hk _ => Below.heap_alloc w.drew _ k hk⟩, .inr rfl⟩
/-- append, at the operation -/
theorem list_app {B : Nat} {w : World} {ops : Array Oper} {rest : List Oper} {o : Oper} {a : Act} {Q : Exit → Act → World → Prop} (hgd : o.guard = none) (s x : Operand) (ho : o.op = .call { callee := .builtin .append, args := #[s, x], argTypes := #[22, 22] })
    (v : Value) (l m : List UInt8) (A : Option Addr) (c : Nat) (h : Lies B w v l) (hm : Bts w A m) (hs : a.eval s = v) (hx : a.eval x = .slice A m.length c) (hlen : l.length + m.length ≤ 140737488355328) (hB : B ≤ w.heap.size)
    (hK : ∀ v' w', Lies B w' v' (l ++ m) → w.grownBy w' v.ownBlock → (v'.ownBlock = v.ownBlock ∨ v'.ownBlock = some w.heap.size) → wpList Try.prog ops Q rest (a.put o.dst v') w') : wpList Try.prog ops Q (o :: rest) a w := by
  obtain ⟨v', w', hrun, h2, h3, h4⟩ := run_app h hm c o.type hlen hB
  refine wpList_plain hgd fun _ hk => ?_
  unfold Oper.wp execOp
  simp only [ho, resolve, invoke, builtin, Sem.run_bind, Sem.run_pure, Result.andThen_ok, List.map_toArray, List.map_cons, List.map_nil, hs, hx, hrun]
  exact hk _ _ (hK v' w' h2 h3 h4)
/-- all stands but the blocks in X -/
structure Kept (X : Nat → Prop) (w w' : World) : Prop where
  os : w'.os = w.os
  tape : w'.tape = w.tape
  output : w'.output = w.output
  size : w.heap.size ≤ w'.heap.size
  block : ∀ k, k < w.heap.size → ¬ X k → w'.heap[k]? = w.heap[k]?
theorem Kept.refl (X : Nat → Prop) (w : World) : Kept X w w := ⟨rfl, rfl, rfl, Nat.le_refl _, fun _ _ _ => rfl⟩
theorem Kept.trans {X : Nat → Prop} {a b c : World} (h : Kept X a b) (k : Kept X b c) : Kept X a c :=
  ⟨k.os.trans h.os, k.tape.trans h.tape, k.output.trans h.output, Nat.le_trans h.size k.size, fun i hi hx => (k.block i (Nat.lt_of_lt_of_le hi h.size) hx).trans (h.block i hi hx)⟩
theorem Kept.mono {X Y : Nat → Prop} {w w' : World} (h : Kept X w w') (hXY : ∀ k, k < w.heap.size → X k → Y k) : Kept Y w w' :=
  ⟨h.os, h.tape, h.output, h.size, fun k hk hy => h.block k hk fun hx => hy (hXY k hk hx)⟩
theorem Kept.of_below {X : Nat → Prop} {w w' : World} (h : Below w.heap.size w w') : Kept X w w' := ⟨h.os, h.tape, h.output, h.size, fun k hk _ => h.block k hk⟩
theorem Kept.of_grown {X : Nat → Prop} {w w' : World} {r : Option Nat} (h : w.grownBy w' r) (hr : ∀ k, r = some k → X k) : Kept X w w' :=
  ⟨h.os, h.tape, h.output, h.size, fun k hk hx => h.block k hk fun e => hx (hr k e.symm)⟩
theorem Kept.set {X : Nat → Prop} {w : World} {p : Addr} (hp : X p.block) (u : Value) : Kept X w (w.setCell p u) :=
  ⟨rfl, rfl, rfl, by simp, fun k _ hx => Below.heap_setCell w p u k fun e => hx (by rw [e]; exact hp)⟩
theorem Kept.below {X : Nat → Prop} {B : Nat} {w w' : World} (h : Kept X w w') (hB : B ≤ w.heap.size) (hX : ∀ k, k < B → ¬ X k) : Below B w w' :=
  ⟨h.os, h.tape, h.output, h.size, fun k hk => h.block k (Nat.lt_of_lt_of_le hk hB) (hX k hk)⟩
/-- a source in block s: v is what is left of it, l, and n seeds were taken -/
def Src (B : Nat) (w : World) (s : Nat) (v : Value) (l : List UInt8) (n : Nat) : Prop :=
  B ≤ s ∧ w.heap[s]? = some (.cells #[v, .int .i64 (n : Int)] 45 (0, 0)) ∧ Lies B w v l
theorem Src.ne {B s n : Nat} {w : World} {v : Value} {l : List UInt8} (h : Src B w s v l n) {B' : Nat} {u : Value} {m : List UInt8} (k : Lies B' w u m) : u.ownBlock ≠ some s := by
  intro e
  obtain ⟨_, _, cur, hc⟩ := k.lt e
  rw [h.2.1] at hc
  injection hc with hc
  injection hc with _ hc
  cases hc
theorem Src.lt {B s n : Nat} {w : World} {v : Value} {l : List UInt8} (h : Src B w s v l n) : s < w.heap.size := (Array.getElem?_eq_some_iff.1 h.2.1).1
theorem Src.cells {B s n : Nat} {w : World} {v : Value} {l : List UInt8} (h : Src B w s v l n) : w.cell? ⟨s, 0, none⟩ = some v ∧ w.cell? ⟨s, 1, none⟩ = some (.int .i64 (n : Int)) ∧ w.frozen? ⟨s, 0, none⟩ = false ∧ w.frozen? ⟨s, 1, none⟩ = false := by
  refine ⟨by rw [cell_of_row w s 0 _ 45 (0, 0) h.2.1]; rfl, by rw [cell_of_row w s 1 _ 45 (0, 0) h.2.1]; rfl, by simp [World.frozen?, h.2.1], by simp [World.frozen?, h.2.1]⟩
/-- what leaves the source's block, and its row's, as they were keeps the source -/
theorem Src.keep {B s n : Nat} {w w' : World} {v : Value} {l : List UInt8} (h : Src B w s v l n) (hs : w'.heap[s]? = w.heap[s]?) (hb : ∀ k, v.ownBlock = some k → w'.heap[k]? = w.heap[k]?) : Src B w' s v l n :=
  ⟨h.1, hs.trans h.2.1, h.2.2.keep hb⟩
theorem Src.kept {X : Nat → Prop} {B s n : Nat} {w w' : World} {v : Value} {l : List UInt8} (h : Src B w s v l n) (hk : Kept X w w') (hs : ¬ X s) (hv : ∀ k, v.ownBlock = some k → ¬ X k) : Src B w' s v l n :=
  h.keep (hk.block s h.lt hs) fun k e => hk.block k (h.2.2.lt e).2.1 (hv k e)
theorem Src.below {B s n : Nat} {w w' : World} {v : Value} {l : List UInt8} (h : Src B w s v l n) (hb : Below w.heap.size w w') : Src B w' s v l n :=
  h.kept (X := fun _ => False) (Kept.of_below hb) (fun h => h) (fun _ _ h => h)
theorem Src.mono {B B' s n : Nat} {w : World} {v : Value} {l : List UInt8} (h : Src B w s v l n) (hb : B' ≤ B) : Src B' w s v l n := ⟨Nat.le_trans hb h.1, h.2.1, h.2.2.mono hb⟩
end Go.Proofs.Ytialpajnjbchgaa
