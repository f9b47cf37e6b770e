/-
  Slices of bytes and of pairs and what they read as; contracts of Compare, of the reference's Less, of bytes.Equal, Check, fault, Map, of what Same asks of two pairs, and of the statements' own Small.
-/
import Derived.Test.YtmbdimonfdncpaaGreatDoorRows
import Derived.Test.YtmbdimonfdncpaaGreatDoorPlain
import Derived.WalkKit
import Derived.WalkLawsBesides
import Derived.Outline
import Derived.IntWalk
import Derived.Lib.Hide
import Derived.Lib.Bytealg
import Derived.Laws.Externs
import Derived.Laws.IdiomStrings
import Derived.OwnWalk
import Derived.Deep.QuietTactic
import Derived.Deep.RegionHeld3
import Derived.BigQuiet
import Derived.BigCall
import Derived.WalkSmall
import Derived.Shelf.Lay
import Derived.Lib.SlBytesConst
namespace Go.Proofs.YtmbdimonfdncpaaGreatDoor
open Go.RowKit
set_option maxRecDepth 100000
set_option maxHeartbeats 400000
theorem below_then {w a b : World} (h : Below w.heap.size w a) (k : Below a.heap.size a b) : Below w.heap.size w b := h.trans (k.mono h.size)
theorem ret_int {k : IntKind} {a b : Int} (h : a = b) : Ending.returned (.int k a) = .returned (.int k b) := by rw [h]
theorem ret_bool {a b : Bool} (h : a = b) : Ending.returned (.bool a) = .returned (.bool b) := by rw [h]
/-- the slice at A reads as the bytes l, in blocks that are there -/
def Bts (w : World) (A : Option Addr) (l : List UInt8) : Prop :=
  l = [] ∨ ∃ b off, A = some ⟨b, off, none⟩ ∧ b < w.heap.size ∧ ∀ i (h : i < l.length), w.cell? ⟨b, off + i, none⟩ = some (.int .u8 (l[i].toNat : Int))
theorem Bts.below {w w' : World} {A : Option Addr} {l : List UInt8} (h : Bts w A l) (hb : Below w.heap.size w w') : Bts w' A l := by
  rcases h with h | ⟨b, off, rfl, hlt, hc⟩
  · exact .inl h
  · exact .inr ⟨b, off, rfl, Nat.lt_of_lt_of_le hlt hb.size, fun i hi => (hb.cell (p := ⟨b, off + i, none⟩) hlt).trans (hc i hi)⟩
theorem Bts.take {w : World} {A : Option Addr} {l : List UInt8} (h : Bts w A l) (n : Nat) : Bts w A (l.take n) := by
  rcases h with rfl | ⟨b, off, rfl, hlt, hc⟩
  · left; simp
  · refine .inr ⟨b, off, rfl, hlt, fun i hi => ?_⟩
    rw [List.length_take] at hi
    rw [hc i (by omega), List.getElem_take]
theorem conv_bts (w : World) (l : List UInt8) (b off c : Nat) (h : ∀ i (h : i < l.length), w.cell? ⟨b, off + i, none⟩ = some (.int .u8 (l[i].toNat : Int))) :
    (convert 27 9 (.slice (some ⟨b, off, none⟩) l.length c)).run Tryz.prog w = .ok (.string ⟨l.toArray⟩) w :=
  run_convert_bytes_back w 27 9 5 _ c l Tryz.underlying27 Tryz.underlying5 Tryz.underlying9 (fun j hj => by rw [Go.WideShapes.add_plain]; exact h j hj)
theorem conv_any {w : World} {A : Option Addr} {l : List UInt8} (h : Bts w A l) (c : Nat) : (convert 27 9 (.slice A l.length c)).run Tryz.prog w = .ok (.string ⟨l.toArray⟩) w := by
  rcases h with rfl | ⟨b, off, rfl, _, hc⟩
  · cases A with
    | none => exact run_convert_bytes_nil w 27 5 Tryz.underlying27 Tryz.underlying5 0 c 9 Tryz.underlying9
    | some a => exact run_convert_bytes_back w 27 9 5 a c [] Tryz.underlying27 Tryz.underlying5 Tryz.underlying9 (fun j hj => by simp at hj)
  · exact conv_bts w l b off c hc
theorem byte_back (x : UInt8) : (((x.toNat : Nat) : Int).toNat).toUInt8 = x := by simp
theorem push_list (acc : ByteArray) (x : UInt8) (l : List UInt8) : (⟨((acc.push x).data.toList ++ l).toArray⟩ : ByteArray) = ⟨(acc.data.toList ++ x :: l).toArray⟩ := by
  congr 1
  simp [ByteArray.push]
theorem run_loadBytes (w : World) (b : Nat) : ∀ (l : List UInt8) (off : Nat) (acc : ByteArray), (∀ i (h : i < l.length), w.cell? ⟨b, off + i, none⟩ = some (.int .u8 (l[i].toNat : Int))) →
    (Extern.Bytes.loadBytes ⟨b, off, none⟩ l.length acc).run Tryz.prog w = .ok ⟨(acc.data.toList ++ l).toArray⟩ w
  | [], off, acc, _ => by
    have e : (⟨(acc.data.toList ++ ([] : List UInt8)).toArray⟩ : ByteArray) = acc := by simp
    rw [e]
    rfl
  | x :: l, off, acc, h => by
    have h0 : w.cell? ⟨b, off, none⟩ = some (.int .u8 (x.toNat : Int)) := h 0 (by simp)
    have ih := run_loadBytes w b l (off + 1) (acc.push x) (fun i hi => by
      have := h (i + 1) (by simp; omega)
      rw [Nat.add_assoc, Nat.add_comm 1 i]
      exact this)
    rw [List.length_cons, Extern.Bytes.loadBytes, Sem.run_bind, run_load, h0]
    simp only [Result.andThen, byte_back]
    rw [Go.WideShapes.add_plain, ih, push_list]
theorem run_bytesOf {w : World} {A : Option Addr} {l : List UInt8} (h : Bts w A l) (c : Nat) : (Extern.Bytes.bytesOf (.slice A l.length c)).run Tryz.prog w = .ok ⟨l.toArray⟩ w := by
  rcases h with rfl | ⟨b, off, rfl, _, hc⟩
  · cases A with
    | none => rfl
    | some a => rfl
  · exact run_loadBytes w b l off .empty hc
theorem run_compare {w : World} {A B : Option Addr} {l m : List UInt8} (ha : Bts w A l) (hb : Bts w B m) (c d : Nat) :
    (Extern.BytealgCompare.compare #[.slice A l.length c, .slice B m.length d]).run Tryz.prog w = .ok (.int .i64 (cmp l m)) w := by
  change Sem.run Tryz.prog (do pure (goInt (Extern.BytealgCompare.cmp (← Extern.Bytes.bytesOf (.slice A l.length c)) (← Extern.Bytes.bytesOf (.slice B m.length d))))) w = _
  simp only [Sem.run_bind, run_bytesOf ha c, run_bytesOf hb d, Sem.run_pure, Result.andThen]
  rw [Lib.cmp_eq]
  rfl
theorem enter95 (args : Array Value) (w : World) : (callFunc 83 args).run Tryz.prog w = ((Extern.BytealgCompare.compare args).run Tryz.prog w).andThen fun v w' => .ok (.value v) w' :=
  run_callFunc_extern Tryz.func83 (by kernel_rfl) (by kernel_rfl) (by kernel_rfl) (by kernel_rfl) args w
theorem bytesCompare_any {w : World} {A B : Option Addr} {l m : List UInt8} (ha : Bts w A l) (hb : Bts w B m) (c d : Nat) :
    Calls Tryz.prog 57 #[.slice A l.length c, .slice B m.length d] w fun e w' => e = .returned (.int .i64 (cmp l m)) ∧ w = w' := by
  have h := run_compare ha hb c d
  have H := Lib.hid h; clear h
  go_enter Tryz.func57, Tryz.ntmps57
  go_wp2
  rw [enter95, H.out]
  simp only [Result.andThen]
  rw [Oper.upon_value]
  go_wp2
  go_ret
  exact ⟨rfl, rfl⟩
theorem compare_any {w : World} {A B : Option Addr} {l m : List UInt8} (ha : Bts w A l) (hb : Bts w B m) (c d : Nat) :
    Calls Tryz.prog 38 #[.slice A l.length c, .slice B m.length d] w fun e w' => e = .returned (.int .i64 (cmp l m)) ∧ w = w' := by
  have h := bytesCompare_any ha hb c d
  have H := Lib.hid h; clear h
  go_enter Tryz.func38, Tryz.ntmps38
  go_wp2_with fail
  refine H.out.mono ?_
  rintro e w' ⟨rfl, rfl⟩
  go_wp2_with fail
  go_ret
  exact ⟨rfl, rfl⟩
theorem at_list (s : ByteArray) (k : Nat) (h : k < s.size) (h2 : k < s.data.toList.length) : s.data.toList[k] = (s[k]'h) := rfl
theorem Bts.at {w : World} {A : Option Addr} {l : List UInt8} (h : Bts w A l) {j : Nat} (hj : j < l.length) : ∃ b off, A = some ⟨b, off, none⟩ ∧ w.cell? ⟨b, off + j, none⟩ = some (.int .u8 (l[j].toNat : Int)) := by
  rcases h with rfl | ⟨b, off, rfl, hlt, hc⟩
  · simp at hj
  · exact ⟨b, off, rfl, hc j hj⟩
/-- the slice at A reads as the pairs L -/
def Pcs (w : World) (A : Option Addr) (L : List Pr) : Prop :=
  L = [] ∨ ∃ b off, A = some ⟨b, off, none⟩ ∧ b < w.heap.size ∧ ∀ i (h : i < L.length), ∃ ka kc va vc,
    w.cell? ⟨b, off + i * 2, none⟩ = some (.slice ka (L[i]).1.length kc) ∧ w.cell? ⟨b, off + i * 2 + 1, none⟩ = some (.slice va (L[i]).2.length vc) ∧ Bts w ka (L[i]).1 ∧ Bts w va (L[i]).2
theorem Pcs.below {w w' : World} {A : Option Addr} {L : List Pr} (h : Pcs w A L) (hb : Below w.heap.size w w') : Pcs w' A L := by
  rcases h with h | ⟨b, off, rfl, hlt, hc⟩
  · exact .inl h
  · refine .inr ⟨b, off, rfl, Nat.lt_of_lt_of_le hlt hb.size, fun i hi => ?_⟩
    obtain ⟨ka, kc, va, vc, h1, h2, h3, h4⟩ := hc i hi
    exact ⟨ka, kc, va, vc, (hb.cell (p := ⟨b, off + i * 2, none⟩) hlt).trans h1, (hb.cell (p := ⟨b, off + i * 2 + 1, none⟩) hlt).trans h2, h3.below hb, h4.below hb⟩
theorem Pcs.at {w : World} {A : Option Addr} {L : List Pr} (h : Pcs w A L) {j : Nat} (hj : j < L.length) : ∃ b off ka kc va vc, A = some ⟨b, off, none⟩ ∧ b < w.heap.size ∧
    w.cell? ⟨b, off + j * 2, none⟩ = some (.slice ka (L[j]).1.length kc) ∧ w.cell? ⟨b, off + j * 2 + 1, none⟩ = some (.slice va (L[j]).2.length vc) ∧ Bts w ka (L[j]).1 ∧ Bts w va (L[j]).2 := by
  rcases h with rfl | ⟨b, off, rfl, hlt, hc⟩
  · simp at hj
  · obtain ⟨ka, kc, va, vc, h⟩ := hc j hj
    exact ⟨b, off, ka, kc, va, vc, rfl, hlt, h⟩
def tiny (L : List Pr) : Bool := L.all fun p => decide (p.1.length ≤ 100) && decide (p.2.length ≤ 100)
theorem tiny_take {L : List Pr} {n : Nat} (h : n < L.length) : tiny (L.take (n + 1)) = (tiny (L.take n) && (decide ((L[n]).1.length ≤ 100) && decide ((L[n]).2.length ≤ 100))) := by
  rw [List.take_succ_eq_append_getElem h]
  simp only [tiny, List.all_append, List.all_cons, List.all_nil, Bool.and_true]
theorem tiny_no {L : List Pr} {n : Nat} (h : n < L.length) (hn : (decide ((L[n]).1.length ≤ 100) && decide ((L[n]).2.length ≤ 100)) = false) : tiny L = false := by
  rw [Bool.eq_false_iff]
  intro e
  have := List.all_eq_true.1 e _ (List.getElem_mem h)
  rw [hn] at this
  cases this
set_option maxRecDepth 100000
end Go.Proofs.YtmbdimonfdncpaaGreatDoor
