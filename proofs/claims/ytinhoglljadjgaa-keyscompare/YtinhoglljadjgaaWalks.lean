/-
  Slices of bytes and what they read as; contracts of Compare, Common, Begins and of the reference's Less and Begins.
-/
import Derived.Test.YtinhoglljadjgaaRows
import Derived.Test.YtinhoglljadjgaaMath
import Derived.WalkKit
import Derived.WalkLawsBesides
import Derived.Outline
import Derived.IntWalk
import Derived.Lib.Hide
import Derived.Lib.Bytealg
import Derived.Laws.Externs
import Derived.Laws.IdiomStrings
import Derived.OwnWalk
import Derived.Deep.QuietTactic
import Derived.Deep.RegionHeld3
import Derived.BigQuiet
import Derived.BigCall
import Derived.WalkSmall
import Derived.Lib.SlBytesConst
namespace Go.Proofs.Ytinhoglljadjgaa
open Go.RowKit
set_option maxHeartbeats 400000
theorem below_then {w a b : World} (h : Below w.heap.size w a) (k : Below a.heap.size a b) : Below w.heap.size w b := h.trans (k.mono h.size)
theorem ret_int {k : IntKind} {a b : Int} (h : a = b) : Ending.returned (.int k a) = .returned (.int k b) := by rw [h]
theorem ret_bool {a b : Bool} (h : a = b) : Ending.returned (.bool a) = .returned (.bool b) := by rw [h]
/-- the slice at A reads as the bytes l, in blocks that are there -/
def Bts (w : World) (A : Option Addr) (l : List UInt8) : Prop :=
  l = [] ∨ ∃ b off, A = some ⟨b, off, none⟩ ∧ b < w.heap.size ∧ ∀ i (h : i < l.length), w.cell? ⟨b, off + i, none⟩ = some (.int .u8 (l[i].toNat : Int))
theorem Bts.below {w w' : World} {A : Option Addr} {l : List UInt8} (h : Bts w A l) (hb : Below w.heap.size w w') : Bts w' A l := by
  rcases h with h | ⟨b, off, rfl, hlt, hc⟩
  · exact .inl h
  · exact .inr ⟨b, off, rfl, Nat.lt_of_lt_of_le hlt hb.size, fun i hi => (hb.cell (p := ⟨b, off + i, none⟩) hlt).trans (hc i hi)⟩
theorem Bts.take {w : World} {A : Option Addr} {l : List UInt8} (h : Bts w A l) (n : Nat) : Bts w A (l.take n) := by
  rcases h with rfl | ⟨b, off, rfl, hlt, hc⟩
  · left; simp
  · refine .inr ⟨b, off, rfl, hlt, fun i hi => ?_⟩
    rw [List.length_take] at hi
    rw [hc i (by omega), List.getElem_take]
theorem conv_bts (w : World) (l : List UInt8) (b off c : Nat) (h : ∀ i (h : i < l.length), w.cell? ⟨b, off + i, none⟩ = some (.int .u8 (l[i].toNat : Int))) :
    (convert 22 9 (.slice (some ⟨b, off, none⟩) l.length c)).run Try.prog w = .ok (.string ⟨l.toArray⟩) w :=
  run_convert_bytes_back w 22 9 5 _ c l Try.underlying22 Try.underlying5 Try.underlying9 (fun j hj => by rw [Go.WideShapes.add_plain]; exact h j hj)
theorem conv_any {w : World} {A : Option Addr} {l : List UInt8} (h : Bts w A l) (c : Nat) : (convert 22 9 (.slice A l.length c)).run Try.prog w = .ok (.string ⟨l.toArray⟩) w := by
  rcases h with rfl | ⟨b, off, rfl, _, hc⟩
  · cases A with
    | none => exact run_convert_bytes_nil w 22 5 Try.underlying22 Try.underlying5 0 c 9 Try.underlying9
    | some a => exact run_convert_bytes_back w 22 9 5 a c [] Try.underlying22 Try.underlying5 Try.underlying9 (fun j hj => by simp at hj)
  · exact conv_bts w l b off c hc
theorem byte_back (x : UInt8) : (((x.toNat : Nat) : Int).toNat).toUInt8 = x := by simp
theorem push_list (acc : ByteArray) (x : UInt8) (l : List UInt8) : (⟨((acc.push x).data.toList ++ l).toArray⟩ : ByteArray) = ⟨(acc.data.toList ++ x :: l).toArray⟩ := by
  congr 1
  simp [ByteArray.push]
theorem run_loadBytes (w : World) (b : Nat) : ∀ (l : List UInt8) (off : Nat) (acc : ByteArray), (∀ i (h : i < l.length), w.cell? ⟨b, off + i, none⟩ = some (.int .u8 (l[i].toNat : Int))) →
    (Extern.Bytes.loadBytes ⟨b, off, none⟩ l.length acc).run Try.prog w = .ok ⟨(acc.data.toList ++ l).toArray⟩ w
  | [], off, acc, _ => by
    have e : (⟨(acc.data.toList ++ ([] : List UInt8)).toArray⟩ : ByteArray) = acc := by simp
    rw [e]
    rfl
  | x :: l, off, acc, h => by
    have h0 : w.cell? ⟨b, off, none⟩ = some (.int .u8 (x.toNat : Int)) := h 0 (by simp)
    have ih := run_loadBytes w b l (off + 1) (acc.push x) (fun i hi => by
      have := h (i + 1) (by simp; omega)
      rw [Nat.add_assoc, Nat.add_comm 1 i]
      exact this)
    rw [List.length_cons, Extern.Bytes.loadBytes, Sem.run_bind, run_load, h0]
    simp only [Result.andThen, byte_back]
    rw [Go.WideShapes.add_plain, ih, push_list]
theorem run_bytesOf {w : World} {A : Option Addr} {l : List UInt8} (h : Bts w A l) (c : Nat) : (Extern.Bytes.bytesOf (.slice A l.length c)).run Try.prog w = .ok ⟨l.toArray⟩ w := by
  rcases h with rfl | ⟨b, off, rfl, _, hc⟩
  · cases A with
    | none => rfl
    | some a => rfl
  · exact run_loadBytes w b l off .empty hc
theorem run_compare {w : World} {A B : Option Addr} {l m : List UInt8} (ha : Bts w A l) (hb : Bts w B m) (c d : Nat) :
    (Extern.BytealgCompare.compare #[.slice A l.length c, .slice B m.length d]).run Try.prog w = .ok (.int .i64 (cmp l m)) w := by
  change Sem.run Try.prog (do pure (goInt (Extern.BytealgCompare.cmp (← Extern.Bytes.bytesOf (.slice A l.length c)) (← Extern.Bytes.bytesOf (.slice B m.length d))))) w = _
  simp only [Sem.run_bind, run_bytesOf ha c, run_bytesOf hb d, Sem.run_pure, Result.andThen]
  rw [Lib.cmp_eq]
  rfl
theorem enter24 (args : Array Value) (w : World) : (callFunc 24 args).run Try.prog w = ((Extern.BytealgCompare.compare args).run Try.prog w).andThen fun v w' => .ok (.value v) w' :=
  run_callFunc_extern Try.func24 (by kernel_rfl) (by kernel_rfl) (by kernel_rfl) (by kernel_rfl) args w
theorem bytesCompare_any {w : World} {A B : Option Addr} {l m : List UInt8} (ha : Bts w A l) (hb : Bts w B m) (c d : Nat) :
    Calls Try.prog 21 #[.slice A l.length c, .slice B m.length d] w fun e w' => e = .returned (.int .i64 (cmp l m)) ∧ w = w' := by
  have h := run_compare ha hb c d
  have H := Lib.hid h; clear h
  go_enter Try.func21, Try.ntmps21
  go_wp2
  rw [enter24, H.out]
  simp only [Result.andThen]
  rw [Oper.upon_value]
  go_wp2
  go_ret
  exact ⟨rfl, rfl⟩
theorem compare_any {w : World} {A B : Option Addr} {l m : List UInt8} (ha : Bts w A l) (hb : Bts w B m) (c d : Nat) :
    Calls Try.prog 12 #[.slice A l.length c, .slice B m.length d] w fun e w' => e = .returned (.int .i64 (cmp l m)) ∧ w = w' := by
  have h := bytesCompare_any ha hb c d
  have H := Lib.hid h; clear h
  go_enter Try.func12, Try.ntmps12
  go_wp2_with fail
  refine H.out.mono ?_
  rintro e w' ⟨rfl, rfl⟩
  go_wp2_with fail
  go_ret
  exact ⟨rfl, rfl⟩
theorem at_list (s : ByteArray) (k : Nat) (h : k < s.size) (h2 : k < s.data.toList.length) : s.data.toList[k] = (s[k]'h) := rfl
theorem less_any (a b : ByteArray) (w : World) (ha : a.size ≤ 1000) (hb : b.size ≤ 1000) :
    Calls Try.prog 10 #[.string a, .string b] w fun e w' => e = .returned (.bool (decide (cmp a.data.toList b.data.toList < 0))) ∧ Below w.heap.size w w' := by
  go_enter Try.func10, Try.ntmps10
  go_wp2
  go_loopw [5] (fun i wr => ∃ j : Nat, i = .int .i64 j ∧ j ≤ a.size ∧ j ≤ b.size ∧ Hid (Below w.heap.size w wr) ∧ Hid (a.data.toList.take j = b.data.toList.take j)) (fun i _ => a.size - (intOf i).toNat)
  case atStart => exact ⟨0, rfl, by omega, by omega, Below.refl _ _, by simp [Hid]⟩
  case round =>
    obtain ⟨j, rfl, hj1, hj2, hbel, htk⟩ := hrel
    have ea : a.data.toList.length = a.size := (Lib.size_eq a).symm
    have eb : b.data.toList.length = b.size := (Lib.size_eq b).symm
    by_cases h1 : j < a.size
    · by_cases h2 : j < b.size
      · by_cases h3 : (a[j]'h1).toNat = (b[j]'h2).toNat
        · have e3 : ((((a[j]'h1).toNat : Int)) != (((b[j]'h2).toNat : Int))) = false := by rw [h3]; simp
          have H3 := Lib.hid h3; clear h3
          go_wp2
          go_quiet (fail)
          go_wp2
          go_roundw
          case rel =>
            refine ⟨j + 1, by go_num, by omega, by omega, ?_, ?_⟩
            · exact below_drewN hbel.out _
            · show _ = _
              refine take_next htk.out (by omega) (by omega) ?_
              rw [at_list a j h1, at_list b j h2]
              exact UInt8.toNat_inj.1 H3.out
          case measure => simp [intOf]; omega
        · have e3 : ((((a[j]'h1).toNat : Int)) != (((b[j]'h2).toNat : Int))) = true := by simp; omega
          have hs := cmp_stop htk.out (by omega) (by omega) (by
            rw [at_list a j h1, at_list b j h2]
            exact fun e => h3 (by rw [e]))
          rw [at_list a j h1, at_list b j h2] at hs
          have HS := Lib.hid hs; clear hs
          have H3 := Lib.hid h3; clear h3
          go_wp2
          go_quiet (fail)
          go_wp2
          go_quiet (fail)
          go_wp2
          go_ret
          refine ⟨ret_bool ?_, below_drewN (below_drewN hbel.out _) _⟩
          rw [HS.out]
          split <;> simp <;> omega
      · go_wp2
        go_ret
        refine ⟨ret_bool ?_, hbel.out⟩
        rw [cmp_end htk.out (by omega)]
        simp
    · go_wp2
      go_ret
      refine ⟨ret_bool ?_, hbel.out⟩
      rw [cmp_end htk.out (by omega)]
      simp
theorem Bts.at {w : World} {A : Option Addr} {l : List UInt8} (h : Bts w A l) {j : Nat} (hj : j < l.length) : ∃ b off, A = some ⟨b, off, none⟩ ∧ w.cell? ⟨b, off + j, none⟩ = some (.int .u8 (l[j].toNat : Int)) := by
  rcases h with rfl | ⟨b, off, rfl, hlt, hc⟩
  · simp at hj
  · exact ⟨b, off, rfl, hc j hj⟩
theorem common_any {w : World} {A B : Option Addr} {l m : List UInt8} (ha : Bts w A l) (hb : Bts w B m) (c d : Nat) (h1 : l.length ≤ 1000) (h2 : m.length ≤ 1000) :
    Calls Try.prog 11 #[.slice A l.length c, .slice B m.length d] w fun e w' => e = .returned (.int .i64 ((com l m : Nat) : Int)) ∧ Below w.heap.size w w' := by
  have HA := Lib.hid ha; clear ha
  have HB := Lib.hid hb; clear hb
  go_enter Try.func11, Try.ntmps11
  go_wp2
  all_goals
    go_loopw [13] (fun i wr => ∃ j : Nat, i = .int .i64 j ∧ j ≤ l.length ∧ j ≤ m.length ∧ Hid (Below w.heap.size w wr) ∧ Hid (l.take j = m.take j)) (fun i _ => l.length - (intOf i).toNat)
    case atStart => exact ⟨0, rfl, by omega, by omega, Below.refl _ _, by simp [Hid]⟩
    case round =>
      obtain ⟨j, rfl, hj1, hj2, hbel, htk⟩ := hrel
      by_cases hlt : j < l.length ∧ j < m.length
      · obtain ⟨g1, g2⟩ := hlt
        obtain ⟨ab, ao, rfl, hca⟩ := (HA.out.below hbel.out).at g1
        obtain ⟨bb, bo, rfl, hcb⟩ := (HB.out.below hbel.out).at g2
        obtain ⟨x, hx⟩ : ∃ x : Nat, x = (l[j]).toNat := ⟨_, rfl⟩
        obtain ⟨y, hy⟩ : ∃ y : Nat, y = (m[j]).toNat := ⟨_, rfl⟩
        rw [← hx] at hca
        rw [← hy] at hcb
        have HX := Lib.hid hx; clear hx
        have HY := Lib.hid hy; clear hy
        clear HA HB
        by_cases h3 : x = y
        · subst h3
          go_wp2
          go_quiet (fail)
          go_wp2
          go_roundw
          case rel =>
            refine ⟨j + 1, by go_num, by omega, by omega, ?_, ?_⟩
            · exact below_drewN hbel.out _
            · show _ = _
              exact take_next htk.out (by omega) (by omega) (UInt8.toNat_inj.1 (HX.out.symm.trans HY.out))
          case measure => simp [intOf]; omega
        · have e3 : ((x : Int) != (y : Int)) = true := by simp; omega
          have hs := com_stop htk.out g1 g2 (fun e => h3 (by rw [HX.out, HY.out, e]))
          have HS := Lib.hid hs; clear hs
          have H3 := Lib.hid h3; clear h3
          go_wp2
          go_quiet (fail)
          go_wp2
          go_ret
          exact ⟨ret_int (by rw [HS.out]), below_drewN hbel.out _⟩
      · go_wp2
        go_ret
        have e : com l m = j := com_end htk.out (by omega)
        exact ⟨ret_int (by rw [e]; omega), hbel.out⟩
theorem equal_any {w : World} {A B : Option Addr} {l m : List UInt8} (ha : Bts w A l) (hb : Bts w B m) (c d : Nat) :
    Calls Try.prog 25 #[.slice A l.length c, .slice B m.length d] w fun e w' => e = .returned (.bool (l == m)) ∧ w = w' := by
  have hc := conv_any ha c
  have hd := conv_any hb d
  clear ha hb
  go_enter Try.func25, Try.ntmps25
  go_wp2
  go_ret
  refine ⟨ret_bool ?_, rfl⟩
  simp
theorem hasPrefix_any {w : World} {A B : Option Addr} {l m : List UInt8} (ha : Bts w A l) (hb : Bts w B m) (c d : Nat) (hlc : l.length ≤ c) (hA : A = none → c = 0) :
    Calls Try.prog 23 #[.slice A l.length c, .slice B m.length d] w fun e w' => e = .returned (.bool (m.isPrefixOf l)) ∧ w = w' := by
  by_cases h : m.length ≤ l.length
  · have hq := equal_any (ha.take m.length) hb c d
    rw [List.length_take, Nat.min_eq_left h] at hq
    have HQ := Lib.hid hq; clear hq
    clear ha hb
    cases A with
    | none =>
      obtain rfl := hA rfl
      obtain rfl : l = [] := List.eq_nil_of_length_eq_zero (by omega)
      obtain rfl : m = [] := List.eq_nil_of_length_eq_zero (by simpa using h)
      clear hA hlc h
      simp only [List.length_nil] at HQ ⊢
      go_enter Try.func23, Try.ntmps23
      go_wp2_with fail
      refine HQ.out.mono ?_
      rintro e w' ⟨rfl, rfl⟩
      go_wp2_with fail
      go_ret
      exact ⟨rfl, rfl⟩
    | some a =>
      clear hA
      go_enter Try.func23, Try.ntmps23
      go_wp2_with fail
      refine HQ.out.mono ?_
      rintro e w' ⟨rfl, rfl⟩
      go_wp2_with fail
      go_ret
      refine ⟨ret_bool ?_, rfl⟩
      rw [Bool.eq_iff_iff, List.isPrefixOf_iff_prefix, List.prefix_iff_eq_take, beq_iff_eq]
      exact eq_comm
  · go_enter Try.func23, Try.ntmps23
    go_wp2_with fail
    go_ret
    refine ⟨ret_bool ?_, rfl⟩
    rw [Eq.comm, Bool.eq_false_iff]
    intro e
    have := (List.isPrefixOf_iff_prefix.1 e).length_le
    omega
theorem begins_any {w : World} {A B : Option Addr} {l m : List UInt8} (ha : Bts w A l) (hb : Bts w B m) (c d : Nat) (hlc : l.length ≤ c) (hA : A = none → c = 0) :
    Calls Try.prog 16 #[.slice A l.length c, .slice B m.length d] w fun e w' => e = .returned (.bool (m.isPrefixOf l)) ∧ w = w' := by
  have H := Lib.hid (hasPrefix_any ha hb c d hlc hA)
  clear ha hb hlc hA
  go_enter Try.func16, Try.ntmps16
  go_wp2_with fail
  refine H.out.mono ?_
  rintro e w' ⟨rfl, rfl⟩
  go_wp2_with fail
  go_ret
  exact ⟨rfl, rfl⟩
theorem pre_stop {a b : List UInt8} {i : Nat} (h1 : i < a.length) (h2 : i < b.length) (e : a[i] ≠ b[i]) : b.isPrefixOf a = false := by
  rw [Bool.eq_false_iff]
  intro h
  obtain ⟨t, rfl⟩ := List.isPrefixOf_iff_prefix.1 h
  exact e (List.getElem_append_left h2)
theorem pre_end {a b : List UInt8} (h : a.take b.length = b.take b.length) : b.isPrefixOf a = true := by
  rw [List.take_length] at h
  exact List.isPrefixOf_iff_prefix.2 (List.prefix_iff_eq_take.2 h.symm)
theorem pre_short {a b : List UInt8} (h : a.length < b.length) : b.isPrefixOf a = false := by
  rw [Bool.eq_false_iff]
  intro e
  have := (List.isPrefixOf_iff_prefix.1 e).length_le
  omega
theorem refBegins_any (a b : ByteArray) (w : World) (ha : a.size ≤ 1000) (hb : b.size ≤ 1000) :
    Calls Try.prog 19 #[.string a, .string b] w fun e w' => e = .returned (.bool (b.data.toList.isPrefixOf a.data.toList)) ∧ Below w.heap.size w w' := by
  have ea : a.data.toList.length = a.size := (Lib.size_eq a).symm
  have eb : b.data.toList.length = b.size := (Lib.size_eq b).symm
  by_cases h : a.size < b.size
  · have hp := pre_short (a := a.data.toList) (b := b.data.toList) (by omega)
    have HP := Lib.hid hp; clear hp
    go_enter Try.func19, Try.ntmps19
    go_wp2
    go_ret
    exact ⟨ret_bool (by rw [HP.out]), Below.refl _ _⟩
  · have EA := Lib.hid ea; clear ea
    have EB := Lib.hid eb; clear eb
    go_enter Try.func19, Try.ntmps19
    go_wp2
    go_loopw [5] (fun i wr => ∃ j : Nat, i = .int .i64 j ∧ j ≤ a.size ∧ j ≤ b.size ∧ Hid (Below w.heap.size w wr) ∧ Hid (a.data.toList.take j = b.data.toList.take j)) (fun i _ => a.size - (intOf i).toNat)
    case atStart => exact ⟨0, rfl, by omega, by omega, Below.refl _ _, by simp [Hid]⟩
    case round =>
      obtain ⟨j, rfl, hj1, hj2, hbel, htk⟩ := hrel
      have ea := EA.out
      have eb := EB.out
      by_cases h2 : j < b.size
      · have h1 : j < a.size := by omega
        by_cases h3 : (a[j]'h1).toNat = (b[j]'h2).toNat
        · have e3 : ((((a[j]'h1).toNat : Int)) != (((b[j]'h2).toNat : Int))) = false := by rw [h3]; simp
          have H3 := Lib.hid h3; clear h3
          go_wp2
          go_quiet (fail)
          go_wp2
          go_roundw
          case rel =>
            refine ⟨j + 1, by go_num, by omega, by omega, ?_, ?_⟩
            · exact below_drewN hbel.out _
            · show _ = _
              refine take_next htk.out (by omega) (by omega) ?_
              rw [at_list a j h1, at_list b j h2]
              exact UInt8.toNat_inj.1 H3.out
          case measure => simp [intOf]; omega
        · have e3 : ((((a[j]'h1).toNat : Int)) != (((b[j]'h2).toNat : Int))) = true := by simp; omega
          have hs := pre_stop (a := a.data.toList) (b := b.data.toList) (i := j) (by omega) (by omega) (by
            rw [at_list a j h1, at_list b j h2]
            exact fun e => h3 (by rw [e]))
          have HS := Lib.hid hs; clear hs
          have H3 := Lib.hid h3; clear h3
          go_wp2
          go_quiet (fail)
          go_wp2
          go_ret
          exact ⟨ret_bool (by rw [HS.out]), below_drewN hbel.out _⟩
      · have e : j = b.data.toList.length := by omega
        have hs := htk.out
        rw [e] at hs
        have HS := Lib.hid (pre_end hs); clear hs
        go_wp2
        go_ret
        exact ⟨ret_bool (by rw [HS.out]), hbel.out⟩
end Go.Proofs.Ytinhoglljadjgaa
