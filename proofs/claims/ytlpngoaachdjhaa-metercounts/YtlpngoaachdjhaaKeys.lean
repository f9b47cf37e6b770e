/-
  Slices of bytes and what they read as; contracts of Compare and of the reference's Less.
-/
import Derived.Test.YtlpngoaachdjhaaRef
import Derived.Test.YtlpngoaachdjhaaOrder
import Derived.Laws.Externs
namespace Go.Proofs.Ytlpngoaachdjhaa
open Go.RowKit
set_option maxHeartbeats 400000
/-- the slice at A reads as the bytes l, in blocks that are there -/
def Bts (w : World) (A : Option Addr) (l : List UInt8) : Prop :=
  l = [] ∨ ∃ b off, A = some ⟨b, off, none⟩ ∧ b < w.heap.size ∧ ∀ i (h : i < l.length), w.cell? ⟨b, off + i, none⟩ = some (.int .u8 (l[i].toNat : Int))
theorem Bts.below {w w' : World} {A : Option Addr} {l : List UInt8} (h : Bts w A l) (hb : Below w.heap.size w w') : Bts w' A l := by
  rcases h with h | ⟨b, off, rfl, hlt, hc⟩
  · exact .inl h
  · exact .inr ⟨b, off, rfl, Nat.lt_of_lt_of_le hlt hb.size, fun i hi => (hb.cell (p := ⟨b, off + i, none⟩) hlt).trans (hc i hi)⟩
theorem conv_bts (w : World) (l : List UInt8) (b off c : Nat) (h : ∀ i (h : i < l.length), w.cell? ⟨b, off + i, none⟩ = some (.int .u8 (l[i].toNat : Int))) :
    (convert 29 9 (.slice (some ⟨b, off, none⟩) l.length c)).run Try.prog w = .ok (.string ⟨l.toArray⟩) w :=
  run_convert_bytes_back w 29 9 5 _ c l Try.underlying29 Try.underlying5 Try.underlying9 (fun j hj => by rw [Go.WideShapes.add_plain]; exact h j hj)
theorem conv_any {w : World} {A : Option Addr} {l : List UInt8} (h : Bts w A l) (c : Nat) : (convert 29 9 (.slice A l.length c)).run Try.prog w = .ok (.string ⟨l.toArray⟩) w := by
  rcases h with rfl | ⟨b, off, rfl, _, hc⟩
  · cases A with
    | none => exact run_convert_bytes_nil w 29 5 Try.underlying29 Try.underlying5 0 c 9 Try.underlying9
    | some a => exact run_convert_bytes_back w 29 9 5 a c [] Try.underlying29 Try.underlying5 Try.underlying9 (fun j hj => by simp at hj)
  · exact conv_bts w l b off c hc
theorem byte_back (x : UInt8) : (((x.toNat : Nat) : Int).toNat).toUInt8 = x := by simp
theorem push_list (acc : ByteArray) (x : UInt8) (l : List UInt8) : (⟨((acc.push x).data.toList ++ l).toArray⟩ : ByteArray) = ⟨(acc.data.toList ++ x :: l).toArray⟩ := by
  congr 1
  simp [ByteArray.push]
theorem run_loadBytes (w : World) (b : Nat) : ∀ (l : List UInt8) (off : Nat) (acc : ByteArray), (∀ i (h : i < l.length), w.cell? ⟨b, off + i, none⟩ = some (.int .u8 (l[i].toNat : Int))) →
    (Extern.Bytes.loadBytes ⟨b, off, none⟩ l.length acc).run Try.prog w = .ok ⟨(acc.data.toList ++ l).toArray⟩ w
  | [], off, acc, _ => by
    have e : (⟨(acc.data.toList ++ ([] : List UInt8)).toArray⟩ : ByteArray) = acc := by simp
    rw [e]
    rfl
  | x :: l, off, acc, h => by
    have h0 : w.cell? ⟨b, off, none⟩ = some (.int .u8 (x.toNat : Int)) := h 0 (by simp)
    have ih := run_loadBytes w b l (off + 1) (acc.push x) (fun i hi => by
      have := h (i + 1) (by simp; omega)
      rw [Nat.add_assoc, Nat.add_comm 1 i]
      exact this)
    rw [List.length_cons, Extern.Bytes.loadBytes, Sem.run_bind, run_load, h0]
    simp only [Result.andThen, byte_back]
    rw [Go.WideShapes.add_plain, ih, push_list]
theorem run_bytesOf {w : World} {A : Option Addr} {l : List UInt8} (h : Bts w A l) (c : Nat) : (Extern.Bytes.bytesOf (.slice A l.length c)).run Try.prog w = .ok ⟨l.toArray⟩ w := by
  rcases h with rfl | ⟨b, off, rfl, _, hc⟩
  · cases A with
    | none => rfl
    | some a => rfl
  · exact run_loadBytes w b l off .empty hc
theorem run_compare {w : World} {A B : Option Addr} {l m : List UInt8} (ha : Bts w A l) (hb : Bts w B m) (c d : Nat) :
    (Extern.BytealgCompare.compare #[.slice A l.length c, .slice B m.length d]).run Try.prog w = .ok (.int .i64 (cmp l m)) w := by
  change Sem.run Try.prog (do pure (goInt (Extern.BytealgCompare.cmp (← Extern.Bytes.bytesOf (.slice A l.length c)) (← Extern.Bytes.bytesOf (.slice B m.length d))))) w = _
  simp only [Sem.run_bind, run_bytesOf ha c, run_bytesOf hb d, Sem.run_pure, Result.andThen]
  rw [Lib.cmp_eq]
  rfl
theorem enter22 (args : Array Value) (w : World) : (callFunc 22 args).run Try.prog w = ((Extern.BytealgCompare.compare args).run Try.prog w).andThen fun v w' => .ok (.value v) w' :=
  run_callFunc_extern Try.func22 (by kernel_rfl) (by kernel_rfl) (by kernel_rfl) (by kernel_rfl) args w
theorem bytesCompare_any {w : World} {A B : Option Addr} {l m : List UInt8} (ha : Bts w A l) (hb : Bts w B m) (c d : Nat) :
    Calls Try.prog 21 #[.slice A l.length c, .slice B m.length d] w fun e w' => e = .returned (.int .i64 (cmp l m)) ∧ w = w' := by
  have h := run_compare ha hb c d
  have H := Lib.hid h; clear h
  go_enter Try.func21, Try.ntmps21
  go_wp2
  rw [enter22, H.out]
  simp only [Result.andThen]
  rw [Oper.upon_value]
  go_wp2
  go_ret
  exact ⟨rfl, rfl⟩
theorem compare_any {w : World} {A B : Option Addr} {l m : List UInt8} (ha : Bts w A l) (hb : Bts w B m) (c d : Nat) :
    Calls Try.prog 18 #[.slice A l.length c, .slice B m.length d] w fun e w' => e = .returned (.int .i64 (cmp l m)) ∧ w = w' := by
  have h := bytesCompare_any ha hb c d
  have H := Lib.hid h; clear h
  go_enter Try.func18, Try.ntmps18
  go_wp2_with fail
  refine H.out.mono ?_
  rintro e w' ⟨rfl, rfl⟩
  go_wp2_with fail
  go_ret
  exact ⟨rfl, rfl⟩
theorem at_list (s : ByteArray) (k : Nat) (h : k < s.size) (h2 : k < s.data.toList.length) : s.data.toList[k] = (s[k]'h) := rfl
theorem less_any (a b : ByteArray) (w : World) (ha : a.size ≤ 1000) (hb : b.size ≤ 1000) :
    Calls Try.prog 10 #[.string a, .string b] w fun e w' => e = .returned (.bool (decide (cmp a.data.toList b.data.toList < 0))) ∧ Below w.heap.size w w' := by
  go_enter Try.func10, Try.ntmps10
  go_wp2
  go_loopw [5] (fun i wr => ∃ j : Nat, i = .int .i64 j ∧ j ≤ a.size ∧ j ≤ b.size ∧ Hid (Below w.heap.size w wr) ∧ Hid (a.data.toList.take j = b.data.toList.take j)) (fun i _ => a.size - (intOf i).toNat)
  case atStart => exact ⟨0, rfl, by omega, by omega, Below.refl _ _, by simp [Hid]⟩
  case round =>
    obtain ⟨j, rfl, hj1, hj2, hbel, htk⟩ := hrel
    have ea : a.data.toList.length = a.size := (Lib.size_eq a).symm
    have eb : b.data.toList.length = b.size := (Lib.size_eq b).symm
    by_cases h1 : j < a.size
    · by_cases h2 : j < b.size
      · by_cases h3 : (a[j]'h1).toNat = (b[j]'h2).toNat
        · have e3 : ((((a[j]'h1).toNat : Int)) != (((b[j]'h2).toNat : Int))) = false := by rw [h3]; simp
          have H3 := Lib.hid h3; clear h3
          go_wp2
          go_quiet (fail)
          go_wp2
          go_roundw
          case rel =>
            refine ⟨j + 1, by go_num, by omega, by omega, ?_, ?_⟩
            · exact below_drewN hbel.out _
            · show _ = _
              refine take_on htk.out (by omega) (by omega) ?_
              rw [at_list a j h1, at_list b j h2]
              exact UInt8.toNat_inj.1 H3.out
          case measure => simp [intOf]; omega
        · have e3 : ((((a[j]'h1).toNat : Int)) != (((b[j]'h2).toNat : Int))) = true := by simp; omega
          have hs := cmp_stop htk.out (by omega) (by omega) (by
            rw [at_list a j h1, at_list b j h2]
            exact fun e => h3 (by rw [e]))
          rw [at_list a j h1, at_list b j h2] at hs
          have HS := Lib.hid hs; clear hs
          have H3 := Lib.hid h3; clear h3
          go_wp2
          go_quiet (fail)
          go_wp2
          go_quiet (fail)
          go_wp2
          go_ret
          refine ⟨ret_bool ?_, below_drewN (below_drewN hbel.out _) _⟩
          rw [HS.out]
          split <;> simp <;> omega
      · go_wp2
        go_ret
        refine ⟨ret_bool ?_, hbel.out⟩
        rw [cmp_end htk.out (by omega)]
        simp
    · go_wp2
      go_ret
      refine ⟨ret_bool ?_, hbel.out⟩
      rw [cmp_end htk.out (by omega)]
      simp
end Go.Proofs.Ytlpngoaachdjhaa
