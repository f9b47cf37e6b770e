/-
  The contract of awake: the document's example.
-/
import Derived.Test.YtfhnmmiakknilaaSound
import Derived.Lib.ConvBytes
namespace Go.Proofs.Ytfhnmmiakknilaa
open Go.RowKit
set_option maxHeartbeats 4000000
set_option maxRecDepth 100000
theorem conv_bytes (s : ByteArray) (w : World) : ∃ w' c, (convert 9 52 (.string s)).run Try.prog w = .ok (.slice (some ⟨w.heap.size, 0, none⟩) s.size c) w' ∧ Bts w' (some ⟨w.heap.size, 0, none⟩) s.data.toList ∧ Below w.heap.size w w' := by
  refine ⟨_, _, Lib.run_convert_string_bytes w 9 52 5 s Try.underlying9 Try.underlying52 Try.underlying5, ?_, ⟨rfl, rfl, rfl, ?_, fun k hk => Lib.bytesWorld_at_old w 5 s k hk⟩⟩
  · refine .inr ⟨_, 0, rfl, by rw [Lib.bytesWorld_size]; omega, fun i hi => ?_⟩
    have hs : i < s.size := by rw [Lib.size_eq]; exact hi
    rw [Nat.zero_add, Lib.bytesWorld_cell w 5 s i hs]
    rw [List.getD_eq_getElem?_getD, List.getElem?_eq_getElem hi, Option.getD_some]
  · rw [Lib.bytesWorld_size]; omega
def exK (j : Nat) : List UInt8 := if j = 0 then [127] else if j = 1 then [126] else [128]
/-- what the example's first j calls come to -/
def exL : Nat → List Pr
  | 0 => []
  | j + 1 => put (exL j) (exK j, [])
theorem exL_srt : ∀ j, srt (exL j)
  | 0 => List.Pairwise.nil
  | j + 1 => srt_put _ _ (exL_srt j)
theorem exL_out : out (exL 3) [127] = [([126], []), ([128], [])] := by decide
theorem exL_has : has (exL 3) [127] = true := by decide
theorem exL_len : ∀ j, (exL j).length ≤ j
  | 0 => by simp [exL]
  | j + 1 => by have := exL_len j; have := put_length (exL j) (exK j, []); simp only [exL]; omega
theorem conv_const (w : World) (C : Array Value) (n c : Nat) : (convert 52 52 (.slice (some ⟨w.heap.size, 0, none⟩) n c)).run Try.prog (w.alloc (.cells C 5)) = .ok (.slice (some ⟨w.heap.size, 0, none⟩) n c) (w.alloc (.cells C 5 (C.size, C.size + 1))) :=
  Lib.run_convert_bytes_const (P := Try.prog) w 52 5 C n c Try.underlying52 Try.underlying5
/-- where the example's loop has come to -/
structure ExAt (w : World) (j : Nat) (p : Option Addr) (wr : World) (t : Tr) : Prop where
  tre : Tre (fun _ => True) wr t p
  ev : t.even
  list : t.list = exL j
  bel : Below w.heap.size w wr
theorem ExAt.size {w wr : World} {j : Nat} {p : Option Addr} {t : Tr} (h : ExAt w j p wr t) : t.size ≤ j := by
  have := exL_len j
  rw [← h.list, Tr.length] at this
  exact this
end Go.Proofs.Ytfhnmmiakknilaa
