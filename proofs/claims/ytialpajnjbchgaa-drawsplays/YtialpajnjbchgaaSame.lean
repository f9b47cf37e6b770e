/-
  An array of bytes compared with itself; rows and sources that are apart from each other.
-/
import Derived.Test.YtialpajnjbchgaaRef
import Derived.ChangeKeysEq
import Derived.Laws.StructEq
namespace Go.Proofs.Ytialpajnjbchgaa
open Go.RowKit
set_option maxHeartbeats 400000
set_option maxRecDepth 100000
theorem run_part5 (w : World) (xs : Array Value) (i : Nat) (v : Value) (h : xs[i]? = some v) : (Go.part 5 xs i).run Try.prog w = .ok v w := by
  simp [Go.part, isAgg, run_underlying Try.underlying5, h]
theorem run_items (w : World) (l : List UInt8) : ∀ is : List Nat, (∀ i ∈ is, i < l.length) → (Op.eqItems 9999 5 1 (seedV l) (seedV l) is).run Try.prog w = .ok true w
  | [], _ => by simp [Op.eqItems]
  | i :: is, h => by
    have hi := h i (by simp)
    have hp : (seedV l)[i * 1]? = some (.int .u8 (l[i].toNat : Int)) := by rw [Nat.mul_one, seedV, List.getElem?_toArray]; exact byteCells_at l i hi
    have hq : (Op.equalIn 9999 5 (.int .u8 (l[i].toNat : Int)) (.int .u8 (l[i].toNat : Int))).run Try.prog w = .ok true w := by
      rw [show (9999 : Nat) = 9998 + 1 from rfl, run_equalIn_int w 9998 5 .u8 .u8 _ _ Try.underlying5]
      simp
    simp only [Op.eqItems, Sem.run_bind, run_part5 w _ _ _ hp, Result.andThen_ok, hq, Bool.not_true, Bool.false_eq_true, if_false]
    exact run_items w l is fun j hj => h j (by simp [hj])
theorem run_neq_seed (w : World) (l : List UInt8) (hl : l.length = 16) : (binOp .neq 36 (.agg (seedV l)) (.agg (seedV l))).run Try.prog w = .ok (.bool false) w := by
  obtain ⟨i, hi⟩ : ∃ i, Try.prog.info? 5 = some i := by
    have h : (Try.prog.info? 5).isSome = true := by kernel_rfl
    exact Option.isSome_iff_exists.1 h
  have hc : Try.prog.cellsOf 5 = 1 := by kernel_rfl
  have h : (Op.equalIn 10000 36 (.agg (seedV l)) (.agg (seedV l))).run Try.prog w = .ok true w := by
    rw [show (10000 : Nat) = 9999 + 1 from rfl, run_equalIn_array w 9999 _ _ Try.underlying36 hi, hc]
    exact run_items w l _ fun i hi => by rw [hl]; exact List.mem_range.1 hi
  rw [run_neq_struct, h]
  rfl
theorem run_guard_seed (w : World) (op : BinOp) (x y : Operand) (xs ys : Array Value) : (eqGuard op 36 x y (.agg xs) (.agg ys)).run Try.prog w = .ok () w :=
  run_eqGuard_agg w op 36 x y _ _ (by kernel_rfl)
/-- what a seed of a source is, its error, and what is left -/
def sd (l : List UInt8) : List UInt8 := if 16 ≤ l.length then l.take 16 else zeros
def er (l : List UInt8) : Int := if 16 ≤ l.length then 0 else 11
def rs (l : List UInt8) : List UInt8 := if 16 ≤ l.length then l.drop 16 else l
def ct (l : List UInt8) : Nat := if 16 ≤ l.length then 1 else 0
theorem sd_len (l : List UInt8) : (sd l).length = 16 := by
  unfold sd
  split
  · rw [List.length_take]; omega
  · rfl
theorem seed_both {B s n : Nat} {w : World} {v : Value} {l : List UInt8} (h : Src B w s v l n) (hn : n < 1000000000) :
    Calls Try.prog 10 #[.pointer (some ⟨s, 0, none⟩)] w fun e w' => e = .returned (.tuple #[.agg (seedV (sd l)), .int .i64 (er l)]) ∧ ∃ v', Src B w' s v' (rs l) (n + ct l) ∧ v'.ownBlock = v.ownBlock ∧ Kept (fun k => k = s) w w' := by
  by_cases hl : 16 ≤ l.length
  · unfold sd er rs ct
    simp only [if_pos hl]
    exact seed_any h hl hn
  · unfold sd er rs ct
    simp only [if_neg hl]
    refine (seed_dry h (by omega)).mono ?_
    rintro e w' ⟨rfl, hb⟩
    exact ⟨rfl, v, h.below hb, rfl, Kept.of_below hb⟩
/-- behind j seeds, if all of them are there, or behind all that there are -/
theorem rs_step (F : List UInt8) (j : Nat) : rs (F.drop (16 * min j (F.length / 16))) = F.drop (16 * min (j + 1) (F.length / 16)) ∧ min j (F.length / 16) + ct (F.drop (16 * min j (F.length / 16))) = min (j + 1) (F.length / 16) := by
  unfold rs ct
  rw [List.length_drop, List.drop_drop]
  rcases Nat.lt_or_ge j (F.length / 16) with h | h
  · rw [Nat.min_eq_left (Nat.le_of_lt h), Nat.min_eq_left h, if_pos (by omega), if_pos (by omega)]
    exact ⟨by congr 1, rfl⟩
  · rw [Nat.min_eq_right h, Nat.min_eq_right (by omega), if_neg (by omega), if_neg (by omega)]
    exact ⟨rfl, rfl⟩
/-- two slices lie in unlike blocks -/
def Apart (a b : Value) : Prop := ∀ k, a.ownBlock = some k → b.ownBlock ≠ some k
theorem Apart.symm {a b : Value} (h : Apart a b) : Apart b a := fun k hb ha => h k ha hb
theorem Apart.step {a b b' : Value} {B : Nat} {w : World} {l : List UInt8} (h : Apart a b) (ha : Lies B w a l) (hb : b'.ownBlock = b.ownBlock ∨ b'.ownBlock = some w.heap.size) : Apart a b' := by
  intro k hk e
  rcases hb with hb | hb
  · exact h k hk (hb ▸ e)
  · rw [hb] at e
    injection e with e
    have := (ha.lt hk).2.1
    omega
/-- a source stands while another row grows -/
theorem Src.grown {B s n : Nat} {w w' : World} {v u : Value} {l m : List UInt8} {B' : Nat} (h : Src B w s v l n) (hu : Lies B' w u m) (hg : w.grownBy w' u.ownBlock) (ha : Apart v u) : Src B w' s v l n :=
  h.keep (hg.block s h.lt (fun e => h.ne hu e.symm)) (fun k hk => hg.block k (h.2.2.lt hk).2.1 (fun e => ha k hk e.symm))
end Go.Proofs.Ytialpajnjbchgaa
