/-
  Contract of the reference's Lay, by induction on the level; and what the shape of a layout is.
-/
import Derived.Test.YtngfbkkfnooobaaGreatDoorLayB
import Derived.Test.YtngfbkkfnooobaaGreatDoorShaped
import Derived.Test.YtngfbkkfnooobaaGreatDoorRefE
import Derived.Test.YtngfbkkfnooobaaGreatDoorGather
import Derived.Test.YtngfbkkfnooobaaGreatDoorShapes
namespace Go.Proofs.YtngfbkkfnooobaaGreatDoor
open Go.RowKit
set_option maxHeartbeats 1000000
theorem layR_flat {lv : Nat} (w : World) (A : Option Addr) (L : List En) (c : Nat) (h : Res w A L) (hG : Good lv L) (ha : alike L = true) :
    Calls Tryz.prog 8 #[.slice A L.length c, .int .i64 (lv : Int)] w fun e w' => ∃ r, e = .returned (RN.agg r (flatL L)) ∧ Mde (fun b => w.heap.size ≤ b) w' (flatL L) r ∧ Below w.heap.size w w' := by
  rcases Nat.eq_zero_or_pos L.length with h0 | h0
  · obtain rfl := List.eq_nil_of_length_eq_zero h0
    exact layR_nil w A c lv
  · exact layR_alike c lv h hG ha h0
theorem layR_all : ∀ f lv, f + lv = 13 → LayRAt f lv
  | 0, lv, hf => fun w A L c h hG => by
    obtain rfl : lv = 13 := by omega
    exact layR_flat w A L c h hG hG.top
  | f + 1, lv, hf => fun w A L c h hG => by
    cases ha : alike L with
    | true =>
      rw [layL, if_pos ha]
      exact layR_flat w A L c h hG ha
    | false =>
      have h0 : 0 < L.length := by
        rcases Nat.eq_zero_or_pos L.length with h0 | h0
        · obtain rfl := List.eq_nil_of_length_eq_zero h0
          cases ha
        · exact h0
      exact layR_bran c lv hf (layR_all f (lv + 1) (by omega)) h hG ha h0
theorem catS_mem {f : Nat → List Sp} {s : Sp} : ∀ {n}, s ∈ catS f n → ∃ i, i < n ∧ s ∈ f i
  | 0, hm => by simp [catS] at hm
  | n + 1, hm => by
    rw [catS, List.mem_append] at hm
    rcases hm with hm | hm
    · obtain ⟨i, hi, h1⟩ := catS_mem hm
      exact ⟨i, by omega, h1⟩
    · exact ⟨n, by omega, hm⟩
theorem right_bran {m k : Nat} {kid : Nat → Nd} {lv : Nat} (h : (Nd.bran m k kid).right lv = true) : lv ≤ 12 ∧ ∀ i, i < k → (kid i).right (lv + 1) = true := by
  rw [Nd.right, Bool.and_eq_true, Bool.and_eq_true] at h
  exact ⟨of_decide_eq_true h.1, fun i hi => ((Bool.and_eq_true _ _).mp ((allTo_iff _ _).1 h.2.2 i hi)).1⟩
theorem shape_few : ∀ (x : Nd) (lv : Nat), x.ok → x.right lv = true → lv ≤ 13 → (x.shape lv).length ≤ x.cnt * (14 - lv)
  | .none, _, _, _, _ => Nat.zero_le _
  | .leaf _ _, lv, _, _, hl => by show 1 ≤ 1 * (14 - lv); omega
  | .buck _ L, lv, ho, _, hl => by
    show 1 ≤ L.length * (14 - lv)
    have := ho.2.1
    have := Nat.mul_le_mul (show 1 ≤ L.length by omega) (show 1 ≤ 14 - lv by omega)
    omega
  | .bran m k kid, lv, ho, hr, hl => by
    obtain ⟨h12, hk⟩ := right_bran hr
    have hpos : 0 < (Nd.bran m k kid).cnt := cnt_pos _ ho (fun e => by cases e)
    obtain ⟨hm, hk0, hlen, hkid⟩ := ho
    have h : ∀ n, n ≤ k → (catS (fun i => (kid i).shape (lv + 1)) n).length ≤ sumTo (fun i => (kid i).cnt) n * (13 - lv) := by
      intro n
      induction n with
      | zero => intro _; exact Nat.zero_le _
      | succ n ih =>
        intro hn
        have h1 := ih (by omega)
        have h2 := shape_few (kid n) (lv + 1) (hkid n (by omega)).2 (hk n (by omega)) (by omega)
        have e : 14 - (lv + 1) = 13 - lv := by omega
        rw [e] at h2
        rw [catS, List.length_append, sumTo, Nat.add_mul]
        omega
    have h1 := h k (Nat.le_refl _)
    rw [Nd.shape, List.length_cons]
    have e : 14 - lv = (13 - lv) + 1 := by omega
    rw [e, Nat.mul_succ]
    show _ ≤ sumTo (fun i => (kid i).cnt) k * (13 - lv) + _
    omega
theorem shape_maps : ∀ (x : Nd) (lv : Nat), x.ok → ∀ s ∈ x.shape lv, s.map < 4294967296
  | .none, _, _, s, h => by simp [Nd.shape] at h
  | .leaf _ _, _, _, s, h => by
    simp only [Nd.shape, List.mem_singleton] at h
    subst h
    exact (by decide : 0 < 4294967296)
  | .buck _ _, _, _, s, h => by
    simp only [Nd.shape, List.mem_singleton] at h
    subst h
    exact (by decide : 0 < 4294967296)
  | .bran m k kid, lv, ho, s, h => by
    rw [Nd.shape, List.mem_cons] at h
    rcases h with rfl | h
    · exact ho.1
    · obtain ⟨i, hi, h⟩ := catS_mem h
      exact shape_maps (kid i) (lv + 1) (ho.2.2.2 i hi).2 s h
end Go.Proofs.YtngfbkkfnooobaaGreatDoor
