/-
  The contract of From: an even tree of a list's pairs.
-/
import Derived.Test.YtmbdimonfdncpaaGreatDoorPairs
namespace Go.Proofs.YtmbdimonfdncpaaGreatDoor
open Go.RowKit
set_option maxHeartbeats 4000000
set_option maxRecDepth 100000
def restP (A : Option Addr) (c k : Nat) : Option Addr := if c = k then A else A.map (·.add (k * 2))
theorem slice_rest (A : Option Addr) (n c k : Nat) (hk : k ≤ n) (W : World) (z : Int) (hz : z = (k : Int)) :
    (Instr.slice 23 (.slice A n c) (some (.int .i64 z)) none none).run Tryz.prog W = .ok (.slice (restP A c k) (n - k) (c - k)) W := by
  subst hz
  have hz : ∀ W, (sizeOf (Tryz.prog.elem 23)).run Tryz.prog W = .ok 2 W := fun W => by kernel_rfl
  rw [run_slice_l W 23 A n c Tryz.underlying23 .i64 (k : Int) (by omega) (by omega), hz]
  simp only [Result.andThen, sliced, Int.toNat_natCast, restP]
theorem slice_front (A : Option Addr) (n c k : Nat) (hk : k ≤ c) (W : World) :
    (Instr.slice 23 (.slice A n c) none (some (.int .i64 (k : Int))) none).run Tryz.prog W = .ok (.slice A k c) W := by
  have hz : ∀ W, (sizeOf (Tryz.prog.elem 23)).run Tryz.prog W = .ok 2 W := fun W => by kernel_rfl
  rw [run_slice_h W 23 A n c Tryz.underlying23 .i64 (k : Int) (by omega) (by omega), hz]
  simp only [Result.andThen, sliced, Int.toNat_natCast, Nat.sub_zero]
  congr 2
  split
  · rfl
  · cases A <;> simp [Addr.add]
theorem Pcs.rest {W : World} {A : Option Addr} {L : List Pr} (h : Pcs W A L) (c k : Nat) (hc : L.length ≤ c) : Pcs W (restP A c k) (L.drop k) := by
  by_cases hk : L.length ≤ k
  · left; rw [List.drop_eq_nil_iff]; exact hk
  · rcases h with rfl | ⟨b, off, rfl, hlt, hcl⟩
    · left; simp
    · refine .inr ⟨b, off + k * 2, ?_, hlt, fun i hi => ?_⟩
      · rw [restP, if_neg (by omega), Option.map_some, Go.WideShapes.add_plain]
      · rw [List.length_drop] at hi
        obtain ⟨ka, kc, va, vc, h1, h2, h3, h4⟩ := hcl (k + i) (by omega)
        rw [List.getElem_drop]
        refine ⟨ka, kc, va, vc, ?_, ?_, h3, h4⟩
        · rw [← h1]; congr 2; omega
        · rw [← h2]; congr 2; omega
theorem Pcs.front {W : World} {A : Option Addr} {L : List Pr} (h : Pcs W A L) (k : Nat) : Pcs W A (L.take k) := by
  rcases h with rfl | ⟨b, off, rfl, hlt, hcl⟩
  · left; simp
  · refine .inr ⟨b, off, rfl, hlt, fun i hi => ?_⟩
    rw [List.length_take] at hi
    rw [List.getElem_take]
    exact hcl i (by omega)
/-- what From promises of lists shorter than n -/
def FromAt (F : Nat → Prop) (n : Nat) : Prop := ∀ (w : World) (A : Option Addr) (c : Nat) (L : List Pr), Fut F w → Pcs w A L → L.length ≤ c → L.length < n → (∀ x ∈ L, x.1.length ≤ 100000 ∧ x.2.length ≤ 100000) →
  Calls Tryz.prog 67 #[.slice A L.length c] w fun e w' => ∃ p t, e = .returned (.pointer p) ∧ Tre F w' t p ∧ t.even ∧ t.list = L ∧ Below w.heap.size w w'
theorem from_more {F : Nat → Prop} {n : Nat} (ih : FromAt F n) (w : World) (A : Option Addr) (c : Nat) (L : List Pr) (hF : Fut F w) (ha : Pcs w A L) (hc : L.length ≤ c) (hn : L.length ≤ n) (hn2 : n ≤ 1000) (hf : ∀ x ∈ L, x.1.length ≤ 100000 ∧ x.2.length ≤ 100000) (h0 : 0 < L.length) :
    Calls Tryz.prog 67 #[.slice A L.length c] w fun e w' => ∃ p t, e = .returned (.pointer p) ∧ Tre F w' t p ∧ t.even ∧ t.list = L ∧ Below w.heap.size w w' := by
  obtain ⟨m, hm⟩ : ∃ m, m = L.length / 2 := ⟨_, rfl⟩
  have hml : m < L.length := by omega
  obtain ⟨b, off, ka, kc, va, vc, rfl, hbl, c0, c1, c2, c3⟩ := ha.at hml
  have i1 := fun W (hW : Below w.heap.size w W) => ih W (some ⟨b, off, none⟩) c (L.take m) (hF.later hW.size) ((ha.front m).below hW) (by rw [List.length_take]; omega) (by rw [List.length_take]; omega) (fun x hx => hf x (List.mem_of_mem_take hx))
  have i2 := fun W (hW : Below w.heap.size w W) => kept_any kc vc (hF.later hW.size) (c2.below hW) (c3.below hW) (hf _ (List.getElem_mem hml))
  have i3 := fun W (hW : Below w.heap.size w W) => ih W (restP (some ⟨b, off, none⟩) c (m + 1)) (c - (m + 1)) (L.drop (m + 1)) (hF.later hW.size) ((ha.rest c (m + 1) hc).below hW) (by rw [List.length_drop]; omega) (by rw [List.length_drop]; omega) (fun x hx => hf x (List.mem_of_mem_drop hx))
  have i4 := fun W (hW : Below w.heap.size w W) p1 t1 p3 t3 ja jc ua uc (h1 : Tre F W t1 p1) (h3 : Tre F W t3 p3) (hj : Byt F W ja (L[m]).1) (hu : Byt F W ua (L[m]).2) (e1 : t1.list = L.take m) (e3 : t3.list = L.drop (m + 1)) => node_any jc uc (hF.later hW.size) h1 h3 hj hu (by rw [← Tr.length, ← Tr.length, e1, e3, List.length_take, List.length_drop]; omega)
  have hlist : ∀ t1 t3, t1.even → t3.even → t1.list = L.take m → t3.list = L.drop (m + 1) → (Tr.node t1 (L[m]) t3).even ∧ (Tr.node t1 (L[m]) t3).list = L := by
    intro t1 t3 g1 g3 e1 e3
    refine ⟨⟨?_, g1, g3⟩, ?_⟩
    · rw [← Tr.length, ← Tr.length, e1, e3, List.length_take, List.length_drop, ev_true]
      omega
    · show t1.list ++ L[m] :: t3.list = L
      rw [e1, e3, List.getElem_cons_drop, List.take_append_drop]
  have hl1 : (L.take m).length = m := by rw [List.length_take]; omega
  have hs1 := slice_front (some ⟨b, off, none⟩) L.length c m (by omega)
  obtain ⟨m1, hm1⟩ : ∃ m1, m1 = m + 1 := ⟨_, rfl⟩
  have hw1 : IntKind.i64.wrap ((m : Int) + 1) = (m1 : Int) := by rw [show (m : Int) + 1 = (m1 : Int) by omega]; exact IntWalk.i64_in _ (by omega)
  have hs2 := fun W => slice_rest (some ⟨b, off, none⟩) L.length c m1 (by omega) W (m1 : Int) rfl
  rw [← hm1] at i3 i4 hlist
  obtain ⟨R, hR⟩ : ∃ R, R = restP (some ⟨b, off, none⟩) c m1 := ⟨_, rfl⟩
  obtain ⟨n3, hn3⟩ : ∃ n3, n3 = L.length - m1 := ⟨_, rfl⟩
  obtain ⟨c3', hc3'⟩ : ∃ n3, n3 = c - m1 := ⟨_, rfl⟩
  obtain ⟨Q, hQ⟩ : ∃ Q, Q = L[m] := ⟨_, rfl⟩
  simp only [← hQ] at i2 i4 hlist c0 c1
  obtain ⟨x1, hx1⟩ : ∃ x, x = Q.1.length := ⟨_, rfl⟩
  obtain ⟨x2, hx2⟩ : ∃ x, x = Q.2.length := ⟨_, rfl⟩
  obtain ⟨ln, hln⟩ : ∃ x, x = L.length := ⟨_, rfl⟩
  simp only [hl1, List.length_drop, ← hR, ← hn3, ← hc3', ← hx1, ← hx2] at i1 i2 i3 i4 hs1 hs2 c0 c1 ⊢
  rw [← hln] at hs1 hs2 ⊢
  have hkeep : ∀ W, Below w.heap.size w W → W.cell? ⟨b, off + m * 2, none⟩ = some (.slice ka x1 kc) ∧ W.cell? ⟨b, off + m * 2 + 1, none⟩ = some (.slice va x2 vc) := fun W hW =>
    ⟨(hW.cell (p := ⟨b, off + m * 2, none⟩) hbl).trans c0, (hW.cell (p := ⟨b, off + m * 2 + 1, none⟩) hbl).trans c1⟩
  have hq : ((ln : Int) / 2) = (m : Int) := by omega
  have hqt : (ln : Int).tdiv 2 = (m : Int) := by rw [Int.tdiv_eq_ediv_of_nonneg (by omega)]; exact hq
  have hln0 : ((ln : Int) == 0) = false := by simpa using (show ¬ (ln : Int) = 0 by omega)
  have hmn : m < ln := by omega
  have hlc : ln ≤ c := by omega
  have hln1 : ln ≤ 1000 := by omega
  have hz0 : Below w.heap.size w w.drew := (Below.refl _ _).drew
  have I1 := Lib.hid i1; clear i1
  have I2 := Lib.hid i2; clear i2
  have I3 := Lib.hid i3; clear i3
  have I4 := Lib.hid i4; clear i4
  have HL := Lib.hid hlist; clear hlist
  have KEEP := Lib.hid hkeep; clear hkeep
  clear ih hF ha hc hn hn2 hf h0 hm c0 c1 c2 c3 hl1 hR hn3 hc3' hx1 hx2 hln hbl hQ hml hm1
  go_enter Tryz.func67, Tryz.ntmps67
  go_wp2_with fail
  go_region_held3 (fun W => W.cell? ⟨b, off + m * 2, none⟩ = some (.slice ka x1 kc) ∧ W.cell? ⟨b, off + m * 2 + 1, none⟩ = some (.slice va x2 vc)) (first | exact KEEP.out _ hz0 | exact KEEP.out _ hzA | exact KEEP.out _ hzB | exact KEEP.out _ hzC | exact KEEP.out _ hzD | fail) (first
    | (go_at_call 67; (with_reducible refine (I1.out _ hz0).mono ?_); rintro e wA ⟨p1, t1, rfl, h1, g1, e1, hbA⟩; have hzA := below_then hz0 hbA)
    | (go_at_call 69; (with_reducible refine (I2.out _ hzA).mono ?_); rintro e wB ⟨ja, jc, ua, uc, rfl, hj, hu, hbB⟩; have hzB := below_then hzA hbB)
    | (go_at_call 67; (with_reducible refine (I3.out _ hzB).mono ?_); rintro e wC ⟨p3, t3, rfl, h3, g3, e3, hbC⟩; have hzC := below_then hzB hbC; have h1' := (h1.below hbB).below hbC; have hj' := hj.below hbC; have hu' := hu.below hbC)
    | (go_at_call 85; (with_reducible refine (I4.out _ hzC _ _ _ _ _ _ _ _ h1' h3 hj' hu' e1 e3).mono ?_); rintro e wD ⟨pD, rfl, hD, hbD⟩; have hzD := below_then hzC hbD)
    | fail)
  all_goals
    go_wp2_with fail
    go_ret
    obtain ⟨v1, v2⟩ := HL.out t1 t3 g1 g3 e1 e3
    exact ⟨pD, _, rfl, hD, v1, v2, hzD⟩
theorem fromAt (F : Nat → Prop) : ∀ n, n ≤ 1000 → FromAt F n
  | 0, _ => fun w A c L _ _ _ h _ => by omega
  | n + 1, hn => fun w A c L hF ha hc hl hf => by
    rcases Nat.eq_zero_or_pos L.length with h0 | h0
    · obtain rfl := List.eq_nil_of_length_eq_zero h0
      clear ha hc hl hf h0
      go_enter Tryz.func67, Tryz.ntmps67
      go_wp2
      go_ret
      exact ⟨none, .nil, rfl, rfl, trivial, rfl, Below.refl _ _⟩
    · exact from_more (fromAt F n (by omega)) w A c L hF ha hc (by omega) (by omega) hf h0
theorem from_any {F : Nat → Prop} {w : World} {A : Option Addr} {c : Nat} {L : List Pr} (hF : Fut F w) (ha : Pcs w A L) (hc : L.length ≤ c) (hl : L.length < 900) (hf : ∀ x ∈ L, x.1.length ≤ 100000 ∧ x.2.length ≤ 100000) :
    Calls Tryz.prog 67 #[.slice A L.length c] w fun e w' => ∃ p t, e = .returned (.pointer p) ∧ Tre F w' t p ∧ t.even ∧ t.list = L ∧ Below w.heap.size w w' := fromAt F 1000 (Nat.le_refl _) w A c L hF ha hc (by omega) hf
end Go.Proofs.YtmbdimonfdncpaaGreatDoor
