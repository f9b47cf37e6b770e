/-
  The contract of All's iterator: the pairs between two places of a tree, one by one, each with its place; and of Down's.
-/
import Derived.Test.YtkcfanckkomdbaaHand
namespace Go.Proofs.Ytkcfanckkomdbaa
open Go.RowKit
set_option maxHeartbeats 4000000
set_option maxRecDepth 100000
attribute [local go_sem] Oper.semAt_some
/-- a pair in memory, handed out with a place -/
def Given (M : List Pr) (i : Nat) (vs : Array Value) (W : World) : Prop :=
  ∃ ka kc va vc x1 x2, vs = #[.int .i64 (i : Int), .agg #[.slice ka x1 kc, .slice va x2 vc]] ∧ Pt (nth M (i : Int)) W ka va x1 x2 true
theorem all1_hands {n : Nat} {w : World} {p : Option Addr} {M : List Pr} {bt bf bto a b : Nat} {X : Nat → Prop} (hn : 1 ≤ n) (hM : ∀ W, But X w W → Wood W p M) (hs : Seqs w p a b bt bf bto)
    (x1 : ¬ X bt) (x2 : ¬ X bf) (x3 : ¬ X bto) (hX : ∀ k, X k → k < w.heap.size) (hb : b ≤ M.length) (ha : a ≤ M.length) :
    Hands n Try.prog 36 #[.pointer (some ⟨bt, 0, none⟩), .pointer (some ⟨bf, 0, none⟩), .pointer (some ⟨bto, 0, none⟩)] X (fun j vs W => j < b - a ∧ But X w W ∧ Given M (a + j) vs W) (fun j => j = b - a) w := by
  intro l J Jx W hl hwl hbw hJ hJx hY h0
  have hK : But X w W := But.of hbw
  have hS : ∀ V, But X w V → Boxed V bt 26 (.pointer p) ∧ Boxed V bf 3 (.int .i64 (a : Int)) ∧ Boxed V bto 3 (.int .i64 (b : Int)) := fun V hV => ⟨(hs.kept hV x1 x2 x3).tree, (hs.kept hV x1 x2 x3).frm, (hs.kept hV x1 x2 x3).til⟩
  have hlen := (hM W hK).few
  have hC := fun V (hV : But X w V) => (hM V hV).cursor (k := a) (a : Int) (by omega) (by omega) (by have := hold_of (a : Int) M.length; omega)
  obtain ⟨d1, d2, d3⟩ := hS W hK
  replace d1 := d1.cell
  replace d2 := d2.cell
  clear d3
  have KC := Lib.hid (hC W hK); clear hC
  have HK := Lib.hid hK; clear hK
  have HS := Lib.hid hS; clear hS
  have HM := Lib.hid hM; clear hM
  have HJ := Lib.hid hJ; clear hJ
  have HJX := Lib.hid hJx; clear hJx
  have HY := Lib.hid hY; clear hY
  have H0 := Lib.hid h0; clear h0
  have HX := Lib.hid hX; clear hX
  have HLW := Lib.hid (And.intro hl hwl); clear hl hwl
  clear hs x1 x2 x3 hbw
  refine callsIn_of_wp Try.func36 rfl trivial ?_ rfl
  simp only [Try.ntmps36, List.size_toArray, List.length_cons, List.length_nil, Nat.reduceAdd, Nat.reduceSub, Array.replicate_succ, Array.replicate_zero, List.push_toArray, List.append_toArray, List.nil_append, List.cons_append]
  gi_wp2_with fail
  refine ⟨trivial, (callsIn_wide.2 KC.out).mono ?_⟩
  rintro e w1 ⟨g, rfl, hg, hG, hb1⟩
  have hgl : W.heap.size ≤ g := by omega
  have hK1 := HK.out.then hb1
  have HJ1 := Lib.hid (HJ.out _ _ _ H0.out hb1)
  replace d2 := (HS.out w1 hK1).2.1.cell
  have HK1 := Lib.hid hK1; clear hK1
  have HCU := Lib.hid hG.cur
  clear d1 hg hG KC HK H0 hb1
  gi_wp2_with fail
  gi_loopw [6] (fun i wr => ∃ m j : Nat, i = .int .i64 (m : Int) ∧ Hid (m = a + j ∧ m ≤ M.length ∧ j ≤ b - a) ∧ Hid (Cur wr g p m) ∧ Hid (J j wr) ∧ Hid (But X w wr) ∧ Hid (W.heap.size ≤ wr.heap.size)) (fun i _ => b - (intOf i).toNat)
  case atStart => exact ⟨a, 0, rfl, ⟨rfl, ha, Nat.zero_le _⟩, HCU.out, HJ1.out, HK1.out, (Nat.le_of_lt (Nat.lt_of_le_of_lt hgl HCU.out.lt))⟩
  case round =>
    obtain ⟨m, j, rfl, hm, hcu, hj, hk, hsz⟩ := hrel
    have d3 := (HS.out wr hk.out).2.2.cell
    clear HCU HJ1 HK1
    by_cases hlt : m < b
    · obtain ⟨e1, e2, e3⟩ := hm.out
      have hjb : j < b - a := by omega
      have hml : m < M.length := by omega
      have hG : Goes wr g p m M := ⟨hcu.out, HM.out _ hk.out, e2⟩
      obtain ⟨o, ho⟩ : ∃ o, nth M (m : Int) = o := ⟨_, rfl⟩
      have hso : o.isSome = true := by rw [← ho, nth_at hml]; rfl
      have K1 := Lib.hid (hG.next (k' := m + 1) ho (by omega))
      have HO := Lib.hid (And.intro ho hso)
      have HE := Lib.hid (And.intro e1 (And.intro hjb hml))
      clear ho hso hG e1 e2 e3 hjb hml
      gi_wp2_with fail
      refine ⟨trivial, (callsIn_wide.2 K1.out).mono ?_⟩
      rintro e w3 ⟨⟨ka, kc, va, vc, x1, x2, is, rfl, hp⟩, hG3, hO3⟩
      obtain rfl : is = true := by rw [hp.2.2.1]; exact HO.out.2
      obtain ⟨w4, hw4, hb4, hX4⟩ := box_var w3 ka x1 kc va x2 vc
      have hz3 := hO3.size
      have hz4 := hb4.size
      have hk4 : But X w w4 := (hk.out.onl hO3 (by have := HLW.out; omega)).then hb4
      have hJ4 : J j w4 := HJ.out _ _ _ (HJ.out _ _ _ hj.out (hO3.below hsz.out hgl)) (hb4.mono (by have := hsz.out; omega))
      obtain ⟨fn, tmps, assign, body, hy, hR⟩ := HY.out j #[.int .i64 (m : Int), .agg #[.slice ka x1 kc, .slice va x2 vc]] w4 hJ4 ⟨HE.out.2.1, hk4, by rw [← HE.out.1]; exact ⟨ka, kc, va, vc, x1, x2, rfl, by rw [HO.out.1]; exact hp.below hb4⟩⟩
      obtain ⟨dd0, dd1⟩ := hX4.cells
      have HR := Lib.hid hR; clear hR
      have HC4 := Lib.hid (hG3.below hb4).cur
      have HK4 := Lib.hid hk4; clear hk4
      have HZ4 := Lib.hid (Nat.le_trans hsz.out (Nat.le_trans hz3 hz4))
      have HW4 := Lib.hid hw4; clear hw4
      clear hz3 hz4 hJ4 hp hG3 hO3 hb4 hX4 K1 HO hj hk hsz hcu d3
      gi_wp2_with (rw [← HW4.out])
      refine HR.out.mono ?_
      rintro e W5 (⟨rfl, hJ5, hk5⟩ | ⟨rfl, hJx5⟩)
      · have hc5 : Cur W5 g p (m + 1) := (hk5.block g HC4.out.lt (fun e => by
          have q := HLW.out
          rcases e with e | e
          · have := HX.out g e
            omega
          · omega)).trans HC4.out
        have HC5 := Lib.hid hc5; clear hc5
        have HJ5 := Lib.hid hJ5; clear hJ5
        have HK5 := Lib.hid (HK4.out.more hk5 HLW.out.2)
        have HZ5 := Lib.hid (Nat.le_trans HZ4.out hk5.size)
        clear hk5 HC4 HK4 HZ4 HW4 hy dd0 dd1 HR
        gi_wp2_with fail
        go_roundw
        case rel =>
          refine ⟨m + 1, j + 1, by go_num, ?_, HC5.out, HJ5.out, HK5.out, HZ5.out⟩
          have q := HE.out
          show _ ∧ _ ∧ _
          omega
        case measure => simp [intOf]; omega
      · have HJ5 := Lib.hid hJx5; clear hJx5
        clear HC4 HK4 HZ4 HW4 hy dd0 dd1 HR
        gi_wp2_with fail
        refine bodyPost_ret (results_none rfl _ _ _) rfl ?_
        exact ⟨⟨_, rfl⟩, .inr ⟨_, HJ5.out⟩⟩
    · have hfin : j = b - a := by have := hm.out; omega
      have HF := Lib.hid hfin; clear hfin
      gi_wp2_with fail
      go_end0
      exact ⟨⟨_, rfl⟩, .inl ⟨j, HF.out, hj.out⟩⟩
theorem down1_hands {n : Nat} {w : World} {p : Option Addr} {M : List Pr} {bt bf bto a b : Nat} {X : Nat → Prop} (hn : 1 ≤ n) (hM : ∀ W, But X w W → Wood W p M) (hs : Seqs w p a b bt bf bto)
    (x1 : ¬ X bt) (x2 : ¬ X bf) (x3 : ¬ X bto) (hX : ∀ k, X k → k < w.heap.size) (hb : b ≤ M.length) (ha : a ≤ M.length) :
    Hands n Try.prog 37 #[.pointer (some ⟨bt, 0, none⟩), .pointer (some ⟨bto, 0, none⟩), .pointer (some ⟨bf, 0, none⟩)] X (fun j vs W => j < b - a ∧ But X w W ∧ Given M (b - 1 - j) vs W) (fun j => j = b - a) w := by
  intro l J Jx W hl hwl hbw hJ hJx hY h0
  have hK : But X w W := But.of hbw
  have hS : ∀ V, But X w V → Boxed V bt 26 (.pointer p) ∧ Boxed V bf 3 (.int .i64 (a : Int)) ∧ Boxed V bto 3 (.int .i64 (b : Int)) := fun V hV => ⟨(hs.kept hV x1 x2 x3).tree, (hs.kept hV x1 x2 x3).frm, (hs.kept hV x1 x2 x3).til⟩
  have hlen := (hM W hK).few
  have hC := fun V (hV : But X w V) => (hM V hV).cursor (k := b) (b : Int) (by omega) (by omega) (by have := hold_of (b : Int) M.length; omega)
  obtain ⟨d1, d3, d2⟩ := hS W hK
  replace d1 := d1.cell
  replace d2 := d2.cell
  clear d3
  have KC := Lib.hid (hC W hK); clear hC
  have HK := Lib.hid hK; clear hK
  have HS := Lib.hid hS; clear hS
  have HM := Lib.hid hM; clear hM
  have HJ := Lib.hid hJ; clear hJ
  have HJX := Lib.hid hJx; clear hJx
  have HY := Lib.hid hY; clear hY
  have H0 := Lib.hid h0; clear h0
  have HX := Lib.hid hX; clear hX
  have HLW := Lib.hid (And.intro hl hwl); clear hl hwl
  have hw1 : IntKind.i64.wrap ((b : Int) - 1) = (b : Int) - 1 := IntWalk.i64_in _ (by omega)
  clear hs x1 x2 x3 hbw
  refine callsIn_of_wp Try.func37 rfl trivial ?_ rfl
  simp only [Try.ntmps37, List.size_toArray, List.length_cons, List.length_nil, Nat.reduceAdd, Nat.reduceSub, Array.replicate_succ, Array.replicate_zero, List.push_toArray, List.append_toArray, List.nil_append, List.cons_append]
  gi_wp2_with fail
  refine ⟨trivial, (callsIn_wide.2 KC.out).mono ?_⟩
  rintro e w1 ⟨g, rfl, hg, hG, hb1⟩
  have hgl : W.heap.size ≤ g := by omega
  have hK1 := HK.out.then hb1
  have HJ1 := Lib.hid (HJ.out _ _ _ H0.out hb1)
  replace d2 := (HS.out w1 hK1).2.2.cell
  have HK1 := Lib.hid hK1; clear hK1
  have HCU := Lib.hid hG.cur
  clear d1 hg hG KC HK H0 hb1
  gi_wp2_with fail
  clear hw1
  gi_loopw [6] (fun i wr => ∃ (z : Int) (m j : Nat), i = .int .i64 z ∧ Hid (z = (m : Int) - 1 ∧ m + j = b ∧ j ≤ b - a) ∧ Hid (Cur wr g p m) ∧ Hid (J j wr) ∧ Hid (But X w wr) ∧ Hid (W.heap.size ≤ wr.heap.size)) (fun i _ => (intOf i + 1).toNat)
  case atStart => exact ⟨_, b, 0, rfl, ⟨rfl, rfl, Nat.zero_le _⟩, HCU.out, HJ1.out, HK1.out, (Nat.le_of_lt (Nat.lt_of_le_of_lt hgl HCU.out.lt))⟩
  case round =>
    obtain ⟨z, m, j, rfl, hm, hcu, hj, hk, hsz⟩ := hrel
    have d3 := (HS.out wr hk.out).2.1.cell
    clear HCU HJ1 HK1
    by_cases hlt : (a : Int) ≤ z
    · obtain ⟨e1, e2, e3⟩ := hm.out
      obtain ⟨q, rfl⟩ := Int.eq_ofNat_of_zero_le (show 0 ≤ z by omega)
      obtain rfl : m = q + 1 := by omega
      have hjb : j < b - a := by omega
      have hml : q < M.length := by omega
      have hG : Goes wr g p (q + 1) M := ⟨hcu.out, HM.out _ hk.out, by omega⟩
      obtain ⟨o, ho⟩ : ∃ o, nth M (q : Int) = o := ⟨_, rfl⟩
      have hso : o.isSome = true := by rw [← ho, nth_at hml]; rfl
      have K1 := Lib.hid (hG.back (o := o) (k' := q) (by rw [← ho]; congr 1; omega) (by omega))
      have HO := Lib.hid (And.intro ho hso)
      have hbq : b - 1 - j = q := by omega
      have HE := Lib.hid (And.intro hbq (And.intro hjb (And.intro hml e2)))
      have hw1 : IntKind.i64.wrap ((q : Int) - 1) = (q : Int) - 1 := IntWalk.i64_in _ (by omega)
      clear ho hso hG e1 e2 e3 hjb hml hbq hm
      gi_wp2_with fail
      refine ⟨trivial, (callsIn_wide.2 K1.out).mono ?_⟩
      rintro e w3 ⟨⟨ka, kc, va, vc, x1, x2, is, rfl, hp⟩, hG3, hO3⟩
      obtain rfl : is = true := by rw [hp.2.2.1]; exact HO.out.2
      obtain ⟨w4, hw4, hb4, hX4⟩ := box_var w3 ka x1 kc va x2 vc
      have hz3 := hO3.size
      have hz4 := hb4.size
      have hk4 : But X w w4 := (hk.out.onl hO3 (by have := HLW.out; omega)).then hb4
      have hJ4 : J j w4 := HJ.out _ _ _ (HJ.out _ _ _ hj.out (hO3.below hsz.out hgl)) (hb4.mono (by have := hsz.out; omega))
      obtain ⟨fn, tmps, assign, body, hy, hR⟩ := HY.out j #[.int .i64 (q : Int), .agg #[.slice ka x1 kc, .slice va x2 vc]] w4 hJ4 ⟨HE.out.2.1, hk4, by rw [HE.out.1]; exact ⟨ka, kc, va, vc, x1, x2, rfl, by rw [HO.out.1]; exact hp.below hb4⟩⟩
      obtain ⟨dd0, dd1⟩ := hX4.cells
      have HR := Lib.hid hR; clear hR
      have HC4 := Lib.hid (hG3.below hb4).cur
      have HK4 := Lib.hid hk4; clear hk4
      have HZ4 := Lib.hid (Nat.le_trans hsz.out (Nat.le_trans hz3 hz4))
      have HW4 := Lib.hid hw4; clear hw4
      clear hz3 hz4 hJ4 hp hG3 hO3 hb4 hX4 K1 HO hj hk hsz hcu d3
      gi_wp2_with (rw [← HW4.out])
      refine HR.out.mono ?_
      rintro e W5 (⟨rfl, hJ5, hk5⟩ | ⟨rfl, hJx5⟩)
      · have hc5 : Cur W5 g p q := (hk5.block g HC4.out.lt (fun e => by
          have q := HLW.out
          rcases e with e | e
          · have := HX.out g e
            omega
          · omega)).trans HC4.out
        have HC5 := Lib.hid hc5; clear hc5
        have HJ5 := Lib.hid hJ5; clear hJ5
        have HK5 := Lib.hid (HK4.out.more hk5 HLW.out.2)
        have HZ5 := Lib.hid (Nat.le_trans HZ4.out hk5.size)
        clear hk5 HC4 HK4 HZ4 HW4 hy dd0 dd1 HR
        gi_wp2_with fail
        go_roundw
        case rel =>
          refine ⟨_, q, j + 1, rfl, ?_, HC5.out, HJ5.out, HK5.out, HZ5.out⟩
          have q := HE.out
          show _ ∧ _ ∧ _
          refine ⟨?_, by omega, by omega⟩
          first | rfl | omega
        case measure => simp [intOf]
      · have HJ5 := Lib.hid hJx5; clear hJx5
        clear HC4 HK4 HZ4 HW4 hy dd0 dd1 HR hw1
        gi_wp2_with fail
        refine bodyPost_ret (results_none rfl _ _ _) rfl ?_
        exact ⟨⟨_, rfl⟩, .inr ⟨_, HJ5.out⟩⟩
    · have hfin : j = b - a := by have := hm.out; omega
      have HF := Lib.hid hfin; clear hfin
      gi_wp2_with fail
      go_end0
      exact ⟨⟨_, rfl⟩, .inl (by rw [← HF.out]; exact hj.out)⟩
end Go.Proofs.Ytkcfanckkomdbaa
