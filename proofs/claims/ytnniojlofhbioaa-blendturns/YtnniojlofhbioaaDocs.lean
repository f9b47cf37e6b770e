/-
  Contracts of the document's own answers: Union, Part; of Is; and of the calls that lead to a tree and its model.
-/
import Derived.Test.YtnniojlofhbioaaSpans
import Derived.Test.YtnniojlofhbioaaPlays
namespace Go.Proofs.Ytnniojlofhbioaa
open Go.RowKit
set_option maxHeartbeats 4000000
set_option maxRecDepth 100000
theorem filter_take {M : List Pr} {j : Nat} (P : Pr → Bool) (h : j < M.length) : (M.take (j + 1)).filter P = (M.take j).filter P ++ (if P M[j] = true then [M[j]] else []) := by
  rw [List.take_succ_eq_append_getElem h, List.filter_append]
  congr 1
  rw [List.filter_cons]
  rfl
theorem box_strs (w : World) (a b : Value) : ∃ w1, w1 = w.alloc (.cells #[a, b] 59) ∧ Below w.heap.size w w1 ∧
    ∀ W, Below w1.heap.size w1 W → W.cell? ⟨w.heap.size, 0, none⟩ = some a ∧ W.cell? ⟨w.heap.size, 1, none⟩ = some b := by
  refine ⟨_, rfl, (Below.refl _ _).alloc (Nat.le_refl _) _, fun W hW => ?_⟩
  have r0 : W.heap[w.heap.size]? = some (.cells #[a, b] 59 (0, 0)) := (hW.block _ (by simp)).trans (heap_alloc_new w _)
  constructor
  · rw [cell_of_row W _ _ _ 59 (0, 0) r0]; rfl
  · rw [cell_of_row W _ _ _ 59 (0, 0) r0]; rfl
/-- Is: a tree that is sound, with just these pairs -/
theorem is_any {F : Nat → Prop} {w : World} {L : List Pr} {p A : Option Addr} {n : Nat} (c : Nat) (h : Is F w L p) (hs : srt L) (hn : L.length ≤ 700) (hf : Fits L) (ha : Rcs w A L) (en : n = L.length) :
    Calls Try.prog 10 #[.pointer p, .slice A n c] w fun e w' => e = .returned (.bool true) ∧ Below w.heap.size w w' := by
  obtain ⟨t, h1, h2, rfl⟩ := h
  have hz : t.size = n := by rw [← Tr.length, en]
  have s1 := sound_any h1 (by rw [← Tr.length]; omega) h2 hs
  have s2 := fun W (hW : Below w.heap.size w W) => size_any (h1.below hW) (by rw [← Tr.length]; omega)
  have s3 := fun W (hW : Below w.heap.size w W) => list_any (h1.below hW) (by rw [← Tr.length]; omega) hf
  have s4 := fun W (B : Option Addr) (d : Nat) (hW : Below w.heap.size w W) (hB : Pcs W B t.list) => refIs_any hB (ha.below hW) d c (by omega)
  rw [hz] at s2
  rw [← en] at s3
  simp only [← en, decide_true] at s4
  have dn : ((n : Int) == (n : Int)) = true := by simp
  have S1 := Lib.hid s1; clear s1
  have S2 := Lib.hid s2; clear s2
  have S3 := Lib.hid s3; clear s3
  have S4 := Lib.hid s4; clear s4
  clear h1 h2 hs hn hf ha en hz
  go_enter Try.func10, Try.ntmps10
  go_wp2_with fail
  refine S1.out.mono ?_
  rintro e w1 ⟨rfl, b1⟩
  have K2 := Lib.hid (S2.out w1 b1)
  have K3 := Lib.hid (S3.out w1 b1)
  have B1 := Lib.hid b1; clear b1
  clear S1 S2 S3
  go_wp2_with fail
  refine K2.out.mono ?_
  rintro e w' ⟨rfl, rfl⟩
  go_wp2_with fail
  refine K3.out.mono ?_
  rintro e w2 ⟨B, d, rfl, hfr, b2⟩
  have b12 := below_then B1.out b2
  have K4 := Lib.hid (S4.out w2 B d b12 hfr.pcs)
  have B2 := Lib.hid b12; clear b12
  clear hfr b2 B1 S4 K2 K3
  go_wp2_with fail
  refine K4.out.mono ?_
  rintro e w3 ⟨rfl, b3⟩
  have B3 := Lib.hid b3; clear b3
  clear K4
  go_wp2_with fail
  go_ret
  exact ⟨rfl, below_then B2.out B3.out⟩
theorem made_any {w : World} {A0 : Option Addr} {L0 : List Opn} (c0 : Nat) (ha0 : Ocs w A0 L0) (hlen : L0.length ≤ 80) (htiny : tinyO L0 = true) :
    Calls Try.prog 9 #[.slice A0 L0.length c0] w fun e w' => ∃ p A c t, e = .returned (.tuple #[.pointer p, .slice A (plays L0).length c]) ∧ At w (plays L0) p A w' t := by
  have HTY := Lib.hid (tinyO_all htiny)
  have HA := Lib.hid ha0; clear ha0
  have HAL := Lib.hid (plays_all hlen htiny)
  clear htiny
  go_enter Try.func9, Try.ntmps9
  go_wp2_with fail
  go_loopw [4, 5, 10] (fun x y u wr => ∃ (j n c : Nat) (p A : Option Addr), u = .int .i64 j ∧ x = .pointer p ∧ y = .slice A n c ∧ j ≤ L0.length ∧ Hid (n = (plays (L0.take j)).length) ∧ Hid (∃ t, At w (plays (L0.take j)) p A wr t)) (fun _ _ u _ => L0.length - (intOf u).toNat)
  case atStart => exact ⟨0, 0, 0, none, none, rfl, rfl, rfl, by omega, rfl, .nil, rfl, trivial, rfl, .inl rfl, Below.refl _ _⟩
  case round =>
    obtain ⟨j, n, c, p, A, rfl, rfl, rfl, hj, hn, t, hat⟩ := hrel
    by_cases hlt : j < L0.length
    · obtain ⟨b, off, ka, kc, va, vc, rfl, hbl, h0, h1, h2, h3, h4⟩ := (HA.out.below hat.bel).at hlt
      obtain ⟨a1, a2, a3⟩ := HAL.out j
      have hst := fun W (hW : Below wr.heap.size wr W) => step_any (m := none) (v := 0) (c := 0) c kc vc (fun _ _ => trivial) (hat.tre.below hW) (hat.rcs.below hW) (.inl rfl) (h3.below hW) (h4.below hW) hat.ev a1 (by omega) a2 (HTY.out _ (List.getElem_mem hlt)) (by omega) (by omega) hat.list
      simp only [← plays_step hlt, ← hn.out] at hst
      obtain ⟨M', hM'⟩ : ∃ M', M' = plays (L0.take (j + 1)) := ⟨_, rfl⟩
      obtain ⟨z, hz⟩ : ∃ z : Int, z = (L0[j]).1 := ⟨_, rfl⟩
      obtain ⟨x1, hx1⟩ : ∃ x : Nat, x = (L0[j]).2.1.length := ⟨_, rfl⟩
      obtain ⟨x2, hx2⟩ : ∃ x : Nat, x = (L0[j]).2.2.length := ⟨_, rfl⟩
      obtain ⟨n', hn'⟩ : ∃ n', n' = M'.length := ⟨_, rfl⟩
      simp only [← hM', ← hn'] at hst
      rw [← hz] at h0
      rw [← hx1] at h1
      rw [← hx2] at h2
      simp only [← hz, ← hx1, ← hx2] at hst
      have HST := Lib.hid (hst _ (box3 wr (.int .i64 z) (.slice ka x1 kc) (.slice va x2 vc)))
      have HBEL := Lib.hid (below_then hat.bel (box3 wr (.int .i64 z) (.slice ka x1 kc) (.slice va x2 vc)))
      have HM := Lib.hid hM'; clear hM'
      have HN' := Lib.hid hn'; clear hn'
      clear hst h3 h4 hat hz hx1 hx2 a1 a2 a3 HA hn
      go_wp2_with fail
      refine HST.out.mono ?_
      rintro e w2 ⟨p', t', A', c', v', k', rfl, g1, g2, g3, g4, _, _, g7⟩
      have hb2 := below_then HBEL.out g7.nil
      have HAT : Hid (At w M' p' A' w2 t') := ⟨g1, g2, g3, g4, hb2⟩
      clear HST g1 g2 g3 g4 g7 h0 h1 h2 HBEL hb2
      go_wp2_with fail
      go_roundw
      case rel =>
        have hq := HAT.out
        exact ⟨j + 1, n', c', p', A', by go_num, rfl, rfl, by omega, by show _ = _; rw [HN'.out, HM.out], t', by rw [← HM.out]; exact hq⟩
      case measure => simp [intOf]; omega
    · obtain rfl : j = L0.length := by omega
      have e : plays (L0.take L0.length) = plays L0 := by rw [List.take_length]
      have h1 := hn.out
      rw [e] at h1 hat
      have HAT := Lib.hid hat; clear hat
      have H1 := Lib.hid h1; clear h1
      clear hn e
      go_wp2_with fail
      go_ret2
      exact ⟨p, A, c, t, by rw [H1.out]; rfl, HAT.out⟩
theorem scells_length (L : List Pr) : (scells L).length = L.length * 2 := by
  induction L with
  | nil => rfl
  | cons q r ih =>
    have e : scells (q :: r) = [.string ⟨q.1.toArray⟩, .string ⟨q.2.toArray⟩] ++ scells r := by simp [scells]
    rw [e, List.length_append, ih, List.length_cons]
    simp
    omega
theorem scells_one {L : List Pr} {u : Value} (h : u ∈ scells L) : u.oneCell' = true := by
  obtain ⟨q, _, hu⟩ := List.mem_flatMap.1 h
  simp only [List.mem_cons, List.not_mem_nil, or_false] at hu
  rcases hu with rfl | rfl <;> rfl
/-- append of a model onto nothing, at the operation -/
theorem list_app_refs {w : World} {ops : Array Oper} {rest : List Oper} {o : Oper} {a : Act} {Q : Exit → Act → World → Prop} (hgd : o.guard = none) (s x : Operand) (ho : o.op = .call { callee := .builtin .append, args := #[s, x], argTypes := #[26, 26] })
    (L : List Pr) (A : Option Addr) (n c : Nat) (hn : n = L.length) (hp : Rcs w A L) (hs : a.eval s = .slice none 0 0) (hx : a.eval x = .slice A n c) (hlen : L.length ≤ 1000)
    (hK : ∀ v' w', w'.ownsRow w.heap.size 59 2 v' L.length (scells L) → Below w.heap.size w w' → wpList Try.prog ops Q rest (a.put o.dst v') w') : wpList Try.prog ops Q (o :: rest) a w := by
  subst hn
  obtain ⟨i0, hi, hz0, hz1, hz2⟩ := info_parts Try.info59
  have h0 : w.ownsRow w.heap.size 59 2 (.slice none 0 0) 0 [] := World.ownsRow_nil _ _ _ _
  obtain ⟨v', w', hrun, h2, hb⟩ : ∃ v' w', (Builtin.append_ #[26, 26] o.type #[.slice none 0 0, .slice A L.length c]).run Try.prog w = .ok v' w' ∧ w'.ownsRow w.heap.size 59 2 v' L.length (scells L) ∧ Below w.heap.size w w' := by
    cases A with
    | none =>
      obtain rfl : L = [] := by
        rcases hp with h | ⟨b, h, _⟩
        · exact h
        · cases h
      refine ⟨.slice none 0 0, w, ?_, h0, Below.refl _ _⟩
      simp [Builtin.append_, run_underlying Try.underlying26, Go.sizeOf, typeInfo, hi, Builtin.lenOf, Builtin.firstCells]
    | some ad =>
      have hcells : ∀ j u, (scells L)[j]? = some u → w.cell? (ad.add j) = some u := by
        intro j u hu
        rcases hp with rfl | ⟨b, e, _, hc⟩
        · simp [scells] at hu
        · injection e with e
          subst e
          have hj : j < L.length * 2 := by
            have := (List.getElem?_eq_some_iff.1 hu).1
            rw [scells_length] at this
            exact this
          obtain ⟨g1, g2⟩ := hc (j / 2) (by omega)
          obtain ⟨k1, k2⟩ := scells_at L (j / 2) (by omega)
          rw [Go.WideShapes.add_plain, Nat.zero_add]
          rcases Nat.mod_two_eq_zero_or_one j with e | e
          · have ej : j = j / 2 * 2 := by omega
            rw [← ej] at g1 k1
            rw [g1, ← hu, k1]
          · have ej : j = j / 2 * 2 + 1 := by omega
            rw [← ej] at g2 k2
            rw [g2, ← hu, k2]
      obtain ⟨v', w', hr, h2, h3, _⟩ := run_append_own (P := Try.prog) w w.heap.size 26 o.type 59 i0 _ 2 32 Try.underlying26 hi hz0 hz1 hz2 rfl (by decide) (.slice none 0 0) 0 [] h0 ad L.length c (scells L) (scells_length L) hcells (fun u hu => scells_one hu) (by unfold maxLen; omega) (by omega) (Nat.le_refl _)
      rw [Nat.zero_add, List.nil_append] at h2
      exact ⟨v', w', hr, h2, (Below.refl _ _).grown h3 (Nat.le_refl _) (fun k hk => (h0.lt k hk).1)⟩
  refine wpList_plain hgd fun _ hk => ?_
  unfold Oper.wp execOp
  simp only [ho, resolve, invoke, builtin, Sem.run_bind, Sem.run_pure, Result.andThen_ok, List.map_toArray, List.map_cons, List.map_nil, hs, hx, hrun]
  exact hk _ _ (hK v' w' h2 hb)
theorem uni_step {b : List Pr} {j : Nat} (a : List Pr) (h : j < b.length) : uni a (b.take (j + 1)) = put (uni a (b.take j)) b[j] := by
  unfold uni
  rw [List.take_succ_eq_append_getElem h, List.foldl_append]
  rfl
theorem uni_mem {a b : List Pr} {P : Pr → Prop} (ha : ∀ x ∈ a, P x) (hb : ∀ x ∈ b, P x) : ∀ x ∈ uni a b, P x := by
  induction b generalizing a with
  | nil => exact ha
  | cons q r ih => exact ih (put_mem ha (hb q (by simp))) fun x hx => hb x (by simp [hx])
/-- the document's union -/
theorem refUnion_any {w : World} {A B : Option Addr} {M N : List Pr} {m n : Nat} (c d : Nat) (ha : Rcs w A M) (hb : Rcs w B N) (em : m = M.length) (en : n = N.length) (hlen : M.length + N.length ≤ 800) (h1 : ∀ q ∈ M, q.1.length ≤ 1000) (h2 : ∀ q ∈ N, q.1.length ≤ 1000) :
    Calls Try.prog 12 #[.slice A m c, .slice B n d] w fun e w' => ∃ A' c' n', e = .returned (.slice A' n' c') ∧ n' = (uni M N).length ∧ Rcs w' A' (uni M N) ∧ Below w.heap.size w w' := by
  have hput := fun W (A' : Option Addr) (c' n' j : Nat) (h : j < N.length) (hr : Rcs W A' (uni M (N.take j))) (hn' : n' = (uni M (N.take j)).length) =>
    refPut_any N[j] hr c' (by have := uni_length (N.take j) M; have := List.length_take_le j N; omega) (h2 _ (List.getElem_mem h)) (uni_mem h1 fun x hx => h2 x (List.mem_of_mem_take hx))
  have HA := Lib.hid ha; clear ha
  have HB := Lib.hid hb; clear hb
  have HP := Lib.hid hput; clear hput
  have EM := Lib.hid em
  have EN := Lib.hid en
  have hM : M.length ≤ 1000 := by omega
  have hN : n ≤ 1000 := by omega
  have HEND : Hid (uni M (N.take N.length) = uni M N) := by show _ = _; rw [List.take_length]
  clear h1 h2 em en hlen
  go_enter Try.func12, Try.ntmps12
  go_wp2_with (at_builtin; refine list_app_refs rfl (.tmp 8) (.tmp 9) rfl M A m c EM.out HA.out rfl rfl hM ?_; intro v0 w0 ho0 hb0)
  obtain ⟨A0, c0, e0, hr0⟩ := rcs_own ho0
  subst e0
  have HR0 := Lib.hid hr0; clear hr0
  have HB0 := Lib.hid hb0; clear hb0
  obtain ⟨m0, hm0⟩ : ∃ k, k = M.length := ⟨_, rfl⟩
  rw [← hm0]
  have HM0 := Lib.hid hm0; clear hm0
  clear ho0
  go_wp2_with fail
  go_loopw [5, 13] (fun v u wr => ∃ (j k c' : Nat) (A' : Option Addr), v = .slice A' k c' ∧ u = .int .i64 j ∧ j ≤ n ∧ Hid (k = (uni M (N.take j)).length) ∧ Hid (Below w.heap.size w wr) ∧ Hid (Rcs wr A' (uni M (N.take j)))) (fun _ u _ => n - (intOf u).toNat)
  case atStart => exact ⟨0, m0, c0, A0, rfl, rfl, by omega, HM0.out, HB0.out, HR0.out⟩
  case round =>
    obtain ⟨j, k, c', A', rfl, rfl, hj, hk, hbel, hrc⟩ := hrel
    by_cases hlt : j < n
    · have hlt' : j < N.length := by rw [← EN.out]; exact hlt
      obtain ⟨bm, rfl, hbl, h1, h2⟩ := (HB.out.below hbel.out).at hlt'
      have hcall := fun W (hW : Below wr.heap.size wr W) => HP.out W A' c' k j hlt' (hrc.out.below hW) hk.out
      simp only [← uni_step M hlt', ← hk.out] at hcall
      obtain ⟨x, hx⟩ : ∃ s : ByteArray, s = ⟨(N[j]).1.toArray⟩ := ⟨_, rfl⟩
      obtain ⟨y, hy⟩ : ∃ s : ByteArray, s = ⟨(N[j]).2.toArray⟩ := ⟨_, rfl⟩
      rw [← hx] at h1
      rw [← hy] at h2
      simp only [← hx, ← hy] at hcall
      obtain ⟨k', hk'⟩ : ∃ k', k' = (uni M (N.take (j + 1))).length := ⟨_, rfl⟩
      simp only [← hk'] at hcall
      obtain ⟨w1, hw1, b1, k1⟩ := box_strs wr (.string x) (.string y)
      obtain ⟨p0, p1⟩ := k1 w1 (Below.refl _ _)
      have HC := Lib.hid (hcall w1 b1); clear hcall
      have HK' := Lib.hid hk'; clear hk'
      have HBL := Lib.hid (below_then hbel.out b1); clear b1
      have HW := Lib.hid hw1; clear hw1
      clear hx hy hk hrc hbel k1 HB
      go_wp2_with (rw [← HW.out])
      refine HC.out.mono ?_
      rintro e w2 ⟨A2, c2, rfl, r2, hb2⟩
      have H2 := Lib.hid (And.intro r2 (below_then HBL.out hb2)); clear r2 hb2
      clear p0 p1 HC
      go_wp2_with fail
      go_roundw
      case rel => exact ⟨j + 1, k', c2, A2, rfl, by go_num, by omega, HK'.out, H2.out.2, H2.out.1⟩
      case measure => simp [intOf]; omega
    · obtain rfl : j = n := by omega
      have hk2 := hk.out
      have hr2 := hrc.out
      rw [EN.out, HEND.out] at hk2 hr2
      have H2 := Lib.hid (And.intro hk2 (And.intro hr2 hbel.out)); clear hk2 hr2
      clear hk hrc hbel
      go_wp2_with fail
      go_ret
      exact ⟨A', c', k, rfl, H2.out⟩
def part (a b : List Pr) (h : Bool) : List Pr := a.filter fun x => has b x.1 == h
theorem part_true (a b : List Pr) : part a b true = bth a b := List.filter_congr fun x _ => by cases has b x.1 <;> rfl
theorem part_false (a b : List Pr) : part a b false = mns a b := List.filter_congr fun x _ => by cases has b x.1 <;> rfl
/-- the document's part of a map whose keys the other one has, or hasn't -/
theorem refPart_any {w : World} {A B : Option Addr} {M N : List Pr} {m n : Nat} (c d : Nat) (h : Bool) (ha : Rcs w A M) (hb : Rcs w B N) (em : m = M.length) (en : n = N.length) (hlen : M.length ≤ 900) (hlen2 : N.length ≤ 900) :
    Calls Try.prog 13 #[.slice A m c, .slice B n d, .bool h] w fun e w' => ∃ A' c' n', e = .returned (.slice A' n' c') ∧ n' = (part M N h).length ∧ Rcs w' A' (part M N h) ∧ Below w.heap.size w w' := by
  have hget := fun W (k : List UInt8) (hW : Below w.heap.size w W) => refVal_any (hb.below hW) d k (by omega)
  simp only [← en] at hget
  unfold part
  have HA := Lib.hid ha; clear ha
  have HG := Lib.hid hget; clear hget
  have EM := Lib.hid em
  have hM : m ≤ 900 := by omega
  clear em en hlen hb hlen2
  go_enter Try.func13, Try.ntmps13
  go_wp2_with fail
  go_loopw [7, 14] (fun v u wr => ∃ (j : Nat) (O : List Pr), u = .int .i64 j ∧ j ≤ m ∧ O.length ≤ j ∧ Hid (O = (M.take j).filter (fun x : Pr => has N x.1 == h)) ∧ Hid (Below w.heap.size w wr) ∧ Hid (wr.ownsRow w.heap.size 59 2 v O.length (scells O))) (fun _ u _ => m - (intOf u).toNat)
  case atStart => exact ⟨0, [], rfl, by omega, by simp, rfl, Below.refl _ _, World.ownsRow_nil _ _ _ _⟩
  case round =>
    obtain ⟨j, O, rfl, hj, hO, hOe, hbel, hown⟩ := hrel
    by_cases hlt : j < m
    · have hlt' : j < M.length := by rw [← EM.out]; exact hlt
      obtain ⟨bm, rfl, hbl, h1, h2⟩ := (HA.out.below hbel.out).at hlt'
      have hcall := fun W (hW : Below wr.heap.size wr W) => HG.out W (M[j]).1 (below_then hbel.out hW)
      obtain ⟨x, hx⟩ : ∃ s : ByteArray, s = ⟨(M[j]).1.toArray⟩ := ⟨_, rfl⟩
      obtain ⟨y, hy⟩ : ∃ s : ByteArray, s = ⟨(M[j]).2.toArray⟩ := ⟨_, rfl⟩
      obtain ⟨vs, hvs⟩ : ∃ s : ByteArray, s = ⟨(val N (M[j]).1).toArray⟩ := ⟨_, rfl⟩
      rw [← hx] at h1
      rw [← hy] at h2
      simp only [← hx, ← hvs] at hcall
      have hft := filter_take (fun x : Pr => has N x.1 == h) hlt'
      obtain ⟨g, hg⟩ : ∃ d, d = has N (M[j]).1 := ⟨_, rfl⟩
      simp only [← hg] at hcall hft
      obtain ⟨w1, hw1, b1, k1⟩ := box_strs wr (.string x) (.string y)
      obtain ⟨p0, p1⟩ := k1 w1 (Below.refl _ _)
      have HC := Lib.hid (hcall w1 b1); clear hcall
      have HO := Lib.hid (fun W (h : Below w1.heap.size w1 W) => And.intro (own_keep hown.out (below_then b1 h)) (below_then hbel.out (below_then b1 h)))
      have K1 := Lib.hid k1; clear k1
      have HW := Lib.hid hw1; clear hw1
      have HX := Lib.hid hx; clear hx
      have HY := Lib.hid hy; clear hy
      have hnn : O.length ≤ 1000 := by omega
      clear hg b1 hown hbel hvs
      obtain ⟨t, ht⟩ : ∃ t, t = (g == h) := ⟨_, rfl⟩
      rw [← ht] at hft
      cases t with
      | false =>
        have HI : Hid (O = (M.take (j + 1)).filter (fun x : Pr => has N x.1 == h)) := by show _ = _; rw [hft, if_neg (by decide), List.append_nil]; exact hOe.out
        have t1 : (g == h) = false := ht.symm
        clear hft hOe ht
        go_wp2_with (rw [← HW.out])
        refine HC.out.mono ?_
        rintro e w2 ⟨rfl, hb2⟩
        have H2 := Lib.hid (HO.out w2 hb2); clear hb2
        clear p0 p1 HO K1 HC
        go_wp2_with fail
        go_roundw
        case rel => exact ⟨j + 1, O, by go_num, by omega, by omega, HI.out, H2.out.2, H2.out.1⟩
        case measure => simp [intOf]; omega
      | true =>
        have HI : Hid (O ++ [M[j]] = (M.take (j + 1)).filter (fun x : Pr => has N x.1 == h)) := by show _ = _; rw [hft, if_pos (by decide), hOe.out]
        have t1 : (g == h) = true := ht.symm
        clear hft hOe ht
        go_wp2_with (rw [← HW.out])
        refine HC.out.mono ?_
        rintro e w2 ⟨rfl, hb2⟩
        have H2 := Lib.hid (HO.out w2 hb2)
        clear p0 p1
        obtain ⟨p0, p1⟩ := K1.out w2 hb2
        clear hb2 HO K1 HC
        go_wp2_with (at_builtin; refine list_app2 (B := w.heap.size) (w := w2) 26 59 _ 32 Try.underlying26 Try.info59 rfl (by decide) rfl (.tmp 28) (.tmp 30) rfl _ (O).length (scells (O)) H2.out.1 (.string x) (.string y) rfl rfl rfl (rfl) (hnn) (H2.out.2.size) ?_; intro v1 w3 ho3 hg3)
        go_roundw
        case rel =>
          refine ⟨j + 1, O ++ [M[j]], by go_num, by omega, by simp; omega, HI.out, H2.out.2.grown hg3 H2.out.2.size (fun k hk => (H2.out.1.lt k hk).1), ?_⟩
          show World.ownsRow _ _ _ _ _ _ _
          rw [scells_snoc, List.length_append, ← HX.out, ← HY.out]; exact ho3
        case measure => simp [intOf]; omega
    · obtain rfl : j = m := by omega
      have HE : Hid (O = M.filter (fun x : Pr => has N x.1 == h)) := by
        have h := hOe.out
        rw [EM.out, List.take_length] at h
        exact h
      obtain ⟨A', c', e, hr⟩ := rcs_own hown.out
      subst e
      have HR := Lib.hid hr; clear hr
      clear hOe hown
      go_wp2_with fail
      go_ret
      exact ⟨A', c', _, rfl, by rw [← HE.out], by rw [← HE.out]; exact HR.out, hbel.out⟩
end Go.Proofs.Ytnniojlofhbioaa
