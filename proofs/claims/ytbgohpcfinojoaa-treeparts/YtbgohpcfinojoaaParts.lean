/-
  The contract of parts: a tree is its left one, its own pair, and its right one, again and again.
-/
import Derived.Test.YtbgohpcfinojoaaJoins
import Derived.Test.YtbgohpcfinojoaaPlays
import Derived.Test.YtbgohpcfinojoaaSame
namespace Go.Proofs.Ytbgohpcfinojoaa
open Go.RowKit
set_option maxHeartbeats 4000000
set_option maxRecDepth 100000
theorem Mrow.append {B : Nat} {w : World} {xs ys : List Value} {L M : List Pr} (h : Mrow B w xs L) (k : Mrow B w ys M) : Mrow B w (xs ++ ys) (L ++ M) := by
  refine ⟨by rw [List.length_append, List.length_append, h.1, k.1, Nat.add_mul], fun i hi => ?_⟩
  have hl := h.1
  rcases Nat.lt_or_ge i L.length with g | g
  · rw [List.getElem?_append_left (by omega), List.getElem?_append_left (by omega), List.getElem_append_left g]
    exact h.2 i g
  · rw [List.getElem?_append_right (by omega), List.getElem?_append_right (by omega), List.getElem_append_right g, hl, show i * 2 - L.length * 2 = (i - L.length) * 2 by omega, show i * 2 + 1 - L.length * 2 = (i - L.length) * 2 + 1 by omega]
    exact k.2 (i - L.length) (by simp at hi; omega)
theorem Mrow.one {B : Nat} {w : World} {xs : List Value} {L : List Pr} (h : Mrow B w xs L) : ∀ u ∈ xs, u.oneCell' = true := by
  intro u hu
  obtain ⟨j, hj, rfl⟩ := List.getElem_of_mem hu
  have hl := h.1
  obtain ⟨kb, vb, h1, h2, _⟩ := h.2 (j / 2) (by omega)
  rcases Nat.mod_two_eq_zero_or_one j with e | e
  · have : xs[j]? = some (.slice (some ⟨kb, 0, none⟩) (L[j / 2]'(by omega)).1.length (L[j / 2]'(by omega)).1.length) := by rw [← h1]; congr 1; omega
    rw [List.getElem?_eq_getElem hj] at this
    injection this with this
    rw [this]; rfl
  · have : xs[j]? = some (.slice (some ⟨vb, 0, none⟩) (L[j / 2]'(by omega)).2.length (L[j / 2]'(by omega)).2.length) := by rw [← h2]; congr 1; omega
    rw [List.getElem?_eq_getElem hj] at this
    injection this with this
    rw [this]; rfl
theorem Mrow.mono {B B' : Nat} {w : World} {xs : List Value} {L : List Pr} (h : Mrow B w xs L) (hB : B' ≤ B) : Mrow B' w xs L := by
  refine ⟨h.1, fun i hi => ?_⟩
  obtain ⟨kb, vb, h1, h2, h3, h4⟩ := h.2 i hi
  exact ⟨kb, vb, h1, h2, ⟨Nat.le_trans hB h3.1, h3.2⟩, ⟨Nat.le_trans hB h4.1, h4.2⟩⟩
theorem Mrow.below {B : Nat} {w w' : World} {xs : List Value} {L : List Pr} (h : Mrow B w xs L) (hb : Below w.heap.size w w') : Mrow B w' xs L := h.keep fun _ _ k => k.below hb
theorem Fresh.of {B n : Nat} {w : World} {v : Value} {xs : List Value} {L : List Pr} (h : w.ownsRow B 39 2 v n xs) (hn : n = L.length) (hm : Mrow B w xs L) : ∃ A c, v = .slice A L.length c ∧ Fresh B w A c L := by
  subst hn
  obtain ⟨A, c, rfl, _⟩ := row_reads h
  exact ⟨A, c, rfl, xs, h, hm⟩
theorem Fresh.below {B c : Nat} {w w' : World} {A : Option Addr} {L : List Pr} (h : Fresh B w A c L) (hb : Below w.heap.size w w') : Fresh B w' A c L := by
  obtain ⟨xs, h1, h2⟩ := h
  exact ⟨xs, own_keep h1 hb, h2.below hb⟩
theorem below_grown {B n : Nat} {w w' : World} {v : Value} {xs : List Value} (h : w.ownsRow B 39 2 v n xs) (hg : w.grownBy w' v.ownBlock) (hB : B ≤ w.heap.size) : Below B w w' := by
  refine ⟨hg.os, hg.tape, hg.output, hg.size, fun k hk => hg.block k (Nat.lt_of_lt_of_le hk hB) fun e => ?_⟩
  rcases h.2 with ⟨rfl, _⟩ | ⟨g', cap, cur, rfl, hb, _⟩
  · simp [Value.ownBlock] at e
  · have : k = g' := by simpa [Value.ownBlock] using e
    omega
/-- append of a list that was told onto one that the call owns, at a plain region's list -/
theorem list_app_fresh {B B2 : Nat} {w : World} {ops : Array Oper} {rest : List Oper} {o : Oper} {a : Act} {Q : Exit → Act → World → Prop} (hgd : o.guard = none) (s x : Operand) (ho : o.op = .call { callee := .builtin .append, args := #[s, x], argTypes := #[33, 33] })
    (v : Value) (xs : List Value) (M L : List Pr) (A : Option Addr) (c : Nat) (h : w.ownsRow B 39 2 v M.length xs) (hm : Mrow B w xs M) (hf : Fresh B2 w A c L) (hB2 : B ≤ B2) (hs : a.eval s = v) (hx : a.eval x = .slice A L.length c) (hlen : M.length + L.length ≤ 1000) (hB : B ≤ w.heap.size) (X : List Pr) (hX : X = M ++ L)
    (hK : ∀ A' c' w', Fresh B w' A' c' X → Below B w w' → wpList Try.prog ops Q rest (a.put o.dst (.slice A' X.length c')) w') : wpList Try.prog ops Q (o :: rest) a w := by
  subst hX
  obtain ⟨zs, hzo, hzm⟩ := hf
  obtain ⟨A2, c2, e, hrd⟩ := row_reads hzo
  injection e with e1 _ e2
  subst e1
  have hnews : zs = [] ∨ ∃ a, A = some a ∧ ∀ j u, zs[j]? = some u → w.cell? (a.add j) = some u := by
    rcases Nat.eq_zero_or_pos L.length with h0 | h0
    · left
      exact List.eq_nil_of_length_eq_zero (by rw [hzm.1, h0])
    · right
      obtain ⟨g, rfl, _, _, hc⟩ := hrd h0
      refine ⟨_, rfl, fun j u hj => ?_⟩
      rw [Go.WideShapes.add_plain, Nat.zero_add, hc j (by have := (List.getElem?_eq_some_iff.1 hj).1; rw [hzm.1] at this; exact this)]
      exact hj
  refine wpList_plain hgd fun _ hk => ?_
  obtain ⟨v', w', hr, hown, hg⟩ := run_app_pairs h A L.length c zs hzm.1 hzm.one hnews o.type hlen hB
  have up : ∀ b l, NewRow B w b l → NewRow B w' b l := fun b l k => k.grown h hg
  have hmm : Mrow B w' (xs ++ zs) (M ++ L) := (hm.append (hzm.mono hB2)).keep up
  obtain ⟨A', c', rfl, hfr⟩ := Fresh.of hown (by rw [List.length_append]) hmm
  unfold Oper.wp execOp
  simp only [ho, resolve, invoke, builtin, Sem.run_bind, Sem.run_pure, Result.andThen_ok, List.map_toArray, List.map_cons, List.map_nil, hs, hx, hr]
  exact hk _ _ (hK A' c' w' hfr (below_grown h hg hB))
/-- append of one pair in memory of its own -/
theorem list_app_own {B : Nat} {w : World} {ops : Array Oper} {rest : List Oper} {o : Oper} {a : Act} {Q : Exit → Act → World → Prop} (hgd : o.guard = none) (s x : Operand) (ho : o.op = .call { callee := .builtin .append, args := #[s, x], argTypes := #[33, 33] })
    (M : List Pr) (A : Option Addr) (c : Nat) (hf : Fresh B w A c M) (q : Pr) (g1 g2 : Nat) (h1 : NewRow B w g1 q.1) (h2 : NewRow B w g2 q.2) (hs : a.eval s = .slice A M.length c) (hx : a.eval x = .slice (some ⟨w.heap.size, 0, none⟩) 1 1) (hlen : M.length ≤ 1000) (hB : B ≤ w.heap.size) (X : List Pr) (hX : X = M ++ [q])
    (hK : ∀ A' c' w', Fresh B w' A' c' X → Below B w w' → wpList Try.prog ops Q rest (a.put o.dst (.slice A' X.length c')) w') : wpList Try.prog ops Q (o :: rest) a (w.alloc (.cells #[.slice (some ⟨g1, 0, none⟩) q.1.length q.1.length, .slice (some ⟨g2, 0, none⟩) q.2.length q.2.length] 39)) := by
  subst hX
  obtain ⟨xs, hxo, hxm⟩ := hf
  refine list_app2 33 39 _ 48 Try.underlying33 Try.info39 rfl (by decide) hgd s x ho _ M.length xs hxo _ _ rfl rfl hs hx hlen hB ?_
  intro v' w' hown hg
  have up : ∀ b l, NewRow B w b l → NewRow B w' b l := fun b l k => k.grown hxo hg
  obtain ⟨A', c', rfl, hfr⟩ := Fresh.of (L := M ++ [q]) hown (by rw [List.length_append]; rfl) ((hxm.keep up).snoc (up _ _ h1) (up _ _ h2))
  exact hK A' c' w' hfr (below_grown hxo hg hB)
theorem parts_nil (w : World) (deep : Nat) : Calls Try.prog 24 #[.pointer none, .int .i64 (deep : Int)] w fun e w' => e = .returned (.bool true) ∧ Below w.heap.size w w' := by
  have ht : ∀ W, Tre (fun _ => True) W .nil none := fun _ => rfl
  have S1 := Lib.hid (fun W => size_any (ht W) (by decide))
  have S2 := Lib.hid (fun W => height_any .nil W none (by decide) (ht W))
  have S3 := Lib.hid (fun W => left_any (ht W))
  have S4 := Lib.hid (fun W => right_any (ht W))
  have S5 := Lib.hid root_nil
  have S6 := Lib.hid (fun W => list_any (ht W) (by decide) (fun x hx => by simp [Tr.list] at hx))
  have hfld : ∀ W, (Instr.field 39 (.agg #[.slice none 0 0, .slice none 0 0]) 0).run Try.prog W = .ok (.slice none 0 0) W := fun W => by kernel_rfl
  clear ht
  go_enter Try.func24, Try.ntmps24
  go_wp2_with fail
  refine (S1.out _).mono ?_
  rintro e w' ⟨rfl, rfl⟩
  simp only [Tr.size]
  go_wp2_with fail
  refine (S2.out _).mono ?_
  rintro e w' ⟨rfl, n1, rfl⟩
  simp only [Tr.high]
  go_wp2_with fail
  refine (S3.out _).mono ?_
  rintro e w' ⟨p', rfl, (hp : p' = none), rfl⟩
  subst hp
  go_wp2_with fail
  refine (S4.out _).mono ?_
  rintro e w' ⟨p', rfl, (hp : p' = none), rfl⟩
  subst hp
  go_wp2_with fail
  refine (S5.out _).mono ?_
  rintro e w2 ⟨rfl, hb2⟩
  have HB2 := Lib.hid hb2; clear hb2
  go_wp2_with fail
  refine (S6.out _).mono ?_
  rintro e w3 ⟨A, c, rfl, _, hb3⟩
  have HB3 := Lib.hid hb3; clear hb3
  simp only [Tr.list, List.length_nil]
  go_wp2_with fail
  go_ret
  exact ⟨rfl, below_then (below_drewN (Below.refl _ _) n1) (below_then HB2.out HB3.out)⟩
theorem then_mono {B : Nat} {a b c : World} (h : Below B a b) (hB : B ≤ a.heap.size) (k : Below b.heap.size b c) : Below B a c := h.trans (k.mono (Nat.le_trans hB h.size))
theorem parts_node {F : Nat → Prop} {w : World} {l r : Tr} {q : Pr} {p : Option Addr} (deep : Nat) (ht : Tre F w (.node l q r) p) (hd : (Tr.node l q r).high ≤ deep) (hd2 : deep ≤ 64) (hs : l.size + r.size ≤ 100) (hf : Fits (Tr.node l q r).list)
    (il : ∀ (W : World) (pl : Option Addr), Tre (fun b => b < w.heap.size) W l pl → Calls Try.prog 24 #[.pointer pl, .int .i64 ((deep : Int) - 1)] W fun e w' => e = .returned (.bool true) ∧ Below W.heap.size W w')
    (ir : ∀ (W : World) (pr : Option Addr), Tre (fun b => b < w.heap.size) W r pr → Calls Try.prog 24 #[.pointer pr, .int .i64 ((deep : Int) - 1)] W fun e w' => e = .returned (.bool true) ∧ Below W.heap.size W w') :
    Calls Try.prog 24 #[.pointer p, .int .i64 (deep : Int)] w fun e w' => e = .returned (.bool true) ∧ Below w.heap.size w w' := by
  have ht1 : Tre (fun b => b < w.heap.size) w (.node l q r) p := ht.mono (fun _ h _ => h)
  obtain ⟨b, rfl, _⟩ := tre_some ht (by intro e; cases e)
  obtain ⟨B, hB⟩ : ∃ B, B = w.heap.size := ⟨_, rfl⟩
  have hf1 : Fits l.list := fun x hx => hf x (by simp [Tr.list, hx])
  have hf2 : Fits r.list := fun x hx => hf x (by simp [Tr.list, hx])
  have hfq := hf q (by simp [Tr.list])
  have hts : (Tr.node l q r).size = l.size + r.size + 1 := rfl
  have hth : (Tr.node l q r).high = 1 + max l.high r.high := rfl
  have lle : l.list.length = l.size := Tr.length l
  have lre : r.list.length = r.size := Tr.length r
  have llt : (Tr.node l q r).list.length = l.size + r.size + 1 := by rw [Tr.length]; rfl
  rw [← hB] at ht1 il ir ⊢
  have trl : ∀ W (hW : Below B w W) pl, Tre (fun b => b < B) w l pl → Tre (fun b => b < B) W l pl := fun W hW pl h => h.kept (kept_of hW)
  have trr : ∀ W (hW : Below B w W) pl, Tre (fun b => b < B) w r pl → Tre (fun b => b < B) W r pl := fun W hW pl h => h.kept (kept_of hW)
  have trt : ∀ W (hW : Below B w W), Tre (fun b => b < B) W (.node l q r) (some ⟨b, 0, none⟩) := fun W hW => ht1.kept (kept_of hW)
  have H1 := Lib.hid (left_any ht1)
  have H2 := Lib.hid (right_any ht1)
  have HLI := Lib.hid (fun W (hW : Below B w W) pl (h : Tre (fun b => b < B) w l pl) => list_any (trl W hW pl h) (by omega) hf1)
  have HRI := Lib.hid (fun W (hW : Below B w W) pl (h : Tre (fun b => b < B) w r pl) => list_any (trr W hW pl h) (by omega) hf2)
  have HTI := Lib.hid (fun W (hW : Below B w W) => list_any (trt W hW) (by omega) hf)
  have HRO := Lib.hid (fun W (hW : Below B w W) => root_any (trt W hW) (by omega))
  have HSL := Lib.hid (fun W (hW : Below B w W) pl (h : Tre (fun b => b < B) w l pl) => size_any (trl W hW pl h) (by omega))
  have HSR := Lib.hid (fun W (hW : Below B w W) pl (h : Tre (fun b => b < B) w r pl) => size_any (trr W hW pl h) (by omega))
  have HST := Lib.hid (fun W (hW : Below B w W) => size_any (trt W hW) (by omega))
  have HHL := Lib.hid (fun W (hW : Below B w W) pl (h : Tre (fun b => b < B) w l pl) => height_any l W pl (by omega) (trl W hW pl h))
  have HHR := Lib.hid (fun W (hW : Below B w W) pl (h : Tre (fun b => b < B) w r pl) => height_any r W pl (by omega) (trr W hW pl h))
  have HHT := Lib.hid (fun W (hW : Below B w W) => height_any (Tr.node l q r) W _ (by omega) (trt W hW))
  have HPL := Lib.hid (fun W (hW : Below B w W) pl (h : Tre (fun b => b < B) w l pl) => il W pl (trl W hW pl h))
  have HPR := Lib.hid (fun W (hW : Below B w W) pl (h : Tre (fun b => b < B) w r pl) => ir W pl (trr W hW pl h))
  obtain ⟨X, hX⟩ : ∃ X, X = l.list ++ [q] := ⟨_, rfl⟩
  have heq : (Tr.node l q r).list = X ++ r.list := by rw [hX]; simp [Tr.list]
  have hxl : X.length = l.size + 1 := by rw [hX]; simp [Tr.length]
  have HXL := Lib.hid hxl; clear hxl
  have HXX := Lib.hid hX; clear hX
  have HEQ := Lib.hid heq; clear heq
  have HS := Lib.hid hs; clear hs
  have HBB := Lib.hid hB; clear hB
  obtain ⟨T, hT⟩ : ∃ T, T = Tr.node l q r := ⟨_, rfl⟩
  simp only [← hT] at HTI HRO HST HHT HEQ hts hth llt hd H1 H2
  have hle : ∀ k : Option Addr, Tre (fun b => b < B) w T.left k → Tre (fun b => b < B) w l k := fun k h => by rw [hT] at h; exact h
  have hre : ∀ k : Option Addr, Tre (fun b => b < B) w T.right k → Tre (fun b => b < B) w r k := fun k h => by rw [hT] at h; exact h
  have HLE := Lib.hid hle; clear hle
  have HRE := Lib.hid hre; clear hre
  have LLE := Lib.hid lle; clear lle
  have LRE := Lib.hid lre; clear lre
  have LLT := Lib.hid llt; clear llt
  have HTS := Lib.hid hts; clear hts
  have HTH := Lib.hid hth; clear hth
  have HD := Lib.hid hd; clear hd
  have dd : ((deep : Int) == 0) = false := by have h1 := HD.out; have h2 := HTH.out; simpa using (show ¬ (deep : Int) = 0 by omega)
  clear ht ht1 hf hf1 hf2 hfq il ir trl trr trt hT
  go_enter Try.func24, Try.ntmps24
  go_wp2_with fail
  refine H1.out.mono ?_
  rintro e w' ⟨pl, rfl, hpl, rfl⟩
  have HPl := Lib.hid (HLE.out _ hpl); clear hpl
  go_wp2_with fail
  refine H2.out.mono ?_
  rintro e w' ⟨pr, rfl, hpr, rfl⟩
  have HPr := Lib.hid (HRE.out _ hpr); clear hpr
  have hb0 : Below B w w := Below.refl _ _
  have J1 := Lib.hid (HLI.out w hb0 pl HPl.out)
  go_wp2_with fail
  refine J1.out.mono ?_
  rintro e w1 ⟨A1, c1, rfl, f1, b1⟩
  have b1' : Below B w w1 := b1.mono (Nat.le_of_eq HBB.out)
  have J2 := Lib.hid (HRO.out w1 b1')
  rw [← HBB.out] at f1
  have F1 := Lib.hid f1; clear f1
  have B1 := Lib.hid b1'; clear b1'
  clear b1 J1
  go_wp2_with fail
  refine J2.out.mono ?_
  rintro e w2 ⟨g1, g2, rfl, r1, r2, b2⟩
  have hBw : B ≤ w.heap.size := Nat.le_of_eq HBB.out
  have hBw1 : B ≤ w1.heap.size := Nat.le_trans hBw B1.out.size
  have R1 : Hid (NewRow B w2 g1 q.1) := ⟨Nat.le_trans hBw1 r1.1, r1.2⟩
  have R2 : Hid (NewRow B w2 g2 q.2) := ⟨Nat.le_trans hBw1 r2.1, r2.2⟩
  have B2 := Lib.hid (then_mono B1.out hBw b2)
  have F2 := Lib.hid (F1.out.below b2)
  have hs0 := HS.out
  have L2 : Hid (l.list.length ≤ 1000) := by show _ ≤ _; have := LLE.out; omega
  have S2 : Hid (B ≤ w2.heap.size) := Nat.le_trans hBw B2.out.size
  clear r1 r2 b2 J2 F1 B1 hBw1 hs0
  go_wp2_with (at_builtin; refine list_app_own (B := B) (w := w2) rfl (.tmp 46) (.tmp 49) rfl l.list A1 c1 F2.out q g1 g2 R1.out R2.out rfl rfl L2.out S2.out X HXX.out ?_; intro A3 c3 w3 f3 b3)
  have B3 := Lib.hid (B2.out.trans b3)
  have F3 := Lib.hid f3; clear f3
  have J3 := Lib.hid (HRI.out w3 B3.out pr HPr.out)
  clear b3 F2 B2 R1 R2 L2 S2
  refine J3.out.mono ?_
  rintro e w4 ⟨A4, c4, rfl, f4, b4⟩
  have B4 := Lib.hid (then_mono B3.out hBw b4)
  obtain ⟨xs3, o3, m3⟩ := F3.out.below b4
  have hs0 := HS.out
  have L4 : Hid (X.length + r.list.length ≤ 1000) := by show _ ≤ _; have := HXL.out; have := LRE.out; omega
  have S4 : Hid (B ≤ w3.heap.size ∧ B ≤ w4.heap.size) := ⟨Nat.le_trans hBw B3.out.size, Nat.le_trans hBw B4.out.size⟩
  have F4 := Lib.hid f4; clear f4
  have O3 := Lib.hid o3; clear o3
  have M3 := Lib.hid m3; clear m3
  clear b4 J3 F3 B3 hs0
  go_wp2_with (at_builtin; refine list_app_fresh (B := B) (B2 := w3.heap.size) (w := w4) rfl (.tmp 50) (.tmp 52) rfl _ xs3 X r.list A4 c4 O3.out M3.out F4.out S4.out.1 rfl rfl L4.out S4.out.2 T.list HEQ.out ?_; intro A5 c5 w5 f5 b5)
  have B5 := Lib.hid (B4.out.trans b5)
  have F5 := Lib.hid f5; clear f5
  have J5 := Lib.hid (HTI.out w5 B5.out)
  clear b5 B4 O3 M3 F4 L4 S4
  refine J5.out.mono ?_
  rintro e w6 ⟨A6, c6, rfl, f6, b6⟩
  have B6 := Lib.hid (then_mono B5.out hBw b6)
  have hsame := same_any f6.pcs (F5.out.below b6).pcs c6 c5 (by have := LLT.out; have := HS.out; omega)
  rw [decide_eq_true (show T.list = T.list from rfl)] at hsame
  have J6 := Lib.hid hsame; clear hsame
  clear f6 b6 J5 F5 B5
  go_wp2_with fail
  refine J6.out.mono ?_
  rintro e w7 ⟨rfl, b7⟩
  have B7 := Lib.hid (then_mono B6.out hBw b7)
  have J7 := Lib.hid (HST.out w7 B7.out)
  have J8 := Lib.hid (HSL.out w7 B7.out pl HPl.out)
  have J9 := Lib.hid (HSR.out w7 B7.out pr HPr.out)
  obtain ⟨tn, htn⟩ : ∃ n, n = T.size := ⟨_, rfl⟩
  obtain ⟨ls, hls⟩ : ∃ n, n = l.size := ⟨_, rfl⟩
  obtain ⟨rs, hrs⟩ : ∃ n, n = r.size := ⟨_, rfl⟩
  rw [← htn] at J7
  rw [← hls] at J8
  rw [← hrs] at J9
  have hsum : IntKind.i64.wrap (IntKind.i64.wrap ((ls : Int) + 1) + (rs : Int)) = (tn : Int) := by
    have h1 := HTS.out
    have h2 := HS.out
    rw [IntWalk.i64_in ((ls : Int) + 1) (by omega), show (ls : Int) + 1 + (rs : Int) = (tn : Int) by omega]
    exact IntWalk.i64_in _ (by omega)
  have hsum2 : ((tn : Int) != IntKind.i64.wrap (IntKind.i64.wrap ((ls : Int) + 1) + (rs : Int))) = false := by rw [hsum]; simp
  have hsmall : ls + rs ≤ 100 ∧ tn = ls + rs + 1 := by have h1 := HTS.out; have h2 := HS.out; omega
  have HSUM := Lib.hid hsum; clear hsum
  have HSUM2 := Lib.hid hsum2; clear hsum2
  clear b7 J6 B6 htn hls hrs
  go_wp2_with fail
  refine J7.out.mono ?_
  rintro e w' ⟨rfl, rfl⟩
  go_wp2_with fail
  refine J8.out.mono ?_
  rintro e w' ⟨rfl, rfl⟩
  go_wp2_with fail
  refine J9.out.mono ?_
  rintro e w' ⟨rfl, rfl⟩
  have K1 := Lib.hid (HHT.out w7 B7.out)
  obtain ⟨th, hth⟩ : ∃ n, n = T.high := ⟨_, rfl⟩
  obtain ⟨lh, hlh⟩ : ∃ n, n = l.high := ⟨_, rfl⟩
  obtain ⟨rh, hrh⟩ : ∃ n, n = r.high := ⟨_, rfl⟩
  rw [← hth] at K1
  have hmx : th = 1 + max lh rh := by rw [hth, hlh, hrh]; exact HTH.out
  have hdp : 1 ≤ deep := by have h1 := HD.out; have h2 := HTH.out; omega
  have hthd : th ≤ 64 := by have h1 := HD.out; omega
  have HLH := Lib.hid hlh; clear hlh
  have HRH := Lib.hid hrh; clear hrh
  clear hth J7 J8 J9
  go_wp2_with fail
  refine K1.out.mono ?_
  rintro e w8 ⟨rfl, n1, hw8⟩
  have B8 : Hid (Below B w w8) := by (show Below B w w8); (rw [hw8]); exact below_drewN B7.out n1
  clear hw8 B7 K1
  have k2 := HHL.out w8 B8.out pl HPl.out
  rw [← HLH.out] at k2
  have K2 := Lib.hid k2; clear k2
  go_wp2_with fail
  refine K2.out.mono ?_
  rintro e w9 ⟨rfl, n2, hw9⟩
  have B9 : Hid (Below B w w9) := by (show Below B w w9); (rw [hw9]); exact below_drewN B8.out n2
  clear hw9 B8 K2
  have k3 := HHR.out w9 B9.out pr HPr.out
  rw [← HRH.out] at k3
  have K3 := Lib.hid k3; clear k3
  rcases Nat.lt_or_ge lh rh with g | g
  · obtain rfl : th = 1 + rh := by omega
    clear hmx
    go_wp2_with fail
    refine K3.out.mono ?_
    rintro e w10 ⟨rfl, n3, hw10⟩
    have B10 : Hid (Below B w w10) := by (show Below B w w10); (rw [hw10]); exact below_drewN B9.out n3
    clear hw10 B9 K3
    have K4 := Lib.hid (HPL.out w10 B10.out pl HPl.out)
    have hwr : IntKind.i64.wrap ((deep : Int) - 1) = (deep : Int) - 1 := IntWalk.i64_in _ (by omega)
    go_wp2_with fail
    refine K4.out.mono ?_
    rintro e w11 ⟨rfl, b11⟩
    have B11 := Lib.hid (then_mono B10.out hBw b11); clear b11 B10 K4
    have K5 := Lib.hid (HPR.out w11 B11.out pr HPr.out)
    go_wp2_with fail
    refine K5.out.mono ?_
    rintro e w12 ⟨rfl, b12⟩
    have B12 := Lib.hid (then_mono B11.out hBw b12); clear b12 B11 K5
    go_wp2_with fail
    go_ret
    exact ⟨rfl, B12.out⟩
  · obtain rfl : th = 1 + lh := by omega
    clear hmx
    go_wp2_with fail
    refine K3.out.mono ?_
    rintro e w10 ⟨rfl, n3, hw10⟩
    have B10 : Hid (Below B w w10) := by (show Below B w w10); (rw [hw10]); exact below_drewN B9.out n3
    clear hw10 B9 K3
    have K4 := Lib.hid (HPL.out w10 B10.out pl HPl.out)
    have hwr : IntKind.i64.wrap ((deep : Int) - 1) = (deep : Int) - 1 := IntWalk.i64_in _ (by omega)
    go_wp2_with fail
    refine K4.out.mono ?_
    rintro e w11 ⟨rfl, b11⟩
    have B11 := Lib.hid (then_mono B10.out hBw b11); clear b11 B10 K4
    have K5 := Lib.hid (HPR.out w11 B11.out pr HPr.out)
    go_wp2_with fail
    refine K5.out.mono ?_
    rintro e w12 ⟨rfl, b12⟩
    have B12 := Lib.hid (then_mono B11.out hBw b12); clear b12 B11 K5
    go_wp2_with fail
    go_ret
    exact ⟨rfl, B12.out⟩
theorem parts_any : ∀ (t : Tr) (F : Nat → Prop) (p : Option Addr) (w : World) (deep : Nat), Tre F w t p → t.high ≤ deep → deep ≤ 64 → t.size ≤ 100 → Fits t.list →
    Calls Try.prog 24 #[.pointer p, .int .i64 (deep : Int)] w fun e w' => e = .returned (.bool true) ∧ Below w.heap.size w w'
  | .nil, F, p, w, deep, ht, _, _, _, _ => by
    obtain rfl : p = none := ht
    exact parts_nil w deep
  | .node l q r, F, p, w, deep, ht, hd, hd2, hs, hf => by
    have hh : l.high + 1 ≤ (Tr.node l q r).high ∧ r.high + 1 ≤ (Tr.node l q r).high := by simp only [Tr.high]; omega
    have hs' : l.size + r.size + 1 ≤ 100 := by simpa only [Tr.size] using hs
    have e : (deep : Int) - 1 = ((deep - 1 : Nat) : Int) := by omega
    refine parts_node deep ht hd hd2 (by omega) hf ?_ ?_
    · intro W pl hl
      rw [e]
      exact parts_any l _ pl W (deep - 1) hl (by omega) (by omega) (by omega) (fun x hx => hf x (by simp [Tr.list, hx]))
    · intro W pr hr
      rw [e]
      exact parts_any r _ pr W (deep - 1) hr (by omega) (by omega) (by omega) (fun x hx => hf x (by simp [Tr.list, hx]))
end Go.Proofs.Ytbgohpcfinojoaa
