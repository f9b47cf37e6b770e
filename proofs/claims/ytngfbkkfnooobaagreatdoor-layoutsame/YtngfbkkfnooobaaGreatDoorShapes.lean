/-
  Contract of the reference's Shape.
-/
import Derived.Test.YtngfbkkfnooobaaGreatDoorCountz
import Derived.Test.YtngfbkkfnooobaaGreatDoorShape
import Derived.Deep.RegionHeld3
namespace Go.Proofs.YtngfbkkfnooobaaGreatDoor
open Go.RowKit Go.ChangeShapes
set_option maxHeartbeats 4000000
set_option maxRecDepth 100000
theorem Tryz.info83 : (Tryz.prog.info? 83).map (fun i => (i.zero, i.size, i.bytes)) = some (some (.agg #[.int .i64 0, .int .i64 0, .int .u64 0, .int .u32 0, .int .i64 0]), 5, 40) := by kernel_rfl
/-- append of a list of spots onto a row of the call's own -/
theorem spots_app {w : World} {B n : Nat} {v : Value} {xs : List Value} {ops : Array Oper} {rest : List Oper} {o : Oper} {a : Act} {Q : Exit → Act → World → Prop} (hgd : o.guard = none) (s x : Operand) (ho : o.op = .call { callee := .builtin .append, args := #[s, x], argTypes := #[40, 40] })
    (h : w.ownsRow B 83 5 v n xs) {b m c : Nat} {news : List Value} (hl : news.length = m * 5) (hc : ∀ j u, news[j]? = some u → w.cell? ⟨b, j, none⟩ = some u) (h1 : ∀ u ∈ news, u.oneCell' = true) (hn : n + m ≤ 9000) (hB : B ≤ w.heap.size) (hs : a.eval s = v) (hx : a.eval x = .slice (some ⟨b, 0, none⟩) m c)
    (hK : ∀ v' w', w'.ownsRow B 83 5 v' (n + m) (xs ++ news) → Below B w w' → wpList Tryz.prog ops Q rest (a.put o.dst v') w') : wpList Tryz.prog ops Q (o :: rest) a w := by
  obtain ⟨i0, hi, hz0, hz1, hz2⟩ := info_parts Tryz.info83
  obtain ⟨v', w', hr, hown, hg, _, hob⟩ := run_append_own_at (P := Tryz.prog) (w := w) B 40 o.type 83 i0 _ 5 40 (by kernel_rfl) hi hz0 hz1 hz2 rfl (by decide) v n xs h ⟨b, 0, none⟩ m c news hl (fun j u hj => by rw [Go.WideShapes.add_plain, Nat.zero_add]; exact hc j u hj) h1
    (by unfold maxLen; omega) (by omega) hB
  refine wpList_plain hgd fun _ hk => ?_
  unfold Oper.wp execOp
  simp only [ho, resolve, invoke, builtin, Sem.run_bind, Sem.run_pure, Result.andThen_ok, List.map_toArray, List.map_cons, List.map_nil, hs, hx, hr]
  refine hk _ _ (hK v' w' hown ⟨hg.os, hg.tape, hg.output, hg.size, fun k hk => hg.block k (by omega) fun e => ?_⟩)
  obtain ⟨_, h⟩ := h
  rcases h with ⟨rfl, _⟩ | ⟨q, cap, cur, rfl, hb, _⟩
  · cases e
  · injection e with e
    have e : k = q := e
    omega
theorem own_less {w : World} {B C e size n : Nat} {v : Value} {xs : List Value} (h : w.ownsRow C e size v n xs) (k : B ≤ C) : w.ownsRow B e size v n xs := by
  obtain ⟨h1, h⟩ := h
  rcases h with h | ⟨g, cap, cur, h2, h3, h4⟩
  · exact ⟨h1, .inl h⟩
  · exact ⟨h1, .inr ⟨g, cap, cur, h2, Nat.le_trans k h3, h4⟩⟩
theorem spcells_len (S : List Sp) : (spcells S).length = S.length * 5 := by
  induction S with
  | nil => rfl
  | cons s S ih =>
    have e : spcells (s :: S) = s.cells ++ spcells S := by simp [spcells]
    rw [e, List.length_append, ih, List.length_cons]
    have : s.cells.length = 5 := rfl
    omega
theorem spcells_cat (S T : List Sp) : spcells (S ++ T) = spcells S ++ spcells T := by simp [spcells]
theorem spcells_one (S : List Sp) : ∀ u ∈ spcells S, u.oneCell' = true := fun u hu => by
  obtain ⟨s, _, hs⟩ := List.mem_flatMap.1 hu
  simp [Sp.cells] at hs
  rcases hs with rfl | rfl | rfl | rfl | rfl <;> rfl
def ShapeAt (x : Nd) : Prop := ∀ (F : Nat → Prop) (w : World) (r : RN) (lv : Nat), Mde F w x r → x.ok → x.right lv = true → lv ≤ 13 → x.cnt ≤ 1000000000000 → (x.shape lv).length ≤ 8000 →
  Calls Tryz.prog 13 #[RN.agg r x, .int .i64 (lv : Int)] w fun e w' => ∃ v, e = .returned v ∧ w'.ownsRow w.heap.size 83 5 v (x.shape lv).length (spcells (x.shape lv)) ∧ Below w.heap.size w w'
theorem shape_none : ShapeAt .none := fun F w r lv hm ho hr hl hc hs => by
  obtain ⟨pa, pc, sa, sc, ka, kc⟩ := r
  show Calls Tryz.prog 13 #[.agg #[.int .i64 0, .int .u64 0, .slice pa 0 pc, .slice sa 0 sc, .slice ka 0 kc], .int .i64 (lv : Int)] w _
  have hb : Below w.heap.size w (w.alloc (.cells #[.int .i64 0, .int .u64 0, .slice pa 0 pc, .slice sa 0 sc, .slice ka 0 kc] 33)) := (Below.refl _ _).alloc (Nat.le_refl _) _
  have HB := Lib.hid hb; clear hb hm ho hr hl hc hs
  go_enter Tryz.func13, Tryz.ntmps13
  go_wp2_with fail
  go_ret
  exact ⟨_, rfl, World.ownsRow_nil _ _ _ _, HB.out⟩
theorem shape_some (x : Nd) (hx : x ≠ .none) (ih : ∀ i, i < x.num → ShapeAt (x.kid i)) : ShapeAt x := fun F w r lv hm ho hr hl hc hs => by
  have hsh := Nd.shape_eq x lv hx
  have hk0 : x.kind ≠ 0 := fun e => hx (by cases x <;> first | rfl | cases e)
  have hnum : x.bits = Bt.num x.set 32 := by rw [set_bits]; exact (Bt.num_lst _ (by
    cases x with
    | bran m' k kid => exact ho.1
    | _ => exact (by decide : 0 < 4294967296))).symm
  have hsl : x.set.length < 1000000000000 := by rw [set_bits]; have := Bt.list_le x.bits 32; omega
  have hnb := fun (W : World) (hW : Below w.heap.size w W) => Bt.number_any x.set r.sa r.sc W (hm.below hW).set hsl x.bits hnum
  have hcn := fun (W : World) (hW : Below w.heap.size w W) => count_ref x F W r (hm.below hW) ho hc
  have hn32 := Nd.num_le ho
  unfold RN.agg at hcn ⊢
  obtain ⟨pa, pc, sa, sc, ka, kc⟩ := r
  obtain ⟨kd, hkd⟩ : ∃ k, k = x.kind := ⟨_, rfl⟩
  obtain ⟨hh, hhs⟩ : ∃ k, k = x.hash := ⟨_, rfl⟩
  obtain ⟨np, hnp⟩ : ∃ k, k = x.prs.length := ⟨_, rfl⟩
  obtain ⟨ns, hns⟩ : ∃ k, k = x.set.length := ⟨_, rfl⟩
  obtain ⟨nk, hnk⟩ : ∃ k, k = x.num := ⟨_, rfl⟩
  rw [← hnk] at hn32
  obtain ⟨m, hmb⟩ : ∃ k, k = x.bits := ⟨_, rfl⟩
  obtain ⟨ct, hct⟩ : ∃ k, k = x.cnt := ⟨_, rfl⟩
  simp only [← hkd, ← hhs, ← hnp, ← hns, ← hnk, ← hmb, ← hct] at hnb hcn ⊢
  obtain ⟨S, hS⟩ : ∃ S, S = x.shape lv := ⟨_, rfl⟩
  rw [← hS] at hs ⊢
  obtain ⟨w1, hw1⟩ : ∃ w1, w1 = w.alloc (.cells #[.int .i64 (kd : Int), .int .u64 (hh : Int), .slice pa np pc, .slice sa ns sc, .slice ka nk kc] 33) := ⟨_, rfl⟩
  have hb1 : Below w.heap.size w w1 := by rw [hw1]; exact (Below.refl _ _).alloc (Nat.le_refl _) _
  have z1 : w1.heap.size = w.heap.size + 1 := by rw [hw1]; simp
  have r1 : w1.heap[w.heap.size]? = some (.cells #[.int .i64 (kd : Int), .int .u64 (hh : Int), .slice pa np pc, .slice sa ns sc, .slice ka nk kc] 33 (0, 0)) := by rw [hw1]; exact heap_alloc_new w _
  have HR : Hid (∀ W, Below w1.heap.size w1 W → W.cell? ⟨w.heap.size, 0, none⟩ = some (.int .i64 (kd : Int)) ∧ W.cell? ⟨w.heap.size, 1, none⟩ = some (.int .u64 (hh : Int)) ∧ W.cell? ⟨w.heap.size, 2, none⟩ = some (.slice pa np pc) ∧ W.cell? ⟨w.heap.size, 3, none⟩ = some (.slice sa ns sc) ∧ W.cell? ⟨w.heap.size, 4, none⟩ = some (.slice ka nk kc)) := fun W hW => (row5 ((hW.block w.heap.size (by omega)).trans r1)).1
  have hkd0 : ((kd : Int) == 0) = false := by simp; omega
  have HNB := Lib.hid (fun W (hW : Below w1.heap.size w1 W) => hnb W (below_then hb1 hW)); clear hnb
  have HCN := Lib.hid (fun W (hW : Below w1.heap.size w1 W) => hcn W (below_then hb1 hW)); clear hcn
  have HW := Lib.hid hw1; clear hw1
  have HB1 := Lib.hid (And.intro hb1 z1); clear hb1 z1 r1
  have HM := Lib.hid (And.intro hm ho); clear hm ho
  have HIH := Lib.hid ih; clear ih
  have HX := Lib.hid (And.intro hkd (And.intro hhs (And.intro hmb (And.intro hct (And.intro hnk (And.intro hS hsh)))))); clear hkd hhs hmb hct hnk hS hsh
  have HRI := Lib.hid (And.intro hr (And.intro hc hs)); clear hr hc hs
  clear hnp hns hnum hsl hk0 hx
  go_enter Tryz.func13, Tryz.ntmps13
  go_wp2_with fail
  rw [← HW.out]
  obtain ⟨c0, c1, c2, c3, c4⟩ := HR.out w1 (Below.refl _ _)
  go_wp2_with fail
  have hz0 : Below w1.heap.size w1 w1.drew := below_drewN (Below.refl _ _) 1
  go_region_held3 (fun W => W.cell? ⟨w.heap.size, 0, none⟩ = some (.int .i64 (kd : Int)) ∧ W.cell? ⟨w.heap.size, 1, none⟩ = some (.int .u64 (hh : Int)) ∧ W.cell? ⟨w.heap.size, 2, none⟩ = some (.slice pa np pc) ∧ W.cell? ⟨w.heap.size, 3, none⟩ = some (.slice sa ns sc) ∧ W.cell? ⟨w.heap.size, 4, none⟩ = some (.slice ka nk kc)) (first | exact HR.out _ hz0 | exact HR.out _ hzB | exact HR.out _ (hzB.alloc hzB.size _)) (first
    | (go_at_call 28; refine (HNB.out _ hz0).mono ?_; rintro e wA ⟨rfl, rfl⟩)
    | (go_at_call 30; refine (HCN.out _ hz0).mono ?_; rintro e wB ⟨rfl, hB⟩; have hzB := below_then hz0 hB))
  obtain ⟨f, hf⟩ : ∃ f : Nat → List Sp, f = fun i => (x.kid i).shape (lv + 1) := ⟨_, rfl⟩
  have hS : S = x.spot lv :: catS f nk := by rw [HX.out.2.2.2.2.2.1, HX.out.2.2.2.2.2.2, hf, HX.out.2.2.2.2.1]
  have b14 : Below w1.heap.size w1 (wB.alloc (.cells #[.int .i64 (lv : Int), .int .i64 (kd : Int), .int .u64 (hh : Int), .int .u32 (m : Int), .int .i64 (ct : Int)] 83)) := hzB.alloc hzB.size _
  have own0 : (wB.alloc (.cells #[.int .i64 (lv : Int), .int .i64 (kd : Int), .int .u64 (hh : Int), .int .u32 (m : Int), .int .i64 (ct : Int)] 83)).ownsRow w1.heap.size 83 5 (.slice (some ⟨wB.heap.size, 0, none⟩) 1 1) 1 (spcells (x.spot lv :: catS f 0)) := by
    refine ⟨rfl, .inr ⟨wB.heap.size, 1, _, rfl, hzB.size, heap_alloc_new wB _, Nat.le_refl _, by unfold maxLen; omega, rfl, ?_⟩⟩
    rw [HX.out.1, HX.out.2.1, HX.out.2.2.1, HX.out.2.2.2.1]
    rfl
  have HF := Lib.hid (And.intro hf hS); clear hf hS
  have HB14 := Lib.hid (And.intro b14 own0); clear b14 own0
  clear c0 c1 c2 c3 c4 hz0 hB hzB
  go_wp2_with fail
  clear HNB HCN
  go_loopw [5, 26] (fun s5 u wr => ∃ (j : Nat) (A : Option Addr) (n c : Nat), u = .int .i64 j ∧ j ≤ nk ∧ s5 = .slice A n c ∧ Hid (n = 1 + (catS f j).length ∧ wr.ownsRow w1.heap.size 83 5 (.slice A n c) n (spcells (x.spot lv :: catS f j))) ∧ Hid (Below w1.heap.size w1 wr)) (fun _ u _ => nk - (intOf u).toNat)
  case atStart => exact ⟨0, _, 1, 1, rfl, by omega, rfl, ⟨rfl, HB14.out.2⟩, HB14.out.1⟩
  case round =>
    obtain ⟨j, A, n, c, rfl, hj, rfl, hown, hbel⟩ := hrel
    by_cases hlt : j < nk
    · have hjx : j < x.num := by rw [← HX.out.2.2.2.2.1]; exact hlt
      obtain ⟨g, hka, hg, ⟨pa5, pc5, sa5, sc5, ka5, kc5⟩, ⟨q0, q1, q2, q3, q4⟩, hm5⟩ := (HM.out.1.below (below_then HB1.out.1 hbel.out)).child hjx
      subst hka
      have hok := Nd.ok_kid HM.out.2 hjx
      have hrk := right_kid HRI.out.1 hjx
      have hcj := Nat.le_trans (Nd.cnt_kid x hjx) HRI.out.2.1
      have hfj : (x.kid j).shape (lv + 1) = f j := by rw [HF.out.1]
      have hstep : catS f (j + 1) = catS f j ++ f j := rfl
      have hle : (catS f (j + 1)).length ≤ (catS f nk).length := catS_le f hlt
      have hSl : 1 + (catS f nk).length ≤ 8000 := by
        have h1 := HRI.out.2.2
        rw [HF.out.2, List.length_cons] at h1
        omega
      have hlen : (catS f j).length + (f j).length = (catS f (j + 1)).length := by rw [hstep, List.length_append]
      have hpos : 0 < (f j).length := by rw [← hfj, Nd.shape_eq _ _ hok.1]; simp
      have hbw : ∀ o, Below wr.heap.size wr (wr.alloc o) := fun o => (Below.refl _ _).alloc (Nat.le_refl _) o
      have J := fun o => HIH.out j hjx F (wr.alloc o) ⟨pa5, pc5, sa5, sc5, ka5, kc5⟩ (lv + 1) (hm5.below (hbw o)) hok.2 hrk.2 (by omega) hcj (by rw [hfj]; omega)
      simp only [RN.agg, hfj] at J
      rw [show ((lv + 1 : Nat) : Int) = (lv : Int) + 1 by omega] at J
      obtain ⟨k0, hk0⟩ : ∃ k, k = (x.kid j).kind := ⟨_, rfl⟩
      obtain ⟨k1, hk1⟩ : ∃ k, k = (x.kid j).hash := ⟨_, rfl⟩
      obtain ⟨k2, hk2⟩ : ∃ k, k = (x.kid j).prs.length := ⟨_, rfl⟩
      obtain ⟨k3, hk3⟩ : ∃ k, k = (x.kid j).set.length := ⟨_, rfl⟩
      obtain ⟨k4, hk4⟩ : ∃ k, k = (x.kid j).num := ⟨_, rfl⟩
      simp only [← hk0, ← hk1, ← hk2, ← hk3, ← hk4] at J
      rw [← hk0] at q0
      rw [← hk1] at q1
      rw [← hk2] at q2
      rw [← hk3] at q3
      rw [← hk4] at q4
      have HJ := Lib.hid J; clear J
      have HBW := Lib.hid hbw; clear hbw
      have HL := Lib.hid (And.intro hstep (And.intro hle (And.intro hSl (And.intro hlen hpos)))); clear hstep hle hSl hlen hpos
      have HO := Lib.hid hown; clear hown
      have HBB := Lib.hid hbel; clear hbel
      clear hm5 hok hrk hcj hfj hk0 hk1 hk2 hk3 hk4 hjx
      go_wp2_with fail
      refine (HJ.out _).mono ?_
      rintro e w2 ⟨v2, rfl, hrow2, hb2⟩
      have hb2' : Below wr.heap.size wr w2 := below_then (HBW.out _) hb2
      have own2 : w2.ownsRow w1.heap.size 83 5 (.slice A n c) n (spcells (x.spot lv :: catS f j)) := own_kept HO.out.2 fun q hq => hb2'.block q (own_lt HO.out.2 hq).2.1
      obtain ⟨Ak, ck, rfl, hrd⟩ := row_reads5 hrow2
      obtain ⟨gk, rfl, _, hgk, hck⟩ := hrd HL.out.2.2.2.2
      have hck2 : ∀ i u, (spcells (f j))[i]? = some u → w2.cell? ⟨gk, i, none⟩ = some u := fun i u hu => by
        have h1 := (List.getElem?_eq_some_iff.1 hu).1
        rw [spcells_len] at h1
        exact (hck i h1).trans hu
      obtain ⟨nj, hnj⟩ : ∃ k, k = (f j).length := ⟨_, rfl⟩
      have hnl : (spcells (f j)).length = nj * 5 := by rw [spcells_len, hnj]
      have hn9 : n + nj ≤ 9000 := by have := HO.out.1; have := HL.out; omega
      have hz2 : w1.heap.size ≤ w2.heap.size := Nat.le_trans HBB.out.size hb2'.size
      rw [← hnj]
      have OW := Lib.hid own2; clear own2
      have HK2 := Lib.hid (And.intro hnl (And.intro hck2 (And.intro hn9 hz2))); clear hnl hck2 hn9 hz2
      have HB2 := Lib.hid (HBB.out.trans (hb2'.mono HBB.out.size)); clear hb2 hb2'
      have HNJ := Lib.hid hnj; clear hnj
      clear hrow2 hck hgk HJ HBW
      go_wp2_with (at_builtin; refine spots_app (B := w1.heap.size) rfl (.tmp 30) (.tmp 34) rfl OW.out HK2.out.1 HK2.out.2.1 (spcells_one _) HK2.out.2.2.1 HK2.out.2.2.2 rfl rfl ?_; intro v' w3 o3 b3; obtain ⟨A', c', rfl, _⟩ := row_reads5 o3)
      have H3 : Hid (n + nj = 1 + (catS f (j + 1)).length ∧ w3.ownsRow w1.heap.size 83 5 (.slice A' (n + nj) c') (n + nj) (spcells (x.spot lv :: catS f (j + 1)))) := by
        refine ⟨?_, ?_⟩
        · have := HO.out.1; have := HL.out.2.2.2.1; have := HNJ.out; omega
        · rw [HL.out.1, ← List.cons_append, spcells_cat]
          exact o3
      have B3 := Lib.hid (HB2.out.trans b3); clear b3 o3
      go_roundw
      case rel => exact ⟨j + 1, A', n + nj, c', by go_num, by omega, rfl, H3.out, B3.out⟩
      case measure => simp [intOf]; omega
    · obtain rfl : nk = j := by omega
      have hSl : S.length = n := by rw [HF.out.2, List.length_cons, hown.out.1]; omega
      have hfin := own_less hown.out.2 (show w.heap.size ≤ w1.heap.size by have := HB1.out.2; omega)
      rw [← HF.out.2] at hfin
      have HFI := Lib.hid (And.intro hfin (And.intro hSl (below_then HB1.out.1 hbel.out))); clear hfin hSl
      clear hown hbel
      go_wp2_with fail
      go_ret
      exact ⟨_, rfl, by rw [HFI.out.2.1]; exact HFI.out.1, HFI.out.2.2⟩
theorem refShape_any : ∀ x, ShapeAt x := Nd.by_kids fun x ih => by
  by_cases h : x = .none
  · rw [h]; exact shape_none
  · exact shape_some x h ih
end Go.Proofs.YtngfbkkfnooobaaGreatDoor
