/-
  Contract of goDown: it hands on a node's shape, spot by spot, to a yield that always goes on.
-/
import Derived.Test.YtngfbkkfnooobaaGreatDoorOf
namespace Go.Proofs.YtngfbkkfnooobaaGreatDoor
open Go.RowKit Go.Shelf
set_option maxHeartbeats 4000000
set_option maxRecDepth 100000
attribute [local go_sem] Oper.semAt_some
attribute [local irreducible] Bt.lst
theorem yieldAt_wide {m m' : Nat} {P : Program} {l : Nat} {args : Array Value} {W : World} {R : Ending → World → Prop} (h : YieldAt Fence.wide m P l args W R) : YieldAt Fence.wide m' P l args W R :=
  let ⟨fn, tmps, assign, body, hy, h1, h2⟩ := h
  ⟨fn, tmps, assign, body, hy, h1, fun c cs _ => h2 c cs (room_wide _)⟩
/-- what the yields of a loop (its record in block l) do: they take the spots sp one by one, and go on; they change the blocks of X, the record, and blocks O of their own, new ones among them -/
structure Ylds (l B0 : Nat) (X : Nat → Prop) (O : World → Nat → Prop) (J : Nat → World → Prop) (sp : Nat → Sp) (T : Nat) : Prop where
  hl : B0 ≤ l
  hB : 0 < B0
  hX : ∀ k, X k → B0 ≤ k ∧ k < l
  size : ∀ j A, J j A → l < A.heap.size
  lt : ∀ j A k, J j A → O A k → B0 ≤ k ∧ k < A.heap.size
  stab : ∀ j A B (Z : Nat → Prop), J j A → But Z A B → (∀ k, Z k → l < k ∧ ¬ O A k) → J j B ∧ ∀ k, O B k → O A k
  yield : ∀ j A, j < T → J j A → YieldAt Fence.wide 1 Tryz.prog l #[(sp j).agg] A fun e B => e = .returned (.bool true) ∧ J (j + 1) B ∧ But (fun k => X k ∨ k = l ∨ O A k) A B ∧ ∀ k, O B k → O A k ∨ A.heap.size ≤ k
theorem Ylds.later {l B0 : Nat} {X : Nat → Prop} {O : World → Nat → Prop} {J : Nat → World → Prop} {sp : Nat → Sp} {T : Nat} (h : Ylds l B0 X O J sp T) {j : Nat} {A B : World} (hJ : J j A) (hb : Below A.heap.size A B) : J j B ∧ ∀ k, O B k → O A k :=
  h.stab j A B (fun k => A.heap.size ≤ k) hJ ⟨hb.os, hb.tape, hb.output, hb.size, fun k hk _ => hb.block k hk⟩ fun k hk => ⟨by have := h.size j A hJ; omega, fun ho => by have := (h.lt j A k hJ ho).2; omega⟩
theorem set_bits (x : Nd) : x.set = Bt.lst x.bits 32 := by
  cases x with
  | bran m k kid => rfl
  | _ => exact (Bt.lst_zero 32).symm
theorem num_bits {x : Nd} (h : x.ok) : (Bt.lst x.bits 32).length = x.num := by
  cases x with
  | bran m k kid => exact h.2.2.1
  | none => show (Bt.lst 0 32).length = 0; rw [Bt.lst_zero]; rfl
  | leaf h p => show (Bt.lst 0 32).length = 0; rw [Bt.lst_zero]; rfl
  | buck h L => show (Bt.lst 0 32).length = 0; rw [Bt.lst_zero]; rfl
theorem right_kid {x : Nd} {lv i : Nat} (h : x.right lv = true) (hi : i < x.num) : lv ≤ 12 ∧ (x.kid i).right (lv + 1) = true := by
  cases x with
  | bran m k kid =>
    rw [Nd.right, Bool.and_eq_true, Bool.and_eq_true, allTo_iff, decide_eq_true_eq] at h
    have := h.2.2 i hi
    rw [Bool.and_eq_true] at this
    exact ⟨h.1, this.1⟩
  | _ => exact absurd hi (Nat.not_lt_zero _)
theorem catS_get {f : Nat → List Sp} {i t : Nat} : ∀ {n : Nat}, i < n → t < (f i).length → (catS f n)[(catS f i).length + t]? = (f i)[t]?
  | 0, h, _ => absurd h (Nat.not_lt_zero i)
  | n + 1, h, ht => by
    rw [catS]
    rcases Nat.eq_or_lt_of_le (Nat.lt_succ_iff.1 h) with rfl | h
    · rw [List.getElem?_append_right (Nat.le_add_right _ _), Nat.add_sub_cancel_left]
    · have h2 : (catS f i).length + t < (catS f n).length := by
        have := catS_le f (show i + 1 ≤ n from h)
        rw [catS, List.length_append] at this
        omega
      rw [List.getElem?_append_left h2, catS_get h ht]
/-- what goDown leaves -/
def DPost (l : Nat) (X : Nat → Prop) (O : World → Nat → Prop) (J : Nat → World → Prop) (j : Nat) (w : World) (e : Ending) (w' : World) : Prop :=
  e = .returned (.bool true) ∧ J j w' ∧ But (fun k => X k ∨ k = l ∨ O w k) w w' ∧ ∀ k, O w' k → O w k ∨ w.heap.size ≤ k
def DownAt (x : Nd) : Prop := ∀ (l B0 : Nat) (X : Nat → Prop) (O : World → Nat → Prop) (J : Nat → World → Prop) (sp : Nat → Sp) (T : Nat), Ylds l B0 X O J sp T →
  ∀ (F : Nat → Prop) (w : World) (v : Value) (lv j : Nat), (∀ b, F b → b < B0) → Nde F w x v → x.ok → x.right lv = true → Tab w → J j w → j + (x.shape lv).length ≤ T → (∀ i (h : i < (x.shape lv).length), sp (j + i) = (x.shape lv)[i]) →
    Calls Tryz.prog 66 #[v, .int .i64 (lv : Int), .func (.yield l) #[] #[]] w (DPost l X O J (j + (x.shape lv).length) w)
theorem down_none : DownAt .none := fun l B0 X O J sp T Y F w v lv j hFB hn ho hr hT hJ htl hsp => by
  obtain rfl : v = .nilIface := hn
  have hs := fun W => spotOf_any (F := F) (w := W) (x := .none) (v := .nilIface) lv rfl trivial
  have hz : (Nd.none.spotP lv).agg = .agg #[.int .i64 0, .int .i64 0, .int .u64 0, .int .u32 0, .int .i64 0] := rfl
  simp only [hz] at hs
  obtain ⟨w4, hw4⟩ : ∃ w4, w4 = (((w.alloc (.cells #[.nilIface] 26)).alloc (.cells #[.int .i64 (lv : Int)] 3)).alloc (.cells #[.func (.yield l) #[] #[]] 142)).alloc (.cells #[.bool false] 4) := ⟨_, rfl⟩
  have b4 : Below w.heap.size w w4 := by rw [hw4]; exact ((((Below.refl _ _).alloc (Nat.le_refl _) _).alloc (by simp) _).alloc (by simp; omega) _).alloc (by simp; omega) _
  have z4 : w4.heap.size = w.heap.size + 4 := by rw [hw4]; simp
  have r4 : Boxed w4 (w.heap.size + 1 + 1 + 1) 4 (.bool false) := by
    have := Boxed.new (((w.alloc (.cells #[.nilIface] 26)).alloc (.cells #[.int .i64 (lv : Int)] 3)).alloc (.cells #[.func (.yield l) #[] #[]] 142)) 4 (.bool false)
    rw [World.size_alloc, World.size_alloc, World.size_alloc] at this
    rw [hw4]
    exact this
  have KB : Hid (∀ W, Below w4.heap.size w4 W → (W.cell? ⟨w.heap.size + 1 + 1 + 1, 0, none⟩ = some (.bool false) ∧ W.frozen? ⟨w.heap.size + 1 + 1 + 1, 0, none⟩ = false) ∧ (W.setCell ⟨w.heap.size + 1 + 1 + 1, 0, none⟩ (.bool true)).cell? ⟨w.heap.size + 1 + 1 + 1, 0, none⟩ = some (.bool true) ∧ Below w.heap.size w (W.setCell ⟨w.heap.size + 1 + 1 + 1, 0, none⟩ (.bool true))) := fun W hW => by
    have hb : Boxed W (w.heap.size + 1 + 1 + 1) 4 (.bool false) := (hW.block _ (by omega)).trans r4
    exact ⟨⟨hb.cell, hb.frozen⟩, (hb.set _).cell, (below_then b4 hW).setCell (p := ⟨w.heap.size + 1 + 1 + 1, 0, none⟩) (by show w.heap.size ≤ w.heap.size + 1 + 1 + 1; omega) _⟩
  have HW := Lib.hid hw4; clear hw4
  have HS := Lib.hid hs; clear hs
  have HJ := Lib.hid (And.intro Y hJ)
  clear b4 z4 r4 hz hJ hsp htl hT hr ho hFB Y
  go_enter Tryz.func66, Tryz.ntmps66
  go_wp2_with fail
  rw [← HW.out]
  refine (HS.out _).mono ?_
  rintro e w5 ⟨rfl, b5⟩
  obtain ⟨⟨k1, k2⟩, k3, k4⟩ := KB.out _ (b5.alloc b5.size (.cells #[.int .i64 0, .int .i64 0, .int .u64 0, .int .u32 0, .int .i64 0] 56))
  have K4 := Lib.hid k4; clear k4
  clear b5
  go_wp2_with fail
  refine bodyPost_ret (v := .bool true) (by simp [results, Tryz.f66, go_sem, k3]) rfl ?_
  obtain ⟨j1, j2⟩ := HJ.out.1.later HJ.out.2 K4.out
  exact ⟨rfl, j1, But.of K4.out, fun k hk => .inl (j2 k hk)⟩
theorem down_some (x : Nd) (hx : x ≠ .none) (ih : ∀ i, i < x.num → DownAt (x.kid i)) : DownAt x := fun l B0 X O J sp T Y F w v lv j hFB hn ho hr hT hJ htl hsp => by
  have hvf : ∃ tt bb, v = .iface tt (.pointer (some ⟨bb, 0, none⟩)) := by
    rcases hn.nil_iff with ⟨h, _⟩ | ⟨_, tt, bb, h⟩
    · exact absurd h hx
    · exact ⟨tt, bb, h⟩
  obtain ⟨tt, bb, rfl⟩ := hvf
  have hk0 : x.kind ≠ 0 := fun e => hx (by cases x <;> first | rfl | cases e)
  have hs := fun W (hW : Below w.heap.size w W) => spotOf_any lv (hn.below hW) ho
  have hsh := Nd.shape_eq x lv hx
  have hspj : sp j = x.spot lv := by
    have := hsp 0 (by rw [hsh]; simp)
    rw [Nat.add_zero] at this
    rw [this]
    simp [hsh]
  have hag : (x.spotP lv).agg = (sp j).agg := by rw [hspj, Nd.spotP, if_neg hk0]
  simp only [hag] at hs
  obtain ⟨kd, hkd⟩ : ∃ k, k = x.kind := ⟨_, rfl⟩
  obtain ⟨hh, hhh⟩ : ∃ k, k = x.hash := ⟨_, rfl⟩
  obtain ⟨m, hm⟩ : ∃ k, k = x.bits := ⟨_, rfl⟩
  obtain ⟨ct, hct⟩ : ∃ k, k = x.cnt := ⟨_, rfl⟩
  have hag2 : (sp j).agg = .agg #[.int .i64 (lv : Int), .int .i64 (kd : Int), .int .u64 (hh : Int), .int .u32 (m : Int), .int .i64 (ct : Int)] := by rw [hspj, hkd, hhh, hm, hct]; rfl
  have hjT : j < T := by rw [hsh, List.length_cons] at htl; omega
  have hyl := fun W (hW : J j W) => Y.yield j W hjT hW
  simp only [hag2] at hs hyl
  obtain ⟨w4, hw4⟩ : ∃ w4, w4 = (((w.alloc (.cells #[.iface tt (.pointer (some ⟨bb, 0, none⟩))] 26)).alloc (.cells #[.int .i64 (lv : Int)] 3)).alloc (.cells #[.func (.yield l) #[] #[]] 142)).alloc (.cells #[.bool false] 4) := ⟨_, rfl⟩
  have b4 : Below w.heap.size w w4 := by rw [hw4]; exact ((((Below.refl _ _).alloc (Nat.le_refl _) _).alloc (by simp) _).alloc (by simp; omega) _).alloc (by simp; omega) _
  have z4 : w4.heap.size = w.heap.size + 4 := by rw [hw4]; simp
  have r1 : Boxed w4 w.heap.size 26 (.iface tt (.pointer (some ⟨bb, 0, none⟩))) := by
    rw [hw4]
    exact (((Boxed.new w 26 _).alloc _).alloc _).alloc _
  have r2 : Boxed w4 (w.heap.size + 1) 3 (.int .i64 (lv : Int)) := by
    have := Boxed.new (w.alloc (.cells #[.iface tt (.pointer (some ⟨bb, 0, none⟩))] 26)) 3 (.int .i64 (lv : Int))
    rw [World.size_alloc] at this
    rw [hw4]
    exact (this.alloc _).alloc _
  have r3 : Boxed w4 (w.heap.size + 1 + 1) 142 (.func (.yield l) #[] #[]) := by
    have := Boxed.new ((w.alloc (.cells #[.iface tt (.pointer (some ⟨bb, 0, none⟩))] 26)).alloc (.cells #[.int .i64 (lv : Int)] 3)) 142 (.func (.yield l) #[] #[])
    rw [World.size_alloc, World.size_alloc] at this
    rw [hw4]
    exact this.alloc _
  have r4 : Boxed w4 (w.heap.size + 1 + 1 + 1) 4 (.bool false) := by
    have := Boxed.new (((w.alloc (.cells #[.iface tt (.pointer (some ⟨bb, 0, none⟩))] 26)).alloc (.cells #[.int .i64 (lv : Int)] 3)).alloc (.cells #[.func (.yield l) #[] #[]] 142)) 4 (.bool false)
    rw [World.size_alloc, World.size_alloc, World.size_alloc] at this
    rw [hw4]
    exact this
  have KA : Hid (∀ W, (∀ k, w.heap.size ≤ k → k < w.heap.size + 4 → W.heap[k]? = w4.heap[k]?) → Boxed W w.heap.size 26 (.iface tt (.pointer (some ⟨bb, 0, none⟩))) ∧ Boxed W (w.heap.size + 1) 3 (.int .i64 (lv : Int)) ∧ Boxed W (w.heap.size + 1 + 1) 142 (.func (.yield l) #[] #[]) ∧ Boxed W (w.heap.size + 1 + 1 + 1) 4 (.bool false)) := fun W hW =>
    ⟨(hW _ (by omega) (by omega)).trans r1, (hW _ (by omega) (by omega)).trans r2, (hW _ (by omega) (by omega)).trans r3, (hW _ (by omega) (by omega)).trans r4⟩
  have hkne : ((kd : Int) == 0) = false := by simp; omega
  have HW := Lib.hid hw4; clear hw4
  have HS := Lib.hid hs; clear hs
  have HY := Lib.hid Y; clear Y
  have HYL := Lib.hid hyl; clear hyl
  have HJ := Lib.hid hJ; clear hJ
  have HTL : Hid (j + 1 + (catS (fun i => (x.kid i).shape (lv + 1)) x.num).length ≤ T) := by
    rw [hsh, List.length_cons] at htl
    show _ ≤ _
    omega
  have HSP := Lib.hid (And.intro hsp hsh); clear hsp hsh htl hjT
  have HB4 := Lib.hid b4; clear b4
  have HZ4 := Lib.hid z4; clear z4
  have HLE := Lib.hid (And.intro hkd (And.intro hhh (And.intro hm hct))); clear hkd hhh hm hct
  have HIH := Lib.hid ih; clear ih
  have HN := Lib.hid hn; clear hn
  have HO := Lib.hid ho; clear ho
  have HR := Lib.hid hr; clear hr
  have HT := Lib.hid hT; clear hT
  have HFB := Lib.hid hFB; clear hFB
  clear r1 r2 r3 r4 hag hag2 hspj hk0
  refine (callsIn_wide (n := 3)).1 ?_
  refine callsIn_of_wp_marks Tryz.func66 rfl trivial ?_ rfl
  simp only [Tryz.ntmps66, List.size_toArray, List.length_cons, List.length_nil, Nat.reduceAdd, Nat.reduceSub, Array.replicate_succ, Array.replicate_zero, List.push_toArray, List.append_toArray, List.nil_append, List.cons_append]
  gi_wp2_with fail
  rw [← HW.out]
  refine ⟨trivial, (callsIn_wide.2 (HS.out w4 HB4.out)).mono ?_⟩
  rintro e A1 ⟨rfl, b1⟩
  obtain ⟨A0, hA0⟩ : ∃ A0, A0 = A1.alloc (.cells #[.int .i64 (lv : Int), .int .i64 (kd : Int), .int .u64 (hh : Int), .int .u32 (m : Int), .int .i64 (ct : Int)] 56) := ⟨_, rfl⟩
  have b10 : Below A1.heap.size A1 A0 := by rw [hA0]; exact (Below.refl _ _).alloc (Nat.le_refl _) _
  have b40 : Below w4.heap.size w4 A0 := below_then b1 b10
  have rs : A0.heap[A1.heap.size]? = some (.cells #[.int .i64 (lv : Int), .int .i64 (kd : Int), .int .u64 (hh : Int), .int .u32 (m : Int), .int .i64 (ct : Int)] 56 (0, 0)) := by rw [hA0]; exact heap_alloc_new A1 _
  have zA : A0.heap.size = A1.heap.size + 1 := by rw [hA0]; simp
  have b00 : Below w.heap.size w A0 := below_then HB4.out b40
  obtain ⟨jA, oA⟩ := HY.out.later HJ.out b00
  obtain ⟨fn, tmps, assign, body, hy, hR⟩ := yieldAt_wide (m' := 2) (HYL.out A0 jA)
  have hoA : ∀ k, O A0 k → k < w.heap.size := fun k hk => (HY.out.lt j w k HJ.out (oA k hk)).2
  have hXl := HY.out.size j w HJ.out
  have hB1 : ∀ B, But (fun k => X k ∨ k = l ∨ O A0 k) A0 B → ∀ k, w.heap.size ≤ k → k < A0.heap.size → B.heap[k]? = A0.heap[k]? := fun B hb k h1 h2 => hb.block k h2 fun e => by
    rcases e with e | e | e
    · have := (HY.out.hX k e).2; omega
    · omega
    · have := hoA k e; omega
  have HB1 := Lib.hid hB1; clear hB1
  have HOA := Lib.hid hoA; clear hoA
  have HR1 := Lib.hid hR; clear hR
  have HXL := Lib.hid hXl; clear hXl
  have HRS := Lib.hid rs; clear rs
  have HZA := Lib.hid zA; clear zA
  have HB0 := Lib.hid b00; clear b00
  have HB40 := Lib.hid b40; clear b40
  have HB10 := Lib.hid (And.intro b1 b10); clear b10 b1
  have HOO := Lib.hid (And.intro jA oA); clear jA oA
  have kb := KA.out A0 fun k h1 h2 => HB40.out.block k (by have := HZ4.out; omega)
  have k3 := kb.2.2.1.cell
  clear kb
  have HAA := Lib.hid hA0
  rw [hA0] at hy k3
  clear hA0
  gi_wp2_with fail
  rw [← HAA.out]
  refine HR1.out.mono ?_
  rintro e B ⟨rfl, jB, kB, oB⟩
  have hszA := HZA.out
  have hsz4 := HZ4.out
  have hs41 := HB10.out.1.size
  have hkeepB := HB1.out B kB
  have boxB := KA.out B fun k h1 h2 => (hkeepB k h1 (by omega)).trans (HB40.out.block k (by omega))
  have rsB : B.heap[A1.heap.size]? = some (.cells #[.int .i64 (lv : Int), .int .i64 (kd : Int), .int .u64 (hh : Int), .int .u32 (m : Int), .int .i64 (ct : Int)] 56 (0, 0)) := (hkeepB _ (by omega) (by omega)).trans HRS.out
  have c3 := row_cell rsB (i := 3) rfl
  have hxok : m < 4294967296 := by
    have := HO.out
    rw [HLE.out.2.2.1]
    cases x with
    | bran m' k kid => exact this.1
    | _ => exact (by decide : 0 < 4294967296)
  have hszB := kB.size
  have hFA0 : ∀ b, b < w.heap.size → ¬ (X b ∨ b = l ∨ O A0 b) → B.heap[b]? = w.heap[b]? := fun b hb hx => (kB.block b (by have := HB0.out.size; omega) hx).trans (HB0.out.block b hb)
  have hBl := HY.out.hl
  have hFk : ∀ b, b < B0 → ¬ (X b ∨ b = l ∨ O A0 b) := fun b hb e => by
    rcases e with e | e | e
    · have := (HY.out.hX b e).1; omega
    · omega
    · have := (HY.out.lt j A0 b HOO.out.1 e).1; omega
  have hTB : Tab B := fun i hi => by
    have h0 := HT.out.lt
    exact (cell_kept (hFA0 0 h0 (hFk 0 HY.out.hB))).trans (HT.out i hi)
  have hNB : Nde F B x (.iface tt (.pointer (some ⟨bb, 0, none⟩))) := HN.out.kept fun b hF hl => hFA0 b hl (hFk b (HFB.out b hF))
  have HALL := Lib.hid (fun W => all_any m W)
  have HBX := Lib.hid boxB; clear boxB
  have HNB := Lib.hid hNB; clear hNB
  have HTB := Lib.hid hTB; clear hTB
  have HJB := Lib.hid (And.intro jB (And.intro kB oB)); clear jB kB oB
  have HSZ := Lib.hid (And.intro hszA (And.intro hsz4 (And.intro hs41 (And.intro hszB hBl)))); clear hszA hsz4 hs41 hszB hBl
  have HFA := Lib.hid hFA0; clear hFA0
  have HFK := Lib.hid hFk; clear hFk
  have HKB := Lib.hid hkeepB; clear hkeepB
  clear rsB hy k3
  gi_wp2_with fail
  refine ⟨trivial, (callsIn_wide.2 (HALL.out B)).mono ?_⟩
  rintro e wy ⟨rfl, hwy⟩
  have bBy : Below B.heap.size B wy := by rw [← hwy]; exact (Below.refl _ _).alloc (Nat.le_refl _) _
  have zy : wy.heap.size = B.heap.size + 1 := by rw [← hwy]; simp
  have rm : wy.heap[B.heap.size]? = some (.cells #[.int .u32 (m : Int)] 54 (0, 0)) := by rw [← hwy]; exact heap_alloc_new B _
  have hef := fun lb : Array Value => (by kernel_rfl : Sem.run Tryz.prog (binOp BinOp.eql 140 (Value.func (Fn.func 85) #[] lb) Value.nilFunc) wy = .ok (.bool false) wy)
  clear hwy
  obtain ⟨jy, oy⟩ := HY.out.later HJB.out.1 bBy
  have oyw : ∀ k, O wy k → k < w.heap.size ∨ A0.heap.size ≤ k ∧ k < B.heap.size := fun k hk => by
    have h1 := oy k hk
    rcases HJB.out.2.2 k h1 with h2 | h2
    · exact .inl (HOA.out k h2)
    · exact .inr ⟨h2, (HY.out.lt (j + 1) B k HJB.out.1 h1).2⟩
  have hlen : (Bt.lst m 32).length = x.num := by rw [HLE.out.2.2.1]; exact num_bits HO.out
  obtain ⟨shp, hshp⟩ : ∃ shp : Nat → Nat, shp = fun i => (catS (fun i => (x.kid i).shape (lv + 1)) i).length := ⟨_, rfl⟩
  obtain ⟨X2, hX2⟩ : ∃ X2 : Nat → Prop, X2 = fun k => X k ∨ k = l ∨ O wy k ∨ wy.heap.size + 2 ≤ k := ⟨_, rfl⟩
  obtain ⟨I, hI⟩ : ∃ I : Nat → World → Prop, I = fun i W => J (j + 1 + shp i) W ∧ But X2 wy W ∧ ∀ k, O W k → O wy k ∨ wy.heap.size + 2 ≤ k := ⟨_, rfl⟩
  obtain ⟨Ix, hIx⟩ : ∃ Ix : Code → Nat → World → Prop, Ix = fun (_ : Code) (_ : Nat) _ => False := ⟨_, rfl⟩
  have hsz := HSZ.out
  have hlt := HXL.out
  have hX2l : ∀ k, X2 k → (k < w.heap.size ∨ A0.heap.size ≤ k ∧ k < B.heap.size) ∨ wy.heap.size + 2 ≤ k := fun k hk => by
    rw [hX2] at hk
    rcases hk with e | e | e | e
    · have := (HY.out.hX k e).2; exact .inl (.inl (by omega))
    · exact .inl (.inl (by omega))
    · exact .inl (oyw k e)
    · exact .inr e
  have hX20 : ∀ k, k < B0 → ¬ X2 k := fun k hk e => by
    rw [hX2] at e
    rcases e with e | e | e | e
    · have := (HY.out.hX k e).1; omega
    · omega
    · have := (HY.out.lt (j + 1) wy k jy e).1; omega
    · omega
  have sI : ∀ i V W, I i V → But (fun k => k = wy.heap.size ∨ k = wy.heap.size + 1) V W → I i W := by
    subst hI
    rintro i V W ⟨h1, h2, h3⟩ k
    obtain ⟨e1, e2⟩ := HY.out.stab _ V W _ h1 k fun q hq => ⟨by omega, fun ho => by
      rcases h3 q ho with h4 | h4
      · rcases oyw q h4 with h5 | h5 <;> omega
      · omega⟩
    refine ⟨e1, ⟨k.os.trans h2.os, k.tape.trans h2.tape, k.output.trans h2.output, Nat.le_trans h2.size k.size, fun q hq hx => (k.block q (Nat.lt_of_lt_of_le hq h2.size) (by omega)).trans (h2.block q hq hx)⟩, fun q hq => h3 q (e2 q hq)⟩
  have I0 : I 0 wy := by
    subst hI hshp
    exact ⟨jy, But.refl _ _, fun k hk => .inl hk⟩
  have hseq : HandsK 2 Tryz.prog 85 #[.pointer (some ⟨B.heap.size, 0, none⟩)] X2 (fun i vs W => But X2 wy W ∧ i < (Bt.lst m 32).length ∧ vs = #[.int .i64 ((Bt.lst m 32).getD i 0)]) (fun i => i = (Bt.lst m 32).length) wy :=
    bits_handsK (by omega) hxok (row_cell rm rfl) (by omega) (HTB.out.below bBy) (hX20 0 HY.out.hB)
  have HKY := Lib.hid (And.intro bBy (And.intro zy (And.intro jy (And.intro oy oyw)))); clear bBy zy jy oy oyw
  have HX2 := Lib.hid (And.intro hX2 (And.intro hX2l hX20)); clear hX2 hX2l hX20
  have HQ := Lib.hid (And.intro hI (And.intro hIx hshp)); clear hshp
  have HLN := Lib.hid hlen; clear hlen
  have HSI := Lib.hid sI
  clear rm hsz hlt HALL c3
  gi_wp2_with fail
  clear hef
  refine wp_rangeK (n := 3) (gf := 85) (lb := #[.pointer (some ⟨B.heap.size, 0, none⟩)]) rfl (enters_of Tryz.func85 (by kernel_rfl) rfl) I Ix hseq sI ?sIx ?hX I0 ?round ?done ?stop
  case sIx => subst hIx; exact fun c j A B h _ => h
  case hX =>
    intro k hk
    have h1 := HX2.out.2.1 k hk
    have h2 := HKY.out.2.1
    have h3 := HSZ.out
    omega
  case stop =>
    intro d c j W hd hix hdf
    rw [hIx] at hix
    exact hix.elim
  case done =>
    clear hseq I0 sI
    intro d i W hd hi hiI hdf
    rw [hI] at hiI
    obtain ⟨j2, g2, o2⟩ := hiI
    have hsz := HSZ.out
    have hlt := HXL.out
    have hzy := HKY.out.2.1
    have hkeep : ∀ k, w.heap.size ≤ k → k < w.heap.size + 4 → W.heap[k]? = w4.heap[k]? := fun k h1 h2 => (g2.block k (by omega) fun e => by have := HX2.out.2.1 k e; omega).trans ((HKY.out.1.block k (by omega)).trans ((HKB.out k h1 (by omega)).trans (HB40.out.block k (by omega))))
    have box := (KA.out W hkeep).2.2.2
    have hsh : (x.shape lv).length = 1 + shp i := by rw [HSP.out.2, HQ.out.2.2, List.length_cons, hi, HLN.out, Nat.add_comm]
    have hb3 : w.heap.size + 1 + 1 + 1 < W.heap.size := box.lt
    have hd2 : (W.setCell ⟨w.heap.size + 1 + 1 + 1, 0, none⟩ (.bool true)).heap[d]? = some (.deferred (some [])) := (Below.heap_setCell W _ _ _ (by show ¬ d = w.heap.size + 1 + 1 + 1; omega)).trans hdf
    have hcell2 : ((W.setCell ⟨w.heap.size + 1 + 1 + 1, 0, none⟩ (.bool true)).putObj d (.deferred none)).cell? ⟨w.heap.size + 1 + 1 + 1, 0, none⟩ = some (.bool true) :=
      Boxed.cell (((But.put _ d _).block _ (box.set (.bool true)).lt (by omega)).trans (box.set (.bool true)) : Boxed _ (w.heap.size + 1 + 1 + 1) 4 (.bool true))
    have kend : But (fun k => k = w.heap.size + 1 + 1 + 1 ∨ k = d) W ((W.setCell ⟨w.heap.size + 1 + 1 + 1, 0, none⟩ (.bool true)).putObj d (.deferred none)) := ((But.set W _ 0 _).mono fun k e => .inl e).trans ((But.put _ d _).mono fun k e => .inr e)
    have oW : ∀ k, O W k → k < w.heap.size ∨ A0.heap.size ≤ k ∧ k < B.heap.size ∨ wy.heap.size + 2 ≤ k := fun k hk => by
      rcases o2 k hk with h | h
      · rcases HKY.out.2.2.2.2 k h with h | h
        · exact .inl h
        · exact .inr (.inl h)
      · exact .inr (.inr h)
    obtain ⟨jE, oE⟩ := HY.out.stab _ W _ _ j2 kend fun k hk => ⟨by omega, fun ho => by
      have := oW k ho
      omega⟩
    have hJE : J (j + (x.shape lv).length) ((W.setCell ⟨w.heap.size + 1 + 1 + 1, 0, none⟩ (.bool true)).putObj d (.deferred none)) := by
      rw [hsh, ← Nat.add_assoc]
      exact jE
    have hfin : But (fun k => X k ∨ k = l ∨ O w k) w ((W.setCell ⟨w.heap.size + 1 + 1 + 1, 0, none⟩ (.bool true)).putObj d (.deferred none)) := by
      have h1 := HB0.out
      have h2 := HJB.out.2.1
      have h3 := HKY.out.1
      have h4 := h1.size
      have h5 := h2.size
      have h6 := h3.size
      have h7 := g2.size
      have h8 := kend.size
      refine ⟨kend.os.trans (g2.os.trans (h3.os.trans (h2.os.trans h1.os))), kend.tape.trans (g2.tape.trans (h3.tape.trans (h2.tape.trans h1.tape))), kend.output.trans (g2.output.trans (h3.output.trans (h2.output.trans h1.output))), by omega, fun k hk hx => ?_⟩
      have n0 : ¬ O A0 k := fun e => hx (.inr (.inr (HOO.out.2 k e)))
      have nB : ¬ O B k := fun e => by
        rcases HJB.out.2.2 k e with h | h
        · exact n0 h
        · omega
      have ny : ¬ O wy k := fun e => nB (HKY.out.2.2.2.1 k e)
      refine (kend.block k (by omega) (by omega)).trans ((g2.block k (by omega) fun e => ?_).trans ((h3.block k (by omega)).trans ((h2.block k (by omega) fun e => ?_).trans (h1.block k hk))))
      · rw [HX2.out.1] at e
        rcases e with e | e | e | e
        · exact hx (.inl e)
        · exact hx (.inr (.inl e))
        · exact ny e
        · omega
      · rcases e with e | e | e
        · exact hx (.inl e)
        · exact hx (.inr (.inl e))
        · exact n0 e
    have hoE : ∀ k, O ((W.setCell ⟨w.heap.size + 1 + 1 + 1, 0, none⟩ (.bool true)).putObj d (.deferred none)) k → O w k ∨ w.heap.size ≤ k := fun k hk => by
      rcases o2 k (oE k hk) with h | h
      · rcases HJB.out.2.2 k (HKY.out.2.2.2.1 k h) with h | h
        · exact .inl (HOO.out.2 k h)
        · exact .inr (by omega)
      · exact .inr (by omega)
    have f1 := box.cell
    have f2 := box.frozen
    have HD2 := Lib.hid hd2; clear hd2
    have HC2 := Lib.hid hcell2; clear hcell2
    have HFI := Lib.hid (And.intro hJE (And.intro hfin hoE)); clear hJE hfin hoE
    clear jE oE oW kend hb3 hsh box hkeep hsz hlt hzy j2 g2 o2 hdf hi hI hIx
    gi_wp2_with fail
    refine ⟨by simp, .inl ⟨_, _, rfl, run_takeDeferred HD2.out, ?_⟩⟩
    have k2 := HC2.out
    refine ⟨.bool true, ?_, ?_⟩
    · simp [results, Tryz.f66, go_sem, k2]
    · exact ⟨rfl, HFI.out⟩
  case round =>
    clear hseq I0 sI
    rintro l2 i vs W hl2 hlt2 hi ⟨hkw, hiL, rfl⟩
    obtain ⟨c, hc⟩ : ∃ c, c = (Bt.lst m 32).getD i 0 := ⟨_, rfl⟩
    rw [← hc]
    have HC := Lib.hid hc; clear hc
    refine ⟨rfl, fun K hK => ?_⟩
    have HK := Lib.hid hK; clear hK
    have HII := Lib.hid hi; clear hi
    have HIL := Lib.hid hiL; clear hiL
    clear hkw
    gi_wp2_with fail
    refine HK.out _ _ (But.refl _ _) ?_
    rintro W2 hk2 ⟨r, hr⟩
    have hI2 := HSI.out i W W2 HII.out (hk2.mono fun k e => .inr (by omega))
    rw [hI] at hI2
    obtain ⟨j2, g2, o2⟩ := hI2
    have hsz := HSZ.out
    have hlt := HXL.out
    have hzy := HKY.out.2.1
    have hl3 : wy.heap.size + 2 ≤ W2.heap.size := by have := hk2.size; omega
    have boxW : Boxed W2 w.heap.size 26 (.iface tt (.pointer (some ⟨bb, 0, none⟩))) ∧ Boxed W2 (w.heap.size + 1) 3 (.int .i64 (lv : Int)) ∧ Boxed W2 (w.heap.size + 1 + 1) 142 (.func (.yield l) #[] #[]) ∧ Boxed W2 (w.heap.size + 1 + 1 + 1) 4 (.bool false) := KA.out W2 fun k h1 h2 => (g2.block k (by omega) fun e => by have := HX2.out.2.1 k e; omega).trans ((HKY.out.1.block k (by omega)).trans ((HKB.out k h1 (by omega)).trans (HB40.out.block k (by omega))))
    have hFW : ∀ b, b < B0 → b < wy.heap.size → W2.heap[b]? = wy.heap[b]? := fun b hb hl => g2.block b hl (HX2.out.2.2 b hb)
    have hNW : Nde F W2 x (.iface tt (.pointer (some ⟨bb, 0, none⟩))) := (HNB.out.below HKY.out.1).kept fun b hF hl => hFW b (HFB.out b hF) hl
    have hTW : Tab W2 := fun q hq => by
      have hTy := HTB.out.below HKY.out.1
      exact (cell_kept (hFW 0 HY.out.hB hTy.lt)).trans (hTy q hq)
    have hil : i < x.num := by rw [← HLN.out]; exact HIL.out
    have hrk := right_kid HR.out hil
    have hcs : c ∈ x.set ∧ Bt.less x.set c = i := by
      rw [set_bits, ← HLE.out.2.2.1]
      have hjl := HIL.out
      have e : c = (Bt.lst m 32)[i] := by rw [HC.out, List.getD_eq_getElem?_getD, List.getElem?_eq_getElem hjl]; rfl
      rw [e]
      exact ⟨List.getElem_mem hjl, Bt.less_get m 32 i hjl⟩
    have J1 := Lib.hid (kid_any c hNW HO.out)
    have hok := (Nd.ok_kid HO.out hil).2
    have hshpi : shp (i + 1) = shp i + ((x.kid i).shape (lv + 1)).length := by rw [HQ.out.2.2]; simp only [catS, List.length_append]
    have htk : j + 1 + shp i + ((x.kid i).shape (lv + 1)).length ≤ T := by
      have h1 := HTL.out
      have h2 := catS_le (fun i => (x.kid i).shape (lv + 1)) (show i + 1 ≤ x.num from hil)
      have h3 : (catS (fun i => (x.kid i).shape (lv + 1)) (i + 1)).length = shp i + ((x.kid i).shape (lv + 1)).length := by rw [HQ.out.2.2]; simp only [catS, List.length_append]
      omega
    have hspk : ∀ t (h : t < ((x.kid i).shape (lv + 1)).length), sp (j + 1 + shp i + t) = ((x.kid i).shape (lv + 1))[t] := fun t ht => by
      have h1 := catS_get (f := fun i => (x.kid i).shape (lv + 1)) (n := x.num) hil ht
      have h2 : (x.shape lv)[1 + shp i + t]? = some ((x.kid i).shape (lv + 1))[t] := by
        rw [HSP.out.2, HQ.out.2.2, show 1 + (catS (fun i => (x.kid i).shape (lv + 1)) i).length + t = ((catS (fun i => (x.kid i).shape (lv + 1)) i).length + t) + 1 by omega, List.getElem?_cons_succ, h1, List.getElem?_eq_getElem ht]
      obtain ⟨h3, h4⟩ := List.getElem?_eq_some_iff.1 h2
      have h5 := HSP.out.1 (1 + shp i + t) h3
      rw [h4, ← Nat.add_assoc, ← Nat.add_assoc] at h5
      exact h5
    have hcall : ∀ (W3 : World) (vk : Value), Below W2.heap.size W2 W3 → Nde F W3 (x.kid i) vk → Calls Tryz.prog 66 #[vk, .int .i64 ((lv : Int) + 1), .func (.yield l) #[] #[]] W3 (DPost l X O J (j + 1 + shp (i + 1)) W3) := fun W3 vk hb hn => by
      have h := HIH.out i hil l B0 X O J sp T HY.out F W3 vk (lv + 1) (j + 1 + shp i) HFB.out hn hok hrk.2 (hTW.below hb) (HY.out.later j2 hb).1 htk hspk
      rw [hshpi, ← Nat.add_assoc]
      simpa using h
    have hpost : ∀ (W3 W4 : World) (e : Ending), Below W2.heap.size W2 W3 → DPost l X O J (j + 1 + shp (i + 1)) W3 e W4 → e = .returned (.bool true) ∧ But X2 W2 W4 ∧ I (i + 1) W4 := fun W3 W4 e hb hd => by
      obtain ⟨d1, d2, d3, d4⟩ := hd
      have e3 := (HY.out.later j2 hb).2
      have d5 : But X2 W2 W4 := by
        refine ⟨d3.os.trans hb.os, d3.tape.trans hb.tape, d3.output.trans hb.output, Nat.le_trans hb.size d3.size, fun k hk hx => (d3.block k (Nat.lt_of_lt_of_le hk hb.size) fun e => hx ?_).trans (hb.block k hk)⟩
        rw [HX2.out.1]
        rcases e with e | e | e
        · exact .inl e
        · exact .inr (.inl e)
        · rcases o2 k (e3 k e) with h | h
          · exact .inr (.inr (.inl h))
          · exact .inr (.inr (.inr h))
      refine ⟨d1, d5, ?_⟩
      rw [hI]
      refine ⟨d2, g2.trans d5, fun k hk => ?_⟩
      rcases d4 k hk with h | h
      · exact o2 k (e3 k h)
      · exact .inr (by have := hb.size; omega)
    have hwr : IntKind.i64.wrap ((lv : Int) + 1) = (lv : Int) + 1 := by have := hrk.1; rw [IntKind.wrap_i64]; omega
    have n0 := boxW.1.cell
    have n1 := boxW.2.1.cell
    have n2 := boxW.2.2.1.cell
    have HCALL := Lib.hid hcall; clear hcall
    have HPOST := Lib.hid hpost; clear hpost
    have HBW := Lib.hid boxW; clear boxW
    have HCS := Lib.hid hcs; clear hcs
    clear hr hk2 HK HII j2 g2 o2 hsz hlt hzy hFW hNW hTW hil hok hshpi hspk htk hrk hl3
    gi_wp2_with fail
    refine ⟨trivial, (CallsIn.inRound l2 (callsIn_wide.2 J1.out)).mono ?_⟩
    rintro e W3 ⟨⟨vk, rfl, hvk⟩, nq, rfl⟩
    rw [if_pos HCS.out.1, HCS.out.2] at hvk
    have b23 : Below W2.heap.size W2 (W2.drewN nq) := below_drewN (Below.refl _ _) nq
    have J2 := Lib.hid (HCALL.out (W2.drewN nq) vk b23 (hvk.kept (kept_drew F W2 nq)))
    have B23 := Lib.hid b23; clear b23 hvk
    have g1 : (W2.drewN nq).cell? ⟨w.heap.size + 1, 0, none⟩ = some (.int .i64 (lv : Int)) := n1
    have g2 : (W2.drewN nq).cell? ⟨w.heap.size + 1 + 1, 0, none⟩ = some (.func (.yield l) #[] #[]) := n2
    clear n0 n1 n2 J1
    gi_wp2_with fail
    refine ⟨trivial, (CallsIn.inRound l2 (callsIn_wide.2 J2.out)).mono ?_⟩
    intro e W4 hd
    obtain ⟨rfl, p1, p2⟩ := HPOST.out _ W4 e B23.out hd
    have HP := Lib.hid (And.intro p1 p2); clear p1 p2 hd g1 g2
    gi_wp2_with fail
    exact HP.out
theorem down_any : ∀ x, DownAt x := Nd.by_kids fun x ih => by
  by_cases h : x = .none
  · rw [h]; exact down_none
  · exact down_some x h ih
end Go.Proofs.YtngfbkkfnooobaaGreatDoor
