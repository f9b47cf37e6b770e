/-
  Contract of Nth.
-/
import Derived.Test.YtbagfhidkjkmnaaDoorSeq
import Derived.RangeFuncFrom
import Derived.RangeFuncBox
namespace Go.Proofs.YtbagfhidkjkmnaaDoor
open Go.RowKit Go.Shelf
set_option maxHeartbeats 1000000
set_option maxRecDepth 100000
attribute [local go_sem] Oper.semAt_some
attribute [local irreducible] lst
theorem box_kept {W W' : World} {row : Option Nat} {b : Nat} {t : TypeId} {v : Value} (h : Boxed W b t v) (hg : W.grownBy W' row) (hr : ∀ r, row = some r → ∃ o : Obj, W.heap[r]? = some o ∧ o.isCells = false) : Boxed W' b t v :=
  boxed_own b t (fun _ : Unit => v) () W W' row h hg hr
theorem box_put {W : World} {b D : Nat} {t : TypeId} {v : Value} (h : Boxed W b t v) (hK : W.heap[D]? = some (.deferred (some []))) (o : Obj) : Boxed (W.putObj D o) b t v :=
  box_kept h (grownBy_putObj' W D o) (fun r e => by cases e; exact ⟨_, hK, rfl⟩)
theorem keeps_drewN (W : World) (n : Nat) : KeepsOthers W (W.drewN n) := ⟨Nat.le_refl _, fun _ _ h _ => h⟩
theorem nth_any (m : Nat) (k : Int) (w : World) (hm : m < 4294967296) (hT : Tab w) (L : List Int) (hL : L = lst m 32) :
    Calls Tryd.prog 6 #[.int .u32 m, .int .i64 k] w fun e w' => ((∃ (j : Nat) (h : j < L.length), k = (j : Int) ∧ e = .returned (.tuple #[.int .i64 L[j], .bool true])) ∨ ((k < 0 ∨ (L.length : Int) ≤ k) ∧ e = .returned (.tuple #[.int .i64 0, .bool false]))) ∧ Below w.heap.size w w' := by
  have hmem : ∀ z, z ∈ L → ∃ (j : Nat) (h : j < L.length), L[j] = z ∧ less L z = j := by subst hL; exact fun z h => less_mem m z h
  have hget : ∀ j (hj : j < L.length), less L L[j] = j := by subst hL; exact fun j hj => less_get m 32 j hj
  have hst : ∀ (Bn : Nat) (W : World), Bn < W.heap.size → W.cell? ⟨Bn, 0, none⟩ = some (.int .u32 m) → Tab W → 0 < w.heap.size →
      SeqStopsK Fence.wide 2 Tryd.prog 13 #[.pointer (some ⟨Bn, 0, none⟩)] (fun x : Int => #[Value.int .i64 x]) (Below w.heap.size) (fun ys => ys = L) (fun pre => pre <+: L) L.length W := by
    subst hL
    exact fun Bn W hBn hc hT hn0 => all_stops 2 Bn w.heap.size m (by omega) hm W hBn hc hT hn0
  have hpl : ∀ z W, Calls Tryd.prog 8 #[.int .u32 m, .int .i64 z] W fun e w' => e = .returned (.int .i64 (less L z : Nat)) ∧ ∃ n, w' = W.drewN n := by
    subst hL
    exact fun z W => place_any m z W hm
  have HMEM := Lib.hid hmem; clear hmem
  have HGET := Lib.hid hget; clear hget
  have HST := Lib.hid hst; clear hst
  have HPL := Lib.hid hpl; clear hpl
  have HT := Lib.hid hT
  have h00 := hT.lt
  clear hT hL
  refine (callsIn_wide (n := 3)).1 ?_
  refine callsIn_of_wp_marks Tryd.func6 rfl trivial ?_ rfl
  simp only [Tryd.ntmps6, List.size_toArray, List.length_cons, List.length_nil, Nat.reduceAdd, Nat.reduceSub, Array.replicate_succ, Array.replicate_zero, List.push_toArray, List.append_toArray, List.nil_append, List.cons_append]
  gi_wp2_with fail
  refine ⟨trivial, (callsIn_wide.2 (all_any m _)).mono ?_⟩
  rintro e w' ⟨rfl, rfl⟩
  gi_wp2_with fail
  have b0 := Boxed.new w 23 (.int .u32 m)
  have b1 := Boxed.new (w.alloc (.cells #[.int .u32 m] 23)) 3 (.int .i64 k)
  have b2 := Boxed.new ((w.alloc (.cells #[.int .u32 m] 23)).alloc (.cells #[.int .i64 k] 3)) 3 (.int .i64 0)
  have b3 := Boxed.new (((w.alloc (.cells #[.int .u32 m] 23)).alloc (.cells #[.int .i64 k] 3)).alloc (.cells #[.int .i64 0] 3)) 4 (.bool false)
  have b4 := Boxed.new ((((w.alloc (.cells #[.int .u32 m] 23)).alloc (.cells #[.int .i64 k] 3)).alloc (.cells #[.int .i64 0] 3)).alloc (.cells #[.bool false] 4)) 23 (.int .u32 m)
  simp only [World.size_alloc] at b1 b2 b3 b4
  replace b0 := (((b0.alloc (.cells #[.int .i64 k] 3)).alloc (.cells #[.int .i64 0] 3)).alloc (.cells #[.bool false] 4)).alloc (.cells #[.int .u32 m] 23)
  replace b1 := ((b1.alloc (.cells #[.int .i64 0] 3)).alloc (.cells #[.bool false] 4)).alloc (.cells #[.int .u32 m] 23)
  replace b2 := (b2.alloc (.cells #[.bool false] 4)).alloc (.cells #[.int .u32 m] 23)
  replace b3 := b3.alloc (.cells #[.int .u32 m] 23)
  have hB0 : Below w.heap.size w (((((w.alloc (.cells #[.int .u32 m] 23)).alloc (.cells #[.int .i64 k] 3)).alloc (.cells #[.int .i64 0] 3)).alloc (.cells #[.bool false] 4)).alloc (.cells #[.int .u32 m] 23)) :=
    (((((Below.refl _ w).alloc (Nat.le_refl _) _).alloc (by simp) _).alloc (by simp; omega) _).alloc (by simp; omega) _).alloc (by simp; omega) _
  have hsz : (((((w.alloc (.cells #[.int .u32 m] 23)).alloc (.cells #[.int .i64 k] 3)).alloc (.cells #[.int .i64 0] 3)).alloc (.cells #[.bool false] 4)).alloc (.cells #[.int .u32 m] 23)).heap.size = w.heap.size + 1 + 1 + 1 + 1 + 1 := by simp
  obtain ⟨W0, hW0⟩ : ∃ W0, (((((w.alloc (.cells #[.int .u32 m] 23)).alloc (.cells #[.int .i64 k] 3)).alloc (.cells #[.int .i64 0] 3)).alloc (.cells #[.bool false] 4)).alloc (.cells #[.int .u32 m] 23)) = W0 := ⟨_, rfl⟩
  rw [hW0] at b0 b1 b2 b3 b4 hB0 hsz ⊢
  clear hW0
  refine wpIn_rangeFunc_ownF rfl (by omega) (gf := 13) (lb := #[.pointer (some ⟨w.heap.size + 1 + 1 + 1 + 1, 0, none⟩)]) rfl trivial (enters_of Tryd.func13 (by kernel_rfl) rfl)
    (HST.out (w.heap.size + 1 + 1 + 1 + 1) W0 b4.lt b4.cell (HT.out.below hB0 h00) h00) belowK_t (belowK_b (by omega)) (Below.refl _ _) (fun _ => rfl)
    (fun pre W => ((∀ y ∈ pre, ¬ ((less L y : Nat) : Int) = k) ∧ Boxed W w.heap.size 23 (.int .u32 m) ∧ Boxed W (w.heap.size + 1) 3 (.int .i64 k) ∧ Boxed W (w.heap.size + 1 + 1) 3 (.int .i64 0) ∧ Boxed W (w.heap.size + 1 + 1 + 1) 4 (.bool false)) ∧ Below w.heap.size w W)
    (fun c pre W => (c = .ret ∧ ∃ x, x ∈ pre ∧ ((less L x : Nat) : Int) = k ∧ Boxed W (w.heap.size + 1 + 1) 3 (.int .i64 x) ∧ Boxed W (w.heap.size + 1 + 1 + 1) 4 (.bool true)) ∧ Below w.heap.size w W)
    (OwnFrom.and (Own.from (fun s A B row hs hg hr => ⟨hs.1, box_kept hs.2.1 hg hr, box_kept hs.2.2.1 hg hr, box_kept hs.2.2.2.1 hg hr, box_kept hs.2.2.2.2 hg hr⟩) _) (ownFrom_below (Nat.le_refl _) (by omega)))
    (fun c => OwnFrom.and (Own.from (fun s A B row hs hg hr => ⟨hs.1, by obtain ⟨x, h1, h2, h3, h4⟩ := hs.2; exact ⟨x, h1, h2, box_kept h3 hg hr, box_kept h4 hg hr⟩⟩) _) (ownFrom_below (Nat.le_refl _) (by omega)))
    ⟨⟨by simp, b0, b1, b2, b3⟩, hB0⟩
    (fun x => { tmps := #[.int .u32 m, .int .i64 k, .pointer (some ⟨w.heap.size, 0, none⟩), .pointer (some ⟨w.heap.size + 1, 0, none⟩), .pointer (some ⟨w.heap.size + 1 + 1, 0, none⟩), .pointer (some ⟨w.heap.size + 1 + 1 + 1, 0, none⟩), .int .i64 x, .int .u32 m, .func (.func 13) #[] #[.pointer (some ⟨w.heap.size + 1 + 1 + 1 + 1, 0, none⟩)], .int .i64 x, undef, undef, undef, undef, undef, undef], defers := [] }) ?assign ?body ?done ?stop
  case assign =>
    intro l x W K hK
    gi_wp2
    exact hK
  case body =>
    rintro l pre x W ⟨⟨hp, c0, c1, c2, c3⟩, hB⟩ _
    have hpl := HPL.out x
    have hpx : ¬ ((less L x : Nat) : Int) = k → ∀ y ∈ pre ++ [x], ¬ ((less L y : Nat) : Int) = k := fun h y hy => (List.mem_append.1 hy).elim (hp y) (fun e => by simp at e; subst e; exact h)
    have hmx : Tryd.prog.follows .mixedOrders = true := by kernel_rfl
    have hyes : ((less L x : Nat) : Int) = k → ∃ z, z ∈ pre ++ [x] ∧ ((less L z : Nat) : Int) = k ∧ z = x := fun h => ⟨x, by simp, h, rfl⟩
    obtain ⟨q, hq⟩ : ∃ q, q = less L x := ⟨_, rfl⟩
    rw [← hq] at hpl hpx hyes
    have HP := Lib.hid hpl; clear hpl
    have HPX := Lib.hid hpx; clear hpx
    have HY := Lib.hid hyes; clear hyes
    have HC0 := Lib.hid c0
    have HC1 := Lib.hid c1
    have HC2 := Lib.hid c2
    have HC3 := Lib.hid c3
    have HBB := Lib.hid hB
    have d0 := c0.cell
    have d1 := c1.cell
    have d2 := c2.cell
    have d3 := c3.cell
    have f2 := c2.frozen
    have f3 := c3.frozen
    clear hq hp c0 c1 c2 c3 hB
    by_cases he : (q : Int) = k
    · subst he
      have yes : ∀ N, KeepsOthers W (((W.drewN N).setCell ⟨w.heap.size + 1 + 1, 0, none⟩ (.int .i64 x)).setCell ⟨w.heap.size + 1 + 1 + 1, 0, none⟩ (.bool true)) ∧
          (∃ z, z ∈ pre ++ [x] ∧ ((less L z : Nat) : Int) = (q : Int) ∧ Boxed (((W.drewN N).setCell ⟨w.heap.size + 1 + 1, 0, none⟩ (.int .i64 x)).setCell ⟨w.heap.size + 1 + 1 + 1, 0, none⟩ (.bool true)) (w.heap.size + 1 + 1) 3 (.int .i64 z) ∧
            Boxed (((W.drewN N).setCell ⟨w.heap.size + 1 + 1, 0, none⟩ (.int .i64 x)).setCell ⟨w.heap.size + 1 + 1 + 1, 0, none⟩ (.bool true)) (w.heap.size + 1 + 1 + 1) 4 (.bool true)) ∧
          Below w.heap.size w (((W.drewN N).setCell ⟨w.heap.size + 1 + 1, 0, none⟩ (.int .i64 x)).setCell ⟨w.heap.size + 1 + 1 + 1, 0, none⟩ (.bool true)) := by
        intro N
        obtain ⟨z, h1, h2, rfl⟩ := HY.out rfl
        have k2 : Boxed (W.drewN N) (w.heap.size + 1 + 1) 3 (.int .i64 0) := HC2.out
        have k3 : Boxed (W.drewN N) (w.heap.size + 1 + 1 + 1) 4 (.bool false) := HC3.out
        exact ⟨((keeps_drewN W N).trans (KeepsOthers.setCell _ _ _)).trans (KeepsOthers.setCell _ _ _), ⟨z, h1, h2, (k2.set _).other (by omega) _, (k3.other (by omega) _).set _⟩,
          ((below_drewN HBB.out N).setCell (p := ⟨w.heap.size + 1 + 1, 0, none⟩) (by simp; omega) _).setCell (p := ⟨w.heap.size + 1 + 1 + 1, 0, none⟩) (by simp; omega) _⟩
      have YES := Lib.hid yes; clear yes HY HPX
      gi_wp2
      gi_region_with_o (refine ⟨trivial, ?_⟩; gi_at_call 8; refine (CallsIn.inRound l (callsIn_wide.2 (HP.out _))).mono ?_; rintro e w' ⟨rfl, n, rfl⟩)
      all_goals gi_wp2
      all_goals exact ⟨(YES.out _).1, ⟨rfl, (YES.out _).2.1⟩, (YES.out _).2.2⟩
    · have hne : ((q : Int) == k) = false := by simpa using he
      have no : ∀ N, KeepsOthers W (W.drewN N) ∧ Below w.heap.size W (W.drewN N) ∧ ((∀ y ∈ pre ++ [x], ¬ ((less L y : Nat) : Int) = k) ∧ Boxed (W.drewN N) w.heap.size 23 (.int .u32 m) ∧ Boxed (W.drewN N) (w.heap.size + 1) 3 (.int .i64 k) ∧ Boxed (W.drewN N) (w.heap.size + 1 + 1) 3 (.int .i64 0) ∧ Boxed (W.drewN N) (w.heap.size + 1 + 1 + 1) 4 (.bool false)) ∧ Below w.heap.size w (W.drewN N) :=
        fun N => ⟨keeps_drewN W N, below_drewN (Below.refl _ _) N, ⟨HPX.out he, HC0.out, HC1.out, HC2.out, HC3.out⟩, below_drewN HBB.out N⟩
      have NO := Lib.hid no; clear no HY HPX he
      gi_wp2
      gi_region_with_o (refine ⟨trivial, ?_⟩; gi_at_call 8; refine (CallsIn.inRound l (callsIn_wide.2 (HP.out _))).mono ?_; rintro e w' ⟨rfl, n, rfl⟩)
      all_goals gi_wp2
      all_goals exact NO.out _
  case done =>
    rintro D ys W hD rfl ⟨⟨hne, c0, c1, c2, c3⟩, hB⟩ hK
    have d2 := c2.cell
    have d3 := c3.cell
    have f2 := c2.frozen
    have f3 := c3.frozen
    have hout : k < 0 ∨ (ys.length : Int) ≤ k := by
      rcases Int.lt_or_le k 0 with h | h
      · exact .inl h
      · rcases Int.lt_or_le k ys.length with h2 | h2
        · exfalso
          obtain ⟨j, rfl⟩ := Int.eq_ofNat_of_zero_le h
          have hj : j < ys.length := by omega
          exact hne _ (List.getElem_mem hj) (by rw [HGET.out j hj])
        · exact .inr h2
    have HOUT := Lib.hid hout; clear hout hne
    gi_wp2
    have e2 := ((c2.set (.int .i64 0)).other (B' := w.heap.size + 1 + 1 + 1) (by omega) (.bool false))
    have e3 := ((c3.other (B' := w.heap.size + 1 + 1) (by omega) (.int .i64 0)).set (.bool false))
    have hB2 : Below w.heap.size w ((W.setCell ⟨w.heap.size + 1 + 1, 0, none⟩ (.int .i64 0)).setCell ⟨w.heap.size + 1 + 1 + 1, 0, none⟩ (.bool false)) := (hB.setCell (p := ⟨w.heap.size + 1 + 1, 0, none⟩) (by simp; omega) _).setCell (p := ⟨w.heap.size + 1 + 1 + 1, 0, none⟩) (by simp; omega) _
    have hK2 := ((KeepsOthers.setCell W ⟨w.heap.size + 1 + 1, 0, none⟩ (.int .i64 0)).trans (KeepsOthers.setCell _ ⟨w.heap.size + 1 + 1 + 1, 0, none⟩ (.bool false))).same D _ hK rfl
    obtain ⟨W2, hW2⟩ : ∃ W2, W2 = (W.setCell ⟨w.heap.size + 1 + 1, 0, none⟩ (.int .i64 0)).setCell ⟨w.heap.size + 1 + 1 + 1, 0, none⟩ (.bool false) := ⟨_, rfl⟩
    rw [← hW2] at e2 e3 hB2 hK2 ⊢
    clear hW2
    refine ⟨by simp, .inl ⟨_, _, rfl, run_takeDeferred hK2, ?_⟩⟩
    have k2 := (box_put e2 hK2 (.deferred none)).cell
    have k3 := (box_put e3 hK2 (.deferred none)).cell
    refine ⟨.tuple #[.int .i64 0, .bool false], ?_, .inr ⟨HOUT.out, rfl⟩, hB2.trans (belowK_b (w := w) (Nat.le_refl _) _ D _ _ (by omega) hK2 rfl rfl)⟩
    simp [results, Tryd.f6, go_sem, k2, k3]
  case stop =>
    rintro D c pre W hD hpre ⟨⟨rfl, x, hin, hk, c2, c3⟩, hB⟩ hK
    obtain ⟨j, hj, hjx, hlx⟩ := HMEM.out x (hpre.subset hin)
    gi_wp2
    refine ⟨by simp, .inl ⟨_, _, rfl, run_takeDeferred hK, ?_⟩⟩
    have k2 := (box_put c2 hK (.deferred none)).cell
    have k3 := (box_put c3 hK (.deferred none)).cell
    refine ⟨.tuple #[.int .i64 x, .bool true], ?_, .inl ⟨j, hj, by rw [← hk, hlx], by rw [hjx]⟩, hB.trans (belowK_b (w := w) (Nat.le_refl _) _ D _ _ (by omega) hK rfl rfl)⟩
    simp [results, Tryd.f6, go_sem, k2, k3]
end Go.Proofs.YtbagfhidkjkmnaaDoor
