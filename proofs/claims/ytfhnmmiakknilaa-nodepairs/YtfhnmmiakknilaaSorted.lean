/-
  slices.SortStableFunc at pairs by keys, on a row of the call's own; contract of Pairs.
-/
import Derived.Test.YtfhnmmiakknilaaStable
import Derived.Test.YtfhnmmiakknilaaGath
namespace Go.Proofs.Ytfhnmmiakknilaa
open Go.Shelf Go.RowKit Go.Lib Go.Sort Go.Proofs
set_option maxHeartbeats 4000000
set_option maxRecDepth 1000000
theorem below_sortK {g : Nat → PV} {B blk m : Nat} (w : World) (d : Array Nat) (os : Array Obj) (hB : B ≤ blk) (hg : blk < w.heap.size) : Go.RowKit.Below B w (sortWorldK (enc2 g) 2 w blk 0 m d os) := by
  refine ⟨rfl, rfl, rfl, size_sortWorldK_c (enc2 g) 2 w blk 0 m d os, fun k hk => ?_⟩
  unfold sortWorldK putRowK
  rw [heap_grow_old _ _ (by simp; omega)]
  unfold putRow mapBlock
  show (w.heap.modify blk _)[k]? = _
  rw [Array.getElem?_modify, if_neg (by omega)]
theorem sl_map {α β : Type} (f : Nat → α) (h : α → β) (a n : Nat) : sl (fun x => h (f x)) a n = (sl f a n).map h := by
  unfold sl
  rw [List.map_map]; rfl
theorem range_sl (n : Nat) : sl (pl (Array.range n)) 0 n = List.range n := by
  unfold sl
  refine List.ext_getElem (by simp) fun i h1 h2 => ?_
  simp only [List.length_map, List.length_range'] at h1
  simp [pl, h1]
theorem range_pat (L : List Pr) : (List.range L.length).map (pat L) = L := by
  refine List.ext_getElem (by simp) fun i h1 h2 => ?_
  simp only [List.getElem_map, List.getElem_range]
  exact pat_at h2
theorem sort_pairs {B n : Nat} {w : World} {v : Value} {ys : List Value} {L M : List Pr} (ho : w.ownsRow B 54 2 v n ys) (hm : Mrow B w ys L) (hn : n = L.length) (h0 : 0 < n) (hc : n < 1000000000000) (hM : srt M) (hp : M.Perm L) :
    ∃ A c, v = .slice A n c ∧ Calls Try.prog 37 #[.slice A n c, .func (.func 38) #[] #[]] w fun e w' => e = .returned (.tuple #[]) ∧ Pcs w' A M ∧ Go.RowKit.Below B w w' := by
  rcases ho.2 with ⟨_, e⟩ | ⟨blk, cap, cur, rfl, hb, hg, hnc, _, hsz, htk⟩
  · omega
  refine ⟨_, _, rfl, ?_⟩
  have hH : ∀ i, ∃ kv : Nat × Nat, i < L.length → (ys[i * 2]? = some (.slice (some ⟨kv.1, 0, none⟩) (pat L i).1.length (pat L i).1.length) ∧ ys[i * 2 + 1]? = some (.slice (some ⟨kv.2, 0, none⟩) (pat L i).2.length (pat L i).2.length) ∧ NewRow B w kv.1 (pat L i).1 ∧ NewRow B w kv.2 (pat L i).2) := fun i => by
    by_cases hi : i < L.length
    · obtain ⟨kb, vb, h1, h2, h3, h4⟩ := hm.2 i hi
      rw [← pat_at hi] at h1 h2 h3 h4
      exact ⟨(kb, vb), fun _ => ⟨h1, h2, h3, h4⟩⟩
    · exact ⟨(0, 0), fun h => absurd h hi⟩
  obtain ⟨f, hf⟩ := Classical.axiomOfChoice hH
  obtain ⟨g, hgg⟩ : ∃ g : Nat → PV, g = fun i => if i < n then ⟨some ⟨(f i).1, 0, none⟩, (pat L i).1.length, (pat L i).1.length, some ⟨(f i).2, 0, none⟩, (pat L i).2.length, (pat L i).2.length⟩ else ⟨none, 0, 0, none, 0, 0⟩ := ⟨_, rfl⟩
  have gin : ∀ i, i < n → g i = ⟨some ⟨(f i).1, 0, none⟩, (pat L i).1.length, (pat L i).1.length, some ⟨(f i).2, 0, none⟩, (pat L i).2.length, (pat L i).2.length⟩ := fun i hi => by rw [hgg]; exact if_pos hi
  have gout : ∀ i, ¬ i < n → g i = ⟨none, 0, 0, none, 0, 0⟩ := fun i hi => by rw [hgg]; exact if_neg hi
  have hne : ∀ q l, NewRow B w q l → q ≠ blk := fun q l h e => by
    have := h.2
    rw [e, hg] at this
    injection this with this
    injection this with _ this
    cases this
  have rowb : ∀ q l, NewRow B w q l → l = [] ∨ ∃ b o, (some ⟨q, 0, none⟩ : Option Addr) = some ⟨b, o, none⟩ ∧ b < w.heap.size ∧ b ≠ blk ∧ ∀ i (h : i < l.length), w.cell? ⟨b, o + i, none⟩ = some (.int .u8 ((l[i].toNat : Nat) : Int)) := fun q l h => by
    rcases bts_row h.2 with e | ⟨b, o, e, h1, h2⟩
    · exact .inl e
    · refine .inr ⟨b, o, e, h1, ?_, h2⟩
      injection e with e
      injection e with e
      rw [← e]
      exact hne q l h
  have hK : Keyed g (fun i => (pat L i).1) w blk := fun x => by
    by_cases hx : x < n
    · rw [gin x hx]
      exact ⟨rfl, rowb _ _ (hf x (by omega)).2.2.1⟩
    · rw [gout x hx]
      have : pat L x = ([], []) := by
        unfold pat
        rw [List.getD_eq_getElem?_getD, List.getElem?_eq_none (by omega)]; rfl
      have e : (pat L x).1 = [] := by rw [this]
      exact ⟨by show 0 = (pat L x).1.length; rw [e]; rfl, .inl e⟩
  have hsize : (Array.range n).size = n := Array.size_range
  have hcell : ∀ j u, ys[j]? = some u → w.cell? ⟨blk, j, none⟩ = some u ∧ w.frozen? ⟨blk, j, none⟩ = false := fun j u hj => by
    have := ho.cells (g := blk) rfl j u hj
    rw [Go.WideShapes.add_plain, Nat.zero_add] at this
    refine ⟨this, ?_⟩
    simp [World.frozen?, hg]
  have hHK : HoldsK (enc2 g) 2 w blk 0 (Array.range n) := by
    intro t ht
    rw [size_flatK, hsize] at ht
    have ht2 : t < (Array.range n).size * 2 := by rw [hsize]; exact ht
    rw [get_flatK _ _ _ _ ht2, Nat.zero_add]
    have hi : t / 2 < n := by omega
    have hr : (Array.range n)[t / 2]! = t / 2 := by simp [hi]
    obtain ⟨k1, k2, _⟩ := hf (t / 2) (by omega)
    rw [hr]
    unfold enc2
    rw [gin _ hi]
    rcases Nat.mod_two_eq_zero_or_one t with hmod | hmod
    · rw [hmod, show t = t / 2 * 2 by omega, show t / 2 * 2 / 2 = t / 2 by omega]
      exact hcell _ _ k1
    · rw [hmod, show t = t / 2 * 2 + 1 by omega, show (t / 2 * 2 + 1) / 2 = t / 2 by omega]
      exact hcell _ _ k2
  have hlt : blk < w.heap.size := (Array.getElem?_eq_some_iff.1 hg).1
  have R : RowK (enc2 g) 2 w blk 0 (Array.range n) := ⟨fun _ => rfl, fun x u hu => by
    simp only [enc2, List.mem_cons, List.not_mem_nil, or_false] at hu
    rcases hu with rfl | rfl <;> rfl, hHK, hlt⟩
  have st := stable_any R (cmp_lays (off := 0) hK _) (kcf_swo _) cap (SWK.start hHK) (by rw [hsize]; exact hc)
  rw [hsize] at st
  have fin : ∀ (d' : Array Nat) (w' : World), SWK (enc2 g) 2 w blk 0 d' w' → d'.size = n → (sl (pl d') 0 n).Perm (sl (pl (Array.range n)) 0 n) → Asc (ltOf (kcf fun i => (pat L i).1)) (pl d') 0 n → Pcs w' (some ⟨blk, 0, none⟩) M ∧ Go.RowKit.Below B w w' := by
    intro d' w' hS hd hpm has
    rw [range_sl] at hpm
    have hS2 := hS
    obtain ⟨m, os, rfl⟩ := hS
    refine ⟨?_, below_sortK w d' os hb hlt⟩
    have hin : ∀ i, i < n → pl d' i < n := fun i hi => by
      have : pl d' i ∈ sl (pl d') 0 n := (mem_sl _ _ _ _).2 ⟨i, by omega, by omega, rfl⟩
      exact List.mem_range.1 (hpm.mem_iff.1 this)
    have hSL : sl (fun i => pat L (pl d' i)) 0 n = M := by
      refine sorted_is hM ?_ ?_
      · rw [sl_map]
        refine (hpm.map _).trans ?_
        rw [hn, range_pat]
        exact hp.symm
      · rw [List.pairwise_iff_getElem]
        intro i j hi hj hij
        rw [sl_length] at hi hj
        have := has i j (Nat.zero_le _) hij hj
        have h2 := of_decide_eq_false this
        simp only [sl, List.getElem_map, List.getElem_range', Nat.zero_add, Nat.one_mul]
        exact h2
    rw [← hSL]
    refine .inr ⟨blk, 0, rfl, Nat.lt_of_lt_of_le hlt (size_sortWorldK_c (enc2 g) 2 w blk 0 m d' os), fun i hi => ?_⟩
    rw [sl_length] at hi
    have e : (sl (fun i => pat L (pl d' i)) 0 n)[i]'(by rw [sl_length]; exact hi) = pat L (pl d' i) := by
      simp [sl]
    rw [e]
    obtain ⟨c1, c2, _, _⟩ := row_two (hS2.holds hlt hHK (by rw [hd, hsize])) (show i < d'.size by omega)
    have hpi := hin i hi
    have hpe : d'[i]! = pl d' i := rfl
    rw [hpe, gin _ hpi] at c1 c2
    obtain ⟨_, _, n1, n2⟩ := hf (pl d' i) (by omega)
    have up : ∀ q l, NewRow B w q l → Bts (sortWorldK (enc2 g) 2 w blk 0 m d' os) (some ⟨q, 0, none⟩) l := fun q l h => by
      rcases rowb q l h with e | ⟨b, o, e, hq, hb2, hc2⟩
      · exact .inl e
      · refine .inr ⟨b, o, e, Nat.lt_of_lt_of_le hq (size_sortWorldK_c (enc2 g) 2 w blk 0 m d' os), fun t ht => ?_⟩
        rw [sort_other hq hb2]
        exact hc2 t ht
    exact ⟨_, _, _, _, c1, c2, up _ _ n1, up _ _ n2⟩
  have ST := Lib.hid st
  have FIN := Lib.hid fin
  have HNN := Lib.hid hn; clear hn
  clear st fin R hHK hcell hK rowb hne gin gout hgg hf hH ho hm hg hM hp htk
  go_enter Try.func37, Try.ntmps37
  go_wp2_with fail
  refine ST.out.mono ?_
  rintro e w2 ⟨rfl, d', h5, h6, h7, h8⟩
  have HX := Lib.hid (FIN.out d' w2 h5 h6 h7 h8)
  clear h5 h6 h7 h8
  go_wp2_with fail
  go_end0
  exact ⟨rfl, HX.out.1, HX.out.2⟩
theorem cnt_pos : ∀ x : Nd, x.ok → x ≠ .none → 0 < x.cnt
  | .none, _, h => absurd rfl h
  | .leaf _ _, _, _ => Nat.one_pos
  | .buck _ L, ho, _ => by have := ho.2.1; simp only [Nd.cnt]; omega
  | .bran _ k kid, ho, _ => by
    have h1 := cnt_pos (kid 0) (ho.2.2.2 0 ho.2.1).2 (ho.2.2.2 0 ho.2.1).1
    have h2 := le_sumTo (fun i => (kid i).cnt) k 0 ho.2.1
    exact Nat.lt_of_lt_of_le h1 h2
theorem pairs_any {F : Nat → Prop} {w : World} {x : Nd} {v : Value} (hN : Nde F w x v) (ho : x.ok) (hx : x ≠ .none) (hF : ∀ q, F q → q < w.heap.size) (hc : x.cnt ≤ 500000000000) (he : x.all.length = x.cnt) :
    Calls Try.prog 15 #[v] w fun e w' => (∃ A c, e = .returned (.slice A x.all.length c) ∧ Pcs w' A x.all) ∧ Go.RowKit.Below w.heap.size w w' := by
  have hg := gathered_any x F w.heap.size w v (.slice none 0 0) 0 [] [] hN ho hF (Nat.le_refl _) ⟨rfl, .inl ⟨rfl, rfl⟩⟩ (Mrow.nil _ _) rfl (by omega)
  obtain ⟨a1, a2, a3⟩ := all_cases x ho
  rw [flat_cnt] at a3
  rw [he]
  obtain ⟨n, hn⟩ : ∃ n, n = x.cnt := ⟨_, rfl⟩
  rw [← hn]
  have HNN := Lib.hid hn; clear hn
  have HG := Lib.hid hg; clear hg
  have HA := Lib.hid (And.intro a1 (And.intro (a3 he) (And.intro (cnt_pos x ho hx) (And.intro hc he))))
  clear hN ho hx hF hc he a1 a2 a3
  go_enter Try.func15, Try.ntmps15
  go_wp2_with fail
  refine HG.out.mono ?_
  rintro e w1 ⟨v', ys, rfl, o1, m1, b1⟩
  obtain ⟨h1, h2, h3, h4, h5⟩ := HA.out
  rw [Nat.zero_add] at o1
  rw [List.nil_append] at m1
  obtain ⟨A, c, rfl, hs⟩ := sort_pairs o1 m1 (flat_cnt x).symm h3 (by omega) h1 h2
  rw [← HNN.out] at hs ⊢
  have HS := Lib.hid hs
  have HB := Lib.hid b1
  clear hs b1 o1 m1 h1 h2 h3 h4 h5
  go_wp2_with fail
  refine HS.out.mono ?_
  rintro e w2 ⟨rfl, p2, b2⟩
  have HX := Lib.hid (And.intro p2 (HB.out.trans b2)); clear p2 b2
  go_wp2_with fail
  go_ret
  exact ⟨⟨A, c, rfl, HX.out.1⟩, HX.out.2⟩
theorem ins_nil (fn : Value) (w : World) : Calls Try.prog 69 #[.slice none 0 0, .int .i64 0, .int .i64 0, fn] w fun e w' => e = .returned (.tuple #[]) ∧ w = w' := by
  go_enter Try.func69, Try.ntmps69
  go_wp2
  go_loop [8] (fun i => i = .int .i64 1) (fun _ => 0)
  case atStart => rfl
  case round =>
    obtain rfl := hrel
    go_wp2
    go_end0
    exact ⟨rfl, rfl⟩
theorem stable_nil (fn : Value) (w : World) : Calls Try.prog 59 #[.slice none 0 0, .int .i64 0, fn] w fun e w' => e = .returned (.tuple #[]) ∧ w = w' := by
  have H := Lib.hid (fun W => ins_nil fn W)
  go_enter Try.func59, Try.ntmps59
  go_wp2_with fail
  go_loop [7, 8] (fun a b => a = .int .i64 0 ∧ b = .int .i64 20) (fun _ _ => 0)
  case atStart => exact ⟨rfl, rfl⟩
  case round =>
    obtain ⟨rfl, rfl⟩ := hrel
    go_wp2_with fail
    refine (H.out _).mono ?_
    rintro e w' ⟨rfl, rfl⟩
    go_wp2_with fail
    go_loop [6, 7, 8, 9] (fun s _ _ _ => s = .int .i64 20) (fun _ _ _ _ => 0)
    case atStart => rfl
    case round =>
      obtain rfl := hrel
      go_wp2_with fail
      go_end0
      exact ⟨rfl, rfl⟩
theorem pairs_nil (w : World) : Calls Try.prog 15 #[.nilIface] w fun e w' => e = .returned (.slice none 0 0) ∧ w = w' := by
  have hg : ∀ W, Calls Try.prog 36 #[.slice none 0 0, .nilIface] W fun e w' => e = .returned (.slice none 0 0) ∧ W = w' := fun W => by
    have h1 := ta84_nil
    have h2 := ta91_nil
    have h3 := ta100_nil
    go_enter Try.func36, Try.ntmps36
    go_wp2
    go_ret
    exact ⟨rfl, rfl⟩
  have hs : ∀ W, Calls Try.prog 37 #[.slice none 0 0, .func (.func 38) #[] #[]] W fun e w' => e = .returned (.tuple #[]) ∧ W = w' := fun W => by
    have H := Lib.hid (fun W => stable_nil (.func (.func 38) #[] #[]) W)
    go_enter Try.func37, Try.ntmps37
    go_wp2_with fail
    refine (H.out _).mono ?_
    rintro e w' ⟨rfl, rfl⟩
    go_wp2_with fail
    go_end0
    exact ⟨rfl, rfl⟩
  have HG := Lib.hid hg
  have HS := Lib.hid hs
  clear hg hs
  go_enter Try.func15, Try.ntmps15
  go_wp2_with fail
  refine (HG.out _).mono ?_
  rintro e w' ⟨rfl, rfl⟩
  go_wp2_with fail
  refine (HS.out _).mono ?_
  rintro e w' ⟨rfl, rfl⟩
  go_wp2_with fail
  go_ret
  exact ⟨rfl, rfl⟩
end Go.Proofs.Ytfhnmmiakknilaa
