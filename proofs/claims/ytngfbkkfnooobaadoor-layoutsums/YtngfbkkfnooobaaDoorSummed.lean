/-
  What a shape's spots add up to; how many pairs a layout has: plainly. No program.
-/
import Derived.Test.YtngfbkkfnooobaaDoorEMath
import Derived.Test.YtngfbkkfnooobaaDoorGather
import Derived.Test.YtngfbkkfnooobaaDoorShape
namespace Go.Proofs.YtngfbkkfnooobaaDoor
set_option maxHeartbeats 1000000
/-- what stands ahead of the first spot that isn't below a level: those one below it, added up -/
def scan (L : Nat) : List Sp → Nat × Nat
  | [] => (0, 0)
  | y :: t => if y.level ≤ L then (0, 0) else if y.level = L + 1 then (y.count + (scan L t).1, (scan L t).2 + 1) else scan L t
/-- the spots that are no branches, added up -/
def leaves : List Sp → Nat
  | [] => 0
  | y :: t => (if y.kind = 3 then 0 else y.count) + leaves t
theorem leaves_append : ∀ S T : List Sp, leaves (S ++ T) = leaves S + leaves T
  | [], T => by rw [List.nil_append, leaves, Nat.zero_add]
  | y :: S, T => by rw [List.cons_append, leaves, leaves, leaves_append S T]; omega
/-- a spot, and what stands behind it -/
structure Just (s : Sp) (t : List Sp) : Prop where
  level : s.level ≤ 13
  pos : 1 ≤ s.count
  set : s.map < 4294967296
  below : s.kind = 3 → scan s.level t = (s.count, Bt.cnt s.map 32)
def sound : List Sp → Prop
  | [] => True
  | s :: t => Just s t ∧ sound t
theorem sound_at : ∀ {S : List Sp}, sound S → ∀ {i : Nat} (h : i < S.length), Just S[i] (S.drop (i + 1))
  | s :: t, hs, 0, _ => hs.1
  | s :: t, hs, i + 1, h => sound_at (S := t) hs.2 (by simpa using h)
def ends (L : Nat) (R : List Sp) : Prop := ∀ y t, R = y :: t → y.level ≤ L
theorem ends_nil (L : Nat) : ends L [] := fun _ _ h => by cases h
theorem ends.more {L M : Nat} {R : List Sp} (h : ends L R) (k : L ≤ M) : ends M R := fun y t e => Nat.le_trans (h y t e) k
theorem ends.scan {L : Nat} {R : List Sp} (h : ends L R) : scan L R = (0, 0) := by
  cases R with
  | nil => rfl
  | cons y t => rw [Go.Proofs.YtngfbkkfnooobaaDoor.scan, if_pos (h y t rfl)]
theorem scan_over (L : Nat) (R : List Sp) : ∀ T : List Sp, (∀ s ∈ T, L + 2 ≤ s.level) → scan L (T ++ R) = scan L R
  | [], _ => rfl
  | y :: T, h => by
    have h1 := h y List.mem_cons_self
    rw [List.cons_append, scan, if_neg (by omega), if_neg (by omega), scan_over L R T fun s hs => h s (List.mem_cons_of_mem _ hs)]
theorem catS_mem {f : Nat → List Sp} {s : Sp} : ∀ {n}, s ∈ catS f n → ∃ i, i < n ∧ s ∈ f i
  | 0, hm => by simp [catS] at hm
  | n + 1, hm => by
    rw [catS, List.mem_append] at hm
    rcases hm with hm | hm
    · obtain ⟨i, hi, h1⟩ := catS_mem hm
      exact ⟨i, by omega, h1⟩
    · exact ⟨n, by omega, hm⟩
theorem shape_level : ∀ (x : Nd) (lv : Nat) (s : Sp), s ∈ x.shape lv → lv ≤ s.level
  | .none, _, _, h => by simp [Nd.shape] at h
  | .leaf _ _, lv, s, h => by
    simp only [Nd.shape, List.mem_singleton] at h
    subst h
    exact Nat.le_refl _
  | .buck _ _, lv, s, h => by
    simp only [Nd.shape, List.mem_singleton] at h
    subst h
    exact Nat.le_refl _
  | .bran m k kid, lv, s, h => by
    rw [Nd.shape, List.mem_cons] at h
    rcases h with h | h
    · subst h
      exact Nat.le_refl _
    · obtain ⟨i, _, h1⟩ := catS_mem h
      have := shape_level (kid i) (lv + 1) s h1
      omega
theorem scan_shape (x : Nd) (L : Nat) (R : List Sp) (hx : x ≠ .none) : scan L (x.shape (L + 1) ++ R) = (x.cnt + (scan L R).1, (scan L R).2 + 1) := by
  have h : scan L (catS (fun i => (x.kid i).shape (L + 1 + 1)) x.num ++ R) = scan L R := scan_over L R _ fun s hs => by
    obtain ⟨i, _, h1⟩ := catS_mem hs
    exact shape_level _ _ _ h1
  rw [x.shape_eq (L + 1) hx, List.cons_append, scan, h]
  have e1 : (x.spot (L + 1)).level = L + 1 := rfl
  have e2 : (x.spot (L + 1)).count = x.cnt := rfl
  rw [e1, e2, if_neg (by omega), if_pos rfl]
theorem scan_cat (kid : Nat → Nd) (L : Nat) : ∀ (n : Nat) (R : List Sp), (∀ i, i < n → kid i ≠ .none) → scan L (catS (fun i => (kid i).shape (L + 1)) n ++ R) = (sumTo (fun i => (kid i).cnt) n + (scan L R).1, (scan L R).2 + n)
  | 0, R, _ => by
    rw [catS, sumTo, Nat.zero_add, List.nil_append]; rfl
  | n + 1, R, h => by
    rw [catS, List.append_assoc, scan_cat kid L n _ fun i hi => h i (by omega), scan_shape _ _ _ (h n (by omega)), sumTo]
    simp only [Prod.mk.injEq]
    omega
theorem right_bran {m k : Nat} {kid : Nat → Nd} {lv : Nat} (h : (Nd.bran m k kid).right lv = true) : lv ≤ 12 ∧ ∀ i, i < k → (kid i).right (lv + 1) = true := by
  rw [Nd.right, Bool.and_eq_true, Bool.and_eq_true] at h
  exact ⟨of_decide_eq_true h.1, fun i hi => ((Bool.and_eq_true _ _).mp ((allTo_iff _ _).1 h.2.2 i hi)).1⟩
theorem sound_shape : ∀ (x : Nd) (lv : Nat) (R : List Sp), x.ok → x.right lv = true → lv ≤ 13 → ends lv R → sound R → sound (x.shape lv ++ R)
  | .none, _, R, _, _, _, _, hR => hR
  | .leaf _ _, lv, R, _, _, hl, _, hR => ⟨⟨hl, Nat.le_refl _, (by decide : 0 < 4294967296), fun e => (by cases e)⟩, hR⟩
  | .buck _ L, lv, R, ho, _, hl, _, hR => ⟨⟨hl, (by show 1 ≤ L.length; have := ho.2.1; omega), (by decide : 0 < 4294967296), fun e => (by cases e)⟩, hR⟩
  | .bran m k kid, lv, R, ho, hr, hl, he, hR => by
    obtain ⟨h12, hk⟩ := right_bran hr
    obtain ⟨hm, hk0, hlen, hkid⟩ := ho
    have hcat : ∀ n, n ≤ k → ∀ T, ends (lv + 1) T → sound T → sound (catS (fun i => (kid i).shape (lv + 1)) n ++ T) := by
      intro n
      induction n with
      | zero => intro _ T _ hT; exact hT
      | succ n ih =>
        intro hn T h1 h2
        rw [catS, List.append_assoc]
        have h3 := sound_shape (kid n) (lv + 1) T (hkid n (by omega)).2 (hk n (by omega)) (by omega) h1 h2
        refine ih (by omega) _ (fun y t e => ?_) h3
        rw [(kid n).shape_eq (lv + 1) (hkid n (by omega)).1, List.cons_append] at e
        injection e with e _
        subst e
        exact Nat.le_refl _
    rw [Nd.shape, List.cons_append]
    have hpos : 0 < (Nd.bran m k kid).cnt := cnt_pos _ ⟨hm, hk0, hlen, hkid⟩ (fun e => by cases e)
    refine ⟨⟨by show lv ≤ 13; omega, hpos, hm, fun _ => ?_⟩, hcat k (Nat.le_refl _) R (he.more (by omega)) hR⟩
    show scan lv (catS (fun i => (kid i).shape (lv + 1)) k ++ R) = (sumTo (fun i => (kid i).cnt) k, Bt.cnt m 32)
    rw [scan_cat kid lv k R fun i hi => (hkid i hi).1, he.scan, ← Bt.cnt_lst, hlen]
    simp
theorem leaves_shape : ∀ (x : Nd) (lv : Nat), leaves (x.shape lv) = x.cnt
  | .none, _ => rfl
  | .leaf _ _, _ => rfl
  | .buck _ L, _ => by show L.length + 0 = L.length; omega
  | .bran m k kid, lv => by
    have h : ∀ n, leaves (catS (fun i => (kid i).shape (lv + 1)) n) = sumTo (fun i => (kid i).cnt) n := by
      intro n
      induction n with
      | zero => rfl
      | succ n ih => rw [catS, leaves_append, ih, leaves_shape (kid n) (lv + 1), sumTo]
    rw [Nd.shape, leaves, h k]
    show 0 + _ = _
    rw [Nat.zero_add]; rfl
/-- a shape has few spots -/
theorem shape_few : ∀ (x : Nd) (lv : Nat), x.ok → x.right lv = true → lv ≤ 13 → (x.shape lv).length ≤ x.cnt * (14 - lv)
  | .none, _, _, _, _ => Nat.zero_le _
  | .leaf _ _, lv, _, _, hl => by show 1 ≤ 1 * (14 - lv); omega
  | .buck _ L, lv, ho, _, hl => by
    show 1 ≤ L.length * (14 - lv)
    have := ho.2.1
    have := Nat.mul_le_mul (show 1 ≤ L.length by omega) (show 1 ≤ 14 - lv by omega)
    omega
  | .bran m k kid, lv, ho, hr, hl => by
    obtain ⟨h12, hk⟩ := right_bran hr
    have hpos : 0 < (Nd.bran m k kid).cnt := cnt_pos _ ho (fun e => by cases e)
    obtain ⟨hm, hk0, hlen, hkid⟩ := ho
    have h : ∀ n, n ≤ k → (catS (fun i => (kid i).shape (lv + 1)) n).length ≤ sumTo (fun i => (kid i).cnt) n * (13 - lv) := by
      intro n
      induction n with
      | zero => intro _; exact Nat.zero_le _
      | succ n ih =>
        intro hn
        have h1 := ih (by omega)
        have h2 := shape_few (kid n) (lv + 1) (hkid n (by omega)).2 (hk n (by omega)) (by omega)
        have e : 14 - (lv + 1) = 13 - lv := by omega
        rw [e] at h2
        rw [catS, List.length_append, sumTo, Nat.add_mul]
        omega
    have h1 := h k (Nat.le_refl _)
    rw [Nd.shape, List.length_cons]
    have e : 14 - lv = (13 - lv) + 1 := by omega
    rw [e, Nat.mul_succ]
    show _ ≤ sumTo (fun i => (kid i).cnt) k * (13 - lv) + _
    omega
theorem keys_srt {m : List Pr} (h : srt m) : (m.map fun p => p.1).Nodup := List.pairwise_map.2 (List.Pairwise.imp (fun h => cmp_ne h) h)
/-- pairs of new keys are as many more -/
theorem fold_new : ∀ (l m : List Pr), srt m → ((m ++ l).map fun p => p.1).Nodup → (l.foldl put m).length = m.length + l.length
  | [], m, _, _ => rfl
  | p :: l, m, hs, h => by
    have hnew : ∀ q ∈ m, q.1 ≠ p.1 := fun q hq e => by
      rw [List.map_append, List.nodup_append] at h
      exact h.2.2 q.1 (List.mem_map.2 ⟨q, hq, rfl⟩) p.1 (List.mem_map.2 ⟨p, List.mem_cons_self, rfl⟩) e
    have hl : (put m p).length = m.length + 1 := by
      rw [put, putGo_new _ _ _ hnew]; rfl
    have hp := (put_cases m p hs).2 hl
    have hn : ((put m p ++ l).map fun q => q.1).Nodup := by
      refine ((((hp.append_right l).trans (List.perm_middle (a := p) (l₁ := m) (l₂ := l)).symm).map fun q => q.1).nodup_iff).2 h
    rw [List.foldl_cons, fold_new l _ (srt_put p m hs) hn, hl, List.length_cons]
    omega
theorem all_new : ∀ x : Nd, x.ok → (x.flat.map fun p => p.1).Nodup → x.all.length = x.flat.length
  | .none, _, _ => rfl
  | .leaf _ _, _, _ => rfl
  | .buck _ L, _, hh => by
    have := fold_new L [] List.Pairwise.nil (by rw [List.nil_append]; exact hh)
    simpa [Nd.all, Nd.flat] using this
  | .bran m k kid, ho, h => by
    have hsub : ∀ n, n ≤ k → ((catP (fun i => (kid i).flat) n).map fun p => p.1).Nodup := fun n hn => by
      have key : ∀ d, ((catP (fun i => (kid i).flat) n)).Sublist (catP (fun i => (kid i).flat) (n + d)) := by
        intro d
        induction d with
        | zero => exact List.Sublist.refl _
        | succ d ih => exact ih.trans (List.sublist_append_left _ _)
      have h1 := key (k - n)
      rw [show n + (k - n) = k by omega] at h1
      exact h.sublist (h1.map _)
    have go : ∀ n, n ≤ k → (putTo (fun i => (kid i).all) n).length = (catP (fun i => (kid i).flat) n).length := by
      intro n
      induction n with
      | zero => intro _; rfl
      | succ n ih =>
        intro hn
        have h1 := ih (by omega)
        have h2 := hsub (n + 1) hn
        obtain ⟨s1, _, p1⟩ := putTo_cases (fun i => (kid i).all) (fun i => (kid i).flat) k (fun i hi => (all_cases (kid i) (ho.2.2.2 i hi).2).2) n (by omega)
        have hk : ((kid n).flat.map fun p => p.1).Nodup := by
          rw [catP, List.map_append] at h2
          exact (List.nodup_append.1 h2).2.1
        have h3 := all_new (kid n) (ho.2.2.2 n (by omega)).2 hk
        have p2 := (all_cases (kid n) (ho.2.2.2 n (by omega)).2).2.2 h3
        rw [putTo, catP, List.length_append, fold_new _ _ s1, h1, h3]
        exact (((((p1 h1).append p2).map fun q => q.1).nodup_iff).2 h2)
    exact go k (Nat.le_refl _)
theorem catP_mem {f : Nat → List Pr} {s : Pr} : ∀ {n}, s ∈ catP f n → ∃ i, i < n ∧ s ∈ f i
  | 0, hm => by simp [catP] at hm
  | n + 1, hm => by
    rw [catP, List.mem_append] at hm
    rcases hm with hm | hm
    · obtain ⟨i, hi, h1⟩ := catP_mem hm
      exact ⟨i, by omega, h1⟩
    · exact ⟨n, by omega, hm⟩
theorem flatL_flat {lv : Nat} {L : List En} (_h : Good lv L) : ((flatL L).flat.map fun p => p.1).Nodup ∧ ∀ q ∈ (flatL L).flat, ∃ e ∈ L, e.2 = q := by
  unfold flatL
  split
  · exact ⟨List.nodup_nil, fun q hq => by cases hq⟩
  · rename_i h0
    split
    · refine ⟨by simp [Nd.flat], fun q hq => ?_⟩
      simp only [Nd.flat, List.mem_singleton] at hq
      subst hq
      exact ⟨ehd L, ehd_mem fun e => h0 (by rw [e]; rfl), rfl⟩
    · exact ⟨keys_srt (srt_come _), fun q hq => List.mem_map.1 (come_sub _ _ hq)⟩
theorem lay_flat : ∀ (f lv : Nat) (L : List En), f + lv = 13 → Good lv L → ((layL f lv L).flat.map fun p => p.1).Nodup ∧ ∀ q ∈ (layL f lv L).flat, ∃ e ∈ L, e.2 = q
  | 0, lv, L, _, h => flatL_flat h
  | f + 1, lv, L, hf, h => by
    rw [layL]
    split
    · exact flatL_flat h
    · have ih := fun c => lay_flat f (lv + 1) (part lv L c) (by omega) (h.part c)
      have hmem : ∀ n, ∀ q ∈ catP (fun i => (layL f (lv + 1) (part lv L (nthc (mask lv L) i))).flat) n, ∃ i, i < n ∧ ∃ e ∈ part lv L (nthc (mask lv L) i), e.2 = q := fun n q hq => by
        obtain ⟨i, hi, hq⟩ := catP_mem hq
        exact ⟨i, hi, (ih _).2 q hq⟩
      refine ⟨?_, fun q hq => ?_⟩
      · have go : ∀ n, n ≤ (Bt.lst (mask lv L) 32).length → ((catP (fun i => (layL f (lv + 1) (part lv L (nthc (mask lv L) i))).flat) n).map fun p => p.1).Nodup := by
          intro n
          induction n with
          | zero => intro _; exact List.nodup_nil
          | succ n ihn =>
            intro hn
            rw [catP, List.map_append, List.nodup_append]
            refine ⟨ihn (by omega), (ih _).1, fun a ha b hb e => ?_⟩
            subst e
            obtain ⟨q, hq, rfl⟩ := List.mem_map.1 ha
            obtain ⟨r, hr, hqr⟩ := List.mem_map.1 hb
            obtain ⟨i, hi, x, hx, rfl⟩ := hmem n q hq
            obtain ⟨y, hy, rfl⟩ := (ih _).2 r hr
            obtain ⟨hx1, hx2⟩ := part_mem.1 hx
            obtain ⟨hy1, hy2⟩ := part_mem.1 hy
            obtain ⟨s, hsl, rfl⟩ := List.getElem_of_mem hx1
            obtain ⟨t, htl, rfl⟩ := List.getElem_of_mem hy1
            have hab := nodup_at h.apart (i := s) (j := t) (by simpa [ekeys] using hsl) (by simpa [ekeys] using htl) (by simpa [ekeys] using hqr.symm)
            subst hab
            rw [hx2] at hy2
            have hi' : i < (Bt.lst (mask lv L) 32).length := by omega
            have hn' : n < (Bt.lst (mask lv L) 32).length := by omega
            rw [nthc, nthc, List.getD_eq_getElem?_getD, List.getD_eq_getElem?_getD, List.getElem?_eq_getElem hi', List.getElem?_eq_getElem hn'] at hy2
            have := nodup_at (lst_nodup _ _) hi' hn' hy2
            omega
        exact go _ (Nat.le_refl _)
      · obtain ⟨i, _, e, he, h1⟩ := hmem _ q hq
        exact ⟨e, (part_mem.1 he).1, h1⟩
/-- all pairs of a layout are as many as its entries -/
theorem lay_all {L : List En} (h : Good 0 L) : (layL 13 0 L).all.length = (layL 13 0 L).cnt := by
  rw [all_new _ (lay_laid 13 0 L rfl h).ok (lay_flat 13 0 L rfl h).1, flat_cnt]
end Go.Proofs.YtngfbkkfnooobaaDoor
/-
  A shape's places as they are read; the rest of a shape behind a place; how many pairs a layout hands out.
-/
namespace Go.Proofs.YtngfbkkfnooobaaDoor
open Go.RowKit
set_option maxHeartbeats 1000000
set_option maxRecDepth 100000
theorem shape_count : ∀ (x : Nd) (lv : Nat) (s : Sp), s ∈ x.shape lv → s.count ≤ x.cnt
  | .none, _, _, h => by simp [Nd.shape] at h
  | .leaf _ _, lv, s, h => by
    simp only [Nd.shape, List.mem_singleton] at h
    subst h
    exact Nat.le_refl _
  | .buck _ _, lv, s, h => by
    simp only [Nd.shape, List.mem_singleton] at h
    subst h
    exact Nat.le_refl _
  | .bran m k kid, lv, s, h => by
    rw [Nd.shape, List.mem_cons] at h
    rcases h with h | h
    · subst h
      exact Nat.le_refl _
    · obtain ⟨i, hi, h1⟩ := catS_mem h
      exact Nat.le_trans (shape_count (kid i) (lv + 1) s h1) ((Nd.bran m k kid).cnt_kid (i := i) hi)
theorem leaves_take (S : List Sp) {i : Nat} (h : i < S.length) : leaves (S.take (i + 1)) = leaves (S.take i) + (if (S[i]).kind = 3 then 0 else (S[i]).count) := by
  rw [List.take_succ_eq_append_getElem h, leaves_append]
  show _ + (_ + 0) = _
  rw [Nat.add_zero]
theorem leaves_le (S : List Sp) (i : Nat) : leaves (S.take i) ≤ leaves S := by
  have h := leaves_append (S.take i) (S.drop i)
  rw [List.take_append_drop] at h
  omega
theorem Sps.at {w : World} {A : Option Addr} {S : List Sp} (h : Sps w A S) {i : Nat} (hi : i < S.length) : ∃ g, A = some ⟨g, 0, none⟩ ∧ g < w.heap.size ∧ ∀ i (h : i < S.length), w.cell? ⟨g, i * 5, none⟩ = some (.int .i64 ((S[i]).level : Int)) ∧ w.cell? ⟨g, i * 5 + 1, none⟩ = some (.int .i64 ((S[i]).kind : Int)) ∧
    w.cell? ⟨g, i * 5 + 2, none⟩ = some (.int .u64 ((S[i]).hash : Int)) ∧ w.cell? ⟨g, i * 5 + 3, none⟩ = some (.int .u32 ((S[i]).map : Int)) ∧ w.cell? ⟨g, i * 5 + 4, none⟩ = some (.int .i64 ((S[i]).count : Int)) := by
  rcases h with h | h
  · rw [h] at hi; exact absurd hi (Nat.not_lt_zero _)
  · exact h
/-- what stands behind a place of a slice of spots -/
theorem run_behind (g n c l : Nat) (h : l ≤ n) (hc : n ≤ c) : ∃ A', (∀ wx, (Instr.slice 45 (.slice (some ⟨g, 0, none⟩) n c) (some (.int .i64 (l : Int))) none none).run Tryd.prog wx = .ok (.slice A' (n - l) (c - l)) wx) ∧ (l < n → A' = some ⟨g, l * 5, none⟩) := by
  refine ⟨if c = l then some ⟨g, 0, none⟩ else some ⟨g, l * 5, none⟩, fun wx => ?_, fun hl => ?_⟩
  · have e : Tryd.prog.cellsOf 50 = 5 := by kernel_rfl
    have hs : (sizeOf 50).run Tryd.prog wx = .ok 5 wx := by kernel_rfl
    have := run_slice_l (P := Tryd.prog) wx 45 (some ⟨g, 0, none⟩) n c (by kernel_rfl) .i64 (l : Int) (by omega) (by omega)
    rw [this, show Tryd.prog.elem 45 = 50 by kernel_rfl, hs]
    simp only [Result.andThen, sliced, Int.toNat_natCast]
    by_cases hcl : c = l
    · rw [if_pos hcl, if_pos hcl]
    · rw [if_neg hcl, if_neg hcl]
      simp [Go.WideShapes.add_plain]
  · rw [if_neg (by omega)]
/-- as many pairs as are in it -/
theorem pairsN_any {F : Nat → Prop} {w : World} {x : Nd} {v : Value} (hN : Nde F w x v) (ho : x.ok) (hc : x.cnt ≤ 100) (he : x.all.length = x.cnt) :
    Calls Tryd.prog 15 #[v] w fun e w' => (∃ A c, e = .returned (.slice A x.cnt c)) ∧ Below w.heap.size w w' := by
  by_cases hx : x = .none
  · subst hx
    obtain rfl : v = .nilIface := hN
    refine (pairs_nil w).mono ?_
    rintro e w' ⟨rfl, rfl⟩
    exact ⟨⟨none, 0, rfl⟩, Below.refl _ _⟩
  · have h := pairs_any (hN.mono (G := fun b => b < w.heap.size) fun b hl _ => hl) ho hx (fun q hq => hq) (by omega) he
    refine h.mono ?_
    rintro e w' ⟨⟨A, c, rfl, _⟩, hb⟩
    exact ⟨⟨A, c, by rw [he]⟩, hb⟩
end Go.Proofs.YtngfbkkfnooobaaDoor
