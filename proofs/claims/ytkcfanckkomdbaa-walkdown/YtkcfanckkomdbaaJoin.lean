/-
  The contract of join: two even trees, however unlike their sizes are, and a pair between them make an even one.
-/
import Derived.Test.YtkcfanckkomdbaaOver
namespace Go.Proofs.Ytkcfanckkomdbaa
open Go.RowKit
set_option maxHeartbeats 4000000
set_option maxRecDepth 100000
/-- what join promises at trees whose sizes are below n together -/
def JoinAt (F : Nat → Prop) (n : Nat) : Prop := ∀ (w : World) (l r : Tr) (pl pr : Option Addr) (q : Pr) (ka va : Option Addr) (kc vc : Nat), Fut F w → Tre F w l pl → Tre F w r pr → Byt F w ka q.1 → Byt F w va q.2 → l.size + r.size < n → l.even → r.even →
  Calls Try.prog 55 #[.pointer pl, .agg #[.slice ka q.1.length kc, .slice va q.2.length vc], .pointer pr] w fun e w' => ∃ p t, e = .returned (.pointer p) ∧ Tre F w' t p ∧ t.even ∧ t.list = l.list ++ q :: r.list ∧ Below w.heap.size w w'
theorem join_even {F : Nat → Prop} {w : World} {l r : Tr} {pl pr : Option Addr} {q : Pr} {ka va : Option Addr} (kc vc : Nat) (hF : Fut F w) (hl : Tre F w l pl) (hr : Tre F w r pr) (hk : Byt F w ka q.1) (hv : Byt F w va q.2) (hs : l.size + r.size ≤ 3000)
    (el : l.even) (er : r.even) (he : ev l.size r.size = true) :
    Calls Try.prog 55 #[.pointer pl, .agg #[.slice ka q.1.length kc, .slice va q.2.length vc], .pointer pr] w fun e w' => ∃ p t, e = .returned (.pointer p) ∧ Tre F w' t p ∧ t.even ∧ t.list = l.list ++ q :: r.list ∧ Below w.heap.size w w' := by
  obtain ⟨w1, hw1, hb1, hsz, hbox⟩ := box_new w ka va q.1.length kc q.2.length vc
  have hF1 : Fut F w1 := hF.later (by omega)
  have s1 := size_any (hl.below hb1) (by omega)
  have s2 := size_any (hr.below hb1) (by omega)
  have s3 := even_any l.size r.size w1 (by omega) (by omega)
  rw [he] at s3
  have nd := node_any kc vc hF1 (hl.below hb1) (hr.below hb1) (hk.below hb1) (hv.below hb1) (by omega)
  obtain ⟨xx, hxx⟩ : ∃ n0, n0 = l.size := ⟨_, rfl⟩
  obtain ⟨yy, hyy⟩ : ∃ n0, n0 = r.size := ⟨_, rfl⟩
  have b0 := hbox w1 (Below.refl _ _)
  obtain ⟨k1, hk1⟩ : ∃ k, k = q.1.length := ⟨_, rfl⟩
  obtain ⟨k2, hk2⟩ : ∃ k, k = q.2.length := ⟨_, rfl⟩
  simp only [← hxx, ← hyy, ← hk1, ← hk2] at s1 s2 s3 nd b0 hw1 ⊢
  obtain ⟨b0, b1⟩ := b0
  have HE := Lib.hid (show (Tr.node l q r).even from ⟨he, el, er⟩)
  have S1 := Lib.hid s1; clear s1
  have S2 := Lib.hid s2; clear s2
  have S3 := Lib.hid s3; clear s3
  have ND := Lib.hid nd; clear nd
  have HW := Lib.hid hw1; clear hw1
  have HB := Lib.hid hb1; clear hb1
  clear hbox hxx hyy hk1 hk2 he el er hF1 hF hl hr hk hv hs hsz
  go_enter Try.func55, Try.ntmps55
  go_wp2_with fail
  rw [← HW.out]
  refine S1.out.mono ?_
  rintro e w' ⟨rfl, rfl⟩
  go_wp2_with fail
  refine S2.out.mono ?_
  rintro e w' ⟨rfl, rfl⟩
  go_wp2_with fail
  refine S3.out.mono ?_
  rintro e w' ⟨rfl, rfl⟩
  go_wp2_with fail
  refine ND.out.mono ?_
  rintro e w' ⟨p, rfl, ht, hb⟩
  have HT := Lib.hid ht; clear ht
  have HB2 := Lib.hid hb; clear hb
  go_wp2_with fail
  go_ret
  exact ⟨p, _, rfl, HT.out, HE.out, rfl, below_then HB.out HB2.out⟩
theorem join_right {F : Nat → Prop} {n : Nat} {w : World} {a b r : Tr} {k : Pr} {pl pr : Option Addr} {q : Pr} {ka va : Option Addr} (kc vc : Nat) (hF : Fut F w) (hl : Tre F w (.node a k b) pl) (hr : Tre F w r pr) (hk : Byt F w ka q.1) (hv : Byt F w va q.2) (hs : (Tr.node a k b).size + r.size ≤ 3000)
    (el : (Tr.node a k b).even) (er : r.even) (he : ev (Tr.node a k b).size r.size = false) (hgt : r.size < (Tr.node a k b).size) (ih : JoinAt F n) (hn : b.size + r.size < n) :
    Calls Try.prog 55 #[.pointer pl, .agg #[.slice ka q.1.length kc, .slice va q.2.length vc], .pointer pr] w fun e w' => ∃ p t, e = .returned (.pointer p) ∧ Tre F w' t p ∧ t.even ∧ t.list = (Tr.node a k b).list ++ q :: r.list ∧ Below w.heap.size w w' := by
  obtain ⟨w1, hw1, hb1, hsz, hbox⟩ := box_new w ka va q.1.length kc q.2.length vc
  have hF1 : Fut F w1 := hF.later (by omega)
  have s1 := size_any (hl.below hb1) (by omega)
  have s2 := size_any (hr.below hb1) (by omega)
  have s3 := even_any (Tr.node a k b).size r.size w1 (by omega) (by omega)
  rw [he] at s3
  obtain ⟨rb, rka, rkc, rva, rvc, pa, pb, rfl, nr, ha, hb⟩ := hl
  obtain ⟨e1, e2, e3⟩ := el
  have hsz2 : a.size + b.size + r.size + 1 ≤ 3000 := by simp only [Tr.size] at hs; omega
  have n1 := fun W (hW : Below w1.heap.size w1 W) => ih W b r pb pr q ka va kc vc (hF1.later hW.size) ((hb.below hb1).below hW) ((hr.below hb1).below hW) ((hk.below hb1).below hW) ((hv.below hb1).below hW) hn e3 er
  have n2 := fun W (hW : Below w1.heap.size w1 W) pA t (hA : Tre F W t pA) (hev : t.even) (hli : t.list = b.list ++ q :: r.list) => overRight_any rkc rvc (hF1.later hW.size) ((ha.below hb1).below hW) hA ((nr.2.2.1.below hb1).below hW) ((nr.2.2.2.below hb1).below hW)
    (by rw [← Tr.length t, hli]; simp [Tr.length]; omega) e2 hev b.size r.size e1 (by rw [ev_false] at he; simp only [Tr.size] at he hgt; omega) (by rw [← Tr.length t, hli]; simp [Tr.length]; omega)
  have hnod := fun W (hW : Below w1.heap.size w1 W) => ((nr.below hb1).below hW).cells
  have hd : r.size < (Tr.node a k b).size := by omega
  obtain ⟨xx, hxx⟩ : ∃ n0, n0 = (Tr.node a k b).size := ⟨_, rfl⟩
  obtain ⟨yy, hyy⟩ : ∃ n0, n0 = r.size := ⟨_, rfl⟩
  obtain ⟨k1, hk1⟩ : ∃ k, k = q.1.length := ⟨_, rfl⟩
  obtain ⟨k2, hk2⟩ : ∃ k, k = q.2.length := ⟨_, rfl⟩
  obtain ⟨k3, hk3⟩ : ∃ z, z = k.1.length := ⟨_, rfl⟩
  obtain ⟨k4, hk4⟩ : ∃ z, z = k.2.length := ⟨_, rfl⟩
  simp only [← hxx, ← hyy, ← hk1, ← hk2, ← hk3, ← hk4] at s1 s2 s3 n1 n2 hbox hnod hw1 hd ⊢
  have hkeep : ∀ W, Below w1.heap.size w1 W → W.cell? ⟨w.heap.size, 0, none⟩ = some (.slice ka k1 kc) ∧ W.cell? ⟨w.heap.size, 1, none⟩ = some (.slice va k2 vc) ∧ W.cell? ⟨rb, 0, none⟩ = some (.slice rka k3 rkc) ∧ W.cell? ⟨rb, 1, none⟩ = some (.slice rva k4 rvc) ∧ W.cell? ⟨rb, 2, none⟩ = some (.pointer pa) ∧ W.cell? ⟨rb, 3, none⟩ = some (.pointer pb) := fun W hW =>
    ⟨(hbox W hW).1, (hbox W hW).2, (hnod W hW).1, (hnod W hW).2.1, (hnod W hW).2.2.1, (hnod W hW).2.2.2.1⟩
  have hz0 : Below w1.heap.size w1 w1.drew := (Below.refl _ _).drew
  have S1 := Lib.hid s1; clear s1
  have S2 := Lib.hid s2; clear s2
  have S3 := Lib.hid s3; clear s3
  have N1 := Lib.hid n1; clear n1
  have N2 := Lib.hid n2; clear n2
  have KEEP := Lib.hid hkeep; clear hkeep
  have HW := Lib.hid hw1; clear hw1
  have HB := Lib.hid hb1; clear hb1
  clear hxx hyy hk1 hk2 hk3 hk4 he er e1 e2 e3 hF1 hF hr ha hb hk hv hs hsz nr hbox hnod hgt ih hn hsz2
  go_enter Try.func55, Try.ntmps55
  go_wp2_with fail
  rw [← HW.out]
  refine S1.out.mono ?_
  rintro e w' ⟨rfl, rfl⟩
  go_wp2_with fail
  refine S2.out.mono ?_
  rintro e w' ⟨rfl, rfl⟩
  go_wp2_with fail
  refine S3.out.mono ?_
  rintro e w' ⟨rfl, rfl⟩
  go_wp2_with fail
  refine S1.out.mono ?_
  rintro e w' ⟨rfl, rfl⟩
  go_wp2_with fail
  refine S2.out.mono ?_
  rintro e w' ⟨rfl, rfl⟩
  go_wp2_with fail
  go_region_held3 (fun W => W.cell? ⟨w.heap.size, 0, none⟩ = some (.slice ka k1 kc) ∧ W.cell? ⟨w.heap.size, 1, none⟩ = some (.slice va k2 vc) ∧ W.cell? ⟨rb, 0, none⟩ = some (.slice rka k3 rkc) ∧ W.cell? ⟨rb, 1, none⟩ = some (.slice rva k4 rvc) ∧ W.cell? ⟨rb, 2, none⟩ = some (.pointer pa) ∧ W.cell? ⟨rb, 3, none⟩ = some (.pointer pb)) (first | exact KEEP.out _ hz0 | exact KEEP.out _ hzA | exact KEEP.out _ hzB | fail) (first
    | (go_at_call 55; (with_reducible refine (N1.out _ hz0).mono ?_); rintro e wA ⟨pA, t, rfl, hA, hev, hli, hbA⟩; have hzA := below_then hz0 hbA)
    | (go_at_call 64; (with_reducible refine (N2.out _ hzA _ _ hA hev hli).mono ?_); rintro e wB ⟨pB, t2, rfl, hB, hev2, hli2, hbB⟩; have hzB := below_then hzA hbB)
    | fail)
  all_goals
    go_wp2_with fail
    go_ret
    exact ⟨pB, t2, rfl, hB, hev2, by rw [hli2, hli]; simp [Tr.list], below_then HB.out hzB⟩
theorem join_left {F : Nat → Prop} {n : Nat} {w : World} {l a b : Tr} {k : Pr} {pl pr : Option Addr} {q : Pr} {ka va : Option Addr} (kc vc : Nat) (hF : Fut F w) (hl : Tre F w l pl) (hr : Tre F w (.node a k b) pr) (hk : Byt F w ka q.1) (hv : Byt F w va q.2) (hs : l.size + (Tr.node a k b).size ≤ 3000)
    (el : l.even) (er : (Tr.node a k b).even) (he : ev l.size (Tr.node a k b).size = false) (hgt : ¬ (Tr.node a k b).size < l.size) (ih : JoinAt F n) (hn : l.size + a.size < n) :
    Calls Try.prog 55 #[.pointer pl, .agg #[.slice ka q.1.length kc, .slice va q.2.length vc], .pointer pr] w fun e w' => ∃ p t, e = .returned (.pointer p) ∧ Tre F w' t p ∧ t.even ∧ t.list = l.list ++ q :: (Tr.node a k b).list ∧ Below w.heap.size w w' := by
  obtain ⟨w1, hw1, hb1, hsz, hbox⟩ := box_new w ka va q.1.length kc q.2.length vc
  have hF1 : Fut F w1 := hF.later (by omega)
  have s1 := size_any (hl.below hb1) (by omega)
  have s2 := size_any (hr.below hb1) (by omega)
  have s3 := even_any l.size (Tr.node a k b).size w1 (by omega) (by omega)
  rw [he] at s3
  obtain ⟨rb, rka, rkc, rva, rvc, pa, pb, rfl, nr, ha, hb⟩ := hr
  obtain ⟨e1, e2, e3⟩ := er
  have hsz2 : a.size + b.size + l.size + 1 ≤ 3000 := by simp only [Tr.size] at hs; omega
  have n1 := fun W (hW : Below w1.heap.size w1 W) => ih W l a pl pa q ka va kc vc (hF1.later hW.size) ((hl.below hb1).below hW) ((ha.below hb1).below hW) ((hk.below hb1).below hW) ((hv.below hb1).below hW) hn el e2
  have n2 := fun W (hW : Below w1.heap.size w1 W) pA t (hA : Tre F W t pA) (hev : t.even) (hli : t.list = l.list ++ q :: a.list) => overLeft_any rkc rvc (hF1.later hW.size) hA ((hb.below hb1).below hW) ((nr.2.2.1.below hb1).below hW) ((nr.2.2.2.below hb1).below hW)
    (by rw [← Tr.length t, hli]; simp [Tr.length]; omega) hev e3 a.size l.size (by rw [ev_turn]; exact e1) (by rw [ev_false] at he; simp only [Tr.size] at he hgt; omega) (by rw [← Tr.length t, hli]; simp [Tr.length]; omega)
  have hnod := fun W (hW : Below w1.heap.size w1 W) => ((nr.below hb1).below hW).cells
  have hd : l.size ≤ (Tr.node a k b).size := by omega
  obtain ⟨xx, hxx⟩ : ∃ n0, n0 = l.size := ⟨_, rfl⟩
  obtain ⟨yy, hyy⟩ : ∃ n0, n0 = (Tr.node a k b).size := ⟨_, rfl⟩
  obtain ⟨k1, hk1⟩ : ∃ k, k = q.1.length := ⟨_, rfl⟩
  obtain ⟨k2, hk2⟩ : ∃ k, k = q.2.length := ⟨_, rfl⟩
  obtain ⟨k3, hk3⟩ : ∃ z, z = k.1.length := ⟨_, rfl⟩
  obtain ⟨k4, hk4⟩ : ∃ z, z = k.2.length := ⟨_, rfl⟩
  simp only [← hxx, ← hyy, ← hk1, ← hk2, ← hk3, ← hk4] at s1 s2 s3 n1 n2 hbox hnod hw1 hd ⊢
  have hkeep : ∀ W, Below w1.heap.size w1 W → W.cell? ⟨w.heap.size, 0, none⟩ = some (.slice ka k1 kc) ∧ W.cell? ⟨w.heap.size, 1, none⟩ = some (.slice va k2 vc) ∧ W.cell? ⟨rb, 0, none⟩ = some (.slice rka k3 rkc) ∧ W.cell? ⟨rb, 1, none⟩ = some (.slice rva k4 rvc) ∧ W.cell? ⟨rb, 2, none⟩ = some (.pointer pa) ∧ W.cell? ⟨rb, 3, none⟩ = some (.pointer pb) := fun W hW =>
    ⟨(hbox W hW).1, (hbox W hW).2, (hnod W hW).1, (hnod W hW).2.1, (hnod W hW).2.2.1, (hnod W hW).2.2.2.1⟩
  have hz0 : Below w1.heap.size w1 w1.drew := (Below.refl _ _).drew
  have S1 := Lib.hid s1; clear s1
  have S2 := Lib.hid s2; clear s2
  have S3 := Lib.hid s3; clear s3
  have N1 := Lib.hid n1; clear n1
  have N2 := Lib.hid n2; clear n2
  have KEEP := Lib.hid hkeep; clear hkeep
  have HW := Lib.hid hw1; clear hw1
  have HB := Lib.hid hb1; clear hb1
  clear hxx hyy hk1 hk2 hk3 hk4 he el e1 e2 e3 hF1 hF hl ha hb hk hv hs hsz nr hbox hnod hgt ih hn hsz2
  go_enter Try.func55, Try.ntmps55
  go_wp2_with fail
  rw [← HW.out]
  refine S1.out.mono ?_
  rintro e w' ⟨rfl, rfl⟩
  go_wp2_with fail
  refine S2.out.mono ?_
  rintro e w' ⟨rfl, rfl⟩
  go_wp2_with fail
  refine S3.out.mono ?_
  rintro e w' ⟨rfl, rfl⟩
  go_wp2_with fail
  refine S1.out.mono ?_
  rintro e w' ⟨rfl, rfl⟩
  go_wp2_with fail
  refine S2.out.mono ?_
  rintro e w' ⟨rfl, rfl⟩
  go_wp2_with fail
  go_region_held3 (fun W => W.cell? ⟨w.heap.size, 0, none⟩ = some (.slice ka k1 kc) ∧ W.cell? ⟨w.heap.size, 1, none⟩ = some (.slice va k2 vc) ∧ W.cell? ⟨rb, 0, none⟩ = some (.slice rka k3 rkc) ∧ W.cell? ⟨rb, 1, none⟩ = some (.slice rva k4 rvc) ∧ W.cell? ⟨rb, 2, none⟩ = some (.pointer pa) ∧ W.cell? ⟨rb, 3, none⟩ = some (.pointer pb)) (first | exact KEEP.out _ hz0 | exact KEEP.out _ hzA | exact KEEP.out _ hzB | fail) (first
    | (go_at_call 55; (with_reducible refine (N1.out _ hz0).mono ?_); rintro e wA ⟨pA, t, rfl, hA, hev, hli, hbA⟩; have hzA := below_then hz0 hbA)
    | (go_at_call 65; (with_reducible refine (N2.out _ hzA _ _ hA hev hli).mono ?_); rintro e wB ⟨pB, t2, rfl, hB, hev2, hli2, hbB⟩; have hzB := below_then hzA hbB)
    | fail)
  all_goals
    go_wp2_with fail
    go_ret
    exact ⟨pB, t2, rfl, hB, hev2, by rw [hli2, hli]; simp [Tr.list], below_then HB.out hzB⟩
theorem joinAt (F : Nat → Prop) : ∀ n, n ≤ 3000 → JoinAt F n
  | 0, _ => fun w l r pl pr q ka va kc vc hF hl hr hk hv hn el er => by omega
  | n + 1, h => fun w l r pl pr q ka va kc vc hF hl hr hk hv hn el er => by
    have ih := joinAt F n (by omega)
    cases he : ev l.size r.size with
    | true => exact join_even kc vc hF hl hr hk hv (by omega) el er he
    | false =>
      by_cases hgt : r.size < l.size
      · rcases l with _ | ⟨a, k, b⟩
        · exact absurd hgt (by simp only [Tr.size]; omega)
        · exact join_right kc vc hF hl hr hk hv (by omega) el er he hgt ih (by simp only [Tr.size] at hn; omega)
      · rcases r with _ | ⟨a, k, b⟩
        · exfalso
          rw [ev_false] at he
          simp only [Tr.size] at he hgt
          omega
        · exact join_left kc vc hF hl hr hk hv (by omega) el er he hgt ih (by simp only [Tr.size] at hn; omega)
theorem join_any {F : Nat → Prop} {w : World} {l r : Tr} {pl pr : Option Addr} {q : Pr} {ka va : Option Addr} (kc vc : Nat) (hF : Fut F w) (hl : Tre F w l pl) (hr : Tre F w r pr) (hk : Byt F w ka q.1) (hv : Byt F w va q.2) (hs : l.size + r.size < 3000) (el : l.even) (er : r.even) :
    Calls Try.prog 55 #[.pointer pl, .agg #[.slice ka q.1.length kc, .slice va q.2.length vc], .pointer pr] w fun e w' => ∃ p t, e = .returned (.pointer p) ∧ Tre F w' t p ∧ t.even ∧ t.list = l.list ++ q :: r.list ∧ Below w.heap.size w w' :=
  joinAt F 3000 (Nat.le_refl _) w l r pl pr q ka va kc vc hF hl hr hk hv hs el er
end Go.Proofs.Ytkcfanckkomdbaa
