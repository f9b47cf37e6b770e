/-
  Contracts of overRight and overLeft: one turn or two behind a join.
-/
import Derived.Test.YtmbdimonfdncpaaGreatDoorNode
import Derived.Test.YtmbdimonfdncpaaGreatDoorWeight
namespace Go.Proofs.YtmbdimonfdncpaaGreatDoor
open Go.RowKit
set_option maxHeartbeats 4000000
set_option maxRecDepth 100000
theorem box_new (w : World) (ka va : Option Addr) (x kc y vc : Nat) : ∃ w1, w1 = w.alloc (.cells #[.slice ka x kc, .slice va y vc] 130) ∧ Below w.heap.size w w1 ∧ w1.heap.size = w.heap.size + 1 ∧
    ∀ W, Below w1.heap.size w1 W → W.cell? ⟨w.heap.size, 0, none⟩ = some (.slice ka x kc) ∧ W.cell? ⟨w.heap.size, 1, none⟩ = some (.slice va y vc) := by
  refine ⟨_, rfl, (Below.refl _ _).alloc (Nat.le_refl _) _, by simp, fun W hW => ?_⟩
  have r0 : W.heap[w.heap.size]? = some (.cells #[.slice ka x kc, .slice va y vc] 130 (0, 0)) := (hW.block _ (by simp)).trans (heap_alloc_new w _)
  constructor
  · rw [cell_of_row W _ _ _ 130 (0, 0) r0]; rfl
  · rw [cell_of_row W _ _ _ 130 (0, 0) r0]; rfl
theorem turned_same {N : Nat} {args : Array Value} {w : World} {v : Value} (h : Calls Tryz.prog N args w fun e w' => e = .returned v ∧ w = w') : Calls Tryz.prog N args w fun e w' => e = .returned v ∧ w' = w := h.mono fun _ _ h => ⟨h.1, h.2.symm⟩
theorem overRight_even {F : Nat → Prop} {w : World} {l r : Tr} {pl pr : Option Addr} {q : Pr} {ka va : Option Addr} (kc vc : Nat) (hF : Fut F w) (hl : Tre F w l pl) (hr : Tre F w r pr) (hk : Byt F w ka q.1) (hv : Byt F w va q.2) (hs : l.size + r.size ≤ 4000)
    (el : l.even) (er : r.even) (he : ev l.size r.size = true) :
    Calls Tryz.prog 97 #[.pointer pl, .agg #[.slice ka q.1.length kc, .slice va q.2.length vc], .pointer pr] w fun e w' => ∃ p t, e = .returned (.pointer p) ∧ Tre F w' t p ∧ t.even ∧ t.list = l.list ++ q :: r.list ∧ Below w.heap.size w w' := by
  obtain ⟨w1, hw1, hb1, hsz, hbox⟩ := box_new w ka va q.1.length kc q.2.length vc
  have hF1 : Fut F w1 := hF.later (by omega)
  have s1 := size_any (hl.below hb1) (by omega)
  have s2 := size_any (hr.below hb1) (by omega)
  have s3 := even_any l.size r.size w1 (by omega) (by omega)
  rw [he] at s3
  have nd := node_any kc vc hF1 (hl.below hb1) (hr.below hb1) (hk.below hb1) (hv.below hb1) (by omega)
  obtain ⟨x, hx⟩ : ∃ x, x = l.size := ⟨_, rfl⟩
  obtain ⟨y, hy⟩ : ∃ y, y = r.size := ⟨_, rfl⟩
  have b0 := hbox w1 (Below.refl _ _)
  obtain ⟨k1, hk1⟩ : ∃ k, k = q.1.length := ⟨_, rfl⟩
  obtain ⟨k2, hk2⟩ : ∃ k, k = q.2.length := ⟨_, rfl⟩
  simp only [← hx, ← hy, ← hk1, ← hk2] at s1 s2 s3 nd b0 hw1 ⊢
  obtain ⟨b0, b1⟩ := b0
  have HE := Lib.hid (show (Tr.node l q r).even from ⟨he, el, er⟩)
  have S1 := Lib.hid s1; clear s1
  have S2 := Lib.hid s2; clear s2
  have S3 := Lib.hid s3; clear s3
  have ND := Lib.hid nd; clear nd
  have HW := Lib.hid hw1; clear hw1
  have HB := Lib.hid hb1; clear hb1
  clear hbox hx hy hk1 hk2 he el er hF1 hF hl hr hk hv hs hsz
  go_enter Tryz.func97, Tryz.ntmps97
  go_wp2_with fail
  rw [← HW.out]
  refine S1.out.mono ?_
  rintro e w' ⟨rfl, rfl⟩
  go_wp2_with fail
  refine S2.out.mono ?_
  rintro e w' ⟨rfl, rfl⟩
  go_wp2_with fail
  refine S3.out.mono ?_
  rintro e w' ⟨rfl, rfl⟩
  go_wp2_with fail
  refine ND.out.mono ?_
  rintro e w' ⟨p, rfl, ht, hb⟩
  have HT := Lib.hid ht; clear ht
  have HB2 := Lib.hid hb; clear hb
  go_wp2_with fail
  go_ret
  exact ⟨p, _, rfl, HT.out, HE.out, rfl, below_then HB.out HB2.out⟩
theorem overRight_single {F : Nat → Prop} {w : World} {l i o : Tr} {pl pr : Option Addr} {q k : Pr} {ka va : Option Addr} (kc vc : Nat) (hF : Fut F w) (hl : Tre F w l pl) (hh : Tre F w (.node i k o) pr) (hk : Byt F w ka q.1) (hv : Byt F w va q.2) (hs : l.size + i.size + o.size ≤ 4000)
    (el : l.even) (er : (Tr.node i k o).even) (he : ev l.size (Tr.node i k o).size = false) (hg : (ev l.size i.size && ev (l.size + i.size + 1) o.size) = true) :
    Calls Tryz.prog 97 #[.pointer pl, .agg #[.slice ka q.1.length kc, .slice va q.2.length vc], .pointer pr] w fun e w' => ∃ p t, e = .returned (.pointer p) ∧ Tre F w' t p ∧ t.even ∧ t.list = l.list ++ q :: (Tr.node i k o).list ∧ Below w.heap.size w w' := by
  obtain ⟨w1, hw1, hb1, hsz, hbox⟩ := box_new w ka va q.1.length kc q.2.length vc
  have hF1 : Fut F w1 := hF.later (by omega)
  have s1 := size_any (hl.below hb1) (by (try simp only [Tr.size]); omega)
  have s2 := size_any (hh.below hb1) (by (try simp only [Tr.size]); omega)
  have s3 := even_any l.size (Tr.node i k o).size w1 (by (try simp only [Tr.size]); omega) (by (try simp only [Tr.size]); omega)
  rw [he] at s3
  obtain ⟨rb, rka, rkc, rva, rvc, pi, po, rfl, nr, hi, ho⟩ := hh
  obtain ⟨e1, e2, e3⟩ := er
  have hzz : ∀ n, Below w1.heap.size w1 (w1.drewN n) := fun n => below_drewN (Below.refl _ _) n
  have t0 := fun n => turned_same (size_any ((hl.below hb1).below (hzz n)) (by omega))
  have t1 := fun n => turned_same (size_any ((hi.below hb1).below (hzz n)) (by (try simp only [Tr.size]); omega))
  have t2 := fun n => turned_same (size_any ((ho.below hb1).below (hzz n)) (by (try simp only [Tr.size]); omega))
  have t3 := fun n => turned_same (single_any l.size i.size o.size (w1.drewN n) (by omega) (by (try simp only [Tr.size]); omega) (by omega))
  simp only [hg] at t3
  have hnod := fun W (hW : Below w1.heap.size w1 W) => ((nr.below hb1).below hW).cells
  have n1 := fun W (hW : Below w1.heap.size w1 W) => node_any kc vc (hF1.later hW.size) ((hl.below hb1).below hW) ((hi.below hb1).below hW) ((hk.below hb1).below hW) ((hv.below hb1).below hW) (by (try simp only [Tr.size]); omega)
  have n2 := fun W (hW : Below w1.heap.size w1 W) pA (hA : Tre F W (.node l q i) pA) => node_any rkc rvc (hF1.later hW.size) hA ((ho.below hb1).below hW) ((nr.2.2.1.below hb1).below hW) ((nr.2.2.2.below hb1).below hW) (by (try simp only [Tr.size]); omega)
  have hev : (Tr.node (Tr.node l q i) k o).even := by
    rw [Bool.and_eq_true] at hg
    exact ⟨by simpa only [Tr.size] using hg.2, ⟨hg.1, el, e2⟩, e3⟩
  obtain ⟨xx, hxx⟩ : ∃ n0, n0 = l.size := ⟨_, rfl⟩
  obtain ⟨yy, hyy⟩ : ∃ n0, n0 = (Tr.node i k o).size := ⟨_, rfl⟩
  obtain ⟨zz, hzi⟩ : ∃ n0, n0 = i.size := ⟨_, rfl⟩
  obtain ⟨uu, huu⟩ : ∃ u, u = o.size := ⟨_, rfl⟩
  obtain ⟨k1, hk1⟩ : ∃ k, k = q.1.length := ⟨_, rfl⟩
  obtain ⟨k2, hk2⟩ : ∃ k, k = q.2.length := ⟨_, rfl⟩
  obtain ⟨k3, hk3⟩ : ∃ z, z = k.1.length := ⟨_, rfl⟩
  obtain ⟨k4, hk4⟩ : ∃ z, z = k.2.length := ⟨_, rfl⟩
  simp only [← hxx, ← hyy, ← hzi, ← huu, ← hk1, ← hk2, ← hk3, ← hk4] at s1 s2 s3 t0 t1 t2 t3 n1 n2 hbox hnod hw1 ⊢
  have hkeep : ∀ W, Below w1.heap.size w1 W → W.cell? ⟨w.heap.size, 0, none⟩ = some (.slice ka k1 kc) ∧ W.cell? ⟨w.heap.size, 1, none⟩ = some (.slice va k2 vc) ∧ W.cell? ⟨rb, 0, none⟩ = some (.slice rka k3 rkc) ∧ W.cell? ⟨rb, 1, none⟩ = some (.slice rva k4 rvc) ∧ W.cell? ⟨rb, 3, none⟩ = some (.pointer po) := fun W hW =>
    ⟨(hbox W hW).1, (hbox W hW).2, (hnod W hW).1, (hnod W hW).2.1, (hnod W hW).2.2.2.1⟩
  obtain ⟨q0, q1, q2, q3, _⟩ := hnod w1 (Below.refl _ _)
  have hq3 : ∀ n, (w1.drewN n).cell? ⟨rb, 3, none⟩ = some (.pointer po) := fun n => (hnod _ (hzz n)).2.2.2.1
  have hz0 : ∀ n, Below w1.heap.size w1 (w1.drewN n).drew := fun n => (hzz n).drew
  have HE := Lib.hid hev; clear hev
  have S1 := Lib.hid s1; clear s1
  have S2 := Lib.hid s2; clear s2
  have S3 := Lib.hid s3; clear s3
  have T0 := Lib.hid t0; clear t0
  have T1 := Lib.hid t1; clear t1
  have T2 := Lib.hid t2; clear t2
  have T3 := Lib.hid t3; clear t3
  have N1 := Lib.hid n1; clear n1
  have N2 := Lib.hid n2; clear n2
  have KEEP := Lib.hid hkeep; clear hkeep
  have HW := Lib.hid hw1; clear hw1
  have HB := Lib.hid hb1; clear hb1
  have HZ := Lib.hid hz0; clear hz0
  clear hxx hyy hzi huu hk1 hk2 hk3 hk4 he el e1 e2 e3 hF1 hF hl hi ho hk hv hs hsz nr hg hbox hnod hzz
  go_enter Tryz.func97, Tryz.ntmps97
  go_wp2_with fail
  rw [← HW.out]
  refine S1.out.mono ?_
  rintro e w' ⟨rfl, rfl⟩
  go_wp2_with fail
  refine S2.out.mono ?_
  rintro e w' ⟨rfl, rfl⟩
  go_wp2_with fail
  refine S3.out.mono ?_
  rintro e w' ⟨rfl, rfl⟩
  go_wp2_with fail
  go_quiet (first | (go_at_call 49; with_reducible refine Calls.quiet_of_same (T0.out _)) | (go_at_call 49; with_reducible refine Calls.quiet_of_same (T1.out _)) | (go_at_call 49; with_reducible refine Calls.quiet_of_same (T2.out _)) | (go_at_call 100; with_reducible refine Calls.quiet_of_same (T3.out _)))
  go_wp2_with fail
  clear q0 q1 q2 q3 hq3
  obtain ⟨w2, hw2⟩ : ∃ w2, w2 = w1.drewN nq := ⟨_, rfl⟩
  rw [← hw2]
  have hz0 : Below w1.heap.size w1 w2.drew := by rw [hw2]; exact HZ.out nq
  clear hw2
  go_region_held3 (fun W => W.cell? ⟨w.heap.size, 0, none⟩ = some (.slice ka k1 kc) ∧ W.cell? ⟨w.heap.size, 1, none⟩ = some (.slice va k2 vc) ∧ W.cell? ⟨rb, 0, none⟩ = some (.slice rka k3 rkc) ∧ W.cell? ⟨rb, 1, none⟩ = some (.slice rva k4 rvc) ∧ W.cell? ⟨rb, 3, none⟩ = some (.pointer po)) (first | exact KEEP.out _ hz0 | exact KEEP.out _ hzA | exact KEEP.out _ hzB | fail) (first
    | (go_at_call 85; (with_reducible refine (N1.out _ hz0).mono ?_); rintro e wA ⟨pA, rfl, hA, hbA⟩; have hzA := below_then hz0 hbA)
    | (go_at_call 85; (with_reducible refine (N2.out _ hzA _ hA).mono ?_); rintro e wB ⟨pB, rfl, hB, hbB⟩; have hzB := below_then hzA hbB)
    | fail)
  all_goals
    go_wp2_with fail
    go_ret
    exact ⟨pB, _, rfl, hB, HE.out, by simp [Tr.list], below_then HB.out hzB⟩
theorem overRight_double {F : Nat → Prop} {w : World} {l x y o : Tr} {pl pr : Option Addr} {q k j : Pr} {ka va : Option Addr} (kc vc : Nat) (hF : Fut F w) (hl : Tre F w l pl) (hh : Tre F w (.node (.node x j y) k o) pr) (hk : Byt F w ka q.1) (hv : Byt F w va q.2) (hs : l.size + x.size + y.size + o.size ≤ 4000)
    (el : l.even) (er : (Tr.node (Tr.node x j y) k o).even) (he : ev l.size (Tr.node (Tr.node x j y) k o).size = false) (hg : (ev l.size (Tr.node x j y).size && ev (l.size + (Tr.node x j y).size + 1) o.size) = false) (hd : ev l.size x.size = true ∧ ev y.size o.size = true ∧ ev (l.size + x.size + 1) (y.size + o.size + 1) = true) :
    Calls Tryz.prog 97 #[.pointer pl, .agg #[.slice ka q.1.length kc, .slice va q.2.length vc], .pointer pr] w fun e w' => ∃ p t, e = .returned (.pointer p) ∧ Tre F w' t p ∧ t.even ∧ t.list = l.list ++ q :: (Tr.node (Tr.node x j y) k o).list ∧ Below w.heap.size w w' := by
  obtain ⟨w1, hw1, hb1, hsz, hbox⟩ := box_new w ka va q.1.length kc q.2.length vc
  have hF1 : Fut F w1 := hF.later (by omega)
  have s1 := size_any (hl.below hb1) (by (try simp only [Tr.size]); omega)
  have s2 := size_any (hh.below hb1) (by (try simp only [Tr.size]); omega)
  have s3 := even_any l.size (Tr.node (Tr.node x j y) k o).size w1 (by (try simp only [Tr.size]); omega) (by (try simp only [Tr.size]); omega)
  rw [he] at s3
  obtain ⟨rb, rka, rkc, rva, rvc, pi, po, rfl, nr, hi, ho⟩ := hh
  obtain ⟨e1, e2, e3⟩ := er
  have hzz : ∀ n, Below w1.heap.size w1 (w1.drewN n) := fun n => below_drewN (Below.refl _ _) n
  have t0 := fun n => turned_same (size_any ((hl.below hb1).below (hzz n)) (by omega))
  have t1 := fun n => turned_same (size_any ((hi.below hb1).below (hzz n)) (by (try simp only [Tr.size]); omega))
  have t2 := fun n => turned_same (size_any ((ho.below hb1).below (hzz n)) (by (try simp only [Tr.size]); omega))
  have t3 := fun n => turned_same (single_any l.size (Tr.node x j y).size o.size (w1.drewN n) (by omega) (by (try simp only [Tr.size]); omega) (by omega))
  simp only [hg] at t3
  have hnod := fun W (hW : Below w1.heap.size w1 W) => ((nr.below hb1).below hW).cells
  obtain ⟨ib, ika, ikc, iva, ivc, px, py, rfl, ni, hx', hy'⟩ := hi
  obtain ⟨e4, e5, e6⟩ := e2
  have hnod2 := fun W (hW : Below w1.heap.size w1 W) => ((ni.below hb1).below hW).cells
  have n1 := fun W (hW : Below w1.heap.size w1 W) => node_any kc vc (hF1.later hW.size) ((hl.below hb1).below hW) ((hx'.below hb1).below hW) ((hk.below hb1).below hW) ((hv.below hb1).below hW) (by (try simp only [Tr.size]); omega)
  have n2 := fun W (hW : Below w1.heap.size w1 W) => node_any rkc rvc (hF1.later hW.size) ((hy'.below hb1).below hW) ((ho.below hb1).below hW) ((nr.2.2.1.below hb1).below hW) ((nr.2.2.2.below hb1).below hW) (by (try simp only [Tr.size]); omega)
  have n3 := fun W (hW : Below w1.heap.size w1 W) pA pB (hA : Tre F W (.node l q x) pA) (hB : Tre F W (.node y k o) pB) => node_any ikc ivc (hF1.later hW.size) hA hB ((ni.2.2.1.below hb1).below hW) ((ni.2.2.2.below hb1).below hW) (by (try simp only [Tr.size]); omega)
  have hev : (Tr.node (Tr.node l q x) j (Tr.node y k o)).even := ⟨by simpa only [Tr.size] using hd.2.2, ⟨hd.1, el, e5⟩, hd.2.1, e6, e3⟩
  obtain ⟨xx, hxx⟩ : ∃ n0, n0 = l.size := ⟨_, rfl⟩
  obtain ⟨yy, hyy⟩ : ∃ n0, n0 = (Tr.node (Tr.node x j y) k o).size := ⟨_, rfl⟩
  obtain ⟨zz, hzi⟩ : ∃ n0, n0 = (Tr.node x j y).size := ⟨_, rfl⟩
  obtain ⟨uu, huu⟩ : ∃ u, u = o.size := ⟨_, rfl⟩
  obtain ⟨k1, hk1⟩ : ∃ k, k = q.1.length := ⟨_, rfl⟩
  obtain ⟨k2, hk2⟩ : ∃ k, k = q.2.length := ⟨_, rfl⟩
  obtain ⟨k3, hk3⟩ : ∃ z, z = k.1.length := ⟨_, rfl⟩
  obtain ⟨k4, hk4⟩ : ∃ z, z = k.2.length := ⟨_, rfl⟩
  obtain ⟨k5, hk5⟩ : ∃ n0, n0 = j.1.length := ⟨_, rfl⟩
  obtain ⟨k6, hk6⟩ : ∃ n0, n0 = j.2.length := ⟨_, rfl⟩
  simp only [← hxx, ← hyy, ← hzi, ← huu, ← hk1, ← hk2, ← hk3, ← hk4, ← hk5, ← hk6] at s1 s2 s3 t0 t1 t2 t3 n1 n2 n3 hnod2 hbox hnod hw1 ⊢
  have hkeep : ∀ W, Below w1.heap.size w1 W → W.cell? ⟨w.heap.size, 0, none⟩ = some (.slice ka k1 kc) ∧ W.cell? ⟨w.heap.size, 1, none⟩ = some (.slice va k2 vc) ∧ W.cell? ⟨rb, 0, none⟩ = some (.slice rka k3 rkc) ∧ W.cell? ⟨rb, 1, none⟩ = some (.slice rva k4 rvc) ∧ W.cell? ⟨rb, 3, none⟩ = some (.pointer po) ∧ W.cell? ⟨ib, 0, none⟩ = some (.slice ika k5 ikc) ∧ W.cell? ⟨ib, 1, none⟩ = some (.slice iva k6 ivc) ∧ W.cell? ⟨ib, 2, none⟩ = some (.pointer px) ∧ W.cell? ⟨ib, 3, none⟩ = some (.pointer py) := fun W hW =>
    ⟨(hbox W hW).1, (hbox W hW).2, (hnod W hW).1, (hnod W hW).2.1, (hnod W hW).2.2.2.1, (hnod2 W hW).1, (hnod2 W hW).2.1, (hnod2 W hW).2.2.1, (hnod2 W hW).2.2.2.1⟩
  obtain ⟨q0, q1, q2, q3, _⟩ := hnod w1 (Below.refl _ _)
  have hq3 : ∀ n, (w1.drewN n).cell? ⟨rb, 3, none⟩ = some (.pointer po) := fun n => (hnod _ (hzz n)).2.2.2.1
  have hz0 : ∀ n, Below w1.heap.size w1 (w1.drewN n).drew := fun n => (hzz n).drew
  have HE := Lib.hid hev; clear hev
  have S1 := Lib.hid s1; clear s1
  have S2 := Lib.hid s2; clear s2
  have S3 := Lib.hid s3; clear s3
  have T0 := Lib.hid t0; clear t0
  have T1 := Lib.hid t1; clear t1
  have T2 := Lib.hid t2; clear t2
  have T3 := Lib.hid t3; clear t3
  have N1 := Lib.hid n1; clear n1
  have N2 := Lib.hid n2; clear n2
  have N3 := Lib.hid n3; clear n3
  have KEEP := Lib.hid hkeep; clear hkeep
  have HW := Lib.hid hw1; clear hw1
  have HB := Lib.hid hb1; clear hb1
  have HZ := Lib.hid hz0; clear hz0
  clear hxx hyy hzi huu hk1 hk2 hk3 hk4 he el e1 e3 e4 e5 e6 hk5 hk6 hd hF1 hF hl hx' hy' ni hnod2 ho hk hv hs hsz nr hg hbox hnod hzz
  go_enter Tryz.func97, Tryz.ntmps97
  go_wp2_with fail
  rw [← HW.out]
  refine S1.out.mono ?_
  rintro e w' ⟨rfl, rfl⟩
  go_wp2_with fail
  refine S2.out.mono ?_
  rintro e w' ⟨rfl, rfl⟩
  go_wp2_with fail
  refine S3.out.mono ?_
  rintro e w' ⟨rfl, rfl⟩
  go_wp2_with fail
  go_quiet (first | (go_at_call 49; with_reducible refine Calls.quiet_of_same (T0.out _)) | (go_at_call 49; with_reducible refine Calls.quiet_of_same (T1.out _)) | (go_at_call 49; with_reducible refine Calls.quiet_of_same (T2.out _)) | (go_at_call 100; with_reducible refine Calls.quiet_of_same (T3.out _)))
  go_wp2_with fail
  clear q0 q1 q2 q3 hq3
  obtain ⟨w2, hw2⟩ : ∃ w2, w2 = w1.drewN nq := ⟨_, rfl⟩
  rw [← hw2]
  have hz0 : Below w1.heap.size w1 w2.drew := by rw [hw2]; exact HZ.out nq
  clear hw2
  go_region_held3 (fun W => W.cell? ⟨w.heap.size, 0, none⟩ = some (.slice ka k1 kc) ∧ W.cell? ⟨w.heap.size, 1, none⟩ = some (.slice va k2 vc) ∧ W.cell? ⟨rb, 0, none⟩ = some (.slice rka k3 rkc) ∧ W.cell? ⟨rb, 1, none⟩ = some (.slice rva k4 rvc) ∧ W.cell? ⟨rb, 3, none⟩ = some (.pointer po) ∧ W.cell? ⟨ib, 0, none⟩ = some (.slice ika k5 ikc) ∧ W.cell? ⟨ib, 1, none⟩ = some (.slice iva k6 ivc) ∧ W.cell? ⟨ib, 2, none⟩ = some (.pointer px) ∧ W.cell? ⟨ib, 3, none⟩ = some (.pointer py)) (first | exact KEEP.out _ hz0 | exact KEEP.out _ hzA | exact KEEP.out _ hzB | exact KEEP.out _ hzC | fail) (first
    | (go_at_call 85; (with_reducible refine (N1.out _ hz0).mono ?_); rintro e wA ⟨pA, rfl, hA, hbA⟩; have hzA := below_then hz0 hbA)
    | (go_at_call 85; (with_reducible refine (N2.out _ hzA).mono ?_); rintro e wB ⟨pB, rfl, hB, hbB⟩; have hzB := below_then hzA hbB; have hA2 := hA.below hbB)
    | (go_at_call 85; (with_reducible refine (N3.out _ hzB _ _ hA2 hB).mono ?_); rintro e wC ⟨pC, rfl, hC, hbC⟩; have hzC := below_then hzB hbC)
    | fail)
  all_goals
    go_wp2_with fail
    go_ret
    exact ⟨pC, _, rfl, hC, HE.out, by simp [Tr.list], below_then HB.out hzC⟩
theorem overLeft_even {F : Nat → Prop} {w : World} {l r : Tr} {pl pr : Option Addr} {q : Pr} {ka va : Option Addr} (kc vc : Nat) (hF : Fut F w) (hl : Tre F w l pl) (hr : Tre F w r pr) (hk : Byt F w ka q.1) (hv : Byt F w va q.2) (hs : l.size + r.size ≤ 4000)
    (el : l.even) (er : r.even) (he : ev l.size r.size = true) :
    Calls Tryz.prog 98 #[.pointer pl, .agg #[.slice ka q.1.length kc, .slice va q.2.length vc], .pointer pr] w fun e w' => ∃ p t, e = .returned (.pointer p) ∧ Tre F w' t p ∧ t.even ∧ t.list = l.list ++ q :: r.list ∧ Below w.heap.size w w' := by
  obtain ⟨w1, hw1, hb1, hsz, hbox⟩ := box_new w ka va q.1.length kc q.2.length vc
  have hF1 : Fut F w1 := hF.later (by omega)
  have s1 := size_any (hl.below hb1) (by omega)
  have s2 := size_any (hr.below hb1) (by omega)
  have s3 := even_any l.size r.size w1 (by omega) (by omega)
  rw [he] at s3
  have nd := node_any kc vc hF1 (hl.below hb1) (hr.below hb1) (hk.below hb1) (hv.below hb1) (by omega)
  obtain ⟨x, hx⟩ : ∃ x, x = l.size := ⟨_, rfl⟩
  obtain ⟨y, hy⟩ : ∃ y, y = r.size := ⟨_, rfl⟩
  have b0 := hbox w1 (Below.refl _ _)
  obtain ⟨k1, hk1⟩ : ∃ k, k = q.1.length := ⟨_, rfl⟩
  obtain ⟨k2, hk2⟩ : ∃ k, k = q.2.length := ⟨_, rfl⟩
  simp only [← hx, ← hy, ← hk1, ← hk2] at s1 s2 s3 nd b0 hw1 ⊢
  obtain ⟨b0, b1⟩ := b0
  have HE := Lib.hid (show (Tr.node l q r).even from ⟨he, el, er⟩)
  have S1 := Lib.hid s1; clear s1
  have S2 := Lib.hid s2; clear s2
  have S3 := Lib.hid s3; clear s3
  have ND := Lib.hid nd; clear nd
  have HW := Lib.hid hw1; clear hw1
  have HB := Lib.hid hb1; clear hb1
  clear hbox hx hy hk1 hk2 he el er hF1 hF hl hr hk hv hs hsz
  go_enter Tryz.func98, Tryz.ntmps98
  go_wp2_with fail
  rw [← HW.out]
  refine S1.out.mono ?_
  rintro e w' ⟨rfl, rfl⟩
  go_wp2_with fail
  refine S2.out.mono ?_
  rintro e w' ⟨rfl, rfl⟩
  go_wp2_with fail
  refine S3.out.mono ?_
  rintro e w' ⟨rfl, rfl⟩
  go_wp2_with fail
  refine ND.out.mono ?_
  rintro e w' ⟨p, rfl, ht, hb⟩
  have HT := Lib.hid ht; clear ht
  have HB2 := Lib.hid hb; clear hb
  go_wp2_with fail
  go_ret
  exact ⟨p, _, rfl, HT.out, HE.out, rfl, below_then HB.out HB2.out⟩
theorem overLeft_single {F : Nat → Prop} {w : World} {r i o : Tr} {pl pr : Option Addr} {q k : Pr} {ka va : Option Addr} (kc vc : Nat) (hF : Fut F w) (hh : Tre F w (.node o k i) pl) (hr : Tre F w r pr) (hk : Byt F w ka q.1) (hv : Byt F w va q.2) (hs : r.size + i.size + o.size ≤ 4000)
    (el : r.even) (er : (Tr.node o k i).even) (he : ev (Tr.node o k i).size r.size = false) (hg : (ev r.size i.size && ev (r.size + i.size + 1) o.size) = true) :
    Calls Tryz.prog 98 #[.pointer pl, .agg #[.slice ka q.1.length kc, .slice va q.2.length vc], .pointer pr] w fun e w' => ∃ p t, e = .returned (.pointer p) ∧ Tre F w' t p ∧ t.even ∧ t.list = (Tr.node o k i).list ++ q :: r.list ∧ Below w.heap.size w w' := by
  obtain ⟨w1, hw1, hb1, hsz, hbox⟩ := box_new w ka va q.1.length kc q.2.length vc
  have hF1 : Fut F w1 := hF.later (by omega)
  have s1 := size_any (hh.below hb1) (by (try simp only [Tr.size]); omega)
  have s2 := size_any (hr.below hb1) (by (try simp only [Tr.size]); omega)
  have s3 := even_any (Tr.node o k i).size r.size w1 (by (try simp only [Tr.size]); omega) (by (try simp only [Tr.size]); omega)
  rw [he] at s3
  obtain ⟨rb, rka, rkc, rva, rvc, po, pi, rfl, nr, ho, hi⟩ := hh
  obtain ⟨e1, e3, e2⟩ := er
  have hzz : ∀ n, Below w1.heap.size w1 (w1.drewN n) := fun n => below_drewN (Below.refl _ _) n
  have t0 := fun n => turned_same (size_any ((hr.below hb1).below (hzz n)) (by omega))
  have t1 := fun n => turned_same (size_any ((hi.below hb1).below (hzz n)) (by (try simp only [Tr.size]); omega))
  have t2 := fun n => turned_same (size_any ((ho.below hb1).below (hzz n)) (by (try simp only [Tr.size]); omega))
  have t3 := fun n => turned_same (single_any r.size i.size o.size (w1.drewN n) (by omega) (by (try simp only [Tr.size]); omega) (by omega))
  simp only [hg] at t3
  have hnod := fun W (hW : Below w1.heap.size w1 W) => ((nr.below hb1).below hW).cells
  have n1 := fun W (hW : Below w1.heap.size w1 W) => node_any kc vc (hF1.later hW.size) ((hi.below hb1).below hW) ((hr.below hb1).below hW) ((hk.below hb1).below hW) ((hv.below hb1).below hW) (by (try simp only [Tr.size]); omega)
  have n2 := fun W (hW : Below w1.heap.size w1 W) pA (hA : Tre F W (.node i q r) pA) => node_any rkc rvc (hF1.later hW.size) ((ho.below hb1).below hW) hA ((nr.2.2.1.below hb1).below hW) ((nr.2.2.2.below hb1).below hW) (by (try simp only [Tr.size]); omega)
  have hev : (Tr.node o k (Tr.node i q r)).even := by
    rw [Bool.and_eq_true] at hg
    refine ⟨?_, e3, ⟨by rw [ev_turn]; exact hg.1, e2, el⟩⟩
    have := hg.2
    simp only [Tr.size, ev_true] at this ⊢
    omega
  obtain ⟨xx, hxx⟩ : ∃ n0, n0 = (Tr.node o k i).size := ⟨_, rfl⟩
  obtain ⟨yy, hyy⟩ : ∃ n0, n0 = r.size := ⟨_, rfl⟩
  obtain ⟨zz, hzi⟩ : ∃ n0, n0 = i.size := ⟨_, rfl⟩
  obtain ⟨uu, huu⟩ : ∃ u, u = o.size := ⟨_, rfl⟩
  obtain ⟨k1, hk1⟩ : ∃ k, k = q.1.length := ⟨_, rfl⟩
  obtain ⟨k2, hk2⟩ : ∃ k, k = q.2.length := ⟨_, rfl⟩
  obtain ⟨k3, hk3⟩ : ∃ z, z = k.1.length := ⟨_, rfl⟩
  obtain ⟨k4, hk4⟩ : ∃ z, z = k.2.length := ⟨_, rfl⟩
  simp only [← hxx, ← hyy, ← hzi, ← huu, ← hk1, ← hk2, ← hk3, ← hk4] at s1 s2 s3 t0 t1 t2 t3 n1 n2 hbox hnod hw1 ⊢
  have hkeep : ∀ W, Below w1.heap.size w1 W → W.cell? ⟨w.heap.size, 0, none⟩ = some (.slice ka k1 kc) ∧ W.cell? ⟨w.heap.size, 1, none⟩ = some (.slice va k2 vc) ∧ W.cell? ⟨rb, 0, none⟩ = some (.slice rka k3 rkc) ∧ W.cell? ⟨rb, 1, none⟩ = some (.slice rva k4 rvc) ∧ W.cell? ⟨rb, 2, none⟩ = some (.pointer po) := fun W hW =>
    ⟨(hbox W hW).1, (hbox W hW).2, (hnod W hW).1, (hnod W hW).2.1, (hnod W hW).2.2.1⟩
  obtain ⟨q0, q1, q2, q3, _⟩ := hnod w1 (Below.refl _ _)
  have hq3 : ∀ n, (w1.drewN n).cell? ⟨rb, 2, none⟩ = some (.pointer po) := fun n => (hnod _ (hzz n)).2.2.1
  have hz0 : ∀ n, Below w1.heap.size w1 (w1.drewN n).drew := fun n => (hzz n).drew
  have HE := Lib.hid hev; clear hev
  have S1 := Lib.hid s1; clear s1
  have S2 := Lib.hid s2; clear s2
  have S3 := Lib.hid s3; clear s3
  have T0 := Lib.hid t0; clear t0
  have T1 := Lib.hid t1; clear t1
  have T2 := Lib.hid t2; clear t2
  have T3 := Lib.hid t3; clear t3
  have N1 := Lib.hid n1; clear n1
  have N2 := Lib.hid n2; clear n2
  have KEEP := Lib.hid hkeep; clear hkeep
  have HW := Lib.hid hw1; clear hw1
  have HB := Lib.hid hb1; clear hb1
  have HZ := Lib.hid hz0; clear hz0
  clear hxx hyy hzi huu hk1 hk2 hk3 hk4 he el e1 e2 e3 hF1 hF hr hi ho hk hv hs hsz nr hg hbox hnod hzz
  go_enter Tryz.func98, Tryz.ntmps98
  go_wp2_with fail
  rw [← HW.out]
  refine S1.out.mono ?_
  rintro e w' ⟨rfl, rfl⟩
  go_wp2_with fail
  refine S2.out.mono ?_
  rintro e w' ⟨rfl, rfl⟩
  go_wp2_with fail
  refine S3.out.mono ?_
  rintro e w' ⟨rfl, rfl⟩
  go_wp2_with fail
  go_quiet (first | (go_at_call 49; with_reducible refine Calls.quiet_of_same (T0.out _)) | (go_at_call 49; with_reducible refine Calls.quiet_of_same (T1.out _)) | (go_at_call 49; with_reducible refine Calls.quiet_of_same (T2.out _)) | (go_at_call 100; with_reducible refine Calls.quiet_of_same (T3.out _)))
  go_wp2_with fail
  clear q0 q1 q2 q3 hq3
  obtain ⟨w2, hw2⟩ : ∃ w2, w2 = w1.drewN nq := ⟨_, rfl⟩
  rw [← hw2]
  have hz0 : Below w1.heap.size w1 w2.drew := by rw [hw2]; exact HZ.out nq
  clear hw2
  go_region_held3 (fun W => W.cell? ⟨w.heap.size, 0, none⟩ = some (.slice ka k1 kc) ∧ W.cell? ⟨w.heap.size, 1, none⟩ = some (.slice va k2 vc) ∧ W.cell? ⟨rb, 0, none⟩ = some (.slice rka k3 rkc) ∧ W.cell? ⟨rb, 1, none⟩ = some (.slice rva k4 rvc) ∧ W.cell? ⟨rb, 2, none⟩ = some (.pointer po)) (first | exact KEEP.out _ hz0 | exact KEEP.out _ hzA | exact KEEP.out _ hzB | fail) (first
    | (go_at_call 85; (with_reducible refine (N1.out _ hz0).mono ?_); rintro e wA ⟨pA, rfl, hA, hbA⟩; have hzA := below_then hz0 hbA)
    | (go_at_call 85; (with_reducible refine (N2.out _ hzA _ hA).mono ?_); rintro e wB ⟨pB, rfl, hB, hbB⟩; have hzB := below_then hzA hbB)
    | fail)
  all_goals
    go_wp2_with fail
    go_ret
    exact ⟨pB, _, rfl, hB, HE.out, by simp [Tr.list], below_then HB.out hzB⟩
theorem overLeft_double {F : Nat → Prop} {w : World} {r x y o : Tr} {pl pr : Option Addr} {q k j : Pr} {ka va : Option Addr} (kc vc : Nat) (hF : Fut F w) (hh : Tre F w (.node o k (.node x j y)) pl) (hr : Tre F w r pr) (hk : Byt F w ka q.1) (hv : Byt F w va q.2) (hs : r.size + x.size + y.size + o.size ≤ 4000)
    (el : r.even) (er : (Tr.node o k (Tr.node x j y)).even) (he : ev (Tr.node o k (Tr.node x j y)).size r.size = false) (hg : (ev r.size (Tr.node x j y).size && ev (r.size + (Tr.node x j y).size + 1) o.size) = false) (hd : ev r.size y.size = true ∧ ev x.size o.size = true ∧ ev (r.size + y.size + 1) (x.size + o.size + 1) = true) :
    Calls Tryz.prog 98 #[.pointer pl, .agg #[.slice ka q.1.length kc, .slice va q.2.length vc], .pointer pr] w fun e w' => ∃ p t, e = .returned (.pointer p) ∧ Tre F w' t p ∧ t.even ∧ t.list = (Tr.node o k (Tr.node x j y)).list ++ q :: r.list ∧ Below w.heap.size w w' := by
  obtain ⟨w1, hw1, hb1, hsz, hbox⟩ := box_new w ka va q.1.length kc q.2.length vc
  have hF1 : Fut F w1 := hF.later (by omega)
  have s1 := size_any (hh.below hb1) (by (try simp only [Tr.size]); omega)
  have s2 := size_any (hr.below hb1) (by (try simp only [Tr.size]); omega)
  have s3 := even_any (Tr.node o k (Tr.node x j y)).size r.size w1 (by (try simp only [Tr.size]); omega) (by (try simp only [Tr.size]); omega)
  rw [he] at s3
  obtain ⟨rb, rka, rkc, rva, rvc, po, pi, rfl, nr, ho, hi⟩ := hh
  obtain ⟨e1, e3, e2⟩ := er
  have hzz : ∀ n, Below w1.heap.size w1 (w1.drewN n) := fun n => below_drewN (Below.refl _ _) n
  have t0 := fun n => turned_same (size_any ((hr.below hb1).below (hzz n)) (by omega))
  have t1 := fun n => turned_same (size_any ((hi.below hb1).below (hzz n)) (by (try simp only [Tr.size]); omega))
  have t2 := fun n => turned_same (size_any ((ho.below hb1).below (hzz n)) (by (try simp only [Tr.size]); omega))
  have t3 := fun n => turned_same (single_any r.size (Tr.node x j y).size o.size (w1.drewN n) (by omega) (by (try simp only [Tr.size]); omega) (by omega))
  simp only [hg] at t3
  have hnod := fun W (hW : Below w1.heap.size w1 W) => ((nr.below hb1).below hW).cells
  obtain ⟨ib, ika, ikc, iva, ivc, px, py, rfl, ni, hx', hy'⟩ := hi
  obtain ⟨e4, e5, e6⟩ := e2
  have hnod2 := fun W (hW : Below w1.heap.size w1 W) => ((ni.below hb1).below hW).cells
  have n1 := fun W (hW : Below w1.heap.size w1 W) => node_any rkc rvc (hF1.later hW.size) ((ho.below hb1).below hW) ((hx'.below hb1).below hW) ((nr.2.2.1.below hb1).below hW) ((nr.2.2.2.below hb1).below hW) (by (try simp only [Tr.size]); omega)
  have n2 := fun W (hW : Below w1.heap.size w1 W) => node_any kc vc (hF1.later hW.size) ((hy'.below hb1).below hW) ((hr.below hb1).below hW) ((hk.below hb1).below hW) ((hv.below hb1).below hW) (by (try simp only [Tr.size]); omega)
  have n3 := fun W (hW : Below w1.heap.size w1 W) pA pB (hA : Tre F W (.node o k x) pA) (hB : Tre F W (.node y q r) pB) => node_any ikc ivc (hF1.later hW.size) hA hB ((ni.2.2.1.below hb1).below hW) ((ni.2.2.2.below hb1).below hW) (by (try simp only [Tr.size]); omega)
  have hev : (Tr.node (Tr.node o k x) j (Tr.node y q r)).even := by
    refine ⟨?_, ⟨by rw [ev_turn]; exact hd.2.1, e3, e5⟩, by rw [ev_turn]; exact hd.1, e6, el⟩
    have := hd.2.2
    simp only [Tr.size, ev_true] at this ⊢
    omega
  obtain ⟨xx, hxx⟩ : ∃ n0, n0 = (Tr.node o k (Tr.node x j y)).size := ⟨_, rfl⟩
  obtain ⟨yy, hyy⟩ : ∃ n0, n0 = r.size := ⟨_, rfl⟩
  obtain ⟨zz, hzi⟩ : ∃ n0, n0 = (Tr.node x j y).size := ⟨_, rfl⟩
  obtain ⟨uu, huu⟩ : ∃ u, u = o.size := ⟨_, rfl⟩
  obtain ⟨k1, hk1⟩ : ∃ k, k = q.1.length := ⟨_, rfl⟩
  obtain ⟨k2, hk2⟩ : ∃ k, k = q.2.length := ⟨_, rfl⟩
  obtain ⟨k3, hk3⟩ : ∃ z, z = k.1.length := ⟨_, rfl⟩
  obtain ⟨k4, hk4⟩ : ∃ z, z = k.2.length := ⟨_, rfl⟩
  obtain ⟨k5, hk5⟩ : ∃ n0, n0 = j.1.length := ⟨_, rfl⟩
  obtain ⟨k6, hk6⟩ : ∃ n0, n0 = j.2.length := ⟨_, rfl⟩
  simp only [← hxx, ← hyy, ← hzi, ← huu, ← hk1, ← hk2, ← hk3, ← hk4, ← hk5, ← hk6] at s1 s2 s3 t0 t1 t2 t3 n1 n2 n3 hnod2 hbox hnod hw1 ⊢
  have hkeep : ∀ W, Below w1.heap.size w1 W → W.cell? ⟨w.heap.size, 0, none⟩ = some (.slice ka k1 kc) ∧ W.cell? ⟨w.heap.size, 1, none⟩ = some (.slice va k2 vc) ∧ W.cell? ⟨rb, 0, none⟩ = some (.slice rka k3 rkc) ∧ W.cell? ⟨rb, 1, none⟩ = some (.slice rva k4 rvc) ∧ W.cell? ⟨rb, 2, none⟩ = some (.pointer po) ∧ W.cell? ⟨ib, 0, none⟩ = some (.slice ika k5 ikc) ∧ W.cell? ⟨ib, 1, none⟩ = some (.slice iva k6 ivc) ∧ W.cell? ⟨ib, 2, none⟩ = some (.pointer px) ∧ W.cell? ⟨ib, 3, none⟩ = some (.pointer py) := fun W hW =>
    ⟨(hbox W hW).1, (hbox W hW).2, (hnod W hW).1, (hnod W hW).2.1, (hnod W hW).2.2.1, (hnod2 W hW).1, (hnod2 W hW).2.1, (hnod2 W hW).2.2.1, (hnod2 W hW).2.2.2.1⟩
  obtain ⟨q0, q1, q2, q3, _⟩ := hnod w1 (Below.refl _ _)
  have hq3 : ∀ n, (w1.drewN n).cell? ⟨rb, 2, none⟩ = some (.pointer po) := fun n => (hnod _ (hzz n)).2.2.1
  have hz0 : ∀ n, Below w1.heap.size w1 (w1.drewN n).drew := fun n => (hzz n).drew
  have HE := Lib.hid hev; clear hev
  have S1 := Lib.hid s1; clear s1
  have S2 := Lib.hid s2; clear s2
  have S3 := Lib.hid s3; clear s3
  have T0 := Lib.hid t0; clear t0
  have T1 := Lib.hid t1; clear t1
  have T2 := Lib.hid t2; clear t2
  have T3 := Lib.hid t3; clear t3
  have N1 := Lib.hid n1; clear n1
  have N2 := Lib.hid n2; clear n2
  have N3 := Lib.hid n3; clear n3
  have KEEP := Lib.hid hkeep; clear hkeep
  have HW := Lib.hid hw1; clear hw1
  have HB := Lib.hid hb1; clear hb1
  have HZ := Lib.hid hz0; clear hz0
  clear hxx hyy hzi huu hk1 hk2 hk3 hk4 he el e1 e3 e4 e5 e6 hk5 hk6 hd hF1 hF hr hx' hy' ni hnod2 ho hk hv hs hsz nr hg hbox hnod hzz
  go_enter Tryz.func98, Tryz.ntmps98
  go_wp2_with fail
  rw [← HW.out]
  refine S1.out.mono ?_
  rintro e w' ⟨rfl, rfl⟩
  go_wp2_with fail
  refine S2.out.mono ?_
  rintro e w' ⟨rfl, rfl⟩
  go_wp2_with fail
  refine S3.out.mono ?_
  rintro e w' ⟨rfl, rfl⟩
  go_wp2_with fail
  go_quiet (first | (go_at_call 49; with_reducible refine Calls.quiet_of_same (T0.out _)) | (go_at_call 49; with_reducible refine Calls.quiet_of_same (T1.out _)) | (go_at_call 49; with_reducible refine Calls.quiet_of_same (T2.out _)) | (go_at_call 100; with_reducible refine Calls.quiet_of_same (T3.out _)))
  go_wp2_with fail
  clear q0 q1 q2 q3 hq3
  obtain ⟨w2, hw2⟩ : ∃ w2, w2 = w1.drewN nq := ⟨_, rfl⟩
  rw [← hw2]
  have hz0 : Below w1.heap.size w1 w2.drew := by rw [hw2]; exact HZ.out nq
  clear hw2
  go_region_held3 (fun W => W.cell? ⟨w.heap.size, 0, none⟩ = some (.slice ka k1 kc) ∧ W.cell? ⟨w.heap.size, 1, none⟩ = some (.slice va k2 vc) ∧ W.cell? ⟨rb, 0, none⟩ = some (.slice rka k3 rkc) ∧ W.cell? ⟨rb, 1, none⟩ = some (.slice rva k4 rvc) ∧ W.cell? ⟨rb, 2, none⟩ = some (.pointer po) ∧ W.cell? ⟨ib, 0, none⟩ = some (.slice ika k5 ikc) ∧ W.cell? ⟨ib, 1, none⟩ = some (.slice iva k6 ivc) ∧ W.cell? ⟨ib, 2, none⟩ = some (.pointer px) ∧ W.cell? ⟨ib, 3, none⟩ = some (.pointer py)) (first | exact KEEP.out _ hz0 | exact KEEP.out _ hzA | exact KEEP.out _ hzB | exact KEEP.out _ hzC | fail) (first
    | (go_at_call 85; (with_reducible refine (N1.out _ hz0).mono ?_); rintro e wA ⟨pA, rfl, hA, hbA⟩; have hzA := below_then hz0 hbA)
    | (go_at_call 85; (with_reducible refine (N2.out _ hzA).mono ?_); rintro e wB ⟨pB, rfl, hB, hbB⟩; have hzB := below_then hzA hbB; have hA2 := hA.below hbB)
    | (go_at_call 85; (with_reducible refine (N3.out _ hzB _ _ hA2 hB).mono ?_); rintro e wC ⟨pC, rfl, hC, hbC⟩; have hzC := below_then hzB hbC)
    | fail)
  all_goals
    go_wp2_with fail
    go_ret
    exact ⟨pC, _, rfl, hC, HE.out, by simp [Tr.list], below_then HB.out hzC⟩
theorem overRight_any {F : Nat → Prop} {w : World} {l r : Tr} {pl pr : Option Addr} {q : Pr} {ka va : Option Addr} (kc vc : Nat) (hF : Fut F w) (hl : Tre F w l pl) (hr : Tre F w r pr) (hk : Byt F w ka q.1) (hv : Byt F w va q.2) (hs : l.size + r.size ≤ 4000)
    (el : l.even) (er : r.even) (b c : Nat) (h1 : ev l.size b = true) (h2 : 3 * (c + 1) < l.size + b + 2) (h3 : r.size = b + c + 1) :
    Calls Tryz.prog 97 #[.pointer pl, .agg #[.slice ka q.1.length kc, .slice va q.2.length vc], .pointer pr] w fun e w' => ∃ p t, e = .returned (.pointer p) ∧ Tre F w' t p ∧ t.even ∧ t.list = l.list ++ q :: r.list ∧ Below w.heap.size w w' := by
  cases he : ev l.size r.size with
  | true => exact overRight_even kc vc hF hl hr hk hv hs el er he
  | false =>
    rcases r with _ | ⟨i, k, o⟩
    · exact absurd h3 (by simp only [Tr.size]; omega)
    · obtain ⟨j1, j2⟩ := joined l.size b c i.size o.size h1 h2 (by simp only [Tr.size] at h3; omega) (by simpa only [Tr.size] using he) er.1
      cases hg : (ev l.size i.size && ev (l.size + i.size + 1) o.size) with
      | true => exact overRight_single kc vc hF hl hr hk hv (by simp only [Tr.size] at hs; omega) el er he hg
      | false =>
        rcases i with _ | ⟨x, j, y⟩
        · exact absurd (j1 hg) (by simp only [Tr.size]; omega)
        · exact overRight_double kc vc hF hl hr hk hv (by simp only [Tr.size] at hs; omega) el er he hg (j2 x.size y.size rfl er.2.1.1 hg)
theorem overLeft_any {F : Nat → Prop} {w : World} {l r : Tr} {pl pr : Option Addr} {q : Pr} {ka va : Option Addr} (kc vc : Nat) (hF : Fut F w) (hl : Tre F w l pl) (hr : Tre F w r pr) (hk : Byt F w ka q.1) (hv : Byt F w va q.2) (hs : l.size + r.size ≤ 4000)
    (el : l.even) (er : r.even) (b c : Nat) (h1 : ev r.size b = true) (h2 : 3 * (c + 1) < r.size + b + 2) (h3 : l.size = b + c + 1) :
    Calls Tryz.prog 98 #[.pointer pl, .agg #[.slice ka q.1.length kc, .slice va q.2.length vc], .pointer pr] w fun e w' => ∃ p t, e = .returned (.pointer p) ∧ Tre F w' t p ∧ t.even ∧ t.list = l.list ++ q :: r.list ∧ Below w.heap.size w w' := by
  cases he : ev l.size r.size with
  | true => exact overLeft_even kc vc hF hl hr hk hv hs el er he
  | false =>
    rcases l with _ | ⟨o, k, i⟩
    · exact absurd h3 (by simp only [Tr.size]; omega)
    · obtain ⟨j1, j2⟩ := joined r.size b c i.size o.size h1 h2 (by simp only [Tr.size] at h3; omega) (by rw [ev_turn, Nat.add_comm i.size]; simpa only [Tr.size] using he) (by rw [ev_turn]; exact el.1)
      cases hg : (ev r.size i.size && ev (r.size + i.size + 1) o.size) with
      | true => exact overLeft_single kc vc hF hl hr hk hv (by simp only [Tr.size] at hs; omega) er el he hg
      | false =>
        rcases i with _ | ⟨x, j, y⟩
        · exact absurd (j1 hg) (by simp only [Tr.size]; omega)
        · have d := j2 y.size x.size (by simp only [Tr.size]; omega) (by rw [ev_turn]; exact el.2.2.1) hg
          exact overLeft_double kc vc hF hl hr hk hv (by simp only [Tr.size] at hs; omega) er el he hg d
end Go.Proofs.YtmbdimonfdncpaaGreatDoor
/-
  The contract of join: two even trees, however unlike their sizes are, and a pair between them make an even one.
-/
namespace Go.Proofs.YtmbdimonfdncpaaGreatDoor
open Go.RowKit
set_option maxHeartbeats 4000000
set_option maxRecDepth 100000
/-- what join promises at trees whose sizes are below n together -/
def JoinAt (F : Nat → Prop) (n : Nat) : Prop := ∀ (w : World) (l r : Tr) (pl pr : Option Addr) (q : Pr) (ka va : Option Addr) (kc vc : Nat), Fut F w → Tre F w l pl → Tre F w r pr → Byt F w ka q.1 → Byt F w va q.2 → l.size + r.size < n → l.even → r.even →
  Calls Tryz.prog 94 #[.pointer pl, .agg #[.slice ka q.1.length kc, .slice va q.2.length vc], .pointer pr] w fun e w' => ∃ p t, e = .returned (.pointer p) ∧ Tre F w' t p ∧ t.even ∧ t.list = l.list ++ q :: r.list ∧ Below w.heap.size w w'
theorem join_even {F : Nat → Prop} {w : World} {l r : Tr} {pl pr : Option Addr} {q : Pr} {ka va : Option Addr} (kc vc : Nat) (hF : Fut F w) (hl : Tre F w l pl) (hr : Tre F w r pr) (hk : Byt F w ka q.1) (hv : Byt F w va q.2) (hs : l.size + r.size ≤ 3000)
    (el : l.even) (er : r.even) (he : ev l.size r.size = true) :
    Calls Tryz.prog 94 #[.pointer pl, .agg #[.slice ka q.1.length kc, .slice va q.2.length vc], .pointer pr] w fun e w' => ∃ p t, e = .returned (.pointer p) ∧ Tre F w' t p ∧ t.even ∧ t.list = l.list ++ q :: r.list ∧ Below w.heap.size w w' := by
  obtain ⟨w1, hw1, hb1, hsz, hbox⟩ := box_new w ka va q.1.length kc q.2.length vc
  have hF1 : Fut F w1 := hF.later (by omega)
  have s1 := size_any (hl.below hb1) (by omega)
  have s2 := size_any (hr.below hb1) (by omega)
  have s3 := even_any l.size r.size w1 (by omega) (by omega)
  rw [he] at s3
  have nd := node_any kc vc hF1 (hl.below hb1) (hr.below hb1) (hk.below hb1) (hv.below hb1) (by omega)
  obtain ⟨xx, hxx⟩ : ∃ n0, n0 = l.size := ⟨_, rfl⟩
  obtain ⟨yy, hyy⟩ : ∃ n0, n0 = r.size := ⟨_, rfl⟩
  have b0 := hbox w1 (Below.refl _ _)
  obtain ⟨k1, hk1⟩ : ∃ k, k = q.1.length := ⟨_, rfl⟩
  obtain ⟨k2, hk2⟩ : ∃ k, k = q.2.length := ⟨_, rfl⟩
  simp only [← hxx, ← hyy, ← hk1, ← hk2] at s1 s2 s3 nd b0 hw1 ⊢
  obtain ⟨b0, b1⟩ := b0
  have HE := Lib.hid (show (Tr.node l q r).even from ⟨he, el, er⟩)
  have S1 := Lib.hid s1; clear s1
  have S2 := Lib.hid s2; clear s2
  have S3 := Lib.hid s3; clear s3
  have ND := Lib.hid nd; clear nd
  have HW := Lib.hid hw1; clear hw1
  have HB := Lib.hid hb1; clear hb1
  clear hbox hxx hyy hk1 hk2 he el er hF1 hF hl hr hk hv hs hsz
  go_enter Tryz.func94, Tryz.ntmps94
  go_wp2_with fail
  rw [← HW.out]
  refine S1.out.mono ?_
  rintro e w' ⟨rfl, rfl⟩
  go_wp2_with fail
  refine S2.out.mono ?_
  rintro e w' ⟨rfl, rfl⟩
  go_wp2_with fail
  refine S3.out.mono ?_
  rintro e w' ⟨rfl, rfl⟩
  go_wp2_with fail
  refine ND.out.mono ?_
  rintro e w' ⟨p, rfl, ht, hb⟩
  have HT := Lib.hid ht; clear ht
  have HB2 := Lib.hid hb; clear hb
  go_wp2_with fail
  go_ret
  exact ⟨p, _, rfl, HT.out, HE.out, rfl, below_then HB.out HB2.out⟩
theorem join_right {F : Nat → Prop} {n : Nat} {w : World} {a b r : Tr} {k : Pr} {pl pr : Option Addr} {q : Pr} {ka va : Option Addr} (kc vc : Nat) (hF : Fut F w) (hl : Tre F w (.node a k b) pl) (hr : Tre F w r pr) (hk : Byt F w ka q.1) (hv : Byt F w va q.2) (hs : (Tr.node a k b).size + r.size ≤ 3000)
    (el : (Tr.node a k b).even) (er : r.even) (he : ev (Tr.node a k b).size r.size = false) (hgt : r.size < (Tr.node a k b).size) (ih : JoinAt F n) (hn : b.size + r.size < n) :
    Calls Tryz.prog 94 #[.pointer pl, .agg #[.slice ka q.1.length kc, .slice va q.2.length vc], .pointer pr] w fun e w' => ∃ p t, e = .returned (.pointer p) ∧ Tre F w' t p ∧ t.even ∧ t.list = (Tr.node a k b).list ++ q :: r.list ∧ Below w.heap.size w w' := by
  obtain ⟨w1, hw1, hb1, hsz, hbox⟩ := box_new w ka va q.1.length kc q.2.length vc
  have hF1 : Fut F w1 := hF.later (by omega)
  have s1 := size_any (hl.below hb1) (by omega)
  have s2 := size_any (hr.below hb1) (by omega)
  have s3 := even_any (Tr.node a k b).size r.size w1 (by omega) (by omega)
  rw [he] at s3
  obtain ⟨rb, rka, rkc, rva, rvc, pa, pb, rfl, nr, ha, hb⟩ := hl
  obtain ⟨e1, e2, e3⟩ := el
  have hsz2 : a.size + b.size + r.size + 1 ≤ 3000 := by simp only [Tr.size] at hs; omega
  have n1 := fun W (hW : Below w1.heap.size w1 W) => ih W b r pb pr q ka va kc vc (hF1.later hW.size) ((hb.below hb1).below hW) ((hr.below hb1).below hW) ((hk.below hb1).below hW) ((hv.below hb1).below hW) hn e3 er
  have n2 := fun W (hW : Below w1.heap.size w1 W) pA t (hA : Tre F W t pA) (hev : t.even) (hli : t.list = b.list ++ q :: r.list) => overRight_any rkc rvc (hF1.later hW.size) ((ha.below hb1).below hW) hA ((nr.2.2.1.below hb1).below hW) ((nr.2.2.2.below hb1).below hW)
    (by rw [← Tr.length t, hli]; simp [Tr.length]; omega) e2 hev b.size r.size e1 (by rw [ev_false] at he; simp only [Tr.size] at he hgt; omega) (by rw [← Tr.length t, hli]; simp [Tr.length]; omega)
  have hnod := fun W (hW : Below w1.heap.size w1 W) => ((nr.below hb1).below hW).cells
  have hd : r.size < (Tr.node a k b).size := by omega
  obtain ⟨xx, hxx⟩ : ∃ n0, n0 = (Tr.node a k b).size := ⟨_, rfl⟩
  obtain ⟨yy, hyy⟩ : ∃ n0, n0 = r.size := ⟨_, rfl⟩
  obtain ⟨k1, hk1⟩ : ∃ k, k = q.1.length := ⟨_, rfl⟩
  obtain ⟨k2, hk2⟩ : ∃ k, k = q.2.length := ⟨_, rfl⟩
  obtain ⟨k3, hk3⟩ : ∃ z, z = k.1.length := ⟨_, rfl⟩
  obtain ⟨k4, hk4⟩ : ∃ z, z = k.2.length := ⟨_, rfl⟩
  simp only [← hxx, ← hyy, ← hk1, ← hk2, ← hk3, ← hk4] at s1 s2 s3 n1 n2 hbox hnod hw1 hd ⊢
  have hkeep : ∀ W, Below w1.heap.size w1 W → W.cell? ⟨w.heap.size, 0, none⟩ = some (.slice ka k1 kc) ∧ W.cell? ⟨w.heap.size, 1, none⟩ = some (.slice va k2 vc) ∧ W.cell? ⟨rb, 0, none⟩ = some (.slice rka k3 rkc) ∧ W.cell? ⟨rb, 1, none⟩ = some (.slice rva k4 rvc) ∧ W.cell? ⟨rb, 2, none⟩ = some (.pointer pa) ∧ W.cell? ⟨rb, 3, none⟩ = some (.pointer pb) := fun W hW =>
    ⟨(hbox W hW).1, (hbox W hW).2, (hnod W hW).1, (hnod W hW).2.1, (hnod W hW).2.2.1, (hnod W hW).2.2.2.1⟩
  have hz0 : Below w1.heap.size w1 w1.drew := (Below.refl _ _).drew
  have S1 := Lib.hid s1; clear s1
  have S2 := Lib.hid s2; clear s2
  have S3 := Lib.hid s3; clear s3
  have N1 := Lib.hid n1; clear n1
  have N2 := Lib.hid n2; clear n2
  have KEEP := Lib.hid hkeep; clear hkeep
  have HW := Lib.hid hw1; clear hw1
  have HB := Lib.hid hb1; clear hb1
  clear hxx hyy hk1 hk2 hk3 hk4 he er e1 e2 e3 hF1 hF hr ha hb hk hv hs hsz nr hbox hnod hgt ih hn hsz2
  go_enter Tryz.func94, Tryz.ntmps94
  go_wp2_with fail
  rw [← HW.out]
  refine S1.out.mono ?_
  rintro e w' ⟨rfl, rfl⟩
  go_wp2_with fail
  refine S2.out.mono ?_
  rintro e w' ⟨rfl, rfl⟩
  go_wp2_with fail
  refine S3.out.mono ?_
  rintro e w' ⟨rfl, rfl⟩
  go_wp2_with fail
  refine S1.out.mono ?_
  rintro e w' ⟨rfl, rfl⟩
  go_wp2_with fail
  refine S2.out.mono ?_
  rintro e w' ⟨rfl, rfl⟩
  go_wp2_with fail
  go_region_held3 (fun W => W.cell? ⟨w.heap.size, 0, none⟩ = some (.slice ka k1 kc) ∧ W.cell? ⟨w.heap.size, 1, none⟩ = some (.slice va k2 vc) ∧ W.cell? ⟨rb, 0, none⟩ = some (.slice rka k3 rkc) ∧ W.cell? ⟨rb, 1, none⟩ = some (.slice rva k4 rvc) ∧ W.cell? ⟨rb, 2, none⟩ = some (.pointer pa) ∧ W.cell? ⟨rb, 3, none⟩ = some (.pointer pb)) (first | exact KEEP.out _ hz0 | exact KEEP.out _ hzA | exact KEEP.out _ hzB | fail) (first
    | (go_at_call 94; (with_reducible refine (N1.out _ hz0).mono ?_); rintro e wA ⟨pA, t, rfl, hA, hev, hli, hbA⟩; have hzA := below_then hz0 hbA)
    | (go_at_call 97; (with_reducible refine (N2.out _ hzA _ _ hA hev hli).mono ?_); rintro e wB ⟨pB, t2, rfl, hB, hev2, hli2, hbB⟩; have hzB := below_then hzA hbB)
    | fail)
  all_goals
    go_wp2_with fail
    go_ret
    exact ⟨pB, t2, rfl, hB, hev2, by rw [hli2, hli]; simp [Tr.list], below_then HB.out hzB⟩
theorem join_left {F : Nat → Prop} {n : Nat} {w : World} {l a b : Tr} {k : Pr} {pl pr : Option Addr} {q : Pr} {ka va : Option Addr} (kc vc : Nat) (hF : Fut F w) (hl : Tre F w l pl) (hr : Tre F w (.node a k b) pr) (hk : Byt F w ka q.1) (hv : Byt F w va q.2) (hs : l.size + (Tr.node a k b).size ≤ 3000)
    (el : l.even) (er : (Tr.node a k b).even) (he : ev l.size (Tr.node a k b).size = false) (hgt : ¬ (Tr.node a k b).size < l.size) (ih : JoinAt F n) (hn : l.size + a.size < n) :
    Calls Tryz.prog 94 #[.pointer pl, .agg #[.slice ka q.1.length kc, .slice va q.2.length vc], .pointer pr] w fun e w' => ∃ p t, e = .returned (.pointer p) ∧ Tre F w' t p ∧ t.even ∧ t.list = l.list ++ q :: (Tr.node a k b).list ∧ Below w.heap.size w w' := by
  obtain ⟨w1, hw1, hb1, hsz, hbox⟩ := box_new w ka va q.1.length kc q.2.length vc
  have hF1 : Fut F w1 := hF.later (by omega)
  have s1 := size_any (hl.below hb1) (by omega)
  have s2 := size_any (hr.below hb1) (by omega)
  have s3 := even_any l.size (Tr.node a k b).size w1 (by omega) (by omega)
  rw [he] at s3
  obtain ⟨rb, rka, rkc, rva, rvc, pa, pb, rfl, nr, ha, hb⟩ := hr
  obtain ⟨e1, e2, e3⟩ := er
  have hsz2 : a.size + b.size + l.size + 1 ≤ 3000 := by simp only [Tr.size] at hs; omega
  have n1 := fun W (hW : Below w1.heap.size w1 W) => ih W l a pl pa q ka va kc vc (hF1.later hW.size) ((hl.below hb1).below hW) ((ha.below hb1).below hW) ((hk.below hb1).below hW) ((hv.below hb1).below hW) hn el e2
  have n2 := fun W (hW : Below w1.heap.size w1 W) pA t (hA : Tre F W t pA) (hev : t.even) (hli : t.list = l.list ++ q :: a.list) => overLeft_any rkc rvc (hF1.later hW.size) hA ((hb.below hb1).below hW) ((nr.2.2.1.below hb1).below hW) ((nr.2.2.2.below hb1).below hW)
    (by rw [← Tr.length t, hli]; simp [Tr.length]; omega) hev e3 a.size l.size (by rw [ev_turn]; exact e1) (by rw [ev_false] at he; simp only [Tr.size] at he hgt; omega) (by rw [← Tr.length t, hli]; simp [Tr.length]; omega)
  have hnod := fun W (hW : Below w1.heap.size w1 W) => ((nr.below hb1).below hW).cells
  have hd : l.size ≤ (Tr.node a k b).size := by omega
  obtain ⟨xx, hxx⟩ : ∃ n0, n0 = l.size := ⟨_, rfl⟩
  obtain ⟨yy, hyy⟩ : ∃ n0, n0 = (Tr.node a k b).size := ⟨_, rfl⟩
  obtain ⟨k1, hk1⟩ : ∃ k, k = q.1.length := ⟨_, rfl⟩
  obtain ⟨k2, hk2⟩ : ∃ k, k = q.2.length := ⟨_, rfl⟩
  obtain ⟨k3, hk3⟩ : ∃ z, z = k.1.length := ⟨_, rfl⟩
  obtain ⟨k4, hk4⟩ : ∃ z, z = k.2.length := ⟨_, rfl⟩
  simp only [← hxx, ← hyy, ← hk1, ← hk2, ← hk3, ← hk4] at s1 s2 s3 n1 n2 hbox hnod hw1 hd ⊢
  have hkeep : ∀ W, Below w1.heap.size w1 W → W.cell? ⟨w.heap.size, 0, none⟩ = some (.slice ka k1 kc) ∧ W.cell? ⟨w.heap.size, 1, none⟩ = some (.slice va k2 vc) ∧ W.cell? ⟨rb, 0, none⟩ = some (.slice rka k3 rkc) ∧ W.cell? ⟨rb, 1, none⟩ = some (.slice rva k4 rvc) ∧ W.cell? ⟨rb, 2, none⟩ = some (.pointer pa) ∧ W.cell? ⟨rb, 3, none⟩ = some (.pointer pb) := fun W hW =>
    ⟨(hbox W hW).1, (hbox W hW).2, (hnod W hW).1, (hnod W hW).2.1, (hnod W hW).2.2.1, (hnod W hW).2.2.2.1⟩
  have hz0 : Below w1.heap.size w1 w1.drew := (Below.refl _ _).drew
  have S1 := Lib.hid s1; clear s1
  have S2 := Lib.hid s2; clear s2
  have S3 := Lib.hid s3; clear s3
  have N1 := Lib.hid n1; clear n1
  have N2 := Lib.hid n2; clear n2
  have KEEP := Lib.hid hkeep; clear hkeep
  have HW := Lib.hid hw1; clear hw1
  have HB := Lib.hid hb1; clear hb1
  clear hxx hyy hk1 hk2 hk3 hk4 he el e1 e2 e3 hF1 hF hl ha hb hk hv hs hsz nr hbox hnod hgt ih hn hsz2
  go_enter Tryz.func94, Tryz.ntmps94
  go_wp2_with fail
  rw [← HW.out]
  refine S1.out.mono ?_
  rintro e w' ⟨rfl, rfl⟩
  go_wp2_with fail
  refine S2.out.mono ?_
  rintro e w' ⟨rfl, rfl⟩
  go_wp2_with fail
  refine S3.out.mono ?_
  rintro e w' ⟨rfl, rfl⟩
  go_wp2_with fail
  refine S1.out.mono ?_
  rintro e w' ⟨rfl, rfl⟩
  go_wp2_with fail
  refine S2.out.mono ?_
  rintro e w' ⟨rfl, rfl⟩
  go_wp2_with fail
  go_region_held3 (fun W => W.cell? ⟨w.heap.size, 0, none⟩ = some (.slice ka k1 kc) ∧ W.cell? ⟨w.heap.size, 1, none⟩ = some (.slice va k2 vc) ∧ W.cell? ⟨rb, 0, none⟩ = some (.slice rka k3 rkc) ∧ W.cell? ⟨rb, 1, none⟩ = some (.slice rva k4 rvc) ∧ W.cell? ⟨rb, 2, none⟩ = some (.pointer pa) ∧ W.cell? ⟨rb, 3, none⟩ = some (.pointer pb)) (first | exact KEEP.out _ hz0 | exact KEEP.out _ hzA | exact KEEP.out _ hzB | fail) (first
    | (go_at_call 94; (with_reducible refine (N1.out _ hz0).mono ?_); rintro e wA ⟨pA, t, rfl, hA, hev, hli, hbA⟩; have hzA := below_then hz0 hbA)
    | (go_at_call 98; (with_reducible refine (N2.out _ hzA _ _ hA hev hli).mono ?_); rintro e wB ⟨pB, t2, rfl, hB, hev2, hli2, hbB⟩; have hzB := below_then hzA hbB)
    | fail)
  all_goals
    go_wp2_with fail
    go_ret
    exact ⟨pB, t2, rfl, hB, hev2, by rw [hli2, hli]; simp [Tr.list], below_then HB.out hzB⟩
theorem joinAt (F : Nat → Prop) : ∀ n, n ≤ 3000 → JoinAt F n
  | 0, _ => fun w l r pl pr q ka va kc vc hF hl hr hk hv hn el er => by omega
  | n + 1, h => fun w l r pl pr q ka va kc vc hF hl hr hk hv hn el er => by
    have ih := joinAt F n (by omega)
    cases he : ev l.size r.size with
    | true => exact join_even kc vc hF hl hr hk hv (by omega) el er he
    | false =>
      by_cases hgt : r.size < l.size
      · rcases l with _ | ⟨a, k, b⟩
        · exact absurd hgt (by simp only [Tr.size]; omega)
        · exact join_right kc vc hF hl hr hk hv (by omega) el er he hgt ih (by simp only [Tr.size] at hn; omega)
      · rcases r with _ | ⟨a, k, b⟩
        · exfalso
          rw [ev_false] at he
          simp only [Tr.size] at he hgt
          omega
        · exact join_left kc vc hF hl hr hk hv (by omega) el er he hgt ih (by simp only [Tr.size] at hn; omega)
theorem join_any {F : Nat → Prop} {w : World} {l r : Tr} {pl pr : Option Addr} {q : Pr} {ka va : Option Addr} (kc vc : Nat) (hF : Fut F w) (hl : Tre F w l pl) (hr : Tre F w r pr) (hk : Byt F w ka q.1) (hv : Byt F w va q.2) (hs : l.size + r.size < 3000) (el : l.even) (er : r.even) :
    Calls Tryz.prog 94 #[.pointer pl, .agg #[.slice ka q.1.length kc, .slice va q.2.length vc], .pointer pr] w fun e w' => ∃ p t, e = .returned (.pointer p) ∧ Tre F w' t p ∧ t.even ∧ t.list = l.list ++ q :: r.list ∧ Below w.heap.size w w' :=
  joinAt F 3000 (Nat.le_refl _) w l r pl pr q ka va kc vc hF hl hr hk hv hs el er
end Go.Proofs.YtmbdimonfdncpaaGreatDoor
