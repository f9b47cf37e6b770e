/-
  The contract of Sound: an even tree of sorted pairs is.
-/
import Derived.Test.YtmbdimonfdncpaaDoorGather
import Derived.Test.YtmbdimonfdncpaaDoorWeight
import Derived.Test.YtmbdimonfdncpaaDoorPlain
namespace Go.Proofs.YtmbdimonfdncpaaDoor
open Go.RowKit
set_option maxHeartbeats 4000000
set_option maxRecDepth 100000
theorem turned_same {N : Nat} {args : Array Value} {w : World} {v : Value} (h : Calls Tryd.prog N args w fun e w' => e = .returned v ∧ w = w') : Calls Tryd.prog N args w fun e w' => e = .returned v ∧ w' = w := h.mono fun _ _ h => ⟨h.1, h.2.symm⟩
/-- the node ahead, as Sound's variable at block g has it: its key -/
def Ahead (B g : Nat) (w : World) (k : Option (List UInt8)) : Prop := B ≤ g ∧ ∃ pa, w.heap[g]? = some (.cells #[.pointer pa] 63 (0, 0)) ∧
  ((k = none ∧ pa = none) ∨ ∃ ba ka kc k', k = some k' ∧ pa = some ⟨ba, 0, none⟩ ∧ ba < B ∧ w.cell? ⟨ba, 0, none⟩ = some (.slice ka k'.length kc) ∧ Byt (fun b => b < B) w ka k')
theorem sound1_any {B g b kc vc : Nat} {w : World} {ka va pl pr : Option Addr} {q : Pr} {l r : Tr} {k : Option (List UInt8)} (nd : Nod (fun b => b < B) w b ka kc va vc q pl pr (l.size + r.size)) (hl : Tre (fun b => b < B) w l pl) (hr : Tre (fun b => b < B) w r pr) (hk : Ahead B g w k) (hlt : ∀ k', k = some k' → cmp k' q.1 < 0) (he : ev l.size r.size = true) (hs : l.size + r.size ≤ 5000) (hB : B ≤ w.heap.size) :
    Calls Tryd.prog 34 #[.pointer (some ⟨b, 0, none⟩), .pointer (some ⟨g, 0, none⟩)] w fun e w' => e = .returned (.bool true) ∧ Ahead B g w' (some q.1) ∧ Below B w w' := by
  obtain ⟨hBg, pa, hrow, hk⟩ := hk
  have hbB : b < B := nd.1
  have cg : w.cell? ⟨g, 0, none⟩ = some (.pointer pa) := by rw [cell_of_row w g 0 _ 63 (0, 0) hrow]; rfl
  have fg : w.frozen? ⟨g, 0, none⟩ = false := by simp [World.frozen?, hrow]
  have hz : ∀ n, Below w.heap.size w (w.drewN n) := fun n => below_drewN (Below.refl _ _) n
  obtain ⟨c0, c1, c2, c3, _⟩ := nd.cells
  -- behind the store
  have hpost : ∀ n w2, w2 = (w.drewN n).setCell ⟨g, 0, none⟩ (.pointer (some ⟨b, 0, none⟩)) → Below B w w2 ∧ Ahead B g w2 (some q.1) ∧ Nod (fun b => b < B) w2 b ka kc va vc q pl pr (l.size + r.size) ∧ Tre (fun b => b < B) w2 l pl ∧ Tre (fun b => b < B) w2 r pr := by
    intro n w2 h2
    have hb2 : Below B w w2 := by rw [h2]; exact ((hz n).mono hB).setCell (p := ⟨g, 0, none⟩) hBg _
    have n2 := nd.kept (kept_of hb2)
    have r2 : w2.heap[g]? = some (.cells #[.pointer (some ⟨b, 0, none⟩)] 63 (0, 0)) := by
      rw [h2, heap_setCell_same (w.drewN n) g 0 _ 63 _ (((hz n).block g (Array.getElem?_eq_some_iff.1 hrow).1).trans hrow)]
      rfl
    exact ⟨hb2, ⟨hBg, _, r2, .inr ⟨b, ka, kc, q.1, rfl, rfl, hbB, n2.cells.1, n2.2.2.1⟩⟩, n2, hl.kept (kept_of hb2), hr.kept (kept_of hb2)⟩
  have HP := Lib.hid hpost; clear hpost
  have tail : ∀ w2, Below B w w2 ∧ Ahead B g w2 (some q.1) ∧ Nod (fun b => b < B) w2 b ka kc va vc q pl pr (l.size + r.size) ∧ Tre (fun b => b < B) w2 l pl ∧ Tre (fun b => b < B) w2 r pr →
      (∀ n, Below w2.heap.size w2 (w2.drewN n)) ∧ (∀ n, Calls Tryd.prog 37 #[.pointer pl] (w2.drewN n) fun e w' => e = .returned (.int .i64 (l.size : Int)) ∧ w' = w2.drewN n) ∧ (∀ n, Calls Tryd.prog 37 #[.pointer pr] (w2.drewN n) fun e w' => e = .returned (.int .i64 (r.size : Int)) ∧ w' = w2.drewN n) ∧ w2.cell? ⟨b, 2, none⟩ = some (.pointer pl) ∧ w2.cell? ⟨b, 3, none⟩ = some (.pointer pr) ∧ (∀ n, Ahead B g (w2.drewN n) (some q.1) ∧ Below B w (w2.drewN n)) := by
    rintro w2 ⟨h1, h2, h3, h4, h5⟩
    have hz2 : ∀ n, Below w2.heap.size w2 (w2.drewN n) := fun n => below_drewN (Below.refl _ _) n
    refine ⟨hz2, fun n => turned_same (size_any (h4.below (hz2 n)) (by omega)), fun n => turned_same (size_any (h5.below (hz2 n)) (by omega)), h3.cells.2.2.1, h3.cells.2.2.2.1, fun n => ⟨?_, h1.trans ((hz2 n).mono (Nat.le_trans hB h1.size))⟩⟩
    obtain ⟨a1, pa2, a2, a3⟩ := h2
    refine ⟨a1, pa2, ((hz2 n).block g (Array.getElem?_eq_some_iff.1 a2).1).trans a2, ?_⟩
    rcases a3 with ⟨e, _⟩ | ⟨ba, ka', kc', k', e1, e2, e3, e4, e5⟩
    · cases e
    · exact .inr ⟨ba, ka', kc', k', e1, e2, e3, ((hz2 n).cell (p := ⟨ba, 0, none⟩) (Nat.lt_of_lt_of_le e3 (Nat.le_trans hB h1.size))).trans e4, e5.below (hz2 n)⟩
  have hev := fun w2 => turned_same (even_any l.size r.size w2 (by omega) (by omega))
  rw [he] at hev
  obtain ⟨x, hx⟩ : ∃ x, x = l.size := ⟨_, rfl⟩
  obtain ⟨y, hy⟩ : ∃ y, y = r.size := ⟨_, rfl⟩
  simp only [← hx, ← hy] at tail hev HP
  have HT := Lib.hid tail; clear tail
  have HE := Lib.hid hev; clear hev
  rcases hk with ⟨rfl, rfl⟩ | ⟨ba, ja, jc, k', rfl, rfl, hba, ca, hja⟩
  · clear hx hy hrow hl hr hs hB hBg hlt he hz nd
    go_enter Tryd.func34, Tryd.ntmps34
    go_wp2_with fail
    go_quiet (fail)
    go_wp2_with fail
    obtain ⟨w2, hw2⟩ : ∃ w2, w2 = (w.drewN nq).setCell ⟨g, 0, none⟩ (.pointer (some ⟨b, 0, none⟩)) := ⟨_, rfl⟩
    rw [← hw2]
    obtain ⟨t1, t2, t3, t4, t5, t6⟩ := HT.out w2 (HP.out nq w2 hw2)
    have T2 := Lib.hid t2; clear t2
    have T3 := Lib.hid t3; clear t3
    have T6 := Lib.hid t6; clear t6
    clear hw2 c0 c1 c2 c3 cg fg t1
    go_quiet (first | (go_at_call 37; with_reducible refine Calls.quiet_of_same (T2.out _)) | (go_at_call 37; with_reducible refine Calls.quiet_of_same (T3.out _)) | (go_at_call 36; with_reducible refine Calls.quiet_of_same (HE.out _)) | fail)
    go_wp2_with fail
    go_ret
    exact ⟨rfl, T6.out _⟩
  · have hcm := fun n => turned_same (compare_any (hja.below (hz n)).bts (nd.below (hz n)).2.2.1.bts jc kc)
    obtain ⟨z, hz1⟩ : ∃ z, z = cmp k' q.1 := ⟨_, rfl⟩
    have hz0 : z < 0 := by rw [hz1]; exact hlt k' rfl
    obtain ⟨y1, hy1⟩ : ∃ k, k = q.1.length := ⟨_, rfl⟩
    obtain ⟨y2, hy2⟩ : ∃ k, k = k'.length := ⟨_, rfl⟩
    rw [← hy1] at c0
    rw [← hy2] at ca
    simp only [← hz1, ← hy1, ← hy2] at hcm
    have d0 : decide (z < 0) = true := decide_eq_true hz0
    have HC := Lib.hid hcm; clear hcm
    clear hx hy hrow hl hr hs hB hBg hlt he hz nd hz1 hja hba hy1 hy2
    go_enter Tryd.func34, Tryd.ntmps34
    go_wp2_with fail
    go_quiet (first | (go_at_call 35; with_reducible refine Calls.quiet_of_same (HC.out _)) | fail)
    go_wp2_with fail
    obtain ⟨w2, hw2⟩ : ∃ w2, w2 = (w.drewN nq).setCell ⟨g, 0, none⟩ (.pointer (some ⟨b, 0, none⟩)) := ⟨_, rfl⟩
    rw [← hw2]
    obtain ⟨t1, t2, t3, t4, t5, t6⟩ := HT.out w2 (HP.out nq w2 hw2)
    have T2 := Lib.hid t2; clear t2
    have T3 := Lib.hid t3; clear t3
    have T6 := Lib.hid t6; clear t6
    clear hw2 c0 c1 c2 c3 cg fg t1 ca
    go_quiet (first | (go_at_call 37; with_reducible refine Calls.quiet_of_same (T2.out _)) | (go_at_call 37; with_reducible refine Calls.quiet_of_same (T3.out _)) | (go_at_call 36; with_reducible refine Calls.quiet_of_same (HE.out _)) | fail)
    go_wp2_with fail
    go_ret
    exact ⟨rfl, T6.out _⟩
/-- the last key behind a tree -/
def lastOf (k : Option (List UInt8)) (L : List Pr) : Option (List UInt8) := (L.getLast?.map (·.1)).or k
theorem lastOf_nil (k : Option (List UInt8)) : lastOf k [] = k := by simp [lastOf]
theorem lastOf_mid (k : Option (List UInt8)) (l r : List Pr) (q : Pr) : lastOf k (l ++ q :: r) = lastOf (some q.1) r := by
  unfold lastOf
  rw [List.getLast?_append, List.getLast?_cons]
  cases r.getLast? <;> simp
theorem lastOf_lt {k : Option (List UInt8)} {l : List Pr} {x : List UInt8} (h1 : ∀ k', k = some k' → cmp k' x < 0) (h2 : ∀ a ∈ l, cmp a.1 x < 0) : ∀ k', lastOf k l = some k' → cmp k' x < 0 := by
  intro k' h
  unfold lastOf at h
  cases hl : l.getLast? with
  | none => rw [hl] at h; exact h1 k' (by simpa using h)
  | some a =>
    rw [hl] at h
    have : a.1 = k' := by simpa using h
    rw [← this]
    exact h2 a (List.mem_of_getLast? hl)
theorem each_sound {B g : Nat} : ∀ (t : Tr) (p : Option Addr) (w : World) (k : Option (List UInt8)), Tre (fun b => b < B) w t p → Ahead B g w k → t.even → srt t.list → (∀ k', k = some k' → ∀ x ∈ t.list, cmp k' x.1 < 0) → t.size ≤ 5000 → B ≤ w.heap.size →
    Calls Tryd.prog 33 #[.pointer p, .func (.func 34) #[] #[.pointer (some ⟨g, 0, none⟩)]] w fun e w' => e = .returned (.bool true) ∧ Ahead B g w' (lastOf k t.list) ∧ Below B w w'
  | .nil, p, w, k, ht, hk, _, _, _, _, _ => by
    obtain rfl : p = none := ht
    have HK := Lib.hid hk; clear hk
    go_enter Tryd.func33, Tryd.ntmps33
    go_wp2
    go_ret
    exact ⟨rfl, by rw [show Tr.nil.list = [] from rfl, lastOf_nil]; exact HK.out, Below.refl _ _⟩
  | .node l q r, p, w, k, ht, hk, he, hsr, hlt, hn, hB => by
    have hsr' : srt (l.list ++ q :: r.list) := hsr
    obtain ⟨p1, p2, p3, p4, _⟩ := srt_parts hsr'
    have hlt' : ∀ k', k = some k' → ∀ x ∈ l.list ++ q :: r.list, cmp k' x.1 < 0 := hlt
    obtain ⟨b, ka, kc, va, vc, pl, pr, rfl, nd, hl, hr⟩ := ht
    have hsz : l.size + r.size + 1 ≤ 5000 := by simpa only [Tr.size] using hn
    have i1 := each_sound l pl w k hl hk he.2.1 p1 (fun k' e x hx => hlt' k' e x (by simp [hx])) (by omega) hB
    have i2 := fun w1 (h1 : Ahead B g w1 (lastOf k l.list)) (hb : Below B w w1) => sound1_any (nd.kept (kept_of hb)) (hl.kept (kept_of hb)) (hr.kept (kept_of hb)) h1 (lastOf_lt (fun k' e => hlt' k' e q (by simp)) p3) he.1 (by omega) (Nat.le_trans hB hb.size)
    have i3 := fun w1 (h1 : Ahead B g w1 (some q.1)) (hb : Below B w w1) => each_sound r pr w1 (some q.1) (hr.kept (kept_of hb)) h1 he.2.2 p2 (fun k' e x hx => by injection e with e; subst e; exact p4 x hx) (by omega) (Nat.le_trans hB hb.size)
    have hc := fun w1 (hb : Below B w w1) => (nd.kept (kept_of hb)).cells.2.2.2.1
    obtain ⟨_, _, c2, c3, _⟩ := nd.cells
    have eg : ∀ args w, (callFunc 34 args).run Tryd.prog w = .ok (.enter 34 args) w := enters_of Tryd.func34 (by kernel_rfl) rfl
    have I1 := Lib.hid i1; clear i1
    have I2 := Lib.hid i2; clear i2
    have I3 := Lib.hid i3; clear i3
    have HC := Lib.hid hc; clear hc
    clear nd hl hr hn hsz hk hB he hsr hsr' p1 p2 p3 p4 hlt hlt'
    go_enter Tryd.func33, Tryd.ntmps33
    go_wp2_with fail
    refine I1.out.mono ?_
    rintro e w1 ⟨rfl, h1, hb1⟩
    have J2 := Lib.hid (I2.out w1 h1 hb1)
    have HB1 := Lib.hid hb1; clear hb1
    clear h1 I1 I2 c2 c3
    go_wp2_with fail
    refine J2.out.mono ?_
    rintro e w2 ⟨rfl, h2, hb2⟩
    have hb := HB1.out.trans hb2
    have J3 := Lib.hid (I3.out w2 h2 hb)
    have c3 := HC.out w2 hb
    have HB2 := Lib.hid hb; clear hb
    clear h2 hb2 I3 J2 HC HB1
    go_wp2_with fail
    refine J3.out.mono ?_
    rintro e w3 ⟨rfl, h3, hb3⟩
    have H3 := Lib.hid h3; clear h3
    have HB3 := Lib.hid hb3; clear hb3
    go_wp2_with fail
    go_ret
    exact ⟨rfl, by rw [show (Tr.node l q r).list = l.list ++ q :: r.list from rfl, lastOf_mid]; exact H3.out, HB2.out.trans HB3.out⟩
theorem sound_any {F : Nat → Prop} {w : World} {t : Tr} {p : Option Addr} (ht : Tre F w t p) (hn : t.size ≤ 5000) (he : t.even) (hs : srt t.list) :
    Calls Tryd.prog 21 #[.pointer p] w fun e w' => e = .returned (.bool true) ∧ Below w.heap.size w w' := by
  obtain ⟨w1, hw1⟩ : ∃ w1, w1 = w.alloc (.cells #[.pointer none] 63) := ⟨_, rfl⟩
  have hb1 : Below w.heap.size w w1 := by rw [hw1]; exact (Below.refl _ _).alloc (Nat.le_refl _) _
  have hk : Ahead w.heap.size w.heap.size w1 none := ⟨Nat.le_refl _, none, by rw [hw1]; exact heap_alloc_new w _, .inl ⟨rfl, rfl⟩⟩
  have h := each_sound t p w1 none ((ht.mono (G := fun b => b < w.heap.size) (fun _ h _ => h)).below hb1) hk he hs (fun k' e => by cases e) hn hb1.size
  have H := Lib.hid h; clear h
  have HW := Lib.hid hw1; clear hw1
  have HB := Lib.hid hb1; clear hb1
  clear ht hn he hs hk
  go_enter Tryd.func21, Tryd.ntmps21
  go_wp2_with fail
  rw [← HW.out]
  refine H.out.mono ?_
  rintro e w2 ⟨rfl, _, hb2⟩
  have HB2 := Lib.hid hb2; clear hb2
  go_wp2_with fail
  go_ret
  exact ⟨rfl, HB.out.trans HB2.out⟩
end Go.Proofs.YtmbdimonfdncpaaDoor
