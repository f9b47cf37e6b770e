/-
  Contract of the reference's Seed; of the statements' awake.
-/
import Derived.Test.YtialpajnjbchgaaSeed
namespace Go.Proofs.Ytialpajnjbchgaa
open Go.RowKit
set_option maxHeartbeats 400000
set_option maxRecDepth 100000
/-- a text of bytes -/
def txt (l : List UInt8) : ByteArray := ⟨l.toArray⟩
theorem txt_size (l : List UInt8) : (txt l).size = l.length := by simp [txt, ByteArray.size]
theorem txt_cut (l : List UInt8) (i j : Nat) : (txt l).extract i j = txt ((l.take j).drop i) := by
  apply ByteArray.ext
  rw [ByteArray.data_extract]
  simp [txt, List.drop_take]
theorem txt_drop (l : List UInt8) : (txt l).extract 16 l.length = txt (l.drop 16) := by rw [txt_cut, List.take_of_length_le (Nat.le_refl _)]
theorem txt_take (l : List UInt8) : (txt l).extract 0 16 = txt (l.take 16) := by rw [txt_cut, List.drop_zero]
theorem txt_append (l m : List UInt8) : txt l ++ txt m = txt (l ++ m) := by
  apply ByteArray.ext
  simp [txt]
theorem txt_inj {l m : List UInt8} : txt l = txt m ↔ l = m := by
  constructor
  · intro h
    have := congrArg (fun x : ByteArray => x.data.toList) h
    simpa [txt] using this
  · rintro rfl; rfl
theorem results_three {P : Program} {fn : Func} {p u v : Tmp} {ty : TypeId} (h : fn.results = #[.cell p ty, .tmp u, .tmp v]) (tmps : Array Value) (w : World) (g : Nat) (t : TypeId) (cs : Array Value) (fr : Nat × Nat) (d : TypeDesc) (x y : Value)
    (hp : tmps.getD p undef = .pointer (some ⟨g, 0, none⟩)) (hg : w.heap[g]? = some (.cells cs t fr)) (hx : tmps.getD u undef = x) (hy : tmps.getD v undef = y)
    (hu : P.underlying ty = some d) (hd : (match d with | .struct _ | .array _ _ => true | _ => false) = true) (hi : (P.info? ty).map (·.size) = some cs.size) :
    (results fn tmps).run P w = .ok (.tuple #[.agg cs, x, y]) w := by
  have hp' : tmps[p]?.getD undef = .pointer (some ⟨g, 0, none⟩) := by simpa using hp
  have hx' : tmps[u]?.getD undef = x := by simpa using hx
  have hy' : tmps[v]?.getD undef = y := by simpa using hy
  simp [results, h, hp', hx', hy', asAddr, run_loadVar_row w g t ty cs fr d hg hu hd hi]
theorem refSeed_dry (l : List UInt8) (n : Nat) (w : World) (hl : l.length < 16) :
    Calls Try.prog 9 #[.agg #[.string (txt l), .int .i64 (n : Int)]] w fun e w' => e = .returned (.tuple #[.agg #[.string (txt l), .int .i64 (n : Int)], .string (txt []), .bool false]) ∧ Below w.heap.size w w' := by
  have hs := txt_size l
  obtain ⟨x, hx⟩ : ∃ x, x = txt l := ⟨_, rfl⟩
  rw [← hx] at hs ⊢
  have hs2 : x.size < 16 := by omega
  clear hx hs hl
  go_enter Try.func9, Try.ntmps9
  go_wp2_with fail
  refine bodyPost_ret (results_three rfl _ _ (w.heap.size + 1) 28 _ (0, 0) _ _ _ rfl (heap_alloc2_new w _ _) rfl rfl Try.underlying28 rfl (by kernel_rfl)) rfl ?_
  exact ⟨rfl, ((Below.refl _ _).alloc (Nat.le_refl _) _).alloc (by simp) _⟩
theorem refSeed_any (l : List UInt8) (n : Nat) (w : World) (hl : 16 ≤ l.length) (hn : n < 1000000000) :
    Calls Try.prog 9 #[.agg #[.string (txt l), .int .i64 (n : Int)]] w fun e w' => e = .returned (.tuple #[.agg #[.string (txt (l.drop 16)), .int .i64 ((n + 1 : Nat) : Int)], .string (txt (l.take 16)), .bool true]) ∧ Below w.heap.size w w' := by
  have hs := txt_size l
  have h1 := txt_drop l
  have h2 := txt_take l
  rw [← hs] at h1 hl
  rw [← h1, ← h2]
  obtain ⟨x, hx⟩ : ∃ x, x = txt l := ⟨_, rfl⟩
  rw [← hx] at hl ⊢
  clear hx hs h1 h2
  go_enter Try.func9, Try.ntmps9
  go_wp2_with fail
  go_region
  all_goals
    go_wp2_with fail
    refine bodyPost_ret (results_three rfl _ _ (w.heap.size + 1) 28 _ (0, 0) _ _ _ rfl (heap_alloc2_new w _ _) rfl rfl Try.underlying28 rfl (by kernel_rfl)) rfl ?_
    exact ⟨rfl, (((Below.refl _ _).alloc (Nat.le_refl _) _).alloc (by simp) _).drew⟩
theorem conv_const (w : World) (C : Array Value) (n c : Nat) : (convert 22 22 (.slice (some ⟨w.heap.size, 0, none⟩) n c)).run Try.prog (w.alloc (.cells C 5)) = .ok (.slice (some ⟨w.heap.size, 0, none⟩) n c) (w.alloc (.cells C 5 (C.size, C.size + 1))) :=
  Lib.run_convert_bytes_const (P := Try.prog) w 22 5 C n c Try.underlying22 Try.underlying5
/-- an array of bytes reads as its bytes -/
theorem seed_bts {W : World} {g : Nat} {l : List UInt8} {t : TypeId} {fz : Nat × Nat} (h : W.heap[g]? = some (.cells (seedV l) t fz)) : Bts W (some ⟨g, 0, none⟩) l := by
  refine .inr ⟨g, 0, rfl, (Array.getElem?_eq_some_iff.1 h).1, fun j hj => ?_⟩
  rw [cell_of_row W g _ _ t _ h, Nat.zero_add, seedV, List.getElem?_toArray, byteCells_at l j hj]
/-- the example's bytes -/
def exB : List UInt8 := [48, 49, 50, 51, 52, 53, 54, 55, 56, 57, 97, 98, 99, 100, 101, 102, 103]
theorem exB_cells : seedV exB = #[.int .u8 48, .int .u8 49, .int .u8 50, .int .u8 51, .int .u8 52, .int .u8 53, .int .u8 54, .int .u8 55, .int .u8 56, .int .u8 57, .int .u8 97, .int .u8 98, .int .u8 99, .int .u8 100, .int .u8 101, .int .u8 102, .int .u8 103] := by
  simp [seedV, exB, Lib.byteCells]
theorem exB_take : exB.take 16777216 = exB := List.take_of_length_le (by decide)
theorem ex_new (w : World) : Calls Try.prog 7 #[.slice (some ⟨w.heap.size, 0, none⟩) 17 17] (w.alloc (.cells #[.int .u8 48, .int .u8 49, .int .u8 50, .int .u8 51, .int .u8 52, .int .u8 53, .int .u8 54, .int .u8 55, .int .u8 56, .int .u8 57, .int .u8 97, .int .u8 98, .int .u8 99, .int .u8 100, .int .u8 101, .int .u8 102, .int .u8 103] 5 (17, 18))) fun e w' =>
    e = .returned (.pointer (some ⟨w.heap.size + 1, 0, none⟩)) ∧ ∃ v, Hid (Src w.heap.size w' (w.heap.size + 1) v exB 0) ∧ Hid (Below w.heap.size w w') := by
  rw [← exB_cells]
  have hb : Below w.heap.size w (w.alloc (.cells (seedV exB) 5 (17, 18))) := (Below.refl _ _).alloc (Nat.le_refl _) _
  have hs : (w.alloc (.cells (seedV exB) 5 (17, 18))).heap.size = w.heap.size + 1 := by simp
  have h := new_any (w := w.alloc (.cells (seedV exB) 5 (17, 18))) (seed_bts (heap_alloc_new w _)) 17 (by decide)
  rw [exB_take] at h
  refine h.mono ?_
  rintro e w' ⟨rfl, v, h1, h2⟩
  rw [hs] at h1 ⊢
  exact ⟨rfl, v, h1.mono (by omega), below_then hb h2⟩
theorem bel_kept {s B : Nat} {w w1 w2 : World} (h : Below B w w1) (k : Kept (fun i => i = s) w1 w2) (hB : B ≤ w.heap.size) (hs : B ≤ s) : Below B w w2 :=
  h.trans (k.below (Nat.le_trans hB h.size) (fun i hi e => by subst e; omega))
theorem awake_any (w : World) : Calls Try.prog 6 #[] w fun e w' => e = .returned (.bool true) ∧ Below w.heap.size w w' := by
  have hcv := conv_const
  have HN := Lib.hid (ex_new w)
  go_enter Try.func6, Try.ntmps6
  go_wp2_with fail
  refine HN.out.mono ?_
  rintro e w1 ⟨rfl, v1, h1, b1⟩
  clear hcv
  go_wp2_with fail
  refine (seed_any h1.out (by decide) (by decide)).mono ?_
  rintro e w2 ⟨rfl, v2, h2, _, k2⟩
  have H2 := Lib.hid h2; clear h2
  have B2 := Lib.hid (bel_kept b1.out k2 (Nat.le_refl _) (by omega)); clear k2
  have HT : Hid ((exB.take 16).length = 16) := rfl
  have HS2 := H2.out.below ((Below.refl _ w2).alloc (Nat.le_refl _) (.cells (seedV (exB.take 16)) 36))
  have HD := Lib.hid (seed_dry HS2 (by decide)); clear HS2
  go_wp2_with (refine wpList_store_row rfl 36 _ _ rfl w2.heap.size (seedV (exB.take 16)) rfl rfl 36 _ (heap_alloc_new w2 _) (by rw [seedV_size, HT.out]; kernel_rfl) (by rw [seedV_size, HT.out]; rfl) (seedV_one _) ?_)
  rw [World.setRow_alloc_new]
  refine HD.out.mono ?_
  rintro e w3 ⟨rfl, hb3⟩
  obtain ⟨w4, hw4⟩ : ∃ W, W = w3.alloc (.cells (seedV zeros) 36) := ⟨_, rfl⟩
  have hb2 : Below w2.heap.size w2 (w2.alloc (.cells (seedV (exB.take 16)) 36)) := (Below.refl _ _).alloc (Nat.le_refl _) _
  have hb4 : Below w3.heap.size w3 w4 := by rw [hw4]; exact (Below.refl _ _).alloc (Nat.le_refl _) _
  have hb34 := below_then hb3 hb4
  have hb24 := below_then hb2 hb34
  have hS := H2.out.below hb24
  have hr : w4.heap[w2.heap.size]? = some (.cells (seedV (exB.take 16)) 36 (0, 0)) := (hb34.block _ (by simp)).trans (heap_alloc_new w2 _)
  have hcv : (convert 22 9 (.slice (some ⟨w2.heap.size, 0, none⟩) 16 16)).run Try.prog w4 = .ok (.string ⟨#[48, 49, 50, 51, 52, 53, 54, 55, 56, 57, 97, 98, 99, 100, 101, 102]⟩) w4 := conv_any (seed_bts hr) 16
  have HL := Lib.hid (left_any hS)
  have HK := Lib.hid (taken_any hS)
  have B4 := Lib.hid (B2.out.trans (hb24.mono B2.out.size))
  have HW4 := Lib.hid hw4
  clear hb2 hb4 hb34 hb24 hS hr hb3 HD hw4
  go_wp2_with (refine wpList_store_row rfl 36 _ _ rfl w3.heap.size (seedV zeros) rfl rfl 36 _ (heap_alloc_new w3 _) (by rw [seedV_size]; kernel_rfl) (by rw [seedV_size]; rfl) (seedV_one _) ?_; rw [World.setRow_alloc_new, ← HW4.out])
  refine HL.out.mono ?_
  rintro e w5 ⟨rfl, rfl⟩
  go_wp2_with fail
  refine HK.out.mono ?_
  rintro e w6 ⟨rfl, rfl⟩
  go_wp2_with fail
  go_ret
  exact ⟨rfl, B4.out⟩
end Go.Proofs.Ytialpajnjbchgaa
