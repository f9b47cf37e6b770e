/-
  Trees that stay: worlds in which nothing but scratch blocks has been written over; rows of bytes, of pointers and of lists that a call owns.
-/
import Derived.Test.YtbgohpcfinojoaaGrow
import Derived.Test.YtbgohpcfinojoaaPlays
namespace Go.Proofs.Ytbgohpcfinojoaa
open Go.RowKit
set_option maxHeartbeats 400000
set_option maxRecDepth 100000
theorem Try.info25 : (Try.prog.info? 25).map (fun i => (i.zero, i.size, i.bytes)) = some (some (.pointer none), 1, 8) := by kernel_rfl
theorem Try.info26 : (Try.prog.info? 26).map (fun i => (i.zero, i.size, i.bytes)) = some (some (.slice none 0 0), 1, 24) := by kernel_rfl
theorem byte_more (x : UInt8) : IntKind.u8.wrap (((x.toNat : Nat) : Int) + 1) = (((x + 1 : UInt8).toNat : Nat) : Int) := by
  have h := x.toNat_lt
  rw [UInt8.toNat_add]
  have h3 : (1 : UInt8).toNat = 1 := rfl
  rw [h3]
  simp only [IntKind.wrap_u8]
  omega
/-- all stands but the blocks in S -/
structure Off (S : Nat → Prop) (w w' : World) : Prop where
  os : w'.os = w.os
  tape : w'.tape = w.tape
  output : w'.output = w.output
  size : w.heap.size ≤ w'.heap.size
  block : ∀ k, k < w.heap.size → ¬ S k → w'.heap[k]? = w.heap[k]?
theorem Off.refl (S : Nat → Prop) (w : World) : Off S w w := ⟨rfl, rfl, rfl, Nat.le_refl _, fun _ _ _ => rfl⟩
theorem Off.trans {S : Nat → Prop} {a b c : World} (h : Off S a b) (k : Off S b c) : Off S a c :=
  ⟨k.os.trans h.os, k.tape.trans h.tape, k.output.trans h.output, Nat.le_trans h.size k.size, fun i hi hx => (k.block i (Nat.lt_of_lt_of_le hi h.size) hx).trans (h.block i hi hx)⟩
theorem Off.of_below {S : Nat → Prop} {w w' : World} (h : Below w.heap.size w w') : Off S w w' := ⟨h.os, h.tape, h.output, h.size, fun k hk _ => h.block k hk⟩
theorem Off.of_grown {S : Nat → Prop} {w w' : World} {r : Option Nat} (h : w.grownBy w' r) (hr : ∀ k, r = some k → S k) : Off S w w' :=
  ⟨h.os, h.tape, h.output, h.size, fun k hk hx => h.block k hk fun e => hx (hr k e.symm)⟩
theorem Off.set {S : Nat → Prop} {w : World} {p : Addr} (hp : S p.block) (u : Value) : Off S w (w.setCell p u) :=
  ⟨rfl, rfl, rfl, by simp, fun k _ hx => Below.heap_setCell w p u k fun e => hx (by rw [e]; exact hp)⟩
theorem Off.mono {S T : Nat → Prop} {w w' : World} (h : Off S w w') (k : ∀ b, S b → T b) : Off T w w' :=
  ⟨h.os, h.tape, h.output, h.size, fun b hb hx => h.block b hb fun e => hx (k b e)⟩
theorem Off.below {S : Nat → Prop} {B : Nat} {w w' : World} (h : Off S w w') (hB : B ≤ w.heap.size) (hX : ∀ k, k < B → ¬ S k) : Below B w w' :=
  ⟨h.os, h.tape, h.output, h.size, fun k hk => h.block k (Nat.lt_of_lt_of_le hk hB) (hX k hk)⟩
/-- the blocks in S begin with no text -/
def Scr (S : Nat → Prop) (w : World) : Prop := ∀ b, b < w.heap.size → S b → ∃ v, w.cell? ⟨b, 0, none⟩ = some v ∧ ∀ s, v ≠ .string s
theorem Scr.below {S : Nat → Prop} {w w' : World} (h : Scr S w) (hl : ∀ b, S b → b < w.heap.size) (hb : Below w.heap.size w w') : Scr S w' := fun b _ hs => by
  obtain ⟨v, h1, h2⟩ := h b (hl b hs) hs
  exact ⟨v, (hb.cell (p := ⟨b, 0, none⟩) (hl b hs)).trans h1, h2⟩
/-- a list of texts stands where only scratch is written -/
theorem Rcs.off {S : Nat → Prop} {w w' : World} {A : Option Addr} {M : List Pr} (h : Rcs w A M) (hs : Scr S w) (k : Off S w w') : Rcs w' A M := by
  rcases h with h | ⟨b, rfl, hlt, hc⟩
  · exact .inl h
  · by_cases hl : M = []
    · exact .inl hl
    · have h0 := (hc 0 (List.length_pos_iff.2 hl)).1
      have hb : ¬ S b := fun e => by
        obtain ⟨v, h1, h2⟩ := hs b hlt e
        rw [Nat.zero_mul, h1] at h0
        injection h0 with h0
        exact h2 _ h0
      have e := k.block b hlt hb
      exact .inr ⟨b, rfl, lt_kept e hlt, fun i hi => ⟨(cell_kept e).trans (hc i hi).1, (cell_kept e).trans (hc i hi).2⟩⟩
theorem Tre.off {S : Nat → Prop} {w w' : World} {t : Tr} {p : Option Addr} (h : Tre (fun b => ¬ S b) w t p) (k : Off S w w') : Tre (fun b => ¬ S b) w' t p := h.kept fun b hb hlt => k.block b hlt hb
/-- a tree and its model -/
structure Ent where
  p : Option Addr
  A : Option Addr
  c : Nat
  M : List Pr
structure Held (S : Nat → Prop) (w : World) (e : Ent) : Prop where
  tre : ∃ t, Tre (fun b => ¬ S b) w t e.p ∧ t.even ∧ t.list = e.M
  rcs : Rcs w e.A e.M
  srt : srt e.M
  fit : ∀ x ∈ e.M, x.1.length ≤ 100 ∧ x.2.length ≤ 100
  len : e.M.length ≤ 100
theorem Held.off {S : Nat → Prop} {w w' : World} {e : Ent} (h : Held S w e) (hs : Scr S w) (k : Off S w w') : Held S w' e := by
  obtain ⟨t, h1, h2, h3⟩ := h.tre
  exact ⟨⟨t, h1.off k, h2, h3⟩, h.rcs.off hs k, h.srt, h.fit, h.len⟩
theorem Held.below {S : Nat → Prop} {w w' : World} {e : Ent} (h : Held S w e) (k : Below w.heap.size w w') : Held S w' e := by
  obtain ⟨t, h1, h2, h3⟩ := h.tre
  exact ⟨⟨t, h1.below k, h2, h3⟩, h.rcs.below k, h.srt, h.fit, h.len⟩
theorem Held.more {S T : Nat → Prop} {w : World} {e : Ent} (h : Held S w e) (k : ∀ b, b < w.heap.size → T b → S b) : Held T w e := by
  obtain ⟨t, h1, h2, h3⟩ := h.tre
  exact ⟨⟨t, h1.mono (fun b hb hn ht => hn (k b hb ht)), h2, h3⟩, h.rcs, h.srt, h.fit, h.len⟩
def ptrs (E : List Ent) : List Value := E.map fun e => .pointer e.p
def lists (E : List Ent) : List Value := E.map fun e => .slice e.A e.M.length e.c
theorem own_kept {w w' : World} {B e s n : Nat} {v : Value} {xs : List Value} (h : w.ownsRow B e s v n xs) (k : ∀ g, v.ownBlock = some g → w'.heap[g]? = w.heap[g]?) : w'.ownsRow B e s v n xs := by
  obtain ⟨hl, h⟩ := h
  refine ⟨hl, ?_⟩
  rcases h with h | ⟨g, cap, cur, rfl, hb, hg, r⟩
  · exact .inl h
  · exact .inr ⟨g, cap, cur, rfl, hb, (k g rfl).trans hg, r⟩
theorem own_lt {w : World} {B e s n : Nat} {v : Value} {xs : List Value} (h : w.ownsRow B e s v n xs) {g : Nat} (hg : v.ownBlock = some g) : B ≤ g ∧ g < w.heap.size ∧ ∃ cur, w.heap[g]? = some (.cells cur e (0, 0)) := by
  rcases h.2 with ⟨rfl, _⟩ | ⟨g', cap, cur, rfl, hb, h3, _⟩
  · simp [Value.ownBlock] at hg
  · simp only [Value.ownBlock, Option.some.injEq] at hg
    subst hg
    exact ⟨hb, (Array.getElem?_eq_some_iff.1 h3).1, cur, h3⟩
theorem row_reads1 {w : World} {B e n : Nat} {v : Value} {xs : List Value} (h : w.ownsRow B e 1 v n xs) : ∃ A c, v = .slice A n c ∧ (0 < n → ∃ g, A = some ⟨g, 0, none⟩ ∧ g < w.heap.size ∧ ∀ j, j < n → w.cell? ⟨g, j, none⟩ = xs[j]?) := by
  obtain ⟨hl, h⟩ := h
  rcases h with ⟨rfl, rfl⟩ | ⟨g, cap, cur, rfl, hb, hg, hc1, _, hsz, htk⟩
  · exact ⟨none, 0, rfl, fun h => by omega⟩
  · refine ⟨_, _, rfl, fun _ => ⟨g, rfl, (Array.getElem?_eq_some_iff.1 hg).1, fun j hj => ?_⟩⟩
    rw [cell_of_row w g j cur e (0, 0) hg, ← htk, List.getElem?_take_of_lt (by omega)]
    simp
/-- where the calls have come to: the tree and its model, and all earlier ones -/
structure Now (w : World) (M : List Pr) (p A : Option Addr) (vT vM : Value) (S : Nat → Prop) (E : List Ent) (t : Tr) (W : World) : Prop where
  bel : Below w.heap.size w W
  lt : ∀ b, S b → b < W.heap.size
  scr : Scr S W
  tre : Tre (fun b => ¬ S b) W t p
  ev : t.even
  list : t.list = M
  rcs : Rcs W A M
  all : ∀ e ∈ E, Held S W e
  rowT : W.ownsRow w.heap.size 25 1 vT E.length (ptrs E)
  rowM : W.ownsRow w.heap.size 26 1 vM E.length (lists E)
  inT : ∀ b, vT.ownBlock = some b → S b
  inM : ∀ b, vM.ownBlock = some b → S b
theorem Now.grow {w W W' : World} {M : List Pr} {p A : Option Addr} {vT vM : Value} {S T : Nat → Prop} {E : List Ent} {t : Tr} (h : Now w M p A vT vM S E t W) (hb : Below W.heap.size W W') (h1 : ∀ b, S b → T b) (h2 : ∀ b, b < W.heap.size → T b → S b) (hlt : ∀ b, T b → b < W'.heap.size) (hs : Scr T W') : Now w M p A vT vM T E t W' :=
  ⟨below_then h.bel hb, hlt, hs, (h.tre.mono (fun b hb hn ht => hn (h2 b hb ht))).below hb, h.ev, h.list, h.rcs.below hb, fun e he => ((h.all e he).more h2).below hb,
    own_kept h.rowT fun g hg => hb.block g (own_lt h.rowT hg).2.1, own_kept h.rowM fun g hg => hb.block g (own_lt h.rowM hg).2.1, fun b hb => h1 b (h.inT b hb), fun b hb => h1 b (h.inM b hb)⟩
theorem Now.step {w W W' : World} {M M' : List Pr} {p A p' A' : Option Addr} {vT vM : Value} {S : Nat → Prop} {E : List Ent} {t t' : Tr} (h : Now w M p A vT vM S E t W) (hb : Below W.heap.size W W') (g1 : Tre (fun b => ¬ S b) W' t' p') (g2 : t'.even) (g3 : t'.list = M') (g4 : Rcs W' A' M') : Now w M' p' A' vT vM S E t' W' := by
  have k := h.grow hb (fun _ h => h) (fun _ _ h => h) (fun b hs => Nat.lt_of_lt_of_le (h.lt b hs) hb.size) (h.scr.below h.lt hb)
  exact ⟨k.bel, k.lt, k.scr, g1, g2, g3, g4, k.all, k.rowT, k.rowM, k.inT, k.inM⟩
theorem Now.off {w W W' : World} {M : List Pr} {p A : Option Addr} {vT vM : Value} {S K : Nat → Prop} {E : List Ent} {t : Tr} (h : Now w M p A vT vM S E t W) (ho : Off K W W') (hK : ∀ b, K b → S b ∧ w.heap.size ≤ b ∧ vT.ownBlock ≠ some b ∧ vM.ownBlock ≠ some b) (hs : Scr S W') : Now w M p A vT vM S E t W' := by
  have hS : Off S W W' := ho.mono fun b hb => (hK b hb).1
  refine ⟨h.bel.trans (ho.below h.bel.size fun k hk hb => ?_), fun b hb => Nat.lt_of_lt_of_le (h.lt b hb) ho.size, hs, h.tre.off hS, h.ev, h.list, h.rcs.off h.scr hS, fun e he => (h.all e he).off h.scr hS,
    own_kept h.rowT fun g hg => ho.block g (own_lt h.rowT hg).2.1 fun e => (hK g e).2.2.1 hg, own_kept h.rowM fun g hg => ho.block g (own_lt h.rowM hg).2.1 fun e => (hK g e).2.2.2 hg, h.inT, h.inM⟩
  have := (hK k hb).2.1
  omega
/-- a row of n bytes at least -/
def Brow (w : World) (g n : Nat) : Prop := ∃ cs, w.heap[g]? = some (.cells cs 5 (0, 0)) ∧ ∀ i, i < n → ∃ x : UInt8, cs[i]? = some (.int .u8 ((x.toNat : Nat) : Int))
theorem Brow.lt {w : World} {g n : Nat} (h : Brow w g n) : g < w.heap.size := by
  obtain ⟨cs, h, _⟩ := h
  exact (Array.getElem?_eq_some_iff.1 h).1
theorem Brow.keep {w w' : World} {g n : Nat} (h : Brow w g n) (k : w'.heap[g]? = w.heap[g]?) : Brow w' g n := by
  obtain ⟨cs, h, r⟩ := h
  exact ⟨cs, k.trans h, r⟩
theorem Brow.below {w w' : World} {g n : Nat} (h : Brow w g n) (k : Below w.heap.size w w') : Brow w' g n := h.keep (k.block g h.lt)
theorem Brow.cell {w : World} {g n i : Nat} (h : Brow w g n) (hi : i < n) : ∃ x : UInt8, w.cell? ⟨g, i, none⟩ = some (.int .u8 ((x.toNat : Nat) : Int)) ∧ w.frozen? ⟨g, i, none⟩ = false := by
  obtain ⟨cs, h, r⟩ := h
  obtain ⟨x, hx⟩ := r i hi
  exact ⟨x, by rw [cell_of_row w g i _ 5 (0, 0) h, hx], by simp [World.frozen?, h]⟩
theorem Brow.set {w : World} {g n b i : Nat} (h : Brow w g n) (x : UInt8) : Brow (w.setCell ⟨b, i, none⟩ (.int .u8 ((x.toNat : Nat) : Int))) g n := by
  by_cases e : b = g
  · subst e
    obtain ⟨cs, h, r⟩ := h
    refine ⟨cs.setIfInBounds i (.int .u8 ((x.toNat : Nat) : Int)), heap_setCell_same w b i _ 5 _ h, fun j hj => ?_⟩
    obtain ⟨y, hy⟩ := r j hj
    by_cases e : i = j
    · subst e
      exact ⟨x, by rw [Array.getElem?_setIfInBounds_self_of_lt (Array.getElem?_eq_some_iff.1 hy).1]⟩
    · exact ⟨y, by rw [Array.getElem?_setIfInBounds_ne e]; exact hy⟩
  · exact h.keep (heap_setCell_other w ⟨b, i, none⟩ g _ (Ne.symm e))
theorem brow_ne {w : World} {g g' n : Nat} {cs : Array Value} {t : TypeId} (h : Brow w g n) (k : w.heap[g']? = some (.cells cs t (0, 0))) (ht : t ≠ 5) : g' ≠ g := by
  rintro rfl
  obtain ⟨cs', h, _⟩ := h
  rw [k] at h
  injection h with h
  injection h with _ h
  exact ht h
theorem newRow_brow {B g : Nat} {w : World} {l : List UInt8} (h : NewRow B w g l) : Brow w g l.length := by
  refine ⟨_, h.2, fun i hi => ⟨l[i], ?_⟩⟩
  simp [Lib.byteCells, hi]
/-- append of bytes onto an empty row just made -/
theorem run_app_fresh {w : World} (ty : TypeId) {N g : Nat} (hg : w.heap[g]? = some (.cells #[] 5 (0, 0))) (hN : N ≤ g) {A : Option Addr} {m : List UInt8} (hm : Bts w A m) (c : Nat) (hlen : m.length ≤ 1000) :
    ∃ g' c' w', (Builtin.append_ #[27, 27] ty #[.slice (some ⟨g, 0, none⟩) 0 0, .slice A m.length c]).run Try.prog w = .ok (.slice (some ⟨g', 0, none⟩) m.length c') w' ∧ Below w.heap.size w w' ∧ N ≤ g' ∧ Bts w' (some ⟨g', 0, none⟩) m ∧ Brow w' g' m.length := by
  obtain ⟨i0, hi, hz0, hz1, hz2⟩ := info_parts Try.info5
  have hlt : g < w.heap.size := (Array.getElem?_eq_some_iff.1 hg).1
  rcases Nat.eq_zero_or_pos m.length with h0 | h0
  · obtain rfl : m = [] := List.eq_nil_of_length_eq_zero h0
    refine ⟨g, 0, w, ?_, Below.refl _ _, hN, .inl rfl, _, hg, fun i hi => absurd hi (by simp)⟩
    have hf : ∀ ad : Addr, (Builtin.firstCells i0.size 0 (.slice (some ad) 0 c)).run Try.prog w = .ok #[] w := fun ad => run_firstCells_some (P := Try.prog) w i0.size 0 ad 0 c [] (by simp) (by simp)
    cases A with
    | none => simp [Builtin.append_, run_underlying Try.underlying27, Go.sizeOf, typeInfo, hi, Builtin.lenOf, Builtin.firstCells, storeCells]
    | some ad => simp [Builtin.append_, run_underlying Try.underlying27, Go.sizeOf, typeInfo, hi, Builtin.lenOf, hf, storeCells]
  · obtain ⟨a, rfl, hlt2, hnews⟩ := hm.cells h0
    have hbl := Lib.byteCells_length m
    have hr := run_append_grow (P := Try.prog) w 27 ty 5 i0 _ Try.underlying27 hi hz0 ⟨g, 0, none⟩ 0 0 [] (by simp) (by simp) a m.length c (Lib.byteCells m) (by rw [hz1, Nat.mul_one]; exact hbl) hnews (by omega) (by omega) (by rw [hz2]; exact growslice_fits (by omega) (by omega))
    simp only [Nat.zero_add] at hr
    have hb : ∀ o, Below w.heap.size w (w.drew.alloc o) := fun o => (Below.refl w.heap.size w).drew.alloc (Nat.le_refl _) o
    refine ⟨_, _, _, hr, hb _, by show N ≤ w.heap.size; omega, ?_⟩
    have hcell : ∀ (z : Array Value) (i : Nat) (h : i < m.length), (#[].append (Lib.byteCells m).toArray ++ z)[i]? = some (.int .u8 (m[i].toNat : Int)) := by
      intro z i h
      have e : (#[] : Array Value).append (Lib.byteCells m).toArray = (Lib.byteCells m).toArray := by simp
      rw [e, Array.getElem?_append_left (by simp [hbl, h]), List.getElem?_toArray]
      simp [Lib.byteCells, h]
    have hrow : ∀ o, (w.drew.alloc o).heap[w.heap.size]? = some o := fun o => heap_alloc_new w.drew o
    refine ⟨.inr ⟨_, 0, rfl, by simp, fun i hi => ?_⟩, _, hrow _, fun i hi => ⟨_, hcell _ i hi⟩⟩
    rw [cell_of_row _ w.heap.size _ _ 5 (0, 0) (hrow _), Nat.zero_add]
    exact hcell _ i hi
/-- append of one cell that was laid into a block of its own just ahead -/
theorem list_app1 {B : Nat} {w : World} {ops : Array Oper} {rest : List Oper} {o : Oper} {a : Act} {Q : Exit → Act → World → Prop} (t e : TypeId) (z : Value) (bytes : Nat) (hu : Try.prog.underlying t = some (.slice e)) (hinf : (Try.prog.info? e).map (fun i => (i.zero, i.size, i.bytes)) = some (some z, 1, bytes)) (hz : z.cells.size = 1) (hby : bytes ≤ 100)
    (hgd : o.guard = none) (s x : Operand) (ho : o.op = .call { callee := .builtin .append, args := #[s, x], argTypes := #[t, t] }) (v : Value) (n : Nat) (xs : List Value) (h : w.ownsRow B e 1 v n xs) (x1 : Value) (h1 : x1.oneCell' = true) (hs : a.eval s = v) (hx : a.eval x = .slice (some ⟨w.heap.size, 0, none⟩) 1 1) (hn : n ≤ 1000) (hB : B ≤ w.heap.size)
    (hK : ∀ v' w', w'.ownsRow B e 1 v' (n + 1) (xs ++ [x1]) → w.grownBy w' v.ownBlock → (v'.ownBlock = v.ownBlock ∨ v'.ownBlock = some (w.heap.size + 1)) → wpList Try.prog ops Q rest (a.put o.dst v') w') : wpList Try.prog ops Q (o :: rest) a (w.alloc (.cells #[x1] e)) := by
  obtain ⟨i0, hi, hz0, hz1, hz2⟩ := info_parts hinf
  have hnew : (w.alloc (.cells #[x1] e)).heap[w.heap.size]? = some (.cells #[x1] e (0, 0)) := heap_alloc_new w _
  obtain ⟨v', w', hr, hown, hg, _, hat⟩ := run_append_own_at (P := Try.prog) (w.alloc (.cells #[x1] e)) B t o.type e i0 z 1 bytes hu hi hz0 hz1 hz2 hz (by decide) v n xs (World.ownsRow.alloc h _) ⟨w.heap.size, 0, none⟩ 1 1 [x1] rfl
    (by
      intro j u hj
      rw [Go.WideShapes.add_plain, Nat.zero_add, cell_of_row _ w.heap.size j _ e (0, 0) hnew, ← hj]
      simp)
    (by
      intro u hu
      rcases List.mem_cons.1 hu with rfl | hu
      · exact h1
      · cases hu)
    (by unfold maxLen; omega) (by have := Nat.mul_le_mul (show n + 1 ≤ 1001 by omega) hby; omega) (by simp; omega)
  have hg2 : w.grownBy w' v.ownBlock := grown_then (World.grownBy_alloc w _ none) hg
  have hat2 : v'.ownBlock = v.ownBlock ∨ v'.ownBlock = some (w.heap.size + 1) := by simpa using hat
  refine wpList_plain hgd fun _ hk => ?_
  unfold Oper.wp execOp
  simp only [ho, resolve, invoke, builtin, Sem.run_bind, Sem.run_pure, Result.andThen_ok, List.map_toArray, List.map_cons, List.map_nil, hs, hx, hr]
  exact hk _ _ (hK v' w' hown hg2 hat2)
end Go.Proofs.Ytbgohpcfinojoaa
