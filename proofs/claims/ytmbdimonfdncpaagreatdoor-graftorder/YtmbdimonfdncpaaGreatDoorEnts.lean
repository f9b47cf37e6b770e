/-
  Entries in memory; contracts of Small and Ref (the law's), of pairsOf and allHave.
-/
import Derived.Test.YtmbdimonfdncpaaGreatDoorNods
import Derived.Test.YtmbdimonfdncpaaGreatDoorBranch
namespace Go.Proofs.YtmbdimonfdncpaaGreatDoor
open Go.RowKit
set_option maxHeartbeats 1000000
set_option maxRecDepth 100000
/-- the slice at A reads as the entries L -/
def Ens (w : World) (A : Option Addr) (L : List En) : Prop :=
  L = [] ∨ ∃ b off, A = some ⟨b, off, none⟩ ∧ b < w.heap.size ∧ ∀ i (h : i < L.length), ∃ ka kc va vc,
    w.cell? ⟨b, off + i * 3, none⟩ = some (.int .u64 ((L[i]).1 : Int)) ∧ w.cell? ⟨b, off + i * 3 + 1, none⟩ = some (.slice ka (L[i]).2.1.length kc) ∧ w.cell? ⟨b, off + i * 3 + 2, none⟩ = some (.slice va (L[i]).2.2.length vc) ∧ Bts w ka (L[i]).2.1 ∧ Bts w va (L[i]).2.2
theorem Ens.below {w w' : World} {A : Option Addr} {L : List En} (h : Ens w A L) (hb : Below w.heap.size w w') : Ens w' A L := by
  rcases h with h | ⟨b, off, rfl, hlt, hc⟩
  · exact .inl h
  · refine .inr ⟨b, off, rfl, Nat.lt_of_lt_of_le hlt hb.size, fun i hi => ?_⟩
    obtain ⟨ka, kc, va, vc, h1, h2, h3, h4, h5⟩ := hc i hi
    exact ⟨ka, kc, va, vc, (hb.cell (p := ⟨b, off + i * 3, none⟩) hlt).trans h1, (hb.cell (p := ⟨b, off + i * 3 + 1, none⟩) hlt).trans h2, (hb.cell (p := ⟨b, off + i * 3 + 2, none⟩) hlt).trans h3, h4.below hb, h5.below hb⟩
theorem Ens.at {w : World} {A : Option Addr} {L : List En} (h : Ens w A L) {j : Nat} (hj : j < L.length) : ∃ b off ka kc va vc, A = some ⟨b, off, none⟩ ∧ b < w.heap.size ∧
    w.cell? ⟨b, off + j * 3, none⟩ = some (.int .u64 ((L[j]).1 : Int)) ∧ w.cell? ⟨b, off + j * 3 + 1, none⟩ = some (.slice ka (L[j]).2.1.length kc) ∧ w.cell? ⟨b, off + j * 3 + 2, none⟩ = some (.slice va (L[j]).2.2.length vc) ∧ Bts w ka (L[j]).2.1 ∧ Bts w va (L[j]).2.2 := by
  rcases h with rfl | ⟨b, off, rfl, hlt, hc⟩
  · simp at hj
  · obtain ⟨ka, kc, va, vc, h⟩ := hc j hj
    exact ⟨b, off, ka, kc, va, vc, rfl, hlt, h⟩
/-- append of one struct that was laid into a block of its own just ahead -/
theorem list_appK {B : Nat} {w : World} {ops : Array Oper} {rest : List Oper} {o : Oper} {a : Act} {Q : Exit → Act → World → Prop} (t e : TypeId) (z : Value) (size bytes : Nat) (hu : Tryz.prog.underlying t = some (.slice e)) (hinf : (Tryz.prog.info? e).map (fun i => (i.zero, i.size, i.bytes)) = some (some z, size, bytes)) (hz : z.cells.size = size) (hs0 : 0 < size) (hby : bytes ≤ 200)
    (hgd : o.guard = none) (s x : Operand) (ho : o.op = .call { callee := .builtin .append, args := #[s, x], argTypes := #[t, t] }) (v : Value) (n : Nat) (xs : List Value) (h : w.ownsRow B e size v n xs) (news : List Value) (hl : news.length = size) (h1 : ∀ u ∈ news, u.oneCell' = true)
    (hs : a.eval s = v) (hx : a.eval x = .slice (some ⟨w.heap.size, 0, none⟩) 1 1) (hn : n ≤ 9000) (hB : B ≤ w.heap.size)
    (hK : ∀ v' w', w'.ownsRow B e size v' (n + 1) (xs ++ news) → w.grownBy w' v.ownBlock → (v'.ownBlock = v.ownBlock ∨ ∃ b, v'.ownBlock = some b ∧ w.heap.size ≤ b) → wpList Tryz.prog ops Q rest (a.put o.dst v') w') : wpList Tryz.prog ops Q (o :: rest) a (w.alloc (.cells news.toArray e)) := by
  obtain ⟨i0, hi, hz0, hz1, hz2⟩ := info_parts hinf
  have hnew : (w.alloc (.cells news.toArray e)).heap[w.heap.size]? = some (.cells news.toArray e (0, 0)) := heap_alloc_new w _
  obtain ⟨v', w', hr, hown, hg, _, hob⟩ := run_append_own_at (P := Tryz.prog) (w := w.alloc (.cells news.toArray e)) B t o.type e i0 z size bytes hu hi hz0 hz1 hz2 hz hs0 v n xs (World.ownsRow.alloc h _) ⟨w.heap.size, 0, none⟩ 1 1 news (by rw [hl, Nat.one_mul])
    (by
      intro j u hj
      rw [Go.WideShapes.add_plain, Nat.zero_add, cell_of_row _ w.heap.size j _ e (0, 0) hnew, ← hj]
      simp) h1
    (by unfold maxLen; omega) (by have := Nat.mul_le_mul (show n + 1 ≤ 9001 by omega) hby; omega) (by simp; omega)
  have hg2 : w.grownBy w' v.ownBlock := grown_then (World.grownBy_alloc w _ none) hg
  refine wpList_plain hgd fun _ hk => ?_
  unfold Oper.wp execOp
  simp only [ho, resolve, invoke, builtin, Sem.run_bind, Sem.run_pure, Result.andThen_ok, List.map_toArray, List.map_cons, List.map_nil, hs, hx, hr]
  refine hk _ _ (hK v' w' hown hg2 ?_)
  rcases hob with h | h
  · exact .inl h
  · exact .inr ⟨_, h, by simp⟩
theorem Tryz.info62 : (Tryz.prog.info? 72).map (fun i => (i.zero, i.size, i.bytes)) = some (some (.agg #[.int .u64 0, .string ⟨#[]⟩, .string ⟨#[]⟩]), 3, 40) := by kernel_rfl
/-- how a row of elements of three cells reads -/
theorem row_reads3 {w : World} {B e n : Nat} {v : Value} {xs : List Value} (h : w.ownsRow B e 3 v n xs) : ∃ A c, v = .slice A n c ∧ n ≤ c ∧ (0 < n → ∃ g, A = some ⟨g, 0, none⟩ ∧ B ≤ g ∧ g < w.heap.size ∧ ∀ j, j < n * 3 → w.cell? ⟨g, j, none⟩ = xs[j]?) := by
  obtain ⟨hl, h⟩ := h
  rcases h with ⟨rfl, rfl⟩ | ⟨g, cap, cur, rfl, hb, hg, hc1, _, hsz, htk⟩
  · exact ⟨none, 0, rfl, Nat.le_refl _, fun h => by omega⟩
  · refine ⟨_, _, rfl, hc1, fun _ => ⟨g, rfl, hb, (Array.getElem?_eq_some_iff.1 hg).1, fun j hj => ?_⟩⟩
    rw [cell_of_row w g j cur e (0, 0) hg, ← htk, List.getElem?_take_of_lt (by omega)]
    simp
/-- the cells of entries, whose bytes lie in w -/
def Erow (w : World) (xs : List Value) (L : List En) : Prop := xs.length = L.length * 3 ∧ ∀ i (h : i < L.length), ∃ ka kc va vc,
  xs[i * 3]? = some (.int .u64 ((L[i]).1 : Int)) ∧ xs[i * 3 + 1]? = some (.slice ka (L[i]).2.1.length kc) ∧ xs[i * 3 + 2]? = some (.slice va (L[i]).2.2.length vc) ∧ Bts w ka (L[i]).2.1 ∧ Bts w va (L[i]).2.2
theorem Erow.nil (w : World) : Erow w [] [] := ⟨rfl, fun i h => by simp at h⟩
theorem Erow.below {w w' : World} {xs : List Value} {L : List En} (h : Erow w xs L) (hb : Below w.heap.size w w') : Erow w' xs L := by
  refine ⟨h.1, fun i hi => ?_⟩
  obtain ⟨ka, kc, va, vc, h1, h2, h3, h4, h5⟩ := h.2 i hi
  exact ⟨ka, kc, va, vc, h1, h2, h3, h4.below hb, h5.below hb⟩
theorem Erow.snoc {w : World} {xs : List Value} {L : List En} (h : Erow w xs L) {p : En} {ka va : Option Addr} {kc vc : Nat} (h1 : Bts w ka p.2.1) (h2 : Bts w va p.2.2) : Erow w (xs ++ [.int .u64 (p.1 : Int), .slice ka p.2.1.length kc, .slice va p.2.2.length vc]) (L ++ [p]) := by
  refine ⟨by simp [h.1]; omega, fun i hi => ?_⟩
  have hl := h.1
  rcases Nat.lt_or_ge i L.length with g | g
  · obtain ⟨ka', kc', va', vc', e0, e1, e2, e3, e4⟩ := h.2 i g
    have e : (L ++ [p])[i] = L[i] := List.getElem_append_left g
    rw [e, List.getElem?_append_left (by omega), List.getElem?_append_left (by omega), List.getElem?_append_left (by omega)]
    exact ⟨ka', kc', va', vc', e0, e1, e2, e3, e4⟩
  · have hi2 : i = L.length := by simp at hi; omega
    subst hi2
    have e : (L ++ [p])[L.length] = p := by simp
    rw [e, List.getElem?_append_right (by omega), List.getElem?_append_right (by omega), List.getElem?_append_right (by omega), hl, Nat.sub_self, show L.length * 3 + 1 - L.length * 3 = 1 by omega, show L.length * 3 + 2 - L.length * 3 = 2 by omega]
    exact ⟨ka, kc, va, vc, rfl, rfl, rfl, h1, h2⟩
/-- the document's entries: their cells -/
def encells (L : List En) : List Value := L.flatMap fun e => [.int .u64 (e.1 : Int), .string ⟨e.2.1.toArray⟩, .string ⟨e.2.2.toArray⟩]
theorem encells_snoc (L : List En) (e : En) : encells (L ++ [e]) = encells L ++ [.int .u64 (e.1 : Int), .string ⟨e.2.1.toArray⟩, .string ⟨e.2.2.toArray⟩] := by simp [encells]
theorem encells_at : ∀ (L : List En) (i : Nat) (h : i < L.length), (encells L)[i * 3]? = some (.int .u64 ((L[i]).1 : Int)) ∧ (encells L)[i * 3 + 1]? = some (.string ⟨(L[i]).2.1.toArray⟩) ∧ (encells L)[i * 3 + 2]? = some (.string ⟨(L[i]).2.2.toArray⟩)
  | p :: L, 0, _ => by simp [encells]
  | p :: L, i + 1, h => by
    have ih := encells_at L i (by simpa using h)
    have e : encells (p :: L) = .int .u64 (p.1 : Int) :: .string ⟨p.2.1.toArray⟩ :: .string ⟨p.2.2.toArray⟩ :: encells L := by simp [encells]
    rw [e, show (i + 1) * 3 = i * 3 + 1 + 1 + 1 by omega]
    simpa using ih
/-- the document's entries at an address -/
def Res (w : World) (A : Option Addr) (L : List En) : Prop :=
  L = [] ∨ ∃ b, A = some ⟨b, 0, none⟩ ∧ b < w.heap.size ∧ ∀ i (h : i < L.length), w.cell? ⟨b, i * 3, none⟩ = some (.int .u64 ((L[i]).1 : Int)) ∧ w.cell? ⟨b, i * 3 + 1, none⟩ = some (.string ⟨(L[i]).2.1.toArray⟩) ∧ w.cell? ⟨b, i * 3 + 2, none⟩ = some (.string ⟨(L[i]).2.2.toArray⟩)
theorem Res.below {w w' : World} {A : Option Addr} {L : List En} (h : Res w A L) (hb : Below w.heap.size w w') : Res w' A L := by
  rcases h with h | ⟨b, rfl, hlt, hc⟩
  · exact .inl h
  · refine .inr ⟨b, rfl, Nat.lt_of_lt_of_le hlt hb.size, fun i hi => ?_⟩
    exact ⟨(hb.cell (p := ⟨b, i * 3, none⟩) hlt).trans (hc i hi).1, (hb.cell (p := ⟨b, i * 3 + 1, none⟩) hlt).trans (hc i hi).2.1, (hb.cell (p := ⟨b, i * 3 + 2, none⟩) hlt).trans (hc i hi).2.2⟩
theorem Res.at {w : World} {A : Option Addr} {L : List En} (h : Res w A L) {j : Nat} (hj : j < L.length) : ∃ b, A = some ⟨b, 0, none⟩ ∧ b < w.heap.size ∧
    w.cell? ⟨b, j * 3, none⟩ = some (.int .u64 ((L[j]).1 : Int)) ∧ w.cell? ⟨b, j * 3 + 1, none⟩ = some (.string ⟨(L[j]).2.1.toArray⟩) ∧ w.cell? ⟨b, j * 3 + 2, none⟩ = some (.string ⟨(L[j]).2.2.toArray⟩) := by
  rcases h with rfl | ⟨b, rfl, hlt, hc⟩
  · simp at hj
  · exact ⟨b, rfl, hlt, hc j hj⟩
theorem res_own {w : World} {B : Nat} {v : Value} {L : List En} (h : w.ownsRow B 72 3 v L.length (encells L)) : ∃ A c, v = .slice A L.length c ∧ L.length ≤ c ∧ Res w A L ∧ NewIn B w A := by
  obtain ⟨A, c, rfl, hc, hr⟩ := row_reads3 h
  refine ⟨A, c, rfl, hc, ?_, own_new h⟩
  rcases Nat.eq_zero_or_pos L.length with h0 | h0
  · exact .inl (List.eq_nil_of_length_eq_zero h0)
  · obtain ⟨g, rfl, _, hg, hc⟩ := hr h0
    refine .inr ⟨g, rfl, hg, fun i hi => ?_⟩
    rw [hc _ (by omega), hc _ (by omega), hc _ (by omega)]
    exact encells_at L i hi
def tinyE (L : List En) : Bool := L.all fun e => decide (e.2.1.length ≤ 60) && decide (e.2.2.length ≤ 60)
theorem tinyE_take {L : List En} {n : Nat} (h : n < L.length) : tinyE (L.take (n + 1)) = (tinyE (L.take n) && (decide ((L[n]).2.1.length ≤ 60) && decide ((L[n]).2.2.length ≤ 60))) := by
  rw [List.take_succ_eq_append_getElem h]
  simp only [tinyE, List.all_append, List.all_cons, List.all_nil, Bool.and_true]
theorem tinyE_no {L : List En} {n : Nat} (h : n < L.length) (hn : (decide ((L[n]).2.1.length ≤ 60) && decide ((L[n]).2.2.length ≤ 60)) = false) : tinyE L = false := by
  rw [Bool.eq_false_iff]
  intro e
  have := List.all_eq_true.1 e _ (List.getElem_mem h)
  rw [hn] at this
  cases this
theorem tinyE_all {L : List En} (h : tinyE L = true) : ∀ e ∈ L, e.2.1.length ≤ 60 ∧ e.2.2.length ≤ 60 := fun e he => by
  have := List.all_eq_true.1 h e he
  simpa using this
end Go.Proofs.YtmbdimonfdncpaaGreatDoor
