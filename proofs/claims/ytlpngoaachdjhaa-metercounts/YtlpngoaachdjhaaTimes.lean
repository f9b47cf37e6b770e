/-
  Rows of digits that a call owns; contracts of the reference's times, length, Bound, Held.
-/
import Derived.Test.YtlpngoaachdjhaaNums
import Derived.Maps.AppendAt
namespace Go.Proofs.Ytlpngoaachdjhaa
open Go.RowKit
set_option maxHeartbeats 400000
set_option maxRecDepth 100000
theorem Try.info3 : (Try.prog.info? 3).map (fun i => (i.zero, i.size, i.bytes)) = some (some (.int .i64 0), 1, 8) := by kernel_rfl
theorem grown_then {w a b : World} {r : Option Nat} (h : w.grownBy a none) (k : a.grownBy b r) : w.grownBy b r :=
  ⟨k.os.trans h.os, k.tape.trans h.tape, k.output.trans h.output, Nat.le_trans h.size k.size, fun i hi hr => (k.block i (Nat.lt_of_lt_of_le hi h.size) hr).trans (h.block i hi (by simp))⟩
/-- append of one number that was laid into a block of its own just ahead -/
theorem list_app1 {B : Nat} {w : World} {ops : Array Oper} {rest : List Oper} {o : Oper} {a : Act} {Q : Exit → Act → World → Prop} (t e : TypeId) (z : Value) (bytes : Nat) (hu : Try.prog.underlying t = some (.slice e)) (hinf : (Try.prog.info? e).map (fun i => (i.zero, i.size, i.bytes)) = some (some z, 1, bytes)) (hz : z.cells.size = 1) (hby : bytes ≤ 100)
    (hgd : o.guard = none) (s x : Operand) (ho : o.op = .call { callee := .builtin .append, args := #[s, x], argTypes := #[t, t] }) (v : Value) (n : Nat) (xs : List Value) (h : w.ownsRow B e 1 v n xs) (x1 : Value) (h1 : x1.oneCell' = true) (hs : a.eval s = v) (hx : a.eval x = .slice (some ⟨w.heap.size, 0, none⟩) 1 1) (hn : n ≤ 1000) (hB : B ≤ w.heap.size)
    (hK : ∀ v' w', w'.ownsRow B e 1 v' (n + 1) (xs ++ [x1]) → w.grownBy w' v.ownBlock → wpList Try.prog ops Q rest (a.put o.dst v') w') : wpList Try.prog ops Q (o :: rest) a (w.alloc (.cells #[x1] e)) := by
  obtain ⟨i0, hi, hz0, hz1, hz2⟩ := info_parts hinf
  have hnew : (w.alloc (.cells #[x1] e)).heap[w.heap.size]? = some (.cells #[x1] e (0, 0)) := heap_alloc_new w _
  obtain ⟨v', w', hr, hown, hg, _⟩ := run_append_own (P := Try.prog) (w.alloc (.cells #[x1] e)) B t o.type e i0 z 1 bytes hu hi hz0 hz1 hz2 hz (by decide) v n xs (World.ownsRow.alloc h _) ⟨w.heap.size, 0, none⟩ 1 1 [x1] rfl
    (by
      intro j u hj
      rw [Go.WideShapes.add_plain, Nat.zero_add, cell_of_row _ w.heap.size j _ e (0, 0) hnew, ← hj]
      simp)
    (by
      intro u hu
      rcases List.mem_cons.1 hu with rfl | hu
      · exact h1
      · cases hu)
    (by unfold maxLen; omega) (by have := Nat.mul_le_mul (show n + 1 ≤ 1001 by omega) hby; omega) (by simp; omega)
  have hg2 : w.grownBy w' v.ownBlock := grown_then (World.grownBy_alloc w _ none) hg
  refine wpList_plain hgd fun _ hk => ?_
  unfold Oper.wp execOp
  simp only [ho, resolve, invoke, builtin, Sem.run_bind, Sem.run_pure, Result.andThen_ok, List.map_toArray, List.map_cons, List.map_nil, hs, hx, hr]
  exact hk _ _ (hK v' w' hown hg2)
/-- how a row reads -/
theorem row_reads {w : World} {B e n : Nat} {v : Value} {xs : List Value} (h : w.ownsRow B e 1 v n xs) : ∃ A c, v = .slice A n c ∧ n ≤ c ∧ (0 < n → ∃ g, A = some ⟨g, 0, none⟩ ∧ g < w.heap.size ∧ ∀ j, j < n → w.cell? ⟨g, j, none⟩ = xs[j]?) := by
  obtain ⟨hl, h⟩ := h
  rcases h with ⟨rfl, rfl⟩ | ⟨g, cap, cur, rfl, hb, hg, hc1, _, hsz, htk⟩
  · exact ⟨none, 0, rfl, Nat.le_refl _, fun h => by omega⟩
  · refine ⟨_, _, rfl, hc1, fun _ => ⟨g, rfl, (Array.getElem?_eq_some_iff.1 hg).1, fun j hj => ?_⟩⟩
    rw [cell_of_row w g j cur e (0, 0) hg, ← htk, List.getElem?_take_of_lt (by omega)]
    simp
/-- the slice at A reads as the digits L, in blocks that are there -/
def Digs (w : World) (A : Option Addr) (L : List Nat) : Prop :=
  L = [] ∨ ∃ b off, A = some ⟨b, off, none⟩ ∧ b < w.heap.size ∧ ∀ i (h : i < L.length), w.cell? ⟨b, off + i, none⟩ = some (.int .i64 (L[i] : Int))
theorem Digs.below {w w' : World} {A : Option Addr} {l : List Nat} (h : Digs w A l) (hb : Below w.heap.size w w') : Digs w' A l := by
  rcases h with h | ⟨b, off, rfl, hlt, hc⟩
  · exact .inl h
  · exact .inr ⟨b, off, rfl, Nat.lt_of_lt_of_le hlt hb.size, fun i hi => (hb.cell (p := ⟨b, off + i, none⟩) hlt).trans (hc i hi)⟩
theorem Digs.at_ {w : World} {A : Option Addr} {l : List Nat} (h : Digs w A l) (k : Nat) (hk : k < l.length) :
    ∃ b off, A = some ⟨b, off, none⟩ ∧ w.cell? ⟨b, off + k, none⟩ = some (.int .i64 (l[k] : Int)) := by
  rcases h with h | ⟨b, off, rfl, _, hc⟩
  · subst h; simp at hk
  · exact ⟨b, off, rfl, hc k hk⟩
def icells (l : List Nat) : List Value := l.map (fun (z : Nat) => Value.int .i64 (z : Int))
theorem icells_snoc (l : List Nat) (z : Nat) : icells (l ++ [z]) = icells l ++ [.int .i64 (z : Int)] := by simp [icells]
theorem digs_own {w : World} {B n : Nat} {v : Value} {l : List Nat} (h : w.ownsRow B 3 1 v n (icells l)) (hn : l.length = n) : ∃ A c, v = .slice A l.length c ∧ l.length ≤ c ∧ Digs w A l := by
  subst hn
  obtain ⟨A, c, rfl, hc, hr⟩ := row_reads h
  refine ⟨A, c, rfl, hc, ?_⟩
  rcases Nat.eq_zero_or_pos l.length with h0 | h0
  · exact .inl (List.eq_nil_of_length_eq_zero h0)
  · obtain ⟨g, rfl, hg, hcl⟩ := hr h0
    refine .inr ⟨g, 0, rfl, hg, fun i hi => ?_⟩
    rw [Nat.zero_add, hcl i hi]
    simp [icells, hi]
/-- how far the loop of times has come: j digits made, k to be carried -/
structure Far (L D : List Nat) (n j k : Nat) : Prop where
  len : D.length = j
  dig : ∀ d ∈ D, d < 65536
  eq : val D + k * 65536 ^ j = val (L.take j) * n
  in_ : j ≤ L.length → k < n
  one : j = L.length + 1 → k < 32
  two : j = L.length + 2 → k = 0
theorem Far.next {L D : List Nat} {n j k : Nat} (h : Far L D n j k) (hj : j < L.length) (x p c : Nat) (hx : x = L[j]) (hx2 : x < 65536) (hp : p = x * n) (hc : c = k + p) : Far L (D ++ [c % 65536]) n (j + 1) (c / 65536) := by
  have hk := h.in_ (by omega)
  have hp2 : p ≤ 65535 * n := by rw [hp]; exact Nat.mul_le_mul_right _ (by omega)
  refine ⟨by simp [h.len], ?_, ?_, fun _ => by omega, fun e => by omega, fun e => by omega⟩
  · intro d hd
    rcases List.mem_append.1 hd with g | g
    · exact h.dig d g
    · simp at g
      omega
  · rw [times_out D c j h.len, take_next hj, ← hx, hc, hp]
    exact times_in D k (65536 ^ j) (val (L.take j)) n x h.eq
theorem Far.past {L D : List Nat} {n j k : Nat} (h : Far L D n j k) (hn : n ≤ 1048577) (hj : L.length ≤ j) (hk : 0 < k) (hj2 : j ≤ L.length + 2) : Far L (D ++ [k % 65536]) n (j + 1) (k / 65536) := by
  have h0 := h.in_
  have h1 := h.one
  have h2 := h.two
  refine ⟨by simp [h.len], ?_, ?_, fun _ => by omega, fun e => by omega, fun e => by omega⟩
  · intro d hd
    rcases List.mem_append.1 hd with g | g
    · exact h.dig d g
    · simp at g
      omega
  · rw [times_out D k j h.len, h.eq, List.take_of_length_le hj, List.take_of_length_le (by omega)]
theorem times_any (L : List Nat) (A : Option Addr) (c : Nat) (n : Nat) (w : World) (hb : Digs w A L) (hL : L.length ≤ 100) (hd : ∀ d ∈ L, d < 65536) (h1 : 1 ≤ n) (hn : n ≤ 1048577) :
    Calls Try.prog 15 #[.slice A L.length c, .int .i64 (n : Int)] w fun e w' => (∃ (A' : Option Addr) (c' : Nat) (D : List Nat), e = .returned (.slice A' D.length c') ∧ D.length ≤ c' ∧ Digs w' A' D ∧ D.length ≤ L.length + 2 ∧ (∀ d ∈ D, d < 65536) ∧ val D = val L * n) ∧ Below w.heap.size w w' := by
  have HB := Lib.hid hb; clear hb
  have HD := Lib.hid hd; clear hd
  go_enter Try.func15, Try.ntmps15
  go_wp2_with fail
  go_loopw [5, 6, 7] (fun v cc i wr => ∃ (j k : Nat) (D : List Nat), i = .int .i64 j ∧ cc = .int .i64 k ∧ j ≤ L.length + 2 ∧ k < 1048577 ∧ Hid (Far L D n j k) ∧ Hid (Below w.heap.size w wr ∧ wr.ownsRow w.heap.size 3 1 v j (icells D))) (fun _ cc i _ => (L.length - (intOf i).toNat) * 4194304 + (intOf cc).toNat)
  case atStart => exact ⟨0, 0, [], rfl, rfl, by omega, by omega, ⟨rfl, by simp, by simp [val], fun _ => by omega, fun e => by omega, fun e => by omega⟩, Below.refl _ _, rfl, .inl ⟨rfl, rfl⟩⟩
  case round =>
    obtain ⟨j, k, D, rfl, rfl, hj, hk, hfar, hown⟩ := hrel
    by_cases hlt : j < L.length
    · obtain ⟨b, off, rfl, hcell⟩ := (HB.out.below hown.out.1).at_ j hlt
      have hx2 : L[j] < 65536 := HD.out _ (List.getElem_mem hlt)
      obtain ⟨x, hx⟩ : ∃ x, x = L[j] := ⟨_, rfl⟩
      rw [← hx] at hcell hx2
      obtain ⟨p, hp⟩ : ∃ p, p = x * n := ⟨_, rfl⟩
      have hpl : p ≤ 65535 * 1048577 := by rw [hp]; exact Nat.mul_le_mul (by omega) hn
      have m1 : (x : Int) * (n : Int) = (p : Int) := by rw [hp, Int.natCast_mul]
      obtain ⟨c2, hc2⟩ : ∃ c2, c2 = k + p := ⟨_, rfl⟩
      have HN : Hid (Far L (D ++ [c2 % 65536]) n (j + 1) (c2 / 65536)) := hfar.out.next hlt x p c2 hx hx2 hp hc2
      have m2 : (k : Int) + (p : Int) = (c2 : Int) := by omega
      have hcl : c2 < 100000000000 := by omega
      obtain ⟨d, hdd⟩ : ∃ d, d = c2 % 65536 := ⟨_, rfl⟩
      obtain ⟨q, hqq⟩ : ∃ q, q = c2 / 65536 := ⟨_, rfl⟩
      have m3 : (c2 : Int).tmod 65536 = (d : Int) := by rw [Int.tmod_eq_emod_of_nonneg (by omega)]; omega
      have m4 : (c2 : Int) % 65536 = (d : Int) := by omega
      have m5 : (c2 : Int).tdiv 65536 = (q : Int) := by rw [Int.tdiv_eq_ediv_of_nonneg (by omega)]; omega
      have m6 : (c2 : Int) / 65536 = (q : Int) := by omega
      rw [← hdd, ← hqq] at HN
      have hql : q < 1048577 := by
        have := HN.out.in_ (by omega)
        omega
      clear hx hp hc2 hdd hqq hfar
      go_wp2_with (at_builtin; refine list_app1 (B := w.heap.size) (w := wr) 37 3 _ 8 Try.underlying37 Try.info3 rfl (by decide) rfl (.tmp 30) (.tmp 33) rfl _ j _ hown.out.2 (.int .i64 (d : Int)) rfl rfl rfl (by omega) hown.out.1.size ?_; intro v1 w3 ho3 hg3)
      go_roundw
      case rel =>
        refine ⟨j + 1, q, D ++ [d], by go_num, rfl, by omega, hql, HN.out, hown.out.1.grown hg3 (by have := hown.out.1.size; omega) (fun q hq => by have := (hown.out.2.lt q hq).1; omega), ?_⟩
        rw [icells_snoc]
        exact ho3
      case measure => simp [intOf]; omega
    · by_cases hk0 : 0 < k
      · have HN : Hid (Far L (D ++ [k % 65536]) n (j + 1) (k / 65536)) := hfar.out.past hn (by omega) hk0 hj
        have hj1 : j + 1 ≤ L.length + 2 := by
          have := hfar.out.two
          omega
        obtain ⟨d, hdd⟩ : ∃ d, d = k % 65536 := ⟨_, rfl⟩
        obtain ⟨q, hqq⟩ : ∃ q, q = k / 65536 := ⟨_, rfl⟩
        have m3 : (k : Int).tmod 65536 = (d : Int) := by rw [Int.tmod_eq_emod_of_nonneg (by omega)]; omega
        have m4 : (k : Int) % 65536 = (d : Int) := by omega
        have m5 : (k : Int).tdiv 65536 = (q : Int) := by rw [Int.tdiv_eq_ediv_of_nonneg (by omega)]; omega
        have m6 : (k : Int) / 65536 = (q : Int) := by omega
        rw [← hdd, ← hqq] at HN
        have hql : q < k := by omega
        clear hdd hqq hfar HB
        go_wp2_with (at_builtin; refine list_app1 (B := w.heap.size) (w := wr) 37 3 _ 8 Try.underlying37 Try.info3 rfl (by decide) rfl (.tmp 30) (.tmp 33) rfl _ j _ hown.out.2 (.int .i64 (d : Int)) rfl rfl rfl (by omega) hown.out.1.size ?_; intro v1 w3 ho3 hg3)
        go_roundw
        case rel =>
          refine ⟨j + 1, q, D ++ [d], by go_num, rfl, by omega, by omega, HN.out, hown.out.1.grown hg3 (by have := hown.out.1.size; omega) (fun q hq => by have := (hown.out.2.lt q hq).1; omega), ?_⟩
          rw [icells_snoc]
          exact ho3
        case measure => simp [intOf]; omega
      · obtain rfl : k = 0 := by omega
        have hv : val D = val L * n := by
          have e := hfar.out.eq
          rw [List.take_of_length_le (by omega)] at e
          omega
        obtain ⟨A', c', rfl, hc, hI⟩ := digs_own hown.out.2 hfar.out.len
        have hlen : D.length ≤ L.length + 2 := by have := hfar.out.len; omega
        have HV := Lib.hid hv; clear hv
        have HC := Lib.hid hc; clear hc
        have HI := Lib.hid hI; clear hI
        have HLN := Lib.hid hlen; clear hlen
        go_wp2_with fail
        go_ret
        exact ⟨⟨A', c', D, rfl, HC.out, HI.out, HLN.out, hfar.out.dig, HV.out⟩, hown.out.1⟩
end Go.Proofs.Ytlpngoaachdjhaa
