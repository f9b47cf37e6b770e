/-
  Appends of elements of any size to a row that the call owns; contracts of Clone and Branch.
-/
import Derived.Test.YtmbdimonfdncpaaGreatDoorKins
import Derived.Test.YtmbdimonfdncpaaGreatDoorOpen
namespace Go.Proofs.YtmbdimonfdncpaaGreatDoor
open Go.RowKit
set_option maxHeartbeats 4000000
set_option maxRecDepth 100000
/-- append of some elements that lie in memory -/
theorem list_appN {B : Nat} {w : World} {ops : Array Oper} {rest : List Oper} {o : Oper} {a : Act} {Q : Exit → Act → World → Prop} (t e : TypeId) (z : Value) (size bytes : Nat) (hu : Tryz.prog.underlying t = some (.slice e)) (hinf : (Tryz.prog.info? e).map (fun i => (i.zero, i.size, i.bytes)) = some (some z, size, bytes)) (hz : z.cells.size = size) (hs0 : 0 < size) (hby : bytes ≤ 200)
    (hgd : o.guard = none) (s x : Operand) (ho : o.op = .call { callee := .builtin .append, args := #[s, x], argTypes := #[t, t] }) (v : Value) (n : Nat) (xs : List Value) (h : w.ownsRow B e size v n xs) (p : Addr) (m c : Nat) (news : List Value) (hl : news.length = m * size) (hnews : ∀ j u, news[j]? = some u → w.cell? (p.add j) = some u) (h1 : ∀ u ∈ news, u.oneCell' = true)
    (hs : a.eval s = v) (hx : a.eval x = .slice (some p) m c) (hn : n + m ≤ 100000) (hB : B ≤ w.heap.size)
    (hK : ∀ v' w', w'.ownsRow B e size v' (n + m) (xs ++ news) → w.grownBy w' v.ownBlock → wpList Tryz.prog ops Q rest (a.put o.dst v') w') : wpList Tryz.prog ops Q (o :: rest) a w := by
  obtain ⟨i0, hi, hz0, hz1, hz2⟩ := info_parts hinf
  obtain ⟨v', w', hr, hown, hg, _⟩ := run_append_own (P := Tryz.prog) w B t o.type e i0 z size bytes hu hi hz0 hz1 hz2 hz hs0 v n xs h p m c news hl hnews h1
    (by unfold maxLen; omega) (by have := Nat.mul_le_mul hn hby; omega) hB
  refine wpList_plain hgd fun _ hk => ?_
  unfold Oper.wp execOp
  simp only [ho, resolve, invoke, builtin, Sem.run_bind, Sem.run_pure, Result.andThen_ok, List.map_toArray, List.map_cons, List.map_nil, hs, hx, hr]
  exact hk _ _ (hK v' w' hown hg)
/-- how a row of elements of one cell reads -/
theorem row_reads1 {w : World} {B e n : Nat} {v : Value} {xs : List Value} (h : w.ownsRow B e 1 v n xs) : xs.length = n ∧ ∃ A c, v = .slice A n c ∧ n ≤ c ∧ (0 < n → ∃ g, A = some ⟨g, 0, none⟩ ∧ B ≤ g ∧ g < w.heap.size ∧ ∀ j, j < n → w.cell? ⟨g, j, none⟩ = xs[j]?) := by
  obtain ⟨hl, h⟩ := h
  refine ⟨by rw [hl, Nat.mul_one], ?_⟩
  rcases h with ⟨rfl, rfl⟩ | ⟨g, cap, cur, rfl, hb, hg, hc1, _, hsz, htk⟩
  · exact ⟨none, 0, rfl, Nat.le_refl _, fun h => by omega⟩
  · refine ⟨_, _, rfl, hc1, fun _ => ⟨g, rfl, hb, (Array.getElem?_eq_some_iff.1 hg).1, fun j hj => ?_⟩⟩
    rw [cell_of_row w g j cur e (0, 0) hg, ← htk, List.getElem?_take_of_lt (by omega)]
    simp
theorem Tryz.info26 : (Tryz.prog.info? 34).map (fun i => (i.zero, i.size, i.bytes)) = some (some .nilIface, 1, 16) := by kernel_rfl
/-- the slice at A reads as so many nodes -/
def Nds (F : Nat → Prop) (w : World) (A : Option Addr) (k : Nat) (kid : Nat → Nd) : Prop :=
  k = 0 ∨ ∃ (g : Nat) (vs : List Value), A = some ⟨g, 0, none⟩ ∧ g < w.heap.size ∧ vs.length = k ∧ ∀ i (h : i < vs.length), w.cell? ⟨g, i, none⟩ = some vs[i] ∧ Nde F w (kid i) vs[i]
theorem Nde.one {F : Nat → Prop} {w : World} {x : Nd} {v : Value} (h : Nde F w x v) : v.oneCell' = true := by
  rcases h.nil_iff with ⟨_, rfl⟩ | ⟨_, t, b, rfl⟩ <;> rfl
/-- a row of no nodes, just made -/
theorem own_none (w : World) : (w.alloc (.cells #[] 34)).ownsRow w.heap.size 34 1 (.slice (some ⟨w.heap.size, 0, none⟩) 0 0) 0 [] :=
  ⟨rfl, .inr ⟨w.heap.size, 0, #[], rfl, Nat.le_refl _, heap_alloc_new w _, Nat.le_refl _, Nat.zero_le _, rfl, rfl⟩⟩
theorem ne_nil62 (a : Addr) (n c : Nat) (w : World) : (binOp .eql 102 (.slice (some a) n c) (.slice none 0 0)).run Tryz.prog w = .ok (.bool false) w := by kernel_rfl
theorem clone_any {w : World} {g k c : Nat} {vs : List Value} (hg : g < w.heap.size) (hk : vs.length = k) (h0 : 0 < k) (hk2 : k ≤ 1000) (hc : ∀ i (h : i < vs.length), w.cell? ⟨g, i, none⟩ = some vs[i]) (h1 : ∀ u ∈ vs, u.oneCell' = true) :
    Calls Tryz.prog 76 #[.slice (some ⟨g, 0, none⟩) k c] w fun e w' => ∃ g' c', e = .returned (.slice (some ⟨g', 0, none⟩) k c') ∧ w.heap.size ≤ g' ∧ g' < w'.heap.size ∧ (∀ i (h : i < vs.length), w'.cell? ⟨g', i, none⟩ = some vs[i]) ∧ Below w.heap.size w w' := by
  have hb : Below w.heap.size w (w.alloc (.cells #[] 34)) := (Below.refl _ _).alloc (Nat.le_refl _) _
  have how := own_none w
  have hsz : w.heap.size ≤ (w.alloc (.cells #[] 34)).heap.size := hb.size
  have hcl : ∀ j u, vs[j]? = some u → (w.alloc (.cells #[] 34)).cell? ((⟨g, 0, none⟩ : Addr).add j) = some u := by
    intro j u hj
    obtain ⟨hlt, rfl⟩ := List.getElem?_eq_some_iff.1 hj
    rw [Go.WideShapes.add_plain, Nat.zero_add]
    exact (hb.cell (p := ⟨g, j, none⟩) hg).trans (hc j hlt)
  have HB := Lib.hid hb; clear hb
  have HO := Lib.hid how; clear how
  have HCL := Lib.hid hcl; clear hcl
  have H1 := Lib.hid h1; clear h1
  have HK := Lib.hid (And.intro hk (And.intro h0 hk2))
  have HSZ := Lib.hid hsz; clear hsz
  clear hc hg hk h0 hk2
  have hne := ne_nil62 ⟨g, 0, none⟩ k c w
  go_enter Tryz.func76, Tryz.ntmps76
  go_wp2_with (at_builtin; refine list_appN (B := w.heap.size) 102 34 _ 1 16 Tryz.underlying102 Tryz.info26 rfl (by decide) (by decide) rfl (.tmp 5) (.tmp 6) rfl _ 0 [] HO.out ⟨g, 0, none⟩ k c vs (by rw [HK.out.1, Nat.mul_one]) HCL.out H1.out rfl rfl (by have := HK.out.2.2; omega) HSZ.out ?_; intro v1 w3 ho3 hg3)
  have hg4 : Below w.heap.size w w3 := HB.out.grown hg3 HSZ.out (fun q hq => by have := (HO.out.lt q hq).1; omega)
  rw [Nat.zero_add, List.nil_append] at ho3
  obtain ⟨hlen, A', c', rfl, hcc, hrd⟩ := row_reads1 ho3
  obtain ⟨g', rfl, hg1, hg2, hrd⟩ := hrd HK.out.2.1
  have HR := Lib.hid (And.intro hg1 (And.intro hg2 hrd)); clear hg1 hg2 hrd
  have H4 := Lib.hid hg4; clear hg4
  have HL := Lib.hid hlen; clear hlen
  clear ho3 hg3 hcc
  go_wp2_with fail
  go_ret
  exact ⟨g', c', rfl, HR.out.1, HR.out.2.1, fun i hi => by rw [HR.out.2.2 i (by have := HL.out; omega), List.getElem?_eq_getElem hi], H4.out⟩
/-- are there nodes at the first so many places? -/
def someTo (kid : Nat → Nd) : Nat → Bool
  | 0 => true
  | n + 1 => someTo kid n && ((kid n).kind != 0)
theorem someTo_iff (kid : Nat → Nd) : ∀ n, someTo kid n = true ↔ ∀ i, i < n → kid i ≠ .none
  | 0 => by simp [someTo]
  | n + 1 => by
    rw [someTo, Bool.and_eq_true, someTo_iff kid n]
    have hk : ((kid n).kind != 0) = true ↔ kid n ≠ .none := by cases kid n <;> simp [Nd.kind]
    rw [hk]
    constructor
    · rintro ⟨h1, h2⟩ i hi
      rcases Nat.lt_or_ge i n with g | g
      · exact h1 i g
      · obtain rfl : i = n := by omega
        exact h2
    · exact fun h => ⟨fun i hi => h i (by omega), h n (by omega)⟩
theorem someTo_no {kid : Nat → Nd} {j : Nat} (h : kid j = .none) : ∀ {n : Nat}, j < n → someTo kid n = false := by
  intro n hn
  cases e : someTo kid n with
  | false => rfl
  | true => exact absurd h ((someTo_iff kid n).1 e j hn)
/-- a branch, if it may be -/
def Nd.branch (m k : Nat) (kid : Nat → Nd) : Nd := if (decide (0 < k) && decide ((Bt.lst m 32).length = k) && someTo kid k) = true then .bran m k kid else .none
/-- what a method of a node without arguments tells -/
def Meth (F : Nat → Prop) (w : World) (v : Value) (name : String) (z : Int) : Prop := ∃ t b f, v = .iface t (.pointer (some b)) ∧ (∀ W, (method 269 t (.pointer (some b)) name).run Tryz.prog W = .ok (f, .pointer (some b)) W) ∧ (∀ args W, (callFunc f args).run Tryz.prog W = .ok (.enter f args) W) ∧
  ∀ W, Kept F w W → Calls Tryz.prog f #[.pointer (some b)] W fun e w' => e = .returned (.int .i64 z) ∧ w' = W
theorem turned {N : Nat} {args : Array Value} {w : World} {v : Value} (h : Calls Tryz.prog N args w fun e w' => e = .returned v ∧ w = w') : Calls Tryz.prog N args w fun e w' => e = .returned v ∧ w' = w := h.mono fun _ _ h => ⟨h.1, h.2.symm⟩
theorem count_meth {F : Nat → Prop} {w : World} {x : Nd} {v : Value} (h : Nde F w x v) (ho : x.ok) (hx : x ≠ .none) : Meth F w v "Count" (x.cnt : Int) := by
  cases x with
  | none => exact absurd rfl hx
  | leaf h' p =>
    obtain ⟨b, _, _, _, _, rfl, _⟩ := h
    exact ⟨105, _, 122, rfl, count84 _, enters_of Tryz.func122 (by kernel_rfl) rfl, fun W _ => turned (countOf84 _ W)⟩
  | buck h' L =>
    obtain ⟨b, p, t, rfl, hb, hr, ht, _, rfl⟩ := h
    refine ⟨110, _, 124, rfl, count91 _, enters_of Tryz.func124 (by kernel_rfl) rfl, fun W hW => turned ?_⟩
    have := countOf91 ((hW b hb (Array.getElem?_eq_some_iff.1 hr).1).trans hr) (ht.kept hW) (by rw [← Tr.length]; have := ho.2.2.1; omega)
    rw [← Tr.length] at this
    exact this
  | bran m k kid =>
    obtain ⟨b, g, c, rfl, hb, hr, _⟩ := h
    exact ⟨113, _, 126, rfl, count100 _, enters_of Tryz.func126 (by kernel_rfl) rfl, fun W hW => turned (countOf100 ((hW b hb (Array.getElem?_eq_some_iff.1 hr).1).trans hr))⟩
theorem kind_meth {F : Nat → Prop} {w : World} {x : Nd} {v : Value} (h : Nde F w x v) (hx : x ≠ .none) : Meth F w v "Kind" (x.kind : Int) := by
  cases x with
  | none => exact absurd rfl hx
  | leaf h' p =>
    obtain ⟨b, _, _, _, _, rfl, _⟩ := h
    exact ⟨105, _, 123, rfl, kind84 _, enters_of Tryz.func123 (by kernel_rfl) rfl, fun W _ => turned (kindOf84 _ W)⟩
  | buck h' L =>
    obtain ⟨b, p, t, rfl, _⟩ := h
    exact ⟨110, _, 125, rfl, kind91 _, enters_of Tryz.func125 (by kernel_rfl) rfl, fun W _ => turned (kindOf91 _ W)⟩
  | bran m k kid =>
    obtain ⟨b, g, c, rfl, _⟩ := h
    exact ⟨113, _, 127, rfl, kind100 _, enters_of Tryz.func127 (by kernel_rfl) rfl, fun W _ => turned (kindOf100 _ W)⟩
theorem kept_drew (F : Nat → Prop) (w : World) (n : Nat) : Kept F w (w.drewN n) := fun _ _ _ => rfl
theorem branch_any {F : Nat → Prop} {w : World} {A : Option Addr} {m k : Nat} {kid : Nat → Nd} (c : Nat) (hF : Fut F w) (hm : m < 4294967296) (hA : Nds F w A k kid) (hk : k ≤ 100) (ho : ∀ i, i < k → (kid i).ok) (hs : sumTo (fun i => (kid i).cnt) k ≤ 4611686018427387904) :
    Calls Tryz.prog 52 #[.int .u32 (m : Int), .slice A k c] w fun e w' => ∃ v, e = .returned v ∧ Nde F w' (Nd.branch m k kid) v ∧ Below w.heap.size w w' := by
  have hcnt := fun W => Bt.count_any m W hm
  rw [← Bt.cnt_lst] at hcnt
  obtain ⟨l, hl⟩ : ∃ l, l = (Bt.lst m 32).length := ⟨_, rfl⟩
  rw [← hl] at hcnt
  have HC := Lib.hid hcnt; clear hcnt
  rcases Nat.eq_zero_or_pos k with h0 | h0
  · subst h0
    have e : Nd.branch m 0 kid = .none := by unfold Nd.branch; simp
    rw [e]
    clear hA ho hs hl e hF
    go_enter Tryz.func52, Tryz.ntmps52
    go_wp2_with fail
    go_ret
    exact ⟨_, rfl, rfl, Below.refl _ _⟩
  · rcases hA with h | ⟨g, vs, rfl, hg, hvl, hvs⟩
    · omega
    have k0 : ((k : Int) == 0) = false := by simpa using (show ¬ (k : Int) = 0 by omega)
    by_cases hkl : l = k
    · have kl : ((k : Int) != (l : Int)) = false := by rw [hkl]; simp
      have hbr : someTo kid k = true → Nd.branch m k kid = .bran m k kid := fun e => by
        unfold Nd.branch
        rw [← hl, hkl, e, decide_eq_true h0, decide_eq_true rfl]; rfl
      have hno : someTo kid k = false → Nd.branch m k kid = .none := fun e => by
        unfold Nd.branch
        rw [e, Bool.and_false, if_neg (by decide)]
      have hcl := fun W (hW : Below w.heap.size w W) => clone_any (c := c) (Nat.lt_of_lt_of_le hg hW.size) hvl h0 (by omega) (fun i hi => (hW.cell (p := ⟨g, i, none⟩) hg).trans (hvs i hi).1) (fun u hu => by
        obtain ⟨i, hi, rfl⟩ := List.getElem_of_mem hu
        exact (hvs i hi).2.one)
      have HBR := Lib.hid hbr; clear hbr
      have HNO := Lib.hid hno; clear hno
      have HCL := Lib.hid hcl; clear hcl
      have HV := Lib.hid hvs; clear hvs
      have HVL := Lib.hid hvl; clear hvl
      have HO := Lib.hid ho; clear ho
      have HS := Lib.hid hs; clear hs
      have HF := Lib.hid hF; clear hF
      have HG := Lib.hid hg; clear hg
      clear hl hkl
      go_enter Tryz.func52, Tryz.ntmps52
      go_wp2_with fail
      refine (HC.out _).mono ?_
      rintro e w' ⟨rfl, n, rfl⟩
      go_wp2_with fail
      go_loop [5, 20] (fun a i => ∃ j s : Nat, i = .int .i64 (j : Int) ∧ a = .int .i64 (s : Int) ∧ j ≤ k ∧ Hid (s = sumTo (fun i => (kid i).cnt) j) ∧ Hid (someTo kid j = true)) (fun _ i => k - (intOf i).toNat)
      case atStart => exact ⟨0, 0, rfl, rfl, by omega, rfl, rfl⟩
      case round =>
        obtain ⟨j, s, rfl, rfl, hj, hsum, hsome⟩ := hrel
        by_cases hlt : j < k
        · obtain ⟨hc0, hn0⟩ := HV.out j (by have := HVL.out; omega)
          have hc0 : (w.drewN n).cell? ⟨g, j, none⟩ = some (vs[j]'(by have := HVL.out; omega)) := hc0
          have hmd := made_any (hn0.kept (kept_drew F w n))
          by_cases hx : kid j = .none
          · have hv0 : vs[j]'(by have := HVL.out; omega) = .nilIface := by
              rw [hx] at hn0
              exact hn0
            rw [hx] at hmd
            rw [hv0] at hc0 hmd
            have HMD := Lib.hid hmd; clear hmd
            have HX := Lib.hid (HNO.out (someTo_no hx hlt))
            clear hn0 hx hv0
            go_wp2_with fail
            refine HMD.out.mono ?_
            rintro e w' ⟨rfl, rfl⟩
            go_wp2_with fail
            change bodyPost Tryz.prog Tryz.f52 (fun e w' => _) Exit.ret _ _
            go_ret
            rw [HX.out]
            exact ⟨_, rfl, rfl, below_drewN (Below.refl _ _) n⟩
          · obtain ⟨t, b, f, hv0, hme, hcf, hcal⟩ := count_meth hn0 (HO.out j hlt) hx
            have hkk : ((kid j).kind != 0) = true := by cases e : kid j <;> first | exact absurd e hx | rfl
            rw [hkk] at hmd
            rw [hv0] at hc0 hmd
            have hsm : sumTo (fun i => (kid i).cnt) (j + 1) = s + (kid j).cnt := by rw [hsum.out]; rfl
            have hle := Nat.le_trans (sumTo_le (fun i => (kid i).cnt) (show j + 1 ≤ k by omega)) HS.out
            rw [hsm] at hle
            obtain ⟨x, hxx⟩ : ∃ x, x = (kid j).cnt := ⟨_, rfl⟩
            simp only [← hxx] at hcal hsm hle
            have hadd := sum_any s x (w.drewN n) hle
            have hso : someTo kid (j + 1) = true := by rw [someTo, hsome.out, hkk]; rfl
            have hcal := hcal (w.drewN n) (kept_drew F w n)
            obtain ⟨s2, hs2⟩ : ∃ s2, s2 = s + x := ⟨_, rfl⟩
            rw [← hs2] at hadd hsm
            have HADD := Lib.hid hadd; clear hadd
            have HCA := Lib.hid hcal; clear hcal
            have HMD := Lib.hid hmd; clear hmd
            have HSM := Lib.hid hsm; clear hsm
            have HSO := Lib.hid hso; clear hso
            clear hn0 hx hkk hle hxx hs2 hsum hsome hv0
            have hm1 := hme (w.drewN n)
            have hm2 := hcf #[.pointer (some b)] (w.drewN n)
            clear hme hcf
            go_wp2_with fail
            refine HMD.out.mono ?_
            rintro e w' ⟨rfl, rfl⟩
            go_wp2_with fail
            refine HCA.out.mono ?_
            rintro e w' ⟨rfl, rfl⟩
            go_wp2_with fail
            refine HADD.out.mono ?_
            rintro e w' ⟨rfl, rfl⟩
            go_wp2_with fail
            go_round
            case rel => exact ⟨j + 1, s2, by go_num, rfl, by omega, HSM.out.symm, HSO.out⟩
            case measure => simp [intOf]; omega
        · obtain rfl : j = k := by omega
          have hb0 : Below w.heap.size w (w.drewN n) := below_drewN (Below.refl _ _) n
          have HX := Lib.hid (HBR.out hsome.out)
          have HS2 := Lib.hid hsum.out
          have J := Lib.hid (HCL.out (w.drewN n) hb0)
          clear hsum hsome HBR HNO HCL hb0
          go_wp2_with fail
          refine J.out.mono ?_
          rintro e w2 ⟨g', c', rfl, hg1, hg2, hcs, hb⟩
          have HB := Lib.hid hb; clear hb
          have HCS := Lib.hid (And.intro hg1 (And.intro hg2 hcs)); clear hg1 hg2 hcs
          go_wp2_with fail
          go_ret
          rw [HX.out]
          have hb1 : Below w.heap.size w w2 := (below_drewN (Below.refl _ _) n).trans HB.out
          have hb2 : Below w2.heap.size w2 (w2.alloc (.cells #[.int .u32 (m : Int), .slice (some ⟨g', 0, none⟩) j c', .int .i64 (s : Int)] 116)) := (Below.refl _ _).alloc (Nat.le_refl _) _
          refine ⟨_, rfl, ⟨w2.heap.size, g', c', rfl, HF.out _ hb1.size, ?_, HF.out g' HCS.out.1, by have := HCS.out.2.1; simp; omega, fun i hi => ?_⟩, below_then hb1 hb2⟩
          · rw [← HS2.out]
            exact heap_alloc_new w2 _
          · have hi2 : i < vs.length := by have := HVL.out; omega
            refine ⟨_, (hb2.cell (p := ⟨g', i, none⟩) HCS.out.2.1).trans (HCS.out.2.2 i hi2), ((HV.out i hi2).2.below hb1).below hb2⟩
    · have kl : ((k : Int) != (l : Int)) = true := by
        have : ¬ (k : Int) = (l : Int) := by omega
        simpa using this
      have hno : Nd.branch m k kid = .none := by
        unfold Nd.branch
        rw [← hl, decide_eq_false hkl, Bool.and_false, Bool.false_and, if_neg (by decide)]
      rw [hno]
      clear hvs ho hs hl hF hg hvl hno hkl
      go_enter Tryz.func52, Tryz.ntmps52
      go_wp2_with fail
      refine (HC.out _).mono ?_
      rintro e w' ⟨rfl, n, rfl⟩
      go_wp2_with fail
      go_ret
      exact ⟨_, rfl, rfl, below_drewN (Below.refl _ _) n⟩
end Go.Proofs.YtmbdimonfdncpaaGreatDoor
