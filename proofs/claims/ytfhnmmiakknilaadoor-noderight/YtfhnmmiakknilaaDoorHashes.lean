/-
  Contract of the reference's Hashes.
-/
import Derived.Test.YtfhnmmiakknilaaDoorBuildLeaf
import Derived.Test.YtfhnmmiakknilaaDoorChunk
namespace Go.Proofs.YtfhnmmiakknilaaDoor
open Go.RowKit
set_option maxHeartbeats 4000000
set_option maxRecDepth 100000
/-- append of some elements that lie in memory, up to many -/
theorem list_appB {B : Nat} {w : World} {ops : Array Oper} {rest : List Oper} {o : Oper} {a : Act} {Q : Exit → Act → World → Prop} (t e : TypeId) (z : Value) (size bytes : Nat) (hu : Tryd.prog.underlying t = some (.slice e)) (hinf : (Tryd.prog.info? e).map (fun i => (i.zero, i.size, i.bytes)) = some (some z, size, bytes)) (hz : z.cells.size = size) (hs0 : 0 < size) (hby : bytes ≤ 100)
    (hgd : o.guard = none) (s x : Operand) (ho : o.op = .call { callee := .builtin .append, args := #[s, x], argTypes := #[t, t] }) (v : Value) (n : Nat) (xs : List Value) (h : w.ownsRow B e size v n xs) (p : Addr) (m c : Nat) (news : List Value) (hl : news.length = m * size) (hnews : ∀ j u, news[j]? = some u → w.cell? (p.add j) = some u) (h1 : ∀ u ∈ news, u.oneCell' = true)
    (hs : a.eval s = v) (hx : a.eval x = .slice (some p) m c) (hn : n + m ≤ 1000000000000) (hB : B ≤ w.heap.size)
    (hK : ∀ v' w', w'.ownsRow B e size v' (n + m) (xs ++ news) → w.grownBy w' v.ownBlock → wpList Tryd.prog ops Q rest (a.put o.dst v') w') : wpList Tryd.prog ops Q (o :: rest) a w := by
  obtain ⟨i0, hi, hz0, hz1, hz2⟩ := info_parts hinf
  obtain ⟨v', w', hr, hown, hg, _⟩ := run_append_own (P := Tryd.prog) w B t o.type e i0 z size bytes hu hi hz0 hz1 hz2 hz hs0 v n xs h p m c news hl hnews h1
    (by unfold maxLen; omega) (by have := Nat.mul_le_mul hn hby; omega) hB
  refine wpList_plain hgd fun _ hk => ?_
  unfold Oper.wp execOp
  simp only [ho, resolve, invoke, builtin, Sem.run_bind, Sem.run_pure, Result.andThen_ok, List.map_toArray, List.map_cons, List.map_nil, hs, hx, hr]
  exact hk _ _ (hK v' w' hown hg)
theorem Tryd.info27 : (Tryd.prog.info? 27).map (fun i => (i.zero, i.size, i.bytes)) = some (some (.int .u64 0), 1, 8) := by kernel_rfl
/-- the slice at A reads as these hashes -/
def Hss (w : World) (A : Option Addr) (l : List Nat) : Prop := ∃ g, A = some ⟨g, 0, none⟩ ∧ g < w.heap.size ∧ ∀ i (h : i < l.length), w.cell? ⟨g, i, none⟩ = some (.int .u64 ((l[i] : Nat) : Int))
theorem Hss.below {w w' : World} {A : Option Addr} {l : List Nat} (h : Hss w A l) (hb : Below w.heap.size w w') : Hss w' A l := by
  obtain ⟨g, h1, h2, h3⟩ := h
  exact ⟨g, h1, Nat.lt_of_lt_of_le h2 hb.size, fun i hi => (hb.cell (p := ⟨g, i, none⟩) h2).trans (h3 i hi)⟩
def hcells (l : List Nat) : List Value := l.map fun (h : Nat) => Value.int .u64 (h : Int)
theorem hcells_append (a b : List Nat) : hcells (a ++ b) = hcells a ++ hcells b := List.map_append
theorem hcells_length (a : List Nat) : (hcells a).length = a.length := List.length_map _
theorem catTo_sum (f : Nat → List Nat) (g : Nat → Nat) : ∀ n, (∀ i, i < n → (f i).length ≤ g i) → (catTo f n).length ≤ sumTo g n
  | 0, _ => Nat.le_refl _
  | n + 1, h => by
    have h1 := catTo_sum f g n (fun i hi => h i (by omega))
    have h2 := h n (by omega)
    rw [catTo, List.length_append, sumTo]
    omega
theorem hashes_le : ∀ x : Nd, x.ok → x ≠ .none → 0 < x.hashes.length ∧ x.hashes.length ≤ x.cnt
  | .none, _, h => absurd rfl h
  | .leaf _ _, _, _ => ⟨Nat.one_pos, Nat.le_refl _⟩
  | .buck _ _, ho, _ => ⟨Nat.one_pos, by have := ho.2.1; show 1 ≤ _; simp only [Nd.cnt]; omega⟩
  | .bran m k kid, ho, _ => by
    refine ⟨?_, ?_⟩
    · have h1 := (hashes_le (kid 0) (ho.2.2.2 0 ho.2.1).2 (ho.2.2.2 0 ho.2.1).1).1
      have h2 := catTo_le (fun i => (kid i).hashes) (show 1 ≤ k from ho.2.1)
      rw [Nd.hashes]
      have h3 : (catTo (fun i => (kid i).hashes) 1).length = (kid 0).hashes.length := by simp [catTo]
      omega
    · rw [Nd.hashes, Nd.cnt]
      exact catTo_sum _ _ k fun i hi => (hashes_le (kid i) (ho.2.2.2 i hi).2 (ho.2.2.2 i hi).1).2
theorem hashes_eq (x : Nd) : x.kind = 3 → x.hashes = catTo (fun i => (x.kid i).hashes) x.num := by
  cases x <;> simp [Nd.kind, Nd.hashes, Nd.num, Nd.kid]
theorem hashes_one (x : Nd) : x.kind ≠ 3 → x.hashes = [x.hash] := by
  cases x <;> simp [Nd.kind, Nd.hashes, Nd.hash]
theorem num_zero (x : Nd) (h : x.kind ≠ 3) : x.num = 0 := by
  cases x <;> simp_all [Nd.kind, Nd.num]
theorem hashes_lt : ∀ x : Nd, x.ok → ∀ h ∈ x.hashes, h < 18446744073709551616
  | .none, _, h, hh => by
    obtain rfl : h = 0 := by simpa [Nd.hashes] using hh
    decide
  | .leaf h' _, ho, h, hh => by
    obtain rfl : h = h' := by simpa [Nd.hashes] using hh
    exact ho.1
  | .buck h' _, ho, h, hh => by
    obtain rfl : h = h' := by simpa [Nd.hashes] using hh
    exact ho.1
  | .bran m k kid, ho, h, hh => by
    have key : ∀ n, n ≤ k → h ∈ catTo (fun i => (kid i).hashes) n → h < 18446744073709551616 := by
      intro n
      induction n with
      | zero => intro _ hx; simp [catTo] at hx
      | succ n ih =>
        intro hn hx
        rw [catTo, List.mem_append] at hx
        rcases hx with hx | hx
        · exact ih (by omega) hx
        · exact hashes_lt (kid n) (ho.2.2.2 n (by omega)).2 h hx
    exact key k (Nat.le_refl _) hh
theorem kids_le {x : Nd} (h : x.ok) : x.num ≤ 32 := by
  cases x with
  | bran m k kid => have := Bt.list_le m 32; have := h.2.2.1; simp only [Nd.num]; omega
  | _ => exact Nat.zero_le _
theorem hashes_any (x : Nd) : ∀ (F : Nat → Prop) (w : World) (r : RN), Mde F w x r → x.ok → x ≠ .none → x.cnt ≤ 1000000000000 →
    Calls Tryd.prog 19 #[RN.agg r x] w fun e w' => (∃ A c, e = .returned (.slice A x.hashes.length c) ∧ Hss w' A x.hashes) ∧ Below w.heap.size w w' := by
  induction x using Nd.by_kids with
  | h x ih =>
    intro F w r hm ho hx0 hc
    have hnum := kids_le ho
    have hlen := hashes_le x ho hx0
    have hz := num_zero x
    have heq := hashes_eq x
    have hon := hashes_one x
    unfold RN.agg
    obtain ⟨pa, pc, sa, sc, ka, kc⟩ := r
    obtain ⟨kd, hkd⟩ : ∃ k, k = x.kind := ⟨_, rfl⟩
    obtain ⟨hs, hhs⟩ : ∃ k, k = x.hash := ⟨_, rfl⟩
    obtain ⟨np, hnp⟩ : ∃ k, k = x.prs.length := ⟨_, rfl⟩
    obtain ⟨ns, hns⟩ : ∃ k, k = x.set.length := ⟨_, rfl⟩
    obtain ⟨nk, hnk⟩ : ∃ k, k = x.num := ⟨_, rfl⟩
    rw [← hkd, ← hhs, ← hnp, ← hns, ← hnk]
    rw [← hkd, ← hnk] at heq
    rw [← hkd, ← hhs] at hon
    rw [← hkd] at hz
    rw [← hnk] at hnum
    obtain ⟨w1, hw1⟩ : ∃ w1, w1 = w.alloc (.cells #[.int .i64 (kd : Int), .int .u64 (hs : Int), .slice pa np pc, .slice sa ns sc, .slice ka nk kc] 32) := ⟨_, rfl⟩
    have hb1 : Below w.heap.size w w1 := by rw [hw1]; exact (Below.refl _ _).alloc (Nat.le_refl _) _
    have r1 : w1.heap[w.heap.size]? = some (.cells #[.int .i64 (kd : Int), .int .u64 (hs : Int), .slice pa np pc, .slice sa ns sc, .slice ka nk kc] 32 (0, 0)) := by rw [hw1]; exact heap_alloc_new w _
    obtain ⟨⟨c0, c1, _, _, c4⟩, _⟩ := row5 r1
    have HW := Lib.hid hw1; clear hw1
    have HB := Lib.hid hb1; clear hb1
    have HM := Lib.hid hm; clear hm
    have HIH := Lib.hid ih; clear ih
    have HO := Lib.hid ho; clear ho
    have HK := Lib.hid hnk; clear hnk
    have HCC := Lib.hid hc; clear hc
    have HLE := Lib.hid hlen; clear hlen
    have HEQ := Lib.hid heq; clear heq
    have HON := Lib.hid hon; clear hon
    have HZ := Lib.hid hz; clear hz
    clear hkd hhs hnp hns r1
    by_cases h3 : kd = 3
    · have hne : ((kd : Int) != 3) = false := by rw [h3]; rfl
      have HE := Lib.hid (HEQ.out h3)
      clear h3
      go_enter Tryd.func19, Tryd.ntmps19
      go_wp2_with fail
      rw [← HW.out]
      go_loopw [3, 15] (fun s i wr => ∃ j n : Nat, i = .int .i64 (j : Int) ∧ j ≤ nk ∧ Hid (n = (catTo (fun i => (x.kid i).hashes) j).length) ∧ Hid (Below w.heap.size w wr ∧ wr.ownsRow w.heap.size 27 1 s n (hcells (catTo (fun i => (x.kid i).hashes) j)))) (fun _ i _ => nk - (intOf i).toNat)
      case atStart => exact ⟨0, 0, rfl, by omega, rfl, HB.out, rfl, .inl ⟨rfl, rfl⟩⟩
      case round =>
        obtain ⟨j, n, rfl, hj, hn, hown⟩ := hrel
        have hbel := hown.out.1
        by_cases hlt : j < nk
        · obtain ⟨g, hka, hg, ⟨pa5, pc5, sa5, sc5, ka5, kc5⟩, ⟨q0, q1, q2, q3, q4⟩, hm5⟩ := (HM.out.below hbel).child (i := j) (by have := HK.out; omega)
          subst hka
          have hk5 := Nd.ok_kid HO.out (i := j) (by have := HK.out; omega)
          have hc5 : (x.kid j).cnt ≤ 1000000000000 := Nat.le_trans (Nd.cnt_kid x (by have := HK.out; omega)) HCC.out
          have hl5 := hashes_le (x.kid j) hk5.2 hk5.1
          have hst : catTo (fun i => (x.kid i).hashes) (j + 1) = catTo (fun i => (x.kid i).hashes) j ++ (x.kid j).hashes := rfl
          have hmx := catTo_le (fun i => (x.kid i).hashes) (show j + 1 ≤ nk by omega)
          have hbw : ∀ o, Below wr.heap.size wr (wr.alloc o) := fun o => (Below.refl _ _).alloc (Nat.le_refl _) o
          have J := fun o => HIH.out j (by have := HK.out; omega) F (wr.alloc o) ⟨pa5, pc5, sa5, sc5, ka5, kc5⟩ (hm5.below (hbw o)) hk5.2 hk5.1 hc5
          simp only [RN.agg] at J
          obtain ⟨hl, hhl⟩ : ∃ k, k = (x.kid j).hashes := ⟨_, rfl⟩
          rw [← hhl] at hl5 hst
          rw [hst, List.length_append] at hmx
          obtain ⟨ln, hln⟩ : ∃ k, k = hl.length := ⟨_, rfl⟩
          obtain ⟨k0, hk0⟩ : ∃ k, k = (x.kid j).kind := ⟨_, rfl⟩
          obtain ⟨k1, hk1⟩ : ∃ k, k = (x.kid j).hash := ⟨_, rfl⟩
          obtain ⟨k2, hk2⟩ : ∃ k, k = (x.kid j).prs.length := ⟨_, rfl⟩
          obtain ⟨k3, hk3⟩ : ∃ k, k = (x.kid j).set.length := ⟨_, rfl⟩
          obtain ⟨k4, hk4⟩ : ∃ k, k = (x.kid j).num := ⟨_, rfl⟩
          simp only [← hhl, ← hk0, ← hk1, ← hk2, ← hk3, ← hk4, ← hln] at J
          rw [← hk0] at q0
          rw [← hk1] at q1
          rw [← hk2] at q2
          rw [← hk3] at q3
          rw [← hk4] at q4
          have HNN : Hid (n + ln = (catTo (fun i => (x.kid i).hashes) (j + 1)).length) := by show _ = _; rw [hst, List.length_append, hn.out, hln]
          have HNB : Hid (n + ln ≤ 1000000000000) := by
            have h1 := HLE.out.2
            rw [HE.out] at h1
            have h2 := HCC.out
            show _ ≤ _
            rw [hn.out, hln]
            omega
          have HLN := Lib.hid (And.intro hln hl5.1)
          have HST := Lib.hid hst
          have HJ := Lib.hid J; clear J
          have HBW := Lib.hid hbw; clear hbw
          clear hm5 hk5 hc5 hst hmx hhl hk0 hk1 hk2 hk3 hk4 hbel hl5 hln
          go_wp2_with fail
          refine (HJ.out _).mono ?_
          rintro e w2 ⟨⟨A, c, rfl, g2, rfl, hg2, hcell⟩, hb2⟩
          have hbx := below_then (HBW.out _) hb2
          have HOW := Lib.hid (own_below hown.out.2 hbx)
          have HB2 := Lib.hid (hown.out.1.trans (hbx.mono hown.out.1.size))
          have HSZ : Hid (w.heap.size ≤ w2.heap.size) := HB2.out.size
          have HC := Lib.hid hcell
          clear hb2 hbx hcell hown
          have HNEW : Hid (∀ i u, (hcells hl)[i]? = some u → w2.cell? ((⟨g2, 0, none⟩ : Addr).add i) = some u) := fun i u hu => by
            rw [Go.WideShapes.add_plain, Nat.zero_add]
            have hi : i < hl.length := by
              rcases Nat.lt_or_ge i hl.length with h | h
              · exact h
              · rw [List.getElem?_eq_none (by rw [hcells_length]; exact h)] at hu; cases hu
            rw [HC.out i hi, ← hu, hcells, List.getElem?_map, List.getElem?_eq_getElem hi]; rfl
          have HNL : Hid ((hcells hl).length = ln * 1) := by show _ = _; rw [hcells_length, HLN.out.1, Nat.mul_one]
          have HN1 : Hid (∀ u ∈ hcells hl, u.oneCell' = true) := fun u hu => by
            obtain ⟨h, _, rfl⟩ := List.mem_map.1 hu
            rfl
          go_wp2_with (at_builtin; refine list_appB (B := w.heap.size) 60 27 _ 1 8 Tryd.underlying60 Tryd.info27 rfl (by decide) (by decide) rfl (.tmp 19) (.tmp 21) rfl _ n _ HOW.out ⟨g2, 0, none⟩ ln c (hcells hl) HNL.out HNEW.out HN1.out rfl rfl HNB.out HSZ.out ?_; intro v1 w3 ho3 hg3)
          go_roundw
          case rel =>
            refine ⟨j + 1, n + ln, by go_num, by omega, HNN.out, HB2.out.grown hg3 HSZ.out (fun q hq => by have := (HOW.out.lt q hq).1; omega), ?_⟩
            rw [HST.out, hcells_append]
            exact ho3
          case measure => simp [intOf]; omega
        · obtain rfl : nk = j := by omega
          have HN : Hid (n = x.hashes.length) := by show _ = _; rw [HE.out]; exact hn.out
          have ho := hown.out.2
          have HBB := Lib.hid hown.out.1
          have hxe : catTo (fun i => (x.kid i).hashes) nk = x.hashes := HE.out.symm
          rw [hxe] at ho
          obtain ⟨_, A, c, rfl, _, hrd⟩ := row_reads1 ho
          have HRD := Lib.hid hrd
          clear hown hn ho hxe hrd
          go_wp2_with fail
          go_ret
          obtain ⟨g, rfl, _, hg, hcl⟩ := HRD.out (by have := HLE.out.1; have := HN.out; omega)
          have hN := HN.out
          subst hN
          refine ⟨⟨_, c, rfl, g, rfl, hg, fun i hi => ?_⟩, HBB.out⟩
          rw [hcl i hi, hcells, List.getElem?_map, List.getElem?_eq_getElem hi]; rfl
    · have hne : ((kd : Int) != 3) = true := by
        have : ¬ (kd : Int) = 3 := by omega
        simpa using this
      have HH := Lib.hid (HON.out h3)
      have r2 : (w1.alloc (.cells #[.int .u64 (hs : Int)] 27)).heap[w1.heap.size]? = some (.cells #[.int .u64 (hs : Int)] 27 (0, 0)) := heap_alloc_new w1 _
      have b2 : Below w1.heap.size w1 (w1.alloc (.cells #[.int .u64 (hs : Int)] 27)) := (Below.refl _ _).alloc (Nat.le_refl _) _
      have hsz1 : w1.heap.size = w.heap.size + 1 := by rw [HW.out]; simp
      rw [hsz1] at r2
      have HR := Lib.hid r2; clear r2 hsz1
      have HBB := Lib.hid (below_then HB.out b2); clear b2
      clear h3
      go_enter Tryd.func19, Tryd.ntmps19
      go_wp2_with fail
      rw [← HW.out]
      go_wp2_with fail
      go_ret
      rw [HH.out]
      refine ⟨⟨_, 1, rfl, _, rfl, (Array.getElem?_eq_some_iff.1 HR.out).1, fun i hi => ?_⟩, HBB.out⟩
      obtain rfl : i = 0 := by simpa using hi
      exact row_cell HR.out rfl
end Go.Proofs.YtfhnmmiakknilaaDoor
