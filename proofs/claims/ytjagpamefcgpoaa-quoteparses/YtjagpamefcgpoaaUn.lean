/-
  Contracts of strings.Cut at one byte, of withoutSigns and of unescaped.
-/
import Derived.Test.YtjagpamefcgpoaaEsc
namespace Go.Proofs.Ytjagpamefcgpoaa
open Go.RowKit
set_option maxHeartbeats 400000
set_option maxRecDepth 100000
theorem cut2_miss (s : ByteArray) (w : World) (h : Lib.indexByte s.data.toList 92 = -1) :
    Calls Try.prog 34 #[.string s, .string ⟨#[92]⟩] w fun e w' => e = .returned (.tuple #[.string s, .string ⟨#[]⟩, .bool false]) ∧ Below w.heap.size w w' := by
  have hx := Try.stringslite_Index_one s 92 w
  rw [h] at hx
  have HX := Lib.hid hx; clear hx h
  go_enter Try.func34, Try.ntmps34
  go_wp2_with fail
  refine HX.out.mono ?_
  rintro e w' ⟨rfl, rfl⟩
  go_wp2_with fail
  go_ret3
  exact ⟨rfl, Below.refl _ _⟩
theorem cut2_hit (s : ByteArray) (i : Nat) (w : World) (hz : s.size ≤ 5000) (h : Lib.indexByte s.data.toList 92 = (i : Int)) (hi : i < s.size) :
    Calls Try.prog 34 #[.string s, .string ⟨#[92]⟩] w fun e w' => e = .returned (.tuple #[.string (s.extract 0 i), .string (s.extract (i + 1) s.size), .bool true]) ∧ Below w.heap.size w w' := by
  have hx := Try.stringslite_Index_one s 92 w
  rw [h] at hx
  have HX := Lib.hid hx; clear hx h
  have c1 : (0 : Int) ≤ (i : Int) := by omega
  have c2 : (i : Int) ≤ (s.size : Int) := by omega
  have c3 : (0 : Int) ≤ (i : Int) + 1 := by omega
  have c4 : (i : Int) + 1 ≤ (s.size : Int) := by omega
  have c5 : IntKind.i64.wrap ((i : Int) + 1) = (i : Int) + 1 := IntWalk.i64_in _ (by omega)
  have c6 : ((i : Int) + 1).toNat = i + 1 := by omega
  go_enter Try.func34, Try.ntmps34
  go_wp2_with fail
  refine HX.out.mono ?_
  rintro e w' ⟨rfl, rfl⟩
  go_wp2_with fail
  go_region_held3 (fun _ => True) (trivial) (fail)
  all_goals
    clear c5 c6
    go_wp2_with fail
    go_ret3
    exact ⟨rfl, (Below.refl _ _).drew⟩
theorem cut_miss (s : ByteArray) (w : World) (h : Lib.indexByte s.data.toList 92 = -1) :
    Calls Try.prog 26 #[.string s, .string ⟨#[92]⟩] w fun e w' => e = .returned (.tuple #[.string s, .string ⟨#[]⟩, .bool false]) ∧ Below w.heap.size w w' := by
  have HX := Lib.hid (cut2_miss s w h); clear h
  go_enter Try.func26, Try.ntmps26
  go_wp2_with fail
  refine HX.out.mono ?_
  rintro e w' ⟨rfl, hb⟩
  go_wp2_with fail
  go_ret3
  exact ⟨rfl, hb⟩
theorem cut_hit (s : ByteArray) (i : Nat) (w : World) (hz : s.size ≤ 5000) (h : Lib.indexByte s.data.toList 92 = (i : Int)) (hi : i < s.size) :
    Calls Try.prog 26 #[.string s, .string ⟨#[92]⟩] w fun e w' => e = .returned (.tuple #[.string (s.extract 0 i), .string (s.extract (i + 1) s.size), .bool true]) ∧ Below w.heap.size w w' := by
  have HX := Lib.hid (cut2_hit s i w hz h hi); clear h
  go_enter Try.func26, Try.ntmps26
  go_wp2_with fail
  refine HX.out.mono ?_
  rintro e w' ⟨rfl, hb⟩
  go_wp2_with fail
  go_ret3
  exact ⟨rfl, hb⟩
theorem signs_any (s : ByteArray) (w : World) (hz : s.size ≤ 5000) :
    Calls Try.prog 18 #[.string s] w fun e w' => e = .returned (.tuple #[.string ⟨(insideL s.data.toList).toArray⟩, .bool (signsL s.data.toList)]) ∧ w = w' := by
  have h1 := Try.strings_CutPrefix s ⟨#[34]⟩ w
  obtain ⟨t, ht⟩ : ∃ t : ByteArray, t = ⟨(Lib.trimPrefix s.data.toList [34]).toArray⟩ := ⟨_, rfl⟩
  have h1' : Calls Try.prog 24 #[.string s, .string ⟨#[34]⟩] w fun e w' => e = .returned (.tuple #[.string t, .bool (Lib.hasPrefix s.data.toList [34])]) ∧ w' = w := by
    rw [ht]; exact h1
  clear h1
  have htl : t.data.toList = Lib.trimPrefix s.data.toList [34] := by rw [ht]
  have htz : t.size ≤ 9223372036854775807 := by
    have := Lib.trimPrefix_le s.data.toList [34]
    rw [Lib.size_eq, htl]
    rw [Lib.size_eq] at hz
    omega
  have h2 := Try.strings_CutSuffix t ⟨#[34]⟩ w htz
  rw [htl] at h2
  have e1 : Lib.trimSuffix (Lib.trimPrefix s.data.toList [34]) [34] = insideL s.data.toList := rfl
  have h2' : Calls Try.prog 25 #[.string t, .string ⟨#[34]⟩] w fun e w' => e = .returned (.tuple #[.string ⟨(insideL s.data.toList).toArray⟩, .bool (Lib.hasSuffix (Lib.trimPrefix s.data.toList [34]) [34])]) ∧ w' = w := h2
  clear h2 e1
  have hsg : signsL s.data.toList = (Lib.hasPrefix s.data.toList [34] && Lib.hasSuffix (Lib.trimPrefix s.data.toList [34]) [34]) := rfl
  obtain ⟨ib, hib⟩ : ∃ ib : ByteArray, ib = ⟨(insideL s.data.toList).toArray⟩ := ⟨_, rfl⟩
  rw [← hib] at h2' ⊢
  obtain ⟨a, ha⟩ : ∃ a, a = Lib.hasPrefix s.data.toList [34] := ⟨_, rfl⟩
  obtain ⟨b, hb⟩ : ∃ b, b = Lib.hasSuffix (Lib.trimPrefix s.data.toList [34]) [34] := ⟨_, rfl⟩
  rw [← ha] at h1' hsg
  rw [← hb] at h2' hsg
  have H1 := Lib.hid h1'; clear h1'
  have H2 := Lib.hid h2'; clear h2'
  have HG := Lib.hid hsg; clear hsg
  clear ht htl htz hib ha hb
  cases a
  all_goals
    go_enter Try.func18, Try.ntmps18
    go_wp2_with fail
    refine H1.out.mono ?_
    rintro e w' ⟨rfl, rfl⟩
    go_wp2_with fail
    refine H2.out.mono ?_
    rintro e w' ⟨rfl, rfl⟩
    go_wp2_with fail
    go_ret2
    exact ⟨by rw [HG.out]; simp, rfl⟩
/-- append of a string onto a row of the call's own, empty or not -/
theorem list_own_str {B : Nat} {w : World} {ops : Array Oper} {rest : List Oper} {o : Oper} {a : Act} {Q : Exit → Act → World → Prop} (hgd : o.guard = none) (s x : Operand) (ho : o.op = .call { callee := .builtin .append, args := #[s, x], argTypes := #[22, 9] })
    (v : Value) (l : List UInt8) (t : ByteArray) (h : Own B w v l) (hs : a.eval s = v) (hx : a.eval x = .string t) (hlen : l.length + t.size ≤ 1000000) (hB : B ≤ w.heap.size)
    (hK : ∀ v' w', Own B w' v' (l ++ t.data.toList) → Steps B w w' → wpList Try.prog ops Q rest (a.put o.dst v') w') : wpList Try.prog ops Q (o :: rest) a w := by
  obtain ⟨i0, hi, hz0, hz1, hz2⟩ := info_parts Try.info5
  refine Lib.wpList_append_own_string (P := Try.prog) w hgd s x 22 9 ho B 5 i0 Try.underlying22 Try.underlying9 hi hz0 hz1 hz2 v l.length (Lib.byteCells l) hs h t hx (by unfold maxLen; omega) (by omega) hB ?_
  intro v' w' h2 h3 _
  refine hK v' w' (own_of h2 (by rw [List.length_append, Lib.size_eq]) ?_) (own_steps h h3 hB)
  rw [Lib.byteCells_append]; rfl
theorem list_own_bts {B : Nat} {w : World} {ops : Array Oper} {rest : List Oper} {o : Oper} {a : Act} {Q : Exit → Act → World → Prop} (hgd : o.guard = none) (s x : Operand) (ho : o.op = .call { callee := .builtin .append, args := #[s, x], argTypes := #[22, 22] })
    (v : Value) (l m : List UInt8) (hm : 0 < m.length) (A : Option Addr) (n c : Nat) (hn : n = m.length) (hb : Bts w A m) (h : Own B w v l) (hs : a.eval s = v) (hx : a.eval x = .slice A n c) (hlen : l.length + m.length ≤ 1000000) (hB : B ≤ w.heap.size)
    (hK : ∀ v' w', Own B w' v' (l ++ m) → Steps B w w' → wpList Try.prog ops Q rest (a.put o.dst v') w') : wpList Try.prog ops Q (o :: rest) a w := by
  rcases hb with rfl | ⟨b, off, rfl, _, hc⟩
  · simp at hm
  · refine list_app_bytes hgd s x ho v l m hm ⟨b, off, none⟩ n c hn ?_ (.inl h) hs hx hlen hB hK
    intro j u hu
    have hj : j < m.length := by
      rcases Nat.lt_or_ge j m.length with h1 | h1
      · exact h1
      · rw [List.getElem?_eq_none (by rw [Lib.byteCells_length]; exact h1)] at hu; cases hu
    rw [Go.WideShapes.add_plain, hc j hj]
    simpa [Lib.byteCells, hj] using hu
theorem Own.keep {B : Nat} {w w' : World} {v : Value} {l : List UInt8} (h : Own B w v l) (hb : Below w.heap.size w w') : Own B w' v l := by
  refine ⟨h.1, ?_⟩
  rcases h.2 with hn | ⟨g, cap, cur, rfl, hg, hh, rest⟩
  · exact .inl hn
  · exact .inr ⟨g, cap, cur, rfl, hg, (hb.block g (Array.getElem?_eq_some_iff.1 hh).1).trans hh, rest⟩
def UnPost (B : Nat) (o : Option (List UInt8)) (w : World) (e : Ending) (w' : World) : Prop :=
  match o with
  | some b => ∃ v, e = .returned (.tuple #[v, .bool true]) ∧ Own B w' v b ∧ Below w.heap.size w w'
  | none => e = .returned (.tuple #[.slice none 0 0, .bool false]) ∧ Below w.heap.size w w'
theorem un_any (s : ByteArray) (w : World) (hz : s.size ≤ 5000) : Calls Try.prog 19 #[.string s] w (UnPost w.heap.size (unesc s.data.toList) w) := by
  go_enter Try.func19, Try.ntmps19
  go_wp2_with fail
  go_loopw [0, 4] (fun a b wr => ∃ (t : ByteArray) (acc : List UInt8), a = .string t ∧ Hid (Own w.heap.size wr b acc) ∧ Hid (Below w.heap.size w wr) ∧ Hid (unesc s.data.toList = (unesc t.data.toList).map (acc ++ ·)) ∧ t.size ≤ 5000 ∧ acc.length + t.size ≤ 5000) (fun a _ _ => strLen a)
  case atStart => exact ⟨s, [], rfl, World.ownsRow_nil w _ 5 1, Below.refl _ _, by simp [Hid], hz, by simp; omega⟩
  case round =>
    obtain ⟨t, acc, rfl, hown, hbw, hun, htz, hal⟩ := hrel
    by_cases hix : Lib.indexByte t.data.toList 92 = -1
    · have hc := cut_miss t wr hix
      have hfin : unesc s.data.toList = some (acc ++ t.data.toList) := by
        have h1 := unesc_plain (index_none hix) []
        rw [List.append_nil, unesc_nil] at h1
        rw [hun.out, h1]; simp
      have HC := Lib.hid hc; clear hc hix
      have HF := Lib.hid hfin; clear hfin
      go_wp2_with fail
      refine HC.out.mono ?_
      rintro e w1 ⟨rfl, hb1⟩
      have hown1 := hown.out.keep (hb1.mono (Nat.le_refl _))
      have hbw1 := below_then hbw.out hb1
      go_wp2_with (at_builtin; refine list_own_str (B := w.heap.size) rfl (.tmp 16) (.tmp 17) rfl _ acc t hown1 rfl rfl (by omega) hbw1.size ?_; intro v2 w2 hb2 hs2)
      go_ret2
      show UnPost _ _ _ _ _
      rw [HF.out]
      exact ⟨v2, rfl, hb2, hbw1.trans hs2.1⟩
    · obtain ⟨i, h1, h2, h3, h4⟩ := index_some hix
      have hi : i < t.size := by rw [Lib.size_eq]; exact h2
      have hc := cut_hit t i wr htz h1 hi
      have hr : (t.extract (i + 1) t.size).data.toList = t.data.toList.drop (i + 1) := rest_list t (i + 1)
      have hp : (t.extract 0 i).data.toList = t.data.toList.take i := by rw [Lib.extract_data]; simp
      obtain ⟨rb, hrb⟩ : ∃ rb, rb = t.extract (i + 1) t.size := ⟨_, rfl⟩
      obtain ⟨pb, hpb⟩ : ∃ pb, pb = t.extract 0 i := ⟨_, rfl⟩
      rw [← hrb, ← hpb] at hc
      rw [← hrb] at hr
      rw [← hpb] at hp
      have hrz : rb.size + i + 1 = t.size := by rw [hrb, rest_size]; omega
      have hpz : pb.size = i := by rw [Lib.size_eq, hp, List.length_take, ← Lib.size_eq]; omega
      have hpz2 : pb.size ≤ i := by omega
      have hrz2 : rb.size + i + 1 ≤ t.size := by omega
      have hrz3 : rb.size ≤ 5000 := by omega
      have hstep : unesc t.data.toList = (if (escL rb.data.toList).2 = 0 then none else (unesc (rb.data.toList.drop (escL rb.data.toList).2)).map ((escL rb.data.toList).1 ++ ·)).map (pb.data.toList ++ ·) := by
        rw [h3, unesc_plain h4, unesc_slash, ← hr, ← hp]
      have he := esc_le rb.data.toList
      obtain ⟨m, hm⟩ : ∃ m, m = (escL rb.data.toList).1 := ⟨_, rfl⟩
      obtain ⟨n, hn⟩ : ∃ n, n = (escL rb.data.toList).2 := ⟨_, rfl⟩
      rw [← hm, ← hn] at he hstep
      rw [← Lib.size_eq] at he
      have hesc : ∀ W, Calls Try.prog 27 #[.string rb] W fun e w' => ∃ A c, e = .returned (.tuple #[.slice A m.length c, .int .i64 (n : Int)]) ∧ Bts w' A m ∧ Below W.heap.size W w' := by
        intro W
        rw [hm, hn]
        exact esc_any rb W hrz3
      have hun2 := hun.out
      rw [hstep] at hun2
      have HC := Lib.hid hc; clear hc
      have HE := Lib.hid hesc; clear hesc
      have HU := Lib.hid hun2; clear hun2
      have HP := Lib.hid hp; clear hp
      obtain ⟨he1, he2, he3⟩ := he
      have HE3 := Lib.hid he3; clear he3
      clear hix h1 h2 h3 h4 hr hrb hpb hrz hpz hstep hm hn hun
      by_cases h0 : n = 0
      · subst h0
        go_wp2_with fail
        refine HC.out.mono ?_
        rintro e w1 ⟨rfl, hb1⟩
        have hown1 := hown.out.keep (hb1.mono (Nat.le_refl _))
        have hbw1 := below_then hbw.out hb1
        go_wp2_with (at_builtin; refine list_own_str (B := w.heap.size) rfl (.tmp 16) (.tmp 17) rfl _ acc pb hown1 rfl rfl (by omega) hbw1.size ?_; intro v2 w2 hb2 hs2)
        refine (HE.out _).mono ?_
        rintro e w3 ⟨A, c, rfl, hbt, hb3⟩
        go_wp2_with fail
        go_ret2
        show UnPost _ _ _ _ _
        rw [HU.out]
        exact ⟨rfl, (hbw1.trans hs2.1).trans (hb3.mono (hbw1.trans hs2.1).size)⟩
      · have e0 : ((n : Int) == 0) = false := by simp; omega
        have hm0 := HE3.out h0
        have H0 := Lib.hid h0; clear h0
        go_wp2_with fail
        refine HC.out.mono ?_
        rintro e w1 ⟨rfl, hb1⟩
        have hown1 := hown.out.keep (hb1.mono (Nat.le_refl _))
        have hbw1 := below_then hbw.out hb1
        go_wp2_with (at_builtin; refine list_own_str (B := w.heap.size) rfl (.tmp 16) (.tmp 17) rfl _ acc pb hown1 rfl rfl (by omega) hbw1.size ?_; intro v2 w2 hb2 hs2)
        refine (HE.out _).mono ?_
        rintro e w3 ⟨A, c, rfl, hbt, hb3⟩
        have hown3 := hb2.keep hb3
        have hbw3 : Below w.heap.size w w3 := (hbw1.trans hs2.1).trans (hb3.mono (hbw1.trans hs2.1).size)
        have hpbl : pb.data.toList.length ≤ i := by rw [← Lib.size_eq]; exact hpz2
        go_wp2_with (at_builtin; refine list_own_bts (B := w.heap.size) rfl (.tmp 29) (.tmp 30) rfl _ (acc ++ pb.data.toList) m hm0 A m.length c rfl hbt hown3 rfl rfl (by rw [List.length_append]; omega) hbw3.size ?_; intro v4 w4 hb4 hs4)
        go_roundw
        case rel =>
          refine ⟨rb.extract n rb.size, acc ++ pb.data.toList ++ m, rfl, hb4, hbw3.trans hs4.1, ?_, ?_, ?_⟩
          · show _ = _
            rw [HU.out, rest_list, if_neg H0.out, Option.map_map, Option.map_map]
            congr 1
            funext x
            simp
          · rw [rest_size]; omega
          · rw [rest_size, List.length_append, List.length_append]; omega
        case measure =>
          simp only [strLen]
          rw [rest_size]; omega
end Go.Proofs.Ytjagpamefcgpoaa
