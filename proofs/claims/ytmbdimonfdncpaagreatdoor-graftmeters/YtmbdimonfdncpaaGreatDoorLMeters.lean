/-
  GraftMeters: for every input the law answers true and leaves its arguments as they were; the row lists math/bits.deBruijn32tab, the card ties it to the program's text (the tie is given).
  Conditions: none beside the row's own.
-/
import Derived.Test.YtmbdimonfdncpaaGreatDoorGTurn
import Derived.Test.YtmbdimonfdncpaaGreatDoorFEnd
import Derived.Test.YtmbdimonfdncpaaGreatDoorBound
import Derived.Test.YtmbdimonfdncpaaGreatDoorGOpen
import Derived.Deep.RegionHeld3
import Derived.Deep.DeepCutAuto
import Derived.Test.YtmbdimonfdncpaaGreatDoorIn
import Derived.Test.YtmbdimonfdncpaaGreatDoorLaid
import Derived.Test.YtmbdimonfdncpaaGreatDoorCards
import Derived.Test.YtmbdimonfdncpaaGreatDoorTie
import Derived.ShutString
import Derived.ChangeOld
import Derived.Below
namespace Go.Proofs.YtmbdimonfdncpaaGreatDoor.graftMeters
open Go.ChangeShapes Go.WideShapes Go.ChangeAt Go.RowKit Go.Shelf
set_option linter.unusedVariables false
theorem laidOut : laidOutB Tryz.prog = true := by kernel_rfl
set_option maxRecDepth 100000
set_option maxHeartbeats 4000000 in
theorem walk {A0 : Option Addr} {c0 : Nat} {T0 : List Nat} {A1 : Option Addr} {c1 : Nat} {L1 : List Pr} (w : World) (hc0 : T0.length ≤ c0) (hm0 : c0 ≤ maxLen) (ha0 : N64 w A0 T0) (hh0 : ∀ z ∈ T0, z < 18446744073709551616) (hc1 : L1.length ≤ c1) (hm1 : c1 ≤ maxLen) (ha1 : Pcs w A1 L1) (hT : Tab w) :
    Calls Tryz.prog 4 #[.slice A0 T0.length c0, .slice A1 L1.length c1] w fun e w' => e = .returned (.bool true) ∧ Below w.heap.size w w' := by
  have hml : maxLen ≤ 9223372036854775807 := by decide
  have hL63 := Nat.le_trans (Nat.le_trans hc1 hm1) hml
  have hsm := fine19_any (T := A0) ha1 T0.length c0 c1 60 (by decide) hL63
  obtain ⟨TL, hTL⟩ : ∃ n, n = T0.length := ⟨_, rfl⟩
  obtain ⟨LL, hLL⟩ : ∃ n, n = L1.length := ⟨_, rfl⟩
  cases hs : fineP T0.length L1 60 with
  | false =>
    rw [hs] at hsm
    rw [← hTL, ← hLL] at hsm ⊢
    have HSM := Lib.hid hsm; clear hsm
    have HT := Lib.hid hT; clear hT
    clear ha0 ha1 hs hc0 hm0 hh0 hc1 hm1 hTL hLL hL63
    go_enter Tryz.func4, Tryz.ntmps4
    go_wp2_with fail
    refine HSM.out.mono ?_
    rintro e w1 ⟨rfl, hb⟩
    have HAW := Lib.hid (awake19_any (HT.out.below hb))
    have HB := Lib.hid hb; clear hb
    go_wp2_with fail
    refine HAW.out.mono ?_
    rintro e w2 ⟨rfl, hb⟩
    have HB2 := Lib.hid (below_then HB.out hb); clear hb
    go_wp2_with fail
    go_ret
    exact ⟨rfl, HB2.out⟩
  | true =>
    rw [hs] at hsm
    obtain ⟨ht200, hl60, hsz⟩ := fineP_all hs
    obtain ⟨MP, hMP⟩ : ∃ M : Nat → List Pr, M = fun j => come (L1.take j) := ⟨_, rfl⟩
    have hmg : ∀ j, srt (MP j) ∧ (∀ p ∈ MP j, p.1.length ≤ 100 ∧ p.2.length ≤ 100) ∧ (MP j).length ≤ 60 := fun j => by rw [hMP]; exact come_good hsz (by omega) j
    have hms : ∀ j (h : j < L1.length), MP (j + 1) = put (MP j) L1[j] := fun j h => by rw [hMP]; exact come_step h
    have hm0' : MP 0 = [] := by rw [hMP]; rfl
    have hpu : ∀ W B d j (h : j < L1.length), Rcs W B (MP j) → Calls Tryz.prog 7 #[.slice B (MP j).length d, .agg #[.string ⟨(L1[j]).1.toArray⟩, .string ⟨(L1[j]).2.toArray⟩]] W fun e w' => ∃ A' c', e = .returned (.slice A' (MP (j + 1)).length c') ∧ Rcs w' A' (MP (j + 1)) ∧ Below W.heap.size W w' := fun W B d j h hr => by
      have := refPut_any L1[j] hr d (by have := (hmg j).2.2; omega) (by have := hsz _ (List.getElem_mem h); omega) (fun q hq => by have := (hmg j).2.1 q hq; omega)
      rw [← hms j h] at this
      exact this.mono fun e w' ⟨A', c', h1, h2, _, h4⟩ => ⟨A', c', h1, h2, h4⟩
    have hha : ∀ W j (h : j < L1.length), Below w.heap.size w W → Calls Tryz.prog 9 #[.slice A0 T0.length c0, .string ⟨(L1[j]).1.toArray⟩] W fun e w' => e = .returned (.int .u64 (hashT T0 (L1[j]).1 : Int)) ∧ W = w' := fun W j h hW => hash19_any c0 _ (ha0.below hW) ht200 (by have := hsz _ (List.getElem_mem h); omega)
    have hen : ∀ W B d j, Below w.heap.size w W → Rcs W B (MP j) → Calls Tryz.prog 13 #[.slice A0 T0.length c0, .slice B (MP j).length d] W fun e w' => ∃ A' c', e = .returned (.slice A' (MP j).length c') ∧ Res w' A' (entE (hashT T0) (MP j)) ∧ Below W.heap.size W w' := fun W B d j hW hB => (entries19_any c0 d (ha0.below hW) hB ht200 (by have := (hmg j).2.2; omega) (fun p hp => by have := (hmg j).2.1 p hp; omega)).mono fun e w' ⟨⟨A', c', h1, h2, _⟩, h3⟩ => ⟨A', c', h1, h2, h3⟩
    obtain ⟨X, hX⟩ : ∃ X : Nat → Nd, X = fun j => layL 13 0 (entE (hashT T0) (MP j)) := ⟨_, rfl⟩
    have hXe : ∀ j, layL 13 0 (entE (hashT T0) (MP j)) = X j := fun j => by rw [hX]
    have hgood : ∀ j, Good 0 (entE (hashT T0) (MP j)) := fun j => good_of hh0 (hmg j).1 (hmg j).2.1 (by have := (hmg j).2.2; omega)
    have hlen : ∀ j, (entE (hashT T0) (MP j)).length = (MP j).length := fun j => by simp [entE]
    have hlaid : ∀ j, Laid (entE (hashT T0) (MP j)) 0 (X j) := fun j => by rw [← hXe]; exact lay_laid 13 0 _ rfl (hgood j)
    have hly : ∀ W A c j, Res W A (entE (hashT T0) (MP j)) → Calls Tryz.prog 12 #[.slice A (MP j).length c, .int .i64 0] W fun e w' => ∃ r, e = .returned (RN.agg r (X j)) ∧ Mde (fun b => b < w'.heap.size) w' (X j) r ∧ Below W.heap.size W w' := fun W A c j h => by
      rw [← hXe]
      exact (layn_any hh0 (hmg j).1 (hmg j).2.1 (by have := (hmg j).2.2; omega) c h).mono fun e w' ⟨r, h1, h2, h3⟩ => ⟨r, h1, h2.mono fun b hb _ => hb, h3⟩
    have hed : ∀ W r j (z : Nat), z < 18446744073709551616 → Mde (fun b => b < W.heap.size) W (X j) r → Calls Tryz.prog 11 #[RN.agg r (X j), .int .u64 (z : Int), .int .i64 0] W fun e w' => ∃ r', e = .returned (.tuple #[RN.agg r' ((X j).endAt z 0), .int .i64 (((X j).deep z 0 : Nat) : Int)]) ∧ Mde (fun b => b < W.heap.size) w' ((X j).endAt z 0) r' ∧ Below W.heap.size W w' := fun W r j z hz h => end_any (X j) _ W r 0 z (fun b hb => hb) h (hlaid j).ok (hlaid j).right (by decide) hz
    have hgm : ∀ W j (h : j < L1.length) nv ka va kc vc g, Below w.heap.size w W → Nde (fun b => b ≠ g) W (X j) nv → g < W.heap.size → Met W (some ⟨g, 0, none⟩) 0 0 → Bts W ka (L1[j]).1 → Bts W va (L1[j]).2 → Calls Tryz.prog 8 #[nv, .int .u64 (hashT T0 (L1[j]).1 : Int), .agg #[.slice ka (L1[j]).1.length kc, .slice va (L1[j]).2.length vc], .pointer (some ⟨g, 0, none⟩)] W fun r w' => ∃ v' m c, r = .returned (.tuple #[v', .bool (!has (MP j) (L1[j]).1)]) ∧ Nde (fun b => b ≠ g) w' (X (j + 1)) v' ∧ Met w' (some ⟨g, 0, none⟩) m c ∧ Only (some ⟨g, 0, none⟩) W w' ∧ Seen ((X j).endAt (hashT T0 (L1[j]).1) 0) (hashT T0 (L1[j]).1) ((X j).deep (hashT T0 (L1[j]).1) 0) 0 m c := fun W j h nv ka va kc vc g hW hn hg hm hk hv => by
      rw [← hXe] at hn ⊢
      have := putn_any (F := fun b => b ≠ g) (m := some ⟨g, 0, none⟩) (vv := 0) (c := 0) kc vc (fun b (hb : W.heap.size ≤ b) => by show b ≠ g; omega) (hT.below hW) hh0 (hmg j).1 (hmg j).2.1 (by have := (hmg j).2.2; omega) (hsz _ (List.getElem_mem h)) hn hm (fun a e => by cases e; exact fun h => h rfl) hk hv (by decide) (by decide)
      rw [← hms j h] at this
      simp only [Nat.zero_add, hXe] at this ⊢
      exact this
    have hg0 : ∀ W j (h : j < L1.length) nv ka va kc vc, Below w.heap.size w W → Nde (fun _ => True) W (X j) nv → Bts W ka (L1[j]).1 → Bts W va (L1[j]).2 → Calls Tryz.prog 8 #[nv, .int .u64 (hashT T0 (L1[j]).1 : Int), .agg #[.slice ka (L1[j]).1.length kc, .slice va (L1[j]).2.length vc], .pointer none] W fun r w' => ∃ v', r = .returned (.tuple #[v', .bool (!has (MP j) (L1[j]).1)]) ∧ Nde (fun _ => True) w' (X (j + 1)) v' ∧ Below W.heap.size W w' := fun W j h nv ka va kc vc hW hn hk hv => by
      rw [← hXe] at hn ⊢
      have := putn_any (m := none) (vv := 0) (c := 0) kc vc (fun _ _ => trivial) (hT.below hW) hh0 (hmg j).1 (hmg j).2.1 (by have := (hmg j).2.2; omega) (hsz _ (List.getElem_mem h)) hn (.inl rfl) (fun a e => by cases e) hk hv (by decide) (by decide)
      rw [← hms j h] at this
      exact this.mono fun e w' ⟨v', _, _, h1, h2, _, h4, _⟩ => ⟨v', h1, h2, h4.nil⟩
    have hsf : ∀ W v u j, Below w.heap.size w W → Nde (fun _ => True) W (X j) v → Nde (fun _ => True) W (X j) u → Calls Tryz.prog 10 #[v, u] W fun e w' => e = .returned (.bool true) ∧ Below W.heap.size W w' := fun W v u j hW h1 h2 => by
      rw [← hXe] at h1 h2
      exact selfn_any hh0 (hmg j).1 (hmg j).2.1 (by have := (hmg j).2.2; omega) (hT.below hW) h1 h2
    obtain ⟨BN, hBN⟩ : ∃ B : Nat → Nat, B = fun j => 16 + Dg.bl (((MP j).length + 1) ^ 6) := ⟨_, rfl⟩
    have hbd : ∀ W j, Calls Tryz.prog 14 #[.int .i64 (((MP j).length : Nat) : Int)] W fun e w' => e = .returned (.int .i64 ((BN j : Nat) : Int)) ∧ Below W.heap.size W w' := fun W j => Dg.refBound_any (MP j).length W (by have := (hmg j).2.2; omega) (BN j) (by rw [hBN])
    have hkd : ∀ j z, ((X j).endAt z 0).kind ≠ 3 := fun j z => (end_kind (X j) z 0 (hlaid j).ok).1
    have hdp : ∀ j z, (X j).deep z 0 ≤ 13 := fun j z => by have := deep_le (X j) z 0 (hlaid j).ok (hlaid j).right (by decide); omega
    have hsb : ∀ j z m c, Seen ((X j).endAt z 0) z ((X j).deep z 0) 0 m c → m ≤ BN j ∧ c ≤ m ∧ (X j).deep z 0 ≤ m ∧ BN j ≤ 10000 := fun j z m c hs => by
      have h5 := hs.2.2.2.1
      have hb : m ≤ BN j := by
        have hs2 := hs
        rw [← hXe] at hs2
        have := seen_bound (hgood j) hs2
        rw [hlen] at this
        rw [hBN]; exact this
      have hd : (X j).deep z 0 ≤ m := by
        obtain ⟨s1, s2, s3, _, _⟩ := hs
        have hk3 := hkd j z
        generalize (X j).endAt z 0 = Y at s1 s2 s3 hk3
        cases Y with
        | bran _ _ _ => exact absurd rfl hk3
        | none => have := (s2 (.inl rfl)).1; omega
        | leaf h' p => have := (s1 rfl).1; omega
        | buck h' K =>
          by_cases hh : h' = z
          · have := (s3 rfl hh).1; omega
          · have := (s2 (.inr ⟨hh, rfl⟩)).1; omega
      have hB2 : BN j ≤ 10000 := by
        have h60 := (hmg j).2.2
        have : Dg.bl (((MP j).length + 1) ^ 6) ≤ 36 := (Dg.bl_le _ _).2 (Nat.lt_of_le_of_lt (Nat.pow_le_pow_left (show (MP j).length + 1 ≤ 61 by omega) 6) (by decide))
        rw [hBN]; show 16 + Dg.bl (((MP j).length + 1) ^ 6) ≤ 10000; omega
      exact ⟨hb, by omega, hd, hB2⟩
    have hX0 : X 0 = .none := by rw [← hXe, hm0']; rfl
    have hq64 : ∀ j (h : j < L1.length), hashT T0 (L1[j]).1 < 18446744073709551616 := fun j h => hashT_lt hh0 _
    obtain ⟨NL, hNL⟩ : ∃ N : Nat → Nat, N = fun j => (MP j).length := ⟨_, rfl⟩
    have hNe : ∀ j, (MP j).length = NL j := fun j => by rw [hNL]
    have hN0 : NL 0 = 0 := by rw [← hNe, hm0']; rfl
    have hN60 : ∀ j, NL j ≤ 60 := fun j => by rw [← hNe]; exact (hmg j).2.2
    simp only [hNe] at hpu hen hly hbd
    rw [← hTL, ← hLL] at hsm ⊢
    simp only [← hTL] at hha hen
    have HSM := Lib.hid hsm; clear hsm
    have HPU := Lib.hid hpu; clear hpu
    have HHA := Lib.hid hha; clear hha
    have HEN := Lib.hid hen; clear hen
    have HLY := Lib.hid hly; clear hly
    have HED := Lib.hid hed; clear hed
    have HGM := Lib.hid hgm; clear hgm
    have HG0 := Lib.hid hg0; clear hg0
    have HSF := Lib.hid hsf; clear hsf
    have HBD := Lib.hid hbd; clear hbd
    have HSB := Lib.hid (And.intro hsb (And.intro hkd (And.intro hdp hq64))); clear hsb hkd hdp hq64
    have HN60 := Lib.hid hN60; clear hN60
    have HT := Lib.hid hT; clear hT
    have HL := Lib.hid ha1; clear ha1
    have HLL := Lib.hid hLL; clear hLL
    have HX0 := Lib.hid (And.intro hX0 (And.intro hN0 hm0')); clear hX0 hN0 hm0'
    clear ha0 hs hc0 hm0 hh0 hc1 hm1 hTL hL63 hml hMP hmg hms hX hXe hNL hNe ht200 hsz hgood hlen hlaid hBN
    go_enter Tryz.func4, Tryz.ntmps4
    go_wp2_with fail
    refine HSM.out.mono ?_
    rintro e w1 ⟨rfl, hb⟩
    have B1 := Lib.hid hb; clear hb HSM
    go_wp2_with fail
    go_loopw [5, 6, 25] (fun nv mv u wr => ∃ (j : Nat) (B : Option Addr) (d : Nat), u = .int .i64 j ∧ j ≤ LL ∧ mv = .slice B (NL j) d ∧ Hid (Below w.heap.size w wr) ∧ Hid (Rcs wr B (MP j)) ∧ Hid (Nde (fun _ => True) wr (X j) nv)) (fun _ _ u _ => LL - (intOf u).toNat)
    case atStart => exact ⟨0, none, 0, rfl, by omega, by rw [HX0.out.2.1], B1.out, by rw [HX0.out.2.2]; exact .inl rfl, by rw [HX0.out.1]; rfl⟩
    case round =>
      obtain ⟨j, B, cp, rfl, hj, rfl, hbel, hrc, hnd⟩ := hrel
      by_cases hlt : j < LL
      · have hlt' : j < L1.length := by rw [← HLL.out]; exact hlt
        obtain ⟨b, off, ka, kc, va, vc, rfl, hbl, g1, g2, hk, hv⟩ := pcs_at (HL.out.below hbel.out) hlt'
        obtain ⟨K, hK⟩ : ∃ K, K = (L1[j]).1 := ⟨_, rfl⟩
        obtain ⟨V, hV⟩ : ∃ V, V = (L1[j]).2 := ⟨_, rfl⟩
        obtain ⟨hsb, hkd, hdp, hq64⟩ := HSB.out
        have hqz := hq64 j hlt'
        have hpu := fun W B d (hr : Rcs W B (MP j)) => HPU.out W B d j hlt' hr
        have hha := fun W (hW : Below w.heap.size w W) => HHA.out W j hlt' hW
        have hgm := fun W nv ka va kc vc g (hW : Below w.heap.size w W) (hn : Nde (fun b => b ≠ g) W (X j) nv) => HGM.out W j hlt' nv ka va kc vc g hW hn
        have hg0 := fun W nv ka va kc vc (hW : Below w.heap.size w W) (hn : Nde (fun _ => True) W (X j) nv) => HG0.out W j hlt' nv ka va kc vc hW hn
        simp only [← hK, ← hV] at g1 g2 hk hv hpu hha hgm hg0 hqz
        obtain ⟨x, hx⟩ : ∃ x : Nat, x = K.length := ⟨_, rfl⟩
        obtain ⟨y, hy⟩ : ∃ x : Nat, x = V.length := ⟨_, rfl⟩
        obtain ⟨gb, hgb⟩ : ∃ g, g = wr.heap.size := ⟨_, rfl⟩
        obtain ⟨wa, hwa⟩ : ∃ wa, wa = wr.alloc (.cells #[.slice ka x kc, .slice va y vc] 29) := ⟨_, rfl⟩
        have hba : Below wr.heap.size wr wa := by rw [hwa]; exact (Below.refl _ _).alloc (Nat.le_refl _) _
        have ra : wa.heap[gb]? = some (.cells #[.slice ka x kc, .slice va y vc] 29 (0, 0)) := by rw [hwa, hgb]; exact heap_alloc_new wr _
        have hcv : ∀ W, Below wa.heap.size wa W → (convert 27 9 (.slice ka K.length kc)).run Tryz.prog W = .ok (.string ⟨K.toArray⟩) W ∧ (convert 27 9 (.slice va V.length vc)).run Tryz.prog W = .ok (.string ⟨V.toArray⟩) W ∧ Bts W ka K ∧ Bts W va V := fun W hW => ⟨conv_any ((hk.below hba).below hW) kc, conv_any ((hv.below hba).below hW) vc, (hk.below hba).below hW, (hv.below hba).below hW⟩
        have hbx : ∀ W, Below wa.heap.size wa W → W.cell? ⟨gb, 0, none⟩ = some (.slice ka x kc) ∧ W.cell? ⟨gb, 1, none⟩ = some (.slice va y vc) := fun W hW => by
          have r := (hW.block _ (Array.getElem?_eq_some_iff.1 ra).1).trans ra
          exact ⟨row_cell r rfl, row_cell r rfl⟩
        obtain ⟨sk, hsk⟩ : ∃ s : ByteArray, s = ⟨K.toArray⟩ := ⟨_, rfl⟩
        obtain ⟨sv, hsv⟩ : ∃ s : ByteArray, s = ⟨V.toArray⟩ := ⟨_, rfl⟩
        obtain ⟨q, hq⟩ : ∃ q : Nat, q = hashT T0 K := ⟨_, rfl⟩
        obtain ⟨bb, hbb⟩ : ∃ b : Bool, b = (!has (MP j) K) := ⟨_, rfl⟩
        obtain ⟨Y, hY⟩ : ∃ Y, Y = (X j).endAt q 0 := ⟨_, rfl⟩
        obtain ⟨d, hd⟩ : ∃ d, d = (X j).deep q 0 := ⟨_, rfl⟩
        have hed := fun W r => HED.out W r j q
        have hsb := hsb j q
        have hkd := hkd j q
        have hdp := hdp j q
        have hbd := fun W => HBD.out W j
        have hn60 := HN60.out j
        obtain ⟨bn, hbn⟩ : ∃ b, b = BN j := ⟨_, rfl⟩
        obtain ⟨nl, hnl⟩ : ∃ b, b = NL j := ⟨_, rfl⟩
        simp only [← hbb, ← hq] at hgm hg0
        simp only [← hY, ← hd] at hgm hed hsb hkd hdp
        simp only [← hbn] at hsb hbd
        simp only [← hsk, ← hsv, ← hx, ← hy] at hcv
        simp only [← hsk, ← hsv] at hpu
        simp only [← hsk, ← hq] at hha
        rw [← hq] at hqz
        simp only [← hx, ← hy] at hgm hg0
        have hen := fun W B d => HEN.out W B d j
        have hly := fun W A c => HLY.out W A c j
        simp only [← hnl] at hen hly hbd hpu hn60 ⊢
        rw [← hx] at g1
        rw [← hy] at g2
        have hbe2 : (bb != bb) = false := by simp
        have HCV := Lib.hid hcv; clear hcv
        have HBX := Lib.hid hbx; clear hbx
        have HPU1 := Lib.hid hpu; clear hpu
        have HHA1 := Lib.hid hha; clear hha
        have HGM1 := Lib.hid hgm; clear hgm
        have HG01 := Lib.hid hg0; clear hg0
        have HED1 := Lib.hid (fun W r => hed W r hqz); clear hed
        have HSB1 := Lib.hid hsb; clear hsb
        have HKD := Lib.hid hkd; clear hkd
        have HBD1 := Lib.hid hbd; clear hbd
        have HEN1 := Lib.hid hen; clear hen
        have HLY1 := Lib.hid hly; clear hly
        have HSF1 := Lib.hid (fun W v u => HSF.out W v u (j + 1))
        have BA := Lib.hid (below_then hbel.out hba)
        have RA := Lib.hid (hrc.out.below hba)
        have NA := Lib.hid (hnd.out.below hba)
        have HWA := Lib.hid hwa; clear hwa
        have HGB := Lib.hid hgb; clear hgb
        obtain ⟨v1, v2, _, _⟩ := HCV.out wa (Below.refl _ _)
        obtain ⟨d0, d1⟩ := HBX.out wa (Below.refl _ _)
        clear hK hV hsk hsv hq hk hv hba ra HPU HHA HGM HG0 hnd hrc hx hy hbb hY hd hbn hnl hq64 hqz HED HEN HLY HBD HSF HN60
        go_upto_region 8 with fail
        rw [← HWA.out, ← HGB.out]
        go_wp2_with fail
        refine (HHA1.out wa BA.out).mono ?_
        rintro e w2 ⟨rfl, rfl⟩
        clear v1 v2 d0 d1
        go_wp2_with fail
        refine (HEN1.out wa B cp BA.out RA.out).mono ?_
        rintro e w3 ⟨A3, c3, rfl, hr3, hb⟩
        have C3 := Lib.hid hb; clear hb
        have J := Lib.hid (HLY1.out w3 A3 c3 hr3); clear hr3
        go_wp2_with fail
        refine J.out.mono ?_
        rintro e w4 ⟨r5, rfl, hm5, hb⟩
        have C4 := Lib.hid (below_then C3.out hb); clear hb
        have J := Lib.hid (HED1.out w4 r5 hm5); clear hm5
        obtain ⟨ar5, har5⟩ : ∃ v, v = RN.agg r5 (X j) := ⟨_, rfl⟩
        have har : ∃ xs, ar5 = .agg xs := ⟨_, har5⟩
        rw [← har5] at J ⊢
        clear har5
        obtain ⟨xs5, rfl⟩ := har
        go_wp2_with fail
        refine J.out.mono ?_
        rintro e w6 ⟨⟨pa, pc, sa, sc, ua, uc⟩, rfl, hm6, hb⟩
        have C6 := Lib.hid (below_then C4.out hb); clear hb hm6 J
        obtain ⟨k0, hk0⟩ : ∃ k, k = Y.kind := ⟨_, rfl⟩
        obtain ⟨k1, hkh⟩ : ∃ k, k = Y.hash := ⟨_, rfl⟩
        obtain ⟨k2, hk2⟩ : ∃ k, k = Y.prs.length := ⟨_, rfl⟩
        obtain ⟨k3, hk3⟩ : ∃ k, k = Y.set.length := ⟨_, rfl⟩
        obtain ⟨k4, hk4⟩ : ∃ k, k = Y.num := ⟨_, rfl⟩
        have hag : RN.agg (⟨pa, pc, sa, sc, ua, uc⟩ : RN) Y = .agg #[.int .i64 (k0 : Int), .int .u64 (k1 : Int), .slice pa k2 pc, .slice sa k3 sc, .slice ua k4 uc] := by rw [hk0, hkh, hk2, hk3, hk4]; rfl
        rw [hag]
        obtain ⟨gx, hgx⟩ : ∃ g, g = w6.heap.size := ⟨_, rfl⟩
        obtain ⟨w7, hw7⟩ : ∃ x, x = w6.alloc (.cells #[.int .i64 (k0 : Int), .int .u64 (k1 : Int), .slice pa k2 pc, .slice sa k3 sc, .slice ua k4 uc] 44) := ⟨_, rfl⟩
        have hb7 : Below w6.heap.size w6 w7 := by rw [hw7]; exact (Below.refl _ _).alloc (Nat.le_refl _) _
        have r7 : w7.heap[gx]? = some (.cells #[.int .i64 (k0 : Int), .int .u64 (k1 : Int), .slice pa k2 pc, .slice sa k3 sc, .slice ua k4 uc] 44 (0, 0)) := by rw [hw7, hgx]; exact heap_alloc_new w6 _
        have hg7 : gx < w7.heap.size := (Array.getElem?_eq_some_iff.1 r7).1
        have HCEL : Hid (∀ W, Below w7.heap.size w7 W → W.cell? ⟨gx, 0, none⟩ = some (.int .i64 (k0 : Int)) ∧ W.cell? ⟨gx, 1, none⟩ = some (.int .u64 (k1 : Int))) := fun W hW => by
          obtain ⟨y0, y1, y2, _, _⟩ := (row5 ((hW.block gx hg7).trans r7)).1
          exact ⟨y0, y1⟩
        have C7 := Lib.hid (below_then C6.out hb7)
        have HK := Lib.hid (And.intro hk0 hkh)
        have HGX := Lib.hid hgx; clear hgx
        have HW7 := Lib.hid hw7; clear hw7
        clear hb7 r7 hg7 hk0 hkh hk2 hk3 hk4 hag
        go_upto_region 10 with fail
        simp only [← HGX.out] at HW7 ⊢
        rw [← HW7.out]
        obtain ⟨gm, hgm⟩ : ∃ g, g = w7.heap.size := ⟨_, rfl⟩
        obtain ⟨w8, hw8⟩ : ∃ x, x = w7.alloc (.cells #[.int .i64 0, .int .i64 0] 51) := ⟨_, rfl⟩
        have b8 : Below w7.heap.size w7 w8 := by rw [hw8]; exact (Below.refl _ _).alloc (Nat.le_refl _) _
        have r8 : w8.heap[gm]? = some (.cells #[.int .i64 0, .int .i64 0] 51 (0, 0)) := by rw [hw8, hgm]; exact heap_alloc_new w7 _
        have N7 := Lib.hid (NA.out.below C7.out)
        have n8 : Nde (fun b => b ≠ gm) w8 (X j) u5 := (N7.out.mono (G := fun b => b ≠ gm) fun b hl _ => by show b ≠ gm; rw [hgm]; omega).below b8
        have C8 := Lib.hid (below_then C7.out b8)
        obtain ⟨_, _, bk8, bv8⟩ := HCV.out w8 C8.out
        have J := Lib.hid (HGM1.out w8 u5 ka va kc vc gm (below_then BA.out C8.out) n8 (Array.getElem?_eq_some_iff.1 r8).1 (.inr ⟨gm, rfl, r8⟩) bk8 bv8)
        have B78 := Lib.hid b8; clear b8
        have HGMS : Hid (gm = w7.heap.size) := hgm
        have HW8 := Lib.hid hw8; clear hw8
        obtain ⟨d0, d1⟩ := HBX.out w8 C8.out
        clear r8 hgm HGM1 n8 bk8 bv8
        go_upto_region 11 with fail
        simp only [← HGMS.out] at HW8 ⊢
        rw [← HW8.out]
        go_wp2_with fail
        refine J.out.mono ?_
        rintro e w9 ⟨vA, v', c', rfl, hnA, hm9, ho9, hsn⟩
        have b89 : Below w7.heap.size w8 w9 := ho9.below B78.out.size (by rw [HGMS.out]; exact Nat.le_refl _)
        have B79 := Lib.hid (B78.out.trans b89)
        have N9 := Lib.hid (N7.out.below B79.out)
        have C9 := Lib.hid (below_then C7.out B79.out)
        have M9 := Lib.hid hm9; clear hm9
        have NA9 := Lib.hid (hnA.mono (G := fun _ => True) fun _ _ _ => trivial); clear hnA
        have SN := Lib.hid hsn
        obtain ⟨hvb, hcb, hdv, hbn2⟩ := HSB1.out v' c' hsn
        obtain ⟨_, _, bk9, bv9⟩ := HCV.out w9 C9.out
        have J := Lib.hid (HG01.out w9 u5 ka va kc vc (below_then BA.out C9.out) N9.out bk9 bv9)
        clear d0 d1
        obtain ⟨d0, d1⟩ := HBX.out w9 C9.out
        clear hsn ho9 b89 bk9 bv9 HG01
        go_wp2_with fail
        refine J.out.mono ?_
        rintro e w10 ⟨vB, rfl, hnB, hb⟩
        have B710 := Lib.hid (below_then B79.out hb)
        have C10 := Lib.hid (below_then C9.out hb)
        have NA10 := Lib.hid (NA9.out.below hb)
        have NB10 := Lib.hid hnB; clear hnB
        obtain ⟨g2, hg2, r10⟩ : ∃ g2, (some (⟨gm, 0, none⟩ : Addr)) = some ⟨g2, 0, none⟩ ∧ w10.heap[g2]? = some (.cells #[.int .i64 (v' : Int), .int .i64 (c' : Int)] 51 (0, 0)) := by
          rcases M9.out.below hb with h | h
          · cases h
          · exact h
        cases hg2
        have hgl : gm < w10.heap.size := (Array.getElem?_eq_some_iff.1 r10).1
        have HC10 : Hid (∀ W, Below w10.heap.size w10 W → W.cell? ⟨gm, 0, none⟩ = some (.int .i64 (v' : Int)) ∧ W.cell? ⟨gm, 1, none⟩ = some (.int .i64 (c' : Int))) := fun W hW => by
          have := (hW.block gm hgl).trans r10
          exact ⟨row_cell this rfl, row_cell this rfl⟩
        have HX10 : Hid (∀ W, Below w10.heap.size w10 W → W.cell? ⟨gx, 0, none⟩ = some (.int .i64 (k0 : Int)) ∧ W.cell? ⟨gx, 1, none⟩ = some (.int .u64 (k1 : Int))) := fun W hW => HCEL.out W (below_then B710.out hW)
        have HBX10 : Hid (∀ W, Below w10.heap.size w10 W → (W.cell? ⟨gb, 0, none⟩ = some (.slice ka x kc) ∧ W.cell? ⟨gb, 1, none⟩ = some (.slice va y vc)) ∧ (convert 27 9 (.slice ka x kc)).run Tryz.prog W = .ok (.string sk) W ∧ (convert 27 9 (.slice va y vc)).run Tryz.prog W = .ok (.string sv) W ∧ Below w.heap.size w W ∧ Rcs W B (MP j)) := fun W hW => by
          obtain ⟨z1, z2, _, _⟩ := HCV.out W (below_then C10.out hW)
          exact ⟨HBX.out W (below_then C10.out hW), z1, z2, below_then BA.out (below_then C10.out hW), RA.out.below (below_then C10.out hW)⟩
        have JS : Hid (∀ W, Below w10.heap.size w10 W → Calls Tryz.prog 10 #[vA, vB] W fun e w' => e = .returned (.bool true) ∧ Below W.heap.size W w') := fun W hW => HSF1.out W vA vB (below_then BA.out (below_then C10.out hW)) (NA10.out.below hW) (NB10.out.below hW)
        have d1' : decide ((v' : Int) > (bn : Int)) = false := decide_eq_false (by omega)
        have d2 : decide ((c' : Int) > (v' : Int)) = false := decide_eq_false (by omega)
        have d3 : decide (bn < v') = false := decide_eq_false (by omega)
        have d4 : decide (v' < c') = false := decide_eq_false (by omega)
        have d5 : decide ((v' : Int) < (d : Int)) = false := decide_eq_false (by omega)
        have d6 : decide (v' < d) = false := decide_eq_false (by omega)
        have hz0 : Below w10.heap.size w10 w10.drew := (Below.refl _ _).drew
        clear J hb r10 hgl HCEL HCV HBX d0 d1 HSF1 HSB1 NB10 NA9 N9 N7 NA RA
        go_upto_region 13 with fail
        go_cut [86] from 57 to 139 (fun s86 wx => s86 = .bool false ∧ Hid (Below w10.heap.size w10 wx))
        case first =>
          go_region_held3 (fun W => W.cell? ⟨gm, 0, none⟩ = some (.int .i64 (v' : Int)) ∧ W.cell? ⟨gm, 1, none⟩ = some (.int .i64 (c' : Int))) (first | (with_reducible exact HC10.out _ hz0) | (with_reducible exact HC10.out _ hzA) | (with_reducible exact HC10.out _ hzB)) (first
            | (go_at_call 10; (with_reducible refine (JS.out _ hz0).mono ?_); rintro e wA ⟨rfl, hA⟩; have hzA := below_then hz0 hA)
            | (go_at_call 14; (with_reducible refine (HBD1.out _).mono ?_); rintro e wB ⟨rfl, hB⟩; have hzB := below_then hzA hB))
          all_goals (go_wp2_with fail; go_meet; exact ⟨rfl, hzB⟩)
        case rest =>
          obtain ⟨rfl, hbx⟩ := hcut
          obtain ⟨y0, y1⟩ := HX10.out wc hbx.out
          obtain ⟨m0, m1⟩ := HC10.out wc hbx.out
          obtain ⟨⟨z0, z1⟩, cv1, cv2, hbw, hrw⟩ := HBX10.out wc hbx.out
          have PW := Lib.hid (HPU1.out wc B cp hrw)
          have BW := Lib.hid hbw
          have NW := Lib.hid (NA10.out.below hbx.out)
          have hkk : k0 = 0 ∨ k0 = 1 ∨ k0 = 2 := by
            have h1 := HK.out.1
            have h2 := HKD.out
            have h3 : Y.kind ≤ 3 := by cases Y <;> simp [Nd.kind]
            omega
          have gg := fun W x y xs ys => guard_met W x y xs ys
          obtain ⟨s1, s2, s3, _, _⟩ := SN.out
          rw [← HK.out.1, ← HK.out.2] at s1 s2 s3
          clear HX10 HC10 SN d1' d2 d3 d4 d5 d6 hvb hcb hbe2 HBD1 hz0 HBX10 JS hbw hrw hdv hbn2 HEN1 HLY1 HED1 HPU1
          rcases hkk with rfl | rfl | rfl
          · obtain ⟨e1, e2⟩ := s2 (.inl rfl)
            subst e1 e2
            clear s1 s2 s3
            have em := fun W => eq_met (v' : Int) 0 (v' : Int) 0 W
            simp only [beq_self_eq_true, Bool.and_self] at em
            go_wp2_with fail
            refine PW.out.mono ?_
            rintro e w11 ⟨A11, c11, rfl, hr11, hb11⟩
            have F11 := Lib.hid (And.intro hr11 (And.intro (below_then BW.out hb11) (NW.out.below hb11)))
            clear hr11 hb11 z0 z1 cv1 cv2 y0 y1 m0 m1 PW BW NW
            go_wp2_with fail
            go_roundw
            case rel => exact ⟨j + 1, A11, c11, by go_num, by omega, rfl, F11.out.2.1, F11.out.1, F11.out.2.2⟩
            case measure => simp [intOf]; omega
          · obtain ⟨e1, e2⟩ := s1 rfl
            have e3 : (v' : Int) = (d : Int) + 1 := by omega
            rw [e3] at m0
            have em := fun W (z : Int) => eq_met ((d : Int) + 1) z ((d : Int) + 1) z W
            simp only [beq_self_eq_true, Bool.and_self] at em
            clear s1 s2 s3 e1 e3
            by_cases hkz : k1 = q
            · have hzz : ((k1 : Int) == (q : Int)) = true := by simp; omega
              rw [if_pos hkz] at e2
              have e4 : (c' : Int) = 1 := by omega
              rw [e4] at m1
              clear e2 e4 hkz
              go_wp2_with fail
              refine PW.out.mono ?_
              rintro e w11 ⟨A11, c11, rfl, hr11, hb11⟩
              have F11 := Lib.hid (And.intro hr11 (And.intro (below_then BW.out hb11) (NW.out.below hb11)))
              clear hr11 hb11 z0 z1 cv1 cv2 y0 y1 m0 m1 PW BW NW
              go_wp2_with fail
              go_roundw
              case rel => exact ⟨j + 1, A11, c11, by go_num, by omega, rfl, F11.out.2.1, F11.out.1, F11.out.2.2⟩
              case measure => simp [intOf]; omega
            · have hzz : ((k1 : Int) == (q : Int)) = false := by simp; omega
              rw [if_neg hkz] at e2
              have e4 : (c' : Int) = 0 := by omega
              rw [e4] at m1
              clear e2 e4 hkz
              go_wp2_with fail
              refine PW.out.mono ?_
              rintro e w11 ⟨A11, c11, rfl, hr11, hb11⟩
              have F11 := Lib.hid (And.intro hr11 (And.intro (below_then BW.out hb11) (NW.out.below hb11)))
              clear hr11 hb11 z0 z1 cv1 cv2 y0 y1 m0 m1 PW BW NW
              go_wp2_with fail
              go_roundw
              case rel => exact ⟨j + 1, A11, c11, by go_num, by omega, rfl, F11.out.2.1, F11.out.1, F11.out.2.2⟩
              case measure => simp [intOf]; omega
          · by_cases hkz : k1 = q
            · have hzz : ((k1 : Int) != (q : Int)) = false := by simp; omega
              have hzz2 : ((k1 : Int) == (q : Int)) = true := by simp; omega
              clear s1 s2 s3 hkz
              go_wp2_with fail
              refine PW.out.mono ?_
              rintro e w11 ⟨A11, c11, rfl, hr11, hb11⟩
              have F11 := Lib.hid (And.intro hr11 (And.intro (below_then BW.out hb11) (NW.out.below hb11)))
              clear hr11 hb11 z0 z1 cv1 cv2 y0 y1 m0 m1 PW BW NW
              go_wp2_with fail
              go_roundw
              case rel => exact ⟨j + 1, A11, c11, by go_num, by omega, rfl, F11.out.2.1, F11.out.1, F11.out.2.2⟩
              case measure => simp [intOf]; omega
            · have hzz : ((k1 : Int) != (q : Int)) = true := by simp; omega
              have hzz2 : ((k1 : Int) == (q : Int)) = false := by simp; omega
              obtain ⟨e1, e2⟩ := s2 (.inr ⟨hkz, rfl⟩)
              subst e1 e2
              clear s1 s2 s3 hkz
              have em := fun W => eq_met (v' : Int) 0 (v' : Int) 0 W
              simp only [beq_self_eq_true, Bool.and_self] at em
              go_wp2_with fail
              refine PW.out.mono ?_
              rintro e w11 ⟨A11, c11, rfl, hr11, hb11⟩
              have F11 := Lib.hid (And.intro hr11 (And.intro (below_then BW.out hb11) (NW.out.below hb11)))
              clear hr11 hb11 z0 z1 cv1 cv2 y0 y1 m0 m1 PW BW NW
              go_wp2_with fail
              go_roundw
              case rel => exact ⟨j + 1, A11, c11, by go_num, by omega, rfl, F11.out.2.1, F11.out.1, F11.out.2.2⟩
              case measure => simp [intOf]; omega
      · obtain rfl : j = LL := by omega
        have JA := Lib.hid (awake19_any (HT.out.below hbel.out))
        go_wp2_with fail
        refine JA.out.mono ?_
        rintro e w2 ⟨rfl, hb⟩
        have B2 := Lib.hid (below_then hbel.out hb); clear hb
        go_wp2_with fail
        go_ret
        exact ⟨rfl, B2.out⟩

theorem lifted (os : Os) (started : os.Started) (H : Type) (enc : TypeId × Value → H) :
    ReturnsInHanded {} Tryz.checked os 4 .any (fun w args => (Rows.graftMetersSpec.pre enc Tryz.prog Tryz.f4 [] false w args ∧ laidMetH Tryz.prog laid w) ∧ sizedMet enc Tryz.prog Tryz.f4 (OpenSpec.ofChange Rows.graftMetersSpec) false w args)
      (Rows.graftMetersSpec.post enc Tryz.prog Tryz.f4 false true false false) := by
  refine returnsInHanded_of_change_and (C := Tryz.checked) (X := fun w _ => laidMetH Tryz.prog laid w) (fun _ _ _ hh h => h.of_heap hh) own started (by kernel_rfl) Tryz.func4
    (ChangeSpec.witness_shaped (enc := enc) (C := Tryz.checked) (os := os) (X := fun w _ => laidMetH Tryz.prog laid w) false (World.laidAll Tryz.prog os laid) #[.slice none 0 0, .slice none 0 0] 8 (World.laidAll_os _ _ _)
      (World.shaped_of_ZipB (by kernel_rfl) (by kernel_rfl)) (by kernel_rfl) (by kernel_rfl) (by kernel_rfl)
      (by rw [MakeChecks.laidMetH_plain _ _ _ (by kernel_rfl)]; exact laidMet_laidAll _ (by kernel_rfl) (by kernel_rfl))) ?_
  intro W base args ds gs before hval0 hW _ _ hL _
  have hval : ∀ (j : Nat) t v, Tryz.f4.params[j]? = some t → args[j]? = some v → Value.okWide Tryz.prog W .any base t v := hval0
  have hW' := hW
  obtain ⟨p, q, hA0, hV, rfl, _, _⟩ := hW
  have hA : DataW.TrodAll enc Tryz.prog W 0 (fun _ => true) true Tryz.f4.params.toList args.toList ds p := hA0
  rw [Tryz.params4] at hA hval
  obtain ⟨v0, vs0, d0, ds0, p0, q0, hargs, rfl, rfl, h0, r0⟩ := trodAll_cons hA
  obtain ⟨v1, vs1, d1, ds1, p1, q1, rfl, rfl, rfl, h1, r1⟩ := trodAll_cons r0
  obtain ⟨rfl, rfl, rfl⟩ := trodAll_nil r1
  obtain rfl : args = #[v0, v1] := by cases args; simp_all
  obtain ⟨rfl, rfl⟩ := trodVars_none hV
  have lt0 : ∀ x ∈ p0, x.block < W.heap.size := by obtain ⟨m, hm⟩ := h0; exact DataW.trod_lt m _ _ _ hm
  have ok0 := hval 0 22 v0 rfl rfl
  have lt1 : ∀ x ∈ p1, x.block < W.heap.size := by obtain ⟨m, hm⟩ := h1; exact DataW.trod_lt m _ _ _ hm
  have ok1 := hval 1 23 v1 rfl rfl
  clear hA0 hval0 hval
  obtain ⟨A0, c0, T0, rfl, hc0, hm0, ha0, hh0⟩ := nums64_in ok0 h0
  obtain ⟨A1, c1, L1, rfl, hc1, hm1, ha1⟩ := pairs_in ok1 h1
  refine (walk W hc0 hm0 ha0 hh0 hc1 hm1 ha1 (tab_of_laid hL)).mono fun e W' ⟨he, bel⟩ => ?_
  subst he
  exact ⟨_, rfl, _, _, _, [], _, [], hW', trodAll_mk1 (shut_bool Tryz.underlying4 _), (trodAll_cons_mk (Below.trod laidOut (by kernel_rfl) (of_decide_eq_true (by kernel_rfl)) h0 bel lt0) (trodAll_cons_mk (Below.trod laidOut (by kernel_rfl) (of_decide_eq_true (by kernel_rfl)) h1 bel lt1) trodAll_mk0)), rfl, bel.frame _, fun h => by cases h⟩

theorem over : Rows.GraftMetersSaid :=
  OpenClaim.holds_of_wide 4 Tryz.f4 rfl rfl rfl rfl rfl rfl rfl ⟨rfl, rfl, rfl, rfl, rfl⟩ rfl rfl rfl rfl rfl (by kernel_rfl) Tryz.func4 (by kernel_rfl)
    (of_decide_eq_true (by kernel_rfl)) (by unfold Func.isWrapper; first | (rw [if_pos (by decide +kernel)]; kernel_rfl) | (rw [if_neg (by decide +kernel)]; exact ⟨rfl, rfl⟩))
    (fun os started H enc _ => lifted os started H enc)

/-- ████ THE STATEMENT: THE TIED CARD ████ -/
theorem proved : Rows.GraftMetersCardSaid :=
  Claim7.holds_tied_plain_at .later [] [.data] true (true, "4222baa68a6bb6fefef8a4cb7cd168bca50d828e60942ba37aafc22ca60e1a7a") true over (fun _ h => by cases h) (by kernel_rfl) (fun _ h => by cases h) graftMeters_row_tie rfl ⟨rfl, rfl⟩ (by kernel_rfl) rfl
    (fun f fn hf hfn => by
      obtain rfl : f = 4 := Option.some.inj ((show Tryz.prog.funcNamed "brushwood/brushwoodlaw19.GraftMeters" = some 4 by kernel_rfl).symm.trans hf) |>.symm
      obtain rfl : fn = Tryz.f4 := (Option.some.inj (Tryz.func4.symm.trans hfn)).symm
      exact ⟨by kernel_rfl, fun j t ht => by
        rw [Tryz.params4] at ht
        have hm : t ∈ [22, 23] := by simpa using Array.mem_of_getElem? ht
        have hall : ([22, 23].all fun u => !Tryz.prog.wantsStandIn u) = true := by kernel_rfl
        exact (show Tryz.prog.wantsStandIn t = false by simpa using List.all_eq_true.1 hall t hm)⟩)
    (by kernel_rfl)
#print axioms proved
end Go.Proofs.YtmbdimonfdncpaaGreatDoor.graftMeters
