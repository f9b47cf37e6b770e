/-
  slices.symMergeCmpFunc at pairs, in full: the third arm.
-/
import Derived.Test.YtfhnmmiakknilaaSymUp
namespace Go.Proofs.Ytfhnmmiakknilaa
open Go.Shelf Go.RowKit Go.Lib Go.Sort Go.Proofs
set_option maxHeartbeats 4000000
set_option maxRecDepth 1000000
variable {g : Nat → PV} {w0 : World} {blk off : Nat} {d0 : Array Nat} {cf : Nat → Nat → Int}
theorem mgd_eq {lt : Nat → Nat → Bool} {f h : Nat → Nat} {a b : Nat} (e : h = f) (A : Asc lt f a b) : Mgd lt f h a b := by
  subst e
  exact Mgd.refl A
theorem sym_cut (R : RowK (enc2 g) 2 w0 blk off d0) (hC : CmpLays Try.prog 38 #[] (enc2 g) 2 cf blk off d0.size w0) (hS : SWO (ltOf cf)) (cap a m b : Nat) {w : World} {d : Array Nat} (hW : SWK (enc2 g) 2 w0 blk off d w) (hs : d.size = d0.size) (hsz : d0.size < 4611686018427387904) (h1 : a + 1 < m) (h2 : m + 1 < b) (h3 : b ≤ d0.size) (A : Asc (ltOf cf) (pl d) a m) (B : Asc (ltOf cf) (pl d) m b)
    (ih : ∀ (x y z : Nat) (W : World) (D : Array Nat), z - x < b - a → x < y → y < z → z ≤ d0.size → SWK (enc2 g) 2 w0 blk off D W → D.size = d0.size → Asc (ltOf cf) (pl D) x y → Asc (ltOf cf) (pl D) y z →
      Calls Try.prog 70 #[.slice (some ⟨blk, off, none⟩) d0.size cap, .int .i64 (x : Int), .int .i64 (y : Int), .int .i64 (z : Int), .func (.func 38) #[] #[]] W fun e w' => e = .returned (.tuple #[]) ∧ ∃ d', SWK (enc2 g) 2 w0 blk off d' w' ∧ d'.size = d0.size ∧ Mgd (ltOf cf) (pl D) (pl d') x z) :
    Calls Try.prog 70 #[.slice (some ⟨blk, off, none⟩) d0.size cap, .int .i64 (a : Int), .int .i64 (m : Int), .int .i64 (b : Int), .func (.func 38) #[] #[]] w fun e w' => e = .returned (.tuple #[]) ∧ ∃ d', SWK (enc2 g) 2 w0 blk off d' w' ∧ d'.size = d0.size ∧ Mgd (ltOf cf) (pl d) (pl d') a b := by
  have S0 : Hid (SWK (enc2 g) 2 w0 blk off d w) := hW
  have HR : Hid (RowK (enc2 g) 2 w0 blk off d0) := R
  have HC : Hid (CmpLays Try.prog 38 #[] (enc2 g) 2 cf blk off d0.size w0) := hC
  have HS := Lib.hid hS
  have HA := Lib.hid A
  have HB := Lib.hid B
  have ROT := Lib.hid (fun (x y z : Nat) (W : World) (D : Array Nat) (k1 : x < y) (k2 : y < z) (k3 : z ≤ d0.size) (hS : SWK (enc2 g) 2 w0 blk off D W) (hD : D.size = d0.size) => rotate_any R cap x y z (.func (.func 38) #[] #[]) hS hD hsz k1 k2 k3)
  have IH := Lib.hid ih
  obtain ⟨sz, hz⟩ : ∃ sz, sz = d0.size := ⟨_, rfl⟩
  rw [← hz] at hs hsz h3 ROT IH ⊢
  have HZ := Lib.hid hz
  obtain ⟨mid, hmid⟩ : ∃ mid, mid = (a + b) / 2 := ⟨_, rfl⟩
  have hm1 : 2 * mid ≤ a + b := by omega
  have hm2 : a + b ≤ 2 * mid + 1 := by omega
  have f1 : IntKind.i64.wrap ((a : Int) + (b : Int)) = (a : Int) + (b : Int) := by rw [IntKind.wrap_i64]; omega
  have f2 : ((a : Int) + (b : Int)) / 2 = (mid : Int) := by omega
  obtain ⟨n, hn⟩ : ∃ n, n = mid + m := ⟨_, rfl⟩
  have f3 : IntKind.i64.wrap ((mid : Int) + (m : Int)) = (n : Int) := by rw [IntKind.wrap_i64]; omega
  have f4 : (mid : Int) + (m : Int) = (n : Int) := by omega
  obtain ⟨p, hp⟩ : ∃ p, p = n - 1 := ⟨_, rfl⟩
  have f5 : IntKind.i64.wrap ((n : Int) - 1) = (p : Int) := by rw [IntKind.wrap_i64]; omega
  have f6 : (n : Int) - 1 = (p : Int) := by omega
  have e1 : IntKind.i64.wrap ((m : Int) - (a : Int)) = (m : Int) - (a : Int) := by rw [IntKind.wrap_i64]; omega
  have e3 : ((m : Int) - (a : Int) == 1) = false := by
    have : ¬ (m : Int) - (a : Int) = 1 := by omega
    simpa using this
  have e4 : ¬ (m : Int) - (a : Int) = 1 := by omega
  have e5 : IntKind.i64.wrap ((b : Int) - (m : Int)) = (b : Int) - (m : Int) := by rw [IntKind.wrap_i64]; omega
  have e6 : ((b : Int) - (m : Int) == 1) = false := by
    have : ¬ (b : Int) - (m : Int) = 1 := by omega
    simpa using this
  have e7 : ¬ (b : Int) - (m : Int) = 1 := by omega
  have HN := Lib.hid (And.intro hmid (And.intro hn hp))
  clear hW hz R hC hS A B ih hmid hn hp
  have mixed : Try.prog.follows .mixedOrders = true := by kernel_rfl
  by_cases hmm : mid < m
  · obtain ⟨lo, hlo⟩ : ∃ lo, lo = n - b := ⟨_, rfl⟩
    have g1 : IntKind.i64.wrap ((n : Int) - (b : Int)) = (lo : Int) := by have := HN.out.2.1; rw [IntKind.wrap_i64]; omega
    have g2 : (n : Int) - (b : Int) = (lo : Int) := by have := HN.out.2.1; omega
    have g3 : (mid : Int) < (m : Int) := by omega
    have HL := Lib.hid hlo; clear hlo
    go_enter Try.func70, Try.ntmps70
    go_wp2_with fail
    go_loopg [20, 21, 23] (mid - lo) (fun kx s10 s11 s12 wr => ∃ (i j : Nat), s10 = .int .i64 (i : Int) ∧ s11 = .int .i64 (j : Int) ∧ lo ≤ i ∧ i ≤ j ∧ j ≤ mid ∧ j - i ≤ kx ∧ Hid (SWK (enc2 g) 2 w0 blk off d wr) ∧ Hid (i = lo ∨ ltOf cf (pl d (p - (i - 1))) (pl d (i - 1)) = false) ∧ Hid (j = mid ∨ ltOf cf (pl d (p - j)) (pl d j) = true))
    case atStart => exact ⟨lo, mid, rfl, rfl, by omega, by have := HL.out; have := HN.out; omega, by omega, by omega, S0.out, .inl rfl, .inl rfl⟩
    case round =>
      clear S0
      obtain ⟨i, j, rfl, rfl, hmi, hij, hjb, hkx, S1, hci, hcj⟩ := hrel
      by_cases hlt : i < j
      · have hltz : (i : Int) < (j : Int) := by omega
        obtain ⟨h, hh⟩ : ∃ h, h = (i + j) / 2 := ⟨_, rfl⟩
        have a1 : IntKind.i64.wrap ((i : Int) + (j : Int)) = (i : Int) + (j : Int) := by rw [IntKind.wrap_i64]; omega
        have a2 : ((i : Int) + (j : Int)) / 2 = (h : Int) := by omega
        obtain ⟨q, hq⟩ : ∃ q, q = p - h := ⟨_, rfl⟩
        have hll := HL.out
        have hnn := HN.out
        have a3 : IntKind.i64.wrap ((p : Int) - (h : Int)) = (q : Int) := by rw [IntKind.wrap_i64]; omega
        have a4 : (p : Int) - (h : Int) = (q : Int) := by omega
        have hqz : q < sz := by omega
        have a5 : IntKind.i64.wrap (q : Int) = (q : Int) := by rw [IntKind.wrap_i64]; omega
        obtain ⟨pa, pn, pc, qa, qn, qc, ra, rn, rc, sa, sn, sc, hcell, hcall⟩ := SWK.test S1.out HR.out HC.out (hs.trans HZ.out) (show q < d.size by omega) (show h < d.size by omega)
        have hih : i ≤ h := by omega
        have hhj : h < j := by omega
        have hzh : (h : Int) < (sz : Int) := by omega
        have hza : (q : Int) < (sz : Int) := by omega
        have q1 := fun n os => (hcell n os).1
        have q2 := fun n os => (hcell n os).2.1
        have q3 := fun n os => (hcell n os).2.2.1
        have q4 := fun n os => (hcell n os).2.2.2
        obtain ⟨c, hc⟩ : ∃ c, c = cf (pl d q) (pl d h) := ⟨_, rfl⟩
        rw [← hc] at hcall
        have hlc : ltOf cf (pl d (p - h)) (pl d h) = decide (c < 0) := by rw [hc, ← hq]; rfl
        have HLC := Lib.hid hlc
        have kw : IntKind.i64.wrap ((h : Int) + 1) = (h : Int) + 1 := by rw [IntKind.wrap_i64]; omega
        clear hlc hc hcell hh hq hll hnn
        by_cases hv : c < 0
        · go_wp2_with fail
          go_quiet_grown (first | (go_at_call 38; refine Calls.grown_of (hcall _ _)))
          have hS2 := Lib.hid (S1.out.grown nq osq)
          have hn1 : Hid (h = mid ∨ ltOf cf (pl d (p - h)) (pl d h) = true) := .inr (by rw [HLC.out]; exact decide_eq_true hv)
          clear q1 q2 q3 q4 hcall S1
          generalize grow (wr.drewN nq) osq = w2 at hS2 ⊢
          go_wp2_with fail
          go_roundg (h - i)
          case measure => omega
          case rel => exact ⟨i, h, rfl, by go_num, by omega, by omega, by omega, by omega, hS2.out, hci.out, hn1.out⟩
        · have hnv : decide (c < 0) = false := decide_eq_false (by omega)
          have hnw : (!decide (c < 0)) = true := by rw [hnv]; rfl
          go_wp2_with fail
          go_quiet_grown (first | (go_at_call 38; refine Calls.grown_of (hcall _ _)))
          have hS2 := Lib.hid (S1.out.grown nq osq)
          have hn1 : Hid (h + 1 = lo ∨ ltOf cf (pl d (p - (h + 1 - 1))) (pl d (h + 1 - 1)) = false) := .inr (by rw [Nat.add_sub_cancel, HLC.out]; exact decide_eq_false (by omega))
          clear q1 q2 q3 q4 hcall S1
          generalize grow (wr.drewN nq) osq = w2 at hS2 ⊢
          go_wp2_with fail
          go_roundg (j - (h + 1))
          case measure => omega
          case rel => exact ⟨h + 1, j, by go_num, rfl, by omega, by omega, by omega, by omega, hS2.out, hn1.out, hcj.out⟩
      · obtain rfl : i = j := by omega
        have hnn := HN.out
        have hll := HL.out
        obtain ⟨e, he⟩ : ∃ e, e = n - i := ⟨_, rfl⟩
        have b1 : IntKind.i64.wrap ((n : Int) - (i : Int)) = (e : Int) := by rw [IntKind.wrap_i64]; omega
        have b2 : (n : Int) - (i : Int) = (e : Int) := by omega
        have b3 : IntKind.i64.wrap (e : Int) = (e : Int) := by rw [IntKind.wrap_i64]; omega
        have x1 : a ≤ i := by omega
        have x2 : i ≤ m := by omega
        have x3 : m ≤ e := by omega
        have x4 : e ≤ b := by omega
        have x5 : i + (e - m) = mid := by omega
        have C1 : i = a ∨ e = b ∨ ltOf cf (pl d e) (pl d (i - 1)) = false := by
          by_cases h0 : i = lo
          · exact .inr (.inl (by omega))
          · rcases hci.out with h | h
            · exact absurd h h0
            · refine .inr (.inr ?_)
              rwa [show p - (i - 1) = e by omega] at h
        have C2 : i = m ∨ e = m ∨ ltOf cf (pl d i) (pl d (e - 1)) = false := by
          rcases hcj.out with h | h
          · exact .inr (.inl (by omega))
          · refine .inr (.inr (le_of_lt' HS.out ?_))
            rwa [show p - i = e - 1 by omega] at h
        have P1 := rot_p1 x1 x2 x3 x4 HA.out HB.out
        have P2 := rot_p2 x1 x2 x3 x4 HA.out HB.out
        have P3 := rot_p3 x1 x2 x3 x4 HA.out HB.out
        have P4 := rot_p4 x1 x2 x3 x4 HA.out HB.out
        rw [x5] at P2 P3
        have HG := Lib.hid (fun (f2 f3 : Nat → Nat) (M2 : Mgd (ltOf cf) (rotf (pl d) i m e) f2 a mid) (M3 : Mgd (ltOf cf) f2 f3 mid b) => mgd_halves HS.out x1 x2 x3 x4 x5 HA.out HB.out C1 C2 M2 M3)
        have HP := Lib.hid (And.intro P1 (And.intro P2 (And.intro P3 P4)))
        have HX := Lib.hid (And.intro he (And.intro hnn hll))
        clear C1 C2 P1 P2 P3 P4 hci hcj he hnn hll
        by_cases y0 : i < mid ∧ i < m
        · by_cases y1 : a < i
          · by_cases y2 : e < b
            · have g1 : (i : Int) < (m : Int) := by have := HX.out; omega
              have g2 : (m : Int) < (e : Int) := by have := HX.out; omega
              have g4 : (i : Int) < (mid : Int) := by have := HX.out; omega
              have g5 : (mid : Int) < (e : Int) := by have := HX.out; omega
              have g3 : (a : Int) < (i : Int) := by have := HX.out; omega
              have g6 : (e : Int) < (b : Int) := by have := HX.out; omega
              go_wp2_with fail
              refine (ROT.out i m e wr d (by omega) (by omega) (by omega) S1.out hs).mono ?_
              rintro e9 w7 ⟨rfl, dr, s7, z7, p7⟩
              have S7 := Lib.hid s7; clear s7
              have Z7 : dr.size = sz := z7
              have HP7 : Hid (pl dr = rotf (pl d) i m e) := p7
              clear p7 z7
              go_wp2_with fail
              refine (IH.out a i mid w7 dr (by omega) (by omega) (by omega) (by omega) S7.out Z7 (by rw [HP7.out]; exact HP.out.1) (by rw [HP7.out]; exact HP.out.2.1)).mono ?_
              rintro e9 w8 ⟨rfl, df, s8, z8, M8⟩
              have S8 := Lib.hid s8; clear s8
              have Z8 : df.size = sz := z8
              have M2 : Hid (Mgd (ltOf cf) (rotf (pl d) i m e) (pl df) a mid) := by
                rw [HP7.out] at M8
                exact M8
              clear M8 z8
              go_wp2_with fail
              refine (IH.out mid e b w8 df (by omega) (by omega) (by omega) (by omega) S8.out Z8 (HP.out.2.2.1.congr fun x h1 h2 => M2.out.out x (by omega)) (HP.out.2.2.2.congr fun x h1 h2 => M2.out.out x (by omega))).mono ?_
              rintro e9 w9 ⟨rfl, dg, s9, z9, M9⟩
              have S9 := Lib.hid s9; clear s9
              have M3 := Lib.hid M9; clear M9
              have Z9 := Lib.hid z9; clear z9
              go_wp2_with fail
              go_end0
              exact ⟨rfl, dg, S9.out, Z9.out, HG.out _ _ M2.out M3.out⟩
            · have g1 : (i : Int) < (m : Int) := by have := HX.out; omega
              have g2 : (m : Int) < (e : Int) := by have := HX.out; omega
              have g4 : (i : Int) < (mid : Int) := by have := HX.out; omega
              have g5 : (mid : Int) < (e : Int) := by have := HX.out; omega
              have g3 : (a : Int) < (i : Int) := by have := HX.out; omega
              have g6 : ¬ (e : Int) < (b : Int) := by have := HX.out; omega
              go_wp2_with fail
              refine (ROT.out i m e wr d (by omega) (by omega) (by omega) S1.out hs).mono ?_
              rintro e9 w7 ⟨rfl, dr, s7, z7, p7⟩
              have S7 := Lib.hid s7; clear s7
              have Z7 : dr.size = sz := z7
              have HP7 : Hid (pl dr = rotf (pl d) i m e) := p7
              clear p7 z7
              go_wp2_with fail
              refine (IH.out a i mid w7 dr (by omega) (by omega) (by omega) (by omega) S7.out Z7 (by rw [HP7.out]; exact HP.out.1) (by rw [HP7.out]; exact HP.out.2.1)).mono ?_
              rintro e9 w8 ⟨rfl, df, s8, z8, M8⟩
              have S8 := Lib.hid s8; clear s8
              have Z8 : df.size = sz := z8
              have M2 : Hid (Mgd (ltOf cf) (rotf (pl d) i m e) (pl df) a mid) := by
                rw [HP7.out] at M8
                exact M8
              clear M8 z8
              go_wp2_with fail
              go_end0
              exact ⟨rfl, df, S8.out, Z8, HG.out _ _ M2.out (Mgd.refl (by first | (rw [show mid = e by omega]; exact HP.out.2.2.2.congr fun x h1 h2 => M2.out.out x (by omega)) | (rw [show b = e by omega]; exact HP.out.2.2.1.congr fun x h1 h2 => M2.out.out x (by omega))))⟩
          · by_cases y2 : e < b
            · have g1 : (i : Int) < (m : Int) := by have := HX.out; omega
              have g2 : (m : Int) < (e : Int) := by have := HX.out; omega
              have g4 : (i : Int) < (mid : Int) := by have := HX.out; omega
              have g5 : (mid : Int) < (e : Int) := by have := HX.out; omega
              have g3 : ¬ (a : Int) < (i : Int) := by have := HX.out; omega
              have g6 : (e : Int) < (b : Int) := by have := HX.out; omega
              go_wp2_with fail
              refine (ROT.out i m e wr d (by omega) (by omega) (by omega) S1.out hs).mono ?_
              rintro e9 w7 ⟨rfl, dr, s7, z7, p7⟩
              have S7 := Lib.hid s7; clear s7
              have Z7 : dr.size = sz := z7
              have HP7 : Hid (pl dr = rotf (pl d) i m e) := p7
              clear p7 z7
              go_wp2_with fail
              have M2 : Hid (Mgd (ltOf cf) (rotf (pl d) i m e) (pl dr) a mid) := by
                have q : Asc (ltOf cf) (rotf (pl d) i m e) a mid := by first | (rw [show a = i by omega]; exact HP.out.2.1) | (rw [show mid = i by omega]; exact HP.out.1)
                exact mgd_eq HP7.out q
              refine (IH.out mid e b w7 dr (by omega) (by omega) (by omega) (by omega) S7.out Z7 (HP.out.2.2.1.congr fun x h1 h2 => M2.out.out x (by omega)) (HP.out.2.2.2.congr fun x h1 h2 => M2.out.out x (by omega))).mono ?_
              rintro e9 w9 ⟨rfl, dg, s9, z9, M9⟩
              have S9 := Lib.hid s9; clear s9
              have M3 := Lib.hid M9; clear M9
              have Z9 := Lib.hid z9; clear z9
              go_wp2_with fail
              go_end0
              exact ⟨rfl, dg, S9.out, Z9.out, HG.out _ _ M2.out M3.out⟩
            · have g1 : (i : Int) < (m : Int) := by have := HX.out; omega
              have g2 : (m : Int) < (e : Int) := by have := HX.out; omega
              have g4 : (i : Int) < (mid : Int) := by have := HX.out; omega
              have g5 : (mid : Int) < (e : Int) := by have := HX.out; omega
              have g3 : ¬ (a : Int) < (i : Int) := by have := HX.out; omega
              have g6 : ¬ (e : Int) < (b : Int) := by have := HX.out; omega
              go_wp2_with fail
              refine (ROT.out i m e wr d (by omega) (by omega) (by omega) S1.out hs).mono ?_
              rintro e9 w7 ⟨rfl, dr, s7, z7, p7⟩
              have S7 := Lib.hid s7; clear s7
              have Z7 : dr.size = sz := z7
              have HP7 : Hid (pl dr = rotf (pl d) i m e) := p7
              clear p7 z7
              go_wp2_with fail
              have M2 : Hid (Mgd (ltOf cf) (rotf (pl d) i m e) (pl dr) a mid) := by
                have q : Asc (ltOf cf) (rotf (pl d) i m e) a mid := by first | (rw [show a = i by omega]; exact HP.out.2.1) | (rw [show mid = i by omega]; exact HP.out.1)
                exact mgd_eq HP7.out q
              go_end0
              exact ⟨rfl, dr, S7.out, Z7, HG.out _ _ M2.out (Mgd.refl (by first | (rw [show mid = e by omega]; exact HP.out.2.2.2.congr fun x h1 h2 => M2.out.out x (by omega)) | (rw [show b = e by omega]; exact HP.out.2.2.1.congr fun x h1 h2 => M2.out.out x (by omega))))⟩
        · have g1 : (i : Int) < (m : Int) := by have := HX.out; omega
          have g2 : ¬ (m : Int) < (e : Int) := by have := HX.out; omega
          have g3 : (a : Int) < (i : Int) := by have := HX.out; omega
          have g4 : ¬ (i : Int) < (mid : Int) := by have := HX.out; omega
          have g5 : (mid : Int) < (e : Int) := by have := HX.out; omega
          have g6 : (e : Int) < (b : Int) := by have := HX.out; omega
          go_wp2_with fail
          have HP7 : Hid (pl d = rotf (pl d) i m e) := by
            show _ = _
            first | (rw [show e = m by omega, rotf_right _ _ _ (by omega)]) | (rw [show i = m by omega, rotf_left])
          have M2 : Hid (Mgd (ltOf cf) (rotf (pl d) i m e) (pl d) a mid) := by
            have q : Asc (ltOf cf) (rotf (pl d) i m e) a mid := by first | (rw [show a = i by omega]; exact HP.out.2.1) | (rw [show mid = i by omega]; exact HP.out.1)
            exact mgd_eq HP7.out q
          refine (IH.out mid e b wr d (by omega) (by omega) (by omega) (by omega) S1.out hs (HP.out.2.2.1.congr fun x h1 h2 => M2.out.out x (by omega)) (HP.out.2.2.2.congr fun x h1 h2 => M2.out.out x (by omega))).mono ?_
          rintro e9 w9 ⟨rfl, dg, s9, z9, M9⟩
          have S9 := Lib.hid s9; clear s9
          have M3 := Lib.hid M9; clear M9
          have Z9 := Lib.hid z9; clear z9
          go_wp2_with fail
          go_end0
          exact ⟨rfl, dg, S9.out, Z9.out, HG.out _ _ M2.out M3.out⟩
  · have g3 : ¬ (mid : Int) < (m : Int) := by omega
    have HL := Lib.hid (show a ≤ m by omega)
    go_enter Try.func70, Try.ntmps70
    go_wp2_with fail
    go_loopg [20, 21, 23] (m - a) (fun kx s10 s11 s12 wr => ∃ (i j : Nat), s10 = .int .i64 (i : Int) ∧ s11 = .int .i64 (j : Int) ∧ a ≤ i ∧ i ≤ j ∧ j ≤ m ∧ j - i ≤ kx ∧ Hid (SWK (enc2 g) 2 w0 blk off d wr) ∧ Hid (i = a ∨ ltOf cf (pl d (p - (i - 1))) (pl d (i - 1)) = false) ∧ Hid (j = m ∨ ltOf cf (pl d (p - j)) (pl d j) = true))
    case atStart => exact ⟨a, m, rfl, rfl, by omega, by have := HL.out; have := HN.out; omega, by omega, by omega, S0.out, .inl rfl, .inl rfl⟩
    case round =>
      clear S0
      obtain ⟨i, j, rfl, rfl, hmi, hij, hjb, hkx, S1, hci, hcj⟩ := hrel
      by_cases hlt : i < j
      · have hltz : (i : Int) < (j : Int) := by omega
        obtain ⟨h, hh⟩ : ∃ h, h = (i + j) / 2 := ⟨_, rfl⟩
        have a1 : IntKind.i64.wrap ((i : Int) + (j : Int)) = (i : Int) + (j : Int) := by rw [IntKind.wrap_i64]; omega
        have a2 : ((i : Int) + (j : Int)) / 2 = (h : Int) := by omega
        obtain ⟨q, hq⟩ : ∃ q, q = p - h := ⟨_, rfl⟩
        have hll := HL.out
        have hnn := HN.out
        have a3 : IntKind.i64.wrap ((p : Int) - (h : Int)) = (q : Int) := by rw [IntKind.wrap_i64]; omega
        have a4 : (p : Int) - (h : Int) = (q : Int) := by omega
        have hqz : q < sz := by omega
        have a5 : IntKind.i64.wrap (q : Int) = (q : Int) := by rw [IntKind.wrap_i64]; omega
        obtain ⟨pa, pn, pc, qa, qn, qc, ra, rn, rc, sa, sn, sc, hcell, hcall⟩ := SWK.test S1.out HR.out HC.out (hs.trans HZ.out) (show q < d.size by omega) (show h < d.size by omega)
        have hih : i ≤ h := by omega
        have hhj : h < j := by omega
        have hzh : (h : Int) < (sz : Int) := by omega
        have hza : (q : Int) < (sz : Int) := by omega
        have q1 := fun n os => (hcell n os).1
        have q2 := fun n os => (hcell n os).2.1
        have q3 := fun n os => (hcell n os).2.2.1
        have q4 := fun n os => (hcell n os).2.2.2
        obtain ⟨c, hc⟩ : ∃ c, c = cf (pl d q) (pl d h) := ⟨_, rfl⟩
        rw [← hc] at hcall
        have hlc : ltOf cf (pl d (p - h)) (pl d h) = decide (c < 0) := by rw [hc, ← hq]; rfl
        have HLC := Lib.hid hlc
        have kw : IntKind.i64.wrap ((h : Int) + 1) = (h : Int) + 1 := by rw [IntKind.wrap_i64]; omega
        clear hlc hc hcell hh hq hll hnn
        by_cases hv : c < 0
        · go_wp2_with fail
          go_quiet_grown (first | (go_at_call 38; refine Calls.grown_of (hcall _ _)))
          have hS2 := Lib.hid (S1.out.grown nq osq)
          have hn1 : Hid (h = m ∨ ltOf cf (pl d (p - h)) (pl d h) = true) := .inr (by rw [HLC.out]; exact decide_eq_true hv)
          clear q1 q2 q3 q4 hcall S1
          generalize grow (wr.drewN nq) osq = w2 at hS2 ⊢
          go_wp2_with fail
          go_roundg (h - i)
          case measure => omega
          case rel => exact ⟨i, h, rfl, by go_num, by omega, by omega, by omega, by omega, hS2.out, hci.out, hn1.out⟩
        · have hnv : decide (c < 0) = false := decide_eq_false (by omega)
          have hnw : (!decide (c < 0)) = true := by rw [hnv]; rfl
          go_wp2_with fail
          go_quiet_grown (first | (go_at_call 38; refine Calls.grown_of (hcall _ _)))
          have hS2 := Lib.hid (S1.out.grown nq osq)
          have hn1 : Hid (h + 1 = a ∨ ltOf cf (pl d (p - (h + 1 - 1))) (pl d (h + 1 - 1)) = false) := .inr (by rw [Nat.add_sub_cancel, HLC.out]; exact decide_eq_false (by omega))
          clear q1 q2 q3 q4 hcall S1
          generalize grow (wr.drewN nq) osq = w2 at hS2 ⊢
          go_wp2_with fail
          go_roundg (j - (h + 1))
          case measure => omega
          case rel => exact ⟨h + 1, j, by go_num, rfl, by omega, by omega, by omega, by omega, hS2.out, hn1.out, hcj.out⟩
      · obtain rfl : i = j := by omega
        have hnn := HN.out
        have hll := HL.out
        obtain ⟨e, he⟩ : ∃ e, e = n - i := ⟨_, rfl⟩
        have b1 : IntKind.i64.wrap ((n : Int) - (i : Int)) = (e : Int) := by rw [IntKind.wrap_i64]; omega
        have b2 : (n : Int) - (i : Int) = (e : Int) := by omega
        have b3 : IntKind.i64.wrap (e : Int) = (e : Int) := by rw [IntKind.wrap_i64]; omega
        have x1 : a ≤ i := by omega
        have x2 : i ≤ m := by omega
        have x3 : m ≤ e := by omega
        have x4 : e ≤ b := by omega
        have x5 : i + (e - m) = mid := by omega
        have C1 : i = a ∨ e = b ∨ ltOf cf (pl d e) (pl d (i - 1)) = false := by
          by_cases h0 : i = a
          · exact .inl h0
          · rcases hci.out with h | h
            · exact absurd h h0
            · refine .inr (.inr ?_)
              rwa [show p - (i - 1) = e by omega] at h
        have C2 : i = m ∨ e = m ∨ ltOf cf (pl d i) (pl d (e - 1)) = false := by
          by_cases h1 : i = m
          · exact .inl h1
          · rcases hcj.out with h | h
            · exact absurd h h1
            · refine .inr (.inr (le_of_lt' HS.out ?_))
              rwa [show p - i = e - 1 by omega] at h
        have P1 := rot_p1 x1 x2 x3 x4 HA.out HB.out
        have P2 := rot_p2 x1 x2 x3 x4 HA.out HB.out
        have P3 := rot_p3 x1 x2 x3 x4 HA.out HB.out
        have P4 := rot_p4 x1 x2 x3 x4 HA.out HB.out
        rw [x5] at P2 P3
        have HG := Lib.hid (fun (f2 f3 : Nat → Nat) (M2 : Mgd (ltOf cf) (rotf (pl d) i m e) f2 a mid) (M3 : Mgd (ltOf cf) f2 f3 mid b) => mgd_halves HS.out x1 x2 x3 x4 x5 HA.out HB.out C1 C2 M2 M3)
        have HP := Lib.hid (And.intro P1 (And.intro P2 (And.intro P3 P4)))
        have HX := Lib.hid (And.intro he (And.intro hnn hll))
        clear C1 C2 P1 P2 P3 P4 hci hcj he hnn hll
        by_cases y0 : i < mid ∧ i < m
        · by_cases y1 : a < i
          · by_cases y2 : e < b
            · have g1 : (i : Int) < (m : Int) := by have := HX.out; omega
              have g2 : (m : Int) < (e : Int) := by have := HX.out; omega
              have g4 : (i : Int) < (mid : Int) := by have := HX.out; omega
              have g5 : (mid : Int) < (e : Int) := by have := HX.out; omega
              have g3 : (a : Int) < (i : Int) := by have := HX.out; omega
              have g6 : (e : Int) < (b : Int) := by have := HX.out; omega
              go_wp2_with fail
              refine (ROT.out i m e wr d (by omega) (by omega) (by omega) S1.out hs).mono ?_
              rintro e9 w7 ⟨rfl, dr, s7, z7, p7⟩
              have S7 := Lib.hid s7; clear s7
              have Z7 : dr.size = sz := z7
              have HP7 : Hid (pl dr = rotf (pl d) i m e) := p7
              clear p7 z7
              go_wp2_with fail
              refine (IH.out a i mid w7 dr (by omega) (by omega) (by omega) (by omega) S7.out Z7 (by rw [HP7.out]; exact HP.out.1) (by rw [HP7.out]; exact HP.out.2.1)).mono ?_
              rintro e9 w8 ⟨rfl, df, s8, z8, M8⟩
              have S8 := Lib.hid s8; clear s8
              have Z8 : df.size = sz := z8
              have M2 : Hid (Mgd (ltOf cf) (rotf (pl d) i m e) (pl df) a mid) := by
                rw [HP7.out] at M8
                exact M8
              clear M8 z8
              go_wp2_with fail
              refine (IH.out mid e b w8 df (by omega) (by omega) (by omega) (by omega) S8.out Z8 (HP.out.2.2.1.congr fun x h1 h2 => M2.out.out x (by omega)) (HP.out.2.2.2.congr fun x h1 h2 => M2.out.out x (by omega))).mono ?_
              rintro e9 w9 ⟨rfl, dg, s9, z9, M9⟩
              have S9 := Lib.hid s9; clear s9
              have M3 := Lib.hid M9; clear M9
              have Z9 := Lib.hid z9; clear z9
              go_wp2_with fail
              go_end0
              exact ⟨rfl, dg, S9.out, Z9.out, HG.out _ _ M2.out M3.out⟩
            · have g1 : (i : Int) < (m : Int) := by have := HX.out; omega
              have g2 : (m : Int) < (e : Int) := by have := HX.out; omega
              have g4 : (i : Int) < (mid : Int) := by have := HX.out; omega
              have g5 : (mid : Int) < (e : Int) := by have := HX.out; omega
              have g3 : (a : Int) < (i : Int) := by have := HX.out; omega
              have g6 : ¬ (e : Int) < (b : Int) := by have := HX.out; omega
              go_wp2_with fail
              refine (ROT.out i m e wr d (by omega) (by omega) (by omega) S1.out hs).mono ?_
              rintro e9 w7 ⟨rfl, dr, s7, z7, p7⟩
              have S7 := Lib.hid s7; clear s7
              have Z7 : dr.size = sz := z7
              have HP7 : Hid (pl dr = rotf (pl d) i m e) := p7
              clear p7 z7
              go_wp2_with fail
              refine (IH.out a i mid w7 dr (by omega) (by omega) (by omega) (by omega) S7.out Z7 (by rw [HP7.out]; exact HP.out.1) (by rw [HP7.out]; exact HP.out.2.1)).mono ?_
              rintro e9 w8 ⟨rfl, df, s8, z8, M8⟩
              have S8 := Lib.hid s8; clear s8
              have Z8 : df.size = sz := z8
              have M2 : Hid (Mgd (ltOf cf) (rotf (pl d) i m e) (pl df) a mid) := by
                rw [HP7.out] at M8
                exact M8
              clear M8 z8
              go_wp2_with fail
              go_end0
              exact ⟨rfl, df, S8.out, Z8, HG.out _ _ M2.out (Mgd.refl (by first | (rw [show mid = e by omega]; exact HP.out.2.2.2.congr fun x h1 h2 => M2.out.out x (by omega)) | (rw [show b = e by omega]; exact HP.out.2.2.1.congr fun x h1 h2 => M2.out.out x (by omega))))⟩
          · by_cases y2 : e < b
            · have g1 : (i : Int) < (m : Int) := by have := HX.out; omega
              have g2 : (m : Int) < (e : Int) := by have := HX.out; omega
              have g4 : (i : Int) < (mid : Int) := by have := HX.out; omega
              have g5 : (mid : Int) < (e : Int) := by have := HX.out; omega
              have g3 : ¬ (a : Int) < (i : Int) := by have := HX.out; omega
              have g6 : (e : Int) < (b : Int) := by have := HX.out; omega
              go_wp2_with fail
              refine (ROT.out i m e wr d (by omega) (by omega) (by omega) S1.out hs).mono ?_
              rintro e9 w7 ⟨rfl, dr, s7, z7, p7⟩
              have S7 := Lib.hid s7; clear s7
              have Z7 : dr.size = sz := z7
              have HP7 : Hid (pl dr = rotf (pl d) i m e) := p7
              clear p7 z7
              go_wp2_with fail
              have M2 : Hid (Mgd (ltOf cf) (rotf (pl d) i m e) (pl dr) a mid) := by
                have q : Asc (ltOf cf) (rotf (pl d) i m e) a mid := by first | (rw [show a = i by omega]; exact HP.out.2.1) | (rw [show mid = i by omega]; exact HP.out.1)
                exact mgd_eq HP7.out q
              refine (IH.out mid e b w7 dr (by omega) (by omega) (by omega) (by omega) S7.out Z7 (HP.out.2.2.1.congr fun x h1 h2 => M2.out.out x (by omega)) (HP.out.2.2.2.congr fun x h1 h2 => M2.out.out x (by omega))).mono ?_
              rintro e9 w9 ⟨rfl, dg, s9, z9, M9⟩
              have S9 := Lib.hid s9; clear s9
              have M3 := Lib.hid M9; clear M9
              have Z9 := Lib.hid z9; clear z9
              go_wp2_with fail
              go_end0
              exact ⟨rfl, dg, S9.out, Z9.out, HG.out _ _ M2.out M3.out⟩
            · have g1 : (i : Int) < (m : Int) := by have := HX.out; omega
              have g2 : (m : Int) < (e : Int) := by have := HX.out; omega
              have g4 : (i : Int) < (mid : Int) := by have := HX.out; omega
              have g5 : (mid : Int) < (e : Int) := by have := HX.out; omega
              have g3 : ¬ (a : Int) < (i : Int) := by have := HX.out; omega
              have g6 : ¬ (e : Int) < (b : Int) := by have := HX.out; omega
              go_wp2_with fail
              refine (ROT.out i m e wr d (by omega) (by omega) (by omega) S1.out hs).mono ?_
              rintro e9 w7 ⟨rfl, dr, s7, z7, p7⟩
              have S7 := Lib.hid s7; clear s7
              have Z7 : dr.size = sz := z7
              have HP7 : Hid (pl dr = rotf (pl d) i m e) := p7
              clear p7 z7
              go_wp2_with fail
              have M2 : Hid (Mgd (ltOf cf) (rotf (pl d) i m e) (pl dr) a mid) := by
                have q : Asc (ltOf cf) (rotf (pl d) i m e) a mid := by first | (rw [show a = i by omega]; exact HP.out.2.1) | (rw [show mid = i by omega]; exact HP.out.1)
                exact mgd_eq HP7.out q
              go_end0
              exact ⟨rfl, dr, S7.out, Z7, HG.out _ _ M2.out (Mgd.refl (by first | (rw [show mid = e by omega]; exact HP.out.2.2.2.congr fun x h1 h2 => M2.out.out x (by omega)) | (rw [show b = e by omega]; exact HP.out.2.2.1.congr fun x h1 h2 => M2.out.out x (by omega))))⟩
        · by_cases y1 : i < mid
          · have g1 : ¬ (i : Int) < (m : Int) := by have := HX.out; omega
            have g3 : (a : Int) < (i : Int) := by have := HX.out; omega
            have g4 : (i : Int) < (mid : Int) := by have := HX.out; omega
            have g5 : ¬ (mid : Int) < (e : Int) := by have := HX.out; omega
            go_wp2_with fail
            have HP7 : Hid (pl d = rotf (pl d) i m e) := by
              show _ = _
              first | (rw [show e = m by omega, rotf_right _ _ _ (by omega)]) | (rw [show i = m by omega, rotf_left])
            refine (IH.out a i mid wr d (by omega) (by omega) (by omega) (by omega) S1.out hs (by rw [HP7.out]; exact HP.out.1) (by rw [HP7.out]; exact HP.out.2.1)).mono ?_
            rintro e9 w8 ⟨rfl, df, s8, z8, M8⟩
            have S8 := Lib.hid s8; clear s8
            have Z8 : df.size = sz := z8
            have M2 : Hid (Mgd (ltOf cf) (rotf (pl d) i m e) (pl df) a mid) := by
              rw [HP7.out] at M8
              exact M8
            clear M8 z8
            go_wp2_with fail
            go_end0
            exact ⟨rfl, df, S8.out, Z8, HG.out _ _ M2.out (Mgd.refl (by first | (rw [show mid = e by omega]; exact HP.out.2.2.2.congr fun x h1 h2 => M2.out.out x (by omega)) | (rw [show b = e by omega]; exact HP.out.2.2.1.congr fun x h1 h2 => M2.out.out x (by omega))))⟩
          · have g1 : ¬ (i : Int) < (m : Int) := by have := HX.out; omega
            have g3 : (a : Int) < (i : Int) := by have := HX.out; omega
            have g4 : ¬ (i : Int) < (mid : Int) := by have := HX.out; omega
            have g5 : ¬ (mid : Int) < (e : Int) := by have := HX.out; omega
            go_wp2_with fail
            have HP7 : Hid (pl d = rotf (pl d) i m e) := by
              show _ = _
              first | (rw [show e = m by omega, rotf_right _ _ _ (by omega)]) | (rw [show i = m by omega, rotf_left])
            have M2 : Hid (Mgd (ltOf cf) (rotf (pl d) i m e) (pl d) a mid) := by
              have q : Asc (ltOf cf) (rotf (pl d) i m e) a mid := by first | (rw [show a = i by omega]; exact HP.out.2.1) | (rw [show mid = i by omega]; exact HP.out.1)
              exact mgd_eq HP7.out q
            go_end0
            exact ⟨rfl, d, S1.out, hs, HG.out _ _ M2.out (Mgd.refl (by first | (rw [show mid = e by omega]; exact HP.out.2.2.2.congr fun x h1 h2 => M2.out.out x (by omega)) | (rw [show b = e by omega]; exact HP.out.2.2.1.congr fun x h1 h2 => M2.out.out x (by omega))))⟩
theorem sym_any (R : RowK (enc2 g) 2 w0 blk off d0) (hC : CmpLays Try.prog 38 #[] (enc2 g) 2 cf blk off d0.size w0) (hS : SWO (ltOf cf)) (cap : Nat) (hsz : d0.size < 4611686018427387904) : ∀ (N a m b : Nat), b - a ≤ N → ∀ (w : World) (d : Array Nat), a < m → m < b → b ≤ d0.size → SWK (enc2 g) 2 w0 blk off d w → d.size = d0.size → Asc (ltOf cf) (pl d) a m → Asc (ltOf cf) (pl d) m b →
    Calls Try.prog 70 #[.slice (some ⟨blk, off, none⟩) d0.size cap, .int .i64 (a : Int), .int .i64 (m : Int), .int .i64 (b : Int), .func (.func 38) #[] #[]] w fun e w' => e = .returned (.tuple #[]) ∧ ∃ d', SWK (enc2 g) 2 w0 blk off d' w' ∧ d'.size = d0.size ∧ Mgd (ltOf cf) (pl d) (pl d') a b := by
  intro N
  induction N with
  | zero => intro a m b h w d h1 h2; omega
  | succ N ih =>
    intro a m b h w d h1 h2 h3 hW hs A B
    by_cases e1 : m = a + 1
    · subst e1
      exact sym_up R hC hS cap a b hW hs hsz h2 h3 B
    · by_cases e2 : b = m + 1
      · subst e2
        exact sym_down R hC hS cap a m hW hs hsz (by omega) h3 A
      · exact sym_cut R hC hS cap a m b hW hs hsz (by omega) (by omega) h3 A B fun x y z W D k1 k2 k3 k4 k5 k6 k7 k8 => ih x y z (by omega) W D k2 k3 k4 k5 k6 k7 k8
end Go.Proofs.Ytfhnmmiakknilaa
