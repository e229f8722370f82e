/- The walk of NttOrder. -/
import Derived.Test.YtimlpehgafjkpaaXNT21
namespace Go.Proofs.Ytimlpehgafjkpaa
open Go.RowKit Go.Maps
set_option linter.unusedVariables false
set_option linter.unusedSimpArgs false

theorem tdiv_bd (n : Int) (h1 : -9223372036854775808 ≤ n) (h2 : n ≤ 9223372036854775807) : -9223372036854775808 ≤ n.tdiv 20 ∧ n.tdiv 20 ≤ 9223372036854775807 := by
  by_cases h : 0 ≤ n
  · rw [Int.tdiv_eq_ediv_of_nonneg h]; omega
  · obtain ⟨k, rfl⟩ : ∃ k, n = -k := ⟨-n, by omega⟩
    rw [Int.neg_tdiv, Int.tdiv_eq_ediv_of_nonneg (by omega)]; omega
theorem cvA_good {xs ys : List Nat} (hx : 0 < xs.length) (hy : 0 < ys.length) (hl : xs.length + ys.length ≤ 1025) (rx : allR xs = true) (ry : allR ys = true) : cvA xs ys = (cvL xs ys, 0) := by
  unfold cvA
  rw [if_neg (by omega), if_pos (by rw [rx, ry]; rfl)]

set_option maxHeartbeats 8000000 in
set_option maxRecDepth 20000 in
theorem nttOrder_walk {w : World} {a b c : Value} {n m : Int} {xa xb xc : List Nat} (ha : Arg w a xa) (hb : Arg w b xb) (hc : Arg w c xc) (hn : (Lit.int .i64 n).wf = true) (hm : (Lit.int .i64 m).wf = true) :
    Calls Try.prog 7 #[a, b, c, .int .i64 n, .int .i64 m] w fun e w' => e = .returned (.bool true) ∧ Below w.heap.size w w' := by
  obtain ⟨n1, n2⟩ := bounds_i64 hn
  obtain ⟨m1, m2⟩ := bounds_i64 hm
  have HA := hid ha
  have HB := hid hb
  have HC := hid hc
  have hp20 : (n % ((20 : Nat) : Int)).toNat < 20 := by omega
  have hq20 : (m % ((20 : Nat) : Int)).toNat < 20 := by omega
  obtain ⟨d, hd⟩ : ∃ d, d = n.tdiv 20 := ⟨_, rfl⟩
  have hd1 : -9223372036854775808 ≤ d ∧ d ≤ 9223372036854775807 := by rw [hd]; exact tdiv_bd n n1 n2
  have hr9 : (d % ((9 : Nat) : Int)).toNat < 9 := by omega
  have cP : Hid (∀ w', Calls Try.prog 13 #[.int .i64 n, .int .i64 20] w' fun e w'' => e = .returned (.int .i64 ((n % ((20 : Nat) : Int)).toNat : Nat)) ∧ w'' = w') := hid fun w' => within8 w' n 20 (by omega) (by omega) n1 n2
  have cQ : Hid (∀ w', Calls Try.prog 13 #[.int .i64 m, .int .i64 20] w' fun e w'' => e = .returned (.int .i64 ((m % ((20 : Nat) : Int)).toNat : Nat)) ∧ w'' = w') := hid fun w' => within8 w' m 20 (by omega) (by omega) m1 m2
  have cR : Hid (∀ w', Calls Try.prog 13 #[.int .i64 d, .int .i64 9] w' fun e w'' => e = .returned (.int .i64 ((d % ((9 : Nat) : Int)).toNat : Nat)) ∧ w'' = w') := hid fun w' => within8 w' d 9 (by omega) (by omega) hd1.1 hd1.2
  obtain ⟨p, hp⟩ : ∃ p, p = (n % ((20 : Nat) : Int)).toNat := ⟨_, rfl⟩
  obtain ⟨q, hq⟩ : ∃ q, q = (m % ((20 : Nat) : Int)).toNat := ⟨_, rfl⟩
  obtain ⟨r, hr⟩ : ∃ r, r = (d % ((9 : Nat) : Int)).toNat := ⟨_, rfl⟩
  rw [← hp] at hp20 cP
  rw [← hq] at hq20 cQ
  rw [← hr] at hr9 cR
  have hd2 : n.tdiv 20 = d := hd.symm
  have WD : Hid (wrap64 d = d) := hid (by unfold wrap64; omega)
  clear hp hq hr hd hn hm hd1
  obtain ⟨lx, hlx⟩ : ∃ lx, lx = 1 + p := ⟨_, rfl⟩
  obtain ⟨ly, hly⟩ : ∃ ly, ly = 1 + q := ⟨_, rfl⟩
  obtain ⟨lz, hlz⟩ : ∃ lz, lz = 1 + r := ⟨_, rfl⟩
  have ix : 1 + (p : Int) = (lx : Int) := by omega
  have iy : 1 + (q : Int) = (ly : Int) := by omega
  have iz : 1 + (r : Int) = (lz : Int) := by omega
  have bx : 0 < lx ∧ lx ≤ 20 := by omega
  have by' : 0 < ly ∧ ly ≤ 20 := by omega
  have bz : 0 < lz ∧ lz ≤ 9 := by omega
  have WX : Hid (wrap64 (lx : Int) = (lx : Int)) := hid (by unfold wrap64; omega)
  have WY : Hid (wrap64 (ly : Int) = (ly : Int)) := hid (by unfold wrap64; omega)
  have WZ : Hid (wrap64 (lz : Int) = (lz : Int)) := hid (by unfold wrap64; omega)
  clear hlx hly hlz
  obtain ⟨X, hX⟩ : ∃ X, X = rowL xa lx := ⟨_, rfl⟩
  obtain ⟨Y, hY⟩ : ∃ Y, Y = rowL xb ly := ⟨_, rfl⟩
  obtain ⟨Z, hZ⟩ : ∃ Z, Z = rowL xc lz := ⟨_, rfl⟩
  have lX : X.length = lx := by rw [hX, rowL_len]
  have lY : Y.length = ly := by rw [hY, rowL_len]
  have lZ : Z.length = lz := by rw [hZ, rowL_len]
  have rX : allR X = true := by rw [hX]; exact rowL_rem _ _ (by omega)
  have rY : allR Y = true := by rw [hY]; exact rowL_rem _ _ (by omega)
  have rZ : allR Z = true := by rw [hZ]; exact rowL_rem _ _ (by omega)
  have cX : Hid (∀ {w' : World}, Arg w' a xa → Calls Try.prog 12 #[a, .int .i64 (lx : Int)] w' fun e w'' => ∃ u, e = .returned u ∧ Rd w'' u X ∧ Fwd w' w'') := hid fun h => by rw [hX]; exact Row_any _ h (by omega)
  have cY : Hid (∀ {w' : World}, Arg w' b xb → Calls Try.prog 12 #[b, .int .i64 (ly : Int)] w' fun e w'' => ∃ u, e = .returned u ∧ Rd w'' u Y ∧ Fwd w' w'') := hid fun h => by rw [hY]; exact Row_any _ h (by omega)
  have cZ : Hid (∀ {w' : World}, Arg w' c xc → Calls Try.prog 12 #[c, .int .i64 (lz : Int)] w' fun e w'' => ∃ u, e = .returned u ∧ Rd w'' u Z ∧ Fwd w' w'') := hid fun h => by rw [hZ]; exact Row_any _ h (by omega)
  have g1 := cvA_good (xs := X) (ys := Y) (by omega) (by omega) (by omega) rX rY
  have g2 := cvA_good (xs := Y) (ys := X) (by omega) (by omega) (by omega) rY rX
  rw [cvL_comm] at g2
  have g3 := cvA_good (xs := X) (ys := [1]) (by omega) (by simp) (by simp; omega) rX (by decide)
  rw [cvL_one X rX] at g3
  have hlast := cvL_last X Y (by omega) (by omega)
  have hass := cvL_assoc X Y Z (by omega) (by omega) (by omega) (by omega)
  have lP := cvL_len X Y
  have lU := cvL_len Y Z
  have g4 := cvA_good (xs := cvL X Y) (ys := Z) (by omega) (by omega) (by omega) (allR_cvL _ _) rZ
  have g5 := cvA_good (xs := Y) (ys := Z) (by omega) (by omega) (by omega) rY rZ
  have g6 := cvA_good (xs := X) (ys := cvL Y Z) (by omega) (by omega) (by omega) rX (allR_cvL _ _)
  rw [← hass] at g6
  have lT := cvL_len (cvL X Y) Z
  rw [lX, lY] at lP
  rw [lY, lZ] at lU
  rw [lP, lZ] at lT
  obtain ⟨P, hP⟩ : ∃ P, P = cvL X Y := ⟨_, rfl⟩
  obtain ⟨U, hU⟩ : ∃ U, U = cvL Y Z := ⟨_, rfl⟩
  rw [← hP] at g1 g2 g4 g6 lP hlast lT
  obtain ⟨T, hT⟩ : ∃ T, T = cvL P Z := ⟨_, rfl⟩
  rw [← hT] at g4 g6 lT
  rw [← hU] at g5 g6 lU
  rw [lX, lY] at hlast
  obtain ⟨lp, hlp⟩ : ∃ lp, lp = lx + ly - 1 := ⟨_, rfl⟩
  rw [← hlp] at lP hlast lT
  have blp : 0 < lp ∧ lp ≤ 39 := by omega
  have cC : Hid (∀ {w' : World} {u v : Value} {xs ys zs : List Nat}, Rd w' u xs → Rd w' v ys → cvA xs ys = (zs, 0) → xs.length ≤ 1000000000 → ys.length ≤ 1000000000 → Calls Try.prog 17 #[u, v] w' fun e w'' => ∃ z, e = .returned (.tuple #[z, .int .i64 0]) ∧ Rd w'' z zs ∧ Fwd w' w'') := hid fun h1 h2 h3 l1 l2 => by have := Conv_any h1 h2 l1 l2; rw [h3] at this; exact this
  have cC8 : Hid (∀ {w' : World} {u v : Value} {xs ys zs : List Nat}, Rd w' u xs → Rd w' v ys → cvA xs ys = (zs, 0) → xs.length ≤ 1000000000 → ys.length ≤ 1000000000 → Calls Try.prog 18 #[u, v] w' fun e w'' => ∃ z, e = .returned (.tuple #[z, .int .i64 0]) ∧ Rd w'' z zs ∧ Fwd w' w'') := hid fun h1 h2 h3 l1 l2 => by have := Conv8_any h1 h2 l1 l2; rw [h3] at this; exact this
  have G1 := hid g1
  have G2 := hid g2
  have G3 := hid g3
  have G4 := hid g4
  have G5 := hid g5
  have G6 := hid g6
  have sX : Hid (X.length ≤ 1000000000) := hid (by omega)
  have sY : Hid (Y.length ≤ 1000000000) := hid (by omega)
  have sZ : Hid (Z.length ≤ 1000000000) := hid (by omega)
  have sP : Hid (P.length ≤ 1000000000) := hid (by omega)
  have sU : Hid (U.length ≤ 1000000000) := hid (by omega)
  have sT : Hid (T.length ≤ 1000000000) := hid (by omega)
  have LX := hid lX
  have LY := hid lY
  have LP := hid lP
  have HLast := hid hlast
  have BX := hid bx
  have BY := hid by'
  have BP := hid blp
  have one1 : Hid (∀ w' : World, Rd (w'.alloc (.cells #[.int .u32 1] 22)) (.slice (some ⟨w'.heap.size, 0, none⟩) 1 1) [1]) := hid fun w' => (Blk.lit w' [1] (Ok.cons (by omega) Ok.nil) #[.int .u32 1] rfl).rdAll 1 (by simp) (by unfold maxLen; omega)
  clear g1 g2 g3 g4 g5 g6 lX lY lZ rX rY rZ hX hY hZ hP hU hT lP lU lT hass hlast hlp ha hb hc bx by' bz hp20 hq20 hr9 blp
  go_enter Try.func7, Try.ntmps7
  go_wp2_with fail
  refine (known8_any _).mono ?_
  rintro e w1 ⟨rfl, hf⟩
  have HF := hid hf
  replace HA := hid (HA.out.fwd8 hf)
  replace HB := hid (HB.out.fwd8 hf)
  replace HC := hid (HC.out.fwd8 hf)
  clear hf
  go_wp2_with fail
  refine (cP.out _).mono ?_
  rintro e w2 ⟨rfl, hww⟩
  rw [hww]
  clear hww w2
  go_wp2_with fail
  rw [WX.out]
  refine (cX.out HA.out).mono ?_
  rintro e w3 ⟨x, rfl, hn, hf⟩
  replace HA := hid (HA.out.fwd8 hf)
  replace HB := hid (HB.out.fwd8 hf)
  replace HC := hid (HC.out.fwd8 hf)
  replace HF := hid (HF.out.trans hf)
  have HX := hid hn
  clear hn
  clear hf
  go_wp2_with fail
  refine (cQ.out _).mono ?_
  rintro e w4 ⟨rfl, hww⟩
  rw [hww]
  clear hww w4
  go_wp2_with fail
  rw [WY.out]
  refine (cY.out HB.out).mono ?_
  rintro e w5 ⟨y, rfl, hn, hf⟩
  replace HB := hid (HB.out.fwd8 hf)
  replace HC := hid (HC.out.fwd8 hf)
  replace HX := hid (HX.out.fwd hf)
  replace HF := hid (HF.out.trans hf)
  have HY := hid hn
  clear hn
  clear hf
  go_wp2_with fail
  rw [WD.out]
  refine (cR.out _).mono ?_
  rintro e w6 ⟨rfl, hww⟩
  rw [hww]
  clear hww w6
  go_wp2_with fail
  rw [WZ.out]
  refine (cZ.out HC.out).mono ?_
  rintro e w7 ⟨z, rfl, hn, hf⟩
  replace HC := hid (HC.out.fwd8 hf)
  replace HX := hid (HX.out.fwd hf)
  replace HY := hid (HY.out.fwd hf)
  replace HF := hid (HF.out.trans hf)
  have HZ := hid hn
  clear hn
  clear hf
  obtain ⟨xo, xc', rfl, _, _, _⟩ := HX.out.parts
  obtain ⟨yo, yc', rfl, _, _, _⟩ := HY.out.parts
  go_wp2_with fail
  refine (cC.out HX.out HY.out G1.out sX.out sY.out).mono ?_
  rintro e w8 ⟨u1, rfl, hn, hf⟩
  replace HX := hid (HX.out.fwd hf)
  replace HY := hid (HY.out.fwd hf)
  replace HZ := hid (HZ.out.fwd hf)
  replace HF := hid (HF.out.trans hf)
  have HP := hid hn
  clear hn
  clear hf
  obtain ⟨po, pc', rfl, _, _, _⟩ := HP.out.parts
  go_wp2_with fail
  refine (cC.out HY.out HX.out G2.out sY.out sX.out).mono ?_
  rintro e w9 ⟨u2, rfl, hn, hf⟩
  replace HX := hid (HX.out.fwd hf)
  replace HY := hid (HY.out.fwd hf)
  replace HZ := hid (HZ.out.fwd hf)
  replace HP := hid (HP.out.fwd hf)
  replace HF := hid (HF.out.trans hf)
  have HQ := hid hn
  clear hn
  clear hf
  go_wp2_with fail
  have hfa := (Fwd.refl w9).alloc (.cells #[.int .u32 1] 22)
  have H1 := hid (one1.out w9)
  replace HX := hid (HX.out.fwd hfa)
  replace HY := hid (HY.out.fwd hfa)
  replace HZ := hid (HZ.out.fwd hfa)
  replace HP := hid (HP.out.fwd hfa)
  replace HQ := hid (HQ.out.fwd hfa)
  replace HF := hid (HF.out.trans hfa)
  generalize w9.alloc (.cells #[.int .u32 1] 22) = wa at *
  clear hfa
  refine (cC.out HX.out H1.out G3.out sX.out (by simp)).mono ?_
  rintro e w10 ⟨u3, rfl, hn, hf⟩
  replace HX := hid (HX.out.fwd hf)
  replace HY := hid (HY.out.fwd hf)
  replace HZ := hid (HZ.out.fwd hf)
  replace HP := hid (HP.out.fwd hf)
  replace HQ := hid (HQ.out.fwd hf)
  replace HF := hid (HF.out.trans hf)
  have HS := hid hn
  clear hn hf H1
  go_wp2_with fail
  refine (same8_self HP.out HQ.out sP.out).mono ?_
  rintro e w11 ⟨rfl, hf⟩
  replace HX := hid (HX.out.fwd hf)
  replace HY := hid (HY.out.fwd hf)
  replace HZ := hid (HZ.out.fwd hf)
  replace HP := hid (HP.out.fwd hf)
  replace HQ := hid (HQ.out.fwd hf)
  replace HS := hid (HS.out.fwd hf)
  replace HF := hid (HF.out.trans hf)
  clear hf
  go_wp2_with fail
  refine (same8_self HS.out HX.out sX.out).mono ?_
  rintro e w12 ⟨rfl, hf⟩
  replace HX := hid (HX.out.fwd hf)
  replace HY := hid (HY.out.fwd hf)
  replace HZ := hid (HZ.out.fwd hf)
  replace HP := hid (HP.out.fwd hf)
  replace HS := hid (HS.out.fwd hf)
  replace HF := hid (HF.out.trans hf)
  clear hf
  rw [LP.out]
  have blp := BP.out
  have i0 : ((lp : Int) == 0) = false := beq_eq_false_iff_ne.2 (by omega)
  have hLP := LP.out
  rw [hLP] at HP
  have hLX := LX.out
  have hLY := LY.out
  rw [hLX, hLY]
  rw [hLX] at HX
  rw [hLY] at HY
  clear hLP hLX hLY blp
  go_wp2_with fail
  refine (cC.out HP.out HZ.out G4.out sP.out sZ.out).mono ?_
  rintro e w13 ⟨u4, rfl, hn, hf⟩
  replace HX := hid (HX.out.fwd hf)
  replace HY := hid (HY.out.fwd hf)
  replace HZ := hid (HZ.out.fwd hf)
  replace HP := hid (HP.out.fwd hf)
  replace HF := hid (HF.out.trans hf)
  have HT := hid hn
  clear hn
  clear hf
  go_wp2_with fail
  refine (cC8.out HY.out HZ.out G5.out sY.out sZ.out).mono ?_
  rintro e w14 ⟨u5, rfl, hn, hf⟩
  replace HX := hid (HX.out.fwd hf)
  replace HY := hid (HY.out.fwd hf)
  replace HZ := hid (HZ.out.fwd hf)
  replace HP := hid (HP.out.fwd hf)
  replace HT := hid (HT.out.fwd hf)
  replace HF := hid (HF.out.trans hf)
  have HU := hid hn
  clear hn
  clear hf
  go_wp2_with fail
  refine (cC.out HX.out HU.out G6.out sX.out sU.out).mono ?_
  rintro e w15 ⟨u6, rfl, hn, hf⟩
  replace HX := hid (HX.out.fwd hf)
  replace HY := hid (HY.out.fwd hf)
  replace HZ := hid (HZ.out.fwd hf)
  replace HP := hid (HP.out.fwd hf)
  replace HT := hid (HT.out.fwd hf)
  replace HU := hid (HU.out.fwd hf)
  replace HF := hid (HF.out.trans hf)
  have HT2 := hid hn
  clear hn
  clear hf
  go_upto_region 12 with fail
  have blx := BX.out
  have bly := BY.out
  have blp := BP.out
  obtain ⟨x1, hx1⟩ : ∃ x1, x1 = lx - 1 := ⟨_, rfl⟩
  obtain ⟨y1, hy1⟩ : ∃ y1, y1 = ly - 1 := ⟨_, rfl⟩
  obtain ⟨p1, hp1⟩ : ∃ p1, p1 = lp - 1 := ⟨_, rfl⟩
  have ix1 : (lx : Int) - 1 = (x1 : Int) := by omega
  have iy1 : (ly : Int) - 1 = (y1 : Int) := by omega
  have ip1 : (lp : Int) - 1 = (p1 : Int) := by omega
  have jx : x1 < lx := by omega
  have jy : y1 < ly := by omega
  have jp : p1 < lp := by omega
  have kx : x1 < 1024 := by omega
  have ky : y1 < 1024 := by omega
  have kp : p1 < 1024 := by omega
  have hlast := HLast.out
  rw [← hx1, ← hy1, ← hp1] at hlast
  obtain ⟨_, _, ep, _, _, op', hp⟩ := HP.out.parts
  obtain ⟨_, _, ex, _, _, ox', hx⟩ := HX.out.parts
  obtain ⟨_, _, ey, _, _, oy', hy⟩ := HY.out.parts
  rw [LP.out] at hp ep
  rw [LX.out] at hx ex
  rw [LY.out] at hy ey
  cases ep
  cases ex
  cases ey
  obtain ⟨pb, pf, rfl, cp⟩ := hp p1 jp
  obtain ⟨xb, xf, rfl, cx⟩ := hx x1 jx
  obtain ⟨yb, yf, rfl, cy⟩ := hy y1 jy
  have xl := ox'.getD x1
  have yl := oy'.getD y1
  obtain ⟨xv, hxv⟩ : ∃ xv, xv = X.getD x1 0 := ⟨_, rfl⟩
  obtain ⟨yv, hyv⟩ : ∃ yv, yv = Y.getD y1 0 := ⟨_, rfl⟩
  obtain ⟨pv, hpv⟩ : ∃ pv, pv = P.getD p1 0 := ⟨_, rfl⟩
  rw [← hxv] at cx xl hlast
  rw [← hyv] at cy yl hlast
  rw [← hpv] at cp hlast
  have hpr : xv * yv < 18446744073709551616 := prod_lt xl yl
  obtain ⟨z1, hz1⟩ : ∃ z1, z1 = xv * yv := ⟨_, rfl⟩
  have hz1i : (xv : Int) * (yv : Int) = (z1 : Int) := by rw [hz1]; simp
  rw [← hz1] at hpr hlast
  have hmod : (z1 : Int) % 998244353 = (pv : Int) := by omega
  have htmod : (z1 : Int).tmod 998244353 = (pv : Int) := by rw [Int.tmod_eq_emod_of_nonneg (by omega)]; exact hmod
  have hwz : IntKind.u64.wrap (z1 : Int) = (z1 : Int) := by rw [IntKind.wrap_u64]; omega
  have hw1 : IntKind.i64.wrap (x1 : Int) = (x1 : Int) := by rw [IntKind.wrap_i64]; omega
  have hw2 : IntKind.i64.wrap (y1 : Int) = (y1 : Int) := by rw [IntKind.wrap_i64]; omega
  have hw3 : IntKind.i64.wrap (p1 : Int) = (p1 : Int) := by rw [IntKind.wrap_i64]; omega
  have hpl : pv < 4294967296 := by omega
  have hq : Hid (∀ nq, Calls Try.prog 16 #[u4, u6] (w15.drewN nq) fun e w'' => e = .returned (.bool true) ∧ ∃ m, w'' = (w15.drewN nq).drewN m) := hid fun nq => by
    refine (same8q (show Rd (w15.drewN nq) u4 T from HT.out) (show Rd (w15.drewN nq) u6 T from HT2.out) sT.out sT.out).mono ?_
    rintro e w'' ⟨rfl, hm⟩
    exact ⟨by rw [decide_eq_true rfl], hm⟩
  clear hx1 hy1 hp1 hxv hyv hpv hz1 hp hx hy op' ox' oy' blx bly blp hlast i0 ix iy iz hd2
  go_quiet ((go_at_call 16; exact Calls.quiet_of (hq.out _)))
  go_wp2_with fail
  go_ret
  exact ⟨rfl, HF.out.drewN _⟩
end Go.Proofs.Ytimlpehgafjkpaa
