/- RatTerms: however a number is told its terms are the lowest; both made greater alike it is the same: the law's walk. -/
import Derived.Test.YtjkoiocemolcbabDoorXP13
import Derived.Test.YtjkoiocemolcbabDoorXU1
import Derived.Test.YtjkoiocemolcbabDoorXV1
import Derived.Test.YtjkoiocemolcbabDoorXP8
import Derived.Test.YtjkoiocemolcbabDoorXP10
import Derived.Test.YtjkoiocemolcbabDoorXP12
namespace Go.Proofs.YtjkoiocemolcbabDoor
open Go.RowKit
set_option linter.unusedVariables false
set_option linter.unusedSimpArgs false

theorem RW.nums {w : World} {s s' : Bool} {a b : Value} {m d : Nat} (h : RW w (.agg #[.bool s', a, b]) s m d) : Num w a m ∧ Num w b d := by
  obtain ⟨vN, vD, e, h1, h2⟩ := h
  simp at e
  obtain ⟨_, rfl, rfl⟩ := e
  exact ⟨h1, h2⟩
theorem cross_div (m n : Nat) : m / Nat.gcd m n * n = m * (n / Nat.gcd m n) := by
  obtain ⟨a, ha⟩ := Nat.gcd_dvd_left m n
  obtain ⟨b, hb⟩ := Nat.gcd_dvd_right m n
  rcases Nat.eq_zero_or_pos (Nat.gcd m n) with h0 | h0
  · rw [h0, Nat.div_zero, Nat.div_zero, Nat.zero_mul, Nat.mul_zero]
  · have e1 : m / Nat.gcd m n = a := by conv => lhs; lhs; rw [ha]
                                        exact Nat.mul_div_cancel_left _ h0
    have e2 : n / Nat.gcd m n = b := by conv => lhs; lhs; rw [hb]
                                        exact Nat.mul_div_cancel_left _ h0
    rw [e1, e2]
    conv => lhs; rw [hb]
    conv => rhs; rw [ha]
    grind
theorem mkQ_scale {s : Bool} {m d k : Nat} (hd : d ≠ 0) (hk : k ≠ 0) : mkQ s (m * k) (d * k) = mkQ s m d := by
  unfold mkQ
  rw [← sgn_nat, Rat.mkRat_mul_right hk]

set_option maxHeartbeats 40000000 in
set_option maxRecDepth 20000 in
theorem ratTerms_walk {w : World} {a b c : Value} {xa xb xc : List Nat} (neg : Bool) (ha : Arg w a xa) (hb : Arg w b xb) (hc : Arg w c xc) :
    Calls Tryd.prog 4 #[.bool neg, a, b, c] w fun e w' => e = .returned (.bool true) ∧ Below w.heap.size w w' := by
  have hF : Fwd w w := Fwd.refl w
  go_enter Tryd.func4, Tryd.ntmps4
  go_wp2_with fail
  refine (known2_any _).mono ?_
  rintro e w1 ⟨rfl, hf1⟩
  replace ha := ha.fwd hf1
  replace hb := hb.fwd hf1
  replace hc := hc.fwd hf1
  replace hF := hF.trans hf1
  clear hf1
  go_wp2_with fail
  refine (make_any 4 ha (by omega) (by omega)).mono ?_
  rintro e w2 ⟨vX, rfl, hx, hf2⟩
  replace ha := ha.fwd hf2
  replace hb := hb.fwd hf2
  replace hc := hc.fwd hf2
  replace hF := hF.trans hf2
  clear hf2
  have bX := nl_take ha.ok 4
  generalize val (List.take 4 _) = X at hx bX
  clear ha
  go_wp2_with fail
  refine (make_any 4 hb (by omega) (by omega)).mono ?_
  rintro e w3 ⟨vY, rfl, hy, hf3⟩
  replace hb := hb.fwd hf3
  replace hc := hc.fwd hf3
  replace hx := hx.fwd hf3
  replace hF := hF.trans hf3
  clear hf3
  have bY := nl_take hb.ok 4
  generalize val (List.take 4 _) = Y at hy bY
  clear hb
  go_wp2_with fail
  refine (make_any 3 hc (by omega) (by omega)).mono ?_
  rintro e w4 ⟨vK, rfl, hk, hf4⟩
  replace hc := hc.fwd hf4
  replace hx := hx.fwd hf4
  replace hy := hy.fwd hf4
  replace hF := hF.trans hf4
  clear hf4
  have bK := nl_take hc.ok 3
  generalize val (List.take 3 _) = K at hk bK
  clear hc
  obtain ⟨xo, xc, rfl, x1, x2, _⟩ := hx.parts
  unfold maxLen at x2
  obtain ⟨yo, yc, rfl, y1, y2, _⟩ := hy.parts
  unfold maxLen at y2
  obtain ⟨ko, kc, rfl, k1, k2, _⟩ := hk.parts
  unfold maxLen at k2
  by_cases hY0 : Y = 0
  · have ny : nl Y = 0 := by rw [hY0, nl_zero]
    rw [ny] at *
    clear hY0
    go_wp2_with fail
    go_ret
    exact ⟨rfl, hF⟩
  · have nyp : 0 < nl Y := by rw [nl_pos hY0]; omega
    have nyb : ((nl Y : Int) == 0) = false := by simp; omega
    by_cases hK0 : K = 0
    · have ny : nl K = 0 := by rw [hK0, nl_zero]
      rw [ny] at *
      clear hK0
      go_wp2_with fail
      go_ret
      exact ⟨rfl, hF⟩
    · have nkp : 0 < nl K := by rw [nl_pos hK0]; omega
      have nkb : ((nl K : Int) == 0) = false := by simp; omega
      have HY0 := hid hY0
      have HK0 := hid hK0
      have HYK := hid (Nat.mul_ne_zero hY0 hK0)
      obtain ⟨q, hq⟩ : ∃ q, q = mkQ neg X Y := ⟨_, rfl⟩
      have bq : nr q ≤ 4 := by rw [hq]; refine Nat.le_trans (nr_mkQ _ _ _ hY0) ?_; omega
      have HS : Hid (mkQ neg (X * K) (Y * K) = q) := hid (by rw [hq, mkQ_scale hY0 hK0])
      have HC : Hid (q.num.natAbs * Y = X * q.den) := hid (by rw [hq, mkQ_abs hY0, mkQ_den hY0]; exact cross_div X Y)
      have HSG : Hid (X = 0 → negQ q = false) := hid (by intro h; rw [hq, h, mkQ_zero, negQ_zero])
      have HG : Hid (Nat.gcd q.num.natAbs q.den = 1) := hid q.reduced
      have HQ := hid hq
      clear hY0 hK0 hq
      have e1 := nl_mul X K
      have e2 := nl_mul Y K
      have bN := nr_num q
      have bD := nr_den q
      have e3 := nl_mul q.num.natAbs Y
      have e4 := nl_mul X q.den
      have bo1 : nl 1 ≤ 1 := nl_one (by omega)
      go_wp2_with fail
      refine (rmake_any neg hx hy (by omega) (by omega) HY0.out).mono ?_
      rintro e w5 ⟨v, rfl, rX, hf5⟩
      replace hx := hx.fwd hf5
      replace hy := hy.fwd hf5
      replace hk := hk.fwd hf5
      replace hF := hF.trans hf5
      clear hf5
      rw [← HQ.out] at rX
      have HV := hid rX
      obtain ⟨poX, pcX, qoX, qcX, rfl, p1X, p2X, p3X, p4X, -, -⟩ := RW.open rX.rw'
      clear rX
      have rX := HV.out
      clear HV
      have hfB : Fwd w5 (w5.alloc (.cells #[.bool (negQ q), .slice poX (nl q.num.natAbs) pcX, .slice qoX (nl q.den) qcX] 27)) := (Fwd.refl _).alloc _
      replace hx := hx.fwd hfB
      replace hy := hy.fwd hfB
      replace hk := hk.fwd hfB
      replace rX := rX.fwd hfB
      replace hF := hF.trans hfB
      clear hfB
      have kX := BlkV.made w5 27 [.bool (negQ q), .slice poX (nl q.num.natAbs) pcX, .slice qoX (nl q.den) qcX]
      go_upto_region 7 with fail
      generalize (w5.alloc (.cells #[.bool (negQ q), .slice poX (nl q.num.natAbs) pcX, .slice qoX (nl q.den) qcX] 27)) = w6 at kX hx hy hk rX hF ⊢
      have xc0 := BlkV.cell kX 0 rfl
      have xc1 := BlkV.cell kX 1 rfl
      have xc2 := BlkV.cell kX 2 rfl
      go_wp2_with fail
      refine (refMul_any hx hk (by omega) (by omega)).mono ?_
      rintro e w7 ⟨v1, rfl, f1, hf7⟩
      replace hx := hx.fwd hf7
      replace hy := hy.fwd hf7
      replace hk := hk.fwd hf7
      replace rX := rX.fwd hf7
      replace kX := kX.fwd hf7
      replace hF := hF.trans hf7
      clear hf7
      clear xc0 xc1 xc2
      have xc0 := BlkV.cell kX 0 rfl
      have xc1 := BlkV.cell kX 1 rfl
      have xc2 := BlkV.cell kX 2 rfl
      go_wp2_with fail
      refine (refMul_any hy hk (by omega) (by omega)).mono ?_
      rintro e w8 ⟨v2, rfl, f2, hf8⟩
      replace hx := hx.fwd hf8
      replace hy := hy.fwd hf8
      replace hk := hk.fwd hf8
      replace rX := rX.fwd hf8
      replace f1 := f1.fwd hf8
      replace kX := kX.fwd hf8
      replace hF := hF.trans hf8
      clear hf8
      clear xc0 xc1 xc2
      have xc0 := BlkV.cell kX 0 rfl
      have xc1 := BlkV.cell kX 1 rfl
      have xc2 := BlkV.cell kX 2 rfl
      go_wp2_with fail
      refine (rmake_any neg f1 f2 (by omega) (by omega) HYK.out).mono ?_
      rintro e w9 ⟨v, rfl, rY, hf9⟩
      replace hx := hx.fwd hf9
      replace hy := hy.fwd hf9
      replace hk := hk.fwd hf9
      replace rX := rX.fwd hf9
      replace f1 := f1.fwd hf9
      replace f2 := f2.fwd hf9
      replace kX := kX.fwd hf9
      replace hF := hF.trans hf9
      clear hf9
      clear xc0 xc1 xc2
      have xc0 := BlkV.cell kX 0 rfl
      have xc1 := BlkV.cell kX 1 rfl
      have xc2 := BlkV.cell kX 2 rfl
      rw [HS.out] at rY
      have HV := hid rY
      obtain ⟨poY, pcY, qoY, qcY, rfl, p1Y, p2Y, p3Y, p4Y, -, -⟩ := RW.open rY.rw'
      clear rY
      have rY := HV.out
      clear HV
      have ltX9 := BlkV.lt kX
      have hfB : Fwd w9 (w9.alloc (.cells #[.bool (negQ q), .slice poY (nl q.num.natAbs) pcY, .slice qoY (nl q.den) qcY] 27)) := (Fwd.refl _).alloc _
      replace hx := hx.fwd hfB
      replace hy := hy.fwd hfB
      replace hk := hk.fwd hfB
      replace rX := rX.fwd hfB
      replace f1 := f1.fwd hfB
      replace f2 := f2.fwd hfB
      replace rY := rY.fwd hfB
      replace kX := kX.fwd hfB
      replace hF := hF.trans hfB
      clear hfB
      clear xc0 xc1 xc2
      have xc0 := BlkV.cell kX 0 rfl
      have xc1 := BlkV.cell kX 1 rfl
      have xc2 := BlkV.cell kX 2 rfl
      have kY := BlkV.made w9 27 [.bool (negQ q), .slice poY (nl q.num.natAbs) pcY, .slice qoY (nl q.den) qcY]
      go_upto_region 8 with fail
      generalize (w9.alloc (.cells #[.bool (negQ q), .slice poY (nl q.num.natAbs) pcY, .slice qoY (nl q.den) qcY] 27)) = w10 at kY hx hy hk rX f1 f2 rY kX hF ⊢
      clear xc0 xc1 xc2
      have xc0 := BlkV.cell kX 0 rfl
      have xc1 := BlkV.cell kX 1 rfl
      have xc2 := BlkV.cell kX 2 rfl
      have yc0 := BlkV.cell kY 0 rfl
      have yc1 := BlkV.cell kY 1 rfl
      have yc2 := BlkV.cell kY 2 rfl
      obtain ⟨nX, dX⟩ := RW.nums rX.rw'
      by_cases hX0 : X = 0
      · have nx0 : nl X = 0 := by rw [hX0, nl_zero]
        have hgt : ¬ (0 : Int) < (nl X : Int) := by omega
        have hgt2 : (0 < nl X) = False := by simp [nx0]
        have hgt3 : decide (0 < nl X) = false := by simp [nx0]
        have hgt4 : decide ((0 : Int) < (nl X : Int)) = false := by simp [nx0]
        have HS0 : Hid (negQ q = false) := hid (HSG.out hX0)
        clear hX0 nx0
        replace hx := hx.drew
        replace hy := hy.drew
        replace hk := hk.drew
        replace rX := rX.drew
        replace f1 := f1.drew
        replace f2 := f2.drew
        replace rY := rY.drew
        replace nX := nX.drew
        replace dX := dX.drew
        replace kX := kX.drew
        replace kY := kY.drew
        replace hF := hF.drew
        clear xc0 xc1 xc2
        have xc0 := BlkV.cell kX 0 rfl
        have xc1 := BlkV.cell kX 1 rfl
        have xc2 := BlkV.cell kX 2 rfl
        clear yc0 yc1 yc2
        have yc0 := BlkV.cell kY 0 rfl
        have yc1 := BlkV.cell kY 1 rfl
        have yc2 := BlkV.cell kY 2 rfl
        refine wp_region_held_drew (S := fun w' => w'.cell? ⟨w5.heap.size, 0, none⟩ = some (.bool (negQ q)) ∧ w'.cell? ⟨w5.heap.size, 1, none⟩ = some (.slice poX (nl q.num.natAbs) pcX) ∧ w'.cell? ⟨w5.heap.size, 2, none⟩ = some (.slice qoX (nl q.den) qcX) ∧ w'.cell? ⟨w9.heap.size, 0, none⟩ = some (.bool (negQ q)) ∧ w'.cell? ⟨w9.heap.size, 1, none⟩ = some (.slice poY (nl q.num.natAbs) pcY) ∧ w'.cell? ⟨w9.heap.size, 2, none⟩ = some (.slice qoY (nl q.den) qcY)) (by kernel_rfl) ⟨by with_reducible assumption, by with_reducible assumption, by with_reducible assumption, by with_reducible assumption, by with_reducible assumption, by with_reducible assumption⟩ (fun hHeld => ?_)
        refine wpAnyH_take (i := 0) (oi := ?oi1_0) (v := ?vv1_0) ?hi1_0 (by kernel_rfl) (by kernel_rfl) (by kernel_rfl) ?hq1_0 ?hy1_0 hHeld ?rest1_0
        case hi1_0 => (simp only [List.getElem?_toArray, List.getElem?_cons_succ, List.getElem?_cons_zero]; rfl)
        case hq1_0 => exact fun _ _ _ h => h
        case hy1_0 =>
          refine Or.inl ⟨by rfl, ?_⟩
          intro wS hSw
          try dsimp only at hSw
          obtain ⟨q0, q1, q2, q3, q4, q5⟩ := hSw
          go_simp
          try with_reducible rfl
        simp only [Act.put, List.setIfInBounds_toArray, List.set_cons_zero, List.set_cons_succ]
        refine wpAnyH_take (i := 1) (oi := ?oi2_1) (v := ?vv2_1) ?hi2_1 (by kernel_rfl) (by kernel_rfl) (by kernel_rfl) ?hq2_1 ?hy2_1 hHeld ?rest2_1
        case hi2_1 => (simp only [List.getElem?_toArray, List.getElem?_cons_succ, List.getElem?_cons_zero]; rfl)
        case hq2_1 => exact fun _ _ _ h => h
        case hy2_1 =>
          refine Or.inl ⟨by rfl, ?_⟩
          intro wS hSw
          try dsimp only at hSw
          obtain ⟨q0, q1, q2, q3, q4, q5⟩ := hSw
          go_simp
          try with_reducible rfl
        simp only [Act.put, List.setIfInBounds_toArray, List.set_cons_zero, List.set_cons_succ]
        refine wpAnyH_take (i := 2) (oi := ?oi3_2) (v := ?vv3_2) ?hi3_2 (by kernel_rfl) (by kernel_rfl) (by kernel_rfl) ?hq3_2 ?hy3_2 hHeld ?rest3_2
        case hi3_2 => (simp only [List.getElem?_toArray, List.getElem?_cons_succ, List.getElem?_cons_zero]; rfl)
        case hq3_2 => exact fun _ _ _ h => h
        case hy3_2 =>
          refine Or.inl ⟨by rfl, ?_⟩
          intro wS hSw
          try dsimp only at hSw
          obtain ⟨q0, q1, q2, q3, q4, q5⟩ := hSw
          go_simp
          try with_reducible rfl
        simp only [Act.put, List.setIfInBounds_toArray, List.set_cons_zero, List.set_cons_succ]
        refine wpAnyH_take (i := 3) (oi := ?oi4_3) (v := ?vv4_3) ?hi4_3 (by kernel_rfl) (by kernel_rfl) (by kernel_rfl) ?hq4_3 ?hy4_3 hHeld ?rest4_3
        case hi4_3 => (simp only [List.getElem?_toArray, List.getElem?_cons_succ, List.getElem?_cons_zero]; rfl)
        case hq4_3 => exact fun _ _ _ h => h
        case hy4_3 =>
          refine Or.inl ⟨by rfl, ?_⟩
          intro wS hSw
          try dsimp only at hSw
          obtain ⟨q0, q1, q2, q3, q4, q5⟩ := hSw
          go_simp
          try with_reducible rfl
        simp only [Act.put, List.setIfInBounds_toArray, List.set_cons_zero, List.set_cons_succ]
        refine wpAnyH_take (i := 4) (oi := ?oi5_4) (v := ?vv5_4) ?hi5_4 (by kernel_rfl) (by kernel_rfl) (by kernel_rfl) ?hq5_4 ?hy5_4 hHeld ?rest5_4
        case hi5_4 => (simp only [List.getElem?_toArray, List.getElem?_cons_succ, List.getElem?_cons_zero]; rfl)
        case hq5_4 => exact fun _ _ _ h => h
        case hy5_4 =>
          refine Or.inl ⟨by rfl, ?_⟩
          intro wS hSw
          try dsimp only at hSw
          obtain ⟨q0, q1, q2, q3, q4, q5⟩ := hSw
          go_simp
          try with_reducible rfl
        simp only [Act.put, List.setIfInBounds_toArray, List.set_cons_zero, List.set_cons_succ]
        refine wpAnyH_take (i := 5) (oi := ?oi6_5) (v := ?vv6_5) ?hi6_5 (by kernel_rfl) (by kernel_rfl) (by kernel_rfl) ?hq6_5 ?hy6_5 hHeld ?rest6_5
        case hi6_5 => (simp only [List.getElem?_toArray, List.getElem?_cons_succ, List.getElem?_cons_zero]; rfl)
        case hq6_5 => exact fun _ _ _ h => h
        case hy6_5 =>
          refine Or.inl ⟨by rfl, ?_⟩
          intro wS hSw
          try dsimp only at hSw
          obtain ⟨q0, q1, q2, q3, q4, q5⟩ := hSw
          go_simp
          try with_reducible rfl
        simp only [Act.put, List.setIfInBounds_toArray, List.set_cons_zero, List.set_cons_succ]
        refine wpAnyH_take (i := 6) (oi := ?oi7_6) (v := ?vv7_6) ?hi7_6 (by kernel_rfl) (by kernel_rfl) (by kernel_rfl) ?hq7_6 ?hy7_6 hHeld ?rest7_6
        case hi7_6 => (simp only [List.getElem?_toArray, List.getElem?_cons_succ, List.getElem?_cons_zero]; rfl)
        case hq7_6 => exact fun _ _ _ h => h
        case hy7_6 =>
          refine Or.inl ⟨by rfl, ?_⟩
          intro wS hSw
          try dsimp only at hSw
          obtain ⟨q0, q1, q2, q3, q4, q5⟩ := hSw
          go_simp
          try with_reducible rfl
        simp only [Act.put, List.setIfInBounds_toArray, List.set_cons_zero, List.set_cons_succ]
        refine wpAnyH_take (i := 7) (oi := ?oi8_7) (v := ?vv8_7) ?hi8_7 (by kernel_rfl) (by kernel_rfl) (by kernel_rfl) ?hq8_7 ?hy8_7 hHeld ?rest8_7
        case hi8_7 => (simp only [List.getElem?_toArray, List.getElem?_cons_succ, List.getElem?_cons_zero]; rfl)
        case hq8_7 => exact fun _ _ _ h => h
        case hy8_7 =>
          refine Or.inl ⟨by rfl, ?_⟩
          intro wS hSw
          try dsimp only at hSw
          obtain ⟨q0, q1, q2, q3, q4, q5⟩ := hSw
          go_simp
          try with_reducible rfl
        simp only [Act.put, List.setIfInBounds_toArray, List.set_cons_zero, List.set_cons_succ]
        refine wpAnyH_ready (rs := [8]) (by kernel_rfl) (by simp) ?_
        refine AllReadyH.cons rfl (fun K hK => ?_) AllReadyH.nil
        go_simp
        refine (right2_true rX (by omega)).mono ?_
        rintro e w11 ⟨rfl, hf11⟩
        replace hx := hx.fwd hf11
        replace hy := hy.fwd hf11
        replace hk := hk.fwd hf11
        replace rX := rX.fwd hf11
        replace f1 := f1.fwd hf11
        replace f2 := f2.fwd hf11
        replace rY := rY.fwd hf11
        replace nX := nX.fwd hf11
        replace dX := dX.fwd hf11
        replace kX := kX.fwd hf11
        replace kY := kY.fwd hf11
        replace hF := hF.trans hf11
        clear hf11
        clear xc0 xc1 xc2
        have xc0 := BlkV.cell kX 0 rfl
        have xc1 := BlkV.cell kX 1 rfl
        have xc2 := BlkV.cell kX 2 rfl
        clear yc0 yc1 yc2
        have yc0 := BlkV.cell kY 0 rfl
        have yc1 := BlkV.cell kY 1 rfl
        have yc2 := BlkV.cell kY 2 rfl
        go_wp2_with fail
        clear hHeld
        refine hK.out _ _ ⟨by with_reducible assumption, by with_reducible assumption, by with_reducible assumption, by with_reducible assumption, by with_reducible assumption, by with_reducible assumption⟩ (fun hHeld => ?_)
        clear hK K
        try simp only [Act.put, List.setIfInBounds_toArray, List.set_cons_zero, List.set_cons_succ]
        refine wpAnyH_take (i := 9) (oi := ?oi9_9) (v := ?vv9_9) ?hi9_9 (by kernel_rfl) (by kernel_rfl) (by kernel_rfl) ?hq9_9 ?hy9_9 hHeld ?rest9_9
        case hi9_9 => (simp only [List.getElem?_toArray, List.getElem?_cons_succ, List.getElem?_cons_zero]; rfl)
        case hq9_9 => exact fun _ _ _ h => h
        case hy9_9 =>
          refine Or.inl ⟨by rfl, ?_⟩
          intro wS hSw
          try dsimp only at hSw
          obtain ⟨q0, q1, q2, q3, q4, q5⟩ := hSw
          go_simp
          try with_reducible rfl
        simp only [Act.put, List.setIfInBounds_toArray, List.set_cons_zero, List.set_cons_succ]
        refine wpAnyH_take (i := 10) (oi := ?oi10_10) (v := ?vv10_10) ?hi10_10 (by kernel_rfl) (by kernel_rfl) (by kernel_rfl) ?hq10_10 ?hy10_10 hHeld ?rest10_10
        case hi10_10 => (simp only [List.getElem?_toArray, List.getElem?_cons_succ, List.getElem?_cons_zero]; rfl)
        case hq10_10 => exact fun _ _ _ h => h
        case hy10_10 =>
          refine Or.inl ⟨by rfl, ?_⟩
          intro wS hSw
          try dsimp only at hSw
          obtain ⟨q0, q1, q2, q3, q4, q5⟩ := hSw
          go_simp
          try with_reducible rfl
        simp only [Act.put, List.setIfInBounds_toArray, List.set_cons_zero, List.set_cons_succ]
        refine wpAnyH_take (i := 11) (oi := ?oi11_11) (v := ?vv11_11) ?hi11_11 (by kernel_rfl) (by kernel_rfl) (by kernel_rfl) ?hq11_11 ?hy11_11 hHeld ?rest11_11
        case hi11_11 => (simp only [List.getElem?_toArray, List.getElem?_cons_succ, List.getElem?_cons_zero]; rfl)
        case hq11_11 => exact fun _ _ _ h => h
        case hy11_11 =>
          refine Or.inl ⟨by rfl, ?_⟩
          intro wS hSw
          try dsimp only at hSw
          obtain ⟨q0, q1, q2, q3, q4, q5⟩ := hSw
          go_simp
          try with_reducible rfl
        simp only [Act.put, List.setIfInBounds_toArray, List.set_cons_zero, List.set_cons_succ]
        refine wpAnyH_take (i := 12) (oi := ?oi12_12) (v := ?vv12_12) ?hi12_12 (by kernel_rfl) (by kernel_rfl) (by kernel_rfl) ?hq12_12 ?hy12_12 hHeld ?rest12_12
        case hi12_12 => (simp only [List.getElem?_toArray, List.getElem?_cons_succ, List.getElem?_cons_zero]; rfl)
        case hq12_12 => exact fun _ _ _ h => h
        case hy12_12 =>
          refine Or.inl ⟨by rfl, ?_⟩
          intro wS hSw
          try dsimp only at hSw
          obtain ⟨q0, q1, q2, q3, q4, q5⟩ := hSw
          go_simp
          try with_reducible rfl
        simp only [Act.put, List.setIfInBounds_toArray, List.set_cons_zero, List.set_cons_succ]
        refine wpAnyH_ready (rs := [13]) (by kernel_rfl) (by simp) ?_
        refine AllReadyH.cons rfl (fun K hK => ?_) AllReadyH.nil
        go_simp
        refine (same2_true rX rY (by omega) (by omega) (rfl)).mono ?_
        rintro e w12 ⟨rfl, hf12⟩
        replace hx := hx.fwd hf12
        replace hy := hy.fwd hf12
        replace hk := hk.fwd hf12
        replace rX := rX.fwd hf12
        replace f1 := f1.fwd hf12
        replace f2 := f2.fwd hf12
        replace rY := rY.fwd hf12
        replace nX := nX.fwd hf12
        replace dX := dX.fwd hf12
        replace kX := kX.fwd hf12
        replace kY := kY.fwd hf12
        replace hF := hF.trans hf12
        clear hf12
        clear xc0 xc1 xc2
        have xc0 := BlkV.cell kX 0 rfl
        have xc1 := BlkV.cell kX 1 rfl
        have xc2 := BlkV.cell kX 2 rfl
        clear yc0 yc1 yc2
        have yc0 := BlkV.cell kY 0 rfl
        have yc1 := BlkV.cell kY 1 rfl
        have yc2 := BlkV.cell kY 2 rfl
        go_wp2_with fail
        clear hHeld
        refine hK.out _ _ ⟨by with_reducible assumption, by with_reducible assumption, by with_reducible assumption, by with_reducible assumption, by with_reducible assumption, by with_reducible assumption⟩ (fun hHeld => ?_)
        clear hK K
        try simp only [Act.put, List.setIfInBounds_toArray, List.set_cons_zero, List.set_cons_succ]
        refine wpAnyH_take (i := 14) (oi := ?oi13_14) (v := ?vv13_14) ?hi13_14 (by kernel_rfl) (by kernel_rfl) (by kernel_rfl) ?hq13_14 ?hy13_14 hHeld ?rest13_14
        case hi13_14 => (simp only [List.getElem?_toArray, List.getElem?_cons_succ, List.getElem?_cons_zero]; rfl)
        case hq13_14 => exact fun _ _ _ h => h
        case hy13_14 =>
          refine Or.inl ⟨by rfl, ?_⟩
          intro wS hSw
          try dsimp only at hSw
          obtain ⟨q0, q1, q2, q3, q4, q5⟩ := hSw
          go_simp
          try with_reducible rfl
        simp only [Act.put, List.setIfInBounds_toArray, List.set_cons_zero, List.set_cons_succ]
        refine wpAnyH_take (i := 15) (oi := ?oi14_15) (v := ?vv14_15) ?hi14_15 (by kernel_rfl) (by kernel_rfl) (by kernel_rfl) ?hq14_15 ?hy14_15 hHeld ?rest14_15
        case hi14_15 => (simp only [List.getElem?_toArray, List.getElem?_cons_succ, List.getElem?_cons_zero]; rfl)
        case hq14_15 => exact fun _ _ _ h => h
        case hy14_15 =>
          refine Or.inl ⟨by rfl, ?_⟩
          intro wS hSw
          try dsimp only at hSw
          obtain ⟨q0, q1, q2, q3, q4, q5⟩ := hSw
          go_simp
          try with_reducible rfl
        simp only [Act.put, List.setIfInBounds_toArray, List.set_cons_zero, List.set_cons_succ]
        refine wpAnyH_take (i := 16) (oi := ?oi15_16) (v := ?vv15_16) ?hi15_16 (by kernel_rfl) (by kernel_rfl) (by kernel_rfl) ?hq15_16 ?hy15_16 hHeld ?rest15_16
        case hi15_16 => (simp only [List.getElem?_toArray, List.getElem?_cons_succ, List.getElem?_cons_zero]; rfl)
        case hq15_16 => exact fun _ _ _ h => h
        case hy15_16 =>
          refine Or.inl ⟨by rfl, ?_⟩
          intro wS hSw
          try dsimp only at hSw
          obtain ⟨q0, q1, q2, q3, q4, q5⟩ := hSw
          go_simp
          try with_reducible rfl
        simp only [Act.put, List.setIfInBounds_toArray, List.set_cons_zero, List.set_cons_succ]
        refine wpAnyH_take (i := 17) (oi := ?oi16_17) (v := ?vv16_17) ?hi16_17 (by kernel_rfl) (by kernel_rfl) (by kernel_rfl) ?hq16_17 ?hy16_17 hHeld ?rest16_17
        case hi16_17 => (simp only [List.getElem?_toArray, List.getElem?_cons_succ, List.getElem?_cons_zero]; rfl)
        case hq16_17 => exact fun _ _ _ h => h
        case hy16_17 =>
          refine Or.inl ⟨by rfl, ?_⟩
          intro wS hSw
          try dsimp only at hSw
          obtain ⟨q0, q1, q2, q3, q4, q5⟩ := hSw
          go_simp
          try with_reducible rfl
        simp only [Act.put, List.setIfInBounds_toArray, List.set_cons_zero, List.set_cons_succ]
        refine wpAnyH_take (i := 18) (oi := ?oi17_18) (v := ?vv17_18) ?hi17_18 (by kernel_rfl) (by kernel_rfl) (by kernel_rfl) ?hq17_18 ?hy17_18 hHeld ?rest17_18
        case hi17_18 => (simp only [List.getElem?_toArray, List.getElem?_cons_succ, List.getElem?_cons_zero]; rfl)
        case hq17_18 => exact fun _ _ _ h => h
        case hy17_18 =>
          refine Or.inl ⟨by rfl, ?_⟩
          intro wS hSw
          try dsimp only at hSw
          obtain ⟨q0, q1, q2, q3, q4, q5⟩ := hSw
          go_simp
          try with_reducible rfl
        simp only [Act.put, List.setIfInBounds_toArray, List.set_cons_zero, List.set_cons_succ]
        refine wpAnyH_take (i := 19) (oi := ?oi18_19) (v := ?vv18_19) ?hi18_19 (by kernel_rfl) (by kernel_rfl) (by kernel_rfl) ?hq18_19 ?hy18_19 hHeld ?rest18_19
        case hi18_19 => (simp only [List.getElem?_toArray, List.getElem?_cons_succ, List.getElem?_cons_zero]; rfl)
        case hq18_19 => exact fun _ _ _ h => h
        case hy18_19 =>
          refine Or.inl ⟨by rfl, ?_⟩
          intro wS hSw
          try dsimp only at hSw
          obtain ⟨q0, q1, q2, q3, q4, q5⟩ := hSw
          go_simp
          try with_reducible rfl
        simp only [Act.put, List.setIfInBounds_toArray, List.set_cons_zero, List.set_cons_succ]
        refine wpAnyH_ready (rs := [20]) (by kernel_rfl) (by simp) ?_
        refine AllReadyH.cons rfl (fun K hK => ?_) AllReadyH.nil
        go_simp
        refine (refGcd_any nX dX (by omega) (by omega)).mono ?_
        rintro e w13 ⟨v3, rfl, f3, hf13⟩
        replace hx := hx.fwd hf13
        replace hy := hy.fwd hf13
        replace hk := hk.fwd hf13
        replace rX := rX.fwd hf13
        replace f1 := f1.fwd hf13
        replace f2 := f2.fwd hf13
        replace rY := rY.fwd hf13
        replace nX := nX.fwd hf13
        replace dX := dX.fwd hf13
        replace kX := kX.fwd hf13
        replace kY := kY.fwd hf13
        replace hF := hF.trans hf13
        clear hf13
        clear xc0 xc1 xc2
        have xc0 := BlkV.cell kX 0 rfl
        have xc1 := BlkV.cell kX 1 rfl
        have xc2 := BlkV.cell kX 2 rfl
        clear yc0 yc1 yc2
        have yc0 := BlkV.cell kY 0 rfl
        have yc1 := BlkV.cell kY 1 rfl
        have yc2 := BlkV.cell kY 2 rfl
        rw [HG.out] at f3
        go_wp2_with fail
        clear hHeld
        refine hK.out _ _ ⟨by with_reducible assumption, by with_reducible assumption, by with_reducible assumption, by with_reducible assumption, by with_reducible assumption, by with_reducible assumption⟩ (fun hHeld => ?_)
        clear hK K
        try simp only [Act.put, List.setIfInBounds_toArray, List.set_cons_zero, List.set_cons_succ]
        refine wpAnyH_ready (rs := [21]) (by kernel_rfl) (by simp) ?_
        refine AllReadyH.cons rfl (fun K hK => ?_) AllReadyH.nil
        go_simp
        refine (refOf_any _ 1 (by omega)).mono ?_
        rintro e w14 ⟨v4, rfl, f4, hf14⟩
        replace hx := hx.fwd hf14
        replace hy := hy.fwd hf14
        replace hk := hk.fwd hf14
        replace rX := rX.fwd hf14
        replace f1 := f1.fwd hf14
        replace f2 := f2.fwd hf14
        replace rY := rY.fwd hf14
        replace nX := nX.fwd hf14
        replace dX := dX.fwd hf14
        replace f3 := f3.fwd hf14
        replace kX := kX.fwd hf14
        replace kY := kY.fwd hf14
        replace hF := hF.trans hf14
        clear hf14
        clear xc0 xc1 xc2
        have xc0 := BlkV.cell kX 0 rfl
        have xc1 := BlkV.cell kX 1 rfl
        have xc2 := BlkV.cell kX 2 rfl
        clear yc0 yc1 yc2
        have yc0 := BlkV.cell kY 0 rfl
        have yc1 := BlkV.cell kY 1 rfl
        have yc2 := BlkV.cell kY 2 rfl
        go_wp2_with fail
        clear hHeld
        refine hK.out _ _ ⟨by with_reducible assumption, by with_reducible assumption, by with_reducible assumption, by with_reducible assumption, by with_reducible assumption, by with_reducible assumption⟩ (fun hHeld => ?_)
        clear hK K
        try simp only [Act.put, List.setIfInBounds_toArray, List.set_cons_zero, List.set_cons_succ]
        refine wpAnyH_ready (rs := [22]) (by kernel_rfl) (by simp) ?_
        refine AllReadyH.cons rfl (fun K hK => ?_) AllReadyH.nil
        go_simp
        refine (refCmp_any f3 f4 (by omega) (by omega)).mono ?_
        rintro e w15 ⟨rfl, hf15⟩
        replace hx := hx.fwd hf15
        replace hy := hy.fwd hf15
        replace hk := hk.fwd hf15
        replace rX := rX.fwd hf15
        replace f1 := f1.fwd hf15
        replace f2 := f2.fwd hf15
        replace rY := rY.fwd hf15
        replace nX := nX.fwd hf15
        replace dX := dX.fwd hf15
        replace f3 := f3.fwd hf15
        replace f4 := f4.fwd hf15
        replace kX := kX.fwd hf15
        replace kY := kY.fwd hf15
        replace hF := hF.trans hf15
        clear hf15
        clear xc0 xc1 xc2
        have xc0 := BlkV.cell kX 0 rfl
        have xc1 := BlkV.cell kX 1 rfl
        have xc2 := BlkV.cell kX 2 rfl
        clear yc0 yc1 yc2
        have yc0 := BlkV.cell kY 0 rfl
        have yc1 := BlkV.cell kY 1 rfl
        have yc2 := BlkV.cell kY 2 rfl
        rw [cmpI_eq rfl]
        go_wp2_with fail
        clear hHeld
        refine hK.out _ _ ⟨by with_reducible assumption, by with_reducible assumption, by with_reducible assumption, by with_reducible assumption, by with_reducible assumption, by with_reducible assumption⟩ (fun hHeld => ?_)
        clear hK K
        try simp only [Act.put, List.setIfInBounds_toArray, List.set_cons_zero, List.set_cons_succ]
        refine wpAnyH_take (i := 23) (oi := ?oi19_23) (v := ?vv19_23) ?hi19_23 (by kernel_rfl) (by kernel_rfl) (by kernel_rfl) ?hq19_23 ?hy19_23 hHeld ?rest19_23
        case hi19_23 => (simp only [List.getElem?_toArray, List.getElem?_cons_succ, List.getElem?_cons_zero]; rfl)
        case hq19_23 => exact fun _ _ _ h => h
        case hy19_23 =>
          refine Or.inl ⟨by rfl, ?_⟩
          intro wS hSw
          try dsimp only at hSw
          obtain ⟨q0, q1, q2, q3, q4, q5⟩ := hSw
          go_simp
          try with_reducible rfl
        simp only [Act.put, List.setIfInBounds_toArray, List.set_cons_zero, List.set_cons_succ]
        refine wpAnyH_take (i := 24) (oi := ?oi20_24) (v := ?vv20_24) ?hi20_24 (by kernel_rfl) (by kernel_rfl) (by kernel_rfl) ?hq20_24 ?hy20_24 hHeld ?rest20_24
        case hi20_24 => (simp only [List.getElem?_toArray, List.getElem?_cons_succ, List.getElem?_cons_zero]; rfl)
        case hq20_24 => exact fun _ _ _ h => h
        case hy20_24 =>
          refine Or.inl ⟨by rfl, ?_⟩
          intro wS hSw
          try dsimp only at hSw
          obtain ⟨q0, q1, q2, q3, q4, q5⟩ := hSw
          go_simp
          try with_reducible rfl
        simp only [Act.put, List.setIfInBounds_toArray, List.set_cons_zero, List.set_cons_succ]
        refine wpAnyH_take (i := 25) (oi := ?oi21_25) (v := ?vv21_25) ?hi21_25 (by kernel_rfl) (by kernel_rfl) (by kernel_rfl) ?hq21_25 ?hy21_25 hHeld ?rest21_25
        case hi21_25 => (simp only [List.getElem?_toArray, List.getElem?_cons_succ, List.getElem?_cons_zero]; rfl)
        case hq21_25 => exact fun _ _ _ h => h
        case hy21_25 =>
          refine Or.inl ⟨by rfl, ?_⟩
          intro wS hSw
          try dsimp only at hSw
          obtain ⟨q0, q1, q2, q3, q4, q5⟩ := hSw
          go_simp
          try with_reducible rfl
        simp only [Act.put, List.setIfInBounds_toArray, List.set_cons_zero, List.set_cons_succ]
        refine wpAnyH_take (i := 26) (oi := ?oi22_26) (v := ?vv22_26) ?hi22_26 (by kernel_rfl) (by kernel_rfl) (by kernel_rfl) ?hq22_26 ?hy22_26 hHeld ?rest22_26
        case hi22_26 => (simp only [List.getElem?_toArray, List.getElem?_cons_succ, List.getElem?_cons_zero]; rfl)
        case hq22_26 => exact fun _ _ _ h => h
        case hy22_26 =>
          refine Or.inl ⟨by rfl, ?_⟩
          intro wS hSw
          try dsimp only at hSw
          obtain ⟨q0, q1, q2, q3, q4, q5⟩ := hSw
          go_simp
          try with_reducible rfl
        simp only [Act.put, List.setIfInBounds_toArray, List.set_cons_zero, List.set_cons_succ]
        refine wpAnyH_take (i := 27) (oi := ?oi23_27) (v := ?vv23_27) ?hi23_27 (by kernel_rfl) (by kernel_rfl) (by kernel_rfl) ?hq23_27 ?hy23_27 hHeld ?rest23_27
        case hi23_27 => (simp only [List.getElem?_toArray, List.getElem?_cons_succ, List.getElem?_cons_zero]; rfl)
        case hq23_27 => exact fun _ _ _ h => h
        case hy23_27 =>
          refine Or.inl ⟨by rfl, ?_⟩
          intro wS hSw
          try dsimp only at hSw
          obtain ⟨q0, q1, q2, q3, q4, q5⟩ := hSw
          go_simp
          try with_reducible rfl
        simp only [Act.put, List.setIfInBounds_toArray, List.set_cons_zero, List.set_cons_succ]
        refine wpAnyH_take (i := 28) (oi := ?oi24_28) (v := ?vv24_28) ?hi24_28 (by kernel_rfl) (by kernel_rfl) (by kernel_rfl) ?hq24_28 ?hy24_28 hHeld ?rest24_28
        case hi24_28 => (simp only [List.getElem?_toArray, List.getElem?_cons_succ, List.getElem?_cons_zero]; rfl)
        case hq24_28 => exact fun _ _ _ h => h
        case hy24_28 =>
          refine Or.inl ⟨by rfl, ?_⟩
          intro wS hSw
          try dsimp only at hSw
          obtain ⟨q0, q1, q2, q3, q4, q5⟩ := hSw
          go_simp
          try with_reducible rfl
        simp only [Act.put, List.setIfInBounds_toArray, List.set_cons_zero, List.set_cons_succ]
        refine wpAnyH_take (i := 30) (oi := ?oi25_30) (v := ?vv25_30) ?hi25_30 (by kernel_rfl) (by kernel_rfl) (by kernel_rfl) ?hq25_30 ?hy25_30 hHeld ?rest25_30
        case hi25_30 => (simp only [List.getElem?_toArray, List.getElem?_cons_succ, List.getElem?_cons_zero]; rfl)
        case hq25_30 => exact fun _ _ _ h => h
        case hy25_30 =>
          refine Or.inl ⟨by rfl, ?_⟩
          intro wS hSw
          try dsimp only at hSw
          obtain ⟨q0, q1, q2, q3, q4, q5⟩ := hSw
          go_simp
          try with_reducible rfl
        simp only [Act.put, List.setIfInBounds_toArray, List.set_cons_zero, List.set_cons_succ]
        refine wpAnyH_take (i := 31) (oi := ?oi26_31) (v := ?vv26_31) ?hi26_31 (by kernel_rfl) (by kernel_rfl) (by kernel_rfl) ?hq26_31 ?hy26_31 hHeld ?rest26_31
        case hi26_31 => (simp only [List.getElem?_toArray, List.getElem?_cons_succ, List.getElem?_cons_zero]; rfl)
        case hq26_31 => exact fun _ _ _ h => h
        case hy26_31 =>
          refine Or.inl ⟨by rfl, ?_⟩
          intro wS hSw
          try dsimp only at hSw
          obtain ⟨q0, q1, q2, q3, q4, q5⟩ := hSw
          go_simp
          try with_reducible rfl
        simp only [Act.put, List.setIfInBounds_toArray, List.set_cons_zero, List.set_cons_succ]
        refine wpAnyH_take (i := 32) (oi := ?oi27_32) (v := ?vv27_32) ?hi27_32 (by kernel_rfl) (by kernel_rfl) (by kernel_rfl) ?hq27_32 ?hy27_32 hHeld ?rest27_32
        case hi27_32 => (simp only [List.getElem?_toArray, List.getElem?_cons_succ, List.getElem?_cons_zero]; rfl)
        case hq27_32 => exact fun _ _ _ h => h
        case hy27_32 =>
          refine Or.inl ⟨by rfl, ?_⟩
          intro wS hSw
          try dsimp only at hSw
          obtain ⟨q0, q1, q2, q3, q4, q5⟩ := hSw
          go_simp
          try with_reducible rfl
        simp only [Act.put, List.setIfInBounds_toArray, List.set_cons_zero, List.set_cons_succ]
        refine wpAnyH_ready (rs := [29]) (by kernel_rfl) (by simp) ?_
        refine AllReadyH.cons rfl (fun K hK => ?_) AllReadyH.nil
        go_simp
        refine (refMul_any nX hy (by omega) (by omega)).mono ?_
        rintro e w16 ⟨v5, rfl, f5, hf16⟩
        replace hx := hx.fwd hf16
        replace hy := hy.fwd hf16
        replace hk := hk.fwd hf16
        replace rX := rX.fwd hf16
        replace f1 := f1.fwd hf16
        replace f2 := f2.fwd hf16
        replace rY := rY.fwd hf16
        replace nX := nX.fwd hf16
        replace dX := dX.fwd hf16
        replace f3 := f3.fwd hf16
        replace f4 := f4.fwd hf16
        replace kX := kX.fwd hf16
        replace kY := kY.fwd hf16
        replace hF := hF.trans hf16
        clear hf16
        clear xc0 xc1 xc2
        have xc0 := BlkV.cell kX 0 rfl
        have xc1 := BlkV.cell kX 1 rfl
        have xc2 := BlkV.cell kX 2 rfl
        clear yc0 yc1 yc2
        have yc0 := BlkV.cell kY 0 rfl
        have yc1 := BlkV.cell kY 1 rfl
        have yc2 := BlkV.cell kY 2 rfl
        rw [HC.out] at f5
        go_wp2_with fail
        clear hHeld
        refine hK.out _ _ ⟨by with_reducible assumption, by with_reducible assumption, by with_reducible assumption, by with_reducible assumption, by with_reducible assumption, by with_reducible assumption⟩ (fun hHeld => ?_)
        clear hK K
        try simp only [Act.put, List.setIfInBounds_toArray, List.set_cons_zero, List.set_cons_succ]
        refine wpAnyH_ready (rs := [33]) (by kernel_rfl) (by simp) ?_
        refine AllReadyH.cons rfl (fun K hK => ?_) AllReadyH.nil
        go_simp
        refine (refMul_any hx dX (by omega) (by omega)).mono ?_
        rintro e w17 ⟨v6, rfl, f6, hf17⟩
        replace hx := hx.fwd hf17
        replace hy := hy.fwd hf17
        replace hk := hk.fwd hf17
        replace rX := rX.fwd hf17
        replace f1 := f1.fwd hf17
        replace f2 := f2.fwd hf17
        replace rY := rY.fwd hf17
        replace nX := nX.fwd hf17
        replace dX := dX.fwd hf17
        replace f3 := f3.fwd hf17
        replace f4 := f4.fwd hf17
        replace f5 := f5.fwd hf17
        replace kX := kX.fwd hf17
        replace kY := kY.fwd hf17
        replace hF := hF.trans hf17
        clear hf17
        clear xc0 xc1 xc2
        have xc0 := BlkV.cell kX 0 rfl
        have xc1 := BlkV.cell kX 1 rfl
        have xc2 := BlkV.cell kX 2 rfl
        clear yc0 yc1 yc2
        have yc0 := BlkV.cell kY 0 rfl
        have yc1 := BlkV.cell kY 1 rfl
        have yc2 := BlkV.cell kY 2 rfl
        go_wp2_with fail
        clear hHeld
        refine hK.out _ _ ⟨by with_reducible assumption, by with_reducible assumption, by with_reducible assumption, by with_reducible assumption, by with_reducible assumption, by with_reducible assumption⟩ (fun hHeld => ?_)
        clear hK K
        try simp only [Act.put, List.setIfInBounds_toArray, List.set_cons_zero, List.set_cons_succ]
        refine wpAnyH_ready (rs := [34]) (by kernel_rfl) (by simp) ?_
        refine AllReadyH.cons rfl (fun K hK => ?_) AllReadyH.nil
        go_simp
        refine (refCmp_any f5 f6 (by omega) (by omega)).mono ?_
        rintro e w18 ⟨rfl, hf18⟩
        replace hx := hx.fwd hf18
        replace hy := hy.fwd hf18
        replace hk := hk.fwd hf18
        replace rX := rX.fwd hf18
        replace f1 := f1.fwd hf18
        replace f2 := f2.fwd hf18
        replace rY := rY.fwd hf18
        replace nX := nX.fwd hf18
        replace dX := dX.fwd hf18
        replace f3 := f3.fwd hf18
        replace f4 := f4.fwd hf18
        replace f5 := f5.fwd hf18
        replace f6 := f6.fwd hf18
        replace kX := kX.fwd hf18
        replace kY := kY.fwd hf18
        replace hF := hF.trans hf18
        clear hf18
        clear xc0 xc1 xc2
        have xc0 := BlkV.cell kX 0 rfl
        have xc1 := BlkV.cell kX 1 rfl
        have xc2 := BlkV.cell kX 2 rfl
        clear yc0 yc1 yc2
        have yc0 := BlkV.cell kY 0 rfl
        have yc1 := BlkV.cell kY 1 rfl
        have yc2 := BlkV.cell kY 2 rfl
        rw [cmpI_eq rfl]
        go_wp2_with fail
        clear hHeld
        refine hK.out _ _ ⟨by with_reducible assumption, by with_reducible assumption, by with_reducible assumption, by with_reducible assumption, by with_reducible assumption, by with_reducible assumption⟩ (fun hHeld => ?_)
        clear hK K
        try simp only [Act.put, List.setIfInBounds_toArray, List.set_cons_zero, List.set_cons_succ]
        refine wpAnyH_take (i := 35) (oi := ?oi28_35) (v := ?vv28_35) ?hi28_35 (by kernel_rfl) (by kernel_rfl) (by kernel_rfl) ?hq28_35 ?hy28_35 hHeld ?rest28_35
        case hi28_35 => (simp only [List.getElem?_toArray, List.getElem?_cons_succ, List.getElem?_cons_zero]; rfl)
        case hq28_35 => exact fun _ _ _ h => h
        case hy28_35 =>
          refine Or.inl ⟨by rfl, ?_⟩
          intro wS hSw
          try dsimp only at hSw
          obtain ⟨q0, q1, q2, q3, q4, q5⟩ := hSw
          go_simp
          try with_reducible rfl
        simp only [Act.put, List.setIfInBounds_toArray, List.set_cons_zero, List.set_cons_succ]
        refine wpAnyH_take (i := 36) (oi := ?oi29_36) (v := ?vv29_36) ?hi29_36 (by kernel_rfl) (by kernel_rfl) (by kernel_rfl) ?hq29_36 ?hy29_36 hHeld ?rest29_36
        case hi29_36 => (simp only [List.getElem?_toArray, List.getElem?_cons_succ, List.getElem?_cons_zero]; rfl)
        case hq29_36 => exact fun _ _ _ h => h
        case hy29_36 =>
          refine Or.inl ⟨by rfl, ?_⟩
          intro wS hSw
          try dsimp only at hSw
          obtain ⟨q0, q1, q2, q3, q4, q5⟩ := hSw
          go_simp
          try with_reducible rfl
        simp only [Act.put, List.setIfInBounds_toArray, List.set_cons_zero, List.set_cons_succ]
        refine wpAnyH_take (i := 37) (oi := ?oi30_37) (v := ?vv30_37) ?hi30_37 (by kernel_rfl) (by kernel_rfl) (by kernel_rfl) ?hq30_37 ?hy30_37 hHeld ?rest30_37
        case hi30_37 => (simp only [List.getElem?_toArray, List.getElem?_cons_succ, List.getElem?_cons_zero]; rfl)
        case hq30_37 => exact fun _ _ _ h => h
        case hy30_37 =>
          refine Or.inl ⟨by rfl, ?_⟩
          intro wS hSw
          try dsimp only at hSw
          obtain ⟨q0, q1, q2, q3, q4, q5⟩ := hSw
          go_simp
          try with_reducible rfl
        simp only [Act.put, List.setIfInBounds_toArray, List.set_cons_zero, List.set_cons_succ]
        refine wpAnyH_take (i := 38) (oi := ?oi31_38) (v := ?vv31_38) ?hi31_38 (by kernel_rfl) (by kernel_rfl) (by kernel_rfl) ?hq31_38 ?hy31_38 hHeld ?rest31_38
        case hi31_38 => (simp only [List.getElem?_toArray, List.getElem?_cons_succ, List.getElem?_cons_zero]; rfl)
        case hq31_38 => exact fun _ _ _ h => h
        case hy31_38 =>
          refine Or.inl ⟨by rfl, ?_⟩
          intro wS hSw
          try dsimp only at hSw
          obtain ⟨q0, q1, q2, q3, q4, q5⟩ := hSw
          go_simp
          try with_reducible rfl
        simp only [Act.put, List.setIfInBounds_toArray, List.set_cons_zero, List.set_cons_succ]
        refine wpAnyH_take (i := 39) (oi := ?oi32_39) (v := ?vv32_39) ?hi32_39 (by kernel_rfl) (by kernel_rfl) (by kernel_rfl) ?hq32_39 ?hy32_39 hHeld ?rest32_39
        case hi32_39 => (simp only [List.getElem?_toArray, List.getElem?_cons_succ, List.getElem?_cons_zero]; rfl)
        case hq32_39 => exact fun _ _ _ h => h
        case hy32_39 =>
          refine Or.inl ⟨by rfl, ?_⟩
          intro wS hSw
          try dsimp only at hSw
          obtain ⟨q0, q1, q2, q3, q4, q5⟩ := hSw
          go_simp
          try with_reducible rfl
        simp only [Act.put, List.setIfInBounds_toArray, List.set_cons_zero, List.set_cons_succ]
        refine wpAnyH_take (i := 40) (oi := ?oi33_40) (v := ?vv33_40) ?hi33_40 (by kernel_rfl) (by kernel_rfl) (by kernel_rfl) ?hq33_40 ?hy33_40 hHeld ?rest33_40
        case hi33_40 => (simp only [List.getElem?_toArray, List.getElem?_cons_succ, List.getElem?_cons_zero]; rfl)
        case hq33_40 => exact fun _ _ _ h => h
        case hy33_40 =>
          refine Or.inl ⟨by rfl, ?_⟩
          intro wS hSw
          try dsimp only at hSw
          obtain ⟨q0, q1, q2, q3, q4, q5⟩ := hSw
          go_simp
          try with_reducible rfl
        simp only [Act.put, List.setIfInBounds_toArray, List.set_cons_zero, List.set_cons_succ]
        refine wpAnyH_take (i := 41) (oi := ?oi34_41) (v := ?vv34_41) ?hi34_41 (by kernel_rfl) (by kernel_rfl) (by kernel_rfl) ?hq34_41 ?hy34_41 hHeld ?rest34_41
        case hi34_41 => (simp only [List.getElem?_toArray, List.getElem?_cons_succ, List.getElem?_cons_zero]; rfl)
        case hq34_41 => exact fun _ _ _ h => h
        case hy34_41 =>
          refine Or.inl ⟨by rfl, ?_⟩
          intro wS hSw
          try dsimp only at hSw
          obtain ⟨q0, q1, q2, q3, q4, q5⟩ := hSw
          go_simp
          try with_reducible rfl
        simp only [Act.put, List.setIfInBounds_toArray, List.set_cons_zero, List.set_cons_succ]
        refine wpAnyH_take (i := 42) (oi := ?oi35_42) (v := ?vv35_42) ?hi35_42 (by kernel_rfl) (by kernel_rfl) (by kernel_rfl) ?hq35_42 ?hy35_42 hHeld ?rest35_42
        case hi35_42 => (simp only [List.getElem?_toArray, List.getElem?_cons_succ, List.getElem?_cons_zero]; rfl)
        case hq35_42 => exact fun _ _ _ h => h
        case hy35_42 =>
          refine Or.inl ⟨by rfl, ?_⟩
          intro wS hSw
          try dsimp only at hSw
          obtain ⟨q0, q1, q2, q3, q4, q5⟩ := hSw
          go_simp
          try with_reducible rfl
        simp only [Act.put, List.setIfInBounds_toArray, List.set_cons_zero, List.set_cons_succ]
        refine wpAnyH_take (i := 43) (oi := ?oi36_43) (v := ?vv36_43) ?hi36_43 (by kernel_rfl) (by kernel_rfl) (by kernel_rfl) ?hq36_43 ?hy36_43 hHeld ?rest36_43
        case hi36_43 => (simp only [List.getElem?_toArray, List.getElem?_cons_succ, List.getElem?_cons_zero]; rfl)
        case hq36_43 => exact fun _ _ _ h => h
        case hy36_43 =>
          refine Or.inl ⟨by rfl, ?_⟩
          intro wS hSw
          try dsimp only at hSw
          obtain ⟨q0, q1, q2, q3, q4, q5⟩ := hSw
          go_simp
          try with_reducible rfl
        simp only [Act.put, List.setIfInBounds_toArray, List.set_cons_zero, List.set_cons_succ]
        refine wpAnyH_take (i := 44) (oi := ?oi37_44) (v := ?vv37_44) ?hi37_44 (by kernel_rfl) (by kernel_rfl) (by kernel_rfl) ?hq37_44 ?hy37_44 hHeld ?rest37_44
        case hi37_44 => (simp only [List.getElem?_toArray, List.getElem?_cons_succ, List.getElem?_cons_zero]; rfl)
        case hq37_44 => exact fun _ _ _ h => h
        case hy37_44 =>
          refine Or.inl ⟨by rfl, ?_⟩
          intro wS hSw
          try dsimp only at hSw
          obtain ⟨q0, q1, q2, q3, q4, q5⟩ := hSw
          go_simp
          try with_reducible rfl
        simp only [Act.put, List.setIfInBounds_toArray, List.set_cons_zero, List.set_cons_succ]
        refine wpAnyH_take (i := 45) (oi := ?oi38_45) (v := ?vv38_45) ?hi38_45 (by kernel_rfl) (by kernel_rfl) (by kernel_rfl) ?hq38_45 ?hy38_45 hHeld ?rest38_45
        case hi38_45 => (simp only [List.getElem?_toArray, List.getElem?_cons_succ, List.getElem?_cons_zero]; rfl)
        case hq38_45 => exact fun _ _ _ h => h
        case hy38_45 =>
          refine Or.inl ⟨by rfl, ?_⟩
          intro wS hSw
          try dsimp only at hSw
          obtain ⟨q0, q1, q2, q3, q4, q5⟩ := hSw
          go_simp
          try with_reducible rfl
        simp only [Act.put, List.setIfInBounds_toArray, List.set_cons_zero, List.set_cons_succ]
        refine wpAnyH_take (i := 46) (oi := ?oi39_46) (v := ?vv39_46) ?hi39_46 (by kernel_rfl) (by kernel_rfl) (by kernel_rfl) ?hq39_46 ?hy39_46 hHeld ?rest39_46
        case hi39_46 => (simp only [List.getElem?_toArray, List.getElem?_cons_succ, List.getElem?_cons_zero]; rfl)
        case hq39_46 => exact fun _ _ _ h => h
        case hy39_46 =>
          refine Or.inl ⟨by rfl, ?_⟩
          intro wS hSw
          try dsimp only at hSw
          obtain ⟨q0, q1, q2, q3, q4, q5⟩ := hSw
          go_simp
          try with_reducible rfl
        simp only [Act.put, List.setIfInBounds_toArray, List.set_cons_zero, List.set_cons_succ]
        refine wpAnyH_take (i := 47) (oi := ?oi40_47) (v := ?vv40_47) ?hi40_47 (by kernel_rfl) (by kernel_rfl) (by kernel_rfl) ?hq40_47 ?hy40_47 hHeld ?rest40_47
        case hi40_47 => (simp only [List.getElem?_toArray, List.getElem?_cons_succ, List.getElem?_cons_zero]; rfl)
        case hq40_47 => exact fun _ _ _ h => h
        case hy40_47 =>
          refine Or.inl ⟨by rfl, ?_⟩
          intro wS hSw
          try dsimp only at hSw
          obtain ⟨q0, q1, q2, q3, q4, q5⟩ := hSw
          go_simp
          try with_reducible rfl
        simp only [Act.put, List.setIfInBounds_toArray, List.set_cons_zero, List.set_cons_succ]
        refine wpAnyH_done (by kernel_rfl) ?_ _
        go_wp2_with fail
        go_ret
        refine ⟨?_, hF⟩
        show Ending.returned (.bool (!negQ q)) = _
        rw [HS0.out]
        rfl
      · have nxp : 0 < nl X := by rw [nl_pos hX0]; omega
        have hgt : (0 : Int) < (nl X : Int) := by omega
        clear hX0
        replace hx := hx.drew
        replace hy := hy.drew
        replace hk := hk.drew
        replace rX := rX.drew
        replace f1 := f1.drew
        replace f2 := f2.drew
        replace rY := rY.drew
        replace nX := nX.drew
        replace dX := dX.drew
        replace kX := kX.drew
        replace kY := kY.drew
        replace hF := hF.drew
        clear xc0 xc1 xc2
        have xc0 := BlkV.cell kX 0 rfl
        have xc1 := BlkV.cell kX 1 rfl
        have xc2 := BlkV.cell kX 2 rfl
        clear yc0 yc1 yc2
        have yc0 := BlkV.cell kY 0 rfl
        have yc1 := BlkV.cell kY 1 rfl
        have yc2 := BlkV.cell kY 2 rfl
        refine wp_region_held_drew (S := fun w' => w'.cell? ⟨w5.heap.size, 0, none⟩ = some (.bool (negQ q)) ∧ w'.cell? ⟨w5.heap.size, 1, none⟩ = some (.slice poX (nl q.num.natAbs) pcX) ∧ w'.cell? ⟨w5.heap.size, 2, none⟩ = some (.slice qoX (nl q.den) qcX) ∧ w'.cell? ⟨w9.heap.size, 0, none⟩ = some (.bool (negQ q)) ∧ w'.cell? ⟨w9.heap.size, 1, none⟩ = some (.slice poY (nl q.num.natAbs) pcY) ∧ w'.cell? ⟨w9.heap.size, 2, none⟩ = some (.slice qoY (nl q.den) qcY)) (by kernel_rfl) ⟨by with_reducible assumption, by with_reducible assumption, by with_reducible assumption, by with_reducible assumption, by with_reducible assumption, by with_reducible assumption⟩ (fun hHeld => ?_)
        refine wpAnyH_take (i := 0) (oi := ?oi41_0) (v := ?vv41_0) ?hi41_0 (by kernel_rfl) (by kernel_rfl) (by kernel_rfl) ?hq41_0 ?hy41_0 hHeld ?rest41_0
        case hi41_0 => (simp only [List.getElem?_toArray, List.getElem?_cons_succ, List.getElem?_cons_zero]; rfl)
        case hq41_0 => exact fun _ _ _ h => h
        case hy41_0 =>
          refine Or.inl ⟨by rfl, ?_⟩
          intro wS hSw
          try dsimp only at hSw
          obtain ⟨q0, q1, q2, q3, q4, q5⟩ := hSw
          go_simp
          try with_reducible rfl
        simp only [Act.put, List.setIfInBounds_toArray, List.set_cons_zero, List.set_cons_succ]
        refine wpAnyH_take (i := 1) (oi := ?oi42_1) (v := ?vv42_1) ?hi42_1 (by kernel_rfl) (by kernel_rfl) (by kernel_rfl) ?hq42_1 ?hy42_1 hHeld ?rest42_1
        case hi42_1 => (simp only [List.getElem?_toArray, List.getElem?_cons_succ, List.getElem?_cons_zero]; rfl)
        case hq42_1 => exact fun _ _ _ h => h
        case hy42_1 =>
          refine Or.inl ⟨by rfl, ?_⟩
          intro wS hSw
          try dsimp only at hSw
          obtain ⟨q0, q1, q2, q3, q4, q5⟩ := hSw
          go_simp
          try with_reducible rfl
        simp only [Act.put, List.setIfInBounds_toArray, List.set_cons_zero, List.set_cons_succ]
        refine wpAnyH_take (i := 2) (oi := ?oi43_2) (v := ?vv43_2) ?hi43_2 (by kernel_rfl) (by kernel_rfl) (by kernel_rfl) ?hq43_2 ?hy43_2 hHeld ?rest43_2
        case hi43_2 => (simp only [List.getElem?_toArray, List.getElem?_cons_succ, List.getElem?_cons_zero]; rfl)
        case hq43_2 => exact fun _ _ _ h => h
        case hy43_2 =>
          refine Or.inl ⟨by rfl, ?_⟩
          intro wS hSw
          try dsimp only at hSw
          obtain ⟨q0, q1, q2, q3, q4, q5⟩ := hSw
          go_simp
          try with_reducible rfl
        simp only [Act.put, List.setIfInBounds_toArray, List.set_cons_zero, List.set_cons_succ]
        refine wpAnyH_take (i := 3) (oi := ?oi44_3) (v := ?vv44_3) ?hi44_3 (by kernel_rfl) (by kernel_rfl) (by kernel_rfl) ?hq44_3 ?hy44_3 hHeld ?rest44_3
        case hi44_3 => (simp only [List.getElem?_toArray, List.getElem?_cons_succ, List.getElem?_cons_zero]; rfl)
        case hq44_3 => exact fun _ _ _ h => h
        case hy44_3 =>
          refine Or.inl ⟨by rfl, ?_⟩
          intro wS hSw
          try dsimp only at hSw
          obtain ⟨q0, q1, q2, q3, q4, q5⟩ := hSw
          go_simp
          try with_reducible rfl
        simp only [Act.put, List.setIfInBounds_toArray, List.set_cons_zero, List.set_cons_succ]
        refine wpAnyH_take (i := 4) (oi := ?oi45_4) (v := ?vv45_4) ?hi45_4 (by kernel_rfl) (by kernel_rfl) (by kernel_rfl) ?hq45_4 ?hy45_4 hHeld ?rest45_4
        case hi45_4 => (simp only [List.getElem?_toArray, List.getElem?_cons_succ, List.getElem?_cons_zero]; rfl)
        case hq45_4 => exact fun _ _ _ h => h
        case hy45_4 =>
          refine Or.inl ⟨by rfl, ?_⟩
          intro wS hSw
          try dsimp only at hSw
          obtain ⟨q0, q1, q2, q3, q4, q5⟩ := hSw
          go_simp
          try with_reducible rfl
        simp only [Act.put, List.setIfInBounds_toArray, List.set_cons_zero, List.set_cons_succ]
        refine wpAnyH_take (i := 5) (oi := ?oi46_5) (v := ?vv46_5) ?hi46_5 (by kernel_rfl) (by kernel_rfl) (by kernel_rfl) ?hq46_5 ?hy46_5 hHeld ?rest46_5
        case hi46_5 => (simp only [List.getElem?_toArray, List.getElem?_cons_succ, List.getElem?_cons_zero]; rfl)
        case hq46_5 => exact fun _ _ _ h => h
        case hy46_5 =>
          refine Or.inl ⟨by rfl, ?_⟩
          intro wS hSw
          try dsimp only at hSw
          obtain ⟨q0, q1, q2, q3, q4, q5⟩ := hSw
          go_simp
          try with_reducible rfl
        simp only [Act.put, List.setIfInBounds_toArray, List.set_cons_zero, List.set_cons_succ]
        refine wpAnyH_take (i := 6) (oi := ?oi47_6) (v := ?vv47_6) ?hi47_6 (by kernel_rfl) (by kernel_rfl) (by kernel_rfl) ?hq47_6 ?hy47_6 hHeld ?rest47_6
        case hi47_6 => (simp only [List.getElem?_toArray, List.getElem?_cons_succ, List.getElem?_cons_zero]; rfl)
        case hq47_6 => exact fun _ _ _ h => h
        case hy47_6 =>
          refine Or.inl ⟨by rfl, ?_⟩
          intro wS hSw
          try dsimp only at hSw
          obtain ⟨q0, q1, q2, q3, q4, q5⟩ := hSw
          go_simp
          try with_reducible rfl
        simp only [Act.put, List.setIfInBounds_toArray, List.set_cons_zero, List.set_cons_succ]
        refine wpAnyH_take (i := 7) (oi := ?oi48_7) (v := ?vv48_7) ?hi48_7 (by kernel_rfl) (by kernel_rfl) (by kernel_rfl) ?hq48_7 ?hy48_7 hHeld ?rest48_7
        case hi48_7 => (simp only [List.getElem?_toArray, List.getElem?_cons_succ, List.getElem?_cons_zero]; rfl)
        case hq48_7 => exact fun _ _ _ h => h
        case hy48_7 =>
          refine Or.inl ⟨by rfl, ?_⟩
          intro wS hSw
          try dsimp only at hSw
          obtain ⟨q0, q1, q2, q3, q4, q5⟩ := hSw
          go_simp
          try with_reducible rfl
        simp only [Act.put, List.setIfInBounds_toArray, List.set_cons_zero, List.set_cons_succ]
        refine wpAnyH_ready (rs := [8]) (by kernel_rfl) (by simp) ?_
        refine AllReadyH.cons rfl (fun K hK => ?_) AllReadyH.nil
        go_simp
        refine (right2_true rX (by omega)).mono ?_
        rintro e w11 ⟨rfl, hf11⟩
        replace hx := hx.fwd hf11
        replace hy := hy.fwd hf11
        replace hk := hk.fwd hf11
        replace rX := rX.fwd hf11
        replace f1 := f1.fwd hf11
        replace f2 := f2.fwd hf11
        replace rY := rY.fwd hf11
        replace nX := nX.fwd hf11
        replace dX := dX.fwd hf11
        replace kX := kX.fwd hf11
        replace kY := kY.fwd hf11
        replace hF := hF.trans hf11
        clear hf11
        clear xc0 xc1 xc2
        have xc0 := BlkV.cell kX 0 rfl
        have xc1 := BlkV.cell kX 1 rfl
        have xc2 := BlkV.cell kX 2 rfl
        clear yc0 yc1 yc2
        have yc0 := BlkV.cell kY 0 rfl
        have yc1 := BlkV.cell kY 1 rfl
        have yc2 := BlkV.cell kY 2 rfl
        go_wp2_with fail
        clear hHeld
        refine hK.out _ _ ⟨by with_reducible assumption, by with_reducible assumption, by with_reducible assumption, by with_reducible assumption, by with_reducible assumption, by with_reducible assumption⟩ (fun hHeld => ?_)
        clear hK K
        try simp only [Act.put, List.setIfInBounds_toArray, List.set_cons_zero, List.set_cons_succ]
        refine wpAnyH_take (i := 9) (oi := ?oi49_9) (v := ?vv49_9) ?hi49_9 (by kernel_rfl) (by kernel_rfl) (by kernel_rfl) ?hq49_9 ?hy49_9 hHeld ?rest49_9
        case hi49_9 => (simp only [List.getElem?_toArray, List.getElem?_cons_succ, List.getElem?_cons_zero]; rfl)
        case hq49_9 => exact fun _ _ _ h => h
        case hy49_9 =>
          refine Or.inl ⟨by rfl, ?_⟩
          intro wS hSw
          try dsimp only at hSw
          obtain ⟨q0, q1, q2, q3, q4, q5⟩ := hSw
          go_simp
          try with_reducible rfl
        simp only [Act.put, List.setIfInBounds_toArray, List.set_cons_zero, List.set_cons_succ]
        refine wpAnyH_take (i := 10) (oi := ?oi50_10) (v := ?vv50_10) ?hi50_10 (by kernel_rfl) (by kernel_rfl) (by kernel_rfl) ?hq50_10 ?hy50_10 hHeld ?rest50_10
        case hi50_10 => (simp only [List.getElem?_toArray, List.getElem?_cons_succ, List.getElem?_cons_zero]; rfl)
        case hq50_10 => exact fun _ _ _ h => h
        case hy50_10 =>
          refine Or.inl ⟨by rfl, ?_⟩
          intro wS hSw
          try dsimp only at hSw
          obtain ⟨q0, q1, q2, q3, q4, q5⟩ := hSw
          go_simp
          try with_reducible rfl
        simp only [Act.put, List.setIfInBounds_toArray, List.set_cons_zero, List.set_cons_succ]
        refine wpAnyH_take (i := 11) (oi := ?oi51_11) (v := ?vv51_11) ?hi51_11 (by kernel_rfl) (by kernel_rfl) (by kernel_rfl) ?hq51_11 ?hy51_11 hHeld ?rest51_11
        case hi51_11 => (simp only [List.getElem?_toArray, List.getElem?_cons_succ, List.getElem?_cons_zero]; rfl)
        case hq51_11 => exact fun _ _ _ h => h
        case hy51_11 =>
          refine Or.inl ⟨by rfl, ?_⟩
          intro wS hSw
          try dsimp only at hSw
          obtain ⟨q0, q1, q2, q3, q4, q5⟩ := hSw
          go_simp
          try with_reducible rfl
        simp only [Act.put, List.setIfInBounds_toArray, List.set_cons_zero, List.set_cons_succ]
        refine wpAnyH_take (i := 12) (oi := ?oi52_12) (v := ?vv52_12) ?hi52_12 (by kernel_rfl) (by kernel_rfl) (by kernel_rfl) ?hq52_12 ?hy52_12 hHeld ?rest52_12
        case hi52_12 => (simp only [List.getElem?_toArray, List.getElem?_cons_succ, List.getElem?_cons_zero]; rfl)
        case hq52_12 => exact fun _ _ _ h => h
        case hy52_12 =>
          refine Or.inl ⟨by rfl, ?_⟩
          intro wS hSw
          try dsimp only at hSw
          obtain ⟨q0, q1, q2, q3, q4, q5⟩ := hSw
          go_simp
          try with_reducible rfl
        simp only [Act.put, List.setIfInBounds_toArray, List.set_cons_zero, List.set_cons_succ]
        refine wpAnyH_ready (rs := [13]) (by kernel_rfl) (by simp) ?_
        refine AllReadyH.cons rfl (fun K hK => ?_) AllReadyH.nil
        go_simp
        refine (same2_true rX rY (by omega) (by omega) (rfl)).mono ?_
        rintro e w12 ⟨rfl, hf12⟩
        replace hx := hx.fwd hf12
        replace hy := hy.fwd hf12
        replace hk := hk.fwd hf12
        replace rX := rX.fwd hf12
        replace f1 := f1.fwd hf12
        replace f2 := f2.fwd hf12
        replace rY := rY.fwd hf12
        replace nX := nX.fwd hf12
        replace dX := dX.fwd hf12
        replace kX := kX.fwd hf12
        replace kY := kY.fwd hf12
        replace hF := hF.trans hf12
        clear hf12
        clear xc0 xc1 xc2
        have xc0 := BlkV.cell kX 0 rfl
        have xc1 := BlkV.cell kX 1 rfl
        have xc2 := BlkV.cell kX 2 rfl
        clear yc0 yc1 yc2
        have yc0 := BlkV.cell kY 0 rfl
        have yc1 := BlkV.cell kY 1 rfl
        have yc2 := BlkV.cell kY 2 rfl
        go_wp2_with fail
        clear hHeld
        refine hK.out _ _ ⟨by with_reducible assumption, by with_reducible assumption, by with_reducible assumption, by with_reducible assumption, by with_reducible assumption, by with_reducible assumption⟩ (fun hHeld => ?_)
        clear hK K
        try simp only [Act.put, List.setIfInBounds_toArray, List.set_cons_zero, List.set_cons_succ]
        refine wpAnyH_take (i := 14) (oi := ?oi53_14) (v := ?vv53_14) ?hi53_14 (by kernel_rfl) (by kernel_rfl) (by kernel_rfl) ?hq53_14 ?hy53_14 hHeld ?rest53_14
        case hi53_14 => (simp only [List.getElem?_toArray, List.getElem?_cons_succ, List.getElem?_cons_zero]; rfl)
        case hq53_14 => exact fun _ _ _ h => h
        case hy53_14 =>
          refine Or.inl ⟨by rfl, ?_⟩
          intro wS hSw
          try dsimp only at hSw
          obtain ⟨q0, q1, q2, q3, q4, q5⟩ := hSw
          go_simp
          try with_reducible rfl
        simp only [Act.put, List.setIfInBounds_toArray, List.set_cons_zero, List.set_cons_succ]
        refine wpAnyH_take (i := 15) (oi := ?oi54_15) (v := ?vv54_15) ?hi54_15 (by kernel_rfl) (by kernel_rfl) (by kernel_rfl) ?hq54_15 ?hy54_15 hHeld ?rest54_15
        case hi54_15 => (simp only [List.getElem?_toArray, List.getElem?_cons_succ, List.getElem?_cons_zero]; rfl)
        case hq54_15 => exact fun _ _ _ h => h
        case hy54_15 =>
          refine Or.inl ⟨by rfl, ?_⟩
          intro wS hSw
          try dsimp only at hSw
          obtain ⟨q0, q1, q2, q3, q4, q5⟩ := hSw
          go_simp
          try with_reducible rfl
        simp only [Act.put, List.setIfInBounds_toArray, List.set_cons_zero, List.set_cons_succ]
        refine wpAnyH_take (i := 16) (oi := ?oi55_16) (v := ?vv55_16) ?hi55_16 (by kernel_rfl) (by kernel_rfl) (by kernel_rfl) ?hq55_16 ?hy55_16 hHeld ?rest55_16
        case hi55_16 => (simp only [List.getElem?_toArray, List.getElem?_cons_succ, List.getElem?_cons_zero]; rfl)
        case hq55_16 => exact fun _ _ _ h => h
        case hy55_16 =>
          refine Or.inl ⟨by rfl, ?_⟩
          intro wS hSw
          try dsimp only at hSw
          obtain ⟨q0, q1, q2, q3, q4, q5⟩ := hSw
          go_simp
          try with_reducible rfl
        simp only [Act.put, List.setIfInBounds_toArray, List.set_cons_zero, List.set_cons_succ]
        refine wpAnyH_take (i := 17) (oi := ?oi56_17) (v := ?vv56_17) ?hi56_17 (by kernel_rfl) (by kernel_rfl) (by kernel_rfl) ?hq56_17 ?hy56_17 hHeld ?rest56_17
        case hi56_17 => (simp only [List.getElem?_toArray, List.getElem?_cons_succ, List.getElem?_cons_zero]; rfl)
        case hq56_17 => exact fun _ _ _ h => h
        case hy56_17 =>
          refine Or.inl ⟨by rfl, ?_⟩
          intro wS hSw
          try dsimp only at hSw
          obtain ⟨q0, q1, q2, q3, q4, q5⟩ := hSw
          go_simp
          try with_reducible rfl
        simp only [Act.put, List.setIfInBounds_toArray, List.set_cons_zero, List.set_cons_succ]
        refine wpAnyH_take (i := 18) (oi := ?oi57_18) (v := ?vv57_18) ?hi57_18 (by kernel_rfl) (by kernel_rfl) (by kernel_rfl) ?hq57_18 ?hy57_18 hHeld ?rest57_18
        case hi57_18 => (simp only [List.getElem?_toArray, List.getElem?_cons_succ, List.getElem?_cons_zero]; rfl)
        case hq57_18 => exact fun _ _ _ h => h
        case hy57_18 =>
          refine Or.inl ⟨by rfl, ?_⟩
          intro wS hSw
          try dsimp only at hSw
          obtain ⟨q0, q1, q2, q3, q4, q5⟩ := hSw
          go_simp
          try with_reducible rfl
        simp only [Act.put, List.setIfInBounds_toArray, List.set_cons_zero, List.set_cons_succ]
        refine wpAnyH_take (i := 19) (oi := ?oi58_19) (v := ?vv58_19) ?hi58_19 (by kernel_rfl) (by kernel_rfl) (by kernel_rfl) ?hq58_19 ?hy58_19 hHeld ?rest58_19
        case hi58_19 => (simp only [List.getElem?_toArray, List.getElem?_cons_succ, List.getElem?_cons_zero]; rfl)
        case hq58_19 => exact fun _ _ _ h => h
        case hy58_19 =>
          refine Or.inl ⟨by rfl, ?_⟩
          intro wS hSw
          try dsimp only at hSw
          obtain ⟨q0, q1, q2, q3, q4, q5⟩ := hSw
          go_simp
          try with_reducible rfl
        simp only [Act.put, List.setIfInBounds_toArray, List.set_cons_zero, List.set_cons_succ]
        refine wpAnyH_ready (rs := [20]) (by kernel_rfl) (by simp) ?_
        refine AllReadyH.cons rfl (fun K hK => ?_) AllReadyH.nil
        go_simp
        refine (refGcd_any nX dX (by omega) (by omega)).mono ?_
        rintro e w13 ⟨v3, rfl, f3, hf13⟩
        replace hx := hx.fwd hf13
        replace hy := hy.fwd hf13
        replace hk := hk.fwd hf13
        replace rX := rX.fwd hf13
        replace f1 := f1.fwd hf13
        replace f2 := f2.fwd hf13
        replace rY := rY.fwd hf13
        replace nX := nX.fwd hf13
        replace dX := dX.fwd hf13
        replace kX := kX.fwd hf13
        replace kY := kY.fwd hf13
        replace hF := hF.trans hf13
        clear hf13
        clear xc0 xc1 xc2
        have xc0 := BlkV.cell kX 0 rfl
        have xc1 := BlkV.cell kX 1 rfl
        have xc2 := BlkV.cell kX 2 rfl
        clear yc0 yc1 yc2
        have yc0 := BlkV.cell kY 0 rfl
        have yc1 := BlkV.cell kY 1 rfl
        have yc2 := BlkV.cell kY 2 rfl
        rw [HG.out] at f3
        go_wp2_with fail
        clear hHeld
        refine hK.out _ _ ⟨by with_reducible assumption, by with_reducible assumption, by with_reducible assumption, by with_reducible assumption, by with_reducible assumption, by with_reducible assumption⟩ (fun hHeld => ?_)
        clear hK K
        try simp only [Act.put, List.setIfInBounds_toArray, List.set_cons_zero, List.set_cons_succ]
        refine wpAnyH_ready (rs := [21]) (by kernel_rfl) (by simp) ?_
        refine AllReadyH.cons rfl (fun K hK => ?_) AllReadyH.nil
        go_simp
        refine (refOf_any _ 1 (by omega)).mono ?_
        rintro e w14 ⟨v4, rfl, f4, hf14⟩
        replace hx := hx.fwd hf14
        replace hy := hy.fwd hf14
        replace hk := hk.fwd hf14
        replace rX := rX.fwd hf14
        replace f1 := f1.fwd hf14
        replace f2 := f2.fwd hf14
        replace rY := rY.fwd hf14
        replace nX := nX.fwd hf14
        replace dX := dX.fwd hf14
        replace f3 := f3.fwd hf14
        replace kX := kX.fwd hf14
        replace kY := kY.fwd hf14
        replace hF := hF.trans hf14
        clear hf14
        clear xc0 xc1 xc2
        have xc0 := BlkV.cell kX 0 rfl
        have xc1 := BlkV.cell kX 1 rfl
        have xc2 := BlkV.cell kX 2 rfl
        clear yc0 yc1 yc2
        have yc0 := BlkV.cell kY 0 rfl
        have yc1 := BlkV.cell kY 1 rfl
        have yc2 := BlkV.cell kY 2 rfl
        go_wp2_with fail
        clear hHeld
        refine hK.out _ _ ⟨by with_reducible assumption, by with_reducible assumption, by with_reducible assumption, by with_reducible assumption, by with_reducible assumption, by with_reducible assumption⟩ (fun hHeld => ?_)
        clear hK K
        try simp only [Act.put, List.setIfInBounds_toArray, List.set_cons_zero, List.set_cons_succ]
        refine wpAnyH_ready (rs := [22]) (by kernel_rfl) (by simp) ?_
        refine AllReadyH.cons rfl (fun K hK => ?_) AllReadyH.nil
        go_simp
        refine (refCmp_any f3 f4 (by omega) (by omega)).mono ?_
        rintro e w15 ⟨rfl, hf15⟩
        replace hx := hx.fwd hf15
        replace hy := hy.fwd hf15
        replace hk := hk.fwd hf15
        replace rX := rX.fwd hf15
        replace f1 := f1.fwd hf15
        replace f2 := f2.fwd hf15
        replace rY := rY.fwd hf15
        replace nX := nX.fwd hf15
        replace dX := dX.fwd hf15
        replace f3 := f3.fwd hf15
        replace f4 := f4.fwd hf15
        replace kX := kX.fwd hf15
        replace kY := kY.fwd hf15
        replace hF := hF.trans hf15
        clear hf15
        clear xc0 xc1 xc2
        have xc0 := BlkV.cell kX 0 rfl
        have xc1 := BlkV.cell kX 1 rfl
        have xc2 := BlkV.cell kX 2 rfl
        clear yc0 yc1 yc2
        have yc0 := BlkV.cell kY 0 rfl
        have yc1 := BlkV.cell kY 1 rfl
        have yc2 := BlkV.cell kY 2 rfl
        rw [cmpI_eq rfl]
        go_wp2_with fail
        clear hHeld
        refine hK.out _ _ ⟨by with_reducible assumption, by with_reducible assumption, by with_reducible assumption, by with_reducible assumption, by with_reducible assumption, by with_reducible assumption⟩ (fun hHeld => ?_)
        clear hK K
        try simp only [Act.put, List.setIfInBounds_toArray, List.set_cons_zero, List.set_cons_succ]
        refine wpAnyH_take (i := 23) (oi := ?oi59_23) (v := ?vv59_23) ?hi59_23 (by kernel_rfl) (by kernel_rfl) (by kernel_rfl) ?hq59_23 ?hy59_23 hHeld ?rest59_23
        case hi59_23 => (simp only [List.getElem?_toArray, List.getElem?_cons_succ, List.getElem?_cons_zero]; rfl)
        case hq59_23 => exact fun _ _ _ h => h
        case hy59_23 =>
          refine Or.inl ⟨by rfl, ?_⟩
          intro wS hSw
          try dsimp only at hSw
          obtain ⟨q0, q1, q2, q3, q4, q5⟩ := hSw
          go_simp
          try with_reducible rfl
        simp only [Act.put, List.setIfInBounds_toArray, List.set_cons_zero, List.set_cons_succ]
        refine wpAnyH_take (i := 24) (oi := ?oi60_24) (v := ?vv60_24) ?hi60_24 (by kernel_rfl) (by kernel_rfl) (by kernel_rfl) ?hq60_24 ?hy60_24 hHeld ?rest60_24
        case hi60_24 => (simp only [List.getElem?_toArray, List.getElem?_cons_succ, List.getElem?_cons_zero]; rfl)
        case hq60_24 => exact fun _ _ _ h => h
        case hy60_24 =>
          refine Or.inl ⟨by rfl, ?_⟩
          intro wS hSw
          try dsimp only at hSw
          obtain ⟨q0, q1, q2, q3, q4, q5⟩ := hSw
          go_simp
          try with_reducible rfl
        simp only [Act.put, List.setIfInBounds_toArray, List.set_cons_zero, List.set_cons_succ]
        refine wpAnyH_take (i := 25) (oi := ?oi61_25) (v := ?vv61_25) ?hi61_25 (by kernel_rfl) (by kernel_rfl) (by kernel_rfl) ?hq61_25 ?hy61_25 hHeld ?rest61_25
        case hi61_25 => (simp only [List.getElem?_toArray, List.getElem?_cons_succ, List.getElem?_cons_zero]; rfl)
        case hq61_25 => exact fun _ _ _ h => h
        case hy61_25 =>
          refine Or.inl ⟨by rfl, ?_⟩
          intro wS hSw
          try dsimp only at hSw
          obtain ⟨q0, q1, q2, q3, q4, q5⟩ := hSw
          go_simp
          try with_reducible rfl
        simp only [Act.put, List.setIfInBounds_toArray, List.set_cons_zero, List.set_cons_succ]
        refine wpAnyH_take (i := 26) (oi := ?oi62_26) (v := ?vv62_26) ?hi62_26 (by kernel_rfl) (by kernel_rfl) (by kernel_rfl) ?hq62_26 ?hy62_26 hHeld ?rest62_26
        case hi62_26 => (simp only [List.getElem?_toArray, List.getElem?_cons_succ, List.getElem?_cons_zero]; rfl)
        case hq62_26 => exact fun _ _ _ h => h
        case hy62_26 =>
          refine Or.inl ⟨by rfl, ?_⟩
          intro wS hSw
          try dsimp only at hSw
          obtain ⟨q0, q1, q2, q3, q4, q5⟩ := hSw
          go_simp
          try with_reducible rfl
        simp only [Act.put, List.setIfInBounds_toArray, List.set_cons_zero, List.set_cons_succ]
        refine wpAnyH_take (i := 27) (oi := ?oi63_27) (v := ?vv63_27) ?hi63_27 (by kernel_rfl) (by kernel_rfl) (by kernel_rfl) ?hq63_27 ?hy63_27 hHeld ?rest63_27
        case hi63_27 => (simp only [List.getElem?_toArray, List.getElem?_cons_succ, List.getElem?_cons_zero]; rfl)
        case hq63_27 => exact fun _ _ _ h => h
        case hy63_27 =>
          refine Or.inl ⟨by rfl, ?_⟩
          intro wS hSw
          try dsimp only at hSw
          obtain ⟨q0, q1, q2, q3, q4, q5⟩ := hSw
          go_simp
          try with_reducible rfl
        simp only [Act.put, List.setIfInBounds_toArray, List.set_cons_zero, List.set_cons_succ]
        refine wpAnyH_take (i := 28) (oi := ?oi64_28) (v := ?vv64_28) ?hi64_28 (by kernel_rfl) (by kernel_rfl) (by kernel_rfl) ?hq64_28 ?hy64_28 hHeld ?rest64_28
        case hi64_28 => (simp only [List.getElem?_toArray, List.getElem?_cons_succ, List.getElem?_cons_zero]; rfl)
        case hq64_28 => exact fun _ _ _ h => h
        case hy64_28 =>
          refine Or.inl ⟨by rfl, ?_⟩
          intro wS hSw
          try dsimp only at hSw
          obtain ⟨q0, q1, q2, q3, q4, q5⟩ := hSw
          go_simp
          try with_reducible rfl
        simp only [Act.put, List.setIfInBounds_toArray, List.set_cons_zero, List.set_cons_succ]
        refine wpAnyH_take (i := 30) (oi := ?oi65_30) (v := ?vv65_30) ?hi65_30 (by kernel_rfl) (by kernel_rfl) (by kernel_rfl) ?hq65_30 ?hy65_30 hHeld ?rest65_30
        case hi65_30 => (simp only [List.getElem?_toArray, List.getElem?_cons_succ, List.getElem?_cons_zero]; rfl)
        case hq65_30 => exact fun _ _ _ h => h
        case hy65_30 =>
          refine Or.inl ⟨by rfl, ?_⟩
          intro wS hSw
          try dsimp only at hSw
          obtain ⟨q0, q1, q2, q3, q4, q5⟩ := hSw
          go_simp
          try with_reducible rfl
        simp only [Act.put, List.setIfInBounds_toArray, List.set_cons_zero, List.set_cons_succ]
        refine wpAnyH_take (i := 31) (oi := ?oi66_31) (v := ?vv66_31) ?hi66_31 (by kernel_rfl) (by kernel_rfl) (by kernel_rfl) ?hq66_31 ?hy66_31 hHeld ?rest66_31
        case hi66_31 => (simp only [List.getElem?_toArray, List.getElem?_cons_succ, List.getElem?_cons_zero]; rfl)
        case hq66_31 => exact fun _ _ _ h => h
        case hy66_31 =>
          refine Or.inl ⟨by rfl, ?_⟩
          intro wS hSw
          try dsimp only at hSw
          obtain ⟨q0, q1, q2, q3, q4, q5⟩ := hSw
          go_simp
          try with_reducible rfl
        simp only [Act.put, List.setIfInBounds_toArray, List.set_cons_zero, List.set_cons_succ]
        refine wpAnyH_take (i := 32) (oi := ?oi67_32) (v := ?vv67_32) ?hi67_32 (by kernel_rfl) (by kernel_rfl) (by kernel_rfl) ?hq67_32 ?hy67_32 hHeld ?rest67_32
        case hi67_32 => (simp only [List.getElem?_toArray, List.getElem?_cons_succ, List.getElem?_cons_zero]; rfl)
        case hq67_32 => exact fun _ _ _ h => h
        case hy67_32 =>
          refine Or.inl ⟨by rfl, ?_⟩
          intro wS hSw
          try dsimp only at hSw
          obtain ⟨q0, q1, q2, q3, q4, q5⟩ := hSw
          go_simp
          try with_reducible rfl
        simp only [Act.put, List.setIfInBounds_toArray, List.set_cons_zero, List.set_cons_succ]
        refine wpAnyH_ready (rs := [29]) (by kernel_rfl) (by simp) ?_
        refine AllReadyH.cons rfl (fun K hK => ?_) AllReadyH.nil
        go_simp
        refine (refMul_any nX hy (by omega) (by omega)).mono ?_
        rintro e w16 ⟨v5, rfl, f5, hf16⟩
        replace hx := hx.fwd hf16
        replace hy := hy.fwd hf16
        replace hk := hk.fwd hf16
        replace rX := rX.fwd hf16
        replace f1 := f1.fwd hf16
        replace f2 := f2.fwd hf16
        replace rY := rY.fwd hf16
        replace nX := nX.fwd hf16
        replace dX := dX.fwd hf16
        replace f3 := f3.fwd hf16
        replace f4 := f4.fwd hf16
        replace kX := kX.fwd hf16
        replace kY := kY.fwd hf16
        replace hF := hF.trans hf16
        clear hf16
        clear xc0 xc1 xc2
        have xc0 := BlkV.cell kX 0 rfl
        have xc1 := BlkV.cell kX 1 rfl
        have xc2 := BlkV.cell kX 2 rfl
        clear yc0 yc1 yc2
        have yc0 := BlkV.cell kY 0 rfl
        have yc1 := BlkV.cell kY 1 rfl
        have yc2 := BlkV.cell kY 2 rfl
        rw [HC.out] at f5
        go_wp2_with fail
        clear hHeld
        refine hK.out _ _ ⟨by with_reducible assumption, by with_reducible assumption, by with_reducible assumption, by with_reducible assumption, by with_reducible assumption, by with_reducible assumption⟩ (fun hHeld => ?_)
        clear hK K
        try simp only [Act.put, List.setIfInBounds_toArray, List.set_cons_zero, List.set_cons_succ]
        refine wpAnyH_ready (rs := [33]) (by kernel_rfl) (by simp) ?_
        refine AllReadyH.cons rfl (fun K hK => ?_) AllReadyH.nil
        go_simp
        refine (refMul_any hx dX (by omega) (by omega)).mono ?_
        rintro e w17 ⟨v6, rfl, f6, hf17⟩
        replace hx := hx.fwd hf17
        replace hy := hy.fwd hf17
        replace hk := hk.fwd hf17
        replace rX := rX.fwd hf17
        replace f1 := f1.fwd hf17
        replace f2 := f2.fwd hf17
        replace rY := rY.fwd hf17
        replace nX := nX.fwd hf17
        replace dX := dX.fwd hf17
        replace f3 := f3.fwd hf17
        replace f4 := f4.fwd hf17
        replace f5 := f5.fwd hf17
        replace kX := kX.fwd hf17
        replace kY := kY.fwd hf17
        replace hF := hF.trans hf17
        clear hf17
        clear xc0 xc1 xc2
        have xc0 := BlkV.cell kX 0 rfl
        have xc1 := BlkV.cell kX 1 rfl
        have xc2 := BlkV.cell kX 2 rfl
        clear yc0 yc1 yc2
        have yc0 := BlkV.cell kY 0 rfl
        have yc1 := BlkV.cell kY 1 rfl
        have yc2 := BlkV.cell kY 2 rfl
        go_wp2_with fail
        clear hHeld
        refine hK.out _ _ ⟨by with_reducible assumption, by with_reducible assumption, by with_reducible assumption, by with_reducible assumption, by with_reducible assumption, by with_reducible assumption⟩ (fun hHeld => ?_)
        clear hK K
        try simp only [Act.put, List.setIfInBounds_toArray, List.set_cons_zero, List.set_cons_succ]
        refine wpAnyH_ready (rs := [34]) (by kernel_rfl) (by simp) ?_
        refine AllReadyH.cons rfl (fun K hK => ?_) AllReadyH.nil
        go_simp
        refine (refCmp_any f5 f6 (by omega) (by omega)).mono ?_
        rintro e w18 ⟨rfl, hf18⟩
        replace hx := hx.fwd hf18
        replace hy := hy.fwd hf18
        replace hk := hk.fwd hf18
        replace rX := rX.fwd hf18
        replace f1 := f1.fwd hf18
        replace f2 := f2.fwd hf18
        replace rY := rY.fwd hf18
        replace nX := nX.fwd hf18
        replace dX := dX.fwd hf18
        replace f3 := f3.fwd hf18
        replace f4 := f4.fwd hf18
        replace f5 := f5.fwd hf18
        replace f6 := f6.fwd hf18
        replace kX := kX.fwd hf18
        replace kY := kY.fwd hf18
        replace hF := hF.trans hf18
        clear hf18
        clear xc0 xc1 xc2
        have xc0 := BlkV.cell kX 0 rfl
        have xc1 := BlkV.cell kX 1 rfl
        have xc2 := BlkV.cell kX 2 rfl
        clear yc0 yc1 yc2
        have yc0 := BlkV.cell kY 0 rfl
        have yc1 := BlkV.cell kY 1 rfl
        have yc2 := BlkV.cell kY 2 rfl
        rw [cmpI_eq rfl]
        go_wp2_with fail
        clear hHeld
        refine hK.out _ _ ⟨by with_reducible assumption, by with_reducible assumption, by with_reducible assumption, by with_reducible assumption, by with_reducible assumption, by with_reducible assumption⟩ (fun hHeld => ?_)
        clear hK K
        try simp only [Act.put, List.setIfInBounds_toArray, List.set_cons_zero, List.set_cons_succ]
        refine wpAnyH_take (i := 35) (oi := ?oi68_35) (v := ?vv68_35) ?hi68_35 (by kernel_rfl) (by kernel_rfl) (by kernel_rfl) ?hq68_35 ?hy68_35 hHeld ?rest68_35
        case hi68_35 => (simp only [List.getElem?_toArray, List.getElem?_cons_succ, List.getElem?_cons_zero]; rfl)
        case hq68_35 => exact fun _ _ _ h => h
        case hy68_35 =>
          refine Or.inl ⟨by rfl, ?_⟩
          intro wS hSw
          try dsimp only at hSw
          obtain ⟨q0, q1, q2, q3, q4, q5⟩ := hSw
          go_simp
          try with_reducible rfl
        simp only [Act.put, List.setIfInBounds_toArray, List.set_cons_zero, List.set_cons_succ]
        refine wpAnyH_take (i := 36) (oi := ?oi69_36) (v := ?vv69_36) ?hi69_36 (by kernel_rfl) (by kernel_rfl) (by kernel_rfl) ?hq69_36 ?hy69_36 hHeld ?rest69_36
        case hi69_36 => (simp only [List.getElem?_toArray, List.getElem?_cons_succ, List.getElem?_cons_zero]; rfl)
        case hq69_36 => exact fun _ _ _ h => h
        case hy69_36 =>
          refine Or.inl ⟨by rfl, ?_⟩
          intro wS hSw
          try dsimp only at hSw
          obtain ⟨q0, q1, q2, q3, q4, q5⟩ := hSw
          go_simp
          try with_reducible rfl
        simp only [Act.put, List.setIfInBounds_toArray, List.set_cons_zero, List.set_cons_succ]
        refine wpAnyH_take (i := 37) (oi := ?oi70_37) (v := ?vv70_37) ?hi70_37 (by kernel_rfl) (by kernel_rfl) (by kernel_rfl) ?hq70_37 ?hy70_37 hHeld ?rest70_37
        case hi70_37 => (simp only [List.getElem?_toArray, List.getElem?_cons_succ, List.getElem?_cons_zero]; rfl)
        case hq70_37 => exact fun _ _ _ h => h
        case hy70_37 =>
          refine Or.inl ⟨by rfl, ?_⟩
          intro wS hSw
          try dsimp only at hSw
          obtain ⟨q0, q1, q2, q3, q4, q5⟩ := hSw
          go_simp
          try with_reducible rfl
        simp only [Act.put, List.setIfInBounds_toArray, List.set_cons_zero, List.set_cons_succ]
        refine wpAnyH_take (i := 38) (oi := ?oi71_38) (v := ?vv71_38) ?hi71_38 (by kernel_rfl) (by kernel_rfl) (by kernel_rfl) ?hq71_38 ?hy71_38 hHeld ?rest71_38
        case hi71_38 => (simp only [List.getElem?_toArray, List.getElem?_cons_succ, List.getElem?_cons_zero]; rfl)
        case hq71_38 => exact fun _ _ _ h => h
        case hy71_38 =>
          refine Or.inl ⟨by rfl, ?_⟩
          intro wS hSw
          try dsimp only at hSw
          obtain ⟨q0, q1, q2, q3, q4, q5⟩ := hSw
          go_simp
          try with_reducible rfl
        simp only [Act.put, List.setIfInBounds_toArray, List.set_cons_zero, List.set_cons_succ]
        refine wpAnyH_take (i := 39) (oi := ?oi72_39) (v := ?vv72_39) ?hi72_39 (by kernel_rfl) (by kernel_rfl) (by kernel_rfl) ?hq72_39 ?hy72_39 hHeld ?rest72_39
        case hi72_39 => (simp only [List.getElem?_toArray, List.getElem?_cons_succ, List.getElem?_cons_zero]; rfl)
        case hq72_39 => exact fun _ _ _ h => h
        case hy72_39 =>
          refine Or.inl ⟨by rfl, ?_⟩
          intro wS hSw
          try dsimp only at hSw
          obtain ⟨q0, q1, q2, q3, q4, q5⟩ := hSw
          go_simp
          try with_reducible rfl
        simp only [Act.put, List.setIfInBounds_toArray, List.set_cons_zero, List.set_cons_succ]
        refine wpAnyH_take (i := 40) (oi := ?oi73_40) (v := ?vv73_40) ?hi73_40 (by kernel_rfl) (by kernel_rfl) (by kernel_rfl) ?hq73_40 ?hy73_40 hHeld ?rest73_40
        case hi73_40 => (simp only [List.getElem?_toArray, List.getElem?_cons_succ, List.getElem?_cons_zero]; rfl)
        case hq73_40 => exact fun _ _ _ h => h
        case hy73_40 =>
          refine Or.inl ⟨by rfl, ?_⟩
          intro wS hSw
          try dsimp only at hSw
          obtain ⟨q0, q1, q2, q3, q4, q5⟩ := hSw
          go_simp
          try with_reducible rfl
        simp only [Act.put, List.setIfInBounds_toArray, List.set_cons_zero, List.set_cons_succ]
        refine wpAnyH_take (i := 41) (oi := ?oi74_41) (v := ?vv74_41) ?hi74_41 (by kernel_rfl) (by kernel_rfl) (by kernel_rfl) ?hq74_41 ?hy74_41 hHeld ?rest74_41
        case hi74_41 => (simp only [List.getElem?_toArray, List.getElem?_cons_succ, List.getElem?_cons_zero]; rfl)
        case hq74_41 => exact fun _ _ _ h => h
        case hy74_41 =>
          refine Or.inl ⟨by rfl, ?_⟩
          intro wS hSw
          try dsimp only at hSw
          obtain ⟨q0, q1, q2, q3, q4, q5⟩ := hSw
          go_simp
          try with_reducible rfl
        simp only [Act.put, List.setIfInBounds_toArray, List.set_cons_zero, List.set_cons_succ]
        refine wpAnyH_take (i := 42) (oi := ?oi75_42) (v := undef) ?hi75_42 (by kernel_rfl) (by kernel_rfl) (by kernel_rfl) ?hq75_42 ?hy75_42 hHeld ?rest75_42
        case hi75_42 => (simp only [List.getElem?_toArray, List.getElem?_cons_succ, List.getElem?_cons_zero]; rfl)
        case hq75_42 => exact fun _ _ _ h => h
        case hy75_42 => exact Or.inr ⟨by rfl, rfl⟩
        simp only [Act.put, List.setIfInBounds_toArray, List.set_cons_zero, List.set_cons_succ]
        refine wpAnyH_take (i := 43) (oi := ?oi76_43) (v := undef) ?hi76_43 (by kernel_rfl) (by kernel_rfl) (by kernel_rfl) ?hq76_43 ?hy76_43 hHeld ?rest76_43
        case hi76_43 => (simp only [List.getElem?_toArray, List.getElem?_cons_succ, List.getElem?_cons_zero]; rfl)
        case hq76_43 => exact fun _ _ _ h => h
        case hy76_43 => exact Or.inr ⟨by rfl, rfl⟩
        simp only [Act.put, List.setIfInBounds_toArray, List.set_cons_zero, List.set_cons_succ]
        refine wpAnyH_take (i := 44) (oi := ?oi77_44) (v := undef) ?hi77_44 (by kernel_rfl) (by kernel_rfl) (by kernel_rfl) ?hq77_44 ?hy77_44 hHeld ?rest77_44
        case hi77_44 => (simp only [List.getElem?_toArray, List.getElem?_cons_succ, List.getElem?_cons_zero]; rfl)
        case hq77_44 => exact fun _ _ _ h => h
        case hy77_44 => exact Or.inr ⟨by rfl, rfl⟩
        simp only [Act.put, List.setIfInBounds_toArray, List.set_cons_zero, List.set_cons_succ]
        refine wpAnyH_take (i := 45) (oi := ?oi78_45) (v := ?vv78_45) ?hi78_45 (by kernel_rfl) (by kernel_rfl) (by kernel_rfl) ?hq78_45 ?hy78_45 hHeld ?rest78_45
        case hi78_45 => (simp only [List.getElem?_toArray, List.getElem?_cons_succ, List.getElem?_cons_zero]; rfl)
        case hq78_45 => exact fun _ _ _ h => h
        case hy78_45 =>
          refine Or.inl ⟨by rfl, ?_⟩
          intro wS hSw
          try dsimp only at hSw
          obtain ⟨q0, q1, q2, q3, q4, q5⟩ := hSw
          go_simp
          try with_reducible rfl
        simp only [Act.put, List.setIfInBounds_toArray, List.set_cons_zero, List.set_cons_succ]
        refine wpAnyH_take (i := 46) (oi := ?oi79_46) (v := ?vv79_46) ?hi79_46 (by kernel_rfl) (by kernel_rfl) (by kernel_rfl) ?hq79_46 ?hy79_46 hHeld ?rest79_46
        case hi79_46 => (simp only [List.getElem?_toArray, List.getElem?_cons_succ, List.getElem?_cons_zero]; rfl)
        case hq79_46 => exact fun _ _ _ h => h
        case hy79_46 =>
          refine Or.inl ⟨by rfl, ?_⟩
          intro wS hSw
          try dsimp only at hSw
          obtain ⟨q0, q1, q2, q3, q4, q5⟩ := hSw
          go_simp
          try with_reducible rfl
        simp only [Act.put, List.setIfInBounds_toArray, List.set_cons_zero, List.set_cons_succ]
        refine wpAnyH_take (i := 47) (oi := ?oi80_47) (v := ?vv80_47) ?hi80_47 (by kernel_rfl) (by kernel_rfl) (by kernel_rfl) ?hq80_47 ?hy80_47 hHeld ?rest80_47
        case hi80_47 => (simp only [List.getElem?_toArray, List.getElem?_cons_succ, List.getElem?_cons_zero]; rfl)
        case hq80_47 => exact fun _ _ _ h => h
        case hy80_47 =>
          refine Or.inl ⟨by rfl, ?_⟩
          intro wS hSw
          try dsimp only at hSw
          obtain ⟨q0, q1, q2, q3, q4, q5⟩ := hSw
          go_simp
          try with_reducible rfl
        simp only [Act.put, List.setIfInBounds_toArray, List.set_cons_zero, List.set_cons_succ]
        refine wpAnyH_done (by kernel_rfl) ?_ _
        go_wp2_with fail
        go_ret
        exact ⟨rfl, hF⟩

end Go.Proofs.YtjkoiocemolcbabDoor
