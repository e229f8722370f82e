/- RatEnds: the whole numbers at the ends are told as they are, above and below: the law's walk. -/
import Derived.Test.YtjkoiocemolcbabDoorXQ9
import Derived.Test.YtjkoiocemolcbabDoorXU2
import Derived.Test.YtjkoiocemolcbabDoorXP11
import Derived.Test.YtjkoiocemolcbabDoorXU1
import Derived.Test.YtjkoiocemolcbabDoorXV1
import Derived.Test.YtjkoiocemolcbabDoorXP8
import Derived.Test.YtjkoiocemolcbabDoorXP10
import Derived.Test.YtjkoiocemolcbabDoorXP12
namespace Go.Proofs.YtjkoiocemolcbabDoor
open Go.RowKit
set_option linter.unusedVariables false
set_option linter.unusedSimpArgs false

theorem mkRat_selfN {n : Nat} (h : n ≠ 0) : mkRat (n : Int) n = ((1 : Int) : Rat) := by
  have := Rat.mkRat_mul_right (n := 1) (d := 1) h
  rw [Int.one_mul, Nat.one_mul] at this
  rw [this]
  rfl
theorem inv_int {x : Int} (h : x ≠ 0) : (x : Rat) * mkQ (!(decide ((1 : Int) < 0) == decide (x < 0))) (1 : Int).natAbs x.natAbs = ((1 : Int) : Rat) := by
  have hx : x.natAbs ≠ 0 := by omega
  have e0 : (x : Rat) = mkQ (decide (x < 0)) x.natAbs 1 := by
    rw [← mkQ_int]
    congr 1
    cases decide (x < 0) <;> rfl
  have h1 : (!(decide ((1 : Int) < 0) == decide (x < 0))) = decide (x < 0) := by cases decide (x < 0) <;> rfl
  rw [h1, e0]
  unfold mkQ
  rw [Rat.mkRat_mul_mkRat, sgn_mul]
  have h2 : (decide (x < 0) != decide (x < 0)) = false := by simp
  rw [h2]
  show mkRat ((x.natAbs * 1 : Nat) : Int) (1 * x.natAbs) = _
  rw [Nat.mul_one, Nat.one_mul, mkRat_selfN hx]
theorem same_over {n : Nat} {b : Bool} (h : n ≠ 0) : mkQ (!(b == b)) n n = ((1 : Int) : Rat) := by
  have h2 : (!(b == b)) = false := by simp
  rw [h2]
  unfold mkQ
  show mkRat (n : Int) n = _
  rw [mkRat_selfN h]
theorem textR_least : textR (negQ (mkQ (!(decide ((-9223372036854775808 : Int) < 0) == decide ((-1 : Int) < 0))) (-9223372036854775808 : Int).natAbs (-1 : Int).natAbs)) (mkQ (!(decide ((-9223372036854775808 : Int) < 0) == decide ((-1 : Int) < 0))) (-9223372036854775808 : Int).natAbs (-1 : Int).natAbs).num.natAbs (mkQ (!(decide ((-9223372036854775808 : Int) < 0) == decide ((-1 : Int) < 0))) (-9223372036854775808 : Int).natAbs (-1 : Int).natAbs).den = ⟨#[57, 50, 50, 51, 51, 55, 50, 48, 51, 54, 56, 53, 52, 55, 55, 53, 56, 48, 56]⟩ := by
  rw [mkQ_sign (by decide), mkQ_abs (by decide), mkQ_den (by decide)]
  decide +kernel

set_option maxHeartbeats 40000000 in
set_option maxRecDepth 20000 in
theorem ratEnds_walk {w : World} {n m : Int} (hn : (Lit.int .i64 n).wf = true) (hm : (Lit.int .i64 m).wf = true) :
    Calls Tryd.prog 5 #[.int .i64 n, .int .i64 m] w fun e w' => e = .returned (.bool true) ∧ Below w.heap.size w w' := by
  obtain ⟨n1, n2⟩ := bounds_i64 hn
  obtain ⟨m1, m2⟩ := bounds_i64 hm
  clear hn hm
  have hF : Fwd w w := Fwd.refl w
  go_enter Tryd.func5, Tryd.ntmps5
  go_wp2_with fail
  refine (known2_any _).mono ?_
  rintro e w1 ⟨rfl, hf1⟩
  replace hF := hF.trans hf1
  clear hf1
  have hfB : Fwd w1 (w1.alloc (.cells #[.int .i64 (-9223372036854775808), .int .i64 9223372036854775807, .int .i64 n, .int .i64 (-1)] 3)) := (Fwd.refl _).alloc _
  have kL := BlkV.made w1 3 [.int .i64 (-9223372036854775808), .int .i64 9223372036854775807, .int .i64 n, .int .i64 (-1)]
  replace hF := hF.trans hfB
  clear hfB
  go_wp2_with fail
  refine (within2_any _ m 4 (by omega) (by omega) m1 m2).mono ?_
  rintro e wq ⟨k, hk, rfl, rfl⟩
  generalize (w1.alloc (.cells #[.int .i64 (-9223372036854775808), .int .i64 9223372036854775807, .int .i64 n, .int .i64 (-1)] 3)) = w2 at kL hF ⊢
  obtain ⟨x, hxc, x1, x2⟩ : ∃ x : Int, [Value.int .i64 (-9223372036854775808), Value.int .i64 9223372036854775807, Value.int .i64 n, Value.int .i64 (-1)][k]? = some (Value.int .i64 x) ∧ -9223372036854775808 ≤ x ∧ x ≤ 9223372036854775807 := by
    have hk4 : k = 0 ∨ k = 1 ∨ k = 2 ∨ k = 3 := by omega
    rcases hk4 with rfl | rfl | rfl | rfl
    · exact ⟨_, rfl, by omega, by omega⟩
    · exact ⟨_, rfl, by omega, by omega⟩
    · exact ⟨_, rfl, n1, n2⟩
    · exact ⟨_, rfl, by omega, by omega⟩
  have hcell := BlkV.cell kL k hxc
  have hk1 : (0 : Int) ≤ (k : Int) := by omega
  have hk2 : (k : Int) < 4 := by omega
  have hk3 : (k : Int) ≤ 4 := by omega
  clear kL hxc
  go_upto_region 4 with fail
  have bA : nr ((x : Int) : Rat) ≤ 2 := by rw [← mkQ_int]; refine Nat.le_trans (nr_mkQ _ _ _ (by decide)) ?_; have e1 : nl x.natAbs ≤ 2 := nl_le_two.2 (by omega); have e2 : nl (1 : Int).natAbs ≤ 1 := nl_one (by decide); omega
  obtain ⟨qA, hqA⟩ : ∃ q, q = ((x : Int) : Rat) := ⟨_, rfl⟩
  rw [← hqA] at bA
  have HQA : Hid (mkQ (!(decide (x < 0) == decide ((1 : Int) < 0))) x.natAbs (1 : Int).natAbs = qA) := hid (by rw [mkQ_int, hqA])
  have HA := hid hqA
  clear hqA
  by_cases hx0 : x = 0
  · subst hx0
    have HNA : Hid (negQ qA = false) := hid (by rw [HA.out]; decide +kernel)
    have HL : Hid (nl qA.num.natAbs = 0) := hid (by rw [HA.out]; decide +kernel)
    go_wp2_with fail
    refine (rof_any _ 0 1 (by omega) (by omega) (by omega) (by omega) (by omega)).mono ?_
    rintro e w3 ⟨v, rfl, rA, hf3⟩
    replace hF := hF.trans hf3
    clear hf3
    rw [HQA.out] at rA
    have HV := hid rA
    obtain ⟨poA, pcA, qoA, qcA, rfl, p1A, p2A, p3A, p4A, -, -⟩ := RW.open rA.rw'
    clear rA
    have rA := HV.out
    clear HV
    rw [HNA.out] at rA ⊢
    rw [HL.out] at rA p1A ⊢
    have hfB : Fwd w3 (w3.alloc (.cells #[.bool false, .slice poA 0 pcA, .slice qoA (nl qA.den) qcA] 27)) := (Fwd.refl _).alloc _
    replace rA := rA.fwd hfB
    replace hF := hF.trans hfB
    clear hfB
    have kA := BlkV.made w3 27 [.bool false, .slice poA 0 pcA, .slice qoA (nl qA.den) qcA]
    go_upto_region 5 with fail
    generalize (w3.alloc (.cells #[.bool false, .slice poA 0 pcA, .slice qoA (nl qA.den) qcA] 27)) = w4 at kA rA hF ⊢
    have ac0 := BlkV.cell kA 0 rfl
    have ac1 := BlkV.cell kA 1 rfl
    have ac2 := BlkV.cell kA 2 rfl
    go_wp2_with fail
    refine (rof_zero _ 1 (by omega) (by omega)).mono ?_
    rintro e w5 ⟨rfl, hf5⟩
    replace rA := rA.fwd hf5
    replace kA := kA.fwd hf5
    replace hF := hF.trans hf5
    clear hf5
    clear ac0 ac1 ac2
    have ac0 := BlkV.cell kA 0 rfl
    have ac1 := BlkV.cell kA 1 rfl
    have ac2 := BlkV.cell kA 2 rfl
    unfold ratZero
    have ltA5 := BlkV.lt kA
    have hfB : Fwd w5 (w5.alloc (.cells #[.bool false, .slice none 0 0, .slice none 0 0] 27)) := (Fwd.refl _).alloc _
    replace rA := rA.fwd hfB
    replace kA := kA.fwd hfB
    replace hF := hF.trans hfB
    clear hfB
    clear ac0 ac1 ac2
    have ac0 := BlkV.cell kA 0 rfl
    have ac1 := BlkV.cell kA 1 rfl
    have ac2 := BlkV.cell kA 2 rfl
    have kB := BlkV.made w5 27 [.bool false, .slice none 0 0, .slice none 0 0]
    go_upto_region 6 with fail
    generalize (w5.alloc (.cells #[.bool false, .slice none 0 0, .slice none 0 0] 27)) = w6 at kB rA kA hF ⊢
    clear ac0 ac1 ac2
    have ac0 := BlkV.cell kA 0 rfl
    have ac1 := BlkV.cell kA 1 rfl
    have ac2 := BlkV.cell kA 2 rfl
    have bc0 := BlkV.cell kB 0 rfl
    have bc1 := BlkV.cell kB 1 rfl
    have bc2 := BlkV.cell kB 2 rfl
    go_wp2_with fail
    go_ret
    exact ⟨rfl, hF⟩
  · by_cases hneg : x < 0
    · have hx0b : (x == 0) = false := by simpa using hx0
      have hlt : x < 0 := by omega
      have HX0 := hid hx0
      clear hx0
      have HNA : Hid (negQ qA = true) := hid (by rw [HA.out]; unfold negQ; rw [Rat.num_intCast]; simp; omega)
      obtain ⟨qB, hqB⟩ : ∃ q, q = mkQ (!(decide ((1 : Int) < 0) == decide (x < 0))) (1 : Int).natAbs x.natAbs := ⟨_, rfl⟩
      have hxn : x.natAbs ≠ 0 := by have := HX0.out; omega
      have HNB : Hid (negQ qB = true) := hid (by rw [hqB, mkQ_neg hxn (by decide)]; simp [hlt])
      have bB : nr qB ≤ 2 := by rw [hqB]; refine Nat.le_trans (nr_mkQ _ _ _ hxn) ?_; have e1 : nl x.natAbs ≤ 2 := nl_le_two.2 (by omega); have e2 : nl (1 : Int).natAbs ≤ 1 := nl_one (by decide); omega
      have HMB : Hid (qA * qB = ((1 : Int) : Rat)) := hid (by rw [HA.out, hqB]; exact inv_int HX0.out)
      have HB := hid hqB
      clear hqB
      obtain ⟨qC, hqC⟩ : ∃ q, q = mkQ (!(decide (x < 0) == decide (x < 0))) x.natAbs x.natAbs := ⟨_, rfl⟩
      have HC1 : Hid (qC = ((1 : Int) : Rat)) := hid (by rw [hqC]; exact same_over hxn)
      have bC : nr qC ≤ 1 := by rw [HC1.out]; decide +kernel
      have HC := hid hqC
      clear hqC hxn
      obtain ⟨qD, hqD⟩ : ∃ q, q = mkQ (!(decide ((-9223372036854775808 : Int) < 0) == decide ((-1 : Int) < 0))) (-9223372036854775808 : Int).natAbs (-1 : Int).natAbs := ⟨_, rfl⟩
      have HTD : Hid (textR (negQ qD) qD.num.natAbs qD.den = ⟨#[57, 50, 50, 51, 51, 55, 50, 48, 51, 54, 56, 53, 52, 55, 55, 53, 56, 48, 56]⟩) := hid (by rw [hqD]; exact textR_least)
      have bD : nr qD ≤ 2 := by rw [hqD]; decide +kernel
      have HD := hid hqD
      clear hqD
      have b1 : nr ((1 : Int) : Rat) ≤ 1 := by decide +kernel
      have bM := nr_mul qA qB
      have bDn := (nr_le bD).1
      have bDd := (nr_le bD).2
      go_wp2_with fail
      refine (rof_any _ x 1 x1 x2 (by omega) (by omega) (by omega)).mono ?_
      rintro e w3 ⟨v, rfl, rA, hf3⟩
      replace hF := hF.trans hf3
      clear hf3
      rw [HQA.out] at rA
      have HV := hid rA
      obtain ⟨poA, pcA, qoA, qcA, rfl, p1A, p2A, p3A, p4A, -, -⟩ := RW.open rA.rw'
      clear rA
      have rA := HV.out
      clear HV
      rw [HNA.out] at rA ⊢
      have hfB : Fwd w3 (w3.alloc (.cells #[.bool true, .slice poA (nl qA.num.natAbs) pcA, .slice qoA (nl qA.den) qcA] 27)) := (Fwd.refl _).alloc _
      replace rA := rA.fwd hfB
      replace hF := hF.trans hfB
      clear hfB
      have kA := BlkV.made w3 27 [.bool true, .slice poA (nl qA.num.natAbs) pcA, .slice qoA (nl qA.den) qcA]
      go_upto_region 5 with fail
      generalize (w3.alloc (.cells #[.bool true, .slice poA (nl qA.num.natAbs) pcA, .slice qoA (nl qA.den) qcA] 27)) = w4 at kA rA hF ⊢
      have ac0 := BlkV.cell kA 0 rfl
      have ac1 := BlkV.cell kA 1 rfl
      have ac2 := BlkV.cell kA 2 rfl
      go_wp2_with fail
      refine (rof_any _ 1 x (by omega) (by omega) x1 x2 HX0.out).mono ?_
      rintro e w5 ⟨v, rfl, rB, hf5⟩
      replace rA := rA.fwd hf5
      replace kA := kA.fwd hf5
      replace hF := hF.trans hf5
      clear hf5
      clear ac0 ac1 ac2
      have ac0 := BlkV.cell kA 0 rfl
      have ac1 := BlkV.cell kA 1 rfl
      have ac2 := BlkV.cell kA 2 rfl
      rw [← HB.out] at rB
      have HV := hid rB
      obtain ⟨poB, pcB, qoB, qcB, rfl, p1B, p2B, p3B, p4B, -, -⟩ := RW.open rB.rw'
      clear rB
      have rB := HV.out
      clear HV
      rw [HNB.out] at rB ⊢
      have ltA5 := BlkV.lt kA
      have hfB : Fwd w5 (w5.alloc (.cells #[.bool true, .slice poB (nl qB.num.natAbs) pcB, .slice qoB (nl qB.den) qcB] 27)) := (Fwd.refl _).alloc _
      replace rA := rA.fwd hfB
      replace rB := rB.fwd hfB
      replace kA := kA.fwd hfB
      replace hF := hF.trans hfB
      clear hfB
      clear ac0 ac1 ac2
      have ac0 := BlkV.cell kA 0 rfl
      have ac1 := BlkV.cell kA 1 rfl
      have ac2 := BlkV.cell kA 2 rfl
      have kB := BlkV.made w5 27 [.bool true, .slice poB (nl qB.num.natAbs) pcB, .slice qoB (nl qB.den) qcB]
      go_upto_region 6 with fail
      generalize (w5.alloc (.cells #[.bool true, .slice poB (nl qB.num.natAbs) pcB, .slice qoB (nl qB.den) qcB] 27)) = w6 at kB rA rB kA hF ⊢
      clear ac0 ac1 ac2
      have ac0 := BlkV.cell kA 0 rfl
      have ac1 := BlkV.cell kA 1 rfl
      have ac2 := BlkV.cell kA 2 rfl
      have bc0 := BlkV.cell kB 0 rfl
      have bc1 := BlkV.cell kB 1 rfl
      have bc2 := BlkV.cell kB 2 rfl
      go_wp2_with fail
      refine (rof_any _ x x x1 x2 x1 x2 HX0.out).mono ?_
      rintro e w7 ⟨v, rfl, rC, hf7⟩
      replace rA := rA.fwd hf7
      replace rB := rB.fwd hf7
      replace kA := kA.fwd hf7
      replace kB := kB.fwd hf7
      replace hF := hF.trans hf7
      clear hf7
      clear ac0 ac1 ac2
      have ac0 := BlkV.cell kA 0 rfl
      have ac1 := BlkV.cell kA 1 rfl
      have ac2 := BlkV.cell kA 2 rfl
      clear bc0 bc1 bc2
      have bc0 := BlkV.cell kB 0 rfl
      have bc1 := BlkV.cell kB 1 rfl
      have bc2 := BlkV.cell kB 2 rfl
      rw [← HC.out] at rC
      have HV := hid rC
      obtain ⟨poC, pcC, qoC, qcC, rfl, p1C, p2C, p3C, p4C, -, -⟩ := RW.open rC.rw'
      clear rC
      have rC := HV.out
      clear HV
      have ltA7 := BlkV.lt kA
      have ltB7 := BlkV.lt kB
      have hfB : Fwd w7 (w7.alloc (.cells #[.bool (negQ qC), .slice poC (nl qC.num.natAbs) pcC, .slice qoC (nl qC.den) qcC] 27)) := (Fwd.refl _).alloc _
      replace rA := rA.fwd hfB
      replace rB := rB.fwd hfB
      replace rC := rC.fwd hfB
      replace kA := kA.fwd hfB
      replace kB := kB.fwd hfB
      replace hF := hF.trans hfB
      clear hfB
      clear ac0 ac1 ac2
      have ac0 := BlkV.cell kA 0 rfl
      have ac1 := BlkV.cell kA 1 rfl
      have ac2 := BlkV.cell kA 2 rfl
      clear bc0 bc1 bc2
      have bc0 := BlkV.cell kB 0 rfl
      have bc1 := BlkV.cell kB 1 rfl
      have bc2 := BlkV.cell kB 2 rfl
      have kC := BlkV.made w7 27 [.bool (negQ qC), .slice poC (nl qC.num.natAbs) pcC, .slice qoC (nl qC.den) qcC]
      go_upto_region 9 with fail
      generalize (w7.alloc (.cells #[.bool (negQ qC), .slice poC (nl qC.num.natAbs) pcC, .slice qoC (nl qC.den) qcC] 27)) = w8 at kC rA rB rC kA kB hF ⊢
      clear ac0 ac1 ac2 bc0 bc1 bc2
      have ac0 := BlkV.cell kA 0 rfl
      have ac1 := BlkV.cell kA 1 rfl
      have ac2 := BlkV.cell kA 2 rfl
      have bc0 := BlkV.cell kB 0 rfl
      have bc1 := BlkV.cell kB 1 rfl
      have bc2 := BlkV.cell kB 2 rfl
      have cc0 := BlkV.cell kC 0 rfl
      have cc1 := BlkV.cell kC 1 rfl
      have cc2 := BlkV.cell kC 2 rfl
      go_wp2_with fail
      refine (rof_any _ (-9223372036854775808) (-1) (by omega) (by omega) (by omega) (by omega) (by omega)).mono ?_
      rintro e w9 ⟨v, rfl, rD, hf9⟩
      replace rA := rA.fwd hf9
      replace rB := rB.fwd hf9
      replace rC := rC.fwd hf9
      replace kA := kA.fwd hf9
      replace kB := kB.fwd hf9
      replace kC := kC.fwd hf9
      replace hF := hF.trans hf9
      clear hf9
      clear ac0 ac1 ac2
      have ac0 := BlkV.cell kA 0 rfl
      have ac1 := BlkV.cell kA 1 rfl
      have ac2 := BlkV.cell kA 2 rfl
      clear bc0 bc1 bc2
      have bc0 := BlkV.cell kB 0 rfl
      have bc1 := BlkV.cell kB 1 rfl
      have bc2 := BlkV.cell kB 2 rfl
      clear cc0 cc1 cc2
      have cc0 := BlkV.cell kC 0 rfl
      have cc1 := BlkV.cell kC 1 rfl
      have cc2 := BlkV.cell kC 2 rfl
      rw [← HD.out] at rD
      have HV := hid rD
      obtain ⟨poD, pcD, qoD, qcD, rfl, p1D, p2D, p3D, p4D, -, -⟩ := RW.open rD.rw'
      clear rD
      have rD := HV.out
      clear HV
      have ltA9 := BlkV.lt kA
      have ltB9 := BlkV.lt kB
      have ltC9 := BlkV.lt kC
      have hfB : Fwd w9 (w9.alloc (.cells #[.bool (negQ qD), .slice poD (nl qD.num.natAbs) pcD, .slice qoD (nl qD.den) qcD] 27)) := (Fwd.refl _).alloc _
      replace rA := rA.fwd hfB
      replace rB := rB.fwd hfB
      replace rC := rC.fwd hfB
      replace rD := rD.fwd hfB
      replace kA := kA.fwd hfB
      replace kB := kB.fwd hfB
      replace kC := kC.fwd hfB
      replace hF := hF.trans hfB
      clear hfB
      clear ac0 ac1 ac2
      have ac0 := BlkV.cell kA 0 rfl
      have ac1 := BlkV.cell kA 1 rfl
      have ac2 := BlkV.cell kA 2 rfl
      clear bc0 bc1 bc2
      have bc0 := BlkV.cell kB 0 rfl
      have bc1 := BlkV.cell kB 1 rfl
      have bc2 := BlkV.cell kB 2 rfl
      clear cc0 cc1 cc2
      have cc0 := BlkV.cell kC 0 rfl
      have cc1 := BlkV.cell kC 1 rfl
      have cc2 := BlkV.cell kC 2 rfl
      have kD := BlkV.made w9 27 [.bool (negQ qD), .slice poD (nl qD.num.natAbs) pcD, .slice qoD (nl qD.den) qcD]
      go_upto_region 10 with fail
      generalize (w9.alloc (.cells #[.bool (negQ qD), .slice poD (nl qD.num.natAbs) pcD, .slice qoD (nl qD.den) qcD] 27)) = w10 at kD rA rB rC rD kA kB kC hF ⊢
      clear ac0 ac1 ac2 bc0 bc1 bc2 cc0 cc1 cc2
      have ac0 := BlkV.cell kA 0 rfl
      have ac1 := BlkV.cell kA 1 rfl
      have ac2 := BlkV.cell kA 2 rfl
      have bc0 := BlkV.cell kB 0 rfl
      have bc1 := BlkV.cell kB 1 rfl
      have bc2 := BlkV.cell kB 2 rfl
      have cc0 := BlkV.cell kC 0 rfl
      have cc1 := BlkV.cell kC 1 rfl
      have cc2 := BlkV.cell kC 2 rfl
      have dc0 := BlkV.cell kD 0 rfl
      have dc1 := BlkV.cell kD 1 rfl
      have dc2 := BlkV.cell kD 2 rfl
      replace rA := rA.drew
      replace rB := rB.drew
      replace rC := rC.drew
      replace rD := rD.drew
      replace kA := kA.drew
      replace kB := kB.drew
      replace kC := kC.drew
      replace kD := kD.drew
      replace hF := hF.drew
      clear ac0 ac1 ac2
      have ac0 := BlkV.cell kA 0 rfl
      have ac1 := BlkV.cell kA 1 rfl
      have ac2 := BlkV.cell kA 2 rfl
      clear bc0 bc1 bc2
      have bc0 := BlkV.cell kB 0 rfl
      have bc1 := BlkV.cell kB 1 rfl
      have bc2 := BlkV.cell kB 2 rfl
      clear cc0 cc1 cc2
      have cc0 := BlkV.cell kC 0 rfl
      have cc1 := BlkV.cell kC 1 rfl
      have cc2 := BlkV.cell kC 2 rfl
      clear dc0 dc1 dc2
      have dc0 := BlkV.cell kD 0 rfl
      have dc1 := BlkV.cell kD 1 rfl
      have dc2 := BlkV.cell kD 2 rfl
      refine wp_region_held_drew (S := fun w' => w'.cell? ⟨w3.heap.size, 0, none⟩ = some (.bool true) ∧ w'.cell? ⟨w3.heap.size, 1, none⟩ = some (.slice poA (nl qA.num.natAbs) pcA) ∧ w'.cell? ⟨w3.heap.size, 2, none⟩ = some (.slice qoA (nl qA.den) qcA) ∧ w'.cell? ⟨w5.heap.size, 0, none⟩ = some (.bool true) ∧ w'.cell? ⟨w5.heap.size, 1, none⟩ = some (.slice poB (nl qB.num.natAbs) pcB) ∧ w'.cell? ⟨w5.heap.size, 2, none⟩ = some (.slice qoB (nl qB.den) qcB) ∧ w'.cell? ⟨w7.heap.size, 0, none⟩ = some (.bool (negQ qC)) ∧ w'.cell? ⟨w7.heap.size, 1, none⟩ = some (.slice poC (nl qC.num.natAbs) pcC) ∧ w'.cell? ⟨w7.heap.size, 2, none⟩ = some (.slice qoC (nl qC.den) qcC) ∧ w'.cell? ⟨w9.heap.size, 0, none⟩ = some (.bool (negQ qD)) ∧ w'.cell? ⟨w9.heap.size, 1, none⟩ = some (.slice poD (nl qD.num.natAbs) pcD) ∧ w'.cell? ⟨w9.heap.size, 2, none⟩ = some (.slice qoD (nl qD.den) qcD)) (by kernel_rfl) ⟨by with_reducible assumption, by with_reducible assumption, by with_reducible assumption, by with_reducible assumption, by with_reducible assumption, by with_reducible assumption, by with_reducible assumption, by with_reducible assumption, by with_reducible assumption, by with_reducible assumption, by with_reducible assumption, by with_reducible assumption⟩ (fun hHeld => ?_)
      refine wpAnyH_take (i := 0) (oi := ?oi1_0) (v := ?vv1_0) ?hi1_0 (by kernel_rfl) (by kernel_rfl) (by kernel_rfl) ?hq1_0 ?hy1_0 hHeld ?rest1_0
      case hi1_0 => (simp only [List.getElem?_toArray, List.getElem?_cons_succ, List.getElem?_cons_zero]; rfl)
      case hq1_0 => exact fun _ _ _ h => h
      case hy1_0 =>
        refine Or.inl ⟨by rfl, ?_⟩
        intro wS hSw
        try dsimp only at hSw
        obtain ⟨q0, q1, q2, q3, q4, q5, q6, q7, q8, q9, q10, q11⟩ := hSw
        go_simp
        try with_reducible rfl
      simp only [Act.put, List.setIfInBounds_toArray, List.set_cons_zero, List.set_cons_succ]
      refine wpAnyH_take (i := 1) (oi := ?oi2_1) (v := ?vv2_1) ?hi2_1 (by kernel_rfl) (by kernel_rfl) (by kernel_rfl) ?hq2_1 ?hy2_1 hHeld ?rest2_1
      case hi2_1 => (simp only [List.getElem?_toArray, List.getElem?_cons_succ, List.getElem?_cons_zero]; rfl)
      case hq2_1 => exact fun _ _ _ h => h
      case hy2_1 =>
        refine Or.inl ⟨by rfl, ?_⟩
        intro wS hSw
        try dsimp only at hSw
        obtain ⟨q0, q1, q2, q3, q4, q5, q6, q7, q8, q9, q10, q11⟩ := hSw
        go_simp
        try with_reducible rfl
      simp only [Act.put, List.setIfInBounds_toArray, List.set_cons_zero, List.set_cons_succ]
      refine wpAnyH_take (i := 2) (oi := ?oi3_2) (v := ?vv3_2) ?hi3_2 (by kernel_rfl) (by kernel_rfl) (by kernel_rfl) ?hq3_2 ?hy3_2 hHeld ?rest3_2
      case hi3_2 => (simp only [List.getElem?_toArray, List.getElem?_cons_succ, List.getElem?_cons_zero]; rfl)
      case hq3_2 => exact fun _ _ _ h => h
      case hy3_2 =>
        refine Or.inl ⟨by rfl, ?_⟩
        intro wS hSw
        try dsimp only at hSw
        obtain ⟨q0, q1, q2, q3, q4, q5, q6, q7, q8, q9, q10, q11⟩ := hSw
        go_simp
        try with_reducible rfl
      simp only [Act.put, List.setIfInBounds_toArray, List.set_cons_zero, List.set_cons_succ]
      refine wpAnyH_take (i := 3) (oi := ?oi4_3) (v := ?vv4_3) ?hi4_3 (by kernel_rfl) (by kernel_rfl) (by kernel_rfl) ?hq4_3 ?hy4_3 hHeld ?rest4_3
      case hi4_3 => (simp only [List.getElem?_toArray, List.getElem?_cons_succ, List.getElem?_cons_zero]; rfl)
      case hq4_3 => exact fun _ _ _ h => h
      case hy4_3 =>
        refine Or.inl ⟨by rfl, ?_⟩
        intro wS hSw
        try dsimp only at hSw
        obtain ⟨q0, q1, q2, q3, q4, q5, q6, q7, q8, q9, q10, q11⟩ := hSw
        go_simp
        try with_reducible rfl
      simp only [Act.put, List.setIfInBounds_toArray, List.set_cons_zero, List.set_cons_succ]
      refine wpAnyH_take (i := 4) (oi := ?oi5_4) (v := ?vv5_4) ?hi5_4 (by kernel_rfl) (by kernel_rfl) (by kernel_rfl) ?hq5_4 ?hy5_4 hHeld ?rest5_4
      case hi5_4 => (simp only [List.getElem?_toArray, List.getElem?_cons_succ, List.getElem?_cons_zero]; rfl)
      case hq5_4 => exact fun _ _ _ h => h
      case hy5_4 =>
        refine Or.inl ⟨by rfl, ?_⟩
        intro wS hSw
        try dsimp only at hSw
        obtain ⟨q0, q1, q2, q3, q4, q5, q6, q7, q8, q9, q10, q11⟩ := hSw
        go_simp
        try with_reducible rfl
      simp only [Act.put, List.setIfInBounds_toArray, List.set_cons_zero, List.set_cons_succ]
      refine wpAnyH_take (i := 5) (oi := ?oi6_5) (v := ?vv6_5) ?hi6_5 (by kernel_rfl) (by kernel_rfl) (by kernel_rfl) ?hq6_5 ?hy6_5 hHeld ?rest6_5
      case hi6_5 => (simp only [List.getElem?_toArray, List.getElem?_cons_succ, List.getElem?_cons_zero]; rfl)
      case hq6_5 => exact fun _ _ _ h => h
      case hy6_5 =>
        refine Or.inl ⟨by rfl, ?_⟩
        intro wS hSw
        try dsimp only at hSw
        obtain ⟨q0, q1, q2, q3, q4, q5, q6, q7, q8, q9, q10, q11⟩ := hSw
        go_simp
        try with_reducible rfl
      simp only [Act.put, List.setIfInBounds_toArray, List.set_cons_zero, List.set_cons_succ]
      refine wpAnyH_take (i := 6) (oi := ?oi7_6) (v := ?vv7_6) ?hi7_6 (by kernel_rfl) (by kernel_rfl) (by kernel_rfl) ?hq7_6 ?hy7_6 hHeld ?rest7_6
      case hi7_6 => (simp only [List.getElem?_toArray, List.getElem?_cons_succ, List.getElem?_cons_zero]; rfl)
      case hq7_6 => exact fun _ _ _ h => h
      case hy7_6 =>
        refine Or.inl ⟨by rfl, ?_⟩
        intro wS hSw
        try dsimp only at hSw
        obtain ⟨q0, q1, q2, q3, q4, q5, q6, q7, q8, q9, q10, q11⟩ := hSw
        go_simp
        try with_reducible rfl
      simp only [Act.put, List.setIfInBounds_toArray, List.set_cons_zero, List.set_cons_succ]
      refine wpAnyH_take (i := 7) (oi := ?oi8_7) (v := ?vv8_7) ?hi8_7 (by kernel_rfl) (by kernel_rfl) (by kernel_rfl) ?hq8_7 ?hy8_7 hHeld ?rest8_7
      case hi8_7 => (simp only [List.getElem?_toArray, List.getElem?_cons_succ, List.getElem?_cons_zero]; rfl)
      case hq8_7 => exact fun _ _ _ h => h
      case hy8_7 =>
        refine Or.inl ⟨by rfl, ?_⟩
        intro wS hSw
        try dsimp only at hSw
        obtain ⟨q0, q1, q2, q3, q4, q5, q6, q7, q8, q9, q10, q11⟩ := hSw
        go_simp
        try with_reducible rfl
      simp only [Act.put, List.setIfInBounds_toArray, List.set_cons_zero, List.set_cons_succ]
      refine wpAnyH_take (i := 8) (oi := ?oi9_8) (v := ?vv9_8) ?hi9_8 (by kernel_rfl) (by kernel_rfl) (by kernel_rfl) ?hq9_8 ?hy9_8 hHeld ?rest9_8
      case hi9_8 => (simp only [List.getElem?_toArray, List.getElem?_cons_succ, List.getElem?_cons_zero]; rfl)
      case hq9_8 => exact fun _ _ _ h => h
      case hy9_8 =>
        refine Or.inl ⟨by rfl, ?_⟩
        intro wS hSw
        try dsimp only at hSw
        obtain ⟨q0, q1, q2, q3, q4, q5, q6, q7, q8, q9, q10, q11⟩ := hSw
        go_simp
        try with_reducible rfl
      simp only [Act.put, List.setIfInBounds_toArray, List.set_cons_zero, List.set_cons_succ]
      refine wpAnyH_take (i := 9) (oi := ?oi10_9) (v := ?vv10_9) ?hi10_9 (by kernel_rfl) (by kernel_rfl) (by kernel_rfl) ?hq10_9 ?hy10_9 hHeld ?rest10_9
      case hi10_9 => (simp only [List.getElem?_toArray, List.getElem?_cons_succ, List.getElem?_cons_zero]; rfl)
      case hq10_9 => exact fun _ _ _ h => h
      case hy10_9 =>
        refine Or.inl ⟨by rfl, ?_⟩
        intro wS hSw
        try dsimp only at hSw
        obtain ⟨q0, q1, q2, q3, q4, q5, q6, q7, q8, q9, q10, q11⟩ := hSw
        go_simp
        try with_reducible rfl
      simp only [Act.put, List.setIfInBounds_toArray, List.set_cons_zero, List.set_cons_succ]
      refine wpAnyH_take (i := 10) (oi := ?oi11_10) (v := ?vv11_10) ?hi11_10 (by kernel_rfl) (by kernel_rfl) (by kernel_rfl) ?hq11_10 ?hy11_10 hHeld ?rest11_10
      case hi11_10 => (simp only [List.getElem?_toArray, List.getElem?_cons_succ, List.getElem?_cons_zero]; rfl)
      case hq11_10 => exact fun _ _ _ h => h
      case hy11_10 =>
        refine Or.inl ⟨by rfl, ?_⟩
        intro wS hSw
        try dsimp only at hSw
        obtain ⟨q0, q1, q2, q3, q4, q5, q6, q7, q8, q9, q10, q11⟩ := hSw
        go_simp
        try with_reducible rfl
      simp only [Act.put, List.setIfInBounds_toArray, List.set_cons_zero, List.set_cons_succ]
      refine wpAnyH_take (i := 11) (oi := ?oi12_11) (v := ?vv12_11) ?hi12_11 (by kernel_rfl) (by kernel_rfl) (by kernel_rfl) ?hq12_11 ?hy12_11 hHeld ?rest12_11
      case hi12_11 => (simp only [List.getElem?_toArray, List.getElem?_cons_succ, List.getElem?_cons_zero]; rfl)
      case hq12_11 => exact fun _ _ _ h => h
      case hy12_11 =>
        refine Or.inl ⟨by rfl, ?_⟩
        intro wS hSw
        try dsimp only at hSw
        obtain ⟨q0, q1, q2, q3, q4, q5, q6, q7, q8, q9, q10, q11⟩ := hSw
        go_simp
        try with_reducible rfl
      simp only [Act.put, List.setIfInBounds_toArray, List.set_cons_zero, List.set_cons_succ]
      refine wpAnyH_take (i := 12) (oi := ?oi13_12) (v := ?vv13_12) ?hi13_12 (by kernel_rfl) (by kernel_rfl) (by kernel_rfl) ?hq13_12 ?hy13_12 hHeld ?rest13_12
      case hi13_12 => (simp only [List.getElem?_toArray, List.getElem?_cons_succ, List.getElem?_cons_zero]; rfl)
      case hq13_12 => exact fun _ _ _ h => h
      case hy13_12 =>
        refine Or.inl ⟨by rfl, ?_⟩
        intro wS hSw
        try dsimp only at hSw
        obtain ⟨q0, q1, q2, q3, q4, q5, q6, q7, q8, q9, q10, q11⟩ := hSw
        go_simp
        try with_reducible rfl
      simp only [Act.put, List.setIfInBounds_toArray, List.set_cons_zero, List.set_cons_succ]
      refine wpAnyH_take (i := 13) (oi := ?oi14_13) (v := ?vv14_13) ?hi14_13 (by kernel_rfl) (by kernel_rfl) (by kernel_rfl) ?hq14_13 ?hy14_13 hHeld ?rest14_13
      case hi14_13 => (simp only [List.getElem?_toArray, List.getElem?_cons_succ, List.getElem?_cons_zero]; rfl)
      case hq14_13 => exact fun _ _ _ h => h
      case hy14_13 =>
        refine Or.inl ⟨by rfl, ?_⟩
        intro wS hSw
        try dsimp only at hSw
        obtain ⟨q0, q1, q2, q3, q4, q5, q6, q7, q8, q9, q10, q11⟩ := hSw
        go_simp
        try with_reducible rfl
      simp only [Act.put, List.setIfInBounds_toArray, List.set_cons_zero, List.set_cons_succ]
      refine wpAnyH_take (i := 14) (oi := ?oi15_14) (v := ?vv15_14) ?hi15_14 (by kernel_rfl) (by kernel_rfl) (by kernel_rfl) ?hq15_14 ?hy15_14 hHeld ?rest15_14
      case hi15_14 => (simp only [List.getElem?_toArray, List.getElem?_cons_succ, List.getElem?_cons_zero]; rfl)
      case hq15_14 => exact fun _ _ _ h => h
      case hy15_14 =>
        refine Or.inl ⟨by rfl, ?_⟩
        intro wS hSw
        try dsimp only at hSw
        obtain ⟨q0, q1, q2, q3, q4, q5, q6, q7, q8, q9, q10, q11⟩ := hSw
        go_simp
        try with_reducible rfl
      simp only [Act.put, List.setIfInBounds_toArray, List.set_cons_zero, List.set_cons_succ]
      refine wpAnyH_take (i := 15) (oi := ?oi16_15) (v := ?vv16_15) ?hi16_15 (by kernel_rfl) (by kernel_rfl) (by kernel_rfl) ?hq16_15 ?hy16_15 hHeld ?rest16_15
      case hi16_15 => (simp only [List.getElem?_toArray, List.getElem?_cons_succ, List.getElem?_cons_zero]; rfl)
      case hq16_15 => exact fun _ _ _ h => h
      case hy16_15 =>
        refine Or.inl ⟨by rfl, ?_⟩
        intro wS hSw
        try dsimp only at hSw
        obtain ⟨q0, q1, q2, q3, q4, q5, q6, q7, q8, q9, q10, q11⟩ := hSw
        go_simp
        try with_reducible rfl
      simp only [Act.put, List.setIfInBounds_toArray, List.set_cons_zero, List.set_cons_succ]
      refine wpAnyH_take (i := 16) (oi := ?oi17_16) (v := ?vv17_16) ?hi17_16 (by kernel_rfl) (by kernel_rfl) (by kernel_rfl) ?hq17_16 ?hy17_16 hHeld ?rest17_16
      case hi17_16 => (simp only [List.getElem?_toArray, List.getElem?_cons_succ, List.getElem?_cons_zero]; rfl)
      case hq17_16 => exact fun _ _ _ h => h
      case hy17_16 =>
        refine Or.inl ⟨by rfl, ?_⟩
        intro wS hSw
        try dsimp only at hSw
        obtain ⟨q0, q1, q2, q3, q4, q5, q6, q7, q8, q9, q10, q11⟩ := hSw
        go_simp
        try with_reducible rfl
      simp only [Act.put, List.setIfInBounds_toArray, List.set_cons_zero, List.set_cons_succ]
      refine wpAnyH_ready (rs := [17]) (by kernel_rfl) (by simp) ?_
      refine AllReadyH.cons rfl (fun K hK => ?_) AllReadyH.nil
      go_simp
      refine (rmul_any rA rB (by omega) (by omega)).mono ?_
      rintro e w11 ⟨v1, rfl, f1, hf11⟩
      replace rA := rA.fwd hf11
      replace rB := rB.fwd hf11
      replace rC := rC.fwd hf11
      replace rD := rD.fwd hf11
      replace kA := kA.fwd hf11
      replace kB := kB.fwd hf11
      replace kC := kC.fwd hf11
      replace kD := kD.fwd hf11
      replace hF := hF.trans hf11
      clear hf11
      clear ac0 ac1 ac2
      have ac0 := BlkV.cell kA 0 rfl
      have ac1 := BlkV.cell kA 1 rfl
      have ac2 := BlkV.cell kA 2 rfl
      clear bc0 bc1 bc2
      have bc0 := BlkV.cell kB 0 rfl
      have bc1 := BlkV.cell kB 1 rfl
      have bc2 := BlkV.cell kB 2 rfl
      clear cc0 cc1 cc2
      have cc0 := BlkV.cell kC 0 rfl
      have cc1 := BlkV.cell kC 1 rfl
      have cc2 := BlkV.cell kC 2 rfl
      clear dc0 dc1 dc2
      have dc0 := BlkV.cell kD 0 rfl
      have dc1 := BlkV.cell kD 1 rfl
      have dc2 := BlkV.cell kD 2 rfl
      go_wp2_with fail
      clear hHeld
      refine hK.out _ _ ⟨by with_reducible assumption, by with_reducible assumption, by with_reducible assumption, by with_reducible assumption, by with_reducible assumption, by with_reducible assumption, by with_reducible assumption, by with_reducible assumption, by with_reducible assumption, by with_reducible assumption, by with_reducible assumption, by with_reducible assumption⟩ (fun hHeld => ?_)
      clear hK K
      try simp only [Act.put, List.setIfInBounds_toArray, List.set_cons_zero, List.set_cons_succ]
      refine wpAnyH_ready (rs := [18]) (by kernel_rfl) (by simp) ?_
      refine AllReadyH.cons rfl (fun K hK => ?_) AllReadyH.nil
      go_simp
      refine (int2_any _ 1 (by omega) (by omega)).mono ?_
      rintro e w12 ⟨v2, rfl, f2, hf12⟩
      replace rA := rA.fwd hf12
      replace rB := rB.fwd hf12
      replace rC := rC.fwd hf12
      replace rD := rD.fwd hf12
      replace f1 := f1.fwd hf12
      replace kA := kA.fwd hf12
      replace kB := kB.fwd hf12
      replace kC := kC.fwd hf12
      replace kD := kD.fwd hf12
      replace hF := hF.trans hf12
      clear hf12
      clear ac0 ac1 ac2
      have ac0 := BlkV.cell kA 0 rfl
      have ac1 := BlkV.cell kA 1 rfl
      have ac2 := BlkV.cell kA 2 rfl
      clear bc0 bc1 bc2
      have bc0 := BlkV.cell kB 0 rfl
      have bc1 := BlkV.cell kB 1 rfl
      have bc2 := BlkV.cell kB 2 rfl
      clear cc0 cc1 cc2
      have cc0 := BlkV.cell kC 0 rfl
      have cc1 := BlkV.cell kC 1 rfl
      have cc2 := BlkV.cell kC 2 rfl
      clear dc0 dc1 dc2
      have dc0 := BlkV.cell kD 0 rfl
      have dc1 := BlkV.cell kD 1 rfl
      have dc2 := BlkV.cell kD 2 rfl
      go_wp2_with fail
      clear hHeld
      refine hK.out _ _ ⟨by with_reducible assumption, by with_reducible assumption, by with_reducible assumption, by with_reducible assumption, by with_reducible assumption, by with_reducible assumption, by with_reducible assumption, by with_reducible assumption, by with_reducible assumption, by with_reducible assumption, by with_reducible assumption, by with_reducible assumption⟩ (fun hHeld => ?_)
      clear hK K
      try simp only [Act.put, List.setIfInBounds_toArray, List.set_cons_zero, List.set_cons_succ]
      refine wpAnyH_ready (rs := [19]) (by kernel_rfl) (by simp) ?_
      refine AllReadyH.cons rfl (fun K hK => ?_) AllReadyH.nil
      go_simp
      refine (same2_true f1 f2 (by omega) (by omega) (HMB.out)).mono ?_
      rintro e w13 ⟨rfl, hf13⟩
      replace rA := rA.fwd hf13
      replace rB := rB.fwd hf13
      replace rC := rC.fwd hf13
      replace rD := rD.fwd hf13
      replace f1 := f1.fwd hf13
      replace f2 := f2.fwd hf13
      replace kA := kA.fwd hf13
      replace kB := kB.fwd hf13
      replace kC := kC.fwd hf13
      replace kD := kD.fwd hf13
      replace hF := hF.trans hf13
      clear hf13
      clear ac0 ac1 ac2
      have ac0 := BlkV.cell kA 0 rfl
      have ac1 := BlkV.cell kA 1 rfl
      have ac2 := BlkV.cell kA 2 rfl
      clear bc0 bc1 bc2
      have bc0 := BlkV.cell kB 0 rfl
      have bc1 := BlkV.cell kB 1 rfl
      have bc2 := BlkV.cell kB 2 rfl
      clear cc0 cc1 cc2
      have cc0 := BlkV.cell kC 0 rfl
      have cc1 := BlkV.cell kC 1 rfl
      have cc2 := BlkV.cell kC 2 rfl
      clear dc0 dc1 dc2
      have dc0 := BlkV.cell kD 0 rfl
      have dc1 := BlkV.cell kD 1 rfl
      have dc2 := BlkV.cell kD 2 rfl
      go_wp2_with fail
      clear hHeld
      refine hK.out _ _ ⟨by with_reducible assumption, by with_reducible assumption, by with_reducible assumption, by with_reducible assumption, by with_reducible assumption, by with_reducible assumption, by with_reducible assumption, by with_reducible assumption, by with_reducible assumption, by with_reducible assumption, by with_reducible assumption, by with_reducible assumption⟩ (fun hHeld => ?_)
      clear hK K
      try simp only [Act.put, List.setIfInBounds_toArray, List.set_cons_zero, List.set_cons_succ]
      refine wpAnyH_take (i := 20) (oi := ?oi18_20) (v := ?vv18_20) ?hi18_20 (by kernel_rfl) (by kernel_rfl) (by kernel_rfl) ?hq18_20 ?hy18_20 hHeld ?rest18_20
      case hi18_20 => (simp only [List.getElem?_toArray, List.getElem?_cons_succ, List.getElem?_cons_zero]; rfl)
      case hq18_20 => exact fun _ _ _ h => h
      case hy18_20 =>
        refine Or.inl ⟨by rfl, ?_⟩
        intro wS hSw
        try dsimp only at hSw
        obtain ⟨q0, q1, q2, q3, q4, q5, q6, q7, q8, q9, q10, q11⟩ := hSw
        go_simp
        try with_reducible rfl
      simp only [Act.put, List.setIfInBounds_toArray, List.set_cons_zero, List.set_cons_succ]
      refine wpAnyH_take (i := 21) (oi := ?oi19_21) (v := ?vv19_21) ?hi19_21 (by kernel_rfl) (by kernel_rfl) (by kernel_rfl) ?hq19_21 ?hy19_21 hHeld ?rest19_21
      case hi19_21 => (simp only [List.getElem?_toArray, List.getElem?_cons_succ, List.getElem?_cons_zero]; rfl)
      case hq19_21 => exact fun _ _ _ h => h
      case hy19_21 =>
        refine Or.inl ⟨by rfl, ?_⟩
        intro wS hSw
        try dsimp only at hSw
        obtain ⟨q0, q1, q2, q3, q4, q5, q6, q7, q8, q9, q10, q11⟩ := hSw
        go_simp
        try with_reducible rfl
      simp only [Act.put, List.setIfInBounds_toArray, List.set_cons_zero, List.set_cons_succ]
      refine wpAnyH_take (i := 22) (oi := ?oi20_22) (v := ?vv20_22) ?hi20_22 (by kernel_rfl) (by kernel_rfl) (by kernel_rfl) ?hq20_22 ?hy20_22 hHeld ?rest20_22
      case hi20_22 => (simp only [List.getElem?_toArray, List.getElem?_cons_succ, List.getElem?_cons_zero]; rfl)
      case hq20_22 => exact fun _ _ _ h => h
      case hy20_22 =>
        refine Or.inl ⟨by rfl, ?_⟩
        intro wS hSw
        try dsimp only at hSw
        obtain ⟨q0, q1, q2, q3, q4, q5, q6, q7, q8, q9, q10, q11⟩ := hSw
        go_simp
        try with_reducible rfl
      simp only [Act.put, List.setIfInBounds_toArray, List.set_cons_zero, List.set_cons_succ]
      refine wpAnyH_ready (rs := [23]) (by kernel_rfl) (by simp) ?_
      refine AllReadyH.cons rfl (fun K hK => ?_) AllReadyH.nil
      go_simp
      refine (int2_any _ 1 (by omega) (by omega)).mono ?_
      rintro e w14 ⟨v3, rfl, f3, hf14⟩
      replace rA := rA.fwd hf14
      replace rB := rB.fwd hf14
      replace rC := rC.fwd hf14
      replace rD := rD.fwd hf14
      replace f1 := f1.fwd hf14
      replace f2 := f2.fwd hf14
      replace kA := kA.fwd hf14
      replace kB := kB.fwd hf14
      replace kC := kC.fwd hf14
      replace kD := kD.fwd hf14
      replace hF := hF.trans hf14
      clear hf14
      clear ac0 ac1 ac2
      have ac0 := BlkV.cell kA 0 rfl
      have ac1 := BlkV.cell kA 1 rfl
      have ac2 := BlkV.cell kA 2 rfl
      clear bc0 bc1 bc2
      have bc0 := BlkV.cell kB 0 rfl
      have bc1 := BlkV.cell kB 1 rfl
      have bc2 := BlkV.cell kB 2 rfl
      clear cc0 cc1 cc2
      have cc0 := BlkV.cell kC 0 rfl
      have cc1 := BlkV.cell kC 1 rfl
      have cc2 := BlkV.cell kC 2 rfl
      clear dc0 dc1 dc2
      have dc0 := BlkV.cell kD 0 rfl
      have dc1 := BlkV.cell kD 1 rfl
      have dc2 := BlkV.cell kD 2 rfl
      go_wp2_with fail
      clear hHeld
      refine hK.out _ _ ⟨by with_reducible assumption, by with_reducible assumption, by with_reducible assumption, by with_reducible assumption, by with_reducible assumption, by with_reducible assumption, by with_reducible assumption, by with_reducible assumption, by with_reducible assumption, by with_reducible assumption, by with_reducible assumption, by with_reducible assumption⟩ (fun hHeld => ?_)
      clear hK K
      try simp only [Act.put, List.setIfInBounds_toArray, List.set_cons_zero, List.set_cons_succ]
      refine wpAnyH_ready (rs := [24]) (by kernel_rfl) (by simp) ?_
      refine AllReadyH.cons rfl (fun K hK => ?_) AllReadyH.nil
      go_simp
      refine (same2_true rC f3 (by omega) (by omega) (HC1.out)).mono ?_
      rintro e w15 ⟨rfl, hf15⟩
      replace rA := rA.fwd hf15
      replace rB := rB.fwd hf15
      replace rC := rC.fwd hf15
      replace rD := rD.fwd hf15
      replace f1 := f1.fwd hf15
      replace f2 := f2.fwd hf15
      replace f3 := f3.fwd hf15
      replace kA := kA.fwd hf15
      replace kB := kB.fwd hf15
      replace kC := kC.fwd hf15
      replace kD := kD.fwd hf15
      replace hF := hF.trans hf15
      clear hf15
      clear ac0 ac1 ac2
      have ac0 := BlkV.cell kA 0 rfl
      have ac1 := BlkV.cell kA 1 rfl
      have ac2 := BlkV.cell kA 2 rfl
      clear bc0 bc1 bc2
      have bc0 := BlkV.cell kB 0 rfl
      have bc1 := BlkV.cell kB 1 rfl
      have bc2 := BlkV.cell kB 2 rfl
      clear cc0 cc1 cc2
      have cc0 := BlkV.cell kC 0 rfl
      have cc1 := BlkV.cell kC 1 rfl
      have cc2 := BlkV.cell kC 2 rfl
      clear dc0 dc1 dc2
      have dc0 := BlkV.cell kD 0 rfl
      have dc1 := BlkV.cell kD 1 rfl
      have dc2 := BlkV.cell kD 2 rfl
      go_wp2_with fail
      clear hHeld
      refine hK.out _ _ ⟨by with_reducible assumption, by with_reducible assumption, by with_reducible assumption, by with_reducible assumption, by with_reducible assumption, by with_reducible assumption, by with_reducible assumption, by with_reducible assumption, by with_reducible assumption, by with_reducible assumption, by with_reducible assumption, by with_reducible assumption⟩ (fun hHeld => ?_)
      clear hK K
      try simp only [Act.put, List.setIfInBounds_toArray, List.set_cons_zero, List.set_cons_succ]
      refine wpAnyH_take (i := 25) (oi := ?oi21_25) (v := ?vv21_25) ?hi21_25 (by kernel_rfl) (by kernel_rfl) (by kernel_rfl) ?hq21_25 ?hy21_25 hHeld ?rest21_25
      case hi21_25 => (simp only [List.getElem?_toArray, List.getElem?_cons_succ, List.getElem?_cons_zero]; rfl)
      case hq21_25 => exact fun _ _ _ h => h
      case hy21_25 =>
        refine Or.inl ⟨by rfl, ?_⟩
        intro wS hSw
        try dsimp only at hSw
        obtain ⟨q0, q1, q2, q3, q4, q5, q6, q7, q8, q9, q10, q11⟩ := hSw
        go_simp
        try with_reducible rfl
      simp only [Act.put, List.setIfInBounds_toArray, List.set_cons_zero, List.set_cons_succ]
      refine wpAnyH_take (i := 26) (oi := ?oi22_26) (v := ?vv22_26) ?hi22_26 (by kernel_rfl) (by kernel_rfl) (by kernel_rfl) ?hq22_26 ?hy22_26 hHeld ?rest22_26
      case hi22_26 => (simp only [List.getElem?_toArray, List.getElem?_cons_succ, List.getElem?_cons_zero]; rfl)
      case hq22_26 => exact fun _ _ _ h => h
      case hy22_26 =>
        refine Or.inl ⟨by rfl, ?_⟩
        intro wS hSw
        try dsimp only at hSw
        obtain ⟨q0, q1, q2, q3, q4, q5, q6, q7, q8, q9, q10, q11⟩ := hSw
        go_simp
        try with_reducible rfl
      simp only [Act.put, List.setIfInBounds_toArray, List.set_cons_zero, List.set_cons_succ]
      refine wpAnyH_take (i := 27) (oi := ?oi23_27) (v := ?vv23_27) ?hi23_27 (by kernel_rfl) (by kernel_rfl) (by kernel_rfl) ?hq23_27 ?hy23_27 hHeld ?rest23_27
      case hi23_27 => (simp only [List.getElem?_toArray, List.getElem?_cons_succ, List.getElem?_cons_zero]; rfl)
      case hq23_27 => exact fun _ _ _ h => h
      case hy23_27 =>
        refine Or.inl ⟨by rfl, ?_⟩
        intro wS hSw
        try dsimp only at hSw
        obtain ⟨q0, q1, q2, q3, q4, q5, q6, q7, q8, q9, q10, q11⟩ := hSw
        go_simp
        try with_reducible rfl
      simp only [Act.put, List.setIfInBounds_toArray, List.set_cons_zero, List.set_cons_succ]
      refine wpAnyH_take (i := 28) (oi := ?oi24_28) (v := ?vv24_28) ?hi24_28 (by kernel_rfl) (by kernel_rfl) (by kernel_rfl) ?hq24_28 ?hy24_28 hHeld ?rest24_28
      case hi24_28 => (simp only [List.getElem?_toArray, List.getElem?_cons_succ, List.getElem?_cons_zero]; rfl)
      case hq24_28 => exact fun _ _ _ h => h
      case hy24_28 =>
        refine Or.inl ⟨by rfl, ?_⟩
        intro wS hSw
        try dsimp only at hSw
        obtain ⟨q0, q1, q2, q3, q4, q5, q6, q7, q8, q9, q10, q11⟩ := hSw
        go_simp
        try with_reducible rfl
      simp only [Act.put, List.setIfInBounds_toArray, List.set_cons_zero, List.set_cons_succ]
      refine wpAnyH_take (i := 29) (oi := ?oi25_29) (v := ?vv25_29) ?hi25_29 (by kernel_rfl) (by kernel_rfl) (by kernel_rfl) ?hq25_29 ?hy25_29 hHeld ?rest25_29
      case hi25_29 => (simp only [List.getElem?_toArray, List.getElem?_cons_succ, List.getElem?_cons_zero]; rfl)
      case hq25_29 => exact fun _ _ _ h => h
      case hy25_29 =>
        refine Or.inl ⟨by rfl, ?_⟩
        intro wS hSw
        try dsimp only at hSw
        obtain ⟨q0, q1, q2, q3, q4, q5, q6, q7, q8, q9, q10, q11⟩ := hSw
        go_simp
        try with_reducible rfl
      simp only [Act.put, List.setIfInBounds_toArray, List.set_cons_zero, List.set_cons_succ]
      refine wpAnyH_take (i := 30) (oi := ?oi26_30) (v := ?vv26_30) ?hi26_30 (by kernel_rfl) (by kernel_rfl) (by kernel_rfl) ?hq26_30 ?hy26_30 hHeld ?rest26_30
      case hi26_30 => (simp only [List.getElem?_toArray, List.getElem?_cons_succ, List.getElem?_cons_zero]; rfl)
      case hq26_30 => exact fun _ _ _ h => h
      case hy26_30 =>
        refine Or.inl ⟨by rfl, ?_⟩
        intro wS hSw
        try dsimp only at hSw
        obtain ⟨q0, q1, q2, q3, q4, q5, q6, q7, q8, q9, q10, q11⟩ := hSw
        go_simp
        try with_reducible rfl
      simp only [Act.put, List.setIfInBounds_toArray, List.set_cons_zero, List.set_cons_succ]
      refine wpAnyH_take (i := 31) (oi := ?oi27_31) (v := ?vv27_31) ?hi27_31 (by kernel_rfl) (by kernel_rfl) (by kernel_rfl) ?hq27_31 ?hy27_31 hHeld ?rest27_31
      case hi27_31 => (simp only [List.getElem?_toArray, List.getElem?_cons_succ, List.getElem?_cons_zero]; rfl)
      case hq27_31 => exact fun _ _ _ h => h
      case hy27_31 =>
        refine Or.inl ⟨by rfl, ?_⟩
        intro wS hSw
        try dsimp only at hSw
        obtain ⟨q0, q1, q2, q3, q4, q5, q6, q7, q8, q9, q10, q11⟩ := hSw
        go_simp
        try with_reducible rfl
      simp only [Act.put, List.setIfInBounds_toArray, List.set_cons_zero, List.set_cons_succ]
      refine wpAnyH_take (i := 32) (oi := ?oi28_32) (v := ?vv28_32) ?hi28_32 (by kernel_rfl) (by kernel_rfl) (by kernel_rfl) ?hq28_32 ?hy28_32 hHeld ?rest28_32
      case hi28_32 => (simp only [List.getElem?_toArray, List.getElem?_cons_succ, List.getElem?_cons_zero]; rfl)
      case hq28_32 => exact fun _ _ _ h => h
      case hy28_32 =>
        refine Or.inl ⟨by rfl, ?_⟩
        intro wS hSw
        try dsimp only at hSw
        obtain ⟨q0, q1, q2, q3, q4, q5, q6, q7, q8, q9, q10, q11⟩ := hSw
        go_simp
        try with_reducible rfl
      simp only [Act.put, List.setIfInBounds_toArray, List.set_cons_zero, List.set_cons_succ]
      refine wpAnyH_take (i := 33) (oi := ?oi29_33) (v := ?vv29_33) ?hi29_33 (by kernel_rfl) (by kernel_rfl) (by kernel_rfl) ?hq29_33 ?hy29_33 hHeld ?rest29_33
      case hi29_33 => (simp only [List.getElem?_toArray, List.getElem?_cons_succ, List.getElem?_cons_zero]; rfl)
      case hq29_33 => exact fun _ _ _ h => h
      case hy29_33 =>
        refine Or.inl ⟨by rfl, ?_⟩
        intro wS hSw
        try dsimp only at hSw
        obtain ⟨q0, q1, q2, q3, q4, q5, q6, q7, q8, q9, q10, q11⟩ := hSw
        go_simp
        try with_reducible rfl
      simp only [Act.put, List.setIfInBounds_toArray, List.set_cons_zero, List.set_cons_succ]
      refine wpAnyH_take (i := 34) (oi := ?oi30_34) (v := ?vv30_34) ?hi30_34 (by kernel_rfl) (by kernel_rfl) (by kernel_rfl) ?hq30_34 ?hy30_34 hHeld ?rest30_34
      case hi30_34 => (simp only [List.getElem?_toArray, List.getElem?_cons_succ, List.getElem?_cons_zero]; rfl)
      case hq30_34 => exact fun _ _ _ h => h
      case hy30_34 =>
        refine Or.inl ⟨by rfl, ?_⟩
        intro wS hSw
        try dsimp only at hSw
        obtain ⟨q0, q1, q2, q3, q4, q5, q6, q7, q8, q9, q10, q11⟩ := hSw
        go_simp
        try with_reducible rfl
      simp only [Act.put, List.setIfInBounds_toArray, List.set_cons_zero, List.set_cons_succ]
      refine wpAnyH_take (i := 35) (oi := ?oi31_35) (v := ?vv31_35) ?hi31_35 (by kernel_rfl) (by kernel_rfl) (by kernel_rfl) ?hq31_35 ?hy31_35 hHeld ?rest31_35
      case hi31_35 => (simp only [List.getElem?_toArray, List.getElem?_cons_succ, List.getElem?_cons_zero]; rfl)
      case hq31_35 => exact fun _ _ _ h => h
      case hy31_35 =>
        refine Or.inl ⟨by rfl, ?_⟩
        intro wS hSw
        try dsimp only at hSw
        obtain ⟨q0, q1, q2, q3, q4, q5, q6, q7, q8, q9, q10, q11⟩ := hSw
        go_simp
        try with_reducible rfl
      simp only [Act.put, List.setIfInBounds_toArray, List.set_cons_zero, List.set_cons_succ]
      refine wpAnyH_take (i := 36) (oi := ?oi32_36) (v := ?vv32_36) ?hi32_36 (by kernel_rfl) (by kernel_rfl) (by kernel_rfl) ?hq32_36 ?hy32_36 hHeld ?rest32_36
      case hi32_36 => (simp only [List.getElem?_toArray, List.getElem?_cons_succ, List.getElem?_cons_zero]; rfl)
      case hq32_36 => exact fun _ _ _ h => h
      case hy32_36 =>
        refine Or.inl ⟨by rfl, ?_⟩
        intro wS hSw
        try dsimp only at hSw
        obtain ⟨q0, q1, q2, q3, q4, q5, q6, q7, q8, q9, q10, q11⟩ := hSw
        go_simp
        try with_reducible rfl
      simp only [Act.put, List.setIfInBounds_toArray, List.set_cons_zero, List.set_cons_succ]
      refine wpAnyH_take (i := 37) (oi := ?oi33_37) (v := ?vv33_37) ?hi33_37 (by kernel_rfl) (by kernel_rfl) (by kernel_rfl) ?hq33_37 ?hy33_37 hHeld ?rest33_37
      case hi33_37 => (simp only [List.getElem?_toArray, List.getElem?_cons_succ, List.getElem?_cons_zero]; rfl)
      case hq33_37 => exact fun _ _ _ h => h
      case hy33_37 =>
        refine Or.inl ⟨by rfl, ?_⟩
        intro wS hSw
        try dsimp only at hSw
        obtain ⟨q0, q1, q2, q3, q4, q5, q6, q7, q8, q9, q10, q11⟩ := hSw
        go_simp
        try with_reducible rfl
      simp only [Act.put, List.setIfInBounds_toArray, List.set_cons_zero, List.set_cons_succ]
      refine wpAnyH_take (i := 38) (oi := ?oi34_38) (v := ?vv34_38) ?hi34_38 (by kernel_rfl) (by kernel_rfl) (by kernel_rfl) ?hq34_38 ?hy34_38 hHeld ?rest34_38
      case hi34_38 => (simp only [List.getElem?_toArray, List.getElem?_cons_succ, List.getElem?_cons_zero]; rfl)
      case hq34_38 => exact fun _ _ _ h => h
      case hy34_38 =>
        refine Or.inl ⟨by rfl, ?_⟩
        intro wS hSw
        try dsimp only at hSw
        obtain ⟨q0, q1, q2, q3, q4, q5, q6, q7, q8, q9, q10, q11⟩ := hSw
        go_simp
        try with_reducible rfl
      simp only [Act.put, List.setIfInBounds_toArray, List.set_cons_zero, List.set_cons_succ]
      refine wpAnyH_take (i := 39) (oi := ?oi35_39) (v := ?vv35_39) ?hi35_39 (by kernel_rfl) (by kernel_rfl) (by kernel_rfl) ?hq35_39 ?hy35_39 hHeld ?rest35_39
      case hi35_39 => (simp only [List.getElem?_toArray, List.getElem?_cons_succ, List.getElem?_cons_zero]; rfl)
      case hq35_39 => exact fun _ _ _ h => h
      case hy35_39 =>
        refine Or.inl ⟨by rfl, ?_⟩
        intro wS hSw
        try dsimp only at hSw
        obtain ⟨q0, q1, q2, q3, q4, q5, q6, q7, q8, q9, q10, q11⟩ := hSw
        go_simp
        try with_reducible rfl
      simp only [Act.put, List.setIfInBounds_toArray, List.set_cons_zero, List.set_cons_succ]
      refine wpAnyH_take (i := 40) (oi := ?oi36_40) (v := ?vv36_40) ?hi36_40 (by kernel_rfl) (by kernel_rfl) (by kernel_rfl) ?hq36_40 ?hy36_40 hHeld ?rest36_40
      case hi36_40 => (simp only [List.getElem?_toArray, List.getElem?_cons_succ, List.getElem?_cons_zero]; rfl)
      case hq36_40 => exact fun _ _ _ h => h
      case hy36_40 =>
        refine Or.inl ⟨by rfl, ?_⟩
        intro wS hSw
        try dsimp only at hSw
        obtain ⟨q0, q1, q2, q3, q4, q5, q6, q7, q8, q9, q10, q11⟩ := hSw
        go_simp
        try with_reducible rfl
      simp only [Act.put, List.setIfInBounds_toArray, List.set_cons_zero, List.set_cons_succ]
      refine wpAnyH_take (i := 41) (oi := ?oi37_41) (v := ?vv37_41) ?hi37_41 (by kernel_rfl) (by kernel_rfl) (by kernel_rfl) ?hq37_41 ?hy37_41 hHeld ?rest37_41
      case hi37_41 => (simp only [List.getElem?_toArray, List.getElem?_cons_succ, List.getElem?_cons_zero]; rfl)
      case hq37_41 => exact fun _ _ _ h => h
      case hy37_41 =>
        refine Or.inl ⟨by rfl, ?_⟩
        intro wS hSw
        try dsimp only at hSw
        obtain ⟨q0, q1, q2, q3, q4, q5, q6, q7, q8, q9, q10, q11⟩ := hSw
        go_simp
        try with_reducible rfl
      simp only [Act.put, List.setIfInBounds_toArray, List.set_cons_zero, List.set_cons_succ]
      refine wpAnyH_ready (rs := [42]) (by kernel_rfl) (by simp) ?_
      refine AllReadyH.cons rfl (fun K hK => ?_) AllReadyH.nil
      go_simp
      refine (rtext_raw rD.rw' (by omega) (by omega)).mono ?_
      rintro e w16 ⟨rfl, hf16⟩
      replace rA := rA.fwd hf16
      replace rB := rB.fwd hf16
      replace rC := rC.fwd hf16
      replace rD := rD.fwd hf16
      replace f1 := f1.fwd hf16
      replace f2 := f2.fwd hf16
      replace f3 := f3.fwd hf16
      replace kA := kA.fwd hf16
      replace kB := kB.fwd hf16
      replace kC := kC.fwd hf16
      replace kD := kD.fwd hf16
      replace hF := hF.trans hf16
      clear hf16
      clear ac0 ac1 ac2
      have ac0 := BlkV.cell kA 0 rfl
      have ac1 := BlkV.cell kA 1 rfl
      have ac2 := BlkV.cell kA 2 rfl
      clear bc0 bc1 bc2
      have bc0 := BlkV.cell kB 0 rfl
      have bc1 := BlkV.cell kB 1 rfl
      have bc2 := BlkV.cell kB 2 rfl
      clear cc0 cc1 cc2
      have cc0 := BlkV.cell kC 0 rfl
      have cc1 := BlkV.cell kC 1 rfl
      have cc2 := BlkV.cell kC 2 rfl
      clear dc0 dc1 dc2
      have dc0 := BlkV.cell kD 0 rfl
      have dc1 := BlkV.cell kD 1 rfl
      have dc2 := BlkV.cell kD 2 rfl
      rw [HTD.out]
      go_wp2_with fail
      clear hHeld
      refine hK.out _ _ ⟨by with_reducible assumption, by with_reducible assumption, by with_reducible assumption, by with_reducible assumption, by with_reducible assumption, by with_reducible assumption, by with_reducible assumption, by with_reducible assumption, by with_reducible assumption, by with_reducible assumption, by with_reducible assumption, by with_reducible assumption⟩ (fun hHeld => ?_)
      clear hK K
      try simp only [Act.put, List.setIfInBounds_toArray, List.set_cons_zero, List.set_cons_succ]
      refine wpAnyH_take (i := 43) (oi := ?oi38_43) (v := ?vv38_43) ?hi38_43 (by kernel_rfl) (by kernel_rfl) (by kernel_rfl) ?hq38_43 ?hy38_43 hHeld ?rest38_43
      case hi38_43 => (simp only [List.getElem?_toArray, List.getElem?_cons_succ, List.getElem?_cons_zero]; rfl)
      case hq38_43 => exact fun _ _ _ h => h
      case hy38_43 =>
        refine Or.inl ⟨by rfl, ?_⟩
        intro wS hSw
        try dsimp only at hSw
        obtain ⟨q0, q1, q2, q3, q4, q5, q6, q7, q8, q9, q10, q11⟩ := hSw
        go_simp
        try with_reducible rfl
      simp only [Act.put, List.setIfInBounds_toArray, List.set_cons_zero, List.set_cons_succ]
      refine wpAnyH_take (i := 44) (oi := ?oi39_44) (v := ?vv39_44) ?hi39_44 (by kernel_rfl) (by kernel_rfl) (by kernel_rfl) ?hq39_44 ?hy39_44 hHeld ?rest39_44
      case hi39_44 => (simp only [List.getElem?_toArray, List.getElem?_cons_succ, List.getElem?_cons_zero]; rfl)
      case hq39_44 => exact fun _ _ _ h => h
      case hy39_44 =>
        refine Or.inl ⟨by rfl, ?_⟩
        intro wS hSw
        try dsimp only at hSw
        obtain ⟨q0, q1, q2, q3, q4, q5, q6, q7, q8, q9, q10, q11⟩ := hSw
        go_simp
        try with_reducible rfl
      simp only [Act.put, List.setIfInBounds_toArray, List.set_cons_zero, List.set_cons_succ]
      refine wpAnyH_take (i := 45) (oi := ?oi40_45) (v := ?vv40_45) ?hi40_45 (by kernel_rfl) (by kernel_rfl) (by kernel_rfl) ?hq40_45 ?hy40_45 hHeld ?rest40_45
      case hi40_45 => (simp only [List.getElem?_toArray, List.getElem?_cons_succ, List.getElem?_cons_zero]; rfl)
      case hq40_45 => exact fun _ _ _ h => h
      case hy40_45 =>
        refine Or.inl ⟨by rfl, ?_⟩
        intro wS hSw
        try dsimp only at hSw
        obtain ⟨q0, q1, q2, q3, q4, q5, q6, q7, q8, q9, q10, q11⟩ := hSw
        go_simp
        try with_reducible rfl
      simp only [Act.put, List.setIfInBounds_toArray, List.set_cons_zero, List.set_cons_succ]
      refine wpAnyH_done (by kernel_rfl) ?_ _
      go_wp2_with fail
      go_ret
      exact ⟨rfl, hF⟩
    · have hx0b : (x == 0) = false := by simpa using hx0
      have hlt : ¬ x < 0 := by omega
      have HX0 := hid hx0
      clear hx0
      have hlt2 : decide (x < 0) = false := by simpa using hlt
      have hlt3 : 0 ≤ x := by omega
      have hlt4 : (x < 0) = False := by simp; omega
      have hlt5 : (0 ≤ x) = True := by simp; omega
      have HNA : Hid (negQ qA = false) := hid (by rw [HA.out]; unfold negQ; rw [Rat.num_intCast]; simp; omega)
      obtain ⟨qB, hqB⟩ : ∃ q, q = mkQ (!(decide ((1 : Int) < 0) == decide (x < 0))) (1 : Int).natAbs x.natAbs := ⟨_, rfl⟩
      have hxn : x.natAbs ≠ 0 := by have := HX0.out; omega
      have HNB : Hid (negQ qB = false) := hid (by rw [hqB, mkQ_neg hxn (by decide)]; simp [hlt])
      have bB : nr qB ≤ 2 := by rw [hqB]; refine Nat.le_trans (nr_mkQ _ _ _ hxn) ?_; have e1 : nl x.natAbs ≤ 2 := nl_le_two.2 (by omega); have e2 : nl (1 : Int).natAbs ≤ 1 := nl_one (by decide); omega
      have HMB : Hid (qA * qB = ((1 : Int) : Rat)) := hid (by rw [HA.out, hqB]; exact inv_int HX0.out)
      have HB := hid hqB
      clear hqB
      obtain ⟨qC, hqC⟩ : ∃ q, q = mkQ (!(decide (x < 0) == decide (x < 0))) x.natAbs x.natAbs := ⟨_, rfl⟩
      have HC1 : Hid (qC = ((1 : Int) : Rat)) := hid (by rw [hqC]; exact same_over hxn)
      have bC : nr qC ≤ 1 := by rw [HC1.out]; decide +kernel
      have HC := hid hqC
      clear hqC hxn
      obtain ⟨qD, hqD⟩ : ∃ q, q = mkQ (!(decide ((-9223372036854775808 : Int) < 0) == decide ((-1 : Int) < 0))) (-9223372036854775808 : Int).natAbs (-1 : Int).natAbs := ⟨_, rfl⟩
      have HTD : Hid (textR (negQ qD) qD.num.natAbs qD.den = ⟨#[57, 50, 50, 51, 51, 55, 50, 48, 51, 54, 56, 53, 52, 55, 55, 53, 56, 48, 56]⟩) := hid (by rw [hqD]; exact textR_least)
      have bD : nr qD ≤ 2 := by rw [hqD]; decide +kernel
      have HD := hid hqD
      clear hqD
      have b1 : nr ((1 : Int) : Rat) ≤ 1 := by decide +kernel
      have bM := nr_mul qA qB
      have bDn := (nr_le bD).1
      have bDd := (nr_le bD).2
      go_wp2_with fail
      refine (rof_any _ x 1 x1 x2 (by omega) (by omega) (by omega)).mono ?_
      rintro e w3 ⟨v, rfl, rA, hf3⟩
      replace hF := hF.trans hf3
      clear hf3
      rw [HQA.out] at rA
      have HV := hid rA
      obtain ⟨poA, pcA, qoA, qcA, rfl, p1A, p2A, p3A, p4A, -, -⟩ := RW.open rA.rw'
      clear rA
      have rA := HV.out
      clear HV
      rw [HNA.out] at rA ⊢
      have hfB : Fwd w3 (w3.alloc (.cells #[.bool false, .slice poA (nl qA.num.natAbs) pcA, .slice qoA (nl qA.den) qcA] 27)) := (Fwd.refl _).alloc _
      replace rA := rA.fwd hfB
      replace hF := hF.trans hfB
      clear hfB
      have kA := BlkV.made w3 27 [.bool false, .slice poA (nl qA.num.natAbs) pcA, .slice qoA (nl qA.den) qcA]
      go_upto_region 5 with fail
      generalize (w3.alloc (.cells #[.bool false, .slice poA (nl qA.num.natAbs) pcA, .slice qoA (nl qA.den) qcA] 27)) = w4 at kA rA hF ⊢
      have ac0 := BlkV.cell kA 0 rfl
      have ac1 := BlkV.cell kA 1 rfl
      have ac2 := BlkV.cell kA 2 rfl
      go_wp2_with fail
      refine (rof_any _ 1 x (by omega) (by omega) x1 x2 HX0.out).mono ?_
      rintro e w5 ⟨v, rfl, rB, hf5⟩
      replace rA := rA.fwd hf5
      replace kA := kA.fwd hf5
      replace hF := hF.trans hf5
      clear hf5
      clear ac0 ac1 ac2
      have ac0 := BlkV.cell kA 0 rfl
      have ac1 := BlkV.cell kA 1 rfl
      have ac2 := BlkV.cell kA 2 rfl
      rw [← HB.out] at rB
      have HV := hid rB
      obtain ⟨poB, pcB, qoB, qcB, rfl, p1B, p2B, p3B, p4B, -, -⟩ := RW.open rB.rw'
      clear rB
      have rB := HV.out
      clear HV
      rw [HNB.out] at rB ⊢
      have ltA5 := BlkV.lt kA
      have hfB : Fwd w5 (w5.alloc (.cells #[.bool false, .slice poB (nl qB.num.natAbs) pcB, .slice qoB (nl qB.den) qcB] 27)) := (Fwd.refl _).alloc _
      replace rA := rA.fwd hfB
      replace rB := rB.fwd hfB
      replace kA := kA.fwd hfB
      replace hF := hF.trans hfB
      clear hfB
      clear ac0 ac1 ac2
      have ac0 := BlkV.cell kA 0 rfl
      have ac1 := BlkV.cell kA 1 rfl
      have ac2 := BlkV.cell kA 2 rfl
      have kB := BlkV.made w5 27 [.bool false, .slice poB (nl qB.num.natAbs) pcB, .slice qoB (nl qB.den) qcB]
      go_upto_region 6 with fail
      generalize (w5.alloc (.cells #[.bool false, .slice poB (nl qB.num.natAbs) pcB, .slice qoB (nl qB.den) qcB] 27)) = w6 at kB rA rB kA hF ⊢
      clear ac0 ac1 ac2
      have ac0 := BlkV.cell kA 0 rfl
      have ac1 := BlkV.cell kA 1 rfl
      have ac2 := BlkV.cell kA 2 rfl
      have bc0 := BlkV.cell kB 0 rfl
      have bc1 := BlkV.cell kB 1 rfl
      have bc2 := BlkV.cell kB 2 rfl
      go_wp2_with fail
      refine (rof_any _ x x x1 x2 x1 x2 HX0.out).mono ?_
      rintro e w7 ⟨v, rfl, rC, hf7⟩
      replace rA := rA.fwd hf7
      replace rB := rB.fwd hf7
      replace kA := kA.fwd hf7
      replace kB := kB.fwd hf7
      replace hF := hF.trans hf7
      clear hf7
      clear ac0 ac1 ac2
      have ac0 := BlkV.cell kA 0 rfl
      have ac1 := BlkV.cell kA 1 rfl
      have ac2 := BlkV.cell kA 2 rfl
      clear bc0 bc1 bc2
      have bc0 := BlkV.cell kB 0 rfl
      have bc1 := BlkV.cell kB 1 rfl
      have bc2 := BlkV.cell kB 2 rfl
      rw [← HC.out] at rC
      have HV := hid rC
      obtain ⟨poC, pcC, qoC, qcC, rfl, p1C, p2C, p3C, p4C, -, -⟩ := RW.open rC.rw'
      clear rC
      have rC := HV.out
      clear HV
      have ltA7 := BlkV.lt kA
      have ltB7 := BlkV.lt kB
      have hfB : Fwd w7 (w7.alloc (.cells #[.bool (negQ qC), .slice poC (nl qC.num.natAbs) pcC, .slice qoC (nl qC.den) qcC] 27)) := (Fwd.refl _).alloc _
      replace rA := rA.fwd hfB
      replace rB := rB.fwd hfB
      replace rC := rC.fwd hfB
      replace kA := kA.fwd hfB
      replace kB := kB.fwd hfB
      replace hF := hF.trans hfB
      clear hfB
      clear ac0 ac1 ac2
      have ac0 := BlkV.cell kA 0 rfl
      have ac1 := BlkV.cell kA 1 rfl
      have ac2 := BlkV.cell kA 2 rfl
      clear bc0 bc1 bc2
      have bc0 := BlkV.cell kB 0 rfl
      have bc1 := BlkV.cell kB 1 rfl
      have bc2 := BlkV.cell kB 2 rfl
      have kC := BlkV.made w7 27 [.bool (negQ qC), .slice poC (nl qC.num.natAbs) pcC, .slice qoC (nl qC.den) qcC]
      go_upto_region 9 with fail
      generalize (w7.alloc (.cells #[.bool (negQ qC), .slice poC (nl qC.num.natAbs) pcC, .slice qoC (nl qC.den) qcC] 27)) = w8 at kC rA rB rC kA kB hF ⊢
      clear ac0 ac1 ac2 bc0 bc1 bc2
      have ac0 := BlkV.cell kA 0 rfl
      have ac1 := BlkV.cell kA 1 rfl
      have ac2 := BlkV.cell kA 2 rfl
      have bc0 := BlkV.cell kB 0 rfl
      have bc1 := BlkV.cell kB 1 rfl
      have bc2 := BlkV.cell kB 2 rfl
      have cc0 := BlkV.cell kC 0 rfl
      have cc1 := BlkV.cell kC 1 rfl
      have cc2 := BlkV.cell kC 2 rfl
      go_wp2_with fail
      refine (rof_any _ (-9223372036854775808) (-1) (by omega) (by omega) (by omega) (by omega) (by omega)).mono ?_
      rintro e w9 ⟨v, rfl, rD, hf9⟩
      replace rA := rA.fwd hf9
      replace rB := rB.fwd hf9
      replace rC := rC.fwd hf9
      replace kA := kA.fwd hf9
      replace kB := kB.fwd hf9
      replace kC := kC.fwd hf9
      replace hF := hF.trans hf9
      clear hf9
      clear ac0 ac1 ac2
      have ac0 := BlkV.cell kA 0 rfl
      have ac1 := BlkV.cell kA 1 rfl
      have ac2 := BlkV.cell kA 2 rfl
      clear bc0 bc1 bc2
      have bc0 := BlkV.cell kB 0 rfl
      have bc1 := BlkV.cell kB 1 rfl
      have bc2 := BlkV.cell kB 2 rfl
      clear cc0 cc1 cc2
      have cc0 := BlkV.cell kC 0 rfl
      have cc1 := BlkV.cell kC 1 rfl
      have cc2 := BlkV.cell kC 2 rfl
      rw [← HD.out] at rD
      have HV := hid rD
      obtain ⟨poD, pcD, qoD, qcD, rfl, p1D, p2D, p3D, p4D, -, -⟩ := RW.open rD.rw'
      clear rD
      have rD := HV.out
      clear HV
      have ltA9 := BlkV.lt kA
      have ltB9 := BlkV.lt kB
      have ltC9 := BlkV.lt kC
      have hfB : Fwd w9 (w9.alloc (.cells #[.bool (negQ qD), .slice poD (nl qD.num.natAbs) pcD, .slice qoD (nl qD.den) qcD] 27)) := (Fwd.refl _).alloc _
      replace rA := rA.fwd hfB
      replace rB := rB.fwd hfB
      replace rC := rC.fwd hfB
      replace rD := rD.fwd hfB
      replace kA := kA.fwd hfB
      replace kB := kB.fwd hfB
      replace kC := kC.fwd hfB
      replace hF := hF.trans hfB
      clear hfB
      clear ac0 ac1 ac2
      have ac0 := BlkV.cell kA 0 rfl
      have ac1 := BlkV.cell kA 1 rfl
      have ac2 := BlkV.cell kA 2 rfl
      clear bc0 bc1 bc2
      have bc0 := BlkV.cell kB 0 rfl
      have bc1 := BlkV.cell kB 1 rfl
      have bc2 := BlkV.cell kB 2 rfl
      clear cc0 cc1 cc2
      have cc0 := BlkV.cell kC 0 rfl
      have cc1 := BlkV.cell kC 1 rfl
      have cc2 := BlkV.cell kC 2 rfl
      have kD := BlkV.made w9 27 [.bool (negQ qD), .slice poD (nl qD.num.natAbs) pcD, .slice qoD (nl qD.den) qcD]
      go_upto_region 10 with fail
      generalize (w9.alloc (.cells #[.bool (negQ qD), .slice poD (nl qD.num.natAbs) pcD, .slice qoD (nl qD.den) qcD] 27)) = w10 at kD rA rB rC rD kA kB kC hF ⊢
      clear ac0 ac1 ac2 bc0 bc1 bc2 cc0 cc1 cc2
      have ac0 := BlkV.cell kA 0 rfl
      have ac1 := BlkV.cell kA 1 rfl
      have ac2 := BlkV.cell kA 2 rfl
      have bc0 := BlkV.cell kB 0 rfl
      have bc1 := BlkV.cell kB 1 rfl
      have bc2 := BlkV.cell kB 2 rfl
      have cc0 := BlkV.cell kC 0 rfl
      have cc1 := BlkV.cell kC 1 rfl
      have cc2 := BlkV.cell kC 2 rfl
      have dc0 := BlkV.cell kD 0 rfl
      have dc1 := BlkV.cell kD 1 rfl
      have dc2 := BlkV.cell kD 2 rfl
      replace rA := rA.drew
      replace rB := rB.drew
      replace rC := rC.drew
      replace rD := rD.drew
      replace kA := kA.drew
      replace kB := kB.drew
      replace kC := kC.drew
      replace kD := kD.drew
      replace hF := hF.drew
      clear ac0 ac1 ac2
      have ac0 := BlkV.cell kA 0 rfl
      have ac1 := BlkV.cell kA 1 rfl
      have ac2 := BlkV.cell kA 2 rfl
      clear bc0 bc1 bc2
      have bc0 := BlkV.cell kB 0 rfl
      have bc1 := BlkV.cell kB 1 rfl
      have bc2 := BlkV.cell kB 2 rfl
      clear cc0 cc1 cc2
      have cc0 := BlkV.cell kC 0 rfl
      have cc1 := BlkV.cell kC 1 rfl
      have cc2 := BlkV.cell kC 2 rfl
      clear dc0 dc1 dc2
      have dc0 := BlkV.cell kD 0 rfl
      have dc1 := BlkV.cell kD 1 rfl
      have dc2 := BlkV.cell kD 2 rfl
      refine wp_region_held_drew (S := fun w' => w'.cell? ⟨w3.heap.size, 0, none⟩ = some (.bool false) ∧ w'.cell? ⟨w3.heap.size, 1, none⟩ = some (.slice poA (nl qA.num.natAbs) pcA) ∧ w'.cell? ⟨w3.heap.size, 2, none⟩ = some (.slice qoA (nl qA.den) qcA) ∧ w'.cell? ⟨w5.heap.size, 0, none⟩ = some (.bool false) ∧ w'.cell? ⟨w5.heap.size, 1, none⟩ = some (.slice poB (nl qB.num.natAbs) pcB) ∧ w'.cell? ⟨w5.heap.size, 2, none⟩ = some (.slice qoB (nl qB.den) qcB) ∧ w'.cell? ⟨w7.heap.size, 0, none⟩ = some (.bool (negQ qC)) ∧ w'.cell? ⟨w7.heap.size, 1, none⟩ = some (.slice poC (nl qC.num.natAbs) pcC) ∧ w'.cell? ⟨w7.heap.size, 2, none⟩ = some (.slice qoC (nl qC.den) qcC) ∧ w'.cell? ⟨w9.heap.size, 0, none⟩ = some (.bool (negQ qD)) ∧ w'.cell? ⟨w9.heap.size, 1, none⟩ = some (.slice poD (nl qD.num.natAbs) pcD) ∧ w'.cell? ⟨w9.heap.size, 2, none⟩ = some (.slice qoD (nl qD.den) qcD)) (by kernel_rfl) ⟨by with_reducible assumption, by with_reducible assumption, by with_reducible assumption, by with_reducible assumption, by with_reducible assumption, by with_reducible assumption, by with_reducible assumption, by with_reducible assumption, by with_reducible assumption, by with_reducible assumption, by with_reducible assumption, by with_reducible assumption⟩ (fun hHeld => ?_)
      refine wpAnyH_take (i := 0) (oi := ?oi41_0) (v := ?vv41_0) ?hi41_0 (by kernel_rfl) (by kernel_rfl) (by kernel_rfl) ?hq41_0 ?hy41_0 hHeld ?rest41_0
      case hi41_0 => (simp only [List.getElem?_toArray, List.getElem?_cons_succ, List.getElem?_cons_zero]; rfl)
      case hq41_0 => exact fun _ _ _ h => h
      case hy41_0 =>
        refine Or.inl ⟨by rfl, ?_⟩
        intro wS hSw
        try dsimp only at hSw
        obtain ⟨q0, q1, q2, q3, q4, q5, q6, q7, q8, q9, q10, q11⟩ := hSw
        go_simp
        try with_reducible rfl
      simp only [Act.put, List.setIfInBounds_toArray, List.set_cons_zero, List.set_cons_succ]
      refine wpAnyH_take (i := 1) (oi := ?oi42_1) (v := ?vv42_1) ?hi42_1 (by kernel_rfl) (by kernel_rfl) (by kernel_rfl) ?hq42_1 ?hy42_1 hHeld ?rest42_1
      case hi42_1 => (simp only [List.getElem?_toArray, List.getElem?_cons_succ, List.getElem?_cons_zero]; rfl)
      case hq42_1 => exact fun _ _ _ h => h
      case hy42_1 =>
        refine Or.inl ⟨by rfl, ?_⟩
        intro wS hSw
        try dsimp only at hSw
        obtain ⟨q0, q1, q2, q3, q4, q5, q6, q7, q8, q9, q10, q11⟩ := hSw
        go_simp
        try with_reducible rfl
      simp only [Act.put, List.setIfInBounds_toArray, List.set_cons_zero, List.set_cons_succ]
      refine wpAnyH_take (i := 2) (oi := ?oi43_2) (v := ?vv43_2) ?hi43_2 (by kernel_rfl) (by kernel_rfl) (by kernel_rfl) ?hq43_2 ?hy43_2 hHeld ?rest43_2
      case hi43_2 => (simp only [List.getElem?_toArray, List.getElem?_cons_succ, List.getElem?_cons_zero]; rfl)
      case hq43_2 => exact fun _ _ _ h => h
      case hy43_2 =>
        refine Or.inl ⟨by rfl, ?_⟩
        intro wS hSw
        try dsimp only at hSw
        obtain ⟨q0, q1, q2, q3, q4, q5, q6, q7, q8, q9, q10, q11⟩ := hSw
        go_simp
        try with_reducible rfl
      simp only [Act.put, List.setIfInBounds_toArray, List.set_cons_zero, List.set_cons_succ]
      refine wpAnyH_take (i := 3) (oi := ?oi44_3) (v := ?vv44_3) ?hi44_3 (by kernel_rfl) (by kernel_rfl) (by kernel_rfl) ?hq44_3 ?hy44_3 hHeld ?rest44_3
      case hi44_3 => (simp only [List.getElem?_toArray, List.getElem?_cons_succ, List.getElem?_cons_zero]; rfl)
      case hq44_3 => exact fun _ _ _ h => h
      case hy44_3 =>
        refine Or.inl ⟨by rfl, ?_⟩
        intro wS hSw
        try dsimp only at hSw
        obtain ⟨q0, q1, q2, q3, q4, q5, q6, q7, q8, q9, q10, q11⟩ := hSw
        go_simp
        try with_reducible rfl
      simp only [Act.put, List.setIfInBounds_toArray, List.set_cons_zero, List.set_cons_succ]
      refine wpAnyH_take (i := 4) (oi := ?oi45_4) (v := ?vv45_4) ?hi45_4 (by kernel_rfl) (by kernel_rfl) (by kernel_rfl) ?hq45_4 ?hy45_4 hHeld ?rest45_4
      case hi45_4 => (simp only [List.getElem?_toArray, List.getElem?_cons_succ, List.getElem?_cons_zero]; rfl)
      case hq45_4 => exact fun _ _ _ h => h
      case hy45_4 =>
        refine Or.inl ⟨by rfl, ?_⟩
        intro wS hSw
        try dsimp only at hSw
        obtain ⟨q0, q1, q2, q3, q4, q5, q6, q7, q8, q9, q10, q11⟩ := hSw
        go_simp
        try with_reducible rfl
      simp only [Act.put, List.setIfInBounds_toArray, List.set_cons_zero, List.set_cons_succ]
      refine wpAnyH_take (i := 5) (oi := ?oi46_5) (v := ?vv46_5) ?hi46_5 (by kernel_rfl) (by kernel_rfl) (by kernel_rfl) ?hq46_5 ?hy46_5 hHeld ?rest46_5
      case hi46_5 => (simp only [List.getElem?_toArray, List.getElem?_cons_succ, List.getElem?_cons_zero]; rfl)
      case hq46_5 => exact fun _ _ _ h => h
      case hy46_5 =>
        refine Or.inl ⟨by rfl, ?_⟩
        intro wS hSw
        try dsimp only at hSw
        obtain ⟨q0, q1, q2, q3, q4, q5, q6, q7, q8, q9, q10, q11⟩ := hSw
        go_simp
        try with_reducible rfl
      simp only [Act.put, List.setIfInBounds_toArray, List.set_cons_zero, List.set_cons_succ]
      refine wpAnyH_take (i := 6) (oi := ?oi47_6) (v := ?vv47_6) ?hi47_6 (by kernel_rfl) (by kernel_rfl) (by kernel_rfl) ?hq47_6 ?hy47_6 hHeld ?rest47_6
      case hi47_6 => (simp only [List.getElem?_toArray, List.getElem?_cons_succ, List.getElem?_cons_zero]; rfl)
      case hq47_6 => exact fun _ _ _ h => h
      case hy47_6 =>
        refine Or.inl ⟨by rfl, ?_⟩
        intro wS hSw
        try dsimp only at hSw
        obtain ⟨q0, q1, q2, q3, q4, q5, q6, q7, q8, q9, q10, q11⟩ := hSw
        go_simp
        try with_reducible rfl
      simp only [Act.put, List.setIfInBounds_toArray, List.set_cons_zero, List.set_cons_succ]
      refine wpAnyH_take (i := 7) (oi := ?oi48_7) (v := ?vv48_7) ?hi48_7 (by kernel_rfl) (by kernel_rfl) (by kernel_rfl) ?hq48_7 ?hy48_7 hHeld ?rest48_7
      case hi48_7 => (simp only [List.getElem?_toArray, List.getElem?_cons_succ, List.getElem?_cons_zero]; rfl)
      case hq48_7 => exact fun _ _ _ h => h
      case hy48_7 =>
        refine Or.inl ⟨by rfl, ?_⟩
        intro wS hSw
        try dsimp only at hSw
        obtain ⟨q0, q1, q2, q3, q4, q5, q6, q7, q8, q9, q10, q11⟩ := hSw
        go_simp
        try with_reducible rfl
      simp only [Act.put, List.setIfInBounds_toArray, List.set_cons_zero, List.set_cons_succ]
      refine wpAnyH_take (i := 8) (oi := ?oi49_8) (v := ?vv49_8) ?hi49_8 (by kernel_rfl) (by kernel_rfl) (by kernel_rfl) ?hq49_8 ?hy49_8 hHeld ?rest49_8
      case hi49_8 => (simp only [List.getElem?_toArray, List.getElem?_cons_succ, List.getElem?_cons_zero]; rfl)
      case hq49_8 => exact fun _ _ _ h => h
      case hy49_8 =>
        refine Or.inl ⟨by rfl, ?_⟩
        intro wS hSw
        try dsimp only at hSw
        obtain ⟨q0, q1, q2, q3, q4, q5, q6, q7, q8, q9, q10, q11⟩ := hSw
        go_simp
        try with_reducible rfl
      simp only [Act.put, List.setIfInBounds_toArray, List.set_cons_zero, List.set_cons_succ]
      refine wpAnyH_take (i := 9) (oi := ?oi50_9) (v := ?vv50_9) ?hi50_9 (by kernel_rfl) (by kernel_rfl) (by kernel_rfl) ?hq50_9 ?hy50_9 hHeld ?rest50_9
      case hi50_9 => (simp only [List.getElem?_toArray, List.getElem?_cons_succ, List.getElem?_cons_zero]; rfl)
      case hq50_9 => exact fun _ _ _ h => h
      case hy50_9 =>
        refine Or.inl ⟨by rfl, ?_⟩
        intro wS hSw
        try dsimp only at hSw
        obtain ⟨q0, q1, q2, q3, q4, q5, q6, q7, q8, q9, q10, q11⟩ := hSw
        go_simp
        try with_reducible rfl
      simp only [Act.put, List.setIfInBounds_toArray, List.set_cons_zero, List.set_cons_succ]
      refine wpAnyH_take (i := 10) (oi := ?oi51_10) (v := ?vv51_10) ?hi51_10 (by kernel_rfl) (by kernel_rfl) (by kernel_rfl) ?hq51_10 ?hy51_10 hHeld ?rest51_10
      case hi51_10 => (simp only [List.getElem?_toArray, List.getElem?_cons_succ, List.getElem?_cons_zero]; rfl)
      case hq51_10 => exact fun _ _ _ h => h
      case hy51_10 =>
        refine Or.inl ⟨by rfl, ?_⟩
        intro wS hSw
        try dsimp only at hSw
        obtain ⟨q0, q1, q2, q3, q4, q5, q6, q7, q8, q9, q10, q11⟩ := hSw
        go_simp
        try with_reducible rfl
      simp only [Act.put, List.setIfInBounds_toArray, List.set_cons_zero, List.set_cons_succ]
      refine wpAnyH_take (i := 11) (oi := ?oi52_11) (v := ?vv52_11) ?hi52_11 (by kernel_rfl) (by kernel_rfl) (by kernel_rfl) ?hq52_11 ?hy52_11 hHeld ?rest52_11
      case hi52_11 => (simp only [List.getElem?_toArray, List.getElem?_cons_succ, List.getElem?_cons_zero]; rfl)
      case hq52_11 => exact fun _ _ _ h => h
      case hy52_11 =>
        refine Or.inl ⟨by rfl, ?_⟩
        intro wS hSw
        try dsimp only at hSw
        obtain ⟨q0, q1, q2, q3, q4, q5, q6, q7, q8, q9, q10, q11⟩ := hSw
        go_simp
        try with_reducible rfl
      simp only [Act.put, List.setIfInBounds_toArray, List.set_cons_zero, List.set_cons_succ]
      refine wpAnyH_take (i := 12) (oi := ?oi53_12) (v := ?vv53_12) ?hi53_12 (by kernel_rfl) (by kernel_rfl) (by kernel_rfl) ?hq53_12 ?hy53_12 hHeld ?rest53_12
      case hi53_12 => (simp only [List.getElem?_toArray, List.getElem?_cons_succ, List.getElem?_cons_zero]; rfl)
      case hq53_12 => exact fun _ _ _ h => h
      case hy53_12 =>
        refine Or.inl ⟨by rfl, ?_⟩
        intro wS hSw
        try dsimp only at hSw
        obtain ⟨q0, q1, q2, q3, q4, q5, q6, q7, q8, q9, q10, q11⟩ := hSw
        go_simp
        try with_reducible rfl
      simp only [Act.put, List.setIfInBounds_toArray, List.set_cons_zero, List.set_cons_succ]
      refine wpAnyH_take (i := 13) (oi := ?oi54_13) (v := ?vv54_13) ?hi54_13 (by kernel_rfl) (by kernel_rfl) (by kernel_rfl) ?hq54_13 ?hy54_13 hHeld ?rest54_13
      case hi54_13 => (simp only [List.getElem?_toArray, List.getElem?_cons_succ, List.getElem?_cons_zero]; rfl)
      case hq54_13 => exact fun _ _ _ h => h
      case hy54_13 =>
        refine Or.inl ⟨by rfl, ?_⟩
        intro wS hSw
        try dsimp only at hSw
        obtain ⟨q0, q1, q2, q3, q4, q5, q6, q7, q8, q9, q10, q11⟩ := hSw
        go_simp
        try with_reducible rfl
      simp only [Act.put, List.setIfInBounds_toArray, List.set_cons_zero, List.set_cons_succ]
      refine wpAnyH_take (i := 14) (oi := ?oi55_14) (v := ?vv55_14) ?hi55_14 (by kernel_rfl) (by kernel_rfl) (by kernel_rfl) ?hq55_14 ?hy55_14 hHeld ?rest55_14
      case hi55_14 => (simp only [List.getElem?_toArray, List.getElem?_cons_succ, List.getElem?_cons_zero]; rfl)
      case hq55_14 => exact fun _ _ _ h => h
      case hy55_14 =>
        refine Or.inl ⟨by rfl, ?_⟩
        intro wS hSw
        try dsimp only at hSw
        obtain ⟨q0, q1, q2, q3, q4, q5, q6, q7, q8, q9, q10, q11⟩ := hSw
        go_simp
        try with_reducible rfl
      simp only [Act.put, List.setIfInBounds_toArray, List.set_cons_zero, List.set_cons_succ]
      refine wpAnyH_take (i := 15) (oi := ?oi56_15) (v := ?vv56_15) ?hi56_15 (by kernel_rfl) (by kernel_rfl) (by kernel_rfl) ?hq56_15 ?hy56_15 hHeld ?rest56_15
      case hi56_15 => (simp only [List.getElem?_toArray, List.getElem?_cons_succ, List.getElem?_cons_zero]; rfl)
      case hq56_15 => exact fun _ _ _ h => h
      case hy56_15 =>
        refine Or.inl ⟨by rfl, ?_⟩
        intro wS hSw
        try dsimp only at hSw
        obtain ⟨q0, q1, q2, q3, q4, q5, q6, q7, q8, q9, q10, q11⟩ := hSw
        go_simp
        try with_reducible rfl
      simp only [Act.put, List.setIfInBounds_toArray, List.set_cons_zero, List.set_cons_succ]
      refine wpAnyH_take (i := 16) (oi := ?oi57_16) (v := ?vv57_16) ?hi57_16 (by kernel_rfl) (by kernel_rfl) (by kernel_rfl) ?hq57_16 ?hy57_16 hHeld ?rest57_16
      case hi57_16 => (simp only [List.getElem?_toArray, List.getElem?_cons_succ, List.getElem?_cons_zero]; rfl)
      case hq57_16 => exact fun _ _ _ h => h
      case hy57_16 =>
        refine Or.inl ⟨by rfl, ?_⟩
        intro wS hSw
        try dsimp only at hSw
        obtain ⟨q0, q1, q2, q3, q4, q5, q6, q7, q8, q9, q10, q11⟩ := hSw
        go_simp
        try with_reducible rfl
      simp only [Act.put, List.setIfInBounds_toArray, List.set_cons_zero, List.set_cons_succ]
      refine wpAnyH_ready (rs := [17]) (by kernel_rfl) (by simp) ?_
      refine AllReadyH.cons rfl (fun K hK => ?_) AllReadyH.nil
      go_simp
      refine (rmul_any rA rB (by omega) (by omega)).mono ?_
      rintro e w11 ⟨v1, rfl, f1, hf11⟩
      replace rA := rA.fwd hf11
      replace rB := rB.fwd hf11
      replace rC := rC.fwd hf11
      replace rD := rD.fwd hf11
      replace kA := kA.fwd hf11
      replace kB := kB.fwd hf11
      replace kC := kC.fwd hf11
      replace kD := kD.fwd hf11
      replace hF := hF.trans hf11
      clear hf11
      clear ac0 ac1 ac2
      have ac0 := BlkV.cell kA 0 rfl
      have ac1 := BlkV.cell kA 1 rfl
      have ac2 := BlkV.cell kA 2 rfl
      clear bc0 bc1 bc2
      have bc0 := BlkV.cell kB 0 rfl
      have bc1 := BlkV.cell kB 1 rfl
      have bc2 := BlkV.cell kB 2 rfl
      clear cc0 cc1 cc2
      have cc0 := BlkV.cell kC 0 rfl
      have cc1 := BlkV.cell kC 1 rfl
      have cc2 := BlkV.cell kC 2 rfl
      clear dc0 dc1 dc2
      have dc0 := BlkV.cell kD 0 rfl
      have dc1 := BlkV.cell kD 1 rfl
      have dc2 := BlkV.cell kD 2 rfl
      go_wp2_with fail
      clear hHeld
      refine hK.out _ _ ⟨by with_reducible assumption, by with_reducible assumption, by with_reducible assumption, by with_reducible assumption, by with_reducible assumption, by with_reducible assumption, by with_reducible assumption, by with_reducible assumption, by with_reducible assumption, by with_reducible assumption, by with_reducible assumption, by with_reducible assumption⟩ (fun hHeld => ?_)
      clear hK K
      try simp only [Act.put, List.setIfInBounds_toArray, List.set_cons_zero, List.set_cons_succ]
      refine wpAnyH_ready (rs := [18]) (by kernel_rfl) (by simp) ?_
      refine AllReadyH.cons rfl (fun K hK => ?_) AllReadyH.nil
      go_simp
      refine (int2_any _ 1 (by omega) (by omega)).mono ?_
      rintro e w12 ⟨v2, rfl, f2, hf12⟩
      replace rA := rA.fwd hf12
      replace rB := rB.fwd hf12
      replace rC := rC.fwd hf12
      replace rD := rD.fwd hf12
      replace f1 := f1.fwd hf12
      replace kA := kA.fwd hf12
      replace kB := kB.fwd hf12
      replace kC := kC.fwd hf12
      replace kD := kD.fwd hf12
      replace hF := hF.trans hf12
      clear hf12
      clear ac0 ac1 ac2
      have ac0 := BlkV.cell kA 0 rfl
      have ac1 := BlkV.cell kA 1 rfl
      have ac2 := BlkV.cell kA 2 rfl
      clear bc0 bc1 bc2
      have bc0 := BlkV.cell kB 0 rfl
      have bc1 := BlkV.cell kB 1 rfl
      have bc2 := BlkV.cell kB 2 rfl
      clear cc0 cc1 cc2
      have cc0 := BlkV.cell kC 0 rfl
      have cc1 := BlkV.cell kC 1 rfl
      have cc2 := BlkV.cell kC 2 rfl
      clear dc0 dc1 dc2
      have dc0 := BlkV.cell kD 0 rfl
      have dc1 := BlkV.cell kD 1 rfl
      have dc2 := BlkV.cell kD 2 rfl
      go_wp2_with fail
      clear hHeld
      refine hK.out _ _ ⟨by with_reducible assumption, by with_reducible assumption, by with_reducible assumption, by with_reducible assumption, by with_reducible assumption, by with_reducible assumption, by with_reducible assumption, by with_reducible assumption, by with_reducible assumption, by with_reducible assumption, by with_reducible assumption, by with_reducible assumption⟩ (fun hHeld => ?_)
      clear hK K
      try simp only [Act.put, List.setIfInBounds_toArray, List.set_cons_zero, List.set_cons_succ]
      refine wpAnyH_ready (rs := [19]) (by kernel_rfl) (by simp) ?_
      refine AllReadyH.cons rfl (fun K hK => ?_) AllReadyH.nil
      go_simp
      refine (same2_true f1 f2 (by omega) (by omega) (HMB.out)).mono ?_
      rintro e w13 ⟨rfl, hf13⟩
      replace rA := rA.fwd hf13
      replace rB := rB.fwd hf13
      replace rC := rC.fwd hf13
      replace rD := rD.fwd hf13
      replace f1 := f1.fwd hf13
      replace f2 := f2.fwd hf13
      replace kA := kA.fwd hf13
      replace kB := kB.fwd hf13
      replace kC := kC.fwd hf13
      replace kD := kD.fwd hf13
      replace hF := hF.trans hf13
      clear hf13
      clear ac0 ac1 ac2
      have ac0 := BlkV.cell kA 0 rfl
      have ac1 := BlkV.cell kA 1 rfl
      have ac2 := BlkV.cell kA 2 rfl
      clear bc0 bc1 bc2
      have bc0 := BlkV.cell kB 0 rfl
      have bc1 := BlkV.cell kB 1 rfl
      have bc2 := BlkV.cell kB 2 rfl
      clear cc0 cc1 cc2
      have cc0 := BlkV.cell kC 0 rfl
      have cc1 := BlkV.cell kC 1 rfl
      have cc2 := BlkV.cell kC 2 rfl
      clear dc0 dc1 dc2
      have dc0 := BlkV.cell kD 0 rfl
      have dc1 := BlkV.cell kD 1 rfl
      have dc2 := BlkV.cell kD 2 rfl
      go_wp2_with fail
      clear hHeld
      refine hK.out _ _ ⟨by with_reducible assumption, by with_reducible assumption, by with_reducible assumption, by with_reducible assumption, by with_reducible assumption, by with_reducible assumption, by with_reducible assumption, by with_reducible assumption, by with_reducible assumption, by with_reducible assumption, by with_reducible assumption, by with_reducible assumption⟩ (fun hHeld => ?_)
      clear hK K
      try simp only [Act.put, List.setIfInBounds_toArray, List.set_cons_zero, List.set_cons_succ]
      refine wpAnyH_take (i := 20) (oi := ?oi58_20) (v := ?vv58_20) ?hi58_20 (by kernel_rfl) (by kernel_rfl) (by kernel_rfl) ?hq58_20 ?hy58_20 hHeld ?rest58_20
      case hi58_20 => (simp only [List.getElem?_toArray, List.getElem?_cons_succ, List.getElem?_cons_zero]; rfl)
      case hq58_20 => exact fun _ _ _ h => h
      case hy58_20 =>
        refine Or.inl ⟨by rfl, ?_⟩
        intro wS hSw
        try dsimp only at hSw
        obtain ⟨q0, q1, q2, q3, q4, q5, q6, q7, q8, q9, q10, q11⟩ := hSw
        go_simp
        try with_reducible rfl
      simp only [Act.put, List.setIfInBounds_toArray, List.set_cons_zero, List.set_cons_succ]
      refine wpAnyH_take (i := 21) (oi := ?oi59_21) (v := ?vv59_21) ?hi59_21 (by kernel_rfl) (by kernel_rfl) (by kernel_rfl) ?hq59_21 ?hy59_21 hHeld ?rest59_21
      case hi59_21 => (simp only [List.getElem?_toArray, List.getElem?_cons_succ, List.getElem?_cons_zero]; rfl)
      case hq59_21 => exact fun _ _ _ h => h
      case hy59_21 =>
        refine Or.inl ⟨by rfl, ?_⟩
        intro wS hSw
        try dsimp only at hSw
        obtain ⟨q0, q1, q2, q3, q4, q5, q6, q7, q8, q9, q10, q11⟩ := hSw
        go_simp
        try with_reducible rfl
      simp only [Act.put, List.setIfInBounds_toArray, List.set_cons_zero, List.set_cons_succ]
      refine wpAnyH_take (i := 22) (oi := ?oi60_22) (v := ?vv60_22) ?hi60_22 (by kernel_rfl) (by kernel_rfl) (by kernel_rfl) ?hq60_22 ?hy60_22 hHeld ?rest60_22
      case hi60_22 => (simp only [List.getElem?_toArray, List.getElem?_cons_succ, List.getElem?_cons_zero]; rfl)
      case hq60_22 => exact fun _ _ _ h => h
      case hy60_22 =>
        refine Or.inl ⟨by rfl, ?_⟩
        intro wS hSw
        try dsimp only at hSw
        obtain ⟨q0, q1, q2, q3, q4, q5, q6, q7, q8, q9, q10, q11⟩ := hSw
        go_simp
        try with_reducible rfl
      simp only [Act.put, List.setIfInBounds_toArray, List.set_cons_zero, List.set_cons_succ]
      refine wpAnyH_ready (rs := [23]) (by kernel_rfl) (by simp) ?_
      refine AllReadyH.cons rfl (fun K hK => ?_) AllReadyH.nil
      go_simp
      refine (int2_any _ 1 (by omega) (by omega)).mono ?_
      rintro e w14 ⟨v3, rfl, f3, hf14⟩
      replace rA := rA.fwd hf14
      replace rB := rB.fwd hf14
      replace rC := rC.fwd hf14
      replace rD := rD.fwd hf14
      replace f1 := f1.fwd hf14
      replace f2 := f2.fwd hf14
      replace kA := kA.fwd hf14
      replace kB := kB.fwd hf14
      replace kC := kC.fwd hf14
      replace kD := kD.fwd hf14
      replace hF := hF.trans hf14
      clear hf14
      clear ac0 ac1 ac2
      have ac0 := BlkV.cell kA 0 rfl
      have ac1 := BlkV.cell kA 1 rfl
      have ac2 := BlkV.cell kA 2 rfl
      clear bc0 bc1 bc2
      have bc0 := BlkV.cell kB 0 rfl
      have bc1 := BlkV.cell kB 1 rfl
      have bc2 := BlkV.cell kB 2 rfl
      clear cc0 cc1 cc2
      have cc0 := BlkV.cell kC 0 rfl
      have cc1 := BlkV.cell kC 1 rfl
      have cc2 := BlkV.cell kC 2 rfl
      clear dc0 dc1 dc2
      have dc0 := BlkV.cell kD 0 rfl
      have dc1 := BlkV.cell kD 1 rfl
      have dc2 := BlkV.cell kD 2 rfl
      go_wp2_with fail
      clear hHeld
      refine hK.out _ _ ⟨by with_reducible assumption, by with_reducible assumption, by with_reducible assumption, by with_reducible assumption, by with_reducible assumption, by with_reducible assumption, by with_reducible assumption, by with_reducible assumption, by with_reducible assumption, by with_reducible assumption, by with_reducible assumption, by with_reducible assumption⟩ (fun hHeld => ?_)
      clear hK K
      try simp only [Act.put, List.setIfInBounds_toArray, List.set_cons_zero, List.set_cons_succ]
      refine wpAnyH_ready (rs := [24]) (by kernel_rfl) (by simp) ?_
      refine AllReadyH.cons rfl (fun K hK => ?_) AllReadyH.nil
      go_simp
      refine (same2_true rC f3 (by omega) (by omega) (HC1.out)).mono ?_
      rintro e w15 ⟨rfl, hf15⟩
      replace rA := rA.fwd hf15
      replace rB := rB.fwd hf15
      replace rC := rC.fwd hf15
      replace rD := rD.fwd hf15
      replace f1 := f1.fwd hf15
      replace f2 := f2.fwd hf15
      replace f3 := f3.fwd hf15
      replace kA := kA.fwd hf15
      replace kB := kB.fwd hf15
      replace kC := kC.fwd hf15
      replace kD := kD.fwd hf15
      replace hF := hF.trans hf15
      clear hf15
      clear ac0 ac1 ac2
      have ac0 := BlkV.cell kA 0 rfl
      have ac1 := BlkV.cell kA 1 rfl
      have ac2 := BlkV.cell kA 2 rfl
      clear bc0 bc1 bc2
      have bc0 := BlkV.cell kB 0 rfl
      have bc1 := BlkV.cell kB 1 rfl
      have bc2 := BlkV.cell kB 2 rfl
      clear cc0 cc1 cc2
      have cc0 := BlkV.cell kC 0 rfl
      have cc1 := BlkV.cell kC 1 rfl
      have cc2 := BlkV.cell kC 2 rfl
      clear dc0 dc1 dc2
      have dc0 := BlkV.cell kD 0 rfl
      have dc1 := BlkV.cell kD 1 rfl
      have dc2 := BlkV.cell kD 2 rfl
      go_wp2_with fail
      clear hHeld
      refine hK.out _ _ ⟨by with_reducible assumption, by with_reducible assumption, by with_reducible assumption, by with_reducible assumption, by with_reducible assumption, by with_reducible assumption, by with_reducible assumption, by with_reducible assumption, by with_reducible assumption, by with_reducible assumption, by with_reducible assumption, by with_reducible assumption⟩ (fun hHeld => ?_)
      clear hK K
      try simp only [Act.put, List.setIfInBounds_toArray, List.set_cons_zero, List.set_cons_succ]
      refine wpAnyH_take (i := 25) (oi := ?oi61_25) (v := ?vv61_25) ?hi61_25 (by kernel_rfl) (by kernel_rfl) (by kernel_rfl) ?hq61_25 ?hy61_25 hHeld ?rest61_25
      case hi61_25 => (simp only [List.getElem?_toArray, List.getElem?_cons_succ, List.getElem?_cons_zero]; rfl)
      case hq61_25 => exact fun _ _ _ h => h
      case hy61_25 =>
        refine Or.inl ⟨by rfl, ?_⟩
        intro wS hSw
        try dsimp only at hSw
        obtain ⟨q0, q1, q2, q3, q4, q5, q6, q7, q8, q9, q10, q11⟩ := hSw
        go_simp
        try with_reducible rfl
      simp only [Act.put, List.setIfInBounds_toArray, List.set_cons_zero, List.set_cons_succ]
      refine wpAnyH_take (i := 26) (oi := ?oi62_26) (v := ?vv62_26) ?hi62_26 (by kernel_rfl) (by kernel_rfl) (by kernel_rfl) ?hq62_26 ?hy62_26 hHeld ?rest62_26
      case hi62_26 => (simp only [List.getElem?_toArray, List.getElem?_cons_succ, List.getElem?_cons_zero]; rfl)
      case hq62_26 => exact fun _ _ _ h => h
      case hy62_26 =>
        refine Or.inl ⟨by rfl, ?_⟩
        intro wS hSw
        try dsimp only at hSw
        obtain ⟨q0, q1, q2, q3, q4, q5, q6, q7, q8, q9, q10, q11⟩ := hSw
        go_simp
        try with_reducible rfl
      simp only [Act.put, List.setIfInBounds_toArray, List.set_cons_zero, List.set_cons_succ]
      refine wpAnyH_take (i := 27) (oi := ?oi63_27) (v := ?vv63_27) ?hi63_27 (by kernel_rfl) (by kernel_rfl) (by kernel_rfl) ?hq63_27 ?hy63_27 hHeld ?rest63_27
      case hi63_27 => (simp only [List.getElem?_toArray, List.getElem?_cons_succ, List.getElem?_cons_zero]; rfl)
      case hq63_27 => exact fun _ _ _ h => h
      case hy63_27 =>
        refine Or.inl ⟨by rfl, ?_⟩
        intro wS hSw
        try dsimp only at hSw
        obtain ⟨q0, q1, q2, q3, q4, q5, q6, q7, q8, q9, q10, q11⟩ := hSw
        go_simp
        try with_reducible rfl
      simp only [Act.put, List.setIfInBounds_toArray, List.set_cons_zero, List.set_cons_succ]
      refine wpAnyH_take (i := 28) (oi := ?oi64_28) (v := ?vv64_28) ?hi64_28 (by kernel_rfl) (by kernel_rfl) (by kernel_rfl) ?hq64_28 ?hy64_28 hHeld ?rest64_28
      case hi64_28 => (simp only [List.getElem?_toArray, List.getElem?_cons_succ, List.getElem?_cons_zero]; rfl)
      case hq64_28 => exact fun _ _ _ h => h
      case hy64_28 =>
        refine Or.inl ⟨by rfl, ?_⟩
        intro wS hSw
        try dsimp only at hSw
        obtain ⟨q0, q1, q2, q3, q4, q5, q6, q7, q8, q9, q10, q11⟩ := hSw
        go_simp
        try with_reducible rfl
      simp only [Act.put, List.setIfInBounds_toArray, List.set_cons_zero, List.set_cons_succ]
      refine wpAnyH_take (i := 29) (oi := ?oi65_29) (v := ?vv65_29) ?hi65_29 (by kernel_rfl) (by kernel_rfl) (by kernel_rfl) ?hq65_29 ?hy65_29 hHeld ?rest65_29
      case hi65_29 => (simp only [List.getElem?_toArray, List.getElem?_cons_succ, List.getElem?_cons_zero]; rfl)
      case hq65_29 => exact fun _ _ _ h => h
      case hy65_29 =>
        refine Or.inl ⟨by rfl, ?_⟩
        intro wS hSw
        try dsimp only at hSw
        obtain ⟨q0, q1, q2, q3, q4, q5, q6, q7, q8, q9, q10, q11⟩ := hSw
        go_simp
        try with_reducible rfl
      simp only [Act.put, List.setIfInBounds_toArray, List.set_cons_zero, List.set_cons_succ]
      refine wpAnyH_take (i := 30) (oi := ?oi66_30) (v := ?vv66_30) ?hi66_30 (by kernel_rfl) (by kernel_rfl) (by kernel_rfl) ?hq66_30 ?hy66_30 hHeld ?rest66_30
      case hi66_30 => (simp only [List.getElem?_toArray, List.getElem?_cons_succ, List.getElem?_cons_zero]; rfl)
      case hq66_30 => exact fun _ _ _ h => h
      case hy66_30 =>
        refine Or.inl ⟨by rfl, ?_⟩
        intro wS hSw
        try dsimp only at hSw
        obtain ⟨q0, q1, q2, q3, q4, q5, q6, q7, q8, q9, q10, q11⟩ := hSw
        go_simp
        try with_reducible rfl
      simp only [Act.put, List.setIfInBounds_toArray, List.set_cons_zero, List.set_cons_succ]
      refine wpAnyH_take (i := 31) (oi := ?oi67_31) (v := ?vv67_31) ?hi67_31 (by kernel_rfl) (by kernel_rfl) (by kernel_rfl) ?hq67_31 ?hy67_31 hHeld ?rest67_31
      case hi67_31 => (simp only [List.getElem?_toArray, List.getElem?_cons_succ, List.getElem?_cons_zero]; rfl)
      case hq67_31 => exact fun _ _ _ h => h
      case hy67_31 =>
        refine Or.inl ⟨by rfl, ?_⟩
        intro wS hSw
        try dsimp only at hSw
        obtain ⟨q0, q1, q2, q3, q4, q5, q6, q7, q8, q9, q10, q11⟩ := hSw
        go_simp
        try with_reducible rfl
      simp only [Act.put, List.setIfInBounds_toArray, List.set_cons_zero, List.set_cons_succ]
      refine wpAnyH_take (i := 32) (oi := ?oi68_32) (v := ?vv68_32) ?hi68_32 (by kernel_rfl) (by kernel_rfl) (by kernel_rfl) ?hq68_32 ?hy68_32 hHeld ?rest68_32
      case hi68_32 => (simp only [List.getElem?_toArray, List.getElem?_cons_succ, List.getElem?_cons_zero]; rfl)
      case hq68_32 => exact fun _ _ _ h => h
      case hy68_32 =>
        refine Or.inl ⟨by rfl, ?_⟩
        intro wS hSw
        try dsimp only at hSw
        obtain ⟨q0, q1, q2, q3, q4, q5, q6, q7, q8, q9, q10, q11⟩ := hSw
        go_simp
        try with_reducible rfl
      simp only [Act.put, List.setIfInBounds_toArray, List.set_cons_zero, List.set_cons_succ]
      refine wpAnyH_take (i := 33) (oi := ?oi69_33) (v := ?vv69_33) ?hi69_33 (by kernel_rfl) (by kernel_rfl) (by kernel_rfl) ?hq69_33 ?hy69_33 hHeld ?rest69_33
      case hi69_33 => (simp only [List.getElem?_toArray, List.getElem?_cons_succ, List.getElem?_cons_zero]; rfl)
      case hq69_33 => exact fun _ _ _ h => h
      case hy69_33 =>
        refine Or.inl ⟨by rfl, ?_⟩
        intro wS hSw
        try dsimp only at hSw
        obtain ⟨q0, q1, q2, q3, q4, q5, q6, q7, q8, q9, q10, q11⟩ := hSw
        go_simp
        try with_reducible rfl
      simp only [Act.put, List.setIfInBounds_toArray, List.set_cons_zero, List.set_cons_succ]
      refine wpAnyH_take (i := 34) (oi := ?oi70_34) (v := ?vv70_34) ?hi70_34 (by kernel_rfl) (by kernel_rfl) (by kernel_rfl) ?hq70_34 ?hy70_34 hHeld ?rest70_34
      case hi70_34 => (simp only [List.getElem?_toArray, List.getElem?_cons_succ, List.getElem?_cons_zero]; rfl)
      case hq70_34 => exact fun _ _ _ h => h
      case hy70_34 =>
        refine Or.inl ⟨by rfl, ?_⟩
        intro wS hSw
        try dsimp only at hSw
        obtain ⟨q0, q1, q2, q3, q4, q5, q6, q7, q8, q9, q10, q11⟩ := hSw
        go_simp
        try with_reducible rfl
      simp only [Act.put, List.setIfInBounds_toArray, List.set_cons_zero, List.set_cons_succ]
      refine wpAnyH_take (i := 35) (oi := ?oi71_35) (v := ?vv71_35) ?hi71_35 (by kernel_rfl) (by kernel_rfl) (by kernel_rfl) ?hq71_35 ?hy71_35 hHeld ?rest71_35
      case hi71_35 => (simp only [List.getElem?_toArray, List.getElem?_cons_succ, List.getElem?_cons_zero]; rfl)
      case hq71_35 => exact fun _ _ _ h => h
      case hy71_35 =>
        refine Or.inl ⟨by rfl, ?_⟩
        intro wS hSw
        try dsimp only at hSw
        obtain ⟨q0, q1, q2, q3, q4, q5, q6, q7, q8, q9, q10, q11⟩ := hSw
        go_simp
        try with_reducible rfl
      simp only [Act.put, List.setIfInBounds_toArray, List.set_cons_zero, List.set_cons_succ]
      refine wpAnyH_take (i := 36) (oi := ?oi72_36) (v := ?vv72_36) ?hi72_36 (by kernel_rfl) (by kernel_rfl) (by kernel_rfl) ?hq72_36 ?hy72_36 hHeld ?rest72_36
      case hi72_36 => (simp only [List.getElem?_toArray, List.getElem?_cons_succ, List.getElem?_cons_zero]; rfl)
      case hq72_36 => exact fun _ _ _ h => h
      case hy72_36 =>
        refine Or.inl ⟨by rfl, ?_⟩
        intro wS hSw
        try dsimp only at hSw
        obtain ⟨q0, q1, q2, q3, q4, q5, q6, q7, q8, q9, q10, q11⟩ := hSw
        go_simp
        try with_reducible rfl
      simp only [Act.put, List.setIfInBounds_toArray, List.set_cons_zero, List.set_cons_succ]
      refine wpAnyH_take (i := 37) (oi := ?oi73_37) (v := ?vv73_37) ?hi73_37 (by kernel_rfl) (by kernel_rfl) (by kernel_rfl) ?hq73_37 ?hy73_37 hHeld ?rest73_37
      case hi73_37 => (simp only [List.getElem?_toArray, List.getElem?_cons_succ, List.getElem?_cons_zero]; rfl)
      case hq73_37 => exact fun _ _ _ h => h
      case hy73_37 =>
        refine Or.inl ⟨by rfl, ?_⟩
        intro wS hSw
        try dsimp only at hSw
        obtain ⟨q0, q1, q2, q3, q4, q5, q6, q7, q8, q9, q10, q11⟩ := hSw
        go_simp
        try with_reducible rfl
      simp only [Act.put, List.setIfInBounds_toArray, List.set_cons_zero, List.set_cons_succ]
      refine wpAnyH_take (i := 38) (oi := ?oi74_38) (v := ?vv74_38) ?hi74_38 (by kernel_rfl) (by kernel_rfl) (by kernel_rfl) ?hq74_38 ?hy74_38 hHeld ?rest74_38
      case hi74_38 => (simp only [List.getElem?_toArray, List.getElem?_cons_succ, List.getElem?_cons_zero]; rfl)
      case hq74_38 => exact fun _ _ _ h => h
      case hy74_38 =>
        refine Or.inl ⟨by rfl, ?_⟩
        intro wS hSw
        try dsimp only at hSw
        obtain ⟨q0, q1, q2, q3, q4, q5, q6, q7, q8, q9, q10, q11⟩ := hSw
        go_simp
        try with_reducible rfl
      simp only [Act.put, List.setIfInBounds_toArray, List.set_cons_zero, List.set_cons_succ]
      refine wpAnyH_take (i := 39) (oi := ?oi75_39) (v := ?vv75_39) ?hi75_39 (by kernel_rfl) (by kernel_rfl) (by kernel_rfl) ?hq75_39 ?hy75_39 hHeld ?rest75_39
      case hi75_39 => (simp only [List.getElem?_toArray, List.getElem?_cons_succ, List.getElem?_cons_zero]; rfl)
      case hq75_39 => exact fun _ _ _ h => h
      case hy75_39 =>
        refine Or.inl ⟨by rfl, ?_⟩
        intro wS hSw
        try dsimp only at hSw
        obtain ⟨q0, q1, q2, q3, q4, q5, q6, q7, q8, q9, q10, q11⟩ := hSw
        go_simp
        try with_reducible rfl
      simp only [Act.put, List.setIfInBounds_toArray, List.set_cons_zero, List.set_cons_succ]
      refine wpAnyH_take (i := 40) (oi := ?oi76_40) (v := ?vv76_40) ?hi76_40 (by kernel_rfl) (by kernel_rfl) (by kernel_rfl) ?hq76_40 ?hy76_40 hHeld ?rest76_40
      case hi76_40 => (simp only [List.getElem?_toArray, List.getElem?_cons_succ, List.getElem?_cons_zero]; rfl)
      case hq76_40 => exact fun _ _ _ h => h
      case hy76_40 =>
        refine Or.inl ⟨by rfl, ?_⟩
        intro wS hSw
        try dsimp only at hSw
        obtain ⟨q0, q1, q2, q3, q4, q5, q6, q7, q8, q9, q10, q11⟩ := hSw
        go_simp
        try with_reducible rfl
      simp only [Act.put, List.setIfInBounds_toArray, List.set_cons_zero, List.set_cons_succ]
      refine wpAnyH_take (i := 41) (oi := ?oi77_41) (v := ?vv77_41) ?hi77_41 (by kernel_rfl) (by kernel_rfl) (by kernel_rfl) ?hq77_41 ?hy77_41 hHeld ?rest77_41
      case hi77_41 => (simp only [List.getElem?_toArray, List.getElem?_cons_succ, List.getElem?_cons_zero]; rfl)
      case hq77_41 => exact fun _ _ _ h => h
      case hy77_41 =>
        refine Or.inl ⟨by rfl, ?_⟩
        intro wS hSw
        try dsimp only at hSw
        obtain ⟨q0, q1, q2, q3, q4, q5, q6, q7, q8, q9, q10, q11⟩ := hSw
        go_simp
        try with_reducible rfl
      simp only [Act.put, List.setIfInBounds_toArray, List.set_cons_zero, List.set_cons_succ]
      refine wpAnyH_ready (rs := [42]) (by kernel_rfl) (by simp) ?_
      refine AllReadyH.cons rfl (fun K hK => ?_) AllReadyH.nil
      go_simp
      refine (rtext_raw rD.rw' (by omega) (by omega)).mono ?_
      rintro e w16 ⟨rfl, hf16⟩
      replace rA := rA.fwd hf16
      replace rB := rB.fwd hf16
      replace rC := rC.fwd hf16
      replace rD := rD.fwd hf16
      replace f1 := f1.fwd hf16
      replace f2 := f2.fwd hf16
      replace f3 := f3.fwd hf16
      replace kA := kA.fwd hf16
      replace kB := kB.fwd hf16
      replace kC := kC.fwd hf16
      replace kD := kD.fwd hf16
      replace hF := hF.trans hf16
      clear hf16
      clear ac0 ac1 ac2
      have ac0 := BlkV.cell kA 0 rfl
      have ac1 := BlkV.cell kA 1 rfl
      have ac2 := BlkV.cell kA 2 rfl
      clear bc0 bc1 bc2
      have bc0 := BlkV.cell kB 0 rfl
      have bc1 := BlkV.cell kB 1 rfl
      have bc2 := BlkV.cell kB 2 rfl
      clear cc0 cc1 cc2
      have cc0 := BlkV.cell kC 0 rfl
      have cc1 := BlkV.cell kC 1 rfl
      have cc2 := BlkV.cell kC 2 rfl
      clear dc0 dc1 dc2
      have dc0 := BlkV.cell kD 0 rfl
      have dc1 := BlkV.cell kD 1 rfl
      have dc2 := BlkV.cell kD 2 rfl
      rw [HTD.out]
      go_wp2_with fail
      clear hHeld
      refine hK.out _ _ ⟨by with_reducible assumption, by with_reducible assumption, by with_reducible assumption, by with_reducible assumption, by with_reducible assumption, by with_reducible assumption, by with_reducible assumption, by with_reducible assumption, by with_reducible assumption, by with_reducible assumption, by with_reducible assumption, by with_reducible assumption⟩ (fun hHeld => ?_)
      clear hK K
      try simp only [Act.put, List.setIfInBounds_toArray, List.set_cons_zero, List.set_cons_succ]
      refine wpAnyH_take (i := 43) (oi := ?oi78_43) (v := ?vv78_43) ?hi78_43 (by kernel_rfl) (by kernel_rfl) (by kernel_rfl) ?hq78_43 ?hy78_43 hHeld ?rest78_43
      case hi78_43 => (simp only [List.getElem?_toArray, List.getElem?_cons_succ, List.getElem?_cons_zero]; rfl)
      case hq78_43 => exact fun _ _ _ h => h
      case hy78_43 =>
        refine Or.inl ⟨by rfl, ?_⟩
        intro wS hSw
        try dsimp only at hSw
        obtain ⟨q0, q1, q2, q3, q4, q5, q6, q7, q8, q9, q10, q11⟩ := hSw
        go_simp
        try with_reducible rfl
      simp only [Act.put, List.setIfInBounds_toArray, List.set_cons_zero, List.set_cons_succ]
      refine wpAnyH_take (i := 44) (oi := ?oi79_44) (v := ?vv79_44) ?hi79_44 (by kernel_rfl) (by kernel_rfl) (by kernel_rfl) ?hq79_44 ?hy79_44 hHeld ?rest79_44
      case hi79_44 => (simp only [List.getElem?_toArray, List.getElem?_cons_succ, List.getElem?_cons_zero]; rfl)
      case hq79_44 => exact fun _ _ _ h => h
      case hy79_44 =>
        refine Or.inl ⟨by rfl, ?_⟩
        intro wS hSw
        try dsimp only at hSw
        obtain ⟨q0, q1, q2, q3, q4, q5, q6, q7, q8, q9, q10, q11⟩ := hSw
        go_simp
        try with_reducible rfl
      simp only [Act.put, List.setIfInBounds_toArray, List.set_cons_zero, List.set_cons_succ]
      refine wpAnyH_take (i := 45) (oi := ?oi80_45) (v := ?vv80_45) ?hi80_45 (by kernel_rfl) (by kernel_rfl) (by kernel_rfl) ?hq80_45 ?hy80_45 hHeld ?rest80_45
      case hi80_45 => (simp only [List.getElem?_toArray, List.getElem?_cons_succ, List.getElem?_cons_zero]; rfl)
      case hq80_45 => exact fun _ _ _ h => h
      case hy80_45 =>
        refine Or.inl ⟨by rfl, ?_⟩
        intro wS hSw
        try dsimp only at hSw
        obtain ⟨q0, q1, q2, q3, q4, q5, q6, q7, q8, q9, q10, q11⟩ := hSw
        go_simp
        try with_reducible rfl
      simp only [Act.put, List.setIfInBounds_toArray, List.set_cons_zero, List.set_cons_succ]
      refine wpAnyH_done (by kernel_rfl) ?_ _
      go_wp2_with fail
      go_ret
      exact ⟨rfl, hF⟩

end Go.Proofs.YtjkoiocemolcbabDoor
