/- Rational numbers: Right of numbers, both ways of telling it. -/
import Derived.Test.YtcccejhkblnonabYKL
import Derived.Test.YtcccejhkblnonabKI
namespace Go.Proofs.Ytcccejhkblnonab
open Go.RowKit
set_option linter.unusedVariables false
set_option linter.unusedSimpArgs false

theorem right_num {w : World} {v : Value} {n : Nat} (h : Num w v n) : Calls Try.prog 56 #[v] w fun e w' => e = .returned (.bool true) ∧ w = w' := by
  have := right_any (.inl h : Arg w v (lim n))
  rwa [rightB_lim] at this

set_option maxHeartbeats 4000000 in
set_option maxRecDepth 20000 in
theorem rright_raw {w : World} {a : Value} {sa : Bool} {ma da : Nat} (ha : RW w a sa ma da) (bam : nl ma ≤ 10000) (bad : nl da ≤ 10000) (za : da ≠ 0) (hs : ma = 0 → sa = false) (hg : Nat.gcd ma da = 1) :
    Calls Try.prog 53 #[a] w fun e w' => e = .returned (.bool true) ∧ Fwd w w' := by
  have z1 : (da == 0) = false := by simpa using za
  have bo1 : nl 1 ≤ 1 := nl_one (by omega)
  have bg := nl_gcd ma da
  have hdp : 0 < nl da := by rw [nl_pos za]; omega
  have hdne : ((nl da : Int) == 0) = false := by simp; omega
  by_cases hm : ma = 0
  · obtain rfl : sa = false := hs hm
    have hd1 : da = 1 := by rw [hm, Nat.gcd_zero_left] at hg; exact hg
    have z2 : (ma == 0) = true := by simpa using hm
    have z3 : (da == 1) = true := by simpa using hd1
    have n1 : nl ma = 0 := by rw [hm, nl_zero]
    have n2 : nl da = 1 := by rw [hd1]; rfl
    have N3 : Hid ((nl ma : Int) = 0) := hid (by omega)
    have N4 : Hid ((nl da : Int) = 1) := hid (by omega)
    clear n1 n2
    have HM := hid hm
    have HD := hid hd1
    clear hm hd1
    obtain ⟨ao, ac, ap, ae, rfl, a1, a2, a3, a4, aN, aD⟩ := RW.open ha
    clear ha
    have kA : BlkV (w.alloc (.cells #[.bool false, .slice ao (nl (ma)) ac, .slice ap (nl (da)) ae] 32)) (w.heap.size) 32 [.bool false, .slice ao (nl (ma)) ac, .slice ap (nl (da)) ae] := BlkV.made' w (w.heap.size) (by simp) 32 [.bool false, .slice ao (nl (ma)) ac, .slice ap (nl (da)) ae]
    have hF : Fwd w (w.alloc (.cells #[.bool false, .slice ao (nl (ma)) ac, .slice ap (nl (da)) ae] 32)) := (Fwd.refl w).alloc _
    replace aN := aN.fwd hF
    replace aD := aD.fwd hF
    go_enter Try.func53, Try.ntmps53
    have ac0 := BlkV.cell kA 0 rfl
    have ac1 := BlkV.cell kA 1 rfl
    have ac2 := BlkV.cell kA 2 rfl
    go_wp2_with fail
    refine (right_num aN).mono ?_
    rintro e wq ⟨rfl, rfl⟩
    go_wp2_with fail
    refine (right_num aD).mono ?_
    rintro e wq ⟨rfl, rfl⟩
    go_wp2_with fail
    refine (isNought_any aD (by omega)).mono ?_
    rintro e w1 ⟨rfl, hf1⟩
    replace aN := aN.fwd hf1
    replace aD := aD.fwd hf1
    replace kA := kA.fwd hf1
    replace hF := hF.trans hf1
    clear hf1
    clear ac0 ac1 ac2
    have ac0 := BlkV.cell kA 0 rfl
    have ac1 := BlkV.cell kA 1 rfl
    have ac2 := BlkV.cell kA 2 rfl
    go_wp2_with fail
    refine (isNought_any aN (by omega)).mono ?_
    rintro e w2 ⟨rfl, hf2⟩
    replace aN := aN.fwd hf2
    replace aD := aD.fwd hf2
    replace kA := kA.fwd hf2
    replace hF := hF.trans hf2
    clear hf2
    clear ac0 ac1 ac2
    have ac0 := BlkV.cell kA 0 rfl
    have ac1 := BlkV.cell kA 1 rfl
    have ac2 := BlkV.cell kA 2 rfl
    have ha' : RW w2 (.agg #[.bool false, .slice ao (nl ma) ac, .slice ap (nl da) ae]) false ma da := ⟨_, _, rfl, aN, aD⟩
    go_wp2_with fail
    refine (shapeOf_any ha' (by omega) (by omega)).mono ?_
    rintro e w3 ⟨rfl, hf3⟩
    replace aN := aN.fwd hf3
    replace aD := aD.fwd hf3
    replace ha' := ha'.fwd hf3
    replace kA := kA.fwd hf3
    replace hF := hF.trans hf3
    clear hf3
    clear ac0 ac1 ac2
    have ac0 := BlkV.cell kA 0 rfl
    have ac1 := BlkV.cell kA 1 rfl
    have ac2 := BlkV.cell kA 2 rfl
    rw [N3.out, N4.out]
    go_wp2_with fail
    refine (isOne_any aD (by omega)).mono ?_
    rintro e w4 ⟨rfl, hf4⟩
    replace aN := aN.fwd hf4
    replace aD := aD.fwd hf4
    replace ha' := ha'.fwd hf4
    replace kA := kA.fwd hf4
    replace hF := hF.trans hf4
    clear hf4
    clear ac0 ac1 ac2
    have ac0 := BlkV.cell kA 0 rfl
    have ac1 := BlkV.cell kA 1 rfl
    have ac2 := BlkV.cell kA 2 rfl
    go_wp2_with fail
    go_ret
    exact ⟨rfl, hF⟩
  · have z2 : (ma == 0) = false := by simpa using hm
    have HG := hid hg
    clear hm
    obtain ⟨ao, ac, ap, ae, rfl, a1, a2, a3, a4, aN, aD⟩ := RW.open ha
    clear ha
    have kA : BlkV (w.alloc (.cells #[.bool sa, .slice ao (nl (ma)) ac, .slice ap (nl (da)) ae] 32)) (w.heap.size) 32 [.bool sa, .slice ao (nl (ma)) ac, .slice ap (nl (da)) ae] := BlkV.made' w (w.heap.size) (by simp) 32 [.bool sa, .slice ao (nl (ma)) ac, .slice ap (nl (da)) ae]
    have hF : Fwd w (w.alloc (.cells #[.bool sa, .slice ao (nl (ma)) ac, .slice ap (nl (da)) ae] 32)) := (Fwd.refl w).alloc _
    replace aN := aN.fwd hF
    replace aD := aD.fwd hF
    go_enter Try.func53, Try.ntmps53
    have ac0 := BlkV.cell kA 0 rfl
    have ac1 := BlkV.cell kA 1 rfl
    have ac2 := BlkV.cell kA 2 rfl
    go_wp2_with fail
    refine (right_num aN).mono ?_
    rintro e wq ⟨rfl, rfl⟩
    go_wp2_with fail
    refine (right_num aD).mono ?_
    rintro e wq ⟨rfl, rfl⟩
    go_wp2_with fail
    refine (isNought_any aD (by omega)).mono ?_
    rintro e w1 ⟨rfl, hf1⟩
    replace aN := aN.fwd hf1
    replace aD := aD.fwd hf1
    replace kA := kA.fwd hf1
    replace hF := hF.trans hf1
    clear hf1
    clear ac0 ac1 ac2
    have ac0 := BlkV.cell kA 0 rfl
    have ac1 := BlkV.cell kA 1 rfl
    have ac2 := BlkV.cell kA 2 rfl
    go_wp2_with fail
    refine (isNought_any aN (by omega)).mono ?_
    rintro e w2 ⟨rfl, hf2⟩
    replace aN := aN.fwd hf2
    replace aD := aD.fwd hf2
    replace kA := kA.fwd hf2
    replace hF := hF.trans hf2
    clear hf2
    clear ac0 ac1 ac2
    have ac0 := BlkV.cell kA 0 rfl
    have ac1 := BlkV.cell kA 1 rfl
    have ac2 := BlkV.cell kA 2 rfl
    go_wp2_with fail
    refine (gcd_any aN aD (by omega) (by omega)).mono ?_
    rintro e w3 ⟨v1, rfl, h1, hf3⟩
    replace aN := aN.fwd hf3
    replace aD := aD.fwd hf3
    replace kA := kA.fwd hf3
    replace hF := hF.trans hf3
    clear hf3
    clear ac0 ac1 ac2
    have ac0 := BlkV.cell kA 0 rfl
    have ac1 := BlkV.cell kA 1 rfl
    have ac2 := BlkV.cell kA 2 rfl
    rw [HG.out] at h1
    go_wp2_with fail
    refine (isOne_any h1 (by omega)).mono ?_
    rintro e w4 ⟨rfl, hf4⟩
    replace aN := aN.fwd hf4
    replace aD := aD.fwd hf4
    replace h1 := h1.fwd hf4
    replace kA := kA.fwd hf4
    replace hF := hF.trans hf4
    clear hf4
    clear ac0 ac1 ac2
    have ac0 := BlkV.cell kA 0 rfl
    have ac1 := BlkV.cell kA 1 rfl
    have ac2 := BlkV.cell kA 2 rfl
    go_wp2_with fail
    go_ret
    exact ⟨rfl, hF⟩

theorem right_parts (q : Rat) : q.den ≠ 0 ∧ (q.num.natAbs = 0 → negQ q = false) ∧ Nat.gcd q.num.natAbs q.den = 1 := by
  refine ⟨q.den_nz, fun h => ?_, q.reduced⟩
  unfold negQ
  simp only [decide_eq_false_iff_not]
  omega

theorem rright_true {w : World} {a : Value} {p : Rat} (ha : RV w a p) (bp : nr p ≤ 10000) :
    Calls Try.prog 53 #[a] w fun e w' => e = .returned (.bool true) ∧ Fwd w w' :=
  rright_raw ha (nr_le bp).1 (nr_le bp).2 (right_parts p).1 (right_parts p).2.1 (right_parts p).2.2

end Go.Proofs.Ytcccejhkblnonab
