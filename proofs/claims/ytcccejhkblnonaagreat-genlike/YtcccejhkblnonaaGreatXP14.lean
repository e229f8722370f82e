/- Rational numbers: Right of any struct, both ways of telling it. -/
import Derived.Test.YtcccejhkblnonaaGreatYXP9
import Derived.Test.YtcccejhkblnonaaGreatYXP11
namespace Go.Proofs.YtcccejhkblnonaaGreat
open Go.RowKit
set_option linter.unusedVariables false
set_option linter.unusedSimpArgs false

/-- Is a sign, a size, a denominator a right number? -/
def rightM (s : Bool) (m d : Nat) : Bool := !(d == 0) && (!(m == 0 && s) && Nat.gcd m d == 1)
/-- Are a sign and two rows of limbs? -/
def rightR (s : Bool) (xs ys : List Nat) : Bool := rightB xs && (rightB ys && rightM s (val xs) (val ys))
theorem rightB_lim' {xs : List Nat} (h : Ok xs) (hr : rightB xs = true) : xs = lim (val xs) := by
  refine (lim_val h ?_).symm
  unfold rightB at hr
  unfold Norm
  intro e
  rw [List.getLast?_eq_getElem?] at e
  have hl : xs.length ≠ 0 := by
    intro h0
    have : xs = [] := List.eq_nil_of_length_eq_zero h0
    subst this
    simp at e
  rw [List.getD_eq_getElem?_getD, e] at hr
  simp at hr
  exact hl (by simp [hr])
theorem Rd.num {w : World} {v : Value} {xs : List Nat} (h : Rd w v xs) (hr : rightB xs = true) : Num w v (val xs) := by
  unfold Num
  rw [← rightB_lim' h.ok hr]
  exact h

set_option maxHeartbeats 4000000 in
set_option maxRecDepth 20000 in
theorem rright_d0 {w : World} {a : Value} {sa : Bool} {ma da : Nat} (ha : RW w a sa ma da) (bam : nl ma ≤ 10000) (bad : nl da ≤ 10000) (hd : da = 0) :
    Calls Tryz.prog 86 #[a] w fun e w' => e = .returned (.bool false) ∧ Fwd w w' := by
  have bo1 : nl 1 ≤ 1 := nl_one (by omega)
  have bg := nl_gcd ma da
  have z1 : (da == 0) = true := by simpa using hd
  clear hd
  obtain ⟨ao, ac, ap, ae, rfl, a1, a2, a3, a4, aN, aD⟩ := RW.open ha
  clear ha
  have kA : BlkV (w.alloc (.cells #[.bool sa, .slice ao (nl (ma)) ac, .slice ap (nl (da)) ae] 34)) (w.heap.size) 34 [.bool sa, .slice ao (nl (ma)) ac, .slice ap (nl (da)) ae] := BlkV.made' w (w.heap.size) (by simp) 34 [.bool sa, .slice ao (nl (ma)) ac, .slice ap (nl (da)) ae]
  have hF : Fwd w (w.alloc (.cells #[.bool sa, .slice ao (nl (ma)) ac, .slice ap (nl (da)) ae] 34)) := (Fwd.refl w).alloc _
  replace aN := aN.fwd hF
  replace aD := aD.fwd hF
  go_enter Tryz.func86, Tryz.ntmps86
  have ac0 := BlkV.cell kA 0 rfl
  have ac1 := BlkV.cell kA 1 rfl
  have ac2 := BlkV.cell kA 2 rfl
  go_wp2_with fail
  refine (right_num aN).mono ?_
  rintro e wq ⟨rfl, rfl⟩
  go_wp2_with fail
  refine (right_num aD).mono ?_
  rintro e wq ⟨rfl, rfl⟩
  go_wp2_with fail
  refine (isNought_any aD (by omega)).mono ?_
  rintro e w1 ⟨rfl, hf1⟩
  replace aN := aN.fwd hf1
  replace aD := aD.fwd hf1
  replace kA := kA.fwd hf1
  replace hF := hF.trans hf1
  clear hf1
  clear ac0 ac1 ac2
  have ac0 := BlkV.cell kA 0 rfl
  have ac1 := BlkV.cell kA 1 rfl
  have ac2 := BlkV.cell kA 2 rfl
  go_wp2_with fail
  go_ret
  exact ⟨rfl, hF⟩

set_option maxHeartbeats 4000000 in
set_option maxRecDepth 20000 in
theorem right2_d0 {w : World} {a : Value} {sa : Bool} {ma da : Nat} (ha : RW w a sa ma da) (bam : nl ma ≤ 10000) (bad : nl da ≤ 10000) (hd : da = 0) :
    Calls Tryz.prog 73 #[a] w fun e w' => e = .returned (.bool false) ∧ Fwd w w' := by
  have bo1 : nl 1 ≤ 1 := nl_one (by omega)
  have bg := nl_gcd ma da
  have hdz : ((nl da : Int) == 0) = true := by rw [hd, nl_zero]; rfl
  clear hd
  obtain ⟨ao, ac, ap, ae, rfl, a1, a2, a3, a4, aN, aD⟩ := RW.open ha
  clear ha
  have kA : BlkV (w.alloc (.cells #[.bool sa, .slice ao (nl (ma)) ac, .slice ap (nl (da)) ae] 34)) (w.heap.size) 34 [.bool sa, .slice ao (nl (ma)) ac, .slice ap (nl (da)) ae] := BlkV.made' w (w.heap.size) (by simp) 34 [.bool sa, .slice ao (nl (ma)) ac, .slice ap (nl (da)) ae]
  have hF : Fwd w (w.alloc (.cells #[.bool sa, .slice ao (nl (ma)) ac, .slice ap (nl (da)) ae] 34)) := (Fwd.refl w).alloc _
  replace aN := aN.fwd hF
  replace aD := aD.fwd hF
  go_enter Tryz.func73, Tryz.ntmps73
  have ac0 := BlkV.cell kA 0 rfl
  have ac1 := BlkV.cell kA 1 rfl
  have ac2 := BlkV.cell kA 2 rfl
  go_wp2_with fail
  refine (refRight_num aN).mono ?_
  rintro e wq ⟨rfl, rfl⟩
  go_wp2_with fail
  refine (refRight_num aD).mono ?_
  rintro e wq ⟨rfl, rfl⟩
  go_wp2_with fail
  go_ret
  exact ⟨rfl, hF⟩

set_option maxHeartbeats 4000000 in
set_option maxRecDepth 20000 in
theorem rright_neg0 {w : World} {a : Value} {sa : Bool} {ma da : Nat} (ha : RW w a sa ma da) (bam : nl ma ≤ 10000) (bad : nl da ≤ 10000) (hd : da ≠ 0) (hm : ma = 0) (hs : sa = true) :
    Calls Tryz.prog 86 #[a] w fun e w' => e = .returned (.bool false) ∧ Fwd w w' := by
  have bo1 : nl 1 ≤ 1 := nl_one (by omega)
  have bg := nl_gcd ma da
  have z1 : (da == 0) = false := by simpa using hd
  clear hd
  have z2 : (ma == 0) = true := by simpa using hm
  have N3 : Hid ((nl ma : Int) = 0) := hid (by rw [hm, nl_zero]; rfl)
  clear hm
  subst hs
  obtain ⟨ao, ac, ap, ae, rfl, a1, a2, a3, a4, aN, aD⟩ := RW.open ha
  clear ha
  have kA : BlkV (w.alloc (.cells #[.bool true, .slice ao (nl (ma)) ac, .slice ap (nl (da)) ae] 34)) (w.heap.size) 34 [.bool true, .slice ao (nl (ma)) ac, .slice ap (nl (da)) ae] := BlkV.made' w (w.heap.size) (by simp) 34 [.bool true, .slice ao (nl (ma)) ac, .slice ap (nl (da)) ae]
  have hF : Fwd w (w.alloc (.cells #[.bool true, .slice ao (nl (ma)) ac, .slice ap (nl (da)) ae] 34)) := (Fwd.refl w).alloc _
  replace aN := aN.fwd hF
  replace aD := aD.fwd hF
  go_enter Tryz.func86, Tryz.ntmps86
  have ac0 := BlkV.cell kA 0 rfl
  have ac1 := BlkV.cell kA 1 rfl
  have ac2 := BlkV.cell kA 2 rfl
  go_wp2_with fail
  refine (right_num aN).mono ?_
  rintro e wq ⟨rfl, rfl⟩
  go_wp2_with fail
  refine (right_num aD).mono ?_
  rintro e wq ⟨rfl, rfl⟩
  go_wp2_with fail
  refine (isNought_any aD (by omega)).mono ?_
  rintro e w1 ⟨rfl, hf1⟩
  replace aN := aN.fwd hf1
  replace aD := aD.fwd hf1
  replace kA := kA.fwd hf1
  replace hF := hF.trans hf1
  clear hf1
  clear ac0 ac1 ac2
  have ac0 := BlkV.cell kA 0 rfl
  have ac1 := BlkV.cell kA 1 rfl
  have ac2 := BlkV.cell kA 2 rfl
  go_wp2_with fail
  refine (isNought_any aN (by omega)).mono ?_
  rintro e w2 ⟨rfl, hf2⟩
  replace aN := aN.fwd hf2
  replace aD := aD.fwd hf2
  replace kA := kA.fwd hf2
  replace hF := hF.trans hf2
  clear hf2
  clear ac0 ac1 ac2
  have ac0 := BlkV.cell kA 0 rfl
  have ac1 := BlkV.cell kA 1 rfl
  have ac2 := BlkV.cell kA 2 rfl
  have ha' : RW w2 (.agg #[.bool true, .slice ao (nl ma) ac, .slice ap (nl da) ae]) true ma da := ⟨_, _, rfl, aN, aD⟩
  go_wp2_with fail
  refine (shapeOf_any ha' (by omega) (by omega)).mono ?_
  rintro e w3 ⟨rfl, hf3⟩
  replace aN := aN.fwd hf3
  replace aD := aD.fwd hf3
  replace ha' := ha'.fwd hf3
  replace kA := kA.fwd hf3
  replace hF := hF.trans hf3
  clear hf3
  clear ac0 ac1 ac2
  have ac0 := BlkV.cell kA 0 rfl
  have ac1 := BlkV.cell kA 1 rfl
  have ac2 := BlkV.cell kA 2 rfl
  rw [N3.out]
  go_wp2_with fail
  go_ret
  exact ⟨rfl, hF⟩

set_option maxHeartbeats 4000000 in
set_option maxRecDepth 20000 in
theorem right2_neg0 {w : World} {a : Value} {sa : Bool} {ma da : Nat} (ha : RW w a sa ma da) (bam : nl ma ≤ 10000) (bad : nl da ≤ 10000) (hd : da ≠ 0) (hm : ma = 0) (hs : sa = true) :
    Calls Tryz.prog 73 #[a] w fun e w' => e = .returned (.bool false) ∧ Fwd w w' := by
  have bo1 : nl 1 ≤ 1 := nl_one (by omega)
  have bg := nl_gcd ma da
  have hdp : 0 < nl da := by rw [nl_pos hd]; omega
  have hdne : ((nl da : Int) == 0) = false := by simp; omega
  clear hd
  have hmz : ((nl ma : Int) == 0) = true := by rw [hm, nl_zero]; rfl
  clear hm
  subst hs
  obtain ⟨ao, ac, ap, ae, rfl, a1, a2, a3, a4, aN, aD⟩ := RW.open ha
  clear ha
  have kA : BlkV (w.alloc (.cells #[.bool true, .slice ao (nl (ma)) ac, .slice ap (nl (da)) ae] 34)) (w.heap.size) 34 [.bool true, .slice ao (nl (ma)) ac, .slice ap (nl (da)) ae] := BlkV.made' w (w.heap.size) (by simp) 34 [.bool true, .slice ao (nl (ma)) ac, .slice ap (nl (da)) ae]
  have hF : Fwd w (w.alloc (.cells #[.bool true, .slice ao (nl (ma)) ac, .slice ap (nl (da)) ae] 34)) := (Fwd.refl w).alloc _
  replace aN := aN.fwd hF
  replace aD := aD.fwd hF
  go_enter Tryz.func73, Tryz.ntmps73
  have ac0 := BlkV.cell kA 0 rfl
  have ac1 := BlkV.cell kA 1 rfl
  have ac2 := BlkV.cell kA 2 rfl
  go_wp2_with fail
  refine (refRight_num aN).mono ?_
  rintro e wq ⟨rfl, rfl⟩
  go_wp2_with fail
  refine (refRight_num aD).mono ?_
  rintro e wq ⟨rfl, rfl⟩
  go_wp2_with fail
  go_ret
  exact ⟨rfl, hF⟩

set_option maxHeartbeats 4000000 in
set_option maxRecDepth 20000 in
theorem rright_m0 {w : World} {a : Value} {sa : Bool} {ma da : Nat} (ha : RW w a sa ma da) (bam : nl ma ≤ 10000) (bad : nl da ≤ 10000) (hd : da ≠ 0) (hm : ma = 0) (hs : sa = false) (hg : da ≠ 1) :
    Calls Tryz.prog 86 #[a] w fun e w' => e = .returned (.bool false) ∧ Fwd w w' := by
  have bo1 : nl 1 ≤ 1 := nl_one (by omega)
  have bg := nl_gcd ma da
  have z1 : (da == 0) = false := by simpa using hd
  clear hd
  have z2 : (ma == 0) = true := by simpa using hm
  have N3 : Hid ((nl ma : Int) = 0) := hid (by rw [hm, nl_zero]; rfl)
  have z3 : (da == 1) = false := by simpa using hg
  clear hm hg
  subst hs
  by_cases hl : nl da = 1
  · have N4 : Hid ((nl da : Int) = 1) := hid (by omega)
    clear hl
    obtain ⟨ao, ac, ap, ae, rfl, a1, a2, a3, a4, aN, aD⟩ := RW.open ha
    clear ha
    have kA : BlkV (w.alloc (.cells #[.bool false, .slice ao (nl (ma)) ac, .slice ap (nl (da)) ae] 34)) (w.heap.size) 34 [.bool false, .slice ao (nl (ma)) ac, .slice ap (nl (da)) ae] := BlkV.made' w (w.heap.size) (by simp) 34 [.bool false, .slice ao (nl (ma)) ac, .slice ap (nl (da)) ae]
    have hF : Fwd w (w.alloc (.cells #[.bool false, .slice ao (nl (ma)) ac, .slice ap (nl (da)) ae] 34)) := (Fwd.refl w).alloc _
    replace aN := aN.fwd hF
    replace aD := aD.fwd hF
    go_enter Tryz.func86, Tryz.ntmps86
    have ac0 := BlkV.cell kA 0 rfl
    have ac1 := BlkV.cell kA 1 rfl
    have ac2 := BlkV.cell kA 2 rfl
    go_wp2_with fail
    refine (right_num aN).mono ?_
    rintro e wq ⟨rfl, rfl⟩
    go_wp2_with fail
    refine (right_num aD).mono ?_
    rintro e wq ⟨rfl, rfl⟩
    go_wp2_with fail
    refine (isNought_any aD (by omega)).mono ?_
    rintro e w1 ⟨rfl, hf1⟩
    replace aN := aN.fwd hf1
    replace aD := aD.fwd hf1
    replace kA := kA.fwd hf1
    replace hF := hF.trans hf1
    clear hf1
    clear ac0 ac1 ac2
    have ac0 := BlkV.cell kA 0 rfl
    have ac1 := BlkV.cell kA 1 rfl
    have ac2 := BlkV.cell kA 2 rfl
    go_wp2_with fail
    refine (isNought_any aN (by omega)).mono ?_
    rintro e w2 ⟨rfl, hf2⟩
    replace aN := aN.fwd hf2
    replace aD := aD.fwd hf2
    replace kA := kA.fwd hf2
    replace hF := hF.trans hf2
    clear hf2
    clear ac0 ac1 ac2
    have ac0 := BlkV.cell kA 0 rfl
    have ac1 := BlkV.cell kA 1 rfl
    have ac2 := BlkV.cell kA 2 rfl
    have ha' : RW w2 (.agg #[.bool false, .slice ao (nl ma) ac, .slice ap (nl da) ae]) false ma da := ⟨_, _, rfl, aN, aD⟩
    go_wp2_with fail
    refine (shapeOf_any ha' (by omega) (by omega)).mono ?_
    rintro e w3 ⟨rfl, hf3⟩
    replace aN := aN.fwd hf3
    replace aD := aD.fwd hf3
    replace ha' := ha'.fwd hf3
    replace kA := kA.fwd hf3
    replace hF := hF.trans hf3
    clear hf3
    clear ac0 ac1 ac2
    have ac0 := BlkV.cell kA 0 rfl
    have ac1 := BlkV.cell kA 1 rfl
    have ac2 := BlkV.cell kA 2 rfl
    rw [N3.out, N4.out]
    go_wp2_with fail
    refine (isOne_any aD (by omega)).mono ?_
    rintro e w4 ⟨rfl, hf4⟩
    replace aN := aN.fwd hf4
    replace aD := aD.fwd hf4
    replace ha' := ha'.fwd hf4
    replace kA := kA.fwd hf4
    replace hF := hF.trans hf4
    clear hf4
    clear ac0 ac1 ac2
    have ac0 := BlkV.cell kA 0 rfl
    have ac1 := BlkV.cell kA 1 rfl
    have ac2 := BlkV.cell kA 2 rfl
    go_wp2_with fail
    go_ret
    exact ⟨rfl, hF⟩
  · have n4 : ((nl da : Int) = 1) = False := by simp; omega
    have n5 : (nl da = 1) = False := by simp [hl]
    clear hl
    obtain ⟨ao, ac, ap, ae, rfl, a1, a2, a3, a4, aN, aD⟩ := RW.open ha
    clear ha
    have kA : BlkV (w.alloc (.cells #[.bool false, .slice ao (nl (ma)) ac, .slice ap (nl (da)) ae] 34)) (w.heap.size) 34 [.bool false, .slice ao (nl (ma)) ac, .slice ap (nl (da)) ae] := BlkV.made' w (w.heap.size) (by simp) 34 [.bool false, .slice ao (nl (ma)) ac, .slice ap (nl (da)) ae]
    have hF : Fwd w (w.alloc (.cells #[.bool false, .slice ao (nl (ma)) ac, .slice ap (nl (da)) ae] 34)) := (Fwd.refl w).alloc _
    replace aN := aN.fwd hF
    replace aD := aD.fwd hF
    go_enter Tryz.func86, Tryz.ntmps86
    have ac0 := BlkV.cell kA 0 rfl
    have ac1 := BlkV.cell kA 1 rfl
    have ac2 := BlkV.cell kA 2 rfl
    go_wp2_with fail
    refine (right_num aN).mono ?_
    rintro e wq ⟨rfl, rfl⟩
    go_wp2_with fail
    refine (right_num aD).mono ?_
    rintro e wq ⟨rfl, rfl⟩
    go_wp2_with fail
    refine (isNought_any aD (by omega)).mono ?_
    rintro e w1 ⟨rfl, hf1⟩
    replace aN := aN.fwd hf1
    replace aD := aD.fwd hf1
    replace kA := kA.fwd hf1
    replace hF := hF.trans hf1
    clear hf1
    clear ac0 ac1 ac2
    have ac0 := BlkV.cell kA 0 rfl
    have ac1 := BlkV.cell kA 1 rfl
    have ac2 := BlkV.cell kA 2 rfl
    go_wp2_with fail
    refine (isNought_any aN (by omega)).mono ?_
    rintro e w2 ⟨rfl, hf2⟩
    replace aN := aN.fwd hf2
    replace aD := aD.fwd hf2
    replace kA := kA.fwd hf2
    replace hF := hF.trans hf2
    clear hf2
    clear ac0 ac1 ac2
    have ac0 := BlkV.cell kA 0 rfl
    have ac1 := BlkV.cell kA 1 rfl
    have ac2 := BlkV.cell kA 2 rfl
    have ha' : RW w2 (.agg #[.bool false, .slice ao (nl ma) ac, .slice ap (nl da) ae]) false ma da := ⟨_, _, rfl, aN, aD⟩
    go_wp2_with fail
    refine (shapeOf_any ha' (by omega) (by omega)).mono ?_
    rintro e w3 ⟨rfl, hf3⟩
    replace aN := aN.fwd hf3
    replace aD := aD.fwd hf3
    replace ha' := ha'.fwd hf3
    replace kA := kA.fwd hf3
    replace hF := hF.trans hf3
    clear hf3
    clear ac0 ac1 ac2
    have ac0 := BlkV.cell kA 0 rfl
    have ac1 := BlkV.cell kA 1 rfl
    have ac2 := BlkV.cell kA 2 rfl
    rw [N3.out]
    go_wp2_with fail
    go_ret
    exact ⟨rfl, hF⟩

set_option maxHeartbeats 4000000 in
set_option maxRecDepth 20000 in
theorem right2_m0 {w : World} {a : Value} {sa : Bool} {ma da : Nat} (ha : RW w a sa ma da) (bam : nl ma ≤ 10000) (bad : nl da ≤ 10000) (hd : da ≠ 0) (hm : ma = 0) (hs : sa = false) (hg : Nat.gcd ma da ≠ 1) :
    Calls Tryz.prog 73 #[a] w fun e w' => e = .returned (.bool false) ∧ Fwd w w' := by
  have bo1 : nl 1 ≤ 1 := nl_one (by omega)
  have bg := nl_gcd ma da
  have hdp : 0 < nl da := by rw [nl_pos hd]; omega
  have hdne : ((nl da : Int) == 0) = false := by simp; omega
  clear hd
  have HN : Hid (∃ ci : Int, cmpW ((Nat.gcd ma da : Nat) : Int) ((1 : Nat) : Int) = ci ∧ (ci == 0) = false) := hid ⟨_, rfl, cmpI_ne hg⟩
  clear hg
  have hmz : ((nl ma : Int) == 0) = true := by rw [hm, nl_zero]; rfl
  clear hm
  subst hs
  obtain ⟨ao, ac, ap, ae, rfl, a1, a2, a3, a4, aN, aD⟩ := RW.open ha
  clear ha
  have kA : BlkV (w.alloc (.cells #[.bool false, .slice ao (nl (ma)) ac, .slice ap (nl (da)) ae] 34)) (w.heap.size) 34 [.bool false, .slice ao (nl (ma)) ac, .slice ap (nl (da)) ae] := BlkV.made' w (w.heap.size) (by simp) 34 [.bool false, .slice ao (nl (ma)) ac, .slice ap (nl (da)) ae]
  have hF : Fwd w (w.alloc (.cells #[.bool false, .slice ao (nl (ma)) ac, .slice ap (nl (da)) ae] 34)) := (Fwd.refl w).alloc _
  replace aN := aN.fwd hF
  replace aD := aD.fwd hF
  go_enter Tryz.func73, Tryz.ntmps73
  have ac0 := BlkV.cell kA 0 rfl
  have ac1 := BlkV.cell kA 1 rfl
  have ac2 := BlkV.cell kA 2 rfl
  go_wp2_with fail
  refine (refRight_num aN).mono ?_
  rintro e wq ⟨rfl, rfl⟩
  go_wp2_with fail
  refine (refRight_num aD).mono ?_
  rintro e wq ⟨rfl, rfl⟩
  go_wp2_with fail
  refine (refGcd_any aN aD (by omega) (by omega)).mono ?_
  rintro e w1 ⟨v1, rfl, h1, hf1⟩
  replace aN := aN.fwd hf1
  replace aD := aD.fwd hf1
  replace kA := kA.fwd hf1
  replace hF := hF.trans hf1
  clear hf1
  clear ac0 ac1 ac2
  have ac0 := BlkV.cell kA 0 rfl
  have ac1 := BlkV.cell kA 1 rfl
  have ac2 := BlkV.cell kA 2 rfl
  go_wp2_with fail
  refine (one_new _).mono ?_
  rintro e w2 ⟨v2, rfl, h2, hf2, hnw⟩
  replace aN := aN.fwd hf2
  replace aD := aD.fwd hf2
  replace h1 := h1.fwd hf2
  replace kA := kA.fwd hf2
  replace hF := hF.trans hf2
  clear hf2
  clear ac0 ac1 ac2
  have ac0 := BlkV.cell kA 0 rfl
  have ac1 := BlkV.cell kA 1 rfl
  have ac2 := BlkV.cell kA 2 rfl
  clear hnw
  go_wp2_with fail
  refine (refCmp_any h1 h2 (by omega) (by omega)).mono ?_
  rintro e w3 ⟨rfl, hf3⟩
  replace aN := aN.fwd hf3
  replace aD := aD.fwd hf3
  replace h1 := h1.fwd hf3
  replace h2 := h2.fwd hf3
  replace kA := kA.fwd hf3
  replace hF := hF.trans hf3
  clear hf3
  clear ac0 ac1 ac2
  have ac0 := BlkV.cell kA 0 rfl
  have ac1 := BlkV.cell kA 1 rfl
  have ac2 := BlkV.cell kA 2 rfl
  obtain ⟨ci, e0, hci⟩ := HN.out
  have e1 : cmpW ((Nat.gcd ma da : Nat) : Int) 1 = ci := e0
  first | rw [e0] | rw [e1]
  clear e0 e1
  go_wp2_with fail
  go_ret
  exact ⟨rfl, hF⟩

set_option maxHeartbeats 4000000 in
set_option maxRecDepth 20000 in
theorem rright_gcd {w : World} {a : Value} {sa : Bool} {ma da : Nat} (ha : RW w a sa ma da) (bam : nl ma ≤ 10000) (bad : nl da ≤ 10000) (hd : da ≠ 0) (hm : ma ≠ 0) (hg : Nat.gcd ma da ≠ 1) :
    Calls Tryz.prog 86 #[a] w fun e w' => e = .returned (.bool false) ∧ Fwd w w' := by
  have bo1 : nl 1 ≤ 1 := nl_one (by omega)
  have bg := nl_gcd ma da
  have z1 : (da == 0) = false := by simpa using hd
  clear hd
  have z2 : (ma == 0) = false := by simpa using hm
  have z3 : (Nat.gcd ma da == 1) = false := by simpa using hg
  clear hm hg
  obtain ⟨ao, ac, ap, ae, rfl, a1, a2, a3, a4, aN, aD⟩ := RW.open ha
  clear ha
  have kA : BlkV (w.alloc (.cells #[.bool sa, .slice ao (nl (ma)) ac, .slice ap (nl (da)) ae] 34)) (w.heap.size) 34 [.bool sa, .slice ao (nl (ma)) ac, .slice ap (nl (da)) ae] := BlkV.made' w (w.heap.size) (by simp) 34 [.bool sa, .slice ao (nl (ma)) ac, .slice ap (nl (da)) ae]
  have hF : Fwd w (w.alloc (.cells #[.bool sa, .slice ao (nl (ma)) ac, .slice ap (nl (da)) ae] 34)) := (Fwd.refl w).alloc _
  replace aN := aN.fwd hF
  replace aD := aD.fwd hF
  go_enter Tryz.func86, Tryz.ntmps86
  have ac0 := BlkV.cell kA 0 rfl
  have ac1 := BlkV.cell kA 1 rfl
  have ac2 := BlkV.cell kA 2 rfl
  go_wp2_with fail
  refine (right_num aN).mono ?_
  rintro e wq ⟨rfl, rfl⟩
  go_wp2_with fail
  refine (right_num aD).mono ?_
  rintro e wq ⟨rfl, rfl⟩
  go_wp2_with fail
  refine (isNought_any aD (by omega)).mono ?_
  rintro e w1 ⟨rfl, hf1⟩
  replace aN := aN.fwd hf1
  replace aD := aD.fwd hf1
  replace kA := kA.fwd hf1
  replace hF := hF.trans hf1
  clear hf1
  clear ac0 ac1 ac2
  have ac0 := BlkV.cell kA 0 rfl
  have ac1 := BlkV.cell kA 1 rfl
  have ac2 := BlkV.cell kA 2 rfl
  go_wp2_with fail
  refine (isNought_any aN (by omega)).mono ?_
  rintro e w2 ⟨rfl, hf2⟩
  replace aN := aN.fwd hf2
  replace aD := aD.fwd hf2
  replace kA := kA.fwd hf2
  replace hF := hF.trans hf2
  clear hf2
  clear ac0 ac1 ac2
  have ac0 := BlkV.cell kA 0 rfl
  have ac1 := BlkV.cell kA 1 rfl
  have ac2 := BlkV.cell kA 2 rfl
  go_wp2_with fail
  refine (gcd_any aN aD (by omega) (by omega)).mono ?_
  rintro e w3 ⟨v1, rfl, h1, hf3⟩
  replace aN := aN.fwd hf3
  replace aD := aD.fwd hf3
  replace kA := kA.fwd hf3
  replace hF := hF.trans hf3
  clear hf3
  clear ac0 ac1 ac2
  have ac0 := BlkV.cell kA 0 rfl
  have ac1 := BlkV.cell kA 1 rfl
  have ac2 := BlkV.cell kA 2 rfl
  go_wp2_with fail
  refine (isOne_any h1 (by omega)).mono ?_
  rintro e w4 ⟨rfl, hf4⟩
  replace aN := aN.fwd hf4
  replace aD := aD.fwd hf4
  replace h1 := h1.fwd hf4
  replace kA := kA.fwd hf4
  replace hF := hF.trans hf4
  clear hf4
  clear ac0 ac1 ac2
  have ac0 := BlkV.cell kA 0 rfl
  have ac1 := BlkV.cell kA 1 rfl
  have ac2 := BlkV.cell kA 2 rfl
  rw [z3]
  go_wp2_with fail
  go_ret
  exact ⟨rfl, hF⟩

set_option maxHeartbeats 4000000 in
set_option maxRecDepth 20000 in
theorem right2_gcd {w : World} {a : Value} {sa : Bool} {ma da : Nat} (ha : RW w a sa ma da) (bam : nl ma ≤ 10000) (bad : nl da ≤ 10000) (hd : da ≠ 0) (hm : ma ≠ 0) (hg : Nat.gcd ma da ≠ 1) :
    Calls Tryz.prog 73 #[a] w fun e w' => e = .returned (.bool false) ∧ Fwd w w' := by
  have bo1 : nl 1 ≤ 1 := nl_one (by omega)
  have bg := nl_gcd ma da
  have hdp : 0 < nl da := by rw [nl_pos hd]; omega
  have hdne : ((nl da : Int) == 0) = false := by simp; omega
  clear hd
  have HN : Hid (∃ ci : Int, cmpW ((Nat.gcd ma da : Nat) : Int) ((1 : Nat) : Int) = ci ∧ (ci == 0) = false) := hid ⟨_, rfl, cmpI_ne hg⟩
  clear hg
  have hmp : 0 < nl ma := by rw [nl_pos hm]; omega
  have hmne : ((nl ma : Int) == 0) = false := by simp; omega
  clear hm
  obtain ⟨ao, ac, ap, ae, rfl, a1, a2, a3, a4, aN, aD⟩ := RW.open ha
  clear ha
  have kA : BlkV (w.alloc (.cells #[.bool sa, .slice ao (nl (ma)) ac, .slice ap (nl (da)) ae] 34)) (w.heap.size) 34 [.bool sa, .slice ao (nl (ma)) ac, .slice ap (nl (da)) ae] := BlkV.made' w (w.heap.size) (by simp) 34 [.bool sa, .slice ao (nl (ma)) ac, .slice ap (nl (da)) ae]
  have hF : Fwd w (w.alloc (.cells #[.bool sa, .slice ao (nl (ma)) ac, .slice ap (nl (da)) ae] 34)) := (Fwd.refl w).alloc _
  replace aN := aN.fwd hF
  replace aD := aD.fwd hF
  go_enter Tryz.func73, Tryz.ntmps73
  have ac0 := BlkV.cell kA 0 rfl
  have ac1 := BlkV.cell kA 1 rfl
  have ac2 := BlkV.cell kA 2 rfl
  go_wp2_with fail
  refine (refRight_num aN).mono ?_
  rintro e wq ⟨rfl, rfl⟩
  go_wp2_with fail
  refine (refRight_num aD).mono ?_
  rintro e wq ⟨rfl, rfl⟩
  go_wp2_with fail
  refine (refGcd_any aN aD (by omega) (by omega)).mono ?_
  rintro e w1 ⟨v1, rfl, h1, hf1⟩
  replace aN := aN.fwd hf1
  replace aD := aD.fwd hf1
  replace kA := kA.fwd hf1
  replace hF := hF.trans hf1
  clear hf1
  clear ac0 ac1 ac2
  have ac0 := BlkV.cell kA 0 rfl
  have ac1 := BlkV.cell kA 1 rfl
  have ac2 := BlkV.cell kA 2 rfl
  go_wp2_with fail
  refine (one_new _).mono ?_
  rintro e w2 ⟨v2, rfl, h2, hf2, hnw⟩
  replace aN := aN.fwd hf2
  replace aD := aD.fwd hf2
  replace h1 := h1.fwd hf2
  replace kA := kA.fwd hf2
  replace hF := hF.trans hf2
  clear hf2
  clear ac0 ac1 ac2
  have ac0 := BlkV.cell kA 0 rfl
  have ac1 := BlkV.cell kA 1 rfl
  have ac2 := BlkV.cell kA 2 rfl
  clear hnw
  go_wp2_with fail
  refine (refCmp_any h1 h2 (by omega) (by omega)).mono ?_
  rintro e w3 ⟨rfl, hf3⟩
  replace aN := aN.fwd hf3
  replace aD := aD.fwd hf3
  replace h1 := h1.fwd hf3
  replace h2 := h2.fwd hf3
  replace kA := kA.fwd hf3
  replace hF := hF.trans hf3
  clear hf3
  clear ac0 ac1 ac2
  have ac0 := BlkV.cell kA 0 rfl
  have ac1 := BlkV.cell kA 1 rfl
  have ac2 := BlkV.cell kA 2 rfl
  obtain ⟨ci, e0, hci⟩ := HN.out
  have e1 : cmpW ((Nat.gcd ma da : Nat) : Int) 1 = ci := e0
  first | rw [e0] | rw [e1]
  clear e0 e1
  go_wp2_with fail
  go_ret
  exact ⟨rfl, hF⟩

theorem rright_gen {w : World} {a : Value} {sa : Bool} {ma da : Nat} (ha : RW w a sa ma da) (bam : nl ma ≤ 10000) (bad : nl da ≤ 10000) :
    Calls Tryz.prog 86 #[a] w fun e w' => e = .returned (.bool (rightM sa ma da)) ∧ Fwd w w' := by
  by_cases hd : da = 0
  · have h := rright_d0 ha bam bad hd
    rwa [show rightM sa ma da = false by simp [rightM, hd]]
  · by_cases hm : ma = 0
    · cases hs : sa
      · by_cases hg : Nat.gcd ma da = 1
        · have h := rright_raw ha bam bad hd (fun _ => hs) hg
          rwa [show rightM false ma da = true by simp [rightM, hd, hg]]
        · have h := rright_m0 ha bam bad hd hm hs (by intro h; rw [hm, h] at hg; exact hg rfl)
          rwa [show rightM false ma da = false by simp [rightM, hg]]
      · have h := rright_neg0 ha bam bad hd hm hs
        rwa [show rightM true ma da = false by simp [rightM, hm]]
    · by_cases hg : Nat.gcd ma da = 1
      · have h := rright_raw ha bam bad hd (fun e => absurd e hm) hg
        rwa [show rightM sa ma da = true by simp [rightM, hd, hm, hg]]
      · have h := rright_gcd ha bam bad hd hm hg
        rwa [show rightM sa ma da = false by simp [rightM, hg]]

theorem right2_gen {w : World} {a : Value} {sa : Bool} {ma da : Nat} (ha : RW w a sa ma da) (bam : nl ma ≤ 10000) (bad : nl da ≤ 10000) :
    Calls Tryz.prog 73 #[a] w fun e w' => e = .returned (.bool (rightM sa ma da)) ∧ Fwd w w' := by
  by_cases hd : da = 0
  · have h := right2_d0 ha bam bad hd
    rwa [show rightM sa ma da = false by simp [rightM, hd]]
  · by_cases hm : ma = 0
    · cases hs : sa
      · by_cases hg : Nat.gcd ma da = 1
        · have h := right2_raw ha bam bad hd (fun _ => hs) hg
          rwa [show rightM false ma da = true by simp [rightM, hd, hg]]
        · have h := right2_m0 ha bam bad hd hm hs hg
          rwa [show rightM false ma da = false by simp [rightM, hg]]
      · have h := right2_neg0 ha bam bad hd hm hs
        rwa [show rightM true ma da = false by simp [rightM, hm]]
    · by_cases hg : Nat.gcd ma da = 1
      · have h := right2_raw ha bam bad hd (fun e => absurd e hm) hg
        rwa [show rightM sa ma da = true by simp [rightM, hd, hm, hg]]
      · have h := right2_gcd ha bam bad hd hm hg
        rwa [show rightM sa ma da = false by simp [rightM, hg]]

set_option maxHeartbeats 4000000 in
set_option maxRecDepth 20000 in
theorem rright_any {w : World} {a : Value} {s : Bool} {xs ys : List Nat} (ha : RawA w a s xs ys) (bx : xs.length ≤ 1000) (by' : ys.length ≤ 1000) :
    Calls Tryz.prog 86 #[a] w fun e w' => e = .returned (.bool (rightR s xs ys)) ∧ Fwd w w' := by
  obtain ⟨vN, vD, rfl, aN, aD⟩ := ha
  cases h1 : rightB xs
  · have HE : Hid (rightR s xs ys = false) := hid (by simp [rightR, h1])
    have H1 := hid h1
    clear h1
    obtain ⟨ao, ac, rfl, a1, a2, _, _⟩ := Rd.parts aN
    obtain ⟨ap, ae, rfl, a3, a4, _, _⟩ := Rd.parts aD
    unfold maxLen at a2 a4
    have kA : BlkV (w.alloc (.cells #[.bool s, .slice ao xs.length ac, .slice ap ys.length ae] 34)) (w.heap.size) 34 [.bool s, .slice ao xs.length ac, .slice ap ys.length ae] := BlkV.made' w (w.heap.size) (by simp) 34 [.bool s, .slice ao xs.length ac, .slice ap ys.length ae]
    have hF : Fwd w (w.alloc (.cells #[.bool s, .slice ao xs.length ac, .slice ap ys.length ae] 34)) := (Fwd.refl w).alloc _
    replace aN := aN.fwd hF
    replace aD := aD.fwd hF
    go_enter Tryz.func86, Tryz.ntmps86
    have ac0 := BlkV.cell kA 0 rfl
    have ac1 := BlkV.cell kA 1 rfl
    have ac2 := BlkV.cell kA 2 rfl
    go_wp2_with fail
    refine (right_any (.inl aN)).mono ?_
    rintro e wq ⟨rfl, rfl⟩
    rw [H1.out]
    go_wp2_with fail
    go_ret
    rw [HE.out]
    exact ⟨rfl, hF⟩
  · cases h2 : rightB ys
    · have HE : Hid (rightR s xs ys = false) := hid (by simp [rightR, h2])
      have H1 := hid h1
      have H2 := hid h2
      clear h1 h2
      obtain ⟨ao, ac, rfl, a1, a2, _, _⟩ := Rd.parts aN
      obtain ⟨ap, ae, rfl, a3, a4, _, _⟩ := Rd.parts aD
      unfold maxLen at a2 a4
      have kA : BlkV (w.alloc (.cells #[.bool s, .slice ao xs.length ac, .slice ap ys.length ae] 34)) (w.heap.size) 34 [.bool s, .slice ao xs.length ac, .slice ap ys.length ae] := BlkV.made' w (w.heap.size) (by simp) 34 [.bool s, .slice ao xs.length ac, .slice ap ys.length ae]
      have hF : Fwd w (w.alloc (.cells #[.bool s, .slice ao xs.length ac, .slice ap ys.length ae] 34)) := (Fwd.refl w).alloc _
      replace aN := aN.fwd hF
      replace aD := aD.fwd hF
      go_enter Tryz.func86, Tryz.ntmps86
      have ac0 := BlkV.cell kA 0 rfl
      have ac1 := BlkV.cell kA 1 rfl
      have ac2 := BlkV.cell kA 2 rfl
      go_wp2_with fail
      refine (right_any (.inl aN)).mono ?_
      rintro e wq ⟨rfl, rfl⟩
      rw [H1.out]
      go_wp2_with fail
      refine (right_any (.inl aD)).mono ?_
      rintro e wq ⟨rfl, rfl⟩
      rw [H2.out]
      go_wp2_with fail
      go_ret
      rw [HE.out]
      exact ⟨rfl, hF⟩
    · have e1 := nl_val_le aN.ok
      have e2 := nl_val_le aD.ok
      have ha' : RW w (.agg #[.bool s, vN, vD]) s (val xs) (val ys) := ⟨_, _, rfl, aN.num h1, aD.num h2⟩
      have h := rright_gen ha' (by omega) (by omega)
      rwa [show rightR s xs ys = rightM s (val xs) (val ys) by simp [rightR, h1, h2]]

set_option maxHeartbeats 4000000 in
set_option maxRecDepth 20000 in
theorem right2_any {w : World} {a : Value} {s : Bool} {xs ys : List Nat} (ha : RawA w a s xs ys) (bx : xs.length ≤ 1000) (by' : ys.length ≤ 1000) :
    Calls Tryz.prog 73 #[a] w fun e w' => e = .returned (.bool (rightR s xs ys)) ∧ Fwd w w' := by
  obtain ⟨vN, vD, rfl, aN, aD⟩ := ha
  cases h1 : rightB xs
  · have HE : Hid (rightR s xs ys = false) := hid (by simp [rightR, h1])
    have H1 := hid h1
    clear h1
    obtain ⟨ao, ac, rfl, a1, a2, _, _⟩ := Rd.parts aN
    obtain ⟨ap, ae, rfl, a3, a4, _, _⟩ := Rd.parts aD
    unfold maxLen at a2 a4
    have kA : BlkV (w.alloc (.cells #[.bool s, .slice ao xs.length ac, .slice ap ys.length ae] 34)) (w.heap.size) 34 [.bool s, .slice ao xs.length ac, .slice ap ys.length ae] := BlkV.made' w (w.heap.size) (by simp) 34 [.bool s, .slice ao xs.length ac, .slice ap ys.length ae]
    have hF : Fwd w (w.alloc (.cells #[.bool s, .slice ao xs.length ac, .slice ap ys.length ae] 34)) := (Fwd.refl w).alloc _
    replace aN := aN.fwd hF
    replace aD := aD.fwd hF
    go_enter Tryz.func73, Tryz.ntmps73
    have ac0 := BlkV.cell kA 0 rfl
    have ac1 := BlkV.cell kA 1 rfl
    have ac2 := BlkV.cell kA 2 rfl
    go_wp2_with fail
    refine (refRight_any (.inl aN)).mono ?_
    rintro e wq ⟨rfl, rfl⟩
    rw [H1.out]
    go_wp2_with fail
    go_ret
    rw [HE.out]
    exact ⟨rfl, hF⟩
  · cases h2 : rightB ys
    · have HE : Hid (rightR s xs ys = false) := hid (by simp [rightR, h2])
      have H1 := hid h1
      have H2 := hid h2
      clear h1 h2
      obtain ⟨ao, ac, rfl, a1, a2, _, _⟩ := Rd.parts aN
      obtain ⟨ap, ae, rfl, a3, a4, _, _⟩ := Rd.parts aD
      unfold maxLen at a2 a4
      have kA : BlkV (w.alloc (.cells #[.bool s, .slice ao xs.length ac, .slice ap ys.length ae] 34)) (w.heap.size) 34 [.bool s, .slice ao xs.length ac, .slice ap ys.length ae] := BlkV.made' w (w.heap.size) (by simp) 34 [.bool s, .slice ao xs.length ac, .slice ap ys.length ae]
      have hF : Fwd w (w.alloc (.cells #[.bool s, .slice ao xs.length ac, .slice ap ys.length ae] 34)) := (Fwd.refl w).alloc _
      replace aN := aN.fwd hF
      replace aD := aD.fwd hF
      go_enter Tryz.func73, Tryz.ntmps73
      have ac0 := BlkV.cell kA 0 rfl
      have ac1 := BlkV.cell kA 1 rfl
      have ac2 := BlkV.cell kA 2 rfl
      go_wp2_with fail
      refine (refRight_any (.inl aN)).mono ?_
      rintro e wq ⟨rfl, rfl⟩
      rw [H1.out]
      go_wp2_with fail
      refine (refRight_any (.inl aD)).mono ?_
      rintro e wq ⟨rfl, rfl⟩
      rw [H2.out]
      go_wp2_with fail
      go_ret
      rw [HE.out]
      exact ⟨rfl, hF⟩
    · have e1 := nl_val_le aN.ok
      have e2 := nl_val_le aD.ok
      have ha' : RW w (.agg #[.bool s, vN, vD]) s (val xs) (val ys) := ⟨_, _, rfl, aN.num h1, aD.num h2⟩
      have h := right2_gen ha' (by omega) (by omega)
      rwa [show rightR s xs ys = rightM s (val xs) (val ys) by simp [rightR, h1, h2]]

end Go.Proofs.YtcccejhkblnonaaGreat
