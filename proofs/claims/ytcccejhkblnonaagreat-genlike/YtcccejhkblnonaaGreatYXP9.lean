/- The program's rational numbers: slices.Equal, shapeOf, Same. -/
/- Rational numbers: Right of numbers, both ways of telling it. -/
import Derived.Test.YtcccejhkblnonaaGreatKL
import Derived.Test.YtcccejhkblnonaaGreatKI
namespace Go.Proofs.YtcccejhkblnonaaGreat
open Go.RowKit
set_option linter.unusedVariables false

theorem take_more {xs ys : List Nat} {k : Nat} (h : xs.take k = ys.take k) (h1 : k < xs.length) (h2 : k < ys.length) (he : xs.getD k 0 = ys.getD k 0) : xs.take (k + 1) = ys.take (k + 1) := by
  rw [List.take_succ_eq_append_getElem h1, List.take_succ_eq_append_getElem h2, h]
  simp [List.getD_eq_getElem?_getD, h1, h2] at he
  rw [he]

set_option maxHeartbeats 1000000 in
theorem equal_any {w : World} {a b : Value} {m n : Nat} (ha : Num w a m) (hb : Num w b n) (hm : nl m ≤ 1000000000) (hn : nl n ≤ 1000000000) :
    Calls Tryz.prog 82 #[a, b] w fun e w' => e = .returned (.bool (m == n)) ∧ Fwd w w' := by
  obtain ⟨ao, ca, rfl, hca, hcma, hcella⟩ := ha.parts
  obtain ⟨bo, cb, rfl, hcb, hcmb, hcellb⟩ := hb.parts
  unfold maxLen at hcma hcmb
  clear ha hb
  by_cases hl : nl m = nl n
  · have HL : Hid (nl m = nl n) := hl
    have hl1 : ((nl m : Int) != nl n) = false := by simp [hl]
    have hl2 : nl m ≤ nl n := by omega
    have hl3 : nl n ≤ nl m := by omega
    clear hl
    go_enter Tryz.func82, Tryz.ntmps82
    go_wp2_with fail
    go_loopw [13] (fun i wr => ∃ k : Nat, k ≤ nl m ∧ i = .int .i64 (k : Int) ∧ Fwd w wr ∧ (lim m).take k = (lim n).take k) (fun i _ => nl m - (intOf i).toNat)
    case atStart => exact ⟨0, Nat.zero_le _, rfl, Fwd.refl _, rfl⟩
    case round =>
      obtain ⟨k, hk, rfl, hfw, hd⟩ := hrel
      have HD : Hid ((lim m).take k = (lim n).take k) := hd
      clear hd
      by_cases hkl : k < nl m
      · obtain ⟨ab, aof, rfl, hxk⟩ := hcella k (by omega)
        obtain ⟨bb, bof, rfl, hyk⟩ := hcellb k (by omega)
        obtain ⟨x, hx⟩ : ∃ x, x = (lim m).getD k 0 := ⟨_, rfl⟩
        obtain ⟨y, hy⟩ : ∃ y, y = (lim n).getD k 0 := ⟨_, rfl⟩
        rw [← hx] at hxk
        rw [← hy] at hyk
        have HX : Hid (x = (lim m).getD k 0) := hx
        have HY : Hid (y = (lim n).getD k 0) := hy
        clear hx hy
        have hxk1 := hfw.cell hxk
        have hyk1 := hfw.cell hyk
        have hk1 : (k : Int) < nl m := by omega
        have hk2 : (k : Int) < nl n := by omega
        by_cases hxy : x = y
        · have hne : ((x : Int) != y) = false := by simp [hxy]
          have HXY : Hid (x = y) := hxy
          clear hxy
          go_wp2_with fail
          go_quiet (fail)
          go_wp2
          go_roundw
          case rel =>
            refine ⟨k + 1, by omega, by go_num, hfw.drewN _, take_more HD.out hkl (by show k < nl n; omega) ?_⟩
            rw [← HX.out, ← HY.out, HXY.out]
          case measure => simp [intOf] <;> omega
        · have hne : ((x : Int) != y) = true := by simp; omega
          have HXY : Hid (¬ x = y) := hxy
          clear hxy
          go_wp2_with fail
          go_quiet (fail)
          go_wp2
          go_ret
          refine ⟨?_, hfw.drewN _⟩
          have : (m == n) = false := by
            rw [beq_eq_false_iff_ne]
            rintro rfl
            exact HXY.out (by rw [HX.out, HY.out])
          rw [this]; rfl
      · have hk1 : ¬ (k : Int) < nl m := by omega
        have E : Hid ((m == n) = true) := by
          have h := HD.out
          rw [List.take_of_length_le (by show nl m ≤ k; omega), List.take_of_length_le (by show nl n ≤ k; omega)] at h
          have : m = n := lim_inj h
          subst this; show _ = _; simp
        go_wp2
        go_ret
        exact ⟨by rw [E.out]; rfl, hfw⟩
  · have hl1 : ((nl m : Int) != nl n) = true := by simp; omega
    have E : Hid ((m == n) = false) := by
      show _ = _
      rw [beq_eq_false_iff_ne]
      rintro rfl
      exact hl rfl
    clear hl
    go_enter Tryz.func82, Tryz.ntmps82
    go_wp2_with fail
    go_ret
    exact ⟨by rw [E.out]; rfl, Fwd.refl _⟩

set_option maxHeartbeats 4000000 in
set_option maxRecDepth 20000 in
theorem shapeOf_any {w : World} {a : Value} {sa : Bool} {ma da : Nat} (ha : RW w a sa ma da) (bam : nl ma ≤ 1000000) (bad : nl da ≤ 1000000) :
    Calls Tryz.prog 81 #[a] w fun e w' => e = .returned (.agg #[.bool sa, .int .i64 (nl ma), .int .i64 (nl da)]) ∧ Fwd w w' := by
  obtain ⟨ao, ac, ap, ae, rfl, a1, a2, a3, a4, aN, aD⟩ := RW.open ha
  clear ha
  go_enter Tryz.func81, Tryz.ntmps81
  go_wp2_with fail
  have hf := ((Fwd.refl w).alloc (.cells #[.bool sa, .slice ao (nl ma) ac, .slice ap (nl da) ae] 34)).alloc (.cells #[.bool sa, .int .i64 (nl ma), .int .i64 (nl da)] 100)
  refine bodyPost_ret (by simp [results, Tryz.results81, go_sem]; try rfl) rfl ?_
  exact ⟨rfl, hf⟩

end Go.Proofs.YtcccejhkblnonaaGreat

namespace Go.Proofs.YtcccejhkblnonaaGreat
open Go.RowKit
set_option linter.unusedVariables false
set_option linter.unusedSimpArgs false

theorem right_num {w : World} {v : Value} {n : Nat} (h : Num w v n) : Calls Tryz.prog 99 #[v] w fun e w' => e = .returned (.bool true) ∧ w = w' := by
  have := right_any (.inl h : Arg w v (lim n))
  rwa [rightB_lim] at this

theorem refRight_num {w : World} {v : Value} {n : Nat} (h : Num w v n) : Calls Tryz.prog 87 #[v] w fun e w' => e = .returned (.bool true) ∧ w = w' := by
  have := refRight_any (.inl h : Arg w v (lim n))
  rwa [rightB_lim] at this

set_option maxHeartbeats 4000000 in
set_option maxRecDepth 20000 in
theorem rright_raw {w : World} {a : Value} {sa : Bool} {ma da : Nat} (ha : RW w a sa ma da) (bam : nl ma ≤ 10000) (bad : nl da ≤ 10000) (za : da ≠ 0) (hs : ma = 0 → sa = false) (hg : Nat.gcd ma da = 1) :
    Calls Tryz.prog 86 #[a] w fun e w' => e = .returned (.bool true) ∧ Fwd w w' := by
  have z1 : (da == 0) = false := by simpa using za
  have bo1 : nl 1 ≤ 1 := nl_one (by omega)
  have bg := nl_gcd ma da
  have hdp : 0 < nl da := by rw [nl_pos za]; omega
  have hdne : ((nl da : Int) == 0) = false := by simp; omega
  by_cases hm : ma = 0
  · obtain rfl : sa = false := hs hm
    have hd1 : da = 1 := by rw [hm, Nat.gcd_zero_left] at hg; exact hg
    have z2 : (ma == 0) = true := by simpa using hm
    have z3 : (da == 1) = true := by simpa using hd1
    have n1 : nl ma = 0 := by rw [hm, nl_zero]
    have n2 : nl da = 1 := by rw [hd1]; rfl
    have N3 : Hid ((nl ma : Int) = 0) := hid (by omega)
    have N4 : Hid ((nl da : Int) = 1) := hid (by omega)
    clear n1 n2
    have HM := hid hm
    have HD := hid hd1
    clear hm hd1
    obtain ⟨ao, ac, ap, ae, rfl, a1, a2, a3, a4, aN, aD⟩ := RW.open ha
    clear ha
    have kA : BlkV (w.alloc (.cells #[.bool false, .slice ao (nl (ma)) ac, .slice ap (nl (da)) ae] 34)) (w.heap.size) 34 [.bool false, .slice ao (nl (ma)) ac, .slice ap (nl (da)) ae] := BlkV.made' w (w.heap.size) (by simp) 34 [.bool false, .slice ao (nl (ma)) ac, .slice ap (nl (da)) ae]
    have hF : Fwd w (w.alloc (.cells #[.bool false, .slice ao (nl (ma)) ac, .slice ap (nl (da)) ae] 34)) := (Fwd.refl w).alloc _
    replace aN := aN.fwd hF
    replace aD := aD.fwd hF
    go_enter Tryz.func86, Tryz.ntmps86
    have ac0 := BlkV.cell kA 0 rfl
    have ac1 := BlkV.cell kA 1 rfl
    have ac2 := BlkV.cell kA 2 rfl
    go_wp2_with fail
    refine (right_num aN).mono ?_
    rintro e wq ⟨rfl, rfl⟩
    go_wp2_with fail
    refine (right_num aD).mono ?_
    rintro e wq ⟨rfl, rfl⟩
    go_wp2_with fail
    refine (isNought_any aD (by omega)).mono ?_
    rintro e w1 ⟨rfl, hf1⟩
    replace aN := aN.fwd hf1
    replace aD := aD.fwd hf1
    replace kA := kA.fwd hf1
    replace hF := hF.trans hf1
    clear hf1
    clear ac0 ac1 ac2
    have ac0 := BlkV.cell kA 0 rfl
    have ac1 := BlkV.cell kA 1 rfl
    have ac2 := BlkV.cell kA 2 rfl
    go_wp2_with fail
    refine (isNought_any aN (by omega)).mono ?_
    rintro e w2 ⟨rfl, hf2⟩
    replace aN := aN.fwd hf2
    replace aD := aD.fwd hf2
    replace kA := kA.fwd hf2
    replace hF := hF.trans hf2
    clear hf2
    clear ac0 ac1 ac2
    have ac0 := BlkV.cell kA 0 rfl
    have ac1 := BlkV.cell kA 1 rfl
    have ac2 := BlkV.cell kA 2 rfl
    have ha' : RW w2 (.agg #[.bool false, .slice ao (nl ma) ac, .slice ap (nl da) ae]) false ma da := ⟨_, _, rfl, aN, aD⟩
    go_wp2_with fail
    refine (shapeOf_any ha' (by omega) (by omega)).mono ?_
    rintro e w3 ⟨rfl, hf3⟩
    replace aN := aN.fwd hf3
    replace aD := aD.fwd hf3
    replace ha' := ha'.fwd hf3
    replace kA := kA.fwd hf3
    replace hF := hF.trans hf3
    clear hf3
    clear ac0 ac1 ac2
    have ac0 := BlkV.cell kA 0 rfl
    have ac1 := BlkV.cell kA 1 rfl
    have ac2 := BlkV.cell kA 2 rfl
    rw [N3.out, N4.out]
    go_wp2_with fail
    refine (isOne_any aD (by omega)).mono ?_
    rintro e w4 ⟨rfl, hf4⟩
    replace aN := aN.fwd hf4
    replace aD := aD.fwd hf4
    replace ha' := ha'.fwd hf4
    replace kA := kA.fwd hf4
    replace hF := hF.trans hf4
    clear hf4
    clear ac0 ac1 ac2
    have ac0 := BlkV.cell kA 0 rfl
    have ac1 := BlkV.cell kA 1 rfl
    have ac2 := BlkV.cell kA 2 rfl
    go_wp2_with fail
    go_ret
    exact ⟨rfl, hF⟩
  · have z2 : (ma == 0) = false := by simpa using hm
    have HG := hid hg
    clear hm
    obtain ⟨ao, ac, ap, ae, rfl, a1, a2, a3, a4, aN, aD⟩ := RW.open ha
    clear ha
    have kA : BlkV (w.alloc (.cells #[.bool sa, .slice ao (nl (ma)) ac, .slice ap (nl (da)) ae] 34)) (w.heap.size) 34 [.bool sa, .slice ao (nl (ma)) ac, .slice ap (nl (da)) ae] := BlkV.made' w (w.heap.size) (by simp) 34 [.bool sa, .slice ao (nl (ma)) ac, .slice ap (nl (da)) ae]
    have hF : Fwd w (w.alloc (.cells #[.bool sa, .slice ao (nl (ma)) ac, .slice ap (nl (da)) ae] 34)) := (Fwd.refl w).alloc _
    replace aN := aN.fwd hF
    replace aD := aD.fwd hF
    go_enter Tryz.func86, Tryz.ntmps86
    have ac0 := BlkV.cell kA 0 rfl
    have ac1 := BlkV.cell kA 1 rfl
    have ac2 := BlkV.cell kA 2 rfl
    go_wp2_with fail
    refine (right_num aN).mono ?_
    rintro e wq ⟨rfl, rfl⟩
    go_wp2_with fail
    refine (right_num aD).mono ?_
    rintro e wq ⟨rfl, rfl⟩
    go_wp2_with fail
    refine (isNought_any aD (by omega)).mono ?_
    rintro e w1 ⟨rfl, hf1⟩
    replace aN := aN.fwd hf1
    replace aD := aD.fwd hf1
    replace kA := kA.fwd hf1
    replace hF := hF.trans hf1
    clear hf1
    clear ac0 ac1 ac2
    have ac0 := BlkV.cell kA 0 rfl
    have ac1 := BlkV.cell kA 1 rfl
    have ac2 := BlkV.cell kA 2 rfl
    go_wp2_with fail
    refine (isNought_any aN (by omega)).mono ?_
    rintro e w2 ⟨rfl, hf2⟩
    replace aN := aN.fwd hf2
    replace aD := aD.fwd hf2
    replace kA := kA.fwd hf2
    replace hF := hF.trans hf2
    clear hf2
    clear ac0 ac1 ac2
    have ac0 := BlkV.cell kA 0 rfl
    have ac1 := BlkV.cell kA 1 rfl
    have ac2 := BlkV.cell kA 2 rfl
    go_wp2_with fail
    refine (gcd_any aN aD (by omega) (by omega)).mono ?_
    rintro e w3 ⟨v1, rfl, h1, hf3⟩
    replace aN := aN.fwd hf3
    replace aD := aD.fwd hf3
    replace kA := kA.fwd hf3
    replace hF := hF.trans hf3
    clear hf3
    clear ac0 ac1 ac2
    have ac0 := BlkV.cell kA 0 rfl
    have ac1 := BlkV.cell kA 1 rfl
    have ac2 := BlkV.cell kA 2 rfl
    rw [HG.out] at h1
    go_wp2_with fail
    refine (isOne_any h1 (by omega)).mono ?_
    rintro e w4 ⟨rfl, hf4⟩
    replace aN := aN.fwd hf4
    replace aD := aD.fwd hf4
    replace h1 := h1.fwd hf4
    replace kA := kA.fwd hf4
    replace hF := hF.trans hf4
    clear hf4
    clear ac0 ac1 ac2
    have ac0 := BlkV.cell kA 0 rfl
    have ac1 := BlkV.cell kA 1 rfl
    have ac2 := BlkV.cell kA 2 rfl
    go_wp2_with fail
    go_ret
    exact ⟨rfl, hF⟩

set_option maxHeartbeats 4000000 in
set_option maxRecDepth 20000 in
theorem right2_raw {w : World} {a : Value} {sa : Bool} {ma da : Nat} (ha : RW w a sa ma da) (bam : nl ma ≤ 10000) (bad : nl da ≤ 10000) (za : da ≠ 0) (hs : ma = 0 → sa = false) (hg : Nat.gcd ma da = 1) :
    Calls Tryz.prog 73 #[a] w fun e w' => e = .returned (.bool true) ∧ Fwd w w' := by
  have z1 : (da == 0) = false := by simpa using za
  have bo1 : nl 1 ≤ 1 := nl_one (by omega)
  have bg := nl_gcd ma da
  have hdp : 0 < nl da := by rw [nl_pos za]; omega
  have hdne : ((nl da : Int) == 0) = false := by simp; omega
  by_cases hm : ma = 0
  · obtain rfl : sa = false := hs hm
    have HG : Hid (cmpW ((Nat.gcd ma da : Nat) : Int) ((1 : Nat) : Int) = 0) := hid (cmpI_eq (by omega))
    have n1 : nl ma = 0 := by rw [hm, nl_zero]
    have hmz : ((nl ma : Int) == 0) = true := by rw [n1]; rfl
    clear hm n1
    obtain ⟨ao, ac, ap, ae, rfl, a1, a2, a3, a4, aN, aD⟩ := RW.open ha
    clear ha
    have kA : BlkV (w.alloc (.cells #[.bool false, .slice ao (nl (ma)) ac, .slice ap (nl (da)) ae] 34)) (w.heap.size) 34 [.bool false, .slice ao (nl (ma)) ac, .slice ap (nl (da)) ae] := BlkV.made' w (w.heap.size) (by simp) 34 [.bool false, .slice ao (nl (ma)) ac, .slice ap (nl (da)) ae]
    have hF : Fwd w (w.alloc (.cells #[.bool false, .slice ao (nl (ma)) ac, .slice ap (nl (da)) ae] 34)) := (Fwd.refl w).alloc _
    replace aN := aN.fwd hF
    replace aD := aD.fwd hF
    go_enter Tryz.func73, Tryz.ntmps73
    have ac0 := BlkV.cell kA 0 rfl
    have ac1 := BlkV.cell kA 1 rfl
    have ac2 := BlkV.cell kA 2 rfl
    go_wp2_with fail
    refine (refRight_num aN).mono ?_
    rintro e wq ⟨rfl, rfl⟩
    go_wp2_with fail
    refine (refRight_num aD).mono ?_
    rintro e wq ⟨rfl, rfl⟩
    go_wp2_with fail
    refine (refGcd_any aN aD (by omega) (by omega)).mono ?_
    rintro e w1 ⟨v1, rfl, h1, hf1⟩
    replace aN := aN.fwd hf1
    replace aD := aD.fwd hf1
    replace kA := kA.fwd hf1
    replace hF := hF.trans hf1
    clear hf1
    clear ac0 ac1 ac2
    have ac0 := BlkV.cell kA 0 rfl
    have ac1 := BlkV.cell kA 1 rfl
    have ac2 := BlkV.cell kA 2 rfl
    go_wp2_with fail
    refine (one_new _).mono ?_
    rintro e w2 ⟨v2, rfl, h2, hf2, hnw⟩
    replace aN := aN.fwd hf2
    replace aD := aD.fwd hf2
    replace h1 := h1.fwd hf2
    replace kA := kA.fwd hf2
    replace hF := hF.trans hf2
    clear hf2
    clear ac0 ac1 ac2
    have ac0 := BlkV.cell kA 0 rfl
    have ac1 := BlkV.cell kA 1 rfl
    have ac2 := BlkV.cell kA 2 rfl
    clear hnw
    go_wp2_with fail
    refine (refCmp_any h1 h2 (by omega) (by omega)).mono ?_
    rintro e w3 ⟨rfl, hf3⟩
    replace aN := aN.fwd hf3
    replace aD := aD.fwd hf3
    replace h1 := h1.fwd hf3
    replace h2 := h2.fwd hf3
    replace kA := kA.fwd hf3
    replace hF := hF.trans hf3
    clear hf3
    clear ac0 ac1 ac2
    have ac0 := BlkV.cell kA 0 rfl
    have ac1 := BlkV.cell kA 1 rfl
    have ac2 := BlkV.cell kA 2 rfl
    have e0 : cmpW ((Nat.gcd ma da : Nat) : Int) 1 = 0 := HG.out
    first | rw [HG.out] | rw [e0]
    clear e0
    go_wp2_with fail
    go_ret
    exact ⟨rfl, hF⟩
  · have HG : Hid (cmpW ((Nat.gcd ma da : Nat) : Int) ((1 : Nat) : Int) = 0) := hid (cmpI_eq (by omega))
    have hmp : 0 < nl ma := by rw [nl_pos hm]; omega
    have hmne : ((nl ma : Int) == 0) = false := by simp; omega
    clear hm
    obtain ⟨ao, ac, ap, ae, rfl, a1, a2, a3, a4, aN, aD⟩ := RW.open ha
    clear ha
    have kA : BlkV (w.alloc (.cells #[.bool sa, .slice ao (nl (ma)) ac, .slice ap (nl (da)) ae] 34)) (w.heap.size) 34 [.bool sa, .slice ao (nl (ma)) ac, .slice ap (nl (da)) ae] := BlkV.made' w (w.heap.size) (by simp) 34 [.bool sa, .slice ao (nl (ma)) ac, .slice ap (nl (da)) ae]
    have hF : Fwd w (w.alloc (.cells #[.bool sa, .slice ao (nl (ma)) ac, .slice ap (nl (da)) ae] 34)) := (Fwd.refl w).alloc _
    replace aN := aN.fwd hF
    replace aD := aD.fwd hF
    go_enter Tryz.func73, Tryz.ntmps73
    have ac0 := BlkV.cell kA 0 rfl
    have ac1 := BlkV.cell kA 1 rfl
    have ac2 := BlkV.cell kA 2 rfl
    go_wp2_with fail
    refine (refRight_num aN).mono ?_
    rintro e wq ⟨rfl, rfl⟩
    go_wp2_with fail
    refine (refRight_num aD).mono ?_
    rintro e wq ⟨rfl, rfl⟩
    go_wp2_with fail
    refine (refGcd_any aN aD (by omega) (by omega)).mono ?_
    rintro e w1 ⟨v1, rfl, h1, hf1⟩
    replace aN := aN.fwd hf1
    replace aD := aD.fwd hf1
    replace kA := kA.fwd hf1
    replace hF := hF.trans hf1
    clear hf1
    clear ac0 ac1 ac2
    have ac0 := BlkV.cell kA 0 rfl
    have ac1 := BlkV.cell kA 1 rfl
    have ac2 := BlkV.cell kA 2 rfl
    go_wp2_with fail
    refine (one_new _).mono ?_
    rintro e w2 ⟨v2, rfl, h2, hf2, hnw⟩
    replace aN := aN.fwd hf2
    replace aD := aD.fwd hf2
    replace h1 := h1.fwd hf2
    replace kA := kA.fwd hf2
    replace hF := hF.trans hf2
    clear hf2
    clear ac0 ac1 ac2
    have ac0 := BlkV.cell kA 0 rfl
    have ac1 := BlkV.cell kA 1 rfl
    have ac2 := BlkV.cell kA 2 rfl
    clear hnw
    go_wp2_with fail
    refine (refCmp_any h1 h2 (by omega) (by omega)).mono ?_
    rintro e w3 ⟨rfl, hf3⟩
    replace aN := aN.fwd hf3
    replace aD := aD.fwd hf3
    replace h1 := h1.fwd hf3
    replace h2 := h2.fwd hf3
    replace kA := kA.fwd hf3
    replace hF := hF.trans hf3
    clear hf3
    clear ac0 ac1 ac2
    have ac0 := BlkV.cell kA 0 rfl
    have ac1 := BlkV.cell kA 1 rfl
    have ac2 := BlkV.cell kA 2 rfl
    have e0 : cmpW ((Nat.gcd ma da : Nat) : Int) 1 = 0 := HG.out
    first | rw [HG.out] | rw [e0]
    clear e0
    go_wp2_with fail
    go_ret
    exact ⟨rfl, hF⟩

theorem right_parts (q : Rat) : q.den ≠ 0 ∧ (q.num.natAbs = 0 → negQ q = false) ∧ Nat.gcd q.num.natAbs q.den = 1 := by
  refine ⟨q.den_nz, fun h => ?_, q.reduced⟩
  unfold negQ
  simp only [decide_eq_false_iff_not]
  omega

theorem rright_true {w : World} {a : Value} {p : Rat} (ha : RV w a p) (bp : nr p ≤ 10000) :
    Calls Tryz.prog 86 #[a] w fun e w' => e = .returned (.bool true) ∧ Fwd w w' :=
  rright_raw ha (nr_le bp).1 (nr_le bp).2 (right_parts p).1 (right_parts p).2.1 (right_parts p).2.2

theorem right2_true {w : World} {a : Value} {p : Rat} (ha : RV w a p) (bp : nr p ≤ 10000) :
    Calls Tryz.prog 73 #[a] w fun e w' => e = .returned (.bool true) ∧ Fwd w w' :=
  right2_raw ha (nr_le bp).1 (nr_le bp).2 (right_parts p).1 (right_parts p).2.1 (right_parts p).2.2

end Go.Proofs.YtcccejhkblnonaaGreat
