/- RatMakes: any numerator and denominator make the number that the second telling says; which numbers are right it says, too: the law's walk. -/
import Derived.Test.YtjkoiocemolcbaaDoorXP14
import Derived.Test.YtjkoiocemolcbaaDoorXU1
import Derived.Test.YtjkoiocemolcbaaDoorXV1
import Derived.Test.YtjkoiocemolcbaaDoorXP8
import Derived.Test.YtjkoiocemolcbaaDoorXP10
import Derived.Test.YtjkoiocemolcbaaDoorXP12
namespace Go.Proofs.YtjkoiocemolcbaaDoor
open Go.RowKit
set_option linter.unusedVariables false
set_option linter.unusedSimpArgs false

theorem RawA.drew {w : World} {v : Value} {s : Bool} {xs ys : List Nat} (h : RawA w v s xs ys) : RawA w.drew v s xs ys := h
theorem same2_zero {w : World} {a b : Value} (ha : RW w a false 0 0) (hb : RW w b false 0 0) :
    Calls Tryd.prog 14 #[a, b] w fun e w' => e = .returned (.bool true) ∧ Fwd w w' := by
  have z : nl 0 ≤ 5000 := by rw [nl_zero]; omega
  exact same2_any ha z z hb z z

set_option maxHeartbeats 40000000 in
set_option maxRecDepth 20000 in
theorem ratMakes_walk {w : World} {a b r : Value} {xa xb : List Nat} {sr : Bool} {xr yr : List Nat} {n d : Int} (neg : Bool) (ha : Arg w a xa) (hb : Arg w b xb) (hn : (Lit.int .i64 n).wf = true) (hd : (Lit.int .i64 d).wf = true) (hr : RawA w r sr xr yr) :
    Calls Tryd.prog 3 #[.bool neg, a, b, .int .i64 n, .int .i64 d, r] w fun e w' => e = .returned (.bool true) ∧ Below w.heap.size w w' := by
  obtain ⟨n1, n2⟩ := bounds_i64 hn
  obtain ⟨d1, d2⟩ := bounds_i64 hd
  clear hn hd
  obtain ⟨vN, vD, rfl, rN, rD⟩ := hr
  obtain ⟨ao, ac, rfl, a1, a2, _, _⟩ := Rd.parts rN
  obtain ⟨ap, ae, rfl, a3, a4, _, _⟩ := Rd.parts rD
  unfold maxLen at a2 a4
  have hr' : RawA w (.agg #[.bool sr, .slice ao xr.length ac, .slice ap yr.length ae]) sr xr yr := ⟨_, _, rfl, rN, rD⟩
  clear rN rD
  by_cases hl1 : 20 < xr.length
  · have hi1 : (20 : Int) < (xr.length : Int) := by omega
    have kW : BlkV (w.alloc (.cells #[.bool sr, .slice ao xr.length ac, .slice ap yr.length ae] 24)) (w.heap.size) 24 [.bool sr, .slice ao xr.length ac, .slice ap yr.length ae] := BlkV.made' w (w.heap.size) (by simp) 24 [.bool sr, .slice ao xr.length ac, .slice ap yr.length ae]
    have hF : Fwd w (w.alloc (.cells #[.bool sr, .slice ao xr.length ac, .slice ap yr.length ae] 24)) := (Fwd.refl w).alloc _
    replace ha := ha.fwd hF
    replace hb := hb.fwd hF
    replace hr' := hr'.fwd hF
    go_enter Tryd.func3, Tryd.ntmps3
    have wc0 := BlkV.cell kW 0 rfl
    have wc1 := BlkV.cell kW 1 rfl
    have wc2 := BlkV.cell kW 2 rfl
    go_wp2_with fail
    refine (known2_any _).mono ?_
    rintro e w1 ⟨rfl, hf1⟩
    replace ha := ha.fwd hf1
    replace hb := hb.fwd hf1
    replace hr' := hr'.fwd hf1
    replace kW := kW.fwd hf1
    replace hF := hF.trans hf1
    clear hf1
    clear wc0 wc1 wc2
    have wc0 := BlkV.cell kW 0 rfl
    have wc1 := BlkV.cell kW 1 rfl
    have wc2 := BlkV.cell kW 2 rfl
    go_wp2_with fail
    go_ret
    exact ⟨rfl, hF⟩
  · have hi1 : ¬ (20 : Int) < (xr.length : Int) := by omega
    by_cases hl2 : 20 < yr.length
    · have hi2 : (20 : Int) < (yr.length : Int) := by omega
      have kW : BlkV (w.alloc (.cells #[.bool sr, .slice ao xr.length ac, .slice ap yr.length ae] 24)) (w.heap.size) 24 [.bool sr, .slice ao xr.length ac, .slice ap yr.length ae] := BlkV.made' w (w.heap.size) (by simp) 24 [.bool sr, .slice ao xr.length ac, .slice ap yr.length ae]
      have hF : Fwd w (w.alloc (.cells #[.bool sr, .slice ao xr.length ac, .slice ap yr.length ae] 24)) := (Fwd.refl w).alloc _
      replace ha := ha.fwd hF
      replace hb := hb.fwd hF
      replace hr' := hr'.fwd hF
      go_enter Tryd.func3, Tryd.ntmps3
      have wc0 := BlkV.cell kW 0 rfl
      have wc1 := BlkV.cell kW 1 rfl
      have wc2 := BlkV.cell kW 2 rfl
      go_wp2_with fail
      refine (known2_any _).mono ?_
      rintro e w1 ⟨rfl, hf1⟩
      replace ha := ha.fwd hf1
      replace hb := hb.fwd hf1
      replace hr' := hr'.fwd hf1
      replace kW := kW.fwd hf1
      replace hF := hF.trans hf1
      clear hf1
      clear wc0 wc1 wc2
      have wc0 := BlkV.cell kW 0 rfl
      have wc1 := BlkV.cell kW 1 rfl
      have wc2 := BlkV.cell kW 2 rfl
      go_wp2_with fail
      go_ret
      exact ⟨rfl, hF⟩
    · have hi2 : ¬ (20 : Int) < (yr.length : Int) := by omega
      have bX := nl_take ha.ok 8
      have bY := nl_take hb.ok 8
      obtain ⟨X, hX⟩ : ∃ X, X = val (xa.take 8) := ⟨_, rfl⟩
      obtain ⟨Y, hY⟩ : ∃ Y, Y = val (xb.take 8) := ⟨_, rfl⟩
      rw [← hX] at bX
      rw [← hY] at bY
      have HX := hid hX
      have HY := hid hY
      clear hX hY
      have kW : BlkV (w.alloc (.cells #[.bool sr, .slice ao xr.length ac, .slice ap yr.length ae] 24)) (w.heap.size) 24 [.bool sr, .slice ao xr.length ac, .slice ap yr.length ae] := BlkV.made' w (w.heap.size) (by simp) 24 [.bool sr, .slice ao xr.length ac, .slice ap yr.length ae]
      have hF : Fwd w (w.alloc (.cells #[.bool sr, .slice ao xr.length ac, .slice ap yr.length ae] 24)) := (Fwd.refl w).alloc _
      replace ha := ha.fwd hF
      replace hb := hb.fwd hF
      replace hr' := hr'.fwd hF
      go_enter Tryd.func3, Tryd.ntmps3
      have wc0 := BlkV.cell kW 0 rfl
      have wc1 := BlkV.cell kW 1 rfl
      have wc2 := BlkV.cell kW 2 rfl
      go_wp2_with fail
      refine (known2_any _).mono ?_
      rintro e w1 ⟨rfl, hf1⟩
      replace ha := ha.fwd hf1
      replace hb := hb.fwd hf1
      replace hr' := hr'.fwd hf1
      replace kW := kW.fwd hf1
      replace hF := hF.trans hf1
      clear hf1
      clear wc0 wc1 wc2
      have wc0 := BlkV.cell kW 0 rfl
      have wc1 := BlkV.cell kW 1 rfl
      have wc2 := BlkV.cell kW 2 rfl
      go_wp2_with fail
      refine (make_any 8 ha (by omega) (by omega)).mono ?_
      rintro e w2 ⟨vf1, rfl, f1, hf2⟩
      replace ha := ha.fwd hf2
      replace hb := hb.fwd hf2
      replace hr' := hr'.fwd hf2
      replace kW := kW.fwd hf2
      replace hF := hF.trans hf2
      clear hf2
      clear wc0 wc1 wc2
      have wc0 := BlkV.cell kW 0 rfl
      have wc1 := BlkV.cell kW 1 rfl
      have wc2 := BlkV.cell kW 2 rfl
      rw [← HX.out] at f1
      go_wp2_with fail
      refine (make_any 8 hb (by omega) (by omega)).mono ?_
      rintro e w3 ⟨vf2, rfl, f2, hf3⟩
      replace ha := ha.fwd hf3
      replace hb := hb.fwd hf3
      replace hr' := hr'.fwd hf3
      replace f1 := f1.fwd hf3
      replace kW := kW.fwd hf3
      replace hF := hF.trans hf3
      clear hf3
      clear wc0 wc1 wc2
      have wc0 := BlkV.cell kW 0 rfl
      have wc1 := BlkV.cell kW 1 rfl
      have wc2 := BlkV.cell kW 2 rfl
      rw [← HY.out] at f2
      by_cases hY0 : Y = 0
      · subst hY0
        go_wp2_with fail
        refine (rmake_zero neg f1 f2).mono ?_
        rintro e w4 ⟨rfl, hf4⟩
        replace ha := ha.fwd hf4
        replace hb := hb.fwd hf4
        replace hr' := hr'.fwd hf4
        replace f1 := f1.fwd hf4
        replace f2 := f2.fwd hf4
        replace kW := kW.fwd hf4
        replace hF := hF.trans hf4
        clear hf4
        clear wc0 wc1 wc2
        have wc0 := BlkV.cell kW 0 rfl
        have wc1 := BlkV.cell kW 1 rfl
        have wc2 := BlkV.cell kW 2 rfl
        have rX : RW w4 (.agg #[.bool false, .slice none 0 0, .slice none 0 0]) false 0 0 := ratZero_rw _
        unfold ratZero
        have ltW4 := BlkV.lt kW
        have hfB : Fwd w4 (w4.alloc (.cells #[.bool false, .slice none 0 0, .slice none 0 0] 24)) := (Fwd.refl _).alloc _
        replace ha := ha.fwd hfB
        replace hb := hb.fwd hfB
        replace hr' := hr'.fwd hfB
        replace f1 := f1.fwd hfB
        replace f2 := f2.fwd hfB
        replace rX := rX.fwd hfB
        replace kW := kW.fwd hfB
        replace hF := hF.trans hfB
        clear hfB
        clear wc0 wc1 wc2
        have wc0 := BlkV.cell kW 0 rfl
        have wc1 := BlkV.cell kW 1 rfl
        have wc2 := BlkV.cell kW 2 rfl
        have kX := BlkV.made w4 24 [.bool false, .slice none 0 0, .slice none 0 0]
        go_upto_region 6 with fail
        generalize (w4.alloc (.cells #[.bool false, .slice none 0 0, .slice none 0 0] 24)) = w5 at kX ha hb hr' f1 f2 rX kW hF ⊢
        clear wc0 wc1 wc2
        have wc0 := BlkV.cell kW 0 rfl
        have wc1 := BlkV.cell kW 1 rfl
        have wc2 := BlkV.cell kW 2 rfl
        have xc0 := BlkV.cell kX 0 rfl
        have xc1 := BlkV.cell kX 1 rfl
        have xc2 := BlkV.cell kX 2 rfl
        clear f1 f2
        go_wp2_with fail
        refine (make_any 8 ha (by omega) (by omega)).mono ?_
        rintro e w6 ⟨vf3, rfl, f3, hf6⟩
        replace ha := ha.fwd hf6
        replace hb := hb.fwd hf6
        replace hr' := hr'.fwd hf6
        replace rX := rX.fwd hf6
        replace kW := kW.fwd hf6
        replace kX := kX.fwd hf6
        replace hF := hF.trans hf6
        clear hf6
        clear wc0 wc1 wc2
        have wc0 := BlkV.cell kW 0 rfl
        have wc1 := BlkV.cell kW 1 rfl
        have wc2 := BlkV.cell kW 2 rfl
        clear xc0 xc1 xc2
        have xc0 := BlkV.cell kX 0 rfl
        have xc1 := BlkV.cell kX 1 rfl
        have xc2 := BlkV.cell kX 2 rfl
        rw [← HX.out] at f3
        go_wp2_with fail
        refine (make_any 8 hb (by omega) (by omega)).mono ?_
        rintro e w7 ⟨vf4, rfl, f4, hf7⟩
        replace ha := ha.fwd hf7
        replace hb := hb.fwd hf7
        replace hr' := hr'.fwd hf7
        replace rX := rX.fwd hf7
        replace f3 := f3.fwd hf7
        replace kW := kW.fwd hf7
        replace kX := kX.fwd hf7
        replace hF := hF.trans hf7
        clear hf7
        clear wc0 wc1 wc2
        have wc0 := BlkV.cell kW 0 rfl
        have wc1 := BlkV.cell kW 1 rfl
        have wc2 := BlkV.cell kW 2 rfl
        clear xc0 xc1 xc2
        have xc0 := BlkV.cell kX 0 rfl
        have xc1 := BlkV.cell kX 1 rfl
        have xc2 := BlkV.cell kX 2 rfl
        rw [← HY.out] at f4
        go_wp2_with fail
        refine (make2_zero neg f3 f4).mono ?_
        rintro e w8 ⟨rfl, hf8⟩
        replace ha := ha.fwd hf8
        replace hb := hb.fwd hf8
        replace hr' := hr'.fwd hf8
        replace rX := rX.fwd hf8
        replace f3 := f3.fwd hf8
        replace f4 := f4.fwd hf8
        replace kW := kW.fwd hf8
        replace kX := kX.fwd hf8
        replace hF := hF.trans hf8
        clear hf8
        clear wc0 wc1 wc2
        have wc0 := BlkV.cell kW 0 rfl
        have wc1 := BlkV.cell kW 1 rfl
        have wc2 := BlkV.cell kW 2 rfl
        clear xc0 xc1 xc2
        have xc0 := BlkV.cell kX 0 rfl
        have xc1 := BlkV.cell kX 1 rfl
        have xc2 := BlkV.cell kX 2 rfl
        have rY : RW w8 (.agg #[.bool false, .slice none 0 0, .slice none 0 0]) false 0 0 := ratZero_rw _
        unfold ratZero
        have ltW8 := BlkV.lt kW
        have ltX8 := BlkV.lt kX
        have hfB : Fwd w8 (w8.alloc (.cells #[.bool false, .slice none 0 0, .slice none 0 0] 24)) := (Fwd.refl _).alloc _
        replace ha := ha.fwd hfB
        replace hb := hb.fwd hfB
        replace hr' := hr'.fwd hfB
        replace rX := rX.fwd hfB
        replace f3 := f3.fwd hfB
        replace f4 := f4.fwd hfB
        replace rY := rY.fwd hfB
        replace kW := kW.fwd hfB
        replace kX := kX.fwd hfB
        replace hF := hF.trans hfB
        clear hfB
        clear wc0 wc1 wc2
        have wc0 := BlkV.cell kW 0 rfl
        have wc1 := BlkV.cell kW 1 rfl
        have wc2 := BlkV.cell kW 2 rfl
        clear xc0 xc1 xc2
        have xc0 := BlkV.cell kX 0 rfl
        have xc1 := BlkV.cell kX 1 rfl
        have xc2 := BlkV.cell kX 2 rfl
        have kY := BlkV.made w8 24 [.bool false, .slice none 0 0, .slice none 0 0]
        go_upto_region 7 with fail
        generalize (w8.alloc (.cells #[.bool false, .slice none 0 0, .slice none 0 0] 24)) = w9 at kY ha hb hr' rX f3 f4 rY kW kX hF ⊢
        clear wc0 wc1 wc2 xc0 xc1 xc2
        have wc0 := BlkV.cell kW 0 rfl
        have wc1 := BlkV.cell kW 1 rfl
        have wc2 := BlkV.cell kW 2 rfl
        have xc0 := BlkV.cell kX 0 rfl
        have xc1 := BlkV.cell kX 1 rfl
        have xc2 := BlkV.cell kX 2 rfl
        have yc0 := BlkV.cell kY 0 rfl
        have yc1 := BlkV.cell kY 1 rfl
        have yc2 := BlkV.cell kY 2 rfl
        clear f3 f4 ha hb
        by_cases hd0 : d = 0
        · subst hd0
          go_wp2_with fail
          refine (rof_zero _ n n1 n2).mono ?_
          rintro e w10 ⟨rfl, hf10⟩
          replace hr' := hr'.fwd hf10
          replace rX := rX.fwd hf10
          replace rY := rY.fwd hf10
          replace kW := kW.fwd hf10
          replace kX := kX.fwd hf10
          replace kY := kY.fwd hf10
          replace hF := hF.trans hf10
          clear hf10
          clear wc0 wc1 wc2
          have wc0 := BlkV.cell kW 0 rfl
          have wc1 := BlkV.cell kW 1 rfl
          have wc2 := BlkV.cell kW 2 rfl
          clear xc0 xc1 xc2
          have xc0 := BlkV.cell kX 0 rfl
          have xc1 := BlkV.cell kX 1 rfl
          have xc2 := BlkV.cell kX 2 rfl
          clear yc0 yc1 yc2
          have yc0 := BlkV.cell kY 0 rfl
          have yc1 := BlkV.cell kY 1 rfl
          have yc2 := BlkV.cell kY 2 rfl
          have rP : RW w10 (.agg #[.bool false, .slice none 0 0, .slice none 0 0]) false 0 0 := ratZero_rw _
          unfold ratZero
          have ltW10 := BlkV.lt kW
          have ltX10 := BlkV.lt kX
          have ltY10 := BlkV.lt kY
          have hfB : Fwd w10 (w10.alloc (.cells #[.bool false, .slice none 0 0, .slice none 0 0] 24)) := (Fwd.refl _).alloc _
          replace hr' := hr'.fwd hfB
          replace rX := rX.fwd hfB
          replace rY := rY.fwd hfB
          replace rP := rP.fwd hfB
          replace kW := kW.fwd hfB
          replace kX := kX.fwd hfB
          replace kY := kY.fwd hfB
          replace hF := hF.trans hfB
          clear hfB
          clear wc0 wc1 wc2
          have wc0 := BlkV.cell kW 0 rfl
          have wc1 := BlkV.cell kW 1 rfl
          have wc2 := BlkV.cell kW 2 rfl
          clear xc0 xc1 xc2
          have xc0 := BlkV.cell kX 0 rfl
          have xc1 := BlkV.cell kX 1 rfl
          have xc2 := BlkV.cell kX 2 rfl
          clear yc0 yc1 yc2
          have yc0 := BlkV.cell kY 0 rfl
          have yc1 := BlkV.cell kY 1 rfl
          have yc2 := BlkV.cell kY 2 rfl
          have kP := BlkV.made w10 24 [.bool false, .slice none 0 0, .slice none 0 0]
          go_upto_region 8 with fail
          generalize (w10.alloc (.cells #[.bool false, .slice none 0 0, .slice none 0 0] 24)) = w11 at kP hr' rX rY rP kW kX kY hF ⊢
          clear wc0 wc1 wc2 xc0 xc1 xc2 yc0 yc1 yc2
          have wc0 := BlkV.cell kW 0 rfl
          have wc1 := BlkV.cell kW 1 rfl
          have wc2 := BlkV.cell kW 2 rfl
          have xc0 := BlkV.cell kX 0 rfl
          have xc1 := BlkV.cell kX 1 rfl
          have xc2 := BlkV.cell kX 2 rfl
          have yc0 := BlkV.cell kY 0 rfl
          have yc1 := BlkV.cell kY 1 rfl
          have yc2 := BlkV.cell kY 2 rfl
          have pc0 := BlkV.cell kP 0 rfl
          have pc1 := BlkV.cell kP 1 rfl
          have pc2 := BlkV.cell kP 2 rfl
          go_wp2_with fail
          refine (of2_zero _ n n1 n2).mono ?_
          rintro e w12 ⟨v, rfl, rQ, hf12⟩
          replace hr' := hr'.fwd hf12
          replace rX := rX.fwd hf12
          replace rY := rY.fwd hf12
          replace rP := rP.fwd hf12
          replace kW := kW.fwd hf12
          replace kX := kX.fwd hf12
          replace kY := kY.fwd hf12
          replace kP := kP.fwd hf12
          replace hF := hF.trans hf12
          clear hf12
          clear wc0 wc1 wc2
          have wc0 := BlkV.cell kW 0 rfl
          have wc1 := BlkV.cell kW 1 rfl
          have wc2 := BlkV.cell kW 2 rfl
          clear xc0 xc1 xc2
          have xc0 := BlkV.cell kX 0 rfl
          have xc1 := BlkV.cell kX 1 rfl
          have xc2 := BlkV.cell kX 2 rfl
          clear yc0 yc1 yc2
          have yc0 := BlkV.cell kY 0 rfl
          have yc1 := BlkV.cell kY 1 rfl
          have yc2 := BlkV.cell kY 2 rfl
          clear pc0 pc1 pc2
          have pc0 := BlkV.cell kP 0 rfl
          have pc1 := BlkV.cell kP 1 rfl
          have pc2 := BlkV.cell kP 2 rfl
          have HV := hid rQ
          obtain ⟨poQ, pcQ, qoQ, qcQ, rfl, p1Q, p2Q, p3Q, p4Q, -, -⟩ := RW.open rQ
          clear rQ
          have rQ := HV.out
          clear HV
          have ltW12 := BlkV.lt kW
          have ltX12 := BlkV.lt kX
          have ltY12 := BlkV.lt kY
          have ltP12 := BlkV.lt kP
          have hfB : Fwd w12 (w12.alloc (.cells #[.bool false, .slice poQ (nl 0) pcQ, .slice qoQ (nl 0) qcQ] 24)) := (Fwd.refl _).alloc _
          replace hr' := hr'.fwd hfB
          replace rX := rX.fwd hfB
          replace rY := rY.fwd hfB
          replace rP := rP.fwd hfB
          replace rQ := rQ.fwd hfB
          replace kW := kW.fwd hfB
          replace kX := kX.fwd hfB
          replace kY := kY.fwd hfB
          replace kP := kP.fwd hfB
          replace hF := hF.trans hfB
          clear hfB
          clear wc0 wc1 wc2
          have wc0 := BlkV.cell kW 0 rfl
          have wc1 := BlkV.cell kW 1 rfl
          have wc2 := BlkV.cell kW 2 rfl
          clear xc0 xc1 xc2
          have xc0 := BlkV.cell kX 0 rfl
          have xc1 := BlkV.cell kX 1 rfl
          have xc2 := BlkV.cell kX 2 rfl
          clear yc0 yc1 yc2
          have yc0 := BlkV.cell kY 0 rfl
          have yc1 := BlkV.cell kY 1 rfl
          have yc2 := BlkV.cell kY 2 rfl
          clear pc0 pc1 pc2
          have pc0 := BlkV.cell kP 0 rfl
          have pc1 := BlkV.cell kP 1 rfl
          have pc2 := BlkV.cell kP 2 rfl
          have kQ := BlkV.made w12 24 [.bool false, .slice poQ (nl 0) pcQ, .slice qoQ (nl 0) qcQ]
          go_upto_region 9 with fail
          generalize (w12.alloc (.cells #[.bool false, .slice poQ (nl 0) pcQ, .slice qoQ (nl 0) qcQ] 24)) = w13 at kQ hr' rX rY rP rQ kW kX kY kP hF ⊢
          clear wc0 wc1 wc2 xc0 xc1 xc2 yc0 yc1 yc2 pc0 pc1 pc2
          have wc0 := BlkV.cell kW 0 rfl
          have wc1 := BlkV.cell kW 1 rfl
          have wc2 := BlkV.cell kW 2 rfl
          have xc0 := BlkV.cell kX 0 rfl
          have xc1 := BlkV.cell kX 1 rfl
          have xc2 := BlkV.cell kX 2 rfl
          have yc0 := BlkV.cell kY 0 rfl
          have yc1 := BlkV.cell kY 1 rfl
          have yc2 := BlkV.cell kY 2 rfl
          have pc0 := BlkV.cell kP 0 rfl
          have pc1 := BlkV.cell kP 1 rfl
          have pc2 := BlkV.cell kP 2 rfl
          have qc0 := BlkV.cell kQ 0 rfl
          have qc1 := BlkV.cell kQ 1 rfl
          have qc2 := BlkV.cell kQ 2 rfl
          have hbl1 : xr.length ≤ 20 := by omega
          have hbl2 : yr.length ≤ 20 := by omega
          obtain ⟨rr, hrr⟩ : ∃ r, r = rightR sr xr yr := ⟨_, rfl⟩
          have HRR := hid hrr
          clear hrr
          replace hr' := hr'.drew
          replace rX := rX.drew
          replace rY := rY.drew
          replace rP := rP.drew
          replace rQ := rQ.drew
          replace kW := kW.drew
          replace kX := kX.drew
          replace kY := kY.drew
          replace kP := kP.drew
          replace kQ := kQ.drew
          replace hF := hF.drew
          clear wc0 wc1 wc2
          have wc0 := BlkV.cell kW 0 rfl
          have wc1 := BlkV.cell kW 1 rfl
          have wc2 := BlkV.cell kW 2 rfl
          clear xc0 xc1 xc2
          have xc0 := BlkV.cell kX 0 rfl
          have xc1 := BlkV.cell kX 1 rfl
          have xc2 := BlkV.cell kX 2 rfl
          clear yc0 yc1 yc2
          have yc0 := BlkV.cell kY 0 rfl
          have yc1 := BlkV.cell kY 1 rfl
          have yc2 := BlkV.cell kY 2 rfl
          clear pc0 pc1 pc2
          have pc0 := BlkV.cell kP 0 rfl
          have pc1 := BlkV.cell kP 1 rfl
          have pc2 := BlkV.cell kP 2 rfl
          clear qc0 qc1 qc2
          have qc0 := BlkV.cell kQ 0 rfl
          have qc1 := BlkV.cell kQ 1 rfl
          have qc2 := BlkV.cell kQ 2 rfl
          refine wp_region_held_drew (S := fun w' => w'.cell? ⟨w.heap.size, 0, none⟩ = some (.bool sr) ∧ w'.cell? ⟨w.heap.size, 1, none⟩ = some (.slice ao xr.length ac) ∧ w'.cell? ⟨w.heap.size, 2, none⟩ = some (.slice ap yr.length ae) ∧ w'.cell? ⟨w4.heap.size, 0, none⟩ = some (.bool false) ∧ w'.cell? ⟨w4.heap.size, 1, none⟩ = some (.slice none 0 0) ∧ w'.cell? ⟨w4.heap.size, 2, none⟩ = some (.slice none 0 0) ∧ w'.cell? ⟨w8.heap.size, 0, none⟩ = some (.bool false) ∧ w'.cell? ⟨w8.heap.size, 1, none⟩ = some (.slice none 0 0) ∧ w'.cell? ⟨w8.heap.size, 2, none⟩ = some (.slice none 0 0) ∧ w'.cell? ⟨w10.heap.size, 0, none⟩ = some (.bool false) ∧ w'.cell? ⟨w10.heap.size, 1, none⟩ = some (.slice none 0 0) ∧ w'.cell? ⟨w10.heap.size, 2, none⟩ = some (.slice none 0 0) ∧ w'.cell? ⟨w12.heap.size, 0, none⟩ = some (.bool false) ∧ w'.cell? ⟨w12.heap.size, 1, none⟩ = some (.slice poQ (nl 0) pcQ) ∧ w'.cell? ⟨w12.heap.size, 2, none⟩ = some (.slice qoQ (nl 0) qcQ)) (by kernel_rfl) ⟨by with_reducible assumption, by with_reducible assumption, by with_reducible assumption, by with_reducible assumption, by with_reducible assumption, by with_reducible assumption, by with_reducible assumption, by with_reducible assumption, by with_reducible assumption, by with_reducible assumption, by with_reducible assumption, by with_reducible assumption, by with_reducible assumption, by with_reducible assumption, by with_reducible assumption⟩ (fun hHeld => ?_)
          refine wpAnyH_take (i := 0) (oi := ?oi1_0) (v := ?vv1_0) ?hi1_0 (by kernel_rfl) (by kernel_rfl) (by kernel_rfl) ?hq1_0 ?hy1_0 hHeld ?rest1_0
          case hi1_0 => (simp only [List.getElem?_toArray, List.getElem?_cons_succ, List.getElem?_cons_zero]; rfl)
          case hq1_0 => exact fun _ _ _ h => h
          case hy1_0 =>
            refine Or.inl ⟨by rfl, ?_⟩
            intro wS hSw
            try dsimp only at hSw
            obtain ⟨q0, q1, q2, q3, q4, q5, q6, q7, q8, q9, q10, q11, q12, q13, q14⟩ := hSw
            go_simp
            try with_reducible rfl
          simp only [Act.put, List.setIfInBounds_toArray, List.set_cons_zero, List.set_cons_succ]
          refine wpAnyH_take (i := 1) (oi := ?oi2_1) (v := ?vv2_1) ?hi2_1 (by kernel_rfl) (by kernel_rfl) (by kernel_rfl) ?hq2_1 ?hy2_1 hHeld ?rest2_1
          case hi2_1 => (simp only [List.getElem?_toArray, List.getElem?_cons_succ, List.getElem?_cons_zero]; rfl)
          case hq2_1 => exact fun _ _ _ h => h
          case hy2_1 =>
            refine Or.inl ⟨by rfl, ?_⟩
            intro wS hSw
            try dsimp only at hSw
            obtain ⟨q0, q1, q2, q3, q4, q5, q6, q7, q8, q9, q10, q11, q12, q13, q14⟩ := hSw
            go_simp
            try with_reducible rfl
          simp only [Act.put, List.setIfInBounds_toArray, List.set_cons_zero, List.set_cons_succ]
          refine wpAnyH_take (i := 2) (oi := ?oi3_2) (v := ?vv3_2) ?hi3_2 (by kernel_rfl) (by kernel_rfl) (by kernel_rfl) ?hq3_2 ?hy3_2 hHeld ?rest3_2
          case hi3_2 => (simp only [List.getElem?_toArray, List.getElem?_cons_succ, List.getElem?_cons_zero]; rfl)
          case hq3_2 => exact fun _ _ _ h => h
          case hy3_2 =>
            refine Or.inl ⟨by rfl, ?_⟩
            intro wS hSw
            try dsimp only at hSw
            obtain ⟨q0, q1, q2, q3, q4, q5, q6, q7, q8, q9, q10, q11, q12, q13, q14⟩ := hSw
            go_simp
            try with_reducible rfl
          simp only [Act.put, List.setIfInBounds_toArray, List.set_cons_zero, List.set_cons_succ]
          refine wpAnyH_take (i := 3) (oi := ?oi4_3) (v := ?vv4_3) ?hi4_3 (by kernel_rfl) (by kernel_rfl) (by kernel_rfl) ?hq4_3 ?hy4_3 hHeld ?rest4_3
          case hi4_3 => (simp only [List.getElem?_toArray, List.getElem?_cons_succ, List.getElem?_cons_zero]; rfl)
          case hq4_3 => exact fun _ _ _ h => h
          case hy4_3 =>
            refine Or.inl ⟨by rfl, ?_⟩
            intro wS hSw
            try dsimp only at hSw
            obtain ⟨q0, q1, q2, q3, q4, q5, q6, q7, q8, q9, q10, q11, q12, q13, q14⟩ := hSw
            go_simp
            try with_reducible rfl
          simp only [Act.put, List.setIfInBounds_toArray, List.set_cons_zero, List.set_cons_succ]
          refine wpAnyH_take (i := 4) (oi := ?oi5_4) (v := ?vv5_4) ?hi5_4 (by kernel_rfl) (by kernel_rfl) (by kernel_rfl) ?hq5_4 ?hy5_4 hHeld ?rest5_4
          case hi5_4 => (simp only [List.getElem?_toArray, List.getElem?_cons_succ, List.getElem?_cons_zero]; rfl)
          case hq5_4 => exact fun _ _ _ h => h
          case hy5_4 =>
            refine Or.inl ⟨by rfl, ?_⟩
            intro wS hSw
            try dsimp only at hSw
            obtain ⟨q0, q1, q2, q3, q4, q5, q6, q7, q8, q9, q10, q11, q12, q13, q14⟩ := hSw
            go_simp
            try with_reducible rfl
          simp only [Act.put, List.setIfInBounds_toArray, List.set_cons_zero, List.set_cons_succ]
          refine wpAnyH_take (i := 5) (oi := ?oi6_5) (v := ?vv6_5) ?hi6_5 (by kernel_rfl) (by kernel_rfl) (by kernel_rfl) ?hq6_5 ?hy6_5 hHeld ?rest6_5
          case hi6_5 => (simp only [List.getElem?_toArray, List.getElem?_cons_succ, List.getElem?_cons_zero]; rfl)
          case hq6_5 => exact fun _ _ _ h => h
          case hy6_5 =>
            refine Or.inl ⟨by rfl, ?_⟩
            intro wS hSw
            try dsimp only at hSw
            obtain ⟨q0, q1, q2, q3, q4, q5, q6, q7, q8, q9, q10, q11, q12, q13, q14⟩ := hSw
            go_simp
            try with_reducible rfl
          simp only [Act.put, List.setIfInBounds_toArray, List.set_cons_zero, List.set_cons_succ]
          refine wpAnyH_ready (rs := [6]) (by kernel_rfl) (by simp) ?_
          refine AllReadyH.cons rfl (fun K hK => ?_) AllReadyH.nil
          go_simp
          refine (same2_zero rX rY).mono ?_
          rintro e w14 ⟨rfl, hf14⟩
          replace hr' := hr'.fwd hf14
          replace rX := rX.fwd hf14
          replace rY := rY.fwd hf14
          replace rP := rP.fwd hf14
          replace rQ := rQ.fwd hf14
          replace kW := kW.fwd hf14
          replace kX := kX.fwd hf14
          replace kY := kY.fwd hf14
          replace kP := kP.fwd hf14
          replace kQ := kQ.fwd hf14
          replace hF := hF.trans hf14
          clear hf14
          clear wc0 wc1 wc2
          have wc0 := BlkV.cell kW 0 rfl
          have wc1 := BlkV.cell kW 1 rfl
          have wc2 := BlkV.cell kW 2 rfl
          clear xc0 xc1 xc2
          have xc0 := BlkV.cell kX 0 rfl
          have xc1 := BlkV.cell kX 1 rfl
          have xc2 := BlkV.cell kX 2 rfl
          clear yc0 yc1 yc2
          have yc0 := BlkV.cell kY 0 rfl
          have yc1 := BlkV.cell kY 1 rfl
          have yc2 := BlkV.cell kY 2 rfl
          clear pc0 pc1 pc2
          have pc0 := BlkV.cell kP 0 rfl
          have pc1 := BlkV.cell kP 1 rfl
          have pc2 := BlkV.cell kP 2 rfl
          clear qc0 qc1 qc2
          have qc0 := BlkV.cell kQ 0 rfl
          have qc1 := BlkV.cell kQ 1 rfl
          have qc2 := BlkV.cell kQ 2 rfl
          go_wp2_with fail
          clear hHeld
          refine hK.out _ _ ⟨by with_reducible assumption, by with_reducible assumption, by with_reducible assumption, by with_reducible assumption, by with_reducible assumption, by with_reducible assumption, by with_reducible assumption, by with_reducible assumption, by with_reducible assumption, by with_reducible assumption, by with_reducible assumption, by with_reducible assumption, by with_reducible assumption, by with_reducible assumption, by with_reducible assumption⟩ (fun hHeld => ?_)
          clear hK K
          try simp only [Act.put, List.setIfInBounds_toArray, List.set_cons_zero, List.set_cons_succ]
          refine wpAnyH_take (i := 7) (oi := ?oi7_7) (v := ?vv7_7) ?hi7_7 (by kernel_rfl) (by kernel_rfl) (by kernel_rfl) ?hq7_7 ?hy7_7 hHeld ?rest7_7
          case hi7_7 => (simp only [List.getElem?_toArray, List.getElem?_cons_succ, List.getElem?_cons_zero]; rfl)
          case hq7_7 => exact fun _ _ _ h => h
          case hy7_7 =>
            refine Or.inl ⟨by rfl, ?_⟩
            intro wS hSw
            try dsimp only at hSw
            obtain ⟨q0, q1, q2, q3, q4, q5, q6, q7, q8, q9, q10, q11, q12, q13, q14⟩ := hSw
            go_simp
            try with_reducible rfl
          simp only [Act.put, List.setIfInBounds_toArray, List.set_cons_zero, List.set_cons_succ]
          refine wpAnyH_take (i := 8) (oi := ?oi8_8) (v := ?vv8_8) ?hi8_8 (by kernel_rfl) (by kernel_rfl) (by kernel_rfl) ?hq8_8 ?hy8_8 hHeld ?rest8_8
          case hi8_8 => (simp only [List.getElem?_toArray, List.getElem?_cons_succ, List.getElem?_cons_zero]; rfl)
          case hq8_8 => exact fun _ _ _ h => h
          case hy8_8 =>
            refine Or.inl ⟨by rfl, ?_⟩
            intro wS hSw
            try dsimp only at hSw
            obtain ⟨q0, q1, q2, q3, q4, q5, q6, q7, q8, q9, q10, q11, q12, q13, q14⟩ := hSw
            go_simp
            try with_reducible rfl
          simp only [Act.put, List.setIfInBounds_toArray, List.set_cons_zero, List.set_cons_succ]
          refine wpAnyH_take (i := 9) (oi := ?oi9_9) (v := ?vv9_9) ?hi9_9 (by kernel_rfl) (by kernel_rfl) (by kernel_rfl) ?hq9_9 ?hy9_9 hHeld ?rest9_9
          case hi9_9 => (simp only [List.getElem?_toArray, List.getElem?_cons_succ, List.getElem?_cons_zero]; rfl)
          case hq9_9 => exact fun _ _ _ h => h
          case hy9_9 =>
            refine Or.inl ⟨by rfl, ?_⟩
            intro wS hSw
            try dsimp only at hSw
            obtain ⟨q0, q1, q2, q3, q4, q5, q6, q7, q8, q9, q10, q11, q12, q13, q14⟩ := hSw
            go_simp
            try with_reducible rfl
          simp only [Act.put, List.setIfInBounds_toArray, List.set_cons_zero, List.set_cons_succ]
          refine wpAnyH_take (i := 10) (oi := ?oi10_10) (v := ?vv10_10) ?hi10_10 (by kernel_rfl) (by kernel_rfl) (by kernel_rfl) ?hq10_10 ?hy10_10 hHeld ?rest10_10
          case hi10_10 => (simp only [List.getElem?_toArray, List.getElem?_cons_succ, List.getElem?_cons_zero]; rfl)
          case hq10_10 => exact fun _ _ _ h => h
          case hy10_10 =>
            refine Or.inl ⟨by rfl, ?_⟩
            intro wS hSw
            try dsimp only at hSw
            obtain ⟨q0, q1, q2, q3, q4, q5, q6, q7, q8, q9, q10, q11, q12, q13, q14⟩ := hSw
            go_simp
            try with_reducible rfl
          simp only [Act.put, List.setIfInBounds_toArray, List.set_cons_zero, List.set_cons_succ]
          refine wpAnyH_take (i := 11) (oi := ?oi11_11) (v := ?vv11_11) ?hi11_11 (by kernel_rfl) (by kernel_rfl) (by kernel_rfl) ?hq11_11 ?hy11_11 hHeld ?rest11_11
          case hi11_11 => (simp only [List.getElem?_toArray, List.getElem?_cons_succ, List.getElem?_cons_zero]; rfl)
          case hq11_11 => exact fun _ _ _ h => h
          case hy11_11 =>
            refine Or.inl ⟨by rfl, ?_⟩
            intro wS hSw
            try dsimp only at hSw
            obtain ⟨q0, q1, q2, q3, q4, q5, q6, q7, q8, q9, q10, q11, q12, q13, q14⟩ := hSw
            go_simp
            try with_reducible rfl
          simp only [Act.put, List.setIfInBounds_toArray, List.set_cons_zero, List.set_cons_succ]
          refine wpAnyH_take (i := 12) (oi := ?oi12_12) (v := ?vv12_12) ?hi12_12 (by kernel_rfl) (by kernel_rfl) (by kernel_rfl) ?hq12_12 ?hy12_12 hHeld ?rest12_12
          case hi12_12 => (simp only [List.getElem?_toArray, List.getElem?_cons_succ, List.getElem?_cons_zero]; rfl)
          case hq12_12 => exact fun _ _ _ h => h
          case hy12_12 =>
            refine Or.inl ⟨by rfl, ?_⟩
            intro wS hSw
            try dsimp only at hSw
            obtain ⟨q0, q1, q2, q3, q4, q5, q6, q7, q8, q9, q10, q11, q12, q13, q14⟩ := hSw
            go_simp
            try with_reducible rfl
          simp only [Act.put, List.setIfInBounds_toArray, List.set_cons_zero, List.set_cons_succ]
          refine wpAnyH_take (i := 13) (oi := ?oi13_13) (v := ?vv13_13) ?hi13_13 (by kernel_rfl) (by kernel_rfl) (by kernel_rfl) ?hq13_13 ?hy13_13 hHeld ?rest13_13
          case hi13_13 => (simp only [List.getElem?_toArray, List.getElem?_cons_succ, List.getElem?_cons_zero]; rfl)
          case hq13_13 => exact fun _ _ _ h => h
          case hy13_13 =>
            refine Or.inl ⟨by rfl, ?_⟩
            intro wS hSw
            try dsimp only at hSw
            obtain ⟨q0, q1, q2, q3, q4, q5, q6, q7, q8, q9, q10, q11, q12, q13, q14⟩ := hSw
            go_simp
            try with_reducible rfl
          simp only [Act.put, List.setIfInBounds_toArray, List.set_cons_zero, List.set_cons_succ]
          refine wpAnyH_take (i := 14) (oi := ?oi14_14) (v := ?vv14_14) ?hi14_14 (by kernel_rfl) (by kernel_rfl) (by kernel_rfl) ?hq14_14 ?hy14_14 hHeld ?rest14_14
          case hi14_14 => (simp only [List.getElem?_toArray, List.getElem?_cons_succ, List.getElem?_cons_zero]; rfl)
          case hq14_14 => exact fun _ _ _ h => h
          case hy14_14 =>
            refine Or.inl ⟨by rfl, ?_⟩
            intro wS hSw
            try dsimp only at hSw
            obtain ⟨q0, q1, q2, q3, q4, q5, q6, q7, q8, q9, q10, q11, q12, q13, q14⟩ := hSw
            go_simp
            try with_reducible rfl
          simp only [Act.put, List.setIfInBounds_toArray, List.set_cons_zero, List.set_cons_succ]
          refine wpAnyH_take (i := 15) (oi := ?oi15_15) (v := ?vv15_15) ?hi15_15 (by kernel_rfl) (by kernel_rfl) (by kernel_rfl) ?hq15_15 ?hy15_15 hHeld ?rest15_15
          case hi15_15 => (simp only [List.getElem?_toArray, List.getElem?_cons_succ, List.getElem?_cons_zero]; rfl)
          case hq15_15 => exact fun _ _ _ h => h
          case hy15_15 =>
            refine Or.inl ⟨by rfl, ?_⟩
            intro wS hSw
            try dsimp only at hSw
            obtain ⟨q0, q1, q2, q3, q4, q5, q6, q7, q8, q9, q10, q11, q12, q13, q14⟩ := hSw
            go_simp
            try with_reducible rfl
          simp only [Act.put, List.setIfInBounds_toArray, List.set_cons_zero, List.set_cons_succ]
          refine wpAnyH_ready (rs := [16]) (by kernel_rfl) (by simp) ?_
          refine AllReadyH.cons rfl (fun K hK => ?_) AllReadyH.nil
          go_simp
          refine (same2_zero rP rQ).mono ?_
          rintro e w15 ⟨rfl, hf15⟩
          replace hr' := hr'.fwd hf15
          replace rX := rX.fwd hf15
          replace rY := rY.fwd hf15
          replace rP := rP.fwd hf15
          replace rQ := rQ.fwd hf15
          replace kW := kW.fwd hf15
          replace kX := kX.fwd hf15
          replace kY := kY.fwd hf15
          replace kP := kP.fwd hf15
          replace kQ := kQ.fwd hf15
          replace hF := hF.trans hf15
          clear hf15
          clear wc0 wc1 wc2
          have wc0 := BlkV.cell kW 0 rfl
          have wc1 := BlkV.cell kW 1 rfl
          have wc2 := BlkV.cell kW 2 rfl
          clear xc0 xc1 xc2
          have xc0 := BlkV.cell kX 0 rfl
          have xc1 := BlkV.cell kX 1 rfl
          have xc2 := BlkV.cell kX 2 rfl
          clear yc0 yc1 yc2
          have yc0 := BlkV.cell kY 0 rfl
          have yc1 := BlkV.cell kY 1 rfl
          have yc2 := BlkV.cell kY 2 rfl
          clear pc0 pc1 pc2
          have pc0 := BlkV.cell kP 0 rfl
          have pc1 := BlkV.cell kP 1 rfl
          have pc2 := BlkV.cell kP 2 rfl
          clear qc0 qc1 qc2
          have qc0 := BlkV.cell kQ 0 rfl
          have qc1 := BlkV.cell kQ 1 rfl
          have qc2 := BlkV.cell kQ 2 rfl
          go_wp2_with fail
          clear hHeld
          refine hK.out _ _ ⟨by with_reducible assumption, by with_reducible assumption, by with_reducible assumption, by with_reducible assumption, by with_reducible assumption, by with_reducible assumption, by with_reducible assumption, by with_reducible assumption, by with_reducible assumption, by with_reducible assumption, by with_reducible assumption, by with_reducible assumption, by with_reducible assumption, by with_reducible assumption, by with_reducible assumption⟩ (fun hHeld => ?_)
          clear hK K
          try simp only [Act.put, List.setIfInBounds_toArray, List.set_cons_zero, List.set_cons_succ]
          refine wpAnyH_take (i := 17) (oi := ?oi16_17) (v := ?vv16_17) ?hi16_17 (by kernel_rfl) (by kernel_rfl) (by kernel_rfl) ?hq16_17 ?hy16_17 hHeld ?rest16_17
          case hi16_17 => (simp only [List.getElem?_toArray, List.getElem?_cons_succ, List.getElem?_cons_zero]; rfl)
          case hq16_17 => exact fun _ _ _ h => h
          case hy16_17 =>
            refine Or.inl ⟨by rfl, ?_⟩
            intro wS hSw
            try dsimp only at hSw
            obtain ⟨q0, q1, q2, q3, q4, q5, q6, q7, q8, q9, q10, q11, q12, q13, q14⟩ := hSw
            go_simp
            try with_reducible rfl
          simp only [Act.put, List.setIfInBounds_toArray, List.set_cons_zero, List.set_cons_succ]
          refine wpAnyH_take (i := 18) (oi := ?oi17_18) (v := ?vv17_18) ?hi17_18 (by kernel_rfl) (by kernel_rfl) (by kernel_rfl) ?hq17_18 ?hy17_18 hHeld ?rest17_18
          case hi17_18 => (simp only [List.getElem?_toArray, List.getElem?_cons_succ, List.getElem?_cons_zero]; rfl)
          case hq17_18 => exact fun _ _ _ h => h
          case hy17_18 =>
            refine Or.inl ⟨by rfl, ?_⟩
            intro wS hSw
            try dsimp only at hSw
            obtain ⟨q0, q1, q2, q3, q4, q5, q6, q7, q8, q9, q10, q11, q12, q13, q14⟩ := hSw
            go_simp
            try with_reducible rfl
          simp only [Act.put, List.setIfInBounds_toArray, List.set_cons_zero, List.set_cons_succ]
          refine wpAnyH_take (i := 19) (oi := ?oi18_19) (v := ?vv18_19) ?hi18_19 (by kernel_rfl) (by kernel_rfl) (by kernel_rfl) ?hq18_19 ?hy18_19 hHeld ?rest18_19
          case hi18_19 => (simp only [List.getElem?_toArray, List.getElem?_cons_succ, List.getElem?_cons_zero]; rfl)
          case hq18_19 => exact fun _ _ _ h => h
          case hy18_19 =>
            refine Or.inl ⟨by rfl, ?_⟩
            intro wS hSw
            try dsimp only at hSw
            obtain ⟨q0, q1, q2, q3, q4, q5, q6, q7, q8, q9, q10, q11, q12, q13, q14⟩ := hSw
            go_simp
            try with_reducible rfl
          simp only [Act.put, List.setIfInBounds_toArray, List.set_cons_zero, List.set_cons_succ]
          refine wpAnyH_take (i := 21) (oi := ?oi19_21) (v := ?vv19_21) ?hi19_21 (by kernel_rfl) (by kernel_rfl) (by kernel_rfl) ?hq19_21 ?hy19_21 hHeld ?rest19_21
          case hi19_21 => (simp only [List.getElem?_toArray, List.getElem?_cons_succ, List.getElem?_cons_zero]; rfl)
          case hq19_21 => exact fun _ _ _ h => h
          case hy19_21 =>
            refine Or.inl ⟨by rfl, ?_⟩
            intro wS hSw
            try dsimp only at hSw
            obtain ⟨q0, q1, q2, q3, q4, q5, q6, q7, q8, q9, q10, q11, q12, q13, q14⟩ := hSw
            go_simp
            try with_reducible rfl
          simp only [Act.put, List.setIfInBounds_toArray, List.set_cons_zero, List.set_cons_succ]
          refine wpAnyH_ready (rs := [20]) (by kernel_rfl) (by simp) ?_
          refine AllReadyH.cons rfl (fun K hK => ?_) AllReadyH.nil
          go_simp
          refine (rright_any hr' (by omega) (by omega)).mono ?_
          rintro e w16 ⟨rfl, hf16⟩
          replace hr' := hr'.fwd hf16
          replace rX := rX.fwd hf16
          replace rY := rY.fwd hf16
          replace rP := rP.fwd hf16
          replace rQ := rQ.fwd hf16
          replace kW := kW.fwd hf16
          replace kX := kX.fwd hf16
          replace kY := kY.fwd hf16
          replace kP := kP.fwd hf16
          replace kQ := kQ.fwd hf16
          replace hF := hF.trans hf16
          clear hf16
          clear wc0 wc1 wc2
          have wc0 := BlkV.cell kW 0 rfl
          have wc1 := BlkV.cell kW 1 rfl
          have wc2 := BlkV.cell kW 2 rfl
          clear xc0 xc1 xc2
          have xc0 := BlkV.cell kX 0 rfl
          have xc1 := BlkV.cell kX 1 rfl
          have xc2 := BlkV.cell kX 2 rfl
          clear yc0 yc1 yc2
          have yc0 := BlkV.cell kY 0 rfl
          have yc1 := BlkV.cell kY 1 rfl
          have yc2 := BlkV.cell kY 2 rfl
          clear pc0 pc1 pc2
          have pc0 := BlkV.cell kP 0 rfl
          have pc1 := BlkV.cell kP 1 rfl
          have pc2 := BlkV.cell kP 2 rfl
          clear qc0 qc1 qc2
          have qc0 := BlkV.cell kQ 0 rfl
          have qc1 := BlkV.cell kQ 1 rfl
          have qc2 := BlkV.cell kQ 2 rfl
          rw [← HRR.out]
          go_wp2_with fail
          clear hHeld
          refine hK.out _ _ ⟨by with_reducible assumption, by with_reducible assumption, by with_reducible assumption, by with_reducible assumption, by with_reducible assumption, by with_reducible assumption, by with_reducible assumption, by with_reducible assumption, by with_reducible assumption, by with_reducible assumption, by with_reducible assumption, by with_reducible assumption, by with_reducible assumption, by with_reducible assumption, by with_reducible assumption⟩ (fun hHeld => ?_)
          clear hK K
          try simp only [Act.put, List.setIfInBounds_toArray, List.set_cons_zero, List.set_cons_succ]
          refine wpAnyH_ready (rs := [22]) (by kernel_rfl) (by simp) ?_
          refine AllReadyH.cons rfl (fun K hK => ?_) AllReadyH.nil
          go_simp
          refine (right2_any hr' (by omega) (by omega)).mono ?_
          rintro e w17 ⟨rfl, hf17⟩
          replace hr' := hr'.fwd hf17
          replace rX := rX.fwd hf17
          replace rY := rY.fwd hf17
          replace rP := rP.fwd hf17
          replace rQ := rQ.fwd hf17
          replace kW := kW.fwd hf17
          replace kX := kX.fwd hf17
          replace kY := kY.fwd hf17
          replace kP := kP.fwd hf17
          replace kQ := kQ.fwd hf17
          replace hF := hF.trans hf17
          clear hf17
          clear wc0 wc1 wc2
          have wc0 := BlkV.cell kW 0 rfl
          have wc1 := BlkV.cell kW 1 rfl
          have wc2 := BlkV.cell kW 2 rfl
          clear xc0 xc1 xc2
          have xc0 := BlkV.cell kX 0 rfl
          have xc1 := BlkV.cell kX 1 rfl
          have xc2 := BlkV.cell kX 2 rfl
          clear yc0 yc1 yc2
          have yc0 := BlkV.cell kY 0 rfl
          have yc1 := BlkV.cell kY 1 rfl
          have yc2 := BlkV.cell kY 2 rfl
          clear pc0 pc1 pc2
          have pc0 := BlkV.cell kP 0 rfl
          have pc1 := BlkV.cell kP 1 rfl
          have pc2 := BlkV.cell kP 2 rfl
          clear qc0 qc1 qc2
          have qc0 := BlkV.cell kQ 0 rfl
          have qc1 := BlkV.cell kQ 1 rfl
          have qc2 := BlkV.cell kQ 2 rfl
          rw [← HRR.out]
          go_wp2_with fail
          clear hHeld
          refine hK.out _ _ ⟨by with_reducible assumption, by with_reducible assumption, by with_reducible assumption, by with_reducible assumption, by with_reducible assumption, by with_reducible assumption, by with_reducible assumption, by with_reducible assumption, by with_reducible assumption, by with_reducible assumption, by with_reducible assumption, by with_reducible assumption, by with_reducible assumption, by with_reducible assumption, by with_reducible assumption⟩ (fun hHeld => ?_)
          clear hK K
          try simp only [Act.put, List.setIfInBounds_toArray, List.set_cons_zero, List.set_cons_succ]
          refine wpAnyH_take (i := 23) (oi := ?oi20_23) (v := ?vv20_23) ?hi20_23 (by kernel_rfl) (by kernel_rfl) (by kernel_rfl) ?hq20_23 ?hy20_23 hHeld ?rest20_23
          case hi20_23 => (simp only [List.getElem?_toArray, List.getElem?_cons_succ, List.getElem?_cons_zero]; rfl)
          case hq20_23 => exact fun _ _ _ h => h
          case hy20_23 =>
            refine Or.inl ⟨by rfl, ?_⟩
            intro wS hSw
            try dsimp only at hSw
            obtain ⟨q0, q1, q2, q3, q4, q5, q6, q7, q8, q9, q10, q11, q12, q13, q14⟩ := hSw
            go_simp
            try with_reducible rfl
          simp only [Act.put, List.setIfInBounds_toArray, List.set_cons_zero, List.set_cons_succ]
          refine wpAnyH_take (i := 24) (oi := ?oi21_24) (v := ?vv21_24) ?hi21_24 (by kernel_rfl) (by kernel_rfl) (by kernel_rfl) ?hq21_24 ?hy21_24 hHeld ?rest21_24
          case hi21_24 => (simp only [List.getElem?_toArray, List.getElem?_cons_succ, List.getElem?_cons_zero]; rfl)
          case hq21_24 => exact fun _ _ _ h => h
          case hy21_24 =>
            refine Or.inl ⟨by rfl, ?_⟩
            intro wS hSw
            try dsimp only at hSw
            obtain ⟨q0, q1, q2, q3, q4, q5, q6, q7, q8, q9, q10, q11, q12, q13, q14⟩ := hSw
            go_simp
            try with_reducible rfl
          simp only [Act.put, List.setIfInBounds_toArray, List.set_cons_zero, List.set_cons_succ]
          refine wpAnyH_take (i := 25) (oi := ?oi22_25) (v := ?vv22_25) ?hi22_25 (by kernel_rfl) (by kernel_rfl) (by kernel_rfl) ?hq22_25 ?hy22_25 hHeld ?rest22_25
          case hi22_25 => (simp only [List.getElem?_toArray, List.getElem?_cons_succ, List.getElem?_cons_zero]; rfl)
          case hq22_25 => exact fun _ _ _ h => h
          case hy22_25 =>
            refine Or.inl ⟨by rfl, ?_⟩
            intro wS hSw
            try dsimp only at hSw
            obtain ⟨q0, q1, q2, q3, q4, q5, q6, q7, q8, q9, q10, q11, q12, q13, q14⟩ := hSw
            go_simp
            try with_reducible rfl
          simp only [Act.put, List.setIfInBounds_toArray, List.set_cons_zero, List.set_cons_succ]
          refine wpAnyH_take (i := 26) (oi := ?oi23_26) (v := ?vv23_26) ?hi23_26 (by kernel_rfl) (by kernel_rfl) (by kernel_rfl) ?hq23_26 ?hy23_26 hHeld ?rest23_26
          case hi23_26 => (simp only [List.getElem?_toArray, List.getElem?_cons_succ, List.getElem?_cons_zero]; rfl)
          case hq23_26 => exact fun _ _ _ h => h
          case hy23_26 =>
            refine Or.inl ⟨by rfl, ?_⟩
            intro wS hSw
            try dsimp only at hSw
            obtain ⟨q0, q1, q2, q3, q4, q5, q6, q7, q8, q9, q10, q11, q12, q13, q14⟩ := hSw
            go_simp
            try with_reducible rfl
          simp only [Act.put, List.setIfInBounds_toArray, List.set_cons_zero, List.set_cons_succ]
          refine wpAnyH_take (i := 27) (oi := ?oi24_27) (v := ?vv24_27) ?hi24_27 (by kernel_rfl) (by kernel_rfl) (by kernel_rfl) ?hq24_27 ?hy24_27 hHeld ?rest24_27
          case hi24_27 => (simp only [List.getElem?_toArray, List.getElem?_cons_succ, List.getElem?_cons_zero]; rfl)
          case hq24_27 => exact fun _ _ _ h => h
          case hy24_27 =>
            refine Or.inl ⟨by rfl, ?_⟩
            intro wS hSw
            try dsimp only at hSw
            obtain ⟨q0, q1, q2, q3, q4, q5, q6, q7, q8, q9, q10, q11, q12, q13, q14⟩ := hSw
            go_simp
            try with_reducible rfl
          simp only [Act.put, List.setIfInBounds_toArray, List.set_cons_zero, List.set_cons_succ]
          refine wpAnyH_take (i := 28) (oi := ?oi25_28) (v := ?vv25_28) ?hi25_28 (by kernel_rfl) (by kernel_rfl) (by kernel_rfl) ?hq25_28 ?hy25_28 hHeld ?rest25_28
          case hi25_28 => (simp only [List.getElem?_toArray, List.getElem?_cons_succ, List.getElem?_cons_zero]; rfl)
          case hq25_28 => exact fun _ _ _ h => h
          case hy25_28 =>
            refine Or.inl ⟨by rfl, ?_⟩
            intro wS hSw
            try dsimp only at hSw
            obtain ⟨q0, q1, q2, q3, q4, q5, q6, q7, q8, q9, q10, q11, q12, q13, q14⟩ := hSw
            go_simp
            try with_reducible rfl
          simp only [Act.put, List.setIfInBounds_toArray, List.set_cons_zero, List.set_cons_succ]
          refine wpAnyH_take (i := 29) (oi := ?oi26_29) (v := undef) ?hi26_29 (by kernel_rfl) (by kernel_rfl) (by kernel_rfl) ?hq26_29 ?hy26_29 hHeld ?rest26_29
          case hi26_29 => (simp only [List.getElem?_toArray, List.getElem?_cons_succ, List.getElem?_cons_zero]; rfl)
          case hq26_29 => exact fun _ _ _ h => h
          case hy26_29 => exact Or.inr ⟨by rfl, rfl⟩
          simp only [Act.put, List.setIfInBounds_toArray, List.set_cons_zero, List.set_cons_succ]
          refine wpAnyH_take (i := 30) (oi := ?oi27_30) (v := undef) ?hi27_30 (by kernel_rfl) (by kernel_rfl) (by kernel_rfl) ?hq27_30 ?hy27_30 hHeld ?rest27_30
          case hi27_30 => (simp only [List.getElem?_toArray, List.getElem?_cons_succ, List.getElem?_cons_zero]; rfl)
          case hq27_30 => exact fun _ _ _ h => h
          case hy27_30 => exact Or.inr ⟨by rfl, rfl⟩
          simp only [Act.put, List.setIfInBounds_toArray, List.set_cons_zero, List.set_cons_succ]
          refine wpAnyH_take (i := 31) (oi := ?oi28_31) (v := ?vv28_31) ?hi28_31 (by kernel_rfl) (by kernel_rfl) (by kernel_rfl) ?hq28_31 ?hy28_31 hHeld ?rest28_31
          case hi28_31 => (simp only [List.getElem?_toArray, List.getElem?_cons_succ, List.getElem?_cons_zero]; rfl)
          case hq28_31 => exact fun _ _ _ h => h
          case hy28_31 =>
            refine Or.inl ⟨by rfl, ?_⟩
            intro wS hSw
            try dsimp only at hSw
            obtain ⟨q0, q1, q2, q3, q4, q5, q6, q7, q8, q9, q10, q11, q12, q13, q14⟩ := hSw
            go_simp
            try with_reducible rfl
          simp only [Act.put, List.setIfInBounds_toArray, List.set_cons_zero, List.set_cons_succ]
          refine wpAnyH_take (i := 32) (oi := ?oi29_32) (v := ?vv29_32) ?hi29_32 (by kernel_rfl) (by kernel_rfl) (by kernel_rfl) ?hq29_32 ?hy29_32 hHeld ?rest29_32
          case hi29_32 => (simp only [List.getElem?_toArray, List.getElem?_cons_succ, List.getElem?_cons_zero]; rfl)
          case hq29_32 => exact fun _ _ _ h => h
          case hy29_32 =>
            refine Or.inl ⟨by rfl, ?_⟩
            intro wS hSw
            try dsimp only at hSw
            obtain ⟨q0, q1, q2, q3, q4, q5, q6, q7, q8, q9, q10, q11, q12, q13, q14⟩ := hSw
            go_simp
            try with_reducible rfl
          simp only [Act.put, List.setIfInBounds_toArray, List.set_cons_zero, List.set_cons_succ]
          refine wpAnyH_take (i := 33) (oi := ?oi30_33) (v := ?vv30_33) ?hi30_33 (by kernel_rfl) (by kernel_rfl) (by kernel_rfl) ?hq30_33 ?hy30_33 hHeld ?rest30_33
          case hi30_33 => (simp only [List.getElem?_toArray, List.getElem?_cons_succ, List.getElem?_cons_zero]; rfl)
          case hq30_33 => exact fun _ _ _ h => h
          case hy30_33 =>
            refine Or.inl ⟨by rfl, ?_⟩
            intro wS hSw
            try dsimp only at hSw
            obtain ⟨q0, q1, q2, q3, q4, q5, q6, q7, q8, q9, q10, q11, q12, q13, q14⟩ := hSw
            go_simp
            try with_reducible rfl
          simp only [Act.put, List.setIfInBounds_toArray, List.set_cons_zero, List.set_cons_succ]
          refine wpAnyH_done (by kernel_rfl) ?_ _
          go_wp2_with fail
          go_ret
          exact ⟨rfl, hF⟩
        · have HD0 := hid hd0
          obtain ⟨u, hu⟩ : ∃ u, u = mkQ (!(decide (n < 0) == decide (d < 0))) n.natAbs d.natAbs := ⟨_, rfl⟩
          have bu : nr u ≤ 2 := by rw [hu]; refine Nat.le_trans (nr_mkQ _ _ _ (by omega)) ?_; have e1 : nl n.natAbs ≤ 2 := nl_le_two.2 (by omega); have e2 : nl d.natAbs ≤ 2 := nl_le_two.2 (by omega); omega
          have HU := hid hu
          clear hd0 hu
          go_wp2_with fail
          refine (rof_any _ n d n1 n2 d1 d2 HD0.out).mono ?_
          rintro e w10 ⟨v, rfl, rP, hf10⟩
          replace hr' := hr'.fwd hf10
          replace rX := rX.fwd hf10
          replace rY := rY.fwd hf10
          replace kW := kW.fwd hf10
          replace kX := kX.fwd hf10
          replace kY := kY.fwd hf10
          replace hF := hF.trans hf10
          clear hf10
          clear wc0 wc1 wc2
          have wc0 := BlkV.cell kW 0 rfl
          have wc1 := BlkV.cell kW 1 rfl
          have wc2 := BlkV.cell kW 2 rfl
          clear xc0 xc1 xc2
          have xc0 := BlkV.cell kX 0 rfl
          have xc1 := BlkV.cell kX 1 rfl
          have xc2 := BlkV.cell kX 2 rfl
          clear yc0 yc1 yc2
          have yc0 := BlkV.cell kY 0 rfl
          have yc1 := BlkV.cell kY 1 rfl
          have yc2 := BlkV.cell kY 2 rfl
          rw [← HU.out] at rP
          have HV := hid rP
          obtain ⟨poP, pcP, qoP, qcP, rfl, p1P, p2P, p3P, p4P, -, -⟩ := RW.open rP.rw'
          clear rP
          have rP := HV.out
          clear HV
          have ltW10 := BlkV.lt kW
          have ltX10 := BlkV.lt kX
          have ltY10 := BlkV.lt kY
          have hfB : Fwd w10 (w10.alloc (.cells #[.bool (negQ u), .slice poP (nl u.num.natAbs) pcP, .slice qoP (nl u.den) qcP] 24)) := (Fwd.refl _).alloc _
          replace hr' := hr'.fwd hfB
          replace rX := rX.fwd hfB
          replace rY := rY.fwd hfB
          replace rP := rP.fwd hfB
          replace kW := kW.fwd hfB
          replace kX := kX.fwd hfB
          replace kY := kY.fwd hfB
          replace hF := hF.trans hfB
          clear hfB
          clear wc0 wc1 wc2
          have wc0 := BlkV.cell kW 0 rfl
          have wc1 := BlkV.cell kW 1 rfl
          have wc2 := BlkV.cell kW 2 rfl
          clear xc0 xc1 xc2
          have xc0 := BlkV.cell kX 0 rfl
          have xc1 := BlkV.cell kX 1 rfl
          have xc2 := BlkV.cell kX 2 rfl
          clear yc0 yc1 yc2
          have yc0 := BlkV.cell kY 0 rfl
          have yc1 := BlkV.cell kY 1 rfl
          have yc2 := BlkV.cell kY 2 rfl
          have kP := BlkV.made w10 24 [.bool (negQ u), .slice poP (nl u.num.natAbs) pcP, .slice qoP (nl u.den) qcP]
          go_upto_region 8 with fail
          generalize (w10.alloc (.cells #[.bool (negQ u), .slice poP (nl u.num.natAbs) pcP, .slice qoP (nl u.den) qcP] 24)) = w11 at kP hr' rX rY rP kW kX kY hF ⊢
          clear wc0 wc1 wc2 xc0 xc1 xc2 yc0 yc1 yc2
          have wc0 := BlkV.cell kW 0 rfl
          have wc1 := BlkV.cell kW 1 rfl
          have wc2 := BlkV.cell kW 2 rfl
          have xc0 := BlkV.cell kX 0 rfl
          have xc1 := BlkV.cell kX 1 rfl
          have xc2 := BlkV.cell kX 2 rfl
          have yc0 := BlkV.cell kY 0 rfl
          have yc1 := BlkV.cell kY 1 rfl
          have yc2 := BlkV.cell kY 2 rfl
          have pc0 := BlkV.cell kP 0 rfl
          have pc1 := BlkV.cell kP 1 rfl
          have pc2 := BlkV.cell kP 2 rfl
          go_wp2_with fail
          refine (of2_any _ n d n1 n2 d1 d2 HD0.out).mono ?_
          rintro e w12 ⟨v, rfl, rQ, hf12⟩
          replace hr' := hr'.fwd hf12
          replace rX := rX.fwd hf12
          replace rY := rY.fwd hf12
          replace rP := rP.fwd hf12
          replace kW := kW.fwd hf12
          replace kX := kX.fwd hf12
          replace kY := kY.fwd hf12
          replace kP := kP.fwd hf12
          replace hF := hF.trans hf12
          clear hf12
          clear wc0 wc1 wc2
          have wc0 := BlkV.cell kW 0 rfl
          have wc1 := BlkV.cell kW 1 rfl
          have wc2 := BlkV.cell kW 2 rfl
          clear xc0 xc1 xc2
          have xc0 := BlkV.cell kX 0 rfl
          have xc1 := BlkV.cell kX 1 rfl
          have xc2 := BlkV.cell kX 2 rfl
          clear yc0 yc1 yc2
          have yc0 := BlkV.cell kY 0 rfl
          have yc1 := BlkV.cell kY 1 rfl
          have yc2 := BlkV.cell kY 2 rfl
          clear pc0 pc1 pc2
          have pc0 := BlkV.cell kP 0 rfl
          have pc1 := BlkV.cell kP 1 rfl
          have pc2 := BlkV.cell kP 2 rfl
          rw [← HU.out] at rQ
          have HV := hid rQ
          obtain ⟨poQ, pcQ, qoQ, qcQ, rfl, p1Q, p2Q, p3Q, p4Q, -, -⟩ := RW.open rQ.rw'
          clear rQ
          have rQ := HV.out
          clear HV
          have ltW12 := BlkV.lt kW
          have ltX12 := BlkV.lt kX
          have ltY12 := BlkV.lt kY
          have ltP12 := BlkV.lt kP
          have hfB : Fwd w12 (w12.alloc (.cells #[.bool (negQ u), .slice poQ (nl u.num.natAbs) pcQ, .slice qoQ (nl u.den) qcQ] 24)) := (Fwd.refl _).alloc _
          replace hr' := hr'.fwd hfB
          replace rX := rX.fwd hfB
          replace rY := rY.fwd hfB
          replace rP := rP.fwd hfB
          replace rQ := rQ.fwd hfB
          replace kW := kW.fwd hfB
          replace kX := kX.fwd hfB
          replace kY := kY.fwd hfB
          replace kP := kP.fwd hfB
          replace hF := hF.trans hfB
          clear hfB
          clear wc0 wc1 wc2
          have wc0 := BlkV.cell kW 0 rfl
          have wc1 := BlkV.cell kW 1 rfl
          have wc2 := BlkV.cell kW 2 rfl
          clear xc0 xc1 xc2
          have xc0 := BlkV.cell kX 0 rfl
          have xc1 := BlkV.cell kX 1 rfl
          have xc2 := BlkV.cell kX 2 rfl
          clear yc0 yc1 yc2
          have yc0 := BlkV.cell kY 0 rfl
          have yc1 := BlkV.cell kY 1 rfl
          have yc2 := BlkV.cell kY 2 rfl
          clear pc0 pc1 pc2
          have pc0 := BlkV.cell kP 0 rfl
          have pc1 := BlkV.cell kP 1 rfl
          have pc2 := BlkV.cell kP 2 rfl
          have kQ := BlkV.made w12 24 [.bool (negQ u), .slice poQ (nl u.num.natAbs) pcQ, .slice qoQ (nl u.den) qcQ]
          go_upto_region 9 with fail
          generalize (w12.alloc (.cells #[.bool (negQ u), .slice poQ (nl u.num.natAbs) pcQ, .slice qoQ (nl u.den) qcQ] 24)) = w13 at kQ hr' rX rY rP rQ kW kX kY kP hF ⊢
          clear wc0 wc1 wc2 xc0 xc1 xc2 yc0 yc1 yc2 pc0 pc1 pc2
          have wc0 := BlkV.cell kW 0 rfl
          have wc1 := BlkV.cell kW 1 rfl
          have wc2 := BlkV.cell kW 2 rfl
          have xc0 := BlkV.cell kX 0 rfl
          have xc1 := BlkV.cell kX 1 rfl
          have xc2 := BlkV.cell kX 2 rfl
          have yc0 := BlkV.cell kY 0 rfl
          have yc1 := BlkV.cell kY 1 rfl
          have yc2 := BlkV.cell kY 2 rfl
          have pc0 := BlkV.cell kP 0 rfl
          have pc1 := BlkV.cell kP 1 rfl
          have pc2 := BlkV.cell kP 2 rfl
          have qc0 := BlkV.cell kQ 0 rfl
          have qc1 := BlkV.cell kQ 1 rfl
          have qc2 := BlkV.cell kQ 2 rfl
          have hbl1 : xr.length ≤ 20 := by omega
          have hbl2 : yr.length ≤ 20 := by omega
          obtain ⟨rr, hrr⟩ : ∃ r, r = rightR sr xr yr := ⟨_, rfl⟩
          have HRR := hid hrr
          clear hrr
          replace hr' := hr'.drew
          replace rX := rX.drew
          replace rY := rY.drew
          replace rP := rP.drew
          replace rQ := rQ.drew
          replace kW := kW.drew
          replace kX := kX.drew
          replace kY := kY.drew
          replace kP := kP.drew
          replace kQ := kQ.drew
          replace hF := hF.drew
          clear wc0 wc1 wc2
          have wc0 := BlkV.cell kW 0 rfl
          have wc1 := BlkV.cell kW 1 rfl
          have wc2 := BlkV.cell kW 2 rfl
          clear xc0 xc1 xc2
          have xc0 := BlkV.cell kX 0 rfl
          have xc1 := BlkV.cell kX 1 rfl
          have xc2 := BlkV.cell kX 2 rfl
          clear yc0 yc1 yc2
          have yc0 := BlkV.cell kY 0 rfl
          have yc1 := BlkV.cell kY 1 rfl
          have yc2 := BlkV.cell kY 2 rfl
          clear pc0 pc1 pc2
          have pc0 := BlkV.cell kP 0 rfl
          have pc1 := BlkV.cell kP 1 rfl
          have pc2 := BlkV.cell kP 2 rfl
          clear qc0 qc1 qc2
          have qc0 := BlkV.cell kQ 0 rfl
          have qc1 := BlkV.cell kQ 1 rfl
          have qc2 := BlkV.cell kQ 2 rfl
          refine wp_region_held_drew (S := fun w' => w'.cell? ⟨w.heap.size, 0, none⟩ = some (.bool sr) ∧ w'.cell? ⟨w.heap.size, 1, none⟩ = some (.slice ao xr.length ac) ∧ w'.cell? ⟨w.heap.size, 2, none⟩ = some (.slice ap yr.length ae) ∧ w'.cell? ⟨w4.heap.size, 0, none⟩ = some (.bool false) ∧ w'.cell? ⟨w4.heap.size, 1, none⟩ = some (.slice none 0 0) ∧ w'.cell? ⟨w4.heap.size, 2, none⟩ = some (.slice none 0 0) ∧ w'.cell? ⟨w8.heap.size, 0, none⟩ = some (.bool false) ∧ w'.cell? ⟨w8.heap.size, 1, none⟩ = some (.slice none 0 0) ∧ w'.cell? ⟨w8.heap.size, 2, none⟩ = some (.slice none 0 0) ∧ w'.cell? ⟨w10.heap.size, 0, none⟩ = some (.bool (negQ u)) ∧ w'.cell? ⟨w10.heap.size, 1, none⟩ = some (.slice poP (nl u.num.natAbs) pcP) ∧ w'.cell? ⟨w10.heap.size, 2, none⟩ = some (.slice qoP (nl u.den) qcP) ∧ w'.cell? ⟨w12.heap.size, 0, none⟩ = some (.bool (negQ u)) ∧ w'.cell? ⟨w12.heap.size, 1, none⟩ = some (.slice poQ (nl u.num.natAbs) pcQ) ∧ w'.cell? ⟨w12.heap.size, 2, none⟩ = some (.slice qoQ (nl u.den) qcQ)) (by kernel_rfl) ⟨by with_reducible assumption, by with_reducible assumption, by with_reducible assumption, by with_reducible assumption, by with_reducible assumption, by with_reducible assumption, by with_reducible assumption, by with_reducible assumption, by with_reducible assumption, by with_reducible assumption, by with_reducible assumption, by with_reducible assumption, by with_reducible assumption, by with_reducible assumption, by with_reducible assumption⟩ (fun hHeld => ?_)
          refine wpAnyH_take (i := 0) (oi := ?oi31_0) (v := ?vv31_0) ?hi31_0 (by kernel_rfl) (by kernel_rfl) (by kernel_rfl) ?hq31_0 ?hy31_0 hHeld ?rest31_0
          case hi31_0 => (simp only [List.getElem?_toArray, List.getElem?_cons_succ, List.getElem?_cons_zero]; rfl)
          case hq31_0 => exact fun _ _ _ h => h
          case hy31_0 =>
            refine Or.inl ⟨by rfl, ?_⟩
            intro wS hSw
            try dsimp only at hSw
            obtain ⟨q0, q1, q2, q3, q4, q5, q6, q7, q8, q9, q10, q11, q12, q13, q14⟩ := hSw
            go_simp
            try with_reducible rfl
          simp only [Act.put, List.setIfInBounds_toArray, List.set_cons_zero, List.set_cons_succ]
          refine wpAnyH_take (i := 1) (oi := ?oi32_1) (v := ?vv32_1) ?hi32_1 (by kernel_rfl) (by kernel_rfl) (by kernel_rfl) ?hq32_1 ?hy32_1 hHeld ?rest32_1
          case hi32_1 => (simp only [List.getElem?_toArray, List.getElem?_cons_succ, List.getElem?_cons_zero]; rfl)
          case hq32_1 => exact fun _ _ _ h => h
          case hy32_1 =>
            refine Or.inl ⟨by rfl, ?_⟩
            intro wS hSw
            try dsimp only at hSw
            obtain ⟨q0, q1, q2, q3, q4, q5, q6, q7, q8, q9, q10, q11, q12, q13, q14⟩ := hSw
            go_simp
            try with_reducible rfl
          simp only [Act.put, List.setIfInBounds_toArray, List.set_cons_zero, List.set_cons_succ]
          refine wpAnyH_take (i := 2) (oi := ?oi33_2) (v := ?vv33_2) ?hi33_2 (by kernel_rfl) (by kernel_rfl) (by kernel_rfl) ?hq33_2 ?hy33_2 hHeld ?rest33_2
          case hi33_2 => (simp only [List.getElem?_toArray, List.getElem?_cons_succ, List.getElem?_cons_zero]; rfl)
          case hq33_2 => exact fun _ _ _ h => h
          case hy33_2 =>
            refine Or.inl ⟨by rfl, ?_⟩
            intro wS hSw
            try dsimp only at hSw
            obtain ⟨q0, q1, q2, q3, q4, q5, q6, q7, q8, q9, q10, q11, q12, q13, q14⟩ := hSw
            go_simp
            try with_reducible rfl
          simp only [Act.put, List.setIfInBounds_toArray, List.set_cons_zero, List.set_cons_succ]
          refine wpAnyH_take (i := 3) (oi := ?oi34_3) (v := ?vv34_3) ?hi34_3 (by kernel_rfl) (by kernel_rfl) (by kernel_rfl) ?hq34_3 ?hy34_3 hHeld ?rest34_3
          case hi34_3 => (simp only [List.getElem?_toArray, List.getElem?_cons_succ, List.getElem?_cons_zero]; rfl)
          case hq34_3 => exact fun _ _ _ h => h
          case hy34_3 =>
            refine Or.inl ⟨by rfl, ?_⟩
            intro wS hSw
            try dsimp only at hSw
            obtain ⟨q0, q1, q2, q3, q4, q5, q6, q7, q8, q9, q10, q11, q12, q13, q14⟩ := hSw
            go_simp
            try with_reducible rfl
          simp only [Act.put, List.setIfInBounds_toArray, List.set_cons_zero, List.set_cons_succ]
          refine wpAnyH_take (i := 4) (oi := ?oi35_4) (v := ?vv35_4) ?hi35_4 (by kernel_rfl) (by kernel_rfl) (by kernel_rfl) ?hq35_4 ?hy35_4 hHeld ?rest35_4
          case hi35_4 => (simp only [List.getElem?_toArray, List.getElem?_cons_succ, List.getElem?_cons_zero]; rfl)
          case hq35_4 => exact fun _ _ _ h => h
          case hy35_4 =>
            refine Or.inl ⟨by rfl, ?_⟩
            intro wS hSw
            try dsimp only at hSw
            obtain ⟨q0, q1, q2, q3, q4, q5, q6, q7, q8, q9, q10, q11, q12, q13, q14⟩ := hSw
            go_simp
            try with_reducible rfl
          simp only [Act.put, List.setIfInBounds_toArray, List.set_cons_zero, List.set_cons_succ]
          refine wpAnyH_take (i := 5) (oi := ?oi36_5) (v := ?vv36_5) ?hi36_5 (by kernel_rfl) (by kernel_rfl) (by kernel_rfl) ?hq36_5 ?hy36_5 hHeld ?rest36_5
          case hi36_5 => (simp only [List.getElem?_toArray, List.getElem?_cons_succ, List.getElem?_cons_zero]; rfl)
          case hq36_5 => exact fun _ _ _ h => h
          case hy36_5 =>
            refine Or.inl ⟨by rfl, ?_⟩
            intro wS hSw
            try dsimp only at hSw
            obtain ⟨q0, q1, q2, q3, q4, q5, q6, q7, q8, q9, q10, q11, q12, q13, q14⟩ := hSw
            go_simp
            try with_reducible rfl
          simp only [Act.put, List.setIfInBounds_toArray, List.set_cons_zero, List.set_cons_succ]
          refine wpAnyH_ready (rs := [6]) (by kernel_rfl) (by simp) ?_
          refine AllReadyH.cons rfl (fun K hK => ?_) AllReadyH.nil
          go_simp
          refine (same2_zero rX rY).mono ?_
          rintro e w14 ⟨rfl, hf14⟩
          replace hr' := hr'.fwd hf14
          replace rX := rX.fwd hf14
          replace rY := rY.fwd hf14
          replace rP := rP.fwd hf14
          replace rQ := rQ.fwd hf14
          replace kW := kW.fwd hf14
          replace kX := kX.fwd hf14
          replace kY := kY.fwd hf14
          replace kP := kP.fwd hf14
          replace kQ := kQ.fwd hf14
          replace hF := hF.trans hf14
          clear hf14
          clear wc0 wc1 wc2
          have wc0 := BlkV.cell kW 0 rfl
          have wc1 := BlkV.cell kW 1 rfl
          have wc2 := BlkV.cell kW 2 rfl
          clear xc0 xc1 xc2
          have xc0 := BlkV.cell kX 0 rfl
          have xc1 := BlkV.cell kX 1 rfl
          have xc2 := BlkV.cell kX 2 rfl
          clear yc0 yc1 yc2
          have yc0 := BlkV.cell kY 0 rfl
          have yc1 := BlkV.cell kY 1 rfl
          have yc2 := BlkV.cell kY 2 rfl
          clear pc0 pc1 pc2
          have pc0 := BlkV.cell kP 0 rfl
          have pc1 := BlkV.cell kP 1 rfl
          have pc2 := BlkV.cell kP 2 rfl
          clear qc0 qc1 qc2
          have qc0 := BlkV.cell kQ 0 rfl
          have qc1 := BlkV.cell kQ 1 rfl
          have qc2 := BlkV.cell kQ 2 rfl
          go_wp2_with fail
          clear hHeld
          refine hK.out _ _ ⟨by with_reducible assumption, by with_reducible assumption, by with_reducible assumption, by with_reducible assumption, by with_reducible assumption, by with_reducible assumption, by with_reducible assumption, by with_reducible assumption, by with_reducible assumption, by with_reducible assumption, by with_reducible assumption, by with_reducible assumption, by with_reducible assumption, by with_reducible assumption, by with_reducible assumption⟩ (fun hHeld => ?_)
          clear hK K
          try simp only [Act.put, List.setIfInBounds_toArray, List.set_cons_zero, List.set_cons_succ]
          refine wpAnyH_take (i := 7) (oi := ?oi37_7) (v := ?vv37_7) ?hi37_7 (by kernel_rfl) (by kernel_rfl) (by kernel_rfl) ?hq37_7 ?hy37_7 hHeld ?rest37_7
          case hi37_7 => (simp only [List.getElem?_toArray, List.getElem?_cons_succ, List.getElem?_cons_zero]; rfl)
          case hq37_7 => exact fun _ _ _ h => h
          case hy37_7 =>
            refine Or.inl ⟨by rfl, ?_⟩
            intro wS hSw
            try dsimp only at hSw
            obtain ⟨q0, q1, q2, q3, q4, q5, q6, q7, q8, q9, q10, q11, q12, q13, q14⟩ := hSw
            go_simp
            try with_reducible rfl
          simp only [Act.put, List.setIfInBounds_toArray, List.set_cons_zero, List.set_cons_succ]
          refine wpAnyH_take (i := 8) (oi := ?oi38_8) (v := ?vv38_8) ?hi38_8 (by kernel_rfl) (by kernel_rfl) (by kernel_rfl) ?hq38_8 ?hy38_8 hHeld ?rest38_8
          case hi38_8 => (simp only [List.getElem?_toArray, List.getElem?_cons_succ, List.getElem?_cons_zero]; rfl)
          case hq38_8 => exact fun _ _ _ h => h
          case hy38_8 =>
            refine Or.inl ⟨by rfl, ?_⟩
            intro wS hSw
            try dsimp only at hSw
            obtain ⟨q0, q1, q2, q3, q4, q5, q6, q7, q8, q9, q10, q11, q12, q13, q14⟩ := hSw
            go_simp
            try with_reducible rfl
          simp only [Act.put, List.setIfInBounds_toArray, List.set_cons_zero, List.set_cons_succ]
          refine wpAnyH_take (i := 9) (oi := ?oi39_9) (v := ?vv39_9) ?hi39_9 (by kernel_rfl) (by kernel_rfl) (by kernel_rfl) ?hq39_9 ?hy39_9 hHeld ?rest39_9
          case hi39_9 => (simp only [List.getElem?_toArray, List.getElem?_cons_succ, List.getElem?_cons_zero]; rfl)
          case hq39_9 => exact fun _ _ _ h => h
          case hy39_9 =>
            refine Or.inl ⟨by rfl, ?_⟩
            intro wS hSw
            try dsimp only at hSw
            obtain ⟨q0, q1, q2, q3, q4, q5, q6, q7, q8, q9, q10, q11, q12, q13, q14⟩ := hSw
            go_simp
            try with_reducible rfl
          simp only [Act.put, List.setIfInBounds_toArray, List.set_cons_zero, List.set_cons_succ]
          refine wpAnyH_take (i := 10) (oi := ?oi40_10) (v := ?vv40_10) ?hi40_10 (by kernel_rfl) (by kernel_rfl) (by kernel_rfl) ?hq40_10 ?hy40_10 hHeld ?rest40_10
          case hi40_10 => (simp only [List.getElem?_toArray, List.getElem?_cons_succ, List.getElem?_cons_zero]; rfl)
          case hq40_10 => exact fun _ _ _ h => h
          case hy40_10 =>
            refine Or.inl ⟨by rfl, ?_⟩
            intro wS hSw
            try dsimp only at hSw
            obtain ⟨q0, q1, q2, q3, q4, q5, q6, q7, q8, q9, q10, q11, q12, q13, q14⟩ := hSw
            go_simp
            try with_reducible rfl
          simp only [Act.put, List.setIfInBounds_toArray, List.set_cons_zero, List.set_cons_succ]
          refine wpAnyH_take (i := 11) (oi := ?oi41_11) (v := ?vv41_11) ?hi41_11 (by kernel_rfl) (by kernel_rfl) (by kernel_rfl) ?hq41_11 ?hy41_11 hHeld ?rest41_11
          case hi41_11 => (simp only [List.getElem?_toArray, List.getElem?_cons_succ, List.getElem?_cons_zero]; rfl)
          case hq41_11 => exact fun _ _ _ h => h
          case hy41_11 =>
            refine Or.inl ⟨by rfl, ?_⟩
            intro wS hSw
            try dsimp only at hSw
            obtain ⟨q0, q1, q2, q3, q4, q5, q6, q7, q8, q9, q10, q11, q12, q13, q14⟩ := hSw
            go_simp
            try with_reducible rfl
          simp only [Act.put, List.setIfInBounds_toArray, List.set_cons_zero, List.set_cons_succ]
          refine wpAnyH_take (i := 12) (oi := ?oi42_12) (v := ?vv42_12) ?hi42_12 (by kernel_rfl) (by kernel_rfl) (by kernel_rfl) ?hq42_12 ?hy42_12 hHeld ?rest42_12
          case hi42_12 => (simp only [List.getElem?_toArray, List.getElem?_cons_succ, List.getElem?_cons_zero]; rfl)
          case hq42_12 => exact fun _ _ _ h => h
          case hy42_12 =>
            refine Or.inl ⟨by rfl, ?_⟩
            intro wS hSw
            try dsimp only at hSw
            obtain ⟨q0, q1, q2, q3, q4, q5, q6, q7, q8, q9, q10, q11, q12, q13, q14⟩ := hSw
            go_simp
            try with_reducible rfl
          simp only [Act.put, List.setIfInBounds_toArray, List.set_cons_zero, List.set_cons_succ]
          refine wpAnyH_take (i := 13) (oi := ?oi43_13) (v := ?vv43_13) ?hi43_13 (by kernel_rfl) (by kernel_rfl) (by kernel_rfl) ?hq43_13 ?hy43_13 hHeld ?rest43_13
          case hi43_13 => (simp only [List.getElem?_toArray, List.getElem?_cons_succ, List.getElem?_cons_zero]; rfl)
          case hq43_13 => exact fun _ _ _ h => h
          case hy43_13 =>
            refine Or.inl ⟨by rfl, ?_⟩
            intro wS hSw
            try dsimp only at hSw
            obtain ⟨q0, q1, q2, q3, q4, q5, q6, q7, q8, q9, q10, q11, q12, q13, q14⟩ := hSw
            go_simp
            try with_reducible rfl
          simp only [Act.put, List.setIfInBounds_toArray, List.set_cons_zero, List.set_cons_succ]
          refine wpAnyH_take (i := 14) (oi := ?oi44_14) (v := ?vv44_14) ?hi44_14 (by kernel_rfl) (by kernel_rfl) (by kernel_rfl) ?hq44_14 ?hy44_14 hHeld ?rest44_14
          case hi44_14 => (simp only [List.getElem?_toArray, List.getElem?_cons_succ, List.getElem?_cons_zero]; rfl)
          case hq44_14 => exact fun _ _ _ h => h
          case hy44_14 =>
            refine Or.inl ⟨by rfl, ?_⟩
            intro wS hSw
            try dsimp only at hSw
            obtain ⟨q0, q1, q2, q3, q4, q5, q6, q7, q8, q9, q10, q11, q12, q13, q14⟩ := hSw
            go_simp
            try with_reducible rfl
          simp only [Act.put, List.setIfInBounds_toArray, List.set_cons_zero, List.set_cons_succ]
          refine wpAnyH_take (i := 15) (oi := ?oi45_15) (v := ?vv45_15) ?hi45_15 (by kernel_rfl) (by kernel_rfl) (by kernel_rfl) ?hq45_15 ?hy45_15 hHeld ?rest45_15
          case hi45_15 => (simp only [List.getElem?_toArray, List.getElem?_cons_succ, List.getElem?_cons_zero]; rfl)
          case hq45_15 => exact fun _ _ _ h => h
          case hy45_15 =>
            refine Or.inl ⟨by rfl, ?_⟩
            intro wS hSw
            try dsimp only at hSw
            obtain ⟨q0, q1, q2, q3, q4, q5, q6, q7, q8, q9, q10, q11, q12, q13, q14⟩ := hSw
            go_simp
            try with_reducible rfl
          simp only [Act.put, List.setIfInBounds_toArray, List.set_cons_zero, List.set_cons_succ]
          refine wpAnyH_ready (rs := [16]) (by kernel_rfl) (by simp) ?_
          refine AllReadyH.cons rfl (fun K hK => ?_) AllReadyH.nil
          go_simp
          refine (same2_true rP rQ (by omega) (by omega) rfl).mono ?_
          rintro e w15 ⟨rfl, hf15⟩
          replace hr' := hr'.fwd hf15
          replace rX := rX.fwd hf15
          replace rY := rY.fwd hf15
          replace rP := rP.fwd hf15
          replace rQ := rQ.fwd hf15
          replace kW := kW.fwd hf15
          replace kX := kX.fwd hf15
          replace kY := kY.fwd hf15
          replace kP := kP.fwd hf15
          replace kQ := kQ.fwd hf15
          replace hF := hF.trans hf15
          clear hf15
          clear wc0 wc1 wc2
          have wc0 := BlkV.cell kW 0 rfl
          have wc1 := BlkV.cell kW 1 rfl
          have wc2 := BlkV.cell kW 2 rfl
          clear xc0 xc1 xc2
          have xc0 := BlkV.cell kX 0 rfl
          have xc1 := BlkV.cell kX 1 rfl
          have xc2 := BlkV.cell kX 2 rfl
          clear yc0 yc1 yc2
          have yc0 := BlkV.cell kY 0 rfl
          have yc1 := BlkV.cell kY 1 rfl
          have yc2 := BlkV.cell kY 2 rfl
          clear pc0 pc1 pc2
          have pc0 := BlkV.cell kP 0 rfl
          have pc1 := BlkV.cell kP 1 rfl
          have pc2 := BlkV.cell kP 2 rfl
          clear qc0 qc1 qc2
          have qc0 := BlkV.cell kQ 0 rfl
          have qc1 := BlkV.cell kQ 1 rfl
          have qc2 := BlkV.cell kQ 2 rfl
          go_wp2_with fail
          clear hHeld
          refine hK.out _ _ ⟨by with_reducible assumption, by with_reducible assumption, by with_reducible assumption, by with_reducible assumption, by with_reducible assumption, by with_reducible assumption, by with_reducible assumption, by with_reducible assumption, by with_reducible assumption, by with_reducible assumption, by with_reducible assumption, by with_reducible assumption, by with_reducible assumption, by with_reducible assumption, by with_reducible assumption⟩ (fun hHeld => ?_)
          clear hK K
          try simp only [Act.put, List.setIfInBounds_toArray, List.set_cons_zero, List.set_cons_succ]
          refine wpAnyH_take (i := 17) (oi := ?oi46_17) (v := ?vv46_17) ?hi46_17 (by kernel_rfl) (by kernel_rfl) (by kernel_rfl) ?hq46_17 ?hy46_17 hHeld ?rest46_17
          case hi46_17 => (simp only [List.getElem?_toArray, List.getElem?_cons_succ, List.getElem?_cons_zero]; rfl)
          case hq46_17 => exact fun _ _ _ h => h
          case hy46_17 =>
            refine Or.inl ⟨by rfl, ?_⟩
            intro wS hSw
            try dsimp only at hSw
            obtain ⟨q0, q1, q2, q3, q4, q5, q6, q7, q8, q9, q10, q11, q12, q13, q14⟩ := hSw
            go_simp
            try with_reducible rfl
          simp only [Act.put, List.setIfInBounds_toArray, List.set_cons_zero, List.set_cons_succ]
          refine wpAnyH_take (i := 18) (oi := ?oi47_18) (v := ?vv47_18) ?hi47_18 (by kernel_rfl) (by kernel_rfl) (by kernel_rfl) ?hq47_18 ?hy47_18 hHeld ?rest47_18
          case hi47_18 => (simp only [List.getElem?_toArray, List.getElem?_cons_succ, List.getElem?_cons_zero]; rfl)
          case hq47_18 => exact fun _ _ _ h => h
          case hy47_18 =>
            refine Or.inl ⟨by rfl, ?_⟩
            intro wS hSw
            try dsimp only at hSw
            obtain ⟨q0, q1, q2, q3, q4, q5, q6, q7, q8, q9, q10, q11, q12, q13, q14⟩ := hSw
            go_simp
            try with_reducible rfl
          simp only [Act.put, List.setIfInBounds_toArray, List.set_cons_zero, List.set_cons_succ]
          refine wpAnyH_take (i := 19) (oi := ?oi48_19) (v := ?vv48_19) ?hi48_19 (by kernel_rfl) (by kernel_rfl) (by kernel_rfl) ?hq48_19 ?hy48_19 hHeld ?rest48_19
          case hi48_19 => (simp only [List.getElem?_toArray, List.getElem?_cons_succ, List.getElem?_cons_zero]; rfl)
          case hq48_19 => exact fun _ _ _ h => h
          case hy48_19 =>
            refine Or.inl ⟨by rfl, ?_⟩
            intro wS hSw
            try dsimp only at hSw
            obtain ⟨q0, q1, q2, q3, q4, q5, q6, q7, q8, q9, q10, q11, q12, q13, q14⟩ := hSw
            go_simp
            try with_reducible rfl
          simp only [Act.put, List.setIfInBounds_toArray, List.set_cons_zero, List.set_cons_succ]
          refine wpAnyH_take (i := 21) (oi := ?oi49_21) (v := ?vv49_21) ?hi49_21 (by kernel_rfl) (by kernel_rfl) (by kernel_rfl) ?hq49_21 ?hy49_21 hHeld ?rest49_21
          case hi49_21 => (simp only [List.getElem?_toArray, List.getElem?_cons_succ, List.getElem?_cons_zero]; rfl)
          case hq49_21 => exact fun _ _ _ h => h
          case hy49_21 =>
            refine Or.inl ⟨by rfl, ?_⟩
            intro wS hSw
            try dsimp only at hSw
            obtain ⟨q0, q1, q2, q3, q4, q5, q6, q7, q8, q9, q10, q11, q12, q13, q14⟩ := hSw
            go_simp
            try with_reducible rfl
          simp only [Act.put, List.setIfInBounds_toArray, List.set_cons_zero, List.set_cons_succ]
          refine wpAnyH_ready (rs := [20]) (by kernel_rfl) (by simp) ?_
          refine AllReadyH.cons rfl (fun K hK => ?_) AllReadyH.nil
          go_simp
          refine (rright_any hr' (by omega) (by omega)).mono ?_
          rintro e w16 ⟨rfl, hf16⟩
          replace hr' := hr'.fwd hf16
          replace rX := rX.fwd hf16
          replace rY := rY.fwd hf16
          replace rP := rP.fwd hf16
          replace rQ := rQ.fwd hf16
          replace kW := kW.fwd hf16
          replace kX := kX.fwd hf16
          replace kY := kY.fwd hf16
          replace kP := kP.fwd hf16
          replace kQ := kQ.fwd hf16
          replace hF := hF.trans hf16
          clear hf16
          clear wc0 wc1 wc2
          have wc0 := BlkV.cell kW 0 rfl
          have wc1 := BlkV.cell kW 1 rfl
          have wc2 := BlkV.cell kW 2 rfl
          clear xc0 xc1 xc2
          have xc0 := BlkV.cell kX 0 rfl
          have xc1 := BlkV.cell kX 1 rfl
          have xc2 := BlkV.cell kX 2 rfl
          clear yc0 yc1 yc2
          have yc0 := BlkV.cell kY 0 rfl
          have yc1 := BlkV.cell kY 1 rfl
          have yc2 := BlkV.cell kY 2 rfl
          clear pc0 pc1 pc2
          have pc0 := BlkV.cell kP 0 rfl
          have pc1 := BlkV.cell kP 1 rfl
          have pc2 := BlkV.cell kP 2 rfl
          clear qc0 qc1 qc2
          have qc0 := BlkV.cell kQ 0 rfl
          have qc1 := BlkV.cell kQ 1 rfl
          have qc2 := BlkV.cell kQ 2 rfl
          rw [← HRR.out]
          go_wp2_with fail
          clear hHeld
          refine hK.out _ _ ⟨by with_reducible assumption, by with_reducible assumption, by with_reducible assumption, by with_reducible assumption, by with_reducible assumption, by with_reducible assumption, by with_reducible assumption, by with_reducible assumption, by with_reducible assumption, by with_reducible assumption, by with_reducible assumption, by with_reducible assumption, by with_reducible assumption, by with_reducible assumption, by with_reducible assumption⟩ (fun hHeld => ?_)
          clear hK K
          try simp only [Act.put, List.setIfInBounds_toArray, List.set_cons_zero, List.set_cons_succ]
          refine wpAnyH_ready (rs := [22]) (by kernel_rfl) (by simp) ?_
          refine AllReadyH.cons rfl (fun K hK => ?_) AllReadyH.nil
          go_simp
          refine (right2_any hr' (by omega) (by omega)).mono ?_
          rintro e w17 ⟨rfl, hf17⟩
          replace hr' := hr'.fwd hf17
          replace rX := rX.fwd hf17
          replace rY := rY.fwd hf17
          replace rP := rP.fwd hf17
          replace rQ := rQ.fwd hf17
          replace kW := kW.fwd hf17
          replace kX := kX.fwd hf17
          replace kY := kY.fwd hf17
          replace kP := kP.fwd hf17
          replace kQ := kQ.fwd hf17
          replace hF := hF.trans hf17
          clear hf17
          clear wc0 wc1 wc2
          have wc0 := BlkV.cell kW 0 rfl
          have wc1 := BlkV.cell kW 1 rfl
          have wc2 := BlkV.cell kW 2 rfl
          clear xc0 xc1 xc2
          have xc0 := BlkV.cell kX 0 rfl
          have xc1 := BlkV.cell kX 1 rfl
          have xc2 := BlkV.cell kX 2 rfl
          clear yc0 yc1 yc2
          have yc0 := BlkV.cell kY 0 rfl
          have yc1 := BlkV.cell kY 1 rfl
          have yc2 := BlkV.cell kY 2 rfl
          clear pc0 pc1 pc2
          have pc0 := BlkV.cell kP 0 rfl
          have pc1 := BlkV.cell kP 1 rfl
          have pc2 := BlkV.cell kP 2 rfl
          clear qc0 qc1 qc2
          have qc0 := BlkV.cell kQ 0 rfl
          have qc1 := BlkV.cell kQ 1 rfl
          have qc2 := BlkV.cell kQ 2 rfl
          rw [← HRR.out]
          go_wp2_with fail
          clear hHeld
          refine hK.out _ _ ⟨by with_reducible assumption, by with_reducible assumption, by with_reducible assumption, by with_reducible assumption, by with_reducible assumption, by with_reducible assumption, by with_reducible assumption, by with_reducible assumption, by with_reducible assumption, by with_reducible assumption, by with_reducible assumption, by with_reducible assumption, by with_reducible assumption, by with_reducible assumption, by with_reducible assumption⟩ (fun hHeld => ?_)
          clear hK K
          try simp only [Act.put, List.setIfInBounds_toArray, List.set_cons_zero, List.set_cons_succ]
          refine wpAnyH_take (i := 23) (oi := ?oi50_23) (v := ?vv50_23) ?hi50_23 (by kernel_rfl) (by kernel_rfl) (by kernel_rfl) ?hq50_23 ?hy50_23 hHeld ?rest50_23
          case hi50_23 => (simp only [List.getElem?_toArray, List.getElem?_cons_succ, List.getElem?_cons_zero]; rfl)
          case hq50_23 => exact fun _ _ _ h => h
          case hy50_23 =>
            refine Or.inl ⟨by rfl, ?_⟩
            intro wS hSw
            try dsimp only at hSw
            obtain ⟨q0, q1, q2, q3, q4, q5, q6, q7, q8, q9, q10, q11, q12, q13, q14⟩ := hSw
            go_simp
            try with_reducible rfl
          simp only [Act.put, List.setIfInBounds_toArray, List.set_cons_zero, List.set_cons_succ]
          refine wpAnyH_take (i := 24) (oi := ?oi51_24) (v := ?vv51_24) ?hi51_24 (by kernel_rfl) (by kernel_rfl) (by kernel_rfl) ?hq51_24 ?hy51_24 hHeld ?rest51_24
          case hi51_24 => (simp only [List.getElem?_toArray, List.getElem?_cons_succ, List.getElem?_cons_zero]; rfl)
          case hq51_24 => exact fun _ _ _ h => h
          case hy51_24 =>
            refine Or.inl ⟨by rfl, ?_⟩
            intro wS hSw
            try dsimp only at hSw
            obtain ⟨q0, q1, q2, q3, q4, q5, q6, q7, q8, q9, q10, q11, q12, q13, q14⟩ := hSw
            go_simp
            try with_reducible rfl
          simp only [Act.put, List.setIfInBounds_toArray, List.set_cons_zero, List.set_cons_succ]
          refine wpAnyH_take (i := 25) (oi := ?oi52_25) (v := ?vv52_25) ?hi52_25 (by kernel_rfl) (by kernel_rfl) (by kernel_rfl) ?hq52_25 ?hy52_25 hHeld ?rest52_25
          case hi52_25 => (simp only [List.getElem?_toArray, List.getElem?_cons_succ, List.getElem?_cons_zero]; rfl)
          case hq52_25 => exact fun _ _ _ h => h
          case hy52_25 =>
            refine Or.inl ⟨by rfl, ?_⟩
            intro wS hSw
            try dsimp only at hSw
            obtain ⟨q0, q1, q2, q3, q4, q5, q6, q7, q8, q9, q10, q11, q12, q13, q14⟩ := hSw
            go_simp
            try with_reducible rfl
          simp only [Act.put, List.setIfInBounds_toArray, List.set_cons_zero, List.set_cons_succ]
          refine wpAnyH_take (i := 26) (oi := ?oi53_26) (v := ?vv53_26) ?hi53_26 (by kernel_rfl) (by kernel_rfl) (by kernel_rfl) ?hq53_26 ?hy53_26 hHeld ?rest53_26
          case hi53_26 => (simp only [List.getElem?_toArray, List.getElem?_cons_succ, List.getElem?_cons_zero]; rfl)
          case hq53_26 => exact fun _ _ _ h => h
          case hy53_26 =>
            refine Or.inl ⟨by rfl, ?_⟩
            intro wS hSw
            try dsimp only at hSw
            obtain ⟨q0, q1, q2, q3, q4, q5, q6, q7, q8, q9, q10, q11, q12, q13, q14⟩ := hSw
            go_simp
            try with_reducible rfl
          simp only [Act.put, List.setIfInBounds_toArray, List.set_cons_zero, List.set_cons_succ]
          refine wpAnyH_take (i := 27) (oi := ?oi54_27) (v := ?vv54_27) ?hi54_27 (by kernel_rfl) (by kernel_rfl) (by kernel_rfl) ?hq54_27 ?hy54_27 hHeld ?rest54_27
          case hi54_27 => (simp only [List.getElem?_toArray, List.getElem?_cons_succ, List.getElem?_cons_zero]; rfl)
          case hq54_27 => exact fun _ _ _ h => h
          case hy54_27 =>
            refine Or.inl ⟨by rfl, ?_⟩
            intro wS hSw
            try dsimp only at hSw
            obtain ⟨q0, q1, q2, q3, q4, q5, q6, q7, q8, q9, q10, q11, q12, q13, q14⟩ := hSw
            go_simp
            try with_reducible rfl
          simp only [Act.put, List.setIfInBounds_toArray, List.set_cons_zero, List.set_cons_succ]
          refine wpAnyH_take (i := 28) (oi := ?oi55_28) (v := ?vv55_28) ?hi55_28 (by kernel_rfl) (by kernel_rfl) (by kernel_rfl) ?hq55_28 ?hy55_28 hHeld ?rest55_28
          case hi55_28 => (simp only [List.getElem?_toArray, List.getElem?_cons_succ, List.getElem?_cons_zero]; rfl)
          case hq55_28 => exact fun _ _ _ h => h
          case hy55_28 =>
            refine Or.inl ⟨by rfl, ?_⟩
            intro wS hSw
            try dsimp only at hSw
            obtain ⟨q0, q1, q2, q3, q4, q5, q6, q7, q8, q9, q10, q11, q12, q13, q14⟩ := hSw
            go_simp
            try with_reducible rfl
          simp only [Act.put, List.setIfInBounds_toArray, List.set_cons_zero, List.set_cons_succ]
          refine wpAnyH_take (i := 29) (oi := ?oi56_29) (v := undef) ?hi56_29 (by kernel_rfl) (by kernel_rfl) (by kernel_rfl) ?hq56_29 ?hy56_29 hHeld ?rest56_29
          case hi56_29 => (simp only [List.getElem?_toArray, List.getElem?_cons_succ, List.getElem?_cons_zero]; rfl)
          case hq56_29 => exact fun _ _ _ h => h
          case hy56_29 => exact Or.inr ⟨by rfl, rfl⟩
          simp only [Act.put, List.setIfInBounds_toArray, List.set_cons_zero, List.set_cons_succ]
          refine wpAnyH_take (i := 30) (oi := ?oi57_30) (v := undef) ?hi57_30 (by kernel_rfl) (by kernel_rfl) (by kernel_rfl) ?hq57_30 ?hy57_30 hHeld ?rest57_30
          case hi57_30 => (simp only [List.getElem?_toArray, List.getElem?_cons_succ, List.getElem?_cons_zero]; rfl)
          case hq57_30 => exact fun _ _ _ h => h
          case hy57_30 => exact Or.inr ⟨by rfl, rfl⟩
          simp only [Act.put, List.setIfInBounds_toArray, List.set_cons_zero, List.set_cons_succ]
          refine wpAnyH_take (i := 31) (oi := ?oi58_31) (v := ?vv58_31) ?hi58_31 (by kernel_rfl) (by kernel_rfl) (by kernel_rfl) ?hq58_31 ?hy58_31 hHeld ?rest58_31
          case hi58_31 => (simp only [List.getElem?_toArray, List.getElem?_cons_succ, List.getElem?_cons_zero]; rfl)
          case hq58_31 => exact fun _ _ _ h => h
          case hy58_31 =>
            refine Or.inl ⟨by rfl, ?_⟩
            intro wS hSw
            try dsimp only at hSw
            obtain ⟨q0, q1, q2, q3, q4, q5, q6, q7, q8, q9, q10, q11, q12, q13, q14⟩ := hSw
            go_simp
            try with_reducible rfl
          simp only [Act.put, List.setIfInBounds_toArray, List.set_cons_zero, List.set_cons_succ]
          refine wpAnyH_take (i := 32) (oi := ?oi59_32) (v := ?vv59_32) ?hi59_32 (by kernel_rfl) (by kernel_rfl) (by kernel_rfl) ?hq59_32 ?hy59_32 hHeld ?rest59_32
          case hi59_32 => (simp only [List.getElem?_toArray, List.getElem?_cons_succ, List.getElem?_cons_zero]; rfl)
          case hq59_32 => exact fun _ _ _ h => h
          case hy59_32 =>
            refine Or.inl ⟨by rfl, ?_⟩
            intro wS hSw
            try dsimp only at hSw
            obtain ⟨q0, q1, q2, q3, q4, q5, q6, q7, q8, q9, q10, q11, q12, q13, q14⟩ := hSw
            go_simp
            try with_reducible rfl
          simp only [Act.put, List.setIfInBounds_toArray, List.set_cons_zero, List.set_cons_succ]
          refine wpAnyH_take (i := 33) (oi := ?oi60_33) (v := ?vv60_33) ?hi60_33 (by kernel_rfl) (by kernel_rfl) (by kernel_rfl) ?hq60_33 ?hy60_33 hHeld ?rest60_33
          case hi60_33 => (simp only [List.getElem?_toArray, List.getElem?_cons_succ, List.getElem?_cons_zero]; rfl)
          case hq60_33 => exact fun _ _ _ h => h
          case hy60_33 =>
            refine Or.inl ⟨by rfl, ?_⟩
            intro wS hSw
            try dsimp only at hSw
            obtain ⟨q0, q1, q2, q3, q4, q5, q6, q7, q8, q9, q10, q11, q12, q13, q14⟩ := hSw
            go_simp
            try with_reducible rfl
          simp only [Act.put, List.setIfInBounds_toArray, List.set_cons_zero, List.set_cons_succ]
          refine wpAnyH_done (by kernel_rfl) ?_ _
          go_wp2_with fail
          go_ret
          exact ⟨rfl, hF⟩
      · have HY0 := hid hY0
        obtain ⟨q, hq⟩ : ∃ q, q = mkQ neg X Y := ⟨_, rfl⟩
        have bq : nr q ≤ 8 := by rw [hq]; refine Nat.le_trans (nr_mkQ _ _ _ hY0) ?_; omega
        have HQ := hid hq
        clear hY0 hq
        go_wp2_with fail
        refine (rmake_any neg f1 f2 (by omega) (by omega) HY0.out).mono ?_
        rintro e w4 ⟨v, rfl, rX, hf4⟩
        replace ha := ha.fwd hf4
        replace hb := hb.fwd hf4
        replace hr' := hr'.fwd hf4
        replace f1 := f1.fwd hf4
        replace f2 := f2.fwd hf4
        replace kW := kW.fwd hf4
        replace hF := hF.trans hf4
        clear hf4
        clear wc0 wc1 wc2
        have wc0 := BlkV.cell kW 0 rfl
        have wc1 := BlkV.cell kW 1 rfl
        have wc2 := BlkV.cell kW 2 rfl
        rw [← HQ.out] at rX
        have HV := hid rX
        obtain ⟨poX, pcX, qoX, qcX, rfl, p1X, p2X, p3X, p4X, -, -⟩ := RW.open rX.rw'
        clear rX
        have rX := HV.out
        clear HV
        have ltW4 := BlkV.lt kW
        have hfB : Fwd w4 (w4.alloc (.cells #[.bool (negQ q), .slice poX (nl q.num.natAbs) pcX, .slice qoX (nl q.den) qcX] 24)) := (Fwd.refl _).alloc _
        replace ha := ha.fwd hfB
        replace hb := hb.fwd hfB
        replace hr' := hr'.fwd hfB
        replace f1 := f1.fwd hfB
        replace f2 := f2.fwd hfB
        replace rX := rX.fwd hfB
        replace kW := kW.fwd hfB
        replace hF := hF.trans hfB
        clear hfB
        clear wc0 wc1 wc2
        have wc0 := BlkV.cell kW 0 rfl
        have wc1 := BlkV.cell kW 1 rfl
        have wc2 := BlkV.cell kW 2 rfl
        have kX := BlkV.made w4 24 [.bool (negQ q), .slice poX (nl q.num.natAbs) pcX, .slice qoX (nl q.den) qcX]
        go_upto_region 6 with fail
        generalize (w4.alloc (.cells #[.bool (negQ q), .slice poX (nl q.num.natAbs) pcX, .slice qoX (nl q.den) qcX] 24)) = w5 at kX ha hb hr' f1 f2 rX kW hF ⊢
        clear wc0 wc1 wc2
        have wc0 := BlkV.cell kW 0 rfl
        have wc1 := BlkV.cell kW 1 rfl
        have wc2 := BlkV.cell kW 2 rfl
        have xc0 := BlkV.cell kX 0 rfl
        have xc1 := BlkV.cell kX 1 rfl
        have xc2 := BlkV.cell kX 2 rfl
        clear f1 f2
        go_wp2_with fail
        refine (make_any 8 ha (by omega) (by omega)).mono ?_
        rintro e w6 ⟨vf3, rfl, f3, hf6⟩
        replace ha := ha.fwd hf6
        replace hb := hb.fwd hf6
        replace hr' := hr'.fwd hf6
        replace rX := rX.fwd hf6
        replace kW := kW.fwd hf6
        replace kX := kX.fwd hf6
        replace hF := hF.trans hf6
        clear hf6
        clear wc0 wc1 wc2
        have wc0 := BlkV.cell kW 0 rfl
        have wc1 := BlkV.cell kW 1 rfl
        have wc2 := BlkV.cell kW 2 rfl
        clear xc0 xc1 xc2
        have xc0 := BlkV.cell kX 0 rfl
        have xc1 := BlkV.cell kX 1 rfl
        have xc2 := BlkV.cell kX 2 rfl
        rw [← HX.out] at f3
        go_wp2_with fail
        refine (make_any 8 hb (by omega) (by omega)).mono ?_
        rintro e w7 ⟨vf4, rfl, f4, hf7⟩
        replace ha := ha.fwd hf7
        replace hb := hb.fwd hf7
        replace hr' := hr'.fwd hf7
        replace rX := rX.fwd hf7
        replace f3 := f3.fwd hf7
        replace kW := kW.fwd hf7
        replace kX := kX.fwd hf7
        replace hF := hF.trans hf7
        clear hf7
        clear wc0 wc1 wc2
        have wc0 := BlkV.cell kW 0 rfl
        have wc1 := BlkV.cell kW 1 rfl
        have wc2 := BlkV.cell kW 2 rfl
        clear xc0 xc1 xc2
        have xc0 := BlkV.cell kX 0 rfl
        have xc1 := BlkV.cell kX 1 rfl
        have xc2 := BlkV.cell kX 2 rfl
        rw [← HY.out] at f4
        go_wp2_with fail
        refine (make2_any neg f3 f4 (by omega) (by omega) HY0.out).mono ?_
        rintro e w8 ⟨v, rfl, rY, hf8⟩
        replace ha := ha.fwd hf8
        replace hb := hb.fwd hf8
        replace hr' := hr'.fwd hf8
        replace rX := rX.fwd hf8
        replace f3 := f3.fwd hf8
        replace f4 := f4.fwd hf8
        replace kW := kW.fwd hf8
        replace kX := kX.fwd hf8
        replace hF := hF.trans hf8
        clear hf8
        clear wc0 wc1 wc2
        have wc0 := BlkV.cell kW 0 rfl
        have wc1 := BlkV.cell kW 1 rfl
        have wc2 := BlkV.cell kW 2 rfl
        clear xc0 xc1 xc2
        have xc0 := BlkV.cell kX 0 rfl
        have xc1 := BlkV.cell kX 1 rfl
        have xc2 := BlkV.cell kX 2 rfl
        rw [← HQ.out] at rY
        have HV := hid rY
        obtain ⟨poY, pcY, qoY, qcY, rfl, p1Y, p2Y, p3Y, p4Y, -, -⟩ := RW.open rY.rw'
        clear rY
        have rY := HV.out
        clear HV
        have ltW8 := BlkV.lt kW
        have ltX8 := BlkV.lt kX
        have hfB : Fwd w8 (w8.alloc (.cells #[.bool (negQ q), .slice poY (nl q.num.natAbs) pcY, .slice qoY (nl q.den) qcY] 24)) := (Fwd.refl _).alloc _
        replace ha := ha.fwd hfB
        replace hb := hb.fwd hfB
        replace hr' := hr'.fwd hfB
        replace rX := rX.fwd hfB
        replace f3 := f3.fwd hfB
        replace f4 := f4.fwd hfB
        replace rY := rY.fwd hfB
        replace kW := kW.fwd hfB
        replace kX := kX.fwd hfB
        replace hF := hF.trans hfB
        clear hfB
        clear wc0 wc1 wc2
        have wc0 := BlkV.cell kW 0 rfl
        have wc1 := BlkV.cell kW 1 rfl
        have wc2 := BlkV.cell kW 2 rfl
        clear xc0 xc1 xc2
        have xc0 := BlkV.cell kX 0 rfl
        have xc1 := BlkV.cell kX 1 rfl
        have xc2 := BlkV.cell kX 2 rfl
        have kY := BlkV.made w8 24 [.bool (negQ q), .slice poY (nl q.num.natAbs) pcY, .slice qoY (nl q.den) qcY]
        go_upto_region 7 with fail
        generalize (w8.alloc (.cells #[.bool (negQ q), .slice poY (nl q.num.natAbs) pcY, .slice qoY (nl q.den) qcY] 24)) = w9 at kY ha hb hr' rX f3 f4 rY kW kX hF ⊢
        clear wc0 wc1 wc2 xc0 xc1 xc2
        have wc0 := BlkV.cell kW 0 rfl
        have wc1 := BlkV.cell kW 1 rfl
        have wc2 := BlkV.cell kW 2 rfl
        have xc0 := BlkV.cell kX 0 rfl
        have xc1 := BlkV.cell kX 1 rfl
        have xc2 := BlkV.cell kX 2 rfl
        have yc0 := BlkV.cell kY 0 rfl
        have yc1 := BlkV.cell kY 1 rfl
        have yc2 := BlkV.cell kY 2 rfl
        clear f3 f4 ha hb
        by_cases hd0 : d = 0
        · subst hd0
          go_wp2_with fail
          refine (rof_zero _ n n1 n2).mono ?_
          rintro e w10 ⟨rfl, hf10⟩
          replace hr' := hr'.fwd hf10
          replace rX := rX.fwd hf10
          replace rY := rY.fwd hf10
          replace kW := kW.fwd hf10
          replace kX := kX.fwd hf10
          replace kY := kY.fwd hf10
          replace hF := hF.trans hf10
          clear hf10
          clear wc0 wc1 wc2
          have wc0 := BlkV.cell kW 0 rfl
          have wc1 := BlkV.cell kW 1 rfl
          have wc2 := BlkV.cell kW 2 rfl
          clear xc0 xc1 xc2
          have xc0 := BlkV.cell kX 0 rfl
          have xc1 := BlkV.cell kX 1 rfl
          have xc2 := BlkV.cell kX 2 rfl
          clear yc0 yc1 yc2
          have yc0 := BlkV.cell kY 0 rfl
          have yc1 := BlkV.cell kY 1 rfl
          have yc2 := BlkV.cell kY 2 rfl
          have rP : RW w10 (.agg #[.bool false, .slice none 0 0, .slice none 0 0]) false 0 0 := ratZero_rw _
          unfold ratZero
          have ltW10 := BlkV.lt kW
          have ltX10 := BlkV.lt kX
          have ltY10 := BlkV.lt kY
          have hfB : Fwd w10 (w10.alloc (.cells #[.bool false, .slice none 0 0, .slice none 0 0] 24)) := (Fwd.refl _).alloc _
          replace hr' := hr'.fwd hfB
          replace rX := rX.fwd hfB
          replace rY := rY.fwd hfB
          replace rP := rP.fwd hfB
          replace kW := kW.fwd hfB
          replace kX := kX.fwd hfB
          replace kY := kY.fwd hfB
          replace hF := hF.trans hfB
          clear hfB
          clear wc0 wc1 wc2
          have wc0 := BlkV.cell kW 0 rfl
          have wc1 := BlkV.cell kW 1 rfl
          have wc2 := BlkV.cell kW 2 rfl
          clear xc0 xc1 xc2
          have xc0 := BlkV.cell kX 0 rfl
          have xc1 := BlkV.cell kX 1 rfl
          have xc2 := BlkV.cell kX 2 rfl
          clear yc0 yc1 yc2
          have yc0 := BlkV.cell kY 0 rfl
          have yc1 := BlkV.cell kY 1 rfl
          have yc2 := BlkV.cell kY 2 rfl
          have kP := BlkV.made w10 24 [.bool false, .slice none 0 0, .slice none 0 0]
          go_upto_region 8 with fail
          generalize (w10.alloc (.cells #[.bool false, .slice none 0 0, .slice none 0 0] 24)) = w11 at kP hr' rX rY rP kW kX kY hF ⊢
          clear wc0 wc1 wc2 xc0 xc1 xc2 yc0 yc1 yc2
          have wc0 := BlkV.cell kW 0 rfl
          have wc1 := BlkV.cell kW 1 rfl
          have wc2 := BlkV.cell kW 2 rfl
          have xc0 := BlkV.cell kX 0 rfl
          have xc1 := BlkV.cell kX 1 rfl
          have xc2 := BlkV.cell kX 2 rfl
          have yc0 := BlkV.cell kY 0 rfl
          have yc1 := BlkV.cell kY 1 rfl
          have yc2 := BlkV.cell kY 2 rfl
          have pc0 := BlkV.cell kP 0 rfl
          have pc1 := BlkV.cell kP 1 rfl
          have pc2 := BlkV.cell kP 2 rfl
          go_wp2_with fail
          refine (of2_zero _ n n1 n2).mono ?_
          rintro e w12 ⟨v, rfl, rQ, hf12⟩
          replace hr' := hr'.fwd hf12
          replace rX := rX.fwd hf12
          replace rY := rY.fwd hf12
          replace rP := rP.fwd hf12
          replace kW := kW.fwd hf12
          replace kX := kX.fwd hf12
          replace kY := kY.fwd hf12
          replace kP := kP.fwd hf12
          replace hF := hF.trans hf12
          clear hf12
          clear wc0 wc1 wc2
          have wc0 := BlkV.cell kW 0 rfl
          have wc1 := BlkV.cell kW 1 rfl
          have wc2 := BlkV.cell kW 2 rfl
          clear xc0 xc1 xc2
          have xc0 := BlkV.cell kX 0 rfl
          have xc1 := BlkV.cell kX 1 rfl
          have xc2 := BlkV.cell kX 2 rfl
          clear yc0 yc1 yc2
          have yc0 := BlkV.cell kY 0 rfl
          have yc1 := BlkV.cell kY 1 rfl
          have yc2 := BlkV.cell kY 2 rfl
          clear pc0 pc1 pc2
          have pc0 := BlkV.cell kP 0 rfl
          have pc1 := BlkV.cell kP 1 rfl
          have pc2 := BlkV.cell kP 2 rfl
          have HV := hid rQ
          obtain ⟨poQ, pcQ, qoQ, qcQ, rfl, p1Q, p2Q, p3Q, p4Q, -, -⟩ := RW.open rQ
          clear rQ
          have rQ := HV.out
          clear HV
          have ltW12 := BlkV.lt kW
          have ltX12 := BlkV.lt kX
          have ltY12 := BlkV.lt kY
          have ltP12 := BlkV.lt kP
          have hfB : Fwd w12 (w12.alloc (.cells #[.bool false, .slice poQ (nl 0) pcQ, .slice qoQ (nl 0) qcQ] 24)) := (Fwd.refl _).alloc _
          replace hr' := hr'.fwd hfB
          replace rX := rX.fwd hfB
          replace rY := rY.fwd hfB
          replace rP := rP.fwd hfB
          replace rQ := rQ.fwd hfB
          replace kW := kW.fwd hfB
          replace kX := kX.fwd hfB
          replace kY := kY.fwd hfB
          replace kP := kP.fwd hfB
          replace hF := hF.trans hfB
          clear hfB
          clear wc0 wc1 wc2
          have wc0 := BlkV.cell kW 0 rfl
          have wc1 := BlkV.cell kW 1 rfl
          have wc2 := BlkV.cell kW 2 rfl
          clear xc0 xc1 xc2
          have xc0 := BlkV.cell kX 0 rfl
          have xc1 := BlkV.cell kX 1 rfl
          have xc2 := BlkV.cell kX 2 rfl
          clear yc0 yc1 yc2
          have yc0 := BlkV.cell kY 0 rfl
          have yc1 := BlkV.cell kY 1 rfl
          have yc2 := BlkV.cell kY 2 rfl
          clear pc0 pc1 pc2
          have pc0 := BlkV.cell kP 0 rfl
          have pc1 := BlkV.cell kP 1 rfl
          have pc2 := BlkV.cell kP 2 rfl
          have kQ := BlkV.made w12 24 [.bool false, .slice poQ (nl 0) pcQ, .slice qoQ (nl 0) qcQ]
          go_upto_region 9 with fail
          generalize (w12.alloc (.cells #[.bool false, .slice poQ (nl 0) pcQ, .slice qoQ (nl 0) qcQ] 24)) = w13 at kQ hr' rX rY rP rQ kW kX kY kP hF ⊢
          clear wc0 wc1 wc2 xc0 xc1 xc2 yc0 yc1 yc2 pc0 pc1 pc2
          have wc0 := BlkV.cell kW 0 rfl
          have wc1 := BlkV.cell kW 1 rfl
          have wc2 := BlkV.cell kW 2 rfl
          have xc0 := BlkV.cell kX 0 rfl
          have xc1 := BlkV.cell kX 1 rfl
          have xc2 := BlkV.cell kX 2 rfl
          have yc0 := BlkV.cell kY 0 rfl
          have yc1 := BlkV.cell kY 1 rfl
          have yc2 := BlkV.cell kY 2 rfl
          have pc0 := BlkV.cell kP 0 rfl
          have pc1 := BlkV.cell kP 1 rfl
          have pc2 := BlkV.cell kP 2 rfl
          have qc0 := BlkV.cell kQ 0 rfl
          have qc1 := BlkV.cell kQ 1 rfl
          have qc2 := BlkV.cell kQ 2 rfl
          have hbl1 : xr.length ≤ 20 := by omega
          have hbl2 : yr.length ≤ 20 := by omega
          obtain ⟨rr, hrr⟩ : ∃ r, r = rightR sr xr yr := ⟨_, rfl⟩
          have HRR := hid hrr
          clear hrr
          replace hr' := hr'.drew
          replace rX := rX.drew
          replace rY := rY.drew
          replace rP := rP.drew
          replace rQ := rQ.drew
          replace kW := kW.drew
          replace kX := kX.drew
          replace kY := kY.drew
          replace kP := kP.drew
          replace kQ := kQ.drew
          replace hF := hF.drew
          clear wc0 wc1 wc2
          have wc0 := BlkV.cell kW 0 rfl
          have wc1 := BlkV.cell kW 1 rfl
          have wc2 := BlkV.cell kW 2 rfl
          clear xc0 xc1 xc2
          have xc0 := BlkV.cell kX 0 rfl
          have xc1 := BlkV.cell kX 1 rfl
          have xc2 := BlkV.cell kX 2 rfl
          clear yc0 yc1 yc2
          have yc0 := BlkV.cell kY 0 rfl
          have yc1 := BlkV.cell kY 1 rfl
          have yc2 := BlkV.cell kY 2 rfl
          clear pc0 pc1 pc2
          have pc0 := BlkV.cell kP 0 rfl
          have pc1 := BlkV.cell kP 1 rfl
          have pc2 := BlkV.cell kP 2 rfl
          clear qc0 qc1 qc2
          have qc0 := BlkV.cell kQ 0 rfl
          have qc1 := BlkV.cell kQ 1 rfl
          have qc2 := BlkV.cell kQ 2 rfl
          refine wp_region_held_drew (S := fun w' => w'.cell? ⟨w.heap.size, 0, none⟩ = some (.bool sr) ∧ w'.cell? ⟨w.heap.size, 1, none⟩ = some (.slice ao xr.length ac) ∧ w'.cell? ⟨w.heap.size, 2, none⟩ = some (.slice ap yr.length ae) ∧ w'.cell? ⟨w4.heap.size, 0, none⟩ = some (.bool (negQ q)) ∧ w'.cell? ⟨w4.heap.size, 1, none⟩ = some (.slice poX (nl q.num.natAbs) pcX) ∧ w'.cell? ⟨w4.heap.size, 2, none⟩ = some (.slice qoX (nl q.den) qcX) ∧ w'.cell? ⟨w8.heap.size, 0, none⟩ = some (.bool (negQ q)) ∧ w'.cell? ⟨w8.heap.size, 1, none⟩ = some (.slice poY (nl q.num.natAbs) pcY) ∧ w'.cell? ⟨w8.heap.size, 2, none⟩ = some (.slice qoY (nl q.den) qcY) ∧ w'.cell? ⟨w10.heap.size, 0, none⟩ = some (.bool false) ∧ w'.cell? ⟨w10.heap.size, 1, none⟩ = some (.slice none 0 0) ∧ w'.cell? ⟨w10.heap.size, 2, none⟩ = some (.slice none 0 0) ∧ w'.cell? ⟨w12.heap.size, 0, none⟩ = some (.bool false) ∧ w'.cell? ⟨w12.heap.size, 1, none⟩ = some (.slice poQ (nl 0) pcQ) ∧ w'.cell? ⟨w12.heap.size, 2, none⟩ = some (.slice qoQ (nl 0) qcQ)) (by kernel_rfl) ⟨by with_reducible assumption, by with_reducible assumption, by with_reducible assumption, by with_reducible assumption, by with_reducible assumption, by with_reducible assumption, by with_reducible assumption, by with_reducible assumption, by with_reducible assumption, by with_reducible assumption, by with_reducible assumption, by with_reducible assumption, by with_reducible assumption, by with_reducible assumption, by with_reducible assumption⟩ (fun hHeld => ?_)
          refine wpAnyH_take (i := 0) (oi := ?oi61_0) (v := ?vv61_0) ?hi61_0 (by kernel_rfl) (by kernel_rfl) (by kernel_rfl) ?hq61_0 ?hy61_0 hHeld ?rest61_0
          case hi61_0 => (simp only [List.getElem?_toArray, List.getElem?_cons_succ, List.getElem?_cons_zero]; rfl)
          case hq61_0 => exact fun _ _ _ h => h
          case hy61_0 =>
            refine Or.inl ⟨by rfl, ?_⟩
            intro wS hSw
            try dsimp only at hSw
            obtain ⟨q0, q1, q2, q3, q4, q5, q6, q7, q8, q9, q10, q11, q12, q13, q14⟩ := hSw
            go_simp
            try with_reducible rfl
          simp only [Act.put, List.setIfInBounds_toArray, List.set_cons_zero, List.set_cons_succ]
          refine wpAnyH_take (i := 1) (oi := ?oi62_1) (v := ?vv62_1) ?hi62_1 (by kernel_rfl) (by kernel_rfl) (by kernel_rfl) ?hq62_1 ?hy62_1 hHeld ?rest62_1
          case hi62_1 => (simp only [List.getElem?_toArray, List.getElem?_cons_succ, List.getElem?_cons_zero]; rfl)
          case hq62_1 => exact fun _ _ _ h => h
          case hy62_1 =>
            refine Or.inl ⟨by rfl, ?_⟩
            intro wS hSw
            try dsimp only at hSw
            obtain ⟨q0, q1, q2, q3, q4, q5, q6, q7, q8, q9, q10, q11, q12, q13, q14⟩ := hSw
            go_simp
            try with_reducible rfl
          simp only [Act.put, List.setIfInBounds_toArray, List.set_cons_zero, List.set_cons_succ]
          refine wpAnyH_take (i := 2) (oi := ?oi63_2) (v := ?vv63_2) ?hi63_2 (by kernel_rfl) (by kernel_rfl) (by kernel_rfl) ?hq63_2 ?hy63_2 hHeld ?rest63_2
          case hi63_2 => (simp only [List.getElem?_toArray, List.getElem?_cons_succ, List.getElem?_cons_zero]; rfl)
          case hq63_2 => exact fun _ _ _ h => h
          case hy63_2 =>
            refine Or.inl ⟨by rfl, ?_⟩
            intro wS hSw
            try dsimp only at hSw
            obtain ⟨q0, q1, q2, q3, q4, q5, q6, q7, q8, q9, q10, q11, q12, q13, q14⟩ := hSw
            go_simp
            try with_reducible rfl
          simp only [Act.put, List.setIfInBounds_toArray, List.set_cons_zero, List.set_cons_succ]
          refine wpAnyH_take (i := 3) (oi := ?oi64_3) (v := ?vv64_3) ?hi64_3 (by kernel_rfl) (by kernel_rfl) (by kernel_rfl) ?hq64_3 ?hy64_3 hHeld ?rest64_3
          case hi64_3 => (simp only [List.getElem?_toArray, List.getElem?_cons_succ, List.getElem?_cons_zero]; rfl)
          case hq64_3 => exact fun _ _ _ h => h
          case hy64_3 =>
            refine Or.inl ⟨by rfl, ?_⟩
            intro wS hSw
            try dsimp only at hSw
            obtain ⟨q0, q1, q2, q3, q4, q5, q6, q7, q8, q9, q10, q11, q12, q13, q14⟩ := hSw
            go_simp
            try with_reducible rfl
          simp only [Act.put, List.setIfInBounds_toArray, List.set_cons_zero, List.set_cons_succ]
          refine wpAnyH_take (i := 4) (oi := ?oi65_4) (v := ?vv65_4) ?hi65_4 (by kernel_rfl) (by kernel_rfl) (by kernel_rfl) ?hq65_4 ?hy65_4 hHeld ?rest65_4
          case hi65_4 => (simp only [List.getElem?_toArray, List.getElem?_cons_succ, List.getElem?_cons_zero]; rfl)
          case hq65_4 => exact fun _ _ _ h => h
          case hy65_4 =>
            refine Or.inl ⟨by rfl, ?_⟩
            intro wS hSw
            try dsimp only at hSw
            obtain ⟨q0, q1, q2, q3, q4, q5, q6, q7, q8, q9, q10, q11, q12, q13, q14⟩ := hSw
            go_simp
            try with_reducible rfl
          simp only [Act.put, List.setIfInBounds_toArray, List.set_cons_zero, List.set_cons_succ]
          refine wpAnyH_take (i := 5) (oi := ?oi66_5) (v := ?vv66_5) ?hi66_5 (by kernel_rfl) (by kernel_rfl) (by kernel_rfl) ?hq66_5 ?hy66_5 hHeld ?rest66_5
          case hi66_5 => (simp only [List.getElem?_toArray, List.getElem?_cons_succ, List.getElem?_cons_zero]; rfl)
          case hq66_5 => exact fun _ _ _ h => h
          case hy66_5 =>
            refine Or.inl ⟨by rfl, ?_⟩
            intro wS hSw
            try dsimp only at hSw
            obtain ⟨q0, q1, q2, q3, q4, q5, q6, q7, q8, q9, q10, q11, q12, q13, q14⟩ := hSw
            go_simp
            try with_reducible rfl
          simp only [Act.put, List.setIfInBounds_toArray, List.set_cons_zero, List.set_cons_succ]
          refine wpAnyH_ready (rs := [6]) (by kernel_rfl) (by simp) ?_
          refine AllReadyH.cons rfl (fun K hK => ?_) AllReadyH.nil
          go_simp
          refine (same2_true rX rY (by omega) (by omega) rfl).mono ?_
          rintro e w14 ⟨rfl, hf14⟩
          replace hr' := hr'.fwd hf14
          replace rX := rX.fwd hf14
          replace rY := rY.fwd hf14
          replace rP := rP.fwd hf14
          replace rQ := rQ.fwd hf14
          replace kW := kW.fwd hf14
          replace kX := kX.fwd hf14
          replace kY := kY.fwd hf14
          replace kP := kP.fwd hf14
          replace kQ := kQ.fwd hf14
          replace hF := hF.trans hf14
          clear hf14
          clear wc0 wc1 wc2
          have wc0 := BlkV.cell kW 0 rfl
          have wc1 := BlkV.cell kW 1 rfl
          have wc2 := BlkV.cell kW 2 rfl
          clear xc0 xc1 xc2
          have xc0 := BlkV.cell kX 0 rfl
          have xc1 := BlkV.cell kX 1 rfl
          have xc2 := BlkV.cell kX 2 rfl
          clear yc0 yc1 yc2
          have yc0 := BlkV.cell kY 0 rfl
          have yc1 := BlkV.cell kY 1 rfl
          have yc2 := BlkV.cell kY 2 rfl
          clear pc0 pc1 pc2
          have pc0 := BlkV.cell kP 0 rfl
          have pc1 := BlkV.cell kP 1 rfl
          have pc2 := BlkV.cell kP 2 rfl
          clear qc0 qc1 qc2
          have qc0 := BlkV.cell kQ 0 rfl
          have qc1 := BlkV.cell kQ 1 rfl
          have qc2 := BlkV.cell kQ 2 rfl
          go_wp2_with fail
          clear hHeld
          refine hK.out _ _ ⟨by with_reducible assumption, by with_reducible assumption, by with_reducible assumption, by with_reducible assumption, by with_reducible assumption, by with_reducible assumption, by with_reducible assumption, by with_reducible assumption, by with_reducible assumption, by with_reducible assumption, by with_reducible assumption, by with_reducible assumption, by with_reducible assumption, by with_reducible assumption, by with_reducible assumption⟩ (fun hHeld => ?_)
          clear hK K
          try simp only [Act.put, List.setIfInBounds_toArray, List.set_cons_zero, List.set_cons_succ]
          refine wpAnyH_take (i := 7) (oi := ?oi67_7) (v := ?vv67_7) ?hi67_7 (by kernel_rfl) (by kernel_rfl) (by kernel_rfl) ?hq67_7 ?hy67_7 hHeld ?rest67_7
          case hi67_7 => (simp only [List.getElem?_toArray, List.getElem?_cons_succ, List.getElem?_cons_zero]; rfl)
          case hq67_7 => exact fun _ _ _ h => h
          case hy67_7 =>
            refine Or.inl ⟨by rfl, ?_⟩
            intro wS hSw
            try dsimp only at hSw
            obtain ⟨q0, q1, q2, q3, q4, q5, q6, q7, q8, q9, q10, q11, q12, q13, q14⟩ := hSw
            go_simp
            try with_reducible rfl
          simp only [Act.put, List.setIfInBounds_toArray, List.set_cons_zero, List.set_cons_succ]
          refine wpAnyH_take (i := 8) (oi := ?oi68_8) (v := ?vv68_8) ?hi68_8 (by kernel_rfl) (by kernel_rfl) (by kernel_rfl) ?hq68_8 ?hy68_8 hHeld ?rest68_8
          case hi68_8 => (simp only [List.getElem?_toArray, List.getElem?_cons_succ, List.getElem?_cons_zero]; rfl)
          case hq68_8 => exact fun _ _ _ h => h
          case hy68_8 =>
            refine Or.inl ⟨by rfl, ?_⟩
            intro wS hSw
            try dsimp only at hSw
            obtain ⟨q0, q1, q2, q3, q4, q5, q6, q7, q8, q9, q10, q11, q12, q13, q14⟩ := hSw
            go_simp
            try with_reducible rfl
          simp only [Act.put, List.setIfInBounds_toArray, List.set_cons_zero, List.set_cons_succ]
          refine wpAnyH_take (i := 9) (oi := ?oi69_9) (v := ?vv69_9) ?hi69_9 (by kernel_rfl) (by kernel_rfl) (by kernel_rfl) ?hq69_9 ?hy69_9 hHeld ?rest69_9
          case hi69_9 => (simp only [List.getElem?_toArray, List.getElem?_cons_succ, List.getElem?_cons_zero]; rfl)
          case hq69_9 => exact fun _ _ _ h => h
          case hy69_9 =>
            refine Or.inl ⟨by rfl, ?_⟩
            intro wS hSw
            try dsimp only at hSw
            obtain ⟨q0, q1, q2, q3, q4, q5, q6, q7, q8, q9, q10, q11, q12, q13, q14⟩ := hSw
            go_simp
            try with_reducible rfl
          simp only [Act.put, List.setIfInBounds_toArray, List.set_cons_zero, List.set_cons_succ]
          refine wpAnyH_take (i := 10) (oi := ?oi70_10) (v := ?vv70_10) ?hi70_10 (by kernel_rfl) (by kernel_rfl) (by kernel_rfl) ?hq70_10 ?hy70_10 hHeld ?rest70_10
          case hi70_10 => (simp only [List.getElem?_toArray, List.getElem?_cons_succ, List.getElem?_cons_zero]; rfl)
          case hq70_10 => exact fun _ _ _ h => h
          case hy70_10 =>
            refine Or.inl ⟨by rfl, ?_⟩
            intro wS hSw
            try dsimp only at hSw
            obtain ⟨q0, q1, q2, q3, q4, q5, q6, q7, q8, q9, q10, q11, q12, q13, q14⟩ := hSw
            go_simp
            try with_reducible rfl
          simp only [Act.put, List.setIfInBounds_toArray, List.set_cons_zero, List.set_cons_succ]
          refine wpAnyH_take (i := 11) (oi := ?oi71_11) (v := ?vv71_11) ?hi71_11 (by kernel_rfl) (by kernel_rfl) (by kernel_rfl) ?hq71_11 ?hy71_11 hHeld ?rest71_11
          case hi71_11 => (simp only [List.getElem?_toArray, List.getElem?_cons_succ, List.getElem?_cons_zero]; rfl)
          case hq71_11 => exact fun _ _ _ h => h
          case hy71_11 =>
            refine Or.inl ⟨by rfl, ?_⟩
            intro wS hSw
            try dsimp only at hSw
            obtain ⟨q0, q1, q2, q3, q4, q5, q6, q7, q8, q9, q10, q11, q12, q13, q14⟩ := hSw
            go_simp
            try with_reducible rfl
          simp only [Act.put, List.setIfInBounds_toArray, List.set_cons_zero, List.set_cons_succ]
          refine wpAnyH_take (i := 12) (oi := ?oi72_12) (v := ?vv72_12) ?hi72_12 (by kernel_rfl) (by kernel_rfl) (by kernel_rfl) ?hq72_12 ?hy72_12 hHeld ?rest72_12
          case hi72_12 => (simp only [List.getElem?_toArray, List.getElem?_cons_succ, List.getElem?_cons_zero]; rfl)
          case hq72_12 => exact fun _ _ _ h => h
          case hy72_12 =>
            refine Or.inl ⟨by rfl, ?_⟩
            intro wS hSw
            try dsimp only at hSw
            obtain ⟨q0, q1, q2, q3, q4, q5, q6, q7, q8, q9, q10, q11, q12, q13, q14⟩ := hSw
            go_simp
            try with_reducible rfl
          simp only [Act.put, List.setIfInBounds_toArray, List.set_cons_zero, List.set_cons_succ]
          refine wpAnyH_take (i := 13) (oi := ?oi73_13) (v := ?vv73_13) ?hi73_13 (by kernel_rfl) (by kernel_rfl) (by kernel_rfl) ?hq73_13 ?hy73_13 hHeld ?rest73_13
          case hi73_13 => (simp only [List.getElem?_toArray, List.getElem?_cons_succ, List.getElem?_cons_zero]; rfl)
          case hq73_13 => exact fun _ _ _ h => h
          case hy73_13 =>
            refine Or.inl ⟨by rfl, ?_⟩
            intro wS hSw
            try dsimp only at hSw
            obtain ⟨q0, q1, q2, q3, q4, q5, q6, q7, q8, q9, q10, q11, q12, q13, q14⟩ := hSw
            go_simp
            try with_reducible rfl
          simp only [Act.put, List.setIfInBounds_toArray, List.set_cons_zero, List.set_cons_succ]
          refine wpAnyH_take (i := 14) (oi := ?oi74_14) (v := ?vv74_14) ?hi74_14 (by kernel_rfl) (by kernel_rfl) (by kernel_rfl) ?hq74_14 ?hy74_14 hHeld ?rest74_14
          case hi74_14 => (simp only [List.getElem?_toArray, List.getElem?_cons_succ, List.getElem?_cons_zero]; rfl)
          case hq74_14 => exact fun _ _ _ h => h
          case hy74_14 =>
            refine Or.inl ⟨by rfl, ?_⟩
            intro wS hSw
            try dsimp only at hSw
            obtain ⟨q0, q1, q2, q3, q4, q5, q6, q7, q8, q9, q10, q11, q12, q13, q14⟩ := hSw
            go_simp
            try with_reducible rfl
          simp only [Act.put, List.setIfInBounds_toArray, List.set_cons_zero, List.set_cons_succ]
          refine wpAnyH_take (i := 15) (oi := ?oi75_15) (v := ?vv75_15) ?hi75_15 (by kernel_rfl) (by kernel_rfl) (by kernel_rfl) ?hq75_15 ?hy75_15 hHeld ?rest75_15
          case hi75_15 => (simp only [List.getElem?_toArray, List.getElem?_cons_succ, List.getElem?_cons_zero]; rfl)
          case hq75_15 => exact fun _ _ _ h => h
          case hy75_15 =>
            refine Or.inl ⟨by rfl, ?_⟩
            intro wS hSw
            try dsimp only at hSw
            obtain ⟨q0, q1, q2, q3, q4, q5, q6, q7, q8, q9, q10, q11, q12, q13, q14⟩ := hSw
            go_simp
            try with_reducible rfl
          simp only [Act.put, List.setIfInBounds_toArray, List.set_cons_zero, List.set_cons_succ]
          refine wpAnyH_ready (rs := [16]) (by kernel_rfl) (by simp) ?_
          refine AllReadyH.cons rfl (fun K hK => ?_) AllReadyH.nil
          go_simp
          refine (same2_zero rP rQ).mono ?_
          rintro e w15 ⟨rfl, hf15⟩
          replace hr' := hr'.fwd hf15
          replace rX := rX.fwd hf15
          replace rY := rY.fwd hf15
          replace rP := rP.fwd hf15
          replace rQ := rQ.fwd hf15
          replace kW := kW.fwd hf15
          replace kX := kX.fwd hf15
          replace kY := kY.fwd hf15
          replace kP := kP.fwd hf15
          replace kQ := kQ.fwd hf15
          replace hF := hF.trans hf15
          clear hf15
          clear wc0 wc1 wc2
          have wc0 := BlkV.cell kW 0 rfl
          have wc1 := BlkV.cell kW 1 rfl
          have wc2 := BlkV.cell kW 2 rfl
          clear xc0 xc1 xc2
          have xc0 := BlkV.cell kX 0 rfl
          have xc1 := BlkV.cell kX 1 rfl
          have xc2 := BlkV.cell kX 2 rfl
          clear yc0 yc1 yc2
          have yc0 := BlkV.cell kY 0 rfl
          have yc1 := BlkV.cell kY 1 rfl
          have yc2 := BlkV.cell kY 2 rfl
          clear pc0 pc1 pc2
          have pc0 := BlkV.cell kP 0 rfl
          have pc1 := BlkV.cell kP 1 rfl
          have pc2 := BlkV.cell kP 2 rfl
          clear qc0 qc1 qc2
          have qc0 := BlkV.cell kQ 0 rfl
          have qc1 := BlkV.cell kQ 1 rfl
          have qc2 := BlkV.cell kQ 2 rfl
          go_wp2_with fail
          clear hHeld
          refine hK.out _ _ ⟨by with_reducible assumption, by with_reducible assumption, by with_reducible assumption, by with_reducible assumption, by with_reducible assumption, by with_reducible assumption, by with_reducible assumption, by with_reducible assumption, by with_reducible assumption, by with_reducible assumption, by with_reducible assumption, by with_reducible assumption, by with_reducible assumption, by with_reducible assumption, by with_reducible assumption⟩ (fun hHeld => ?_)
          clear hK K
          try simp only [Act.put, List.setIfInBounds_toArray, List.set_cons_zero, List.set_cons_succ]
          refine wpAnyH_take (i := 17) (oi := ?oi76_17) (v := ?vv76_17) ?hi76_17 (by kernel_rfl) (by kernel_rfl) (by kernel_rfl) ?hq76_17 ?hy76_17 hHeld ?rest76_17
          case hi76_17 => (simp only [List.getElem?_toArray, List.getElem?_cons_succ, List.getElem?_cons_zero]; rfl)
          case hq76_17 => exact fun _ _ _ h => h
          case hy76_17 =>
            refine Or.inl ⟨by rfl, ?_⟩
            intro wS hSw
            try dsimp only at hSw
            obtain ⟨q0, q1, q2, q3, q4, q5, q6, q7, q8, q9, q10, q11, q12, q13, q14⟩ := hSw
            go_simp
            try with_reducible rfl
          simp only [Act.put, List.setIfInBounds_toArray, List.set_cons_zero, List.set_cons_succ]
          refine wpAnyH_take (i := 18) (oi := ?oi77_18) (v := ?vv77_18) ?hi77_18 (by kernel_rfl) (by kernel_rfl) (by kernel_rfl) ?hq77_18 ?hy77_18 hHeld ?rest77_18
          case hi77_18 => (simp only [List.getElem?_toArray, List.getElem?_cons_succ, List.getElem?_cons_zero]; rfl)
          case hq77_18 => exact fun _ _ _ h => h
          case hy77_18 =>
            refine Or.inl ⟨by rfl, ?_⟩
            intro wS hSw
            try dsimp only at hSw
            obtain ⟨q0, q1, q2, q3, q4, q5, q6, q7, q8, q9, q10, q11, q12, q13, q14⟩ := hSw
            go_simp
            try with_reducible rfl
          simp only [Act.put, List.setIfInBounds_toArray, List.set_cons_zero, List.set_cons_succ]
          refine wpAnyH_take (i := 19) (oi := ?oi78_19) (v := ?vv78_19) ?hi78_19 (by kernel_rfl) (by kernel_rfl) (by kernel_rfl) ?hq78_19 ?hy78_19 hHeld ?rest78_19
          case hi78_19 => (simp only [List.getElem?_toArray, List.getElem?_cons_succ, List.getElem?_cons_zero]; rfl)
          case hq78_19 => exact fun _ _ _ h => h
          case hy78_19 =>
            refine Or.inl ⟨by rfl, ?_⟩
            intro wS hSw
            try dsimp only at hSw
            obtain ⟨q0, q1, q2, q3, q4, q5, q6, q7, q8, q9, q10, q11, q12, q13, q14⟩ := hSw
            go_simp
            try with_reducible rfl
          simp only [Act.put, List.setIfInBounds_toArray, List.set_cons_zero, List.set_cons_succ]
          refine wpAnyH_take (i := 21) (oi := ?oi79_21) (v := ?vv79_21) ?hi79_21 (by kernel_rfl) (by kernel_rfl) (by kernel_rfl) ?hq79_21 ?hy79_21 hHeld ?rest79_21
          case hi79_21 => (simp only [List.getElem?_toArray, List.getElem?_cons_succ, List.getElem?_cons_zero]; rfl)
          case hq79_21 => exact fun _ _ _ h => h
          case hy79_21 =>
            refine Or.inl ⟨by rfl, ?_⟩
            intro wS hSw
            try dsimp only at hSw
            obtain ⟨q0, q1, q2, q3, q4, q5, q6, q7, q8, q9, q10, q11, q12, q13, q14⟩ := hSw
            go_simp
            try with_reducible rfl
          simp only [Act.put, List.setIfInBounds_toArray, List.set_cons_zero, List.set_cons_succ]
          refine wpAnyH_ready (rs := [20]) (by kernel_rfl) (by simp) ?_
          refine AllReadyH.cons rfl (fun K hK => ?_) AllReadyH.nil
          go_simp
          refine (rright_any hr' (by omega) (by omega)).mono ?_
          rintro e w16 ⟨rfl, hf16⟩
          replace hr' := hr'.fwd hf16
          replace rX := rX.fwd hf16
          replace rY := rY.fwd hf16
          replace rP := rP.fwd hf16
          replace rQ := rQ.fwd hf16
          replace kW := kW.fwd hf16
          replace kX := kX.fwd hf16
          replace kY := kY.fwd hf16
          replace kP := kP.fwd hf16
          replace kQ := kQ.fwd hf16
          replace hF := hF.trans hf16
          clear hf16
          clear wc0 wc1 wc2
          have wc0 := BlkV.cell kW 0 rfl
          have wc1 := BlkV.cell kW 1 rfl
          have wc2 := BlkV.cell kW 2 rfl
          clear xc0 xc1 xc2
          have xc0 := BlkV.cell kX 0 rfl
          have xc1 := BlkV.cell kX 1 rfl
          have xc2 := BlkV.cell kX 2 rfl
          clear yc0 yc1 yc2
          have yc0 := BlkV.cell kY 0 rfl
          have yc1 := BlkV.cell kY 1 rfl
          have yc2 := BlkV.cell kY 2 rfl
          clear pc0 pc1 pc2
          have pc0 := BlkV.cell kP 0 rfl
          have pc1 := BlkV.cell kP 1 rfl
          have pc2 := BlkV.cell kP 2 rfl
          clear qc0 qc1 qc2
          have qc0 := BlkV.cell kQ 0 rfl
          have qc1 := BlkV.cell kQ 1 rfl
          have qc2 := BlkV.cell kQ 2 rfl
          rw [← HRR.out]
          go_wp2_with fail
          clear hHeld
          refine hK.out _ _ ⟨by with_reducible assumption, by with_reducible assumption, by with_reducible assumption, by with_reducible assumption, by with_reducible assumption, by with_reducible assumption, by with_reducible assumption, by with_reducible assumption, by with_reducible assumption, by with_reducible assumption, by with_reducible assumption, by with_reducible assumption, by with_reducible assumption, by with_reducible assumption, by with_reducible assumption⟩ (fun hHeld => ?_)
          clear hK K
          try simp only [Act.put, List.setIfInBounds_toArray, List.set_cons_zero, List.set_cons_succ]
          refine wpAnyH_ready (rs := [22]) (by kernel_rfl) (by simp) ?_
          refine AllReadyH.cons rfl (fun K hK => ?_) AllReadyH.nil
          go_simp
          refine (right2_any hr' (by omega) (by omega)).mono ?_
          rintro e w17 ⟨rfl, hf17⟩
          replace hr' := hr'.fwd hf17
          replace rX := rX.fwd hf17
          replace rY := rY.fwd hf17
          replace rP := rP.fwd hf17
          replace rQ := rQ.fwd hf17
          replace kW := kW.fwd hf17
          replace kX := kX.fwd hf17
          replace kY := kY.fwd hf17
          replace kP := kP.fwd hf17
          replace kQ := kQ.fwd hf17
          replace hF := hF.trans hf17
          clear hf17
          clear wc0 wc1 wc2
          have wc0 := BlkV.cell kW 0 rfl
          have wc1 := BlkV.cell kW 1 rfl
          have wc2 := BlkV.cell kW 2 rfl
          clear xc0 xc1 xc2
          have xc0 := BlkV.cell kX 0 rfl
          have xc1 := BlkV.cell kX 1 rfl
          have xc2 := BlkV.cell kX 2 rfl
          clear yc0 yc1 yc2
          have yc0 := BlkV.cell kY 0 rfl
          have yc1 := BlkV.cell kY 1 rfl
          have yc2 := BlkV.cell kY 2 rfl
          clear pc0 pc1 pc2
          have pc0 := BlkV.cell kP 0 rfl
          have pc1 := BlkV.cell kP 1 rfl
          have pc2 := BlkV.cell kP 2 rfl
          clear qc0 qc1 qc2
          have qc0 := BlkV.cell kQ 0 rfl
          have qc1 := BlkV.cell kQ 1 rfl
          have qc2 := BlkV.cell kQ 2 rfl
          rw [← HRR.out]
          go_wp2_with fail
          clear hHeld
          refine hK.out _ _ ⟨by with_reducible assumption, by with_reducible assumption, by with_reducible assumption, by with_reducible assumption, by with_reducible assumption, by with_reducible assumption, by with_reducible assumption, by with_reducible assumption, by with_reducible assumption, by with_reducible assumption, by with_reducible assumption, by with_reducible assumption, by with_reducible assumption, by with_reducible assumption, by with_reducible assumption⟩ (fun hHeld => ?_)
          clear hK K
          try simp only [Act.put, List.setIfInBounds_toArray, List.set_cons_zero, List.set_cons_succ]
          refine wpAnyH_take (i := 23) (oi := ?oi80_23) (v := ?vv80_23) ?hi80_23 (by kernel_rfl) (by kernel_rfl) (by kernel_rfl) ?hq80_23 ?hy80_23 hHeld ?rest80_23
          case hi80_23 => (simp only [List.getElem?_toArray, List.getElem?_cons_succ, List.getElem?_cons_zero]; rfl)
          case hq80_23 => exact fun _ _ _ h => h
          case hy80_23 =>
            refine Or.inl ⟨by rfl, ?_⟩
            intro wS hSw
            try dsimp only at hSw
            obtain ⟨q0, q1, q2, q3, q4, q5, q6, q7, q8, q9, q10, q11, q12, q13, q14⟩ := hSw
            go_simp
            try with_reducible rfl
          simp only [Act.put, List.setIfInBounds_toArray, List.set_cons_zero, List.set_cons_succ]
          refine wpAnyH_take (i := 24) (oi := ?oi81_24) (v := ?vv81_24) ?hi81_24 (by kernel_rfl) (by kernel_rfl) (by kernel_rfl) ?hq81_24 ?hy81_24 hHeld ?rest81_24
          case hi81_24 => (simp only [List.getElem?_toArray, List.getElem?_cons_succ, List.getElem?_cons_zero]; rfl)
          case hq81_24 => exact fun _ _ _ h => h
          case hy81_24 =>
            refine Or.inl ⟨by rfl, ?_⟩
            intro wS hSw
            try dsimp only at hSw
            obtain ⟨q0, q1, q2, q3, q4, q5, q6, q7, q8, q9, q10, q11, q12, q13, q14⟩ := hSw
            go_simp
            try with_reducible rfl
          simp only [Act.put, List.setIfInBounds_toArray, List.set_cons_zero, List.set_cons_succ]
          refine wpAnyH_take (i := 25) (oi := ?oi82_25) (v := ?vv82_25) ?hi82_25 (by kernel_rfl) (by kernel_rfl) (by kernel_rfl) ?hq82_25 ?hy82_25 hHeld ?rest82_25
          case hi82_25 => (simp only [List.getElem?_toArray, List.getElem?_cons_succ, List.getElem?_cons_zero]; rfl)
          case hq82_25 => exact fun _ _ _ h => h
          case hy82_25 =>
            refine Or.inl ⟨by rfl, ?_⟩
            intro wS hSw
            try dsimp only at hSw
            obtain ⟨q0, q1, q2, q3, q4, q5, q6, q7, q8, q9, q10, q11, q12, q13, q14⟩ := hSw
            go_simp
            try with_reducible rfl
          simp only [Act.put, List.setIfInBounds_toArray, List.set_cons_zero, List.set_cons_succ]
          refine wpAnyH_take (i := 26) (oi := ?oi83_26) (v := ?vv83_26) ?hi83_26 (by kernel_rfl) (by kernel_rfl) (by kernel_rfl) ?hq83_26 ?hy83_26 hHeld ?rest83_26
          case hi83_26 => (simp only [List.getElem?_toArray, List.getElem?_cons_succ, List.getElem?_cons_zero]; rfl)
          case hq83_26 => exact fun _ _ _ h => h
          case hy83_26 =>
            refine Or.inl ⟨by rfl, ?_⟩
            intro wS hSw
            try dsimp only at hSw
            obtain ⟨q0, q1, q2, q3, q4, q5, q6, q7, q8, q9, q10, q11, q12, q13, q14⟩ := hSw
            go_simp
            try with_reducible rfl
          simp only [Act.put, List.setIfInBounds_toArray, List.set_cons_zero, List.set_cons_succ]
          refine wpAnyH_take (i := 27) (oi := ?oi84_27) (v := ?vv84_27) ?hi84_27 (by kernel_rfl) (by kernel_rfl) (by kernel_rfl) ?hq84_27 ?hy84_27 hHeld ?rest84_27
          case hi84_27 => (simp only [List.getElem?_toArray, List.getElem?_cons_succ, List.getElem?_cons_zero]; rfl)
          case hq84_27 => exact fun _ _ _ h => h
          case hy84_27 =>
            refine Or.inl ⟨by rfl, ?_⟩
            intro wS hSw
            try dsimp only at hSw
            obtain ⟨q0, q1, q2, q3, q4, q5, q6, q7, q8, q9, q10, q11, q12, q13, q14⟩ := hSw
            go_simp
            try with_reducible rfl
          simp only [Act.put, List.setIfInBounds_toArray, List.set_cons_zero, List.set_cons_succ]
          refine wpAnyH_take (i := 28) (oi := ?oi85_28) (v := ?vv85_28) ?hi85_28 (by kernel_rfl) (by kernel_rfl) (by kernel_rfl) ?hq85_28 ?hy85_28 hHeld ?rest85_28
          case hi85_28 => (simp only [List.getElem?_toArray, List.getElem?_cons_succ, List.getElem?_cons_zero]; rfl)
          case hq85_28 => exact fun _ _ _ h => h
          case hy85_28 =>
            refine Or.inl ⟨by rfl, ?_⟩
            intro wS hSw
            try dsimp only at hSw
            obtain ⟨q0, q1, q2, q3, q4, q5, q6, q7, q8, q9, q10, q11, q12, q13, q14⟩ := hSw
            go_simp
            try with_reducible rfl
          simp only [Act.put, List.setIfInBounds_toArray, List.set_cons_zero, List.set_cons_succ]
          refine wpAnyH_take (i := 29) (oi := ?oi86_29) (v := ?vv86_29) ?hi86_29 (by kernel_rfl) (by kernel_rfl) (by kernel_rfl) ?hq86_29 ?hy86_29 hHeld ?rest86_29
          case hi86_29 => (simp only [List.getElem?_toArray, List.getElem?_cons_succ, List.getElem?_cons_zero]; rfl)
          case hq86_29 => exact fun _ _ _ h => h
          case hy86_29 =>
            refine Or.inl ⟨by rfl, ?_⟩
            intro wS hSw
            try dsimp only at hSw
            obtain ⟨q0, q1, q2, q3, q4, q5, q6, q7, q8, q9, q10, q11, q12, q13, q14⟩ := hSw
            go_simp
            try with_reducible rfl
          simp only [Act.put, List.setIfInBounds_toArray, List.set_cons_zero, List.set_cons_succ]
          refine wpAnyH_ready (rs := [30]) (by kernel_rfl) (by simp) ?_
          refine AllReadyH.cons rfl (fun K hK => ?_) AllReadyH.nil
          go_simp
          refine (rright_true rX (by omega)).mono ?_
          rintro e w18 ⟨rfl, hf18⟩
          replace hr' := hr'.fwd hf18
          replace rX := rX.fwd hf18
          replace rY := rY.fwd hf18
          replace rP := rP.fwd hf18
          replace rQ := rQ.fwd hf18
          replace kW := kW.fwd hf18
          replace kX := kX.fwd hf18
          replace kY := kY.fwd hf18
          replace kP := kP.fwd hf18
          replace kQ := kQ.fwd hf18
          replace hF := hF.trans hf18
          clear hf18
          clear wc0 wc1 wc2
          have wc0 := BlkV.cell kW 0 rfl
          have wc1 := BlkV.cell kW 1 rfl
          have wc2 := BlkV.cell kW 2 rfl
          clear xc0 xc1 xc2
          have xc0 := BlkV.cell kX 0 rfl
          have xc1 := BlkV.cell kX 1 rfl
          have xc2 := BlkV.cell kX 2 rfl
          clear yc0 yc1 yc2
          have yc0 := BlkV.cell kY 0 rfl
          have yc1 := BlkV.cell kY 1 rfl
          have yc2 := BlkV.cell kY 2 rfl
          clear pc0 pc1 pc2
          have pc0 := BlkV.cell kP 0 rfl
          have pc1 := BlkV.cell kP 1 rfl
          have pc2 := BlkV.cell kP 2 rfl
          clear qc0 qc1 qc2
          have qc0 := BlkV.cell kQ 0 rfl
          have qc1 := BlkV.cell kQ 1 rfl
          have qc2 := BlkV.cell kQ 2 rfl
          go_wp2_with fail
          clear hHeld
          refine hK.out _ _ ⟨by with_reducible assumption, by with_reducible assumption, by with_reducible assumption, by with_reducible assumption, by with_reducible assumption, by with_reducible assumption, by with_reducible assumption, by with_reducible assumption, by with_reducible assumption, by with_reducible assumption, by with_reducible assumption, by with_reducible assumption, by with_reducible assumption, by with_reducible assumption, by with_reducible assumption⟩ (fun hHeld => ?_)
          clear hK K
          try simp only [Act.put, List.setIfInBounds_toArray, List.set_cons_zero, List.set_cons_succ]
          refine wpAnyH_take (i := 31) (oi := ?oi87_31) (v := ?vv87_31) ?hi87_31 (by kernel_rfl) (by kernel_rfl) (by kernel_rfl) ?hq87_31 ?hy87_31 hHeld ?rest87_31
          case hi87_31 => (simp only [List.getElem?_toArray, List.getElem?_cons_succ, List.getElem?_cons_zero]; rfl)
          case hq87_31 => exact fun _ _ _ h => h
          case hy87_31 =>
            refine Or.inl ⟨by rfl, ?_⟩
            intro wS hSw
            try dsimp only at hSw
            obtain ⟨q0, q1, q2, q3, q4, q5, q6, q7, q8, q9, q10, q11, q12, q13, q14⟩ := hSw
            go_simp
            try with_reducible rfl
          simp only [Act.put, List.setIfInBounds_toArray, List.set_cons_zero, List.set_cons_succ]
          refine wpAnyH_take (i := 32) (oi := ?oi88_32) (v := ?vv88_32) ?hi88_32 (by kernel_rfl) (by kernel_rfl) (by kernel_rfl) ?hq88_32 ?hy88_32 hHeld ?rest88_32
          case hi88_32 => (simp only [List.getElem?_toArray, List.getElem?_cons_succ, List.getElem?_cons_zero]; rfl)
          case hq88_32 => exact fun _ _ _ h => h
          case hy88_32 =>
            refine Or.inl ⟨by rfl, ?_⟩
            intro wS hSw
            try dsimp only at hSw
            obtain ⟨q0, q1, q2, q3, q4, q5, q6, q7, q8, q9, q10, q11, q12, q13, q14⟩ := hSw
            go_simp
            try with_reducible rfl
          simp only [Act.put, List.setIfInBounds_toArray, List.set_cons_zero, List.set_cons_succ]
          refine wpAnyH_take (i := 33) (oi := ?oi89_33) (v := ?vv89_33) ?hi89_33 (by kernel_rfl) (by kernel_rfl) (by kernel_rfl) ?hq89_33 ?hy89_33 hHeld ?rest89_33
          case hi89_33 => (simp only [List.getElem?_toArray, List.getElem?_cons_succ, List.getElem?_cons_zero]; rfl)
          case hq89_33 => exact fun _ _ _ h => h
          case hy89_33 =>
            refine Or.inl ⟨by rfl, ?_⟩
            intro wS hSw
            try dsimp only at hSw
            obtain ⟨q0, q1, q2, q3, q4, q5, q6, q7, q8, q9, q10, q11, q12, q13, q14⟩ := hSw
            go_simp
            try with_reducible rfl
          simp only [Act.put, List.setIfInBounds_toArray, List.set_cons_zero, List.set_cons_succ]
          refine wpAnyH_done (by kernel_rfl) ?_ _
          go_wp2_with fail
          go_ret
          exact ⟨rfl, hF⟩
        · have HD0 := hid hd0
          obtain ⟨u, hu⟩ : ∃ u, u = mkQ (!(decide (n < 0) == decide (d < 0))) n.natAbs d.natAbs := ⟨_, rfl⟩
          have bu : nr u ≤ 2 := by rw [hu]; refine Nat.le_trans (nr_mkQ _ _ _ (by omega)) ?_; have e1 : nl n.natAbs ≤ 2 := nl_le_two.2 (by omega); have e2 : nl d.natAbs ≤ 2 := nl_le_two.2 (by omega); omega
          have HU := hid hu
          clear hd0 hu
          go_wp2_with fail
          refine (rof_any _ n d n1 n2 d1 d2 HD0.out).mono ?_
          rintro e w10 ⟨v, rfl, rP, hf10⟩
          replace hr' := hr'.fwd hf10
          replace rX := rX.fwd hf10
          replace rY := rY.fwd hf10
          replace kW := kW.fwd hf10
          replace kX := kX.fwd hf10
          replace kY := kY.fwd hf10
          replace hF := hF.trans hf10
          clear hf10
          clear wc0 wc1 wc2
          have wc0 := BlkV.cell kW 0 rfl
          have wc1 := BlkV.cell kW 1 rfl
          have wc2 := BlkV.cell kW 2 rfl
          clear xc0 xc1 xc2
          have xc0 := BlkV.cell kX 0 rfl
          have xc1 := BlkV.cell kX 1 rfl
          have xc2 := BlkV.cell kX 2 rfl
          clear yc0 yc1 yc2
          have yc0 := BlkV.cell kY 0 rfl
          have yc1 := BlkV.cell kY 1 rfl
          have yc2 := BlkV.cell kY 2 rfl
          rw [← HU.out] at rP
          have HV := hid rP
          obtain ⟨poP, pcP, qoP, qcP, rfl, p1P, p2P, p3P, p4P, -, -⟩ := RW.open rP.rw'
          clear rP
          have rP := HV.out
          clear HV
          have ltW10 := BlkV.lt kW
          have ltX10 := BlkV.lt kX
          have ltY10 := BlkV.lt kY
          have hfB : Fwd w10 (w10.alloc (.cells #[.bool (negQ u), .slice poP (nl u.num.natAbs) pcP, .slice qoP (nl u.den) qcP] 24)) := (Fwd.refl _).alloc _
          replace hr' := hr'.fwd hfB
          replace rX := rX.fwd hfB
          replace rY := rY.fwd hfB
          replace rP := rP.fwd hfB
          replace kW := kW.fwd hfB
          replace kX := kX.fwd hfB
          replace kY := kY.fwd hfB
          replace hF := hF.trans hfB
          clear hfB
          clear wc0 wc1 wc2
          have wc0 := BlkV.cell kW 0 rfl
          have wc1 := BlkV.cell kW 1 rfl
          have wc2 := BlkV.cell kW 2 rfl
          clear xc0 xc1 xc2
          have xc0 := BlkV.cell kX 0 rfl
          have xc1 := BlkV.cell kX 1 rfl
          have xc2 := BlkV.cell kX 2 rfl
          clear yc0 yc1 yc2
          have yc0 := BlkV.cell kY 0 rfl
          have yc1 := BlkV.cell kY 1 rfl
          have yc2 := BlkV.cell kY 2 rfl
          have kP := BlkV.made w10 24 [.bool (negQ u), .slice poP (nl u.num.natAbs) pcP, .slice qoP (nl u.den) qcP]
          go_upto_region 8 with fail
          generalize (w10.alloc (.cells #[.bool (negQ u), .slice poP (nl u.num.natAbs) pcP, .slice qoP (nl u.den) qcP] 24)) = w11 at kP hr' rX rY rP kW kX kY hF ⊢
          clear wc0 wc1 wc2 xc0 xc1 xc2 yc0 yc1 yc2
          have wc0 := BlkV.cell kW 0 rfl
          have wc1 := BlkV.cell kW 1 rfl
          have wc2 := BlkV.cell kW 2 rfl
          have xc0 := BlkV.cell kX 0 rfl
          have xc1 := BlkV.cell kX 1 rfl
          have xc2 := BlkV.cell kX 2 rfl
          have yc0 := BlkV.cell kY 0 rfl
          have yc1 := BlkV.cell kY 1 rfl
          have yc2 := BlkV.cell kY 2 rfl
          have pc0 := BlkV.cell kP 0 rfl
          have pc1 := BlkV.cell kP 1 rfl
          have pc2 := BlkV.cell kP 2 rfl
          go_wp2_with fail
          refine (of2_any _ n d n1 n2 d1 d2 HD0.out).mono ?_
          rintro e w12 ⟨v, rfl, rQ, hf12⟩
          replace hr' := hr'.fwd hf12
          replace rX := rX.fwd hf12
          replace rY := rY.fwd hf12
          replace rP := rP.fwd hf12
          replace kW := kW.fwd hf12
          replace kX := kX.fwd hf12
          replace kY := kY.fwd hf12
          replace kP := kP.fwd hf12
          replace hF := hF.trans hf12
          clear hf12
          clear wc0 wc1 wc2
          have wc0 := BlkV.cell kW 0 rfl
          have wc1 := BlkV.cell kW 1 rfl
          have wc2 := BlkV.cell kW 2 rfl
          clear xc0 xc1 xc2
          have xc0 := BlkV.cell kX 0 rfl
          have xc1 := BlkV.cell kX 1 rfl
          have xc2 := BlkV.cell kX 2 rfl
          clear yc0 yc1 yc2
          have yc0 := BlkV.cell kY 0 rfl
          have yc1 := BlkV.cell kY 1 rfl
          have yc2 := BlkV.cell kY 2 rfl
          clear pc0 pc1 pc2
          have pc0 := BlkV.cell kP 0 rfl
          have pc1 := BlkV.cell kP 1 rfl
          have pc2 := BlkV.cell kP 2 rfl
          rw [← HU.out] at rQ
          have HV := hid rQ
          obtain ⟨poQ, pcQ, qoQ, qcQ, rfl, p1Q, p2Q, p3Q, p4Q, -, -⟩ := RW.open rQ.rw'
          clear rQ
          have rQ := HV.out
          clear HV
          have ltW12 := BlkV.lt kW
          have ltX12 := BlkV.lt kX
          have ltY12 := BlkV.lt kY
          have ltP12 := BlkV.lt kP
          have hfB : Fwd w12 (w12.alloc (.cells #[.bool (negQ u), .slice poQ (nl u.num.natAbs) pcQ, .slice qoQ (nl u.den) qcQ] 24)) := (Fwd.refl _).alloc _
          replace hr' := hr'.fwd hfB
          replace rX := rX.fwd hfB
          replace rY := rY.fwd hfB
          replace rP := rP.fwd hfB
          replace rQ := rQ.fwd hfB
          replace kW := kW.fwd hfB
          replace kX := kX.fwd hfB
          replace kY := kY.fwd hfB
          replace kP := kP.fwd hfB
          replace hF := hF.trans hfB
          clear hfB
          clear wc0 wc1 wc2
          have wc0 := BlkV.cell kW 0 rfl
          have wc1 := BlkV.cell kW 1 rfl
          have wc2 := BlkV.cell kW 2 rfl
          clear xc0 xc1 xc2
          have xc0 := BlkV.cell kX 0 rfl
          have xc1 := BlkV.cell kX 1 rfl
          have xc2 := BlkV.cell kX 2 rfl
          clear yc0 yc1 yc2
          have yc0 := BlkV.cell kY 0 rfl
          have yc1 := BlkV.cell kY 1 rfl
          have yc2 := BlkV.cell kY 2 rfl
          clear pc0 pc1 pc2
          have pc0 := BlkV.cell kP 0 rfl
          have pc1 := BlkV.cell kP 1 rfl
          have pc2 := BlkV.cell kP 2 rfl
          have kQ := BlkV.made w12 24 [.bool (negQ u), .slice poQ (nl u.num.natAbs) pcQ, .slice qoQ (nl u.den) qcQ]
          go_upto_region 9 with fail
          generalize (w12.alloc (.cells #[.bool (negQ u), .slice poQ (nl u.num.natAbs) pcQ, .slice qoQ (nl u.den) qcQ] 24)) = w13 at kQ hr' rX rY rP rQ kW kX kY kP hF ⊢
          clear wc0 wc1 wc2 xc0 xc1 xc2 yc0 yc1 yc2 pc0 pc1 pc2
          have wc0 := BlkV.cell kW 0 rfl
          have wc1 := BlkV.cell kW 1 rfl
          have wc2 := BlkV.cell kW 2 rfl
          have xc0 := BlkV.cell kX 0 rfl
          have xc1 := BlkV.cell kX 1 rfl
          have xc2 := BlkV.cell kX 2 rfl
          have yc0 := BlkV.cell kY 0 rfl
          have yc1 := BlkV.cell kY 1 rfl
          have yc2 := BlkV.cell kY 2 rfl
          have pc0 := BlkV.cell kP 0 rfl
          have pc1 := BlkV.cell kP 1 rfl
          have pc2 := BlkV.cell kP 2 rfl
          have qc0 := BlkV.cell kQ 0 rfl
          have qc1 := BlkV.cell kQ 1 rfl
          have qc2 := BlkV.cell kQ 2 rfl
          have hbl1 : xr.length ≤ 20 := by omega
          have hbl2 : yr.length ≤ 20 := by omega
          obtain ⟨rr, hrr⟩ : ∃ r, r = rightR sr xr yr := ⟨_, rfl⟩
          have HRR := hid hrr
          clear hrr
          replace hr' := hr'.drew
          replace rX := rX.drew
          replace rY := rY.drew
          replace rP := rP.drew
          replace rQ := rQ.drew
          replace kW := kW.drew
          replace kX := kX.drew
          replace kY := kY.drew
          replace kP := kP.drew
          replace kQ := kQ.drew
          replace hF := hF.drew
          clear wc0 wc1 wc2
          have wc0 := BlkV.cell kW 0 rfl
          have wc1 := BlkV.cell kW 1 rfl
          have wc2 := BlkV.cell kW 2 rfl
          clear xc0 xc1 xc2
          have xc0 := BlkV.cell kX 0 rfl
          have xc1 := BlkV.cell kX 1 rfl
          have xc2 := BlkV.cell kX 2 rfl
          clear yc0 yc1 yc2
          have yc0 := BlkV.cell kY 0 rfl
          have yc1 := BlkV.cell kY 1 rfl
          have yc2 := BlkV.cell kY 2 rfl
          clear pc0 pc1 pc2
          have pc0 := BlkV.cell kP 0 rfl
          have pc1 := BlkV.cell kP 1 rfl
          have pc2 := BlkV.cell kP 2 rfl
          clear qc0 qc1 qc2
          have qc0 := BlkV.cell kQ 0 rfl
          have qc1 := BlkV.cell kQ 1 rfl
          have qc2 := BlkV.cell kQ 2 rfl
          refine wp_region_held_drew (S := fun w' => w'.cell? ⟨w.heap.size, 0, none⟩ = some (.bool sr) ∧ w'.cell? ⟨w.heap.size, 1, none⟩ = some (.slice ao xr.length ac) ∧ w'.cell? ⟨w.heap.size, 2, none⟩ = some (.slice ap yr.length ae) ∧ w'.cell? ⟨w4.heap.size, 0, none⟩ = some (.bool (negQ q)) ∧ w'.cell? ⟨w4.heap.size, 1, none⟩ = some (.slice poX (nl q.num.natAbs) pcX) ∧ w'.cell? ⟨w4.heap.size, 2, none⟩ = some (.slice qoX (nl q.den) qcX) ∧ w'.cell? ⟨w8.heap.size, 0, none⟩ = some (.bool (negQ q)) ∧ w'.cell? ⟨w8.heap.size, 1, none⟩ = some (.slice poY (nl q.num.natAbs) pcY) ∧ w'.cell? ⟨w8.heap.size, 2, none⟩ = some (.slice qoY (nl q.den) qcY) ∧ w'.cell? ⟨w10.heap.size, 0, none⟩ = some (.bool (negQ u)) ∧ w'.cell? ⟨w10.heap.size, 1, none⟩ = some (.slice poP (nl u.num.natAbs) pcP) ∧ w'.cell? ⟨w10.heap.size, 2, none⟩ = some (.slice qoP (nl u.den) qcP) ∧ w'.cell? ⟨w12.heap.size, 0, none⟩ = some (.bool (negQ u)) ∧ w'.cell? ⟨w12.heap.size, 1, none⟩ = some (.slice poQ (nl u.num.natAbs) pcQ) ∧ w'.cell? ⟨w12.heap.size, 2, none⟩ = some (.slice qoQ (nl u.den) qcQ)) (by kernel_rfl) ⟨by with_reducible assumption, by with_reducible assumption, by with_reducible assumption, by with_reducible assumption, by with_reducible assumption, by with_reducible assumption, by with_reducible assumption, by with_reducible assumption, by with_reducible assumption, by with_reducible assumption, by with_reducible assumption, by with_reducible assumption, by with_reducible assumption, by with_reducible assumption, by with_reducible assumption⟩ (fun hHeld => ?_)
          refine wpAnyH_take (i := 0) (oi := ?oi90_0) (v := ?vv90_0) ?hi90_0 (by kernel_rfl) (by kernel_rfl) (by kernel_rfl) ?hq90_0 ?hy90_0 hHeld ?rest90_0
          case hi90_0 => (simp only [List.getElem?_toArray, List.getElem?_cons_succ, List.getElem?_cons_zero]; rfl)
          case hq90_0 => exact fun _ _ _ h => h
          case hy90_0 =>
            refine Or.inl ⟨by rfl, ?_⟩
            intro wS hSw
            try dsimp only at hSw
            obtain ⟨q0, q1, q2, q3, q4, q5, q6, q7, q8, q9, q10, q11, q12, q13, q14⟩ := hSw
            go_simp
            try with_reducible rfl
          simp only [Act.put, List.setIfInBounds_toArray, List.set_cons_zero, List.set_cons_succ]
          refine wpAnyH_take (i := 1) (oi := ?oi91_1) (v := ?vv91_1) ?hi91_1 (by kernel_rfl) (by kernel_rfl) (by kernel_rfl) ?hq91_1 ?hy91_1 hHeld ?rest91_1
          case hi91_1 => (simp only [List.getElem?_toArray, List.getElem?_cons_succ, List.getElem?_cons_zero]; rfl)
          case hq91_1 => exact fun _ _ _ h => h
          case hy91_1 =>
            refine Or.inl ⟨by rfl, ?_⟩
            intro wS hSw
            try dsimp only at hSw
            obtain ⟨q0, q1, q2, q3, q4, q5, q6, q7, q8, q9, q10, q11, q12, q13, q14⟩ := hSw
            go_simp
            try with_reducible rfl
          simp only [Act.put, List.setIfInBounds_toArray, List.set_cons_zero, List.set_cons_succ]
          refine wpAnyH_take (i := 2) (oi := ?oi92_2) (v := ?vv92_2) ?hi92_2 (by kernel_rfl) (by kernel_rfl) (by kernel_rfl) ?hq92_2 ?hy92_2 hHeld ?rest92_2
          case hi92_2 => (simp only [List.getElem?_toArray, List.getElem?_cons_succ, List.getElem?_cons_zero]; rfl)
          case hq92_2 => exact fun _ _ _ h => h
          case hy92_2 =>
            refine Or.inl ⟨by rfl, ?_⟩
            intro wS hSw
            try dsimp only at hSw
            obtain ⟨q0, q1, q2, q3, q4, q5, q6, q7, q8, q9, q10, q11, q12, q13, q14⟩ := hSw
            go_simp
            try with_reducible rfl
          simp only [Act.put, List.setIfInBounds_toArray, List.set_cons_zero, List.set_cons_succ]
          refine wpAnyH_take (i := 3) (oi := ?oi93_3) (v := ?vv93_3) ?hi93_3 (by kernel_rfl) (by kernel_rfl) (by kernel_rfl) ?hq93_3 ?hy93_3 hHeld ?rest93_3
          case hi93_3 => (simp only [List.getElem?_toArray, List.getElem?_cons_succ, List.getElem?_cons_zero]; rfl)
          case hq93_3 => exact fun _ _ _ h => h
          case hy93_3 =>
            refine Or.inl ⟨by rfl, ?_⟩
            intro wS hSw
            try dsimp only at hSw
            obtain ⟨q0, q1, q2, q3, q4, q5, q6, q7, q8, q9, q10, q11, q12, q13, q14⟩ := hSw
            go_simp
            try with_reducible rfl
          simp only [Act.put, List.setIfInBounds_toArray, List.set_cons_zero, List.set_cons_succ]
          refine wpAnyH_take (i := 4) (oi := ?oi94_4) (v := ?vv94_4) ?hi94_4 (by kernel_rfl) (by kernel_rfl) (by kernel_rfl) ?hq94_4 ?hy94_4 hHeld ?rest94_4
          case hi94_4 => (simp only [List.getElem?_toArray, List.getElem?_cons_succ, List.getElem?_cons_zero]; rfl)
          case hq94_4 => exact fun _ _ _ h => h
          case hy94_4 =>
            refine Or.inl ⟨by rfl, ?_⟩
            intro wS hSw
            try dsimp only at hSw
            obtain ⟨q0, q1, q2, q3, q4, q5, q6, q7, q8, q9, q10, q11, q12, q13, q14⟩ := hSw
            go_simp
            try with_reducible rfl
          simp only [Act.put, List.setIfInBounds_toArray, List.set_cons_zero, List.set_cons_succ]
          refine wpAnyH_take (i := 5) (oi := ?oi95_5) (v := ?vv95_5) ?hi95_5 (by kernel_rfl) (by kernel_rfl) (by kernel_rfl) ?hq95_5 ?hy95_5 hHeld ?rest95_5
          case hi95_5 => (simp only [List.getElem?_toArray, List.getElem?_cons_succ, List.getElem?_cons_zero]; rfl)
          case hq95_5 => exact fun _ _ _ h => h
          case hy95_5 =>
            refine Or.inl ⟨by rfl, ?_⟩
            intro wS hSw
            try dsimp only at hSw
            obtain ⟨q0, q1, q2, q3, q4, q5, q6, q7, q8, q9, q10, q11, q12, q13, q14⟩ := hSw
            go_simp
            try with_reducible rfl
          simp only [Act.put, List.setIfInBounds_toArray, List.set_cons_zero, List.set_cons_succ]
          refine wpAnyH_ready (rs := [6]) (by kernel_rfl) (by simp) ?_
          refine AllReadyH.cons rfl (fun K hK => ?_) AllReadyH.nil
          go_simp
          refine (same2_true rX rY (by omega) (by omega) rfl).mono ?_
          rintro e w14 ⟨rfl, hf14⟩
          replace hr' := hr'.fwd hf14
          replace rX := rX.fwd hf14
          replace rY := rY.fwd hf14
          replace rP := rP.fwd hf14
          replace rQ := rQ.fwd hf14
          replace kW := kW.fwd hf14
          replace kX := kX.fwd hf14
          replace kY := kY.fwd hf14
          replace kP := kP.fwd hf14
          replace kQ := kQ.fwd hf14
          replace hF := hF.trans hf14
          clear hf14
          clear wc0 wc1 wc2
          have wc0 := BlkV.cell kW 0 rfl
          have wc1 := BlkV.cell kW 1 rfl
          have wc2 := BlkV.cell kW 2 rfl
          clear xc0 xc1 xc2
          have xc0 := BlkV.cell kX 0 rfl
          have xc1 := BlkV.cell kX 1 rfl
          have xc2 := BlkV.cell kX 2 rfl
          clear yc0 yc1 yc2
          have yc0 := BlkV.cell kY 0 rfl
          have yc1 := BlkV.cell kY 1 rfl
          have yc2 := BlkV.cell kY 2 rfl
          clear pc0 pc1 pc2
          have pc0 := BlkV.cell kP 0 rfl
          have pc1 := BlkV.cell kP 1 rfl
          have pc2 := BlkV.cell kP 2 rfl
          clear qc0 qc1 qc2
          have qc0 := BlkV.cell kQ 0 rfl
          have qc1 := BlkV.cell kQ 1 rfl
          have qc2 := BlkV.cell kQ 2 rfl
          go_wp2_with fail
          clear hHeld
          refine hK.out _ _ ⟨by with_reducible assumption, by with_reducible assumption, by with_reducible assumption, by with_reducible assumption, by with_reducible assumption, by with_reducible assumption, by with_reducible assumption, by with_reducible assumption, by with_reducible assumption, by with_reducible assumption, by with_reducible assumption, by with_reducible assumption, by with_reducible assumption, by with_reducible assumption, by with_reducible assumption⟩ (fun hHeld => ?_)
          clear hK K
          try simp only [Act.put, List.setIfInBounds_toArray, List.set_cons_zero, List.set_cons_succ]
          refine wpAnyH_take (i := 7) (oi := ?oi96_7) (v := ?vv96_7) ?hi96_7 (by kernel_rfl) (by kernel_rfl) (by kernel_rfl) ?hq96_7 ?hy96_7 hHeld ?rest96_7
          case hi96_7 => (simp only [List.getElem?_toArray, List.getElem?_cons_succ, List.getElem?_cons_zero]; rfl)
          case hq96_7 => exact fun _ _ _ h => h
          case hy96_7 =>
            refine Or.inl ⟨by rfl, ?_⟩
            intro wS hSw
            try dsimp only at hSw
            obtain ⟨q0, q1, q2, q3, q4, q5, q6, q7, q8, q9, q10, q11, q12, q13, q14⟩ := hSw
            go_simp
            try with_reducible rfl
          simp only [Act.put, List.setIfInBounds_toArray, List.set_cons_zero, List.set_cons_succ]
          refine wpAnyH_take (i := 8) (oi := ?oi97_8) (v := ?vv97_8) ?hi97_8 (by kernel_rfl) (by kernel_rfl) (by kernel_rfl) ?hq97_8 ?hy97_8 hHeld ?rest97_8
          case hi97_8 => (simp only [List.getElem?_toArray, List.getElem?_cons_succ, List.getElem?_cons_zero]; rfl)
          case hq97_8 => exact fun _ _ _ h => h
          case hy97_8 =>
            refine Or.inl ⟨by rfl, ?_⟩
            intro wS hSw
            try dsimp only at hSw
            obtain ⟨q0, q1, q2, q3, q4, q5, q6, q7, q8, q9, q10, q11, q12, q13, q14⟩ := hSw
            go_simp
            try with_reducible rfl
          simp only [Act.put, List.setIfInBounds_toArray, List.set_cons_zero, List.set_cons_succ]
          refine wpAnyH_take (i := 9) (oi := ?oi98_9) (v := ?vv98_9) ?hi98_9 (by kernel_rfl) (by kernel_rfl) (by kernel_rfl) ?hq98_9 ?hy98_9 hHeld ?rest98_9
          case hi98_9 => (simp only [List.getElem?_toArray, List.getElem?_cons_succ, List.getElem?_cons_zero]; rfl)
          case hq98_9 => exact fun _ _ _ h => h
          case hy98_9 =>
            refine Or.inl ⟨by rfl, ?_⟩
            intro wS hSw
            try dsimp only at hSw
            obtain ⟨q0, q1, q2, q3, q4, q5, q6, q7, q8, q9, q10, q11, q12, q13, q14⟩ := hSw
            go_simp
            try with_reducible rfl
          simp only [Act.put, List.setIfInBounds_toArray, List.set_cons_zero, List.set_cons_succ]
          refine wpAnyH_take (i := 10) (oi := ?oi99_10) (v := ?vv99_10) ?hi99_10 (by kernel_rfl) (by kernel_rfl) (by kernel_rfl) ?hq99_10 ?hy99_10 hHeld ?rest99_10
          case hi99_10 => (simp only [List.getElem?_toArray, List.getElem?_cons_succ, List.getElem?_cons_zero]; rfl)
          case hq99_10 => exact fun _ _ _ h => h
          case hy99_10 =>
            refine Or.inl ⟨by rfl, ?_⟩
            intro wS hSw
            try dsimp only at hSw
            obtain ⟨q0, q1, q2, q3, q4, q5, q6, q7, q8, q9, q10, q11, q12, q13, q14⟩ := hSw
            go_simp
            try with_reducible rfl
          simp only [Act.put, List.setIfInBounds_toArray, List.set_cons_zero, List.set_cons_succ]
          refine wpAnyH_take (i := 11) (oi := ?oi100_11) (v := ?vv100_11) ?hi100_11 (by kernel_rfl) (by kernel_rfl) (by kernel_rfl) ?hq100_11 ?hy100_11 hHeld ?rest100_11
          case hi100_11 => (simp only [List.getElem?_toArray, List.getElem?_cons_succ, List.getElem?_cons_zero]; rfl)
          case hq100_11 => exact fun _ _ _ h => h
          case hy100_11 =>
            refine Or.inl ⟨by rfl, ?_⟩
            intro wS hSw
            try dsimp only at hSw
            obtain ⟨q0, q1, q2, q3, q4, q5, q6, q7, q8, q9, q10, q11, q12, q13, q14⟩ := hSw
            go_simp
            try with_reducible rfl
          simp only [Act.put, List.setIfInBounds_toArray, List.set_cons_zero, List.set_cons_succ]
          refine wpAnyH_take (i := 12) (oi := ?oi101_12) (v := ?vv101_12) ?hi101_12 (by kernel_rfl) (by kernel_rfl) (by kernel_rfl) ?hq101_12 ?hy101_12 hHeld ?rest101_12
          case hi101_12 => (simp only [List.getElem?_toArray, List.getElem?_cons_succ, List.getElem?_cons_zero]; rfl)
          case hq101_12 => exact fun _ _ _ h => h
          case hy101_12 =>
            refine Or.inl ⟨by rfl, ?_⟩
            intro wS hSw
            try dsimp only at hSw
            obtain ⟨q0, q1, q2, q3, q4, q5, q6, q7, q8, q9, q10, q11, q12, q13, q14⟩ := hSw
            go_simp
            try with_reducible rfl
          simp only [Act.put, List.setIfInBounds_toArray, List.set_cons_zero, List.set_cons_succ]
          refine wpAnyH_take (i := 13) (oi := ?oi102_13) (v := ?vv102_13) ?hi102_13 (by kernel_rfl) (by kernel_rfl) (by kernel_rfl) ?hq102_13 ?hy102_13 hHeld ?rest102_13
          case hi102_13 => (simp only [List.getElem?_toArray, List.getElem?_cons_succ, List.getElem?_cons_zero]; rfl)
          case hq102_13 => exact fun _ _ _ h => h
          case hy102_13 =>
            refine Or.inl ⟨by rfl, ?_⟩
            intro wS hSw
            try dsimp only at hSw
            obtain ⟨q0, q1, q2, q3, q4, q5, q6, q7, q8, q9, q10, q11, q12, q13, q14⟩ := hSw
            go_simp
            try with_reducible rfl
          simp only [Act.put, List.setIfInBounds_toArray, List.set_cons_zero, List.set_cons_succ]
          refine wpAnyH_take (i := 14) (oi := ?oi103_14) (v := ?vv103_14) ?hi103_14 (by kernel_rfl) (by kernel_rfl) (by kernel_rfl) ?hq103_14 ?hy103_14 hHeld ?rest103_14
          case hi103_14 => (simp only [List.getElem?_toArray, List.getElem?_cons_succ, List.getElem?_cons_zero]; rfl)
          case hq103_14 => exact fun _ _ _ h => h
          case hy103_14 =>
            refine Or.inl ⟨by rfl, ?_⟩
            intro wS hSw
            try dsimp only at hSw
            obtain ⟨q0, q1, q2, q3, q4, q5, q6, q7, q8, q9, q10, q11, q12, q13, q14⟩ := hSw
            go_simp
            try with_reducible rfl
          simp only [Act.put, List.setIfInBounds_toArray, List.set_cons_zero, List.set_cons_succ]
          refine wpAnyH_take (i := 15) (oi := ?oi104_15) (v := ?vv104_15) ?hi104_15 (by kernel_rfl) (by kernel_rfl) (by kernel_rfl) ?hq104_15 ?hy104_15 hHeld ?rest104_15
          case hi104_15 => (simp only [List.getElem?_toArray, List.getElem?_cons_succ, List.getElem?_cons_zero]; rfl)
          case hq104_15 => exact fun _ _ _ h => h
          case hy104_15 =>
            refine Or.inl ⟨by rfl, ?_⟩
            intro wS hSw
            try dsimp only at hSw
            obtain ⟨q0, q1, q2, q3, q4, q5, q6, q7, q8, q9, q10, q11, q12, q13, q14⟩ := hSw
            go_simp
            try with_reducible rfl
          simp only [Act.put, List.setIfInBounds_toArray, List.set_cons_zero, List.set_cons_succ]
          refine wpAnyH_ready (rs := [16]) (by kernel_rfl) (by simp) ?_
          refine AllReadyH.cons rfl (fun K hK => ?_) AllReadyH.nil
          go_simp
          refine (same2_true rP rQ (by omega) (by omega) rfl).mono ?_
          rintro e w15 ⟨rfl, hf15⟩
          replace hr' := hr'.fwd hf15
          replace rX := rX.fwd hf15
          replace rY := rY.fwd hf15
          replace rP := rP.fwd hf15
          replace rQ := rQ.fwd hf15
          replace kW := kW.fwd hf15
          replace kX := kX.fwd hf15
          replace kY := kY.fwd hf15
          replace kP := kP.fwd hf15
          replace kQ := kQ.fwd hf15
          replace hF := hF.trans hf15
          clear hf15
          clear wc0 wc1 wc2
          have wc0 := BlkV.cell kW 0 rfl
          have wc1 := BlkV.cell kW 1 rfl
          have wc2 := BlkV.cell kW 2 rfl
          clear xc0 xc1 xc2
          have xc0 := BlkV.cell kX 0 rfl
          have xc1 := BlkV.cell kX 1 rfl
          have xc2 := BlkV.cell kX 2 rfl
          clear yc0 yc1 yc2
          have yc0 := BlkV.cell kY 0 rfl
          have yc1 := BlkV.cell kY 1 rfl
          have yc2 := BlkV.cell kY 2 rfl
          clear pc0 pc1 pc2
          have pc0 := BlkV.cell kP 0 rfl
          have pc1 := BlkV.cell kP 1 rfl
          have pc2 := BlkV.cell kP 2 rfl
          clear qc0 qc1 qc2
          have qc0 := BlkV.cell kQ 0 rfl
          have qc1 := BlkV.cell kQ 1 rfl
          have qc2 := BlkV.cell kQ 2 rfl
          go_wp2_with fail
          clear hHeld
          refine hK.out _ _ ⟨by with_reducible assumption, by with_reducible assumption, by with_reducible assumption, by with_reducible assumption, by with_reducible assumption, by with_reducible assumption, by with_reducible assumption, by with_reducible assumption, by with_reducible assumption, by with_reducible assumption, by with_reducible assumption, by with_reducible assumption, by with_reducible assumption, by with_reducible assumption, by with_reducible assumption⟩ (fun hHeld => ?_)
          clear hK K
          try simp only [Act.put, List.setIfInBounds_toArray, List.set_cons_zero, List.set_cons_succ]
          refine wpAnyH_take (i := 17) (oi := ?oi105_17) (v := ?vv105_17) ?hi105_17 (by kernel_rfl) (by kernel_rfl) (by kernel_rfl) ?hq105_17 ?hy105_17 hHeld ?rest105_17
          case hi105_17 => (simp only [List.getElem?_toArray, List.getElem?_cons_succ, List.getElem?_cons_zero]; rfl)
          case hq105_17 => exact fun _ _ _ h => h
          case hy105_17 =>
            refine Or.inl ⟨by rfl, ?_⟩
            intro wS hSw
            try dsimp only at hSw
            obtain ⟨q0, q1, q2, q3, q4, q5, q6, q7, q8, q9, q10, q11, q12, q13, q14⟩ := hSw
            go_simp
            try with_reducible rfl
          simp only [Act.put, List.setIfInBounds_toArray, List.set_cons_zero, List.set_cons_succ]
          refine wpAnyH_take (i := 18) (oi := ?oi106_18) (v := ?vv106_18) ?hi106_18 (by kernel_rfl) (by kernel_rfl) (by kernel_rfl) ?hq106_18 ?hy106_18 hHeld ?rest106_18
          case hi106_18 => (simp only [List.getElem?_toArray, List.getElem?_cons_succ, List.getElem?_cons_zero]; rfl)
          case hq106_18 => exact fun _ _ _ h => h
          case hy106_18 =>
            refine Or.inl ⟨by rfl, ?_⟩
            intro wS hSw
            try dsimp only at hSw
            obtain ⟨q0, q1, q2, q3, q4, q5, q6, q7, q8, q9, q10, q11, q12, q13, q14⟩ := hSw
            go_simp
            try with_reducible rfl
          simp only [Act.put, List.setIfInBounds_toArray, List.set_cons_zero, List.set_cons_succ]
          refine wpAnyH_take (i := 19) (oi := ?oi107_19) (v := ?vv107_19) ?hi107_19 (by kernel_rfl) (by kernel_rfl) (by kernel_rfl) ?hq107_19 ?hy107_19 hHeld ?rest107_19
          case hi107_19 => (simp only [List.getElem?_toArray, List.getElem?_cons_succ, List.getElem?_cons_zero]; rfl)
          case hq107_19 => exact fun _ _ _ h => h
          case hy107_19 =>
            refine Or.inl ⟨by rfl, ?_⟩
            intro wS hSw
            try dsimp only at hSw
            obtain ⟨q0, q1, q2, q3, q4, q5, q6, q7, q8, q9, q10, q11, q12, q13, q14⟩ := hSw
            go_simp
            try with_reducible rfl
          simp only [Act.put, List.setIfInBounds_toArray, List.set_cons_zero, List.set_cons_succ]
          refine wpAnyH_take (i := 21) (oi := ?oi108_21) (v := ?vv108_21) ?hi108_21 (by kernel_rfl) (by kernel_rfl) (by kernel_rfl) ?hq108_21 ?hy108_21 hHeld ?rest108_21
          case hi108_21 => (simp only [List.getElem?_toArray, List.getElem?_cons_succ, List.getElem?_cons_zero]; rfl)
          case hq108_21 => exact fun _ _ _ h => h
          case hy108_21 =>
            refine Or.inl ⟨by rfl, ?_⟩
            intro wS hSw
            try dsimp only at hSw
            obtain ⟨q0, q1, q2, q3, q4, q5, q6, q7, q8, q9, q10, q11, q12, q13, q14⟩ := hSw
            go_simp
            try with_reducible rfl
          simp only [Act.put, List.setIfInBounds_toArray, List.set_cons_zero, List.set_cons_succ]
          refine wpAnyH_ready (rs := [20]) (by kernel_rfl) (by simp) ?_
          refine AllReadyH.cons rfl (fun K hK => ?_) AllReadyH.nil
          go_simp
          refine (rright_any hr' (by omega) (by omega)).mono ?_
          rintro e w16 ⟨rfl, hf16⟩
          replace hr' := hr'.fwd hf16
          replace rX := rX.fwd hf16
          replace rY := rY.fwd hf16
          replace rP := rP.fwd hf16
          replace rQ := rQ.fwd hf16
          replace kW := kW.fwd hf16
          replace kX := kX.fwd hf16
          replace kY := kY.fwd hf16
          replace kP := kP.fwd hf16
          replace kQ := kQ.fwd hf16
          replace hF := hF.trans hf16
          clear hf16
          clear wc0 wc1 wc2
          have wc0 := BlkV.cell kW 0 rfl
          have wc1 := BlkV.cell kW 1 rfl
          have wc2 := BlkV.cell kW 2 rfl
          clear xc0 xc1 xc2
          have xc0 := BlkV.cell kX 0 rfl
          have xc1 := BlkV.cell kX 1 rfl
          have xc2 := BlkV.cell kX 2 rfl
          clear yc0 yc1 yc2
          have yc0 := BlkV.cell kY 0 rfl
          have yc1 := BlkV.cell kY 1 rfl
          have yc2 := BlkV.cell kY 2 rfl
          clear pc0 pc1 pc2
          have pc0 := BlkV.cell kP 0 rfl
          have pc1 := BlkV.cell kP 1 rfl
          have pc2 := BlkV.cell kP 2 rfl
          clear qc0 qc1 qc2
          have qc0 := BlkV.cell kQ 0 rfl
          have qc1 := BlkV.cell kQ 1 rfl
          have qc2 := BlkV.cell kQ 2 rfl
          rw [← HRR.out]
          go_wp2_with fail
          clear hHeld
          refine hK.out _ _ ⟨by with_reducible assumption, by with_reducible assumption, by with_reducible assumption, by with_reducible assumption, by with_reducible assumption, by with_reducible assumption, by with_reducible assumption, by with_reducible assumption, by with_reducible assumption, by with_reducible assumption, by with_reducible assumption, by with_reducible assumption, by with_reducible assumption, by with_reducible assumption, by with_reducible assumption⟩ (fun hHeld => ?_)
          clear hK K
          try simp only [Act.put, List.setIfInBounds_toArray, List.set_cons_zero, List.set_cons_succ]
          refine wpAnyH_ready (rs := [22]) (by kernel_rfl) (by simp) ?_
          refine AllReadyH.cons rfl (fun K hK => ?_) AllReadyH.nil
          go_simp
          refine (right2_any hr' (by omega) (by omega)).mono ?_
          rintro e w17 ⟨rfl, hf17⟩
          replace hr' := hr'.fwd hf17
          replace rX := rX.fwd hf17
          replace rY := rY.fwd hf17
          replace rP := rP.fwd hf17
          replace rQ := rQ.fwd hf17
          replace kW := kW.fwd hf17
          replace kX := kX.fwd hf17
          replace kY := kY.fwd hf17
          replace kP := kP.fwd hf17
          replace kQ := kQ.fwd hf17
          replace hF := hF.trans hf17
          clear hf17
          clear wc0 wc1 wc2
          have wc0 := BlkV.cell kW 0 rfl
          have wc1 := BlkV.cell kW 1 rfl
          have wc2 := BlkV.cell kW 2 rfl
          clear xc0 xc1 xc2
          have xc0 := BlkV.cell kX 0 rfl
          have xc1 := BlkV.cell kX 1 rfl
          have xc2 := BlkV.cell kX 2 rfl
          clear yc0 yc1 yc2
          have yc0 := BlkV.cell kY 0 rfl
          have yc1 := BlkV.cell kY 1 rfl
          have yc2 := BlkV.cell kY 2 rfl
          clear pc0 pc1 pc2
          have pc0 := BlkV.cell kP 0 rfl
          have pc1 := BlkV.cell kP 1 rfl
          have pc2 := BlkV.cell kP 2 rfl
          clear qc0 qc1 qc2
          have qc0 := BlkV.cell kQ 0 rfl
          have qc1 := BlkV.cell kQ 1 rfl
          have qc2 := BlkV.cell kQ 2 rfl
          rw [← HRR.out]
          go_wp2_with fail
          clear hHeld
          refine hK.out _ _ ⟨by with_reducible assumption, by with_reducible assumption, by with_reducible assumption, by with_reducible assumption, by with_reducible assumption, by with_reducible assumption, by with_reducible assumption, by with_reducible assumption, by with_reducible assumption, by with_reducible assumption, by with_reducible assumption, by with_reducible assumption, by with_reducible assumption, by with_reducible assumption, by with_reducible assumption⟩ (fun hHeld => ?_)
          clear hK K
          try simp only [Act.put, List.setIfInBounds_toArray, List.set_cons_zero, List.set_cons_succ]
          refine wpAnyH_take (i := 23) (oi := ?oi109_23) (v := ?vv109_23) ?hi109_23 (by kernel_rfl) (by kernel_rfl) (by kernel_rfl) ?hq109_23 ?hy109_23 hHeld ?rest109_23
          case hi109_23 => (simp only [List.getElem?_toArray, List.getElem?_cons_succ, List.getElem?_cons_zero]; rfl)
          case hq109_23 => exact fun _ _ _ h => h
          case hy109_23 =>
            refine Or.inl ⟨by rfl, ?_⟩
            intro wS hSw
            try dsimp only at hSw
            obtain ⟨q0, q1, q2, q3, q4, q5, q6, q7, q8, q9, q10, q11, q12, q13, q14⟩ := hSw
            go_simp
            try with_reducible rfl
          simp only [Act.put, List.setIfInBounds_toArray, List.set_cons_zero, List.set_cons_succ]
          refine wpAnyH_take (i := 24) (oi := ?oi110_24) (v := ?vv110_24) ?hi110_24 (by kernel_rfl) (by kernel_rfl) (by kernel_rfl) ?hq110_24 ?hy110_24 hHeld ?rest110_24
          case hi110_24 => (simp only [List.getElem?_toArray, List.getElem?_cons_succ, List.getElem?_cons_zero]; rfl)
          case hq110_24 => exact fun _ _ _ h => h
          case hy110_24 =>
            refine Or.inl ⟨by rfl, ?_⟩
            intro wS hSw
            try dsimp only at hSw
            obtain ⟨q0, q1, q2, q3, q4, q5, q6, q7, q8, q9, q10, q11, q12, q13, q14⟩ := hSw
            go_simp
            try with_reducible rfl
          simp only [Act.put, List.setIfInBounds_toArray, List.set_cons_zero, List.set_cons_succ]
          refine wpAnyH_take (i := 25) (oi := ?oi111_25) (v := ?vv111_25) ?hi111_25 (by kernel_rfl) (by kernel_rfl) (by kernel_rfl) ?hq111_25 ?hy111_25 hHeld ?rest111_25
          case hi111_25 => (simp only [List.getElem?_toArray, List.getElem?_cons_succ, List.getElem?_cons_zero]; rfl)
          case hq111_25 => exact fun _ _ _ h => h
          case hy111_25 =>
            refine Or.inl ⟨by rfl, ?_⟩
            intro wS hSw
            try dsimp only at hSw
            obtain ⟨q0, q1, q2, q3, q4, q5, q6, q7, q8, q9, q10, q11, q12, q13, q14⟩ := hSw
            go_simp
            try with_reducible rfl
          simp only [Act.put, List.setIfInBounds_toArray, List.set_cons_zero, List.set_cons_succ]
          refine wpAnyH_take (i := 26) (oi := ?oi112_26) (v := ?vv112_26) ?hi112_26 (by kernel_rfl) (by kernel_rfl) (by kernel_rfl) ?hq112_26 ?hy112_26 hHeld ?rest112_26
          case hi112_26 => (simp only [List.getElem?_toArray, List.getElem?_cons_succ, List.getElem?_cons_zero]; rfl)
          case hq112_26 => exact fun _ _ _ h => h
          case hy112_26 =>
            refine Or.inl ⟨by rfl, ?_⟩
            intro wS hSw
            try dsimp only at hSw
            obtain ⟨q0, q1, q2, q3, q4, q5, q6, q7, q8, q9, q10, q11, q12, q13, q14⟩ := hSw
            go_simp
            try with_reducible rfl
          simp only [Act.put, List.setIfInBounds_toArray, List.set_cons_zero, List.set_cons_succ]
          refine wpAnyH_take (i := 27) (oi := ?oi113_27) (v := ?vv113_27) ?hi113_27 (by kernel_rfl) (by kernel_rfl) (by kernel_rfl) ?hq113_27 ?hy113_27 hHeld ?rest113_27
          case hi113_27 => (simp only [List.getElem?_toArray, List.getElem?_cons_succ, List.getElem?_cons_zero]; rfl)
          case hq113_27 => exact fun _ _ _ h => h
          case hy113_27 =>
            refine Or.inl ⟨by rfl, ?_⟩
            intro wS hSw
            try dsimp only at hSw
            obtain ⟨q0, q1, q2, q3, q4, q5, q6, q7, q8, q9, q10, q11, q12, q13, q14⟩ := hSw
            go_simp
            try with_reducible rfl
          simp only [Act.put, List.setIfInBounds_toArray, List.set_cons_zero, List.set_cons_succ]
          refine wpAnyH_take (i := 28) (oi := ?oi114_28) (v := ?vv114_28) ?hi114_28 (by kernel_rfl) (by kernel_rfl) (by kernel_rfl) ?hq114_28 ?hy114_28 hHeld ?rest114_28
          case hi114_28 => (simp only [List.getElem?_toArray, List.getElem?_cons_succ, List.getElem?_cons_zero]; rfl)
          case hq114_28 => exact fun _ _ _ h => h
          case hy114_28 =>
            refine Or.inl ⟨by rfl, ?_⟩
            intro wS hSw
            try dsimp only at hSw
            obtain ⟨q0, q1, q2, q3, q4, q5, q6, q7, q8, q9, q10, q11, q12, q13, q14⟩ := hSw
            go_simp
            try with_reducible rfl
          simp only [Act.put, List.setIfInBounds_toArray, List.set_cons_zero, List.set_cons_succ]
          refine wpAnyH_take (i := 29) (oi := ?oi115_29) (v := ?vv115_29) ?hi115_29 (by kernel_rfl) (by kernel_rfl) (by kernel_rfl) ?hq115_29 ?hy115_29 hHeld ?rest115_29
          case hi115_29 => (simp only [List.getElem?_toArray, List.getElem?_cons_succ, List.getElem?_cons_zero]; rfl)
          case hq115_29 => exact fun _ _ _ h => h
          case hy115_29 =>
            refine Or.inl ⟨by rfl, ?_⟩
            intro wS hSw
            try dsimp only at hSw
            obtain ⟨q0, q1, q2, q3, q4, q5, q6, q7, q8, q9, q10, q11, q12, q13, q14⟩ := hSw
            go_simp
            try with_reducible rfl
          simp only [Act.put, List.setIfInBounds_toArray, List.set_cons_zero, List.set_cons_succ]
          refine wpAnyH_ready (rs := [30]) (by kernel_rfl) (by simp) ?_
          refine AllReadyH.cons rfl (fun K hK => ?_) AllReadyH.nil
          go_simp
          refine (rright_true rX (by omega)).mono ?_
          rintro e w18 ⟨rfl, hf18⟩
          replace hr' := hr'.fwd hf18
          replace rX := rX.fwd hf18
          replace rY := rY.fwd hf18
          replace rP := rP.fwd hf18
          replace rQ := rQ.fwd hf18
          replace kW := kW.fwd hf18
          replace kX := kX.fwd hf18
          replace kY := kY.fwd hf18
          replace kP := kP.fwd hf18
          replace kQ := kQ.fwd hf18
          replace hF := hF.trans hf18
          clear hf18
          clear wc0 wc1 wc2
          have wc0 := BlkV.cell kW 0 rfl
          have wc1 := BlkV.cell kW 1 rfl
          have wc2 := BlkV.cell kW 2 rfl
          clear xc0 xc1 xc2
          have xc0 := BlkV.cell kX 0 rfl
          have xc1 := BlkV.cell kX 1 rfl
          have xc2 := BlkV.cell kX 2 rfl
          clear yc0 yc1 yc2
          have yc0 := BlkV.cell kY 0 rfl
          have yc1 := BlkV.cell kY 1 rfl
          have yc2 := BlkV.cell kY 2 rfl
          clear pc0 pc1 pc2
          have pc0 := BlkV.cell kP 0 rfl
          have pc1 := BlkV.cell kP 1 rfl
          have pc2 := BlkV.cell kP 2 rfl
          clear qc0 qc1 qc2
          have qc0 := BlkV.cell kQ 0 rfl
          have qc1 := BlkV.cell kQ 1 rfl
          have qc2 := BlkV.cell kQ 2 rfl
          go_wp2_with fail
          clear hHeld
          refine hK.out _ _ ⟨by with_reducible assumption, by with_reducible assumption, by with_reducible assumption, by with_reducible assumption, by with_reducible assumption, by with_reducible assumption, by with_reducible assumption, by with_reducible assumption, by with_reducible assumption, by with_reducible assumption, by with_reducible assumption, by with_reducible assumption, by with_reducible assumption, by with_reducible assumption, by with_reducible assumption⟩ (fun hHeld => ?_)
          clear hK K
          try simp only [Act.put, List.setIfInBounds_toArray, List.set_cons_zero, List.set_cons_succ]
          refine wpAnyH_take (i := 31) (oi := ?oi116_31) (v := ?vv116_31) ?hi116_31 (by kernel_rfl) (by kernel_rfl) (by kernel_rfl) ?hq116_31 ?hy116_31 hHeld ?rest116_31
          case hi116_31 => (simp only [List.getElem?_toArray, List.getElem?_cons_succ, List.getElem?_cons_zero]; rfl)
          case hq116_31 => exact fun _ _ _ h => h
          case hy116_31 =>
            refine Or.inl ⟨by rfl, ?_⟩
            intro wS hSw
            try dsimp only at hSw
            obtain ⟨q0, q1, q2, q3, q4, q5, q6, q7, q8, q9, q10, q11, q12, q13, q14⟩ := hSw
            go_simp
            try with_reducible rfl
          simp only [Act.put, List.setIfInBounds_toArray, List.set_cons_zero, List.set_cons_succ]
          refine wpAnyH_take (i := 32) (oi := ?oi117_32) (v := ?vv117_32) ?hi117_32 (by kernel_rfl) (by kernel_rfl) (by kernel_rfl) ?hq117_32 ?hy117_32 hHeld ?rest117_32
          case hi117_32 => (simp only [List.getElem?_toArray, List.getElem?_cons_succ, List.getElem?_cons_zero]; rfl)
          case hq117_32 => exact fun _ _ _ h => h
          case hy117_32 =>
            refine Or.inl ⟨by rfl, ?_⟩
            intro wS hSw
            try dsimp only at hSw
            obtain ⟨q0, q1, q2, q3, q4, q5, q6, q7, q8, q9, q10, q11, q12, q13, q14⟩ := hSw
            go_simp
            try with_reducible rfl
          simp only [Act.put, List.setIfInBounds_toArray, List.set_cons_zero, List.set_cons_succ]
          refine wpAnyH_take (i := 33) (oi := ?oi118_33) (v := ?vv118_33) ?hi118_33 (by kernel_rfl) (by kernel_rfl) (by kernel_rfl) ?hq118_33 ?hy118_33 hHeld ?rest118_33
          case hi118_33 => (simp only [List.getElem?_toArray, List.getElem?_cons_succ, List.getElem?_cons_zero]; rfl)
          case hq118_33 => exact fun _ _ _ h => h
          case hy118_33 =>
            refine Or.inl ⟨by rfl, ?_⟩
            intro wS hSw
            try dsimp only at hSw
            obtain ⟨q0, q1, q2, q3, q4, q5, q6, q7, q8, q9, q10, q11, q12, q13, q14⟩ := hSw
            go_simp
            try with_reducible rfl
          simp only [Act.put, List.setIfInBounds_toArray, List.set_cons_zero, List.set_cons_succ]
          refine wpAnyH_done (by kernel_rfl) ?_ _
          go_wp2_with fail
          go_ret
          exact ⟨rfl, hF⟩

end Go.Proofs.YtjkoiocemolcbaaDoor
