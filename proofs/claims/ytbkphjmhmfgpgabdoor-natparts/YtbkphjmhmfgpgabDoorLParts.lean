/- NatParts: a number is the divisor as often as it goes into it, and what is left, which is less; what goes into both goes into what is left: the law's walk. -/
import Derived.Test.YtbkphjmhmfgpgabDoorD9
import Derived.Test.YtbkphjmhmfgpgabDoorG8
namespace Go.Proofs.YtbkphjmhmfgpgabDoor
open Go.RowKit
set_option linter.unusedVariables false

set_option maxHeartbeats 8000000 in
theorem natParts_walk {w : World} {a b : Value} {xa xb : List Nat} (ha : Arg w a xa) (hb : Arg w b xb) :
    Calls Tryd.prog 3 #[a, b] w fun e w' => e = .returned (.bool true) ∧ Below w.heap.size w w' := by
  go_enter Tryd.func3, Tryd.ntmps3
  go_wp2_with fail
  refine (known_any _).mono ?_
  rintro e w1 ⟨rfl, hf1⟩
  replace ha := ha.fwd hf1
  replace hb := hb.fwd hf1
  have hF := hf1
  go_wp2_with fail
  refine (make_any 12 ha (by omega) (by omega)).mono ?_
  rintro e w2 ⟨vX, rfl, hx, hf2⟩
  have bX := nl_take ha.ok 12
  generalize val (List.take 12 _) = X at hx bX
  replace hb := hb.fwd hf2
  replace hF := hF.trans hf2
  clear hf2
  clear ha
  go_wp2_with fail
  refine (make_any 8 hb (by omega) (by omega)).mono ?_
  rintro e w3 ⟨vY, rfl, hy, hf3⟩
  have bY := nl_take hb.ok 8
  generalize val (List.take 8 _) = Y at hy bY
  replace hx := hx.fwd hf3
  replace hF := hF.trans hf3
  clear hf3
  clear hb
  obtain ⟨bo, cb, rfl, hcb, hcmb, hcellb⟩ := hy.parts
  unfold maxLen at hcmb
  clear hcellb
  by_cases h0 : Y = 0
  · subst h0
    have h1 : nl 0 = 0 := nl_zero
    rw [h1] at hy ⊢
    go_wp2_with fail
    refine (div_zero hx hy).mono ?_
    rintro e w4 ⟨rfl, hf4⟩
    replace hx := hx.fwd hf4
    replace hy := hy.fwd hf4
    replace hF := hF.trans hf4
    clear hf4
    go_wp2_with fail
    refine (gcd_any hx hy (by omega) (by rw [nl_zero]; omega)).mono ?_
    rintro e w5 ⟨vg, rfl, hg, hf5⟩
    rw [Nat.gcd_zero_right] at hg
    replace hx := hx.fwd hf5
    replace hy := hy.fwd hf5
    replace hF := hF.trans hf5
    clear hf5
    go_wp2_with fail
    refine (same_true hg hx (by omega) (by omega) (rfl)).mono ?_
    rintro e w6 ⟨rfl, hf6⟩
    replace hx := hx.fwd hf6
    replace hy := hy.fwd hf6
    replace hg := hg.fwd hf6
    replace hF := hF.trans hf6
    clear hf6
    go_wp2
    go_ret
    exact ⟨rfl, hF⟩
  · have hpos : 0 < nl Y := by rw [nl_pos h0]; omega
    have hne : ((nl Y : Int) == 0) = false := by simp; omega
    have H0 := hid h0
    clear h0
    have hqr : X / Y * Y + X % Y = X := by rw [Nat.mul_comm]; exact Nat.div_add_mod _ _
    have hml : X % Y < Y := Nat.mod_lt _ (Nat.pos_of_ne_zero H0.out)
    have bqq := nl_div X Y
    have brr : nl (X % Y) ≤ nl X := nl_mono (Nat.mod_le _ _)
    have hg0 : Nat.gcd X Y ≠ 0 := fun e => H0.out (Nat.eq_zero_of_gcd_eq_zero_right e)
    have hgx : X % Nat.gcd X Y = 0 := Nat.mod_eq_zero_of_dvd (Nat.gcd_dvd_left _ _)
    have hgy : Y % Nat.gcd X Y = 0 := Nat.mod_eq_zero_of_dvd (Nat.gcd_dvd_right _ _)
    have hge : Nat.gcd Y (X % Y) = Nat.gcd X Y := by rw [Nat.gcd_comm Y, ← Nat.gcd_rec, Nat.gcd_comm]
    have bg := nl_gcd X Y
    have HQ := hid (And.intro hqr (And.intro hml (And.intro hg0 (And.intro hgx (And.intro hgy hge)))))
    clear hqr hml hg0 hgx hgy hge
    go_wp2_with fail
    refine (div_any hx hy (by omega) (by omega) H0.out).mono ?_
    rintro e w4 ⟨vq, vr, rfl, hq, hr, hf4⟩
    replace hx := hx.fwd hf4
    replace hy := hy.fwd hf4
    replace hF := hF.trans hf4
    clear hf4
    go_wp2_with fail
    refine (refMul_any hq hy (by omega) (by omega)).mono ?_
    rintro e w5 ⟨vh1, rfl, h1, hf5⟩
    have b1 := nl_mul (X / Y) Y
    replace hx := hx.fwd hf5
    replace hy := hy.fwd hf5
    replace hq := hq.fwd hf5
    replace hr := hr.fwd hf5
    replace hF := hF.trans hf5
    clear hf5
    go_wp2_with fail
    refine (refAdd_any h1 hr (by omega) (by omega)).mono ?_
    rintro e w6 ⟨vh2, rfl, h2, hf6⟩
    rw [HQ.out.1] at h2
    replace hx := hx.fwd hf6
    replace hy := hy.fwd hf6
    replace hq := hq.fwd hf6
    replace hr := hr.fwd hf6
    replace h1 := h1.fwd hf6
    replace hF := hF.trans hf6
    clear hf6
    clear h1 hq
    go_wp2_with fail
    refine (same_true h2 hx (by omega) (by omega) (rfl)).mono ?_
    rintro e w7 ⟨rfl, hf7⟩
    replace hx := hx.fwd hf7
    replace hy := hy.fwd hf7
    replace hr := hr.fwd hf7
    replace h2 := h2.fwd hf7
    replace hF := hF.trans hf7
    clear hf7
    clear h2
    go_wp2_with fail
    refine (refCmp_any hr hy (by omega) (by omega)).mono ?_
    rintro e w8 ⟨rfl, hf8⟩
    rw [cmpI_lt (by have := HQ.out.2.1; omega)]
    replace hx := hx.fwd hf8
    replace hy := hy.fwd hf8
    replace hr := hr.fwd hf8
    replace hF := hF.trans hf8
    clear hf8
    go_wp2_with fail
    refine (gcd_any hx hy (by omega) (by omega)).mono ?_
    rintro e w9 ⟨vg, rfl, hg, hf9⟩
    replace hx := hx.fwd hf9
    replace hy := hy.fwd hf9
    replace hr := hr.fwd hf9
    replace hF := hF.trans hf9
    clear hf9
    go_wp2_with fail
    refine (refDiv_any hx hg (by omega) (by omega) HQ.out.2.2.1).mono ?_
    rintro e w10 ⟨va, vs, rfl, hs1, hs, hf10⟩
    clear hs1
    rw [HQ.out.2.2.2.1] at hs
    replace hx := hx.fwd hf10
    replace hy := hy.fwd hf10
    replace hr := hr.fwd hf10
    replace hg := hg.fwd hf10
    replace hF := hF.trans hf10
    clear hf10
    go_wp2_with fail
    refine (refDiv_any hy hg (by omega) (by omega) HQ.out.2.2.1).mono ?_
    rintro e w11 ⟨vc, vt, rfl, ht1, ht, hf11⟩
    clear ht1
    rw [HQ.out.2.2.2.2.1] at ht
    replace hx := hx.fwd hf11
    replace hy := hy.fwd hf11
    replace hr := hr.fwd hf11
    replace hg := hg.fwd hf11
    replace hs := hs.fwd hf11
    replace hF := hF.trans hf11
    clear hf11
    obtain ⟨so, sc, rfl, hsc, hscm, hscell⟩ := hs.parts
    obtain ⟨to, tc, rfl, htc, htcm, htcell⟩ := ht.parts
    unfold maxLen at hscm htcm
    have hz0 : nl 0 = 0 := nl_zero
    rw [hz0]
    clear hscell htcell hs ht
    go_wp2_with fail
    refine (gcd_any hy hr (by omega) (by omega)).mono ?_
    rintro e w12 ⟨vk, rfl, hk, hf12⟩
    rw [HQ.out.2.2.2.2.2] at hk
    replace hx := hx.fwd hf12
    replace hy := hy.fwd hf12
    replace hr := hr.fwd hf12
    replace hg := hg.fwd hf12
    replace hF := hF.trans hf12
    clear hf12
    go_wp2_with fail
    refine (same_true hk hg (by omega) (by omega) (rfl)).mono ?_
    rintro e w13 ⟨rfl, hf13⟩
    replace hx := hx.fwd hf13
    replace hy := hy.fwd hf13
    replace hr := hr.fwd hf13
    replace hg := hg.fwd hf13
    replace hk := hk.fwd hf13
    replace hF := hF.trans hf13
    clear hf13
    go_wp2
    go_ret
    exact ⟨rfl, hF⟩

end Go.Proofs.YtbkphjmhmfgpgabDoor
