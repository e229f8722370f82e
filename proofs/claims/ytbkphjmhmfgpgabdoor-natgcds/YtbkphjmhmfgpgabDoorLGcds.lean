/- NatGcds: what goes into two numbers: of a common multiple of both by it it is taken along; of the two, divided by it, it is one: the law's walk. -/
import Derived.Test.YtbkphjmhmfgpgabDoorD9
import Derived.Test.YtbkphjmhmfgpgabDoorG8
namespace Go.Proofs.YtbkphjmhmfgpgabDoor
open Go.RowKit
set_option linter.unusedVariables false

set_option maxHeartbeats 16000000 in
theorem natGcds_walk {w : World} {a b c : Value} {xa xb xc : List Nat} (ha : Arg w a xa) (hb : Arg w b xb) (hc : Arg w c xc) :
    Calls Tryd.prog 6 #[a, b, c] w fun e w' => e = .returned (.bool true) ∧ Below w.heap.size w w' := by
  go_enter Tryd.func6, Tryd.ntmps6
  go_wp2_with fail
  refine (known_any _).mono ?_
  rintro e w1 ⟨rfl, hf1⟩
  replace ha := ha.fwd hf1
  replace hb := hb.fwd hf1
  replace hc := hc.fwd hf1
  have hF := hf1
  go_wp2_with fail
  refine (make_any 5 ha (by omega) (by omega)).mono ?_
  rintro e w2 ⟨vX, rfl, hx, hf2⟩
  have bX := nl_take ha.ok 5
  generalize val (List.take 5 _) = X at hx bX
  replace hb := hb.fwd hf2
  replace hc := hc.fwd hf2
  replace hF := hF.trans hf2
  clear hf2
  clear ha
  go_wp2_with fail
  refine (make_any 5 hb (by omega) (by omega)).mono ?_
  rintro e w3 ⟨vY, rfl, hy, hf3⟩
  have bY := nl_take hb.ok 5
  generalize val (List.take 5 _) = Y at hy bY
  replace hc := hc.fwd hf3
  replace hx := hx.fwd hf3
  replace hF := hF.trans hf3
  clear hf3
  clear hb
  go_wp2_with fail
  refine (make_any 3 hc (by omega) (by omega)).mono ?_
  rintro e w4 ⟨vK, rfl, hk, hf4⟩
  have bK := nl_take hc.ok 3
  generalize val (List.take 3 _) = K at hk bK
  replace hx := hx.fwd hf4
  replace hy := hy.fwd hf4
  replace hF := hF.trans hf4
  clear hf4
  clear hc
  go_wp2_with fail
  refine (gcd_any hx hy (by omega) (by omega)).mono ?_
  rintro e w5 ⟨vg, rfl, hg, hf5⟩
  have bg := nl_gcd X Y
  replace hx := hx.fwd hf5
  replace hy := hy.fwd hf5
  replace hk := hk.fwd hf5
  replace hF := hF.trans hf5
  clear hf5
  obtain ⟨xo, xc, rfl, hxc, hxm, hxcell⟩ := hx.parts
  obtain ⟨yo, yc, rfl, hyc, hym, hycell⟩ := hy.parts
  obtain ⟨ko, kc, rfl, hkc, hkm, hkcell⟩ := hk.parts
  obtain ⟨go, gc, rfl, hgc, hgm, hgcell⟩ := hg.parts
  unfold maxLen at hxm hym hkm hgm
  clear hxcell hycell hkcell hgcell
  by_cases hk0 : K = 0
  · have nk : nl K = 0 := by rw [hk0, nl_zero]
    rw [nk] at hk ⊢
    clear hk0 nk hk
    by_cases hg0 : Nat.gcd X Y = 0
    · have hx0 : X = 0 := Nat.eq_zero_of_gcd_eq_zero_left hg0
      have hy0 : Y = 0 := Nat.eq_zero_of_gcd_eq_zero_right hg0
      have ng : nl (Nat.gcd X Y) = 0 := by rw [hg0, nl_zero]
      have nx : nl X = 0 := by rw [hx0, nl_zero]
      have ny : nl Y = 0 := by rw [hy0, nl_zero]
      rw [ng, nx, ny]
      clear hg0 hx0 hy0 ng nx ny
      go_wp2
      go_ret
      exact ⟨rfl, hF⟩
    · have hpos : 0 < nl (Nat.gcd X Y) := by rw [nl_pos hg0]; omega
      have hne : ((nl (Nat.gcd X Y) : Int) == 0) = false := by simp; omega
      have hone := gcd_parts hg0
      have HG := hid (And.intro hg0 hone)
      clear hg0 hone
      go_wp2_with fail
      refine (refDiv_any hx hg (by omega) (by omega) HG.out.1).mono ?_
      rintro e w6 ⟨vp, vp2, rfl, hp, hp2, hf6⟩
      clear hp2
      have bp := nl_div X (Nat.gcd X Y)
      replace hx := hx.fwd hf6
      replace hy := hy.fwd hf6
      replace hg := hg.fwd hf6
      replace hF := hF.trans hf6
      clear hf6
      go_wp2_with fail
      refine (refDiv_any hy hg (by omega) (by omega) HG.out.1).mono ?_
      rintro e w7 ⟨vq, vq2, rfl, hq, hq2, hf7⟩
      clear hq2
      have bq := nl_div Y (Nat.gcd X Y)
      replace hx := hx.fwd hf7
      replace hy := hy.fwd hf7
      replace hg := hg.fwd hf7
      replace hp := hp.fwd hf7
      replace hF := hF.trans hf7
      clear hf7
      go_wp2_with fail
      refine (gcd_any hp hq (by omega) (by omega)).mono ?_
      rintro e w8 ⟨vo, rfl, ho, hf8⟩
      rw [HG.out.2] at ho
      replace hx := hx.fwd hf8
      replace hy := hy.fwd hf8
      replace hg := hg.fwd hf8
      replace hp := hp.fwd hf8
      replace hq := hq.fwd hf8
      replace hF := hF.trans hf8
      clear hf8
      clear hp hq
      have hlit := num_lit w8 [1] 1 (by decide) 1 rfl (by omega) #[.int .u32 1] rfl
      have hfl := (Fwd.refl w8).alloc (.cells #[.int .u32 1] 33)
      have bo1 : nl 1 ≤ 1 := nl_one (by omega)
      go_wp2_with fail
      replace hx := hx.fwd hfl
      replace hy := hy.fwd hfl
      replace hg := hg.fwd hfl
      replace ho := ho.fwd hfl
      replace hF := hF.trans hfl
      refine (same_true ho hlit (by omega) (by omega) rfl).mono ?_
      rintro e w9 ⟨rfl, hf9⟩
      clear hlit hfl
      replace hx := hx.fwd hf9
      replace hy := hy.fwd hf9
      replace hg := hg.fwd hf9
      replace ho := ho.fwd hf9
      replace hF := hF.trans hf9
      clear hf9
      clear ho
      go_wp2_with fail
      refine (gcd_any hx hx (by omega) (by omega)).mono ?_
      rintro e w10 ⟨v1, rfl, h1, hf10⟩
      rw [Nat.gcd_self] at h1
      replace hx := hx.fwd hf10
      replace hy := hy.fwd hf10
      replace hg := hg.fwd hf10
      replace hF := hF.trans hf10
      clear hf10
      go_wp2_with fail
      refine (same_true h1 hx (by omega) (by omega) (rfl)).mono ?_
      rintro e w11 ⟨rfl, hf11⟩
      replace hx := hx.fwd hf11
      replace hy := hy.fwd hf11
      replace hg := hg.fwd hf11
      replace h1 := h1.fwd hf11
      replace hF := hF.trans hf11
      clear hf11
      clear h1
      go_wp2_with fail
      refine (gcd_any hx (num_nil _) (by omega) (by rw [nl_zero]; omega)).mono ?_
      rintro e w12 ⟨v1, rfl, h1, hf12⟩
      rw [Nat.gcd_zero_right] at h1
      replace hx := hx.fwd hf12
      replace hy := hy.fwd hf12
      replace hg := hg.fwd hf12
      replace hF := hF.trans hf12
      clear hf12
      go_wp2_with fail
      refine (same_true h1 hx (by omega) (by omega) (rfl)).mono ?_
      rintro e w13 ⟨rfl, hf13⟩
      replace hx := hx.fwd hf13
      replace hy := hy.fwd hf13
      replace hg := hg.fwd hf13
      replace h1 := h1.fwd hf13
      replace hF := hF.trans hf13
      clear hf13
      go_wp2
      go_ret
      exact ⟨rfl, hF⟩
  · have hkp : 0 < nl K := by rw [nl_pos hk0]; omega
    clear hk0
    go_wp2_with fail
    refine (refMul_any hx hk (by omega) (by omega)).mono ?_
    rintro e w6 ⟨vh1, rfl, h1, hf6⟩
    have b1 := nl_mul X K
    replace hx := hx.fwd hf6
    replace hy := hy.fwd hf6
    replace hk := hk.fwd hf6
    replace hg := hg.fwd hf6
    replace hF := hF.trans hf6
    clear hf6
    go_wp2_with fail
    refine (refMul_any hy hk (by omega) (by omega)).mono ?_
    rintro e w7 ⟨vh2, rfl, h2, hf7⟩
    have b2 := nl_mul Y K
    replace hx := hx.fwd hf7
    replace hy := hy.fwd hf7
    replace hk := hk.fwd hf7
    replace hg := hg.fwd hf7
    replace h1 := h1.fwd hf7
    replace hF := hF.trans hf7
    clear hf7
    go_wp2_with fail
    refine (gcd_any h1 h2 (by omega) (by omega)).mono ?_
    rintro e w8 ⟨v3, rfl, h3, hf8⟩
    rw [gcd_mul_right'] at h3
    replace hx := hx.fwd hf8
    replace hy := hy.fwd hf8
    replace hk := hk.fwd hf8
    replace hg := hg.fwd hf8
    replace h1 := h1.fwd hf8
    replace h2 := h2.fwd hf8
    replace hF := hF.trans hf8
    clear hf8
    go_wp2_with fail
    refine (refMul_any hg hk (by omega) (by omega)).mono ?_
    rintro e w9 ⟨vh4, rfl, h4, hf9⟩
    have b4 := nl_mul (Nat.gcd X Y) K
    replace hx := hx.fwd hf9
    replace hy := hy.fwd hf9
    replace hk := hk.fwd hf9
    replace hg := hg.fwd hf9
    replace h1 := h1.fwd hf9
    replace h2 := h2.fwd hf9
    replace h3 := h3.fwd hf9
    replace hF := hF.trans hf9
    clear hf9
    go_wp2_with fail
    refine (same_true h3 h4 (by omega) (by omega) (rfl)).mono ?_
    rintro e w10 ⟨rfl, hf10⟩
    replace hx := hx.fwd hf10
    replace hy := hy.fwd hf10
    replace hk := hk.fwd hf10
    replace hg := hg.fwd hf10
    replace h1 := h1.fwd hf10
    replace h2 := h2.fwd hf10
    replace h3 := h3.fwd hf10
    replace h4 := h4.fwd hf10
    replace hF := hF.trans hf10
    clear hf10
    clear h1 h2 h3 h4
    by_cases hg0 : Nat.gcd X Y = 0
    · have hx0 : X = 0 := Nat.eq_zero_of_gcd_eq_zero_left hg0
      have hy0 : Y = 0 := Nat.eq_zero_of_gcd_eq_zero_right hg0
      have ng : nl (Nat.gcd X Y) = 0 := by rw [hg0, nl_zero]
      have nx : nl X = 0 := by rw [hx0, nl_zero]
      have ny : nl Y = 0 := by rw [hy0, nl_zero]
      rw [ng, nx, ny]
      clear hg0 hx0 hy0 ng nx ny
      go_wp2
      go_ret
      exact ⟨rfl, hF⟩
    · have hpos : 0 < nl (Nat.gcd X Y) := by rw [nl_pos hg0]; omega
      have hne : ((nl (Nat.gcd X Y) : Int) == 0) = false := by simp; omega
      have hone := gcd_parts hg0
      have HG := hid (And.intro hg0 hone)
      clear hg0 hone
      go_wp2_with fail
      refine (refDiv_any hx hg (by omega) (by omega) HG.out.1).mono ?_
      rintro e w11 ⟨vp, vp2, rfl, hp, hp2, hf11⟩
      clear hp2
      have bp := nl_div X (Nat.gcd X Y)
      replace hx := hx.fwd hf11
      replace hy := hy.fwd hf11
      replace hk := hk.fwd hf11
      replace hg := hg.fwd hf11
      replace hF := hF.trans hf11
      clear hf11
      go_wp2_with fail
      refine (refDiv_any hy hg (by omega) (by omega) HG.out.1).mono ?_
      rintro e w12 ⟨vq, vq2, rfl, hq, hq2, hf12⟩
      clear hq2
      have bq := nl_div Y (Nat.gcd X Y)
      replace hx := hx.fwd hf12
      replace hy := hy.fwd hf12
      replace hk := hk.fwd hf12
      replace hg := hg.fwd hf12
      replace hp := hp.fwd hf12
      replace hF := hF.trans hf12
      clear hf12
      go_wp2_with fail
      refine (gcd_any hp hq (by omega) (by omega)).mono ?_
      rintro e w13 ⟨vo, rfl, ho, hf13⟩
      rw [HG.out.2] at ho
      replace hx := hx.fwd hf13
      replace hy := hy.fwd hf13
      replace hk := hk.fwd hf13
      replace hg := hg.fwd hf13
      replace hp := hp.fwd hf13
      replace hq := hq.fwd hf13
      replace hF := hF.trans hf13
      clear hf13
      clear hp hq
      have hlit := num_lit w13 [1] 1 (by decide) 1 rfl (by omega) #[.int .u32 1] rfl
      have hfl := (Fwd.refl w13).alloc (.cells #[.int .u32 1] 33)
      have bo1 : nl 1 ≤ 1 := nl_one (by omega)
      go_wp2_with fail
      replace hx := hx.fwd hfl
      replace hy := hy.fwd hfl
      replace hk := hk.fwd hfl
      replace hg := hg.fwd hfl
      replace ho := ho.fwd hfl
      replace hF := hF.trans hfl
      refine (same_true ho hlit (by omega) (by omega) rfl).mono ?_
      rintro e w14 ⟨rfl, hf14⟩
      clear hlit hfl
      replace hx := hx.fwd hf14
      replace hy := hy.fwd hf14
      replace hk := hk.fwd hf14
      replace hg := hg.fwd hf14
      replace ho := ho.fwd hf14
      replace hF := hF.trans hf14
      clear hf14
      clear ho
      go_wp2_with fail
      refine (gcd_any hx hx (by omega) (by omega)).mono ?_
      rintro e w15 ⟨v1, rfl, h1, hf15⟩
      rw [Nat.gcd_self] at h1
      replace hx := hx.fwd hf15
      replace hy := hy.fwd hf15
      replace hk := hk.fwd hf15
      replace hg := hg.fwd hf15
      replace hF := hF.trans hf15
      clear hf15
      go_wp2_with fail
      refine (same_true h1 hx (by omega) (by omega) (rfl)).mono ?_
      rintro e w16 ⟨rfl, hf16⟩
      replace hx := hx.fwd hf16
      replace hy := hy.fwd hf16
      replace hk := hk.fwd hf16
      replace hg := hg.fwd hf16
      replace h1 := h1.fwd hf16
      replace hF := hF.trans hf16
      clear hf16
      clear h1
      go_wp2_with fail
      refine (gcd_any hx (num_nil _) (by omega) (by rw [nl_zero]; omega)).mono ?_
      rintro e w17 ⟨v1, rfl, h1, hf17⟩
      rw [Nat.gcd_zero_right] at h1
      replace hx := hx.fwd hf17
      replace hy := hy.fwd hf17
      replace hk := hk.fwd hf17
      replace hg := hg.fwd hf17
      replace hF := hF.trans hf17
      clear hf17
      go_wp2_with fail
      refine (same_true h1 hx (by omega) (by omega) (rfl)).mono ?_
      rintro e w18 ⟨rfl, hf18⟩
      replace hx := hx.fwd hf18
      replace hy := hy.fwd hf18
      replace hk := hk.fwd hf18
      replace hg := hg.fwd hf18
      replace h1 := h1.fwd hf18
      replace hF := hF.trans hf18
      clear hf18
      go_wp2
      go_ret
      exact ⟨rfl, hF⟩

end Go.Proofs.YtbkphjmhmfgpgabDoor
