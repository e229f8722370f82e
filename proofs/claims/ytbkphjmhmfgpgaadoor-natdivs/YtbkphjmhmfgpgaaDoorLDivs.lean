/- NatDivs: of any numbers how often one goes into the other, what is left, what goes into both, are those of the second telling: the law's walk. -/
import Derived.Test.YtbkphjmhmfgpgaaDoorD9
import Derived.Test.YtbkphjmhmfgpgaaDoorG8
namespace Go.Proofs.YtbkphjmhmfgpgaaDoor
open Go.RowKit
set_option linter.unusedVariables false

set_option maxHeartbeats 8000000 in
theorem natDivs_walk {w : World} {a b : Value} {xa xb : List Nat} (ha : Arg w a xa) (hb : Arg w b xb) (big : Bool) :
    Calls Tryd.prog 4 #[a, b, .bool big] w fun e w' => e = .returned (.bool true) ∧ Below w.heap.size w w' := by
  go_enter Tryd.func4, Tryd.ntmps4
  go_wp2_with fail
  refine (known_any _).mono ?_
  rintro e w1 ⟨rfl, hf1⟩
  replace ha := ha.fwd hf1
  replace hb := hb.fwd hf1
  have hF := hf1
  go_wp2_with fail
  refine (make_any 12 ha (by omega) (by omega)).mono ?_
  rintro e w2 ⟨vX, rfl, hx, hf2⟩
  have bX := nl_take ha.ok 12
  generalize val (List.take 12 _) = X at hx bX
  replace hb := hb.fwd hf2
  replace hF := hF.trans hf2
  clear hf2
  clear ha
  go_wp2_with fail
  refine (make_any 6 hb (by omega) (by omega)).mono ?_
  rintro e w3 ⟨vY, rfl, hy, hf3⟩
  have bY := nl_take hb.ok 6
  generalize val (List.take 6 _) = Y at hy bY
  replace hx := hx.fwd hf3
  replace hF := hF.trans hf3
  clear hf3
  clear hb
  cases big
  · go_wp2_with fail
    refine (div_each hx hy (by omega) (by omega)).mono ?_
    rintro e w4 ⟨vq, vr, rfl, hq, hr, hf4⟩
    have bq := nl_div X Y
    have br := nl_remV X Y
    replace hx := hx.fwd hf4
    replace hy := hy.fwd hf4
    replace hF := hF.trans hf4
    clear hf4
    go_wp2_with fail
    refine (refDiv_each hx hy (by omega) (by omega)).mono ?_
    rintro e w5 ⟨vp, vs, rfl, hp, hs, hf5⟩
    replace hx := hx.fwd hf5
    replace hy := hy.fwd hf5
    replace hq := hq.fwd hf5
    replace hr := hr.fwd hf5
    replace hF := hF.trans hf5
    clear hf5
    generalize divE Y = de
    go_wp2_with fail
    refine (same_true hq hp (by omega) (by omega) (rfl)).mono ?_
    rintro e w6 ⟨rfl, hf6⟩
    replace hx := hx.fwd hf6
    replace hy := hy.fwd hf6
    replace hq := hq.fwd hf6
    replace hr := hr.fwd hf6
    replace hp := hp.fwd hf6
    replace hs := hs.fwd hf6
    replace hF := hF.trans hf6
    clear hf6
    clear hq hp
    go_wp2_with fail
    refine (same_true hr hs (by omega) (by omega) (rfl)).mono ?_
    rintro e w7 ⟨rfl, hf7⟩
    replace hx := hx.fwd hf7
    replace hy := hy.fwd hf7
    replace hr := hr.fwd hf7
    replace hs := hs.fwd hf7
    replace hF := hF.trans hf7
    clear hf7
    clear hr hs
    go_wp2_with fail
    refine (gcd_any hx hy (by omega) (by omega)).mono ?_
    rintro e w8 ⟨vg, rfl, hg, hf8⟩
    have bg := nl_gcd X Y
    replace hx := hx.fwd hf8
    replace hy := hy.fwd hf8
    replace hF := hF.trans hf8
    clear hf8
    go_wp2_with fail
    refine (refGcd_any hx hy (by omega) (by omega)).mono ?_
    rintro e w9 ⟨vh, rfl, hh, hf9⟩
    replace hx := hx.fwd hf9
    replace hy := hy.fwd hf9
    replace hg := hg.fwd hf9
    replace hF := hF.trans hf9
    clear hf9
    go_wp2_with fail
    refine (same_true hg hh (by omega) (by omega) (rfl)).mono ?_
    rintro e w10 ⟨rfl, hf10⟩
    replace hx := hx.fwd hf10
    replace hy := hy.fwd hf10
    replace hg := hg.fwd hf10
    replace hh := hh.fwd hf10
    replace hF := hF.trans hf10
    clear hf10
    clear hg hh
    go_wp2_with fail
    refine (gcd_any hy hx (by omega) (by omega)).mono ?_
    rintro e w11 ⟨vg, rfl, hg, hf11⟩
    rw [Nat.gcd_comm] at hg
    replace hx := hx.fwd hf11
    replace hy := hy.fwd hf11
    replace hF := hF.trans hf11
    clear hf11
    go_wp2_with fail
    refine (refGcd_any hx hy (by omega) (by omega)).mono ?_
    rintro e w12 ⟨vh, rfl, hh, hf12⟩
    replace hx := hx.fwd hf12
    replace hy := hy.fwd hf12
    replace hg := hg.fwd hf12
    replace hF := hF.trans hf12
    clear hf12
    go_wp2_with fail
    refine (same_true hg hh (by omega) (by omega) (rfl)).mono ?_
    rintro e w13 ⟨rfl, hf13⟩
    replace hx := hx.fwd hf13
    replace hy := hy.fwd hf13
    replace hg := hg.fwd hf13
    replace hh := hh.fwd hf13
    replace hF := hF.trans hf13
    clear hf13
    go_wp2
    go_ret
    exact ⟨rfl, hF⟩
  · go_wp2_with fail
    refine (refMul_any hx hy (by omega) (by omega)).mono ?_
    rintro e w4 ⟨vh1, rfl, h1, hf4⟩
    have b1 := nl_mul X Y
    replace hx := hx.fwd hf4
    replace hy := hy.fwd hf4
    replace hF := hF.trans hf4
    clear hf4
    go_wp2_with fail
    refine (refShr_any 1 hy (by omega) (by omega)).mono ?_
    rintro e w5 ⟨v2, rfl, h2, hf5⟩
    have b2 : nl (Y / 2 ^ 1) ≤ nl Y := nl_div Y (2 ^ 1)
    replace hx := hx.fwd hf5
    replace hy := hy.fwd hf5
    replace h1 := h1.fwd hf5
    replace hF := hF.trans hf5
    clear hf5
    go_wp2_with fail
    refine (refAdd_any h1 h2 (by omega) (by omega)).mono ?_
    rintro e w6 ⟨vh3, rfl, h3, hf6⟩
    have b3 := nl_add (X * Y) (Y / 2 ^ 1)
    replace hx := hx.fwd hf6
    replace hy := hy.fwd hf6
    replace h1 := h1.fwd hf6
    replace h2 := h2.fwd hf6
    replace hF := hF.trans hf6
    clear hf6
    clear h1 h2 hx
    generalize X * Y + Y / 2 ^ 1 = Z at h3 b3
    have hx := h3
    clear h3
    go_wp2_with fail
    refine (div_each hx hy (by omega) (by omega)).mono ?_
    rintro e w7 ⟨vq, vr, rfl, hq, hr, hf7⟩
    have bq := nl_div Z Y
    have br := nl_remV Z Y
    replace hy := hy.fwd hf7
    replace hx := hx.fwd hf7
    replace hF := hF.trans hf7
    clear hf7
    go_wp2_with fail
    refine (refDiv_each hx hy (by omega) (by omega)).mono ?_
    rintro e w8 ⟨vp, vs, rfl, hp, hs, hf8⟩
    replace hy := hy.fwd hf8
    replace hx := hx.fwd hf8
    replace hq := hq.fwd hf8
    replace hr := hr.fwd hf8
    replace hF := hF.trans hf8
    clear hf8
    generalize divE Y = de
    go_wp2_with fail
    refine (same_true hq hp (by omega) (by omega) (rfl)).mono ?_
    rintro e w9 ⟨rfl, hf9⟩
    replace hy := hy.fwd hf9
    replace hx := hx.fwd hf9
    replace hq := hq.fwd hf9
    replace hr := hr.fwd hf9
    replace hp := hp.fwd hf9
    replace hs := hs.fwd hf9
    replace hF := hF.trans hf9
    clear hf9
    clear hq hp
    go_wp2_with fail
    refine (same_true hr hs (by omega) (by omega) (rfl)).mono ?_
    rintro e w10 ⟨rfl, hf10⟩
    replace hy := hy.fwd hf10
    replace hx := hx.fwd hf10
    replace hr := hr.fwd hf10
    replace hs := hs.fwd hf10
    replace hF := hF.trans hf10
    clear hf10
    clear hr hs
    go_wp2_with fail
    refine (gcd_any hx hy (by omega) (by omega)).mono ?_
    rintro e w11 ⟨vg, rfl, hg, hf11⟩
    have bg := nl_gcd Z Y
    replace hy := hy.fwd hf11
    replace hx := hx.fwd hf11
    replace hF := hF.trans hf11
    clear hf11
    go_wp2_with fail
    refine (refGcd_any hx hy (by omega) (by omega)).mono ?_
    rintro e w12 ⟨vh, rfl, hh, hf12⟩
    replace hy := hy.fwd hf12
    replace hx := hx.fwd hf12
    replace hg := hg.fwd hf12
    replace hF := hF.trans hf12
    clear hf12
    go_wp2_with fail
    refine (same_true hg hh (by omega) (by omega) (rfl)).mono ?_
    rintro e w13 ⟨rfl, hf13⟩
    replace hy := hy.fwd hf13
    replace hx := hx.fwd hf13
    replace hg := hg.fwd hf13
    replace hh := hh.fwd hf13
    replace hF := hF.trans hf13
    clear hf13
    clear hg hh
    go_wp2_with fail
    refine (gcd_any hy hx (by omega) (by omega)).mono ?_
    rintro e w14 ⟨vg, rfl, hg, hf14⟩
    rw [Nat.gcd_comm] at hg
    replace hy := hy.fwd hf14
    replace hx := hx.fwd hf14
    replace hF := hF.trans hf14
    clear hf14
    go_wp2_with fail
    refine (refGcd_any hx hy (by omega) (by omega)).mono ?_
    rintro e w15 ⟨vh, rfl, hh, hf15⟩
    replace hy := hy.fwd hf15
    replace hx := hx.fwd hf15
    replace hg := hg.fwd hf15
    replace hF := hF.trans hf15
    clear hf15
    go_wp2_with fail
    refine (same_true hg hh (by omega) (by omega) (rfl)).mono ?_
    rintro e w16 ⟨rfl, hf16⟩
    replace hy := hy.fwd hf16
    replace hx := hx.fwd hf16
    replace hg := hg.fwd hf16
    replace hh := hh.fwd hf16
    replace hF := hF.trans hf16
    clear hf16
    go_wp2
    go_ret
    exact ⟨rfl, hF⟩

end Go.Proofs.YtbkphjmhmfgpgaaDoor
