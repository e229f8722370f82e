/- NatRing: sums and products do not depend on their order, and go together as they must: the law's walk. -/
import Derived.Test.YthaclmceppelbaaDoorW10
namespace Go.Proofs.YthaclmceppelbaaDoor
open Go.RowKit
set_option linter.unusedVariables false

theorem cmpI_add (X Y Z : Nat) : cmpI ((X + Z : Nat) : Int) ((Y + Z : Nat) : Int) = cmpI X Y := by
  rcases Nat.lt_trichotomy X Y with h | h | h
  · rw [cmpI_lt (by omega), cmpI_lt (by omega)]
  · rw [cmpI_eq (by omega), cmpI_eq (by omega)]
  · rw [cmpI_gt (by omega), cmpI_gt (by omega)]

set_option maxHeartbeats 4000000 in
theorem natRing_walk {w : World} {a b c : Value} {xa xb xc : List Nat} (ha : Arg w a xa) (hb : Arg w b xb) (hc : Arg w c xc) :
    Calls Tryd.prog 8 #[a, b, c] w fun e w' => e = .returned (.bool true) ∧ Below w.heap.size w w' := by
  go_enter Tryd.func8, Tryd.ntmps8
  go_wp2_with fail
  refine (known_any _).mono ?_
  rintro e w1 ⟨rfl, hf1⟩
  replace ha := ha.fwd hf1
  replace hb := hb.fwd hf1
  replace hc := hc.fwd hf1
  have hF := hf1
  go_wp2_with fail
  refine (make_any 10 ha (by omega) (by omega)).mono ?_
  rintro e w2 ⟨vX, rfl, hx, hf2⟩
  have bX := nl_take ha.ok 10
  generalize val (List.take 10 _) = X at hx bX
  replace hb := hb.fwd hf2
  replace hc := hc.fwd hf2
  replace hF := hF.trans hf2
  clear hf2
  clear ha
  go_wp2_with fail
  refine (make_any 10 hb (by omega) (by omega)).mono ?_
  rintro e w3 ⟨vY, rfl, hy, hf3⟩
  have bY := nl_take hb.ok 10
  generalize val (List.take 10 _) = Y at hy bY
  replace hc := hc.fwd hf3
  replace hx := hx.fwd hf3
  replace hF := hF.trans hf3
  clear hf3
  clear hb
  go_wp2_with fail
  refine (make_any 10 hc (by omega) (by omega)).mono ?_
  rintro e w4 ⟨vZ, rfl, hz, hf4⟩
  have bZ := nl_take hc.ok 10
  generalize val (List.take 10 _) = Z at hz bZ
  replace hx := hx.fwd hf4
  replace hy := hy.fwd hf4
  replace hF := hF.trans hf4
  clear hf4
  clear hc
  go_wp2_with fail
  refine (add_any hx hy (by omega) (by omega)).mono ?_
  rintro e w5 ⟨vhs, rfl, hs, hf5⟩
  have bs := nl_add X Y
  replace hx := hx.fwd hf5
  replace hy := hy.fwd hf5
  replace hz := hz.fwd hf5
  replace hF := hF.trans hf5
  clear hf5
  go_wp2_with fail
  refine (sub_more hs hy (by omega) (by omega) (by omega)).mono ?_
  rintro e w6 ⟨vd, rfl, hd, hf6⟩
  have ed : X + Y - Y = X := by omega
  rw [ed] at hd
  clear ed
  replace hx := hx.fwd hf6
  replace hy := hy.fwd hf6
  replace hz := hz.fwd hf6
  replace hs := hs.fwd hf6
  replace hF := hF.trans hf6
  clear hf6
  go_wp2_with fail
  refine (add_any hy hx (by omega) (by omega)).mono ?_
  rintro e w7 ⟨vh1, rfl, h1, hf7⟩
  have b1 := nl_add Y X
  replace hx := hx.fwd hf7
  replace hy := hy.fwd hf7
  replace hz := hz.fwd hf7
  replace hs := hs.fwd hf7
  replace hd := hd.fwd hf7
  replace hF := hF.trans hf7
  clear hf7
  go_wp2_with fail
  refine (same_true hs h1 (by omega) (by omega) (Nat.add_comm X Y)).mono ?_
  rintro e w8 ⟨rfl, hf8⟩
  replace hx := hx.fwd hf8
  replace hy := hy.fwd hf8
  replace hz := hz.fwd hf8
  replace hs := hs.fwd hf8
  replace hd := hd.fwd hf8
  replace h1 := h1.fwd hf8
  replace hF := hF.trans hf8
  clear hf8
  clear h1
  go_wp2_with fail
  refine (mul_any hx hy (by omega) (by omega)).mono ?_
  rintro e w9 ⟨vh1, rfl, h1, hf9⟩
  have b2 := nl_mul X Y
  replace hx := hx.fwd hf9
  replace hy := hy.fwd hf9
  replace hz := hz.fwd hf9
  replace hs := hs.fwd hf9
  replace hd := hd.fwd hf9
  replace hF := hF.trans hf9
  clear hf9
  go_wp2_with fail
  refine (mul_any hy hx (by omega) (by omega)).mono ?_
  rintro e w10 ⟨vh2, rfl, h2, hf10⟩
  have b3 := nl_mul Y X
  replace hx := hx.fwd hf10
  replace hy := hy.fwd hf10
  replace hz := hz.fwd hf10
  replace hs := hs.fwd hf10
  replace hd := hd.fwd hf10
  replace h1 := h1.fwd hf10
  replace hF := hF.trans hf10
  clear hf10
  go_wp2_with fail
  refine (same_true h1 h2 (by omega) (by omega) (Nat.mul_comm X Y)).mono ?_
  rintro e w11 ⟨rfl, hf11⟩
  replace hx := hx.fwd hf11
  replace hy := hy.fwd hf11
  replace hz := hz.fwd hf11
  replace hs := hs.fwd hf11
  replace hd := hd.fwd hf11
  replace h1 := h1.fwd hf11
  replace h2 := h2.fwd hf11
  replace hF := hF.trans hf11
  clear hf11
  clear h1 h2
  go_wp2_with fail
  refine (mul_any hs hz (by omega) (by omega)).mono ?_
  rintro e w12 ⟨vh1, rfl, h1, hf12⟩
  have b4 := nl_mul (X + Y) Z
  replace hx := hx.fwd hf12
  replace hy := hy.fwd hf12
  replace hz := hz.fwd hf12
  replace hs := hs.fwd hf12
  replace hd := hd.fwd hf12
  replace hF := hF.trans hf12
  clear hf12
  go_wp2_with fail
  refine (mul_any hx hz (by omega) (by omega)).mono ?_
  rintro e w13 ⟨vh2, rfl, h2, hf13⟩
  have b5 := nl_mul X Z
  replace hx := hx.fwd hf13
  replace hy := hy.fwd hf13
  replace hz := hz.fwd hf13
  replace hs := hs.fwd hf13
  replace hd := hd.fwd hf13
  replace h1 := h1.fwd hf13
  replace hF := hF.trans hf13
  clear hf13
  go_wp2_with fail
  refine (mul_any hy hz (by omega) (by omega)).mono ?_
  rintro e w14 ⟨vh3, rfl, h3, hf14⟩
  have b6 := nl_mul Y Z
  replace hx := hx.fwd hf14
  replace hy := hy.fwd hf14
  replace hz := hz.fwd hf14
  replace hs := hs.fwd hf14
  replace hd := hd.fwd hf14
  replace h1 := h1.fwd hf14
  replace h2 := h2.fwd hf14
  replace hF := hF.trans hf14
  clear hf14
  go_wp2_with fail
  refine (add_any h2 h3 (by omega) (by omega)).mono ?_
  rintro e w15 ⟨vh4, rfl, h4, hf15⟩
  have b7 := nl_add (X * Z) (Y * Z)
  replace hx := hx.fwd hf15
  replace hy := hy.fwd hf15
  replace hz := hz.fwd hf15
  replace hs := hs.fwd hf15
  replace hd := hd.fwd hf15
  replace h1 := h1.fwd hf15
  replace h2 := h2.fwd hf15
  replace h3 := h3.fwd hf15
  replace hF := hF.trans hf15
  clear hf15
  go_wp2_with fail
  refine (same_true h1 h4 (by omega) (by omega) (Nat.add_mul X Y Z)).mono ?_
  rintro e w16 ⟨rfl, hf16⟩
  replace hx := hx.fwd hf16
  replace hy := hy.fwd hf16
  replace hz := hz.fwd hf16
  replace hs := hs.fwd hf16
  replace hd := hd.fwd hf16
  replace h1 := h1.fwd hf16
  replace h2 := h2.fwd hf16
  replace h3 := h3.fwd hf16
  replace h4 := h4.fwd hf16
  replace hF := hF.trans hf16
  clear hf16
  clear h1 h2 h3 h4
  go_wp2_with fail
  refine (mul_any hx hy (by omega) (by omega)).mono ?_
  rintro e w17 ⟨vh1, rfl, h1, hf17⟩
  replace hx := hx.fwd hf17
  replace hy := hy.fwd hf17
  replace hz := hz.fwd hf17
  replace hs := hs.fwd hf17
  replace hd := hd.fwd hf17
  replace hF := hF.trans hf17
  clear hf17
  go_wp2_with fail
  refine (mul_any h1 hz (by omega) (by omega)).mono ?_
  rintro e w18 ⟨vh2, rfl, h2, hf18⟩
  have b8 := nl_mul (X * Y) Z
  replace hx := hx.fwd hf18
  replace hy := hy.fwd hf18
  replace hz := hz.fwd hf18
  replace hs := hs.fwd hf18
  replace hd := hd.fwd hf18
  replace h1 := h1.fwd hf18
  replace hF := hF.trans hf18
  clear hf18
  go_wp2_with fail
  refine (mul_any hy hz (by omega) (by omega)).mono ?_
  rintro e w19 ⟨vh3, rfl, h3, hf19⟩
  replace hx := hx.fwd hf19
  replace hy := hy.fwd hf19
  replace hz := hz.fwd hf19
  replace hs := hs.fwd hf19
  replace hd := hd.fwd hf19
  replace h1 := h1.fwd hf19
  replace h2 := h2.fwd hf19
  replace hF := hF.trans hf19
  clear hf19
  go_wp2_with fail
  refine (mul_any hx h3 (by omega) (by omega)).mono ?_
  rintro e w20 ⟨vh4, rfl, h4, hf20⟩
  have b9 := nl_mul X (Y * Z)
  replace hx := hx.fwd hf20
  replace hy := hy.fwd hf20
  replace hz := hz.fwd hf20
  replace hs := hs.fwd hf20
  replace hd := hd.fwd hf20
  replace h1 := h1.fwd hf20
  replace h2 := h2.fwd hf20
  replace h3 := h3.fwd hf20
  replace hF := hF.trans hf20
  clear hf20
  go_wp2_with fail
  refine (same_true h2 h4 (by omega) (by omega) (Nat.mul_assoc X Y Z)).mono ?_
  rintro e w21 ⟨rfl, hf21⟩
  replace hx := hx.fwd hf21
  replace hy := hy.fwd hf21
  replace hz := hz.fwd hf21
  replace hs := hs.fwd hf21
  replace hd := hd.fwd hf21
  replace h1 := h1.fwd hf21
  replace h2 := h2.fwd hf21
  replace h3 := h3.fwd hf21
  replace h4 := h4.fwd hf21
  replace hF := hF.trans hf21
  clear hf21
  clear h1 h2 h3 h4
  go_wp2_with fail
  refine (same_true hd hx (by omega) (by omega) (rfl)).mono ?_
  rintro e w22 ⟨rfl, hf22⟩
  replace hx := hx.fwd hf22
  replace hy := hy.fwd hf22
  replace hz := hz.fwd hf22
  replace hs := hs.fwd hf22
  replace hd := hd.fwd hf22
  replace hF := hF.trans hf22
  clear hf22
  clear hd
  go_wp2_with fail
  refine (cmp_any hx hy (by omega) (by omega)).mono ?_
  rintro e w23 ⟨rfl, hf23⟩
  replace hx := hx.fwd hf23
  replace hy := hy.fwd hf23
  replace hz := hz.fwd hf23
  replace hs := hs.fwd hf23
  replace hF := hF.trans hf23
  clear hf23
  go_wp2_with fail
  refine (add_any hx hz (by omega) (by omega)).mono ?_
  rintro e w24 ⟨vh1, rfl, h1, hf24⟩
  have c1 := nl_add X Z
  replace hx := hx.fwd hf24
  replace hy := hy.fwd hf24
  replace hz := hz.fwd hf24
  replace hs := hs.fwd hf24
  replace hF := hF.trans hf24
  clear hf24
  go_wp2_with fail
  refine (add_any hy hz (by omega) (by omega)).mono ?_
  rintro e w25 ⟨vh2, rfl, h2, hf25⟩
  have c2 := nl_add Y Z
  replace hx := hx.fwd hf25
  replace hy := hy.fwd hf25
  replace hz := hz.fwd hf25
  replace hs := hs.fwd hf25
  replace h1 := h1.fwd hf25
  replace hF := hF.trans hf25
  clear hf25
  go_wp2_with fail
  refine (cmp_any h1 h2 (by omega) (by omega)).mono ?_
  rintro e w26 ⟨rfl, hf26⟩
  replace hx := hx.fwd hf26
  replace hy := hy.fwd hf26
  replace hz := hz.fwd hf26
  replace hs := hs.fwd hf26
  replace h1 := h1.fwd hf26
  replace h2 := h2.fwd hf26
  replace hF := hF.trans hf26
  clear hf26
  rw [cmpI_add X Y Z]
  generalize cmpI (X : Int) (Y : Int) = q
  go_wp2
  go_ret
  exact ⟨rfl, hF⟩

end Go.Proofs.YthaclmceppelbaaDoor
