/- NatSums: of any numbers what they are, against one another, their sums, what is left, their products, are those of the second telling: the law's walk. -/
import Derived.Test.YthaclmceppelbaaDoorR4
namespace Go.Proofs.YthaclmceppelbaaDoor
open Go.RowKit
set_option linter.unusedVariables false

set_option maxHeartbeats 4000000 in
theorem natSums_walk {w : World} {a b : Value} {v : Int} {xa xb : List Nat} (ha : Arg w a xa) (hb : Arg w b xb) (hv : (Lit.int .u64 v).wf = true) :
    Calls Tryd.prog 3 #[a, b, .int .u64 v] w fun e w' => e = .returned (.bool true) ∧ Below w.heap.size w w' := by
  obtain ⟨V, rfl, hV⟩ := nat_of_u64 hv
  have HV : Hid (smallV V = .tuple #[.int .u64 V, .bool true]) := hid (by rw [smallV, if_pos hV])
  have hVn : nl V ≤ 2 := nl_le_two.2 hV
  have HVB := hid hV
  clear hV hv
  go_enter Tryd.func3, Tryd.ntmps3
  go_wp2_with fail
  refine (known_any _).mono ?_
  rintro e w1 ⟨rfl, hf1⟩
  replace ha := ha.fwd hf1
  replace hb := hb.fwd hf1
  have hF := hf1
  go_wp2_with fail
  refine (make_any 20 ha (by omega) (by omega)).mono ?_
  rintro e w2 ⟨vX, rfl, hx, hf2⟩
  have bX := nl_take ha.ok 20
  generalize val (List.take 20 _) = X at hx bX
  replace ha := ha.fwd hf2
  replace hb := hb.fwd hf2
  replace hF := hF.trans hf2
  clear hf2
  go_wp2_with fail
  refine (make_any 20 hb (by omega) (by omega)).mono ?_
  rintro e w3 ⟨vY, rfl, hy, hf3⟩
  have bY := nl_take hb.ok 20
  generalize val (List.take 20 _) = Y at hy bY
  replace ha := ha.fwd hf3
  replace hx := hx.fwd hf3
  replace hF := hF.trans hf3
  clear hf3
  clear hb
  go_wp2_with fail
  refine (sub_any hx hy (by omega) (by omega)).mono ?_
  rintro e w4 ⟨vd, rfl, hd, hf4⟩
  have bd := nl_sub X Y
  replace ha := ha.fwd hf4
  replace hx := hx.fwd hf4
  replace hy := hy.fwd hf4
  replace hF := hF.trans hf4
  clear hf4
  go_wp2_with fail
  refine (refSub_any hx hy (by omega) (by omega)).mono ?_
  rintro e w5 ⟨vf, rfl, hf0, hf5⟩
  replace ha := ha.fwd hf5
  replace hx := hx.fwd hf5
  replace hy := hy.fwd hf5
  replace hd := hd.fwd hf5
  replace hF := hF.trans hf5
  clear hf5
  generalize subE X Y = se
  obtain ⟨sv, sb, hsm⟩ := small_ex X
  have HSM := hid hsm
  clear hsm
  go_wp2_with fail
  refine (small_any hx (by omega)).mono ?_
  rintro e w6 ⟨rfl, hf6⟩
  rw [HSM.out]
  replace ha := ha.fwd hf6
  replace hx := hx.fwd hf6
  replace hy := hy.fwd hf6
  replace hd := hd.fwd hf6
  replace hf0 := hf0.fwd hf6
  replace hF := hF.trans hf6
  clear hf6
  go_wp2_with fail
  refine (refSmall_any hx (by omega)).mono ?_
  rintro e w7 ⟨rfl, hf7⟩
  rw [HSM.out]
  replace ha := ha.fwd hf7
  replace hx := hx.fwd hf7
  replace hy := hy.fwd hf7
  replace hd := hd.fwd hf7
  replace hf0 := hf0.fwd hf7
  replace hF := hF.trans hf7
  clear hf7
  go_wp2_with fail
  refine (of_any _ V HVB.out).mono ?_
  rintro e w8 ⟨vv, rfl, hvv, hf8⟩
  replace ha := ha.fwd hf8
  replace hx := hx.fwd hf8
  replace hy := hy.fwd hf8
  replace hd := hd.fwd hf8
  replace hf0 := hf0.fwd hf8
  replace hF := hF.trans hf8
  clear hf8
  go_wp2_with fail
  refine (small_any hvv (by omega)).mono ?_
  rintro e w9 ⟨rfl, hf9⟩
  rw [HV.out]
  replace ha := ha.fwd hf9
  replace hx := hx.fwd hf9
  replace hy := hy.fwd hf9
  replace hd := hd.fwd hf9
  replace hf0 := hf0.fwd hf9
  replace hvv := hvv.fwd hf9
  replace hF := hF.trans hf9
  clear hf9
  go_wp2_with fail
  refine (of_any _ V HVB.out).mono ?_
  rintro e w10 ⟨v1, rfl, h1, hf10⟩
  replace ha := ha.fwd hf10
  replace hx := hx.fwd hf10
  replace hy := hy.fwd hf10
  replace hd := hd.fwd hf10
  replace hf0 := hf0.fwd hf10
  replace hvv := hvv.fwd hf10
  replace hF := hF.trans hf10
  clear hf10
  go_wp2_with fail
  refine (refOf_any _ V HVB.out).mono ?_
  rintro e w11 ⟨v2, rfl, h2, hf11⟩
  replace ha := ha.fwd hf11
  replace hx := hx.fwd hf11
  replace hy := hy.fwd hf11
  replace hd := hd.fwd hf11
  replace hf0 := hf0.fwd hf11
  replace hvv := hvv.fwd hf11
  replace h1 := h1.fwd hf11
  replace hF := hF.trans hf11
  clear hf11
  go_wp2_with fail
  refine (same_true h1 h2 (by omega) (by omega) (rfl)).mono ?_
  rintro e w12 ⟨rfl, hf12⟩
  replace ha := ha.fwd hf12
  replace hx := hx.fwd hf12
  replace hy := hy.fwd hf12
  replace hd := hd.fwd hf12
  replace hf0 := hf0.fwd hf12
  replace hvv := hvv.fwd hf12
  replace h1 := h1.fwd hf12
  replace h2 := h2.fwd hf12
  replace hF := hF.trans hf12
  clear hf12
  clear h1 h2
  go_wp2_with fail
  refine (right_any ha).mono ?_
  rintro e wr1 ⟨rfl, rfl⟩
  go_wp2_with fail
  refine (refRight_any ha).mono ?_
  rintro e wr2 ⟨rfl, rfl⟩
  generalize rightB _ = rb
  go_wp2_with fail
  refine (cmp_any hx hy (by omega) (by omega)).mono ?_
  rintro e w13 ⟨rfl, hf13⟩
  replace ha := ha.fwd hf13
  replace hx := hx.fwd hf13
  replace hy := hy.fwd hf13
  replace hd := hd.fwd hf13
  replace hf0 := hf0.fwd hf13
  replace hvv := hvv.fwd hf13
  replace hF := hF.trans hf13
  clear hf13
  go_wp2_with fail
  refine (refCmp_any hx hy (by omega) (by omega)).mono ?_
  rintro e w14 ⟨rfl, hf14⟩
  replace ha := ha.fwd hf14
  replace hx := hx.fwd hf14
  replace hy := hy.fwd hf14
  replace hd := hd.fwd hf14
  replace hf0 := hf0.fwd hf14
  replace hvv := hvv.fwd hf14
  replace hF := hF.trans hf14
  clear hf14
  generalize cmpI (X : Int) (Y : Int) = q
  go_wp2_with fail
  refine (bits_any hx (by omega)).mono ?_
  rintro e w15 ⟨rfl, hf15⟩
  replace ha := ha.fwd hf15
  replace hx := hx.fwd hf15
  replace hy := hy.fwd hf15
  replace hd := hd.fwd hf15
  replace hf0 := hf0.fwd hf15
  replace hvv := hvv.fwd hf15
  replace hF := hF.trans hf15
  clear hf15
  go_wp2_with fail
  refine (refBits_any hx (by omega)).mono ?_
  rintro e wr3 ⟨rfl, rfl⟩
  go_wp2_with fail
  refine (add_any hx hy (by omega) (by omega)).mono ?_
  rintro e w16 ⟨vh1, rfl, h1, hf16⟩
  have b1 := nl_add X Y
  replace ha := ha.fwd hf16
  replace hx := hx.fwd hf16
  replace hy := hy.fwd hf16
  replace hd := hd.fwd hf16
  replace hf0 := hf0.fwd hf16
  replace hvv := hvv.fwd hf16
  replace hF := hF.trans hf16
  clear hf16
  go_wp2_with fail
  refine (refAdd_any hx hy (by omega) (by omega)).mono ?_
  rintro e w17 ⟨vh2, rfl, h2, hf17⟩
  replace ha := ha.fwd hf17
  replace hx := hx.fwd hf17
  replace hy := hy.fwd hf17
  replace hd := hd.fwd hf17
  replace hf0 := hf0.fwd hf17
  replace hvv := hvv.fwd hf17
  replace h1 := h1.fwd hf17
  replace hF := hF.trans hf17
  clear hf17
  go_wp2_with fail
  refine (same_true h1 h2 (by omega) (by omega) (rfl)).mono ?_
  rintro e w18 ⟨rfl, hf18⟩
  replace ha := ha.fwd hf18
  replace hx := hx.fwd hf18
  replace hy := hy.fwd hf18
  replace hd := hd.fwd hf18
  replace hf0 := hf0.fwd hf18
  replace hvv := hvv.fwd hf18
  replace h1 := h1.fwd hf18
  replace h2 := h2.fwd hf18
  replace hF := hF.trans hf18
  clear hf18
  clear h1 h2
  go_wp2_with fail
  refine (same_true hd hf0 (by omega) (by omega) (rfl)).mono ?_
  rintro e w19 ⟨rfl, hf19⟩
  replace ha := ha.fwd hf19
  replace hx := hx.fwd hf19
  replace hy := hy.fwd hf19
  replace hd := hd.fwd hf19
  replace hf0 := hf0.fwd hf19
  replace hvv := hvv.fwd hf19
  replace hF := hF.trans hf19
  clear hf19
  go_wp2_with fail
  refine (mul_any hx hy (by omega) (by omega)).mono ?_
  rintro e w20 ⟨vh1, rfl, h1, hf20⟩
  have b2 := nl_mul X Y
  replace ha := ha.fwd hf20
  replace hx := hx.fwd hf20
  replace hy := hy.fwd hf20
  replace hd := hd.fwd hf20
  replace hf0 := hf0.fwd hf20
  replace hvv := hvv.fwd hf20
  replace hF := hF.trans hf20
  clear hf20
  go_wp2_with fail
  refine (refMul_any hx hy (by omega) (by omega)).mono ?_
  rintro e w21 ⟨vh2, rfl, h2, hf21⟩
  replace ha := ha.fwd hf21
  replace hx := hx.fwd hf21
  replace hy := hy.fwd hf21
  replace hd := hd.fwd hf21
  replace hf0 := hf0.fwd hf21
  replace hvv := hvv.fwd hf21
  replace h1 := h1.fwd hf21
  replace hF := hF.trans hf21
  clear hf21
  go_wp2_with fail
  refine (same_true h1 h2 (by omega) (by omega) (rfl)).mono ?_
  rintro e w22 ⟨rfl, hf22⟩
  replace ha := ha.fwd hf22
  replace hx := hx.fwd hf22
  replace hy := hy.fwd hf22
  replace hd := hd.fwd hf22
  replace hf0 := hf0.fwd hf22
  replace hvv := hvv.fwd hf22
  replace h1 := h1.fwd hf22
  replace h2 := h2.fwd hf22
  replace hF := hF.trans hf22
  clear hf22
  go_wp2
  go_ret
  exact ⟨rfl, hF⟩

end Go.Proofs.YthaclmceppelbaaDoor
