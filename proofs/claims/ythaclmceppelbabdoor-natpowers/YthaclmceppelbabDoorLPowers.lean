/- NatPowers: a shift is a product, or a quotient, by a power of two; two shifts are one: the law's walk. -/
import Derived.Test.YthaclmceppelbabDoorS3
import Derived.Test.YthaclmceppelbabDoorD6
namespace Go.Proofs.YthaclmceppelbabDoor
open Go.RowKit
set_option linter.unusedVariables false

set_option maxHeartbeats 8000000 in
theorem natPowers_walk {w : World} {a : Value} {k m : Int} {xa : List Nat} (ha : Arg w a xa) (hk : (Lit.int .i64 k).wf = true) (hm : (Lit.int .i64 m).wf = true) :
    Calls Tryd.prog 5 #[a, .int .i64 k, .int .i64 m] w fun e w' => e = .returned (.bool true) ∧ Below w.heap.size w w' := by
  obtain ⟨hk1, hk2⟩ := bounds_i64 hk
  obtain ⟨hm1, hm2⟩ := bounds_i64 hm
  clear hk hm
  go_enter Tryd.func5, Tryd.ntmps5
  go_wp2_with fail
  refine (known_any _).mono ?_
  rintro e w1 ⟨rfl, hf1⟩
  replace ha := ha.fwd hf1
  have hF := hf1
  go_wp2_with fail
  refine (make_any 10 ha (by omega) (by omega)).mono ?_
  rintro e w2 ⟨vX, rfl, hx, hf2⟩
  have bX := nl_take ha.ok 10
  generalize val (List.take 10 _) = X at hx bX
  replace hF := hF.trans hf2
  clear hf2
  clear ha
  go_wp2_with fail
  refine (within_any _ k 200 (by omega) (by omega) hk1 hk2).mono ?_
  rintro e wr1 ⟨K, hK, rfl, rfl⟩
  go_wp2_with fail
  refine (within_any _ m 200 (by omega) (by omega) hm1 hm2).mono ?_
  rintro e wr1 ⟨M, hM, rfl, rfl⟩
  have hK2 : K ≤ 1048576 := by omega
  have hM2 : M ≤ 1048576 := by omega
  have hKM2 : K + M ≤ 1048576 := by omega
  have bs := nl_shl X K
  have bs2 : nl (X * 2 ^ K) ≤ 10000000 := by omega
  have bq : nl (X / 2 ^ K) ≤ nl X := nl_mono (Nat.div_le_self _ _)
  have bp := nl_shl 1 K
  have bp1 : nl 1 ≤ 1 := (nl_le_iff 1 1).2 (by omega)
  rw [Nat.one_mul] at bp
  have bp2 : nl (2 ^ K) ≤ 100 := by omega
  have HE : Hid ((K : Int) + (M : Int) = ((K + M : Nat) : Int)) := hid (by simp)
  go_wp2_with fail
  refine (of_any _ 1 (by omega)).mono ?_
  rintro e w3 ⟨v1, rfl, h1, hf3⟩
  replace hx := hx.fwd hf3
  replace hF := hF.trans hf3
  clear hf3
  go_wp2_with fail
  refine (shl_any K h1 (by omega) hK2).mono ?_
  rintro e w4 ⟨vp, rfl, hp, hf4⟩
  rw [Nat.one_mul] at hp
  replace hx := hx.fwd hf4
  replace h1 := h1.fwd hf4
  replace hF := hF.trans hf4
  clear hf4
  clear h1
  go_wp2_with fail
  refine (div_any hx hp (by omega) (by omega) (Nat.ne_of_gt (Nat.two_pow_pos K))).mono ?_
  rintro e w5 ⟨vq, vr, rfl, hq, hr, hf5⟩
  clear hr
  replace hx := hx.fwd hf5
  replace hp := hp.fwd hf5
  replace hF := hF.trans hf5
  clear hf5
  go_wp2_with fail
  refine (shl_any K hx (by omega) hK2).mono ?_
  rintro e w6 ⟨vl, rfl, hl, hf6⟩
  replace hx := hx.fwd hf6
  replace hp := hp.fwd hf6
  replace hq := hq.fwd hf6
  replace hF := hF.trans hf6
  clear hf6
  go_wp2_with fail
  refine (mul_any hx hp (by omega) (by omega)).mono ?_
  rintro e w7 ⟨vh1, rfl, h1, hf7⟩
  have b1 := nl_mul X (2 ^ K)
  replace hx := hx.fwd hf7
  replace hp := hp.fwd hf7
  replace hq := hq.fwd hf7
  replace hl := hl.fwd hf7
  replace hF := hF.trans hf7
  clear hf7
  go_wp2_with fail
  refine (same_true hl h1 (by omega) (by omega) (rfl)).mono ?_
  rintro e w8 ⟨rfl, hf8⟩
  replace hx := hx.fwd hf8
  replace hp := hp.fwd hf8
  replace hq := hq.fwd hf8
  replace hl := hl.fwd hf8
  replace h1 := h1.fwd hf8
  replace hF := hF.trans hf8
  clear hf8
  clear h1 hl
  go_wp2_with fail
  refine (shr_any K hx (by omega) hK2).mono ?_
  rintro e w9 ⟨vl, rfl, hl, hf9⟩
  replace hx := hx.fwd hf9
  replace hp := hp.fwd hf9
  replace hq := hq.fwd hf9
  replace hF := hF.trans hf9
  clear hf9
  go_wp2_with fail
  refine (same_true hl hq (by omega) (by omega) (rfl)).mono ?_
  rintro e w10 ⟨rfl, hf10⟩
  replace hx := hx.fwd hf10
  replace hp := hp.fwd hf10
  replace hq := hq.fwd hf10
  replace hl := hl.fwd hf10
  replace hF := hF.trans hf10
  clear hf10
  clear hl hq
  go_wp2_with fail
  refine (shl_any K hx (by omega) hK2).mono ?_
  rintro e w11 ⟨vl, rfl, hl, hf11⟩
  replace hx := hx.fwd hf11
  replace hp := hp.fwd hf11
  replace hF := hF.trans hf11
  clear hf11
  go_wp2_with fail
  refine (shl_any M hl (by omega) hM2).mono ?_
  rintro e w12 ⟨v1, rfl, h1, hf12⟩
  have b2 := nl_shl (X * 2 ^ K) M
  replace hx := hx.fwd hf12
  replace hp := hp.fwd hf12
  replace hl := hl.fwd hf12
  replace hF := hF.trans hf12
  clear hf12
  clear hl
  go_wp2_with fail
  rw [HE.out]
  refine (shl_any (K + M) hx (by omega) hKM2).mono ?_
  rintro e w13 ⟨v2, rfl, h2, hf13⟩
  have b3 := nl_shl X (K + M)
  replace hx := hx.fwd hf13
  replace hp := hp.fwd hf13
  replace h1 := h1.fwd hf13
  replace hF := hF.trans hf13
  clear hf13
  go_wp2_with fail
  refine (same_true h1 h2 (by omega) (by omega) (by rw [Nat.pow_add, Nat.mul_assoc])).mono ?_
  rintro e w14 ⟨rfl, hf14⟩
  replace hx := hx.fwd hf14
  replace hp := hp.fwd hf14
  replace h1 := h1.fwd hf14
  replace h2 := h2.fwd hf14
  replace hF := hF.trans hf14
  clear hf14
  clear h1 h2
  go_wp2_with fail
  refine (shr_any K hx (by omega) hK2).mono ?_
  rintro e w15 ⟨vl, rfl, hl, hf15⟩
  replace hx := hx.fwd hf15
  replace hp := hp.fwd hf15
  replace hF := hF.trans hf15
  clear hf15
  go_wp2_with fail
  refine (shr_any M hl (by omega) hM2).mono ?_
  rintro e w16 ⟨v1, rfl, h1, hf16⟩
  have b4 : nl (X / 2 ^ K / 2 ^ M) ≤ nl (X / 2 ^ K) := nl_mono (Nat.div_le_self _ _)
  replace hx := hx.fwd hf16
  replace hp := hp.fwd hf16
  replace hl := hl.fwd hf16
  replace hF := hF.trans hf16
  clear hf16
  clear hl
  go_wp2_with fail
  rw [HE.out]
  refine (shr_any (K + M) hx (by omega) hKM2).mono ?_
  rintro e w17 ⟨v2, rfl, h2, hf17⟩
  have b5 : nl (X / 2 ^ (K + M)) ≤ nl X := nl_mono (Nat.div_le_self _ _)
  replace hx := hx.fwd hf17
  replace hp := hp.fwd hf17
  replace h1 := h1.fwd hf17
  replace hF := hF.trans hf17
  clear hf17
  go_wp2_with fail
  refine (same_true h1 h2 (by omega) (by omega) (by rw [Nat.pow_add, Nat.div_div_eq_div_mul])).mono ?_
  rintro e w18 ⟨rfl, hf18⟩
  replace hx := hx.fwd hf18
  replace hp := hp.fwd hf18
  replace h1 := h1.fwd hf18
  replace h2 := h2.fwd hf18
  replace hF := hF.trans hf18
  clear hf18
  clear h1 h2
  go_wp2_with fail
  refine (bits_any hp (by omega)).mono ?_
  rintro e w19 ⟨rfl, hf19⟩
  rw [blen_eq (k := K) (Nat.le_refl _) (by rw [Nat.pow_succ]; have := Nat.two_pow_pos K; omega)]
  replace hx := hx.fwd hf19
  replace hp := hp.fwd hf19
  replace hF := hF.trans hf19
  clear hf19
  have hbb : (((K + 1 : Nat) : Int) == (K : Int) + 1) = true := by simp
  go_wp2
  go_ret
  exact ⟨rfl, hF⟩

end Go.Proofs.YthaclmceppelbabDoor
