/- NatShifts: any number, shifted either way, is that of the second telling; there and back it is as it was: the law's walk. -/
import Derived.Test.YthaclmceppelbaaDoorS3
namespace Go.Proofs.YthaclmceppelbaaDoor
open Go.RowKit
set_option linter.unusedVariables false

theorem blen_shl (X k : Nat) (h : X ≠ 0) : blen (X * 2 ^ k) = blen X + k := by
  have hp := Nat.two_pow_pos k
  rw [blen_div (X * 2 ^ k) k (by have := Nat.mul_le_mul_right (2 ^ k) (show 1 ≤ X by omega); omega), Nat.mul_div_cancel _ hp]

set_option maxHeartbeats 8000000 in
theorem natShifts_walk {w : World} {a : Value} {k raw : Int} {xa : List Nat} (ha : Arg w a xa) (hk : (Lit.int .i64 k).wf = true) (hr0 : (Lit.int .i64 raw).wf = true) :
    Calls Tryd.prog 5 #[a, .int .i64 k, .int .i64 raw] w fun e w' => e = .returned (.bool true) ∧ Below w.heap.size w w' := by
  obtain ⟨hk1, hk2⟩ := bounds_i64 hk
  have hcs : raw < 0 ∨ (1048576 : Int) < raw ∨ (0 ≤ raw ∧ raw ≤ 1048576) := by omega
  clear hk hr0
  rcases hcs with hraw | hraw | hraw
  · have r1 : raw < 0 := hraw
    have HRAW := hid hraw
    clear hraw
    go_enter Tryd.func5, Tryd.ntmps5
    go_wp2_with fail
    refine (known_any _).mono ?_
    rintro e w1 ⟨rfl, hf1⟩
    replace ha := ha.fwd hf1
    have hF := hf1
    go_wp2_with fail
    refine (make_any 20 ha (by omega) (by omega)).mono ?_
    rintro e w2 ⟨vX, rfl, hx, hf2⟩
    have bX := nl_take ha.ok 20
    generalize val (List.take 20 _) = X at hx bX
    replace hF := hF.trans hf2
    clear hf2
    clear ha
    go_wp2_with fail
    refine (within_any _ k 700 (by omega) (by omega) hk1 hk2).mono ?_
    rintro e wr1 ⟨K, hK, rfl, rfl⟩
    have hK2 : K ≤ 1048576 := by omega
    have bs := nl_shl X K
    have bs2 : nl (X * 2 ^ K) ≤ 10000000 := by omega
    have bq : nl (X / 2 ^ K) ≤ nl X := nl_mono (Nat.div_le_self _ _)
    go_wp2_with fail
    refine (shl_any K hx (by omega) hK2).mono ?_
    rintro e w3 ⟨vl, rfl, hl, hf3⟩
    replace hx := hx.fwd hf3
    replace hF := hF.trans hf3
    clear hf3
    go_wp2_with fail
    refine (shr_any K hx (by omega) hK2).mono ?_
    rintro e w4 ⟨vr, rfl, hr, hf4⟩
    replace hx := hx.fwd hf4
    replace hl := hl.fwd hf4
    replace hF := hF.trans hf4
    clear hf4
    go_wp2_with fail
    refine (refShl_any K hx (by omega) hK2).mono ?_
    rintro e w5 ⟨v1, rfl, h1, hf5⟩
    replace hx := hx.fwd hf5
    replace hl := hl.fwd hf5
    replace hr := hr.fwd hf5
    replace hF := hF.trans hf5
    clear hf5
    go_wp2_with fail
    refine (same_true hl h1 (by omega) (by omega) (rfl)).mono ?_
    rintro e w6 ⟨rfl, hf6⟩
    replace hx := hx.fwd hf6
    replace hl := hl.fwd hf6
    replace hr := hr.fwd hf6
    replace h1 := h1.fwd hf6
    replace hF := hF.trans hf6
    clear hf6
    clear h1
    go_wp2_with fail
    refine (refShr_any K hx (by omega) hK2).mono ?_
    rintro e w7 ⟨v1, rfl, h1, hf7⟩
    replace hx := hx.fwd hf7
    replace hl := hl.fwd hf7
    replace hr := hr.fwd hf7
    replace hF := hF.trans hf7
    clear hf7
    go_wp2_with fail
    refine (same_true hr h1 (by omega) (by omega) (rfl)).mono ?_
    rintro e w8 ⟨rfl, hf8⟩
    replace hx := hx.fwd hf8
    replace hl := hl.fwd hf8
    replace hr := hr.fwd hf8
    replace h1 := h1.fwd hf8
    replace hF := hF.trans hf8
    clear hf8
    clear h1
    go_wp2_with fail
    refine (shr_any K hl bs2 hK2).mono ?_
    rintro e w9 ⟨v1, rfl, h1, hf9⟩
    rw [Nat.mul_div_cancel _ (Nat.two_pow_pos _)] at h1
    replace hx := hx.fwd hf9
    replace hl := hl.fwd hf9
    replace hr := hr.fwd hf9
    replace hF := hF.trans hf9
    clear hf9
    go_wp2_with fail
    refine (same_true h1 hx (by omega) (by omega) (rfl)).mono ?_
    rintro e w10 ⟨rfl, hf10⟩
    replace hx := hx.fwd hf10
    replace hl := hl.fwd hf10
    replace hr := hr.fwd hf10
    replace h1 := h1.fwd hf10
    replace hF := hF.trans hf10
    clear hf10
    clear h1
    go_wp2_with fail
    refine (refBits_any hx (by omega)).mono ?_
    rintro e wr2 ⟨rfl, rfl⟩
    have hbl := blen_nl X
    by_cases hX0 : X = 0
    · have hb0 : blen X = 0 := by rw [hX0]; rfl
      rw [hb0]
      clear hX0 hb0
      go_wp2_with fail
      refine (shl_odd raw hx (by omega) (.inl HRAW.out)).mono ?_
      rintro e w11 ⟨v1, rfl, h1, hf11⟩
      replace hx := hx.fwd hf11
      replace hl := hl.fwd hf11
      replace hr := hr.fwd hf11
      replace hF := hF.trans hf11
      clear hf11
      go_wp2_with fail
      refine (same_true h1 hx (by omega) (by omega) (rfl)).mono ?_
      rintro e w12 ⟨rfl, hf12⟩
      replace hx := hx.fwd hf12
      replace hl := hl.fwd hf12
      replace hr := hr.fwd hf12
      replace h1 := h1.fwd hf12
      replace hF := hF.trans hf12
      clear hf12
      clear h1
      go_wp2_with fail
      refine (shr_odd raw hx (by omega) (.inl HRAW.out)).mono ?_
      rintro e w13 ⟨v1, rfl, h1, hf13⟩
      replace hx := hx.fwd hf13
      replace hl := hl.fwd hf13
      replace hr := hr.fwd hf13
      replace hF := hF.trans hf13
      clear hf13
      go_wp2_with fail
      refine (same_true h1 hx (by omega) (by omega) (rfl)).mono ?_
      rintro e w14 ⟨rfl, hf14⟩
      replace hx := hx.fwd hf14
      replace hl := hl.fwd hf14
      replace hr := hr.fwd hf14
      replace h1 := h1.fwd hf14
      replace hF := hF.trans hf14
      clear hf14
      clear h1
      go_wp2
      go_ret
      exact ⟨rfl, hF⟩
    · have hb0 : 0 < blen X := by rw [blen_half (x := X) (by omega)]; omega
      have HB := hid (blen_shl X K hX0)
      clear hX0
      go_wp2_with fail
      refine (bits_any hl (by omega)).mono ?_
      rintro e w11 ⟨rfl, hf11⟩
      rw [HB.out]
      replace hx := hx.fwd hf11
      replace hl := hl.fwd hf11
      replace hr := hr.fwd hf11
      replace hF := hF.trans hf11
      clear hf11
      go_wp2_with fail
      refine (refBits_any hx (by omega)).mono ?_
      rintro e wr3 ⟨rfl, rfl⟩
      have hnn : (((blen X + K : Nat) : Int) != (blen X : Int) + K) = false := by simp
      go_wp2_with fail
      refine (shl_odd raw hx (by omega) (.inl HRAW.out)).mono ?_
      rintro e w12 ⟨v1, rfl, h1, hf12⟩
      replace hx := hx.fwd hf12
      replace hl := hl.fwd hf12
      replace hr := hr.fwd hf12
      replace hF := hF.trans hf12
      clear hf12
      go_wp2_with fail
      refine (same_true h1 hx (by omega) (by omega) (rfl)).mono ?_
      rintro e w13 ⟨rfl, hf13⟩
      replace hx := hx.fwd hf13
      replace hl := hl.fwd hf13
      replace hr := hr.fwd hf13
      replace h1 := h1.fwd hf13
      replace hF := hF.trans hf13
      clear hf13
      clear h1
      go_wp2_with fail
      refine (shr_odd raw hx (by omega) (.inl HRAW.out)).mono ?_
      rintro e w14 ⟨v1, rfl, h1, hf14⟩
      replace hx := hx.fwd hf14
      replace hl := hl.fwd hf14
      replace hr := hr.fwd hf14
      replace hF := hF.trans hf14
      clear hf14
      go_wp2_with fail
      refine (same_true h1 hx (by omega) (by omega) (rfl)).mono ?_
      rintro e w15 ⟨rfl, hf15⟩
      replace hx := hx.fwd hf15
      replace hl := hl.fwd hf15
      replace hr := hr.fwd hf15
      replace h1 := h1.fwd hf15
      replace hF := hF.trans hf15
      clear hf15
      clear h1
      go_wp2
      go_ret
      exact ⟨rfl, hF⟩
  · have r0 : decide (raw < 0) = false := decide_eq_false (by omega)
    have r1 : decide ((1048576 : Int) < raw) = true := decide_eq_true hraw
    have HRAW := hid hraw
    clear hraw
    go_enter Tryd.func5, Tryd.ntmps5
    go_wp2_with fail
    refine (known_any _).mono ?_
    rintro e w1 ⟨rfl, hf1⟩
    replace ha := ha.fwd hf1
    have hF := hf1
    go_wp2_with fail
    refine (make_any 20 ha (by omega) (by omega)).mono ?_
    rintro e w2 ⟨vX, rfl, hx, hf2⟩
    have bX := nl_take ha.ok 20
    generalize val (List.take 20 _) = X at hx bX
    replace hF := hF.trans hf2
    clear hf2
    clear ha
    go_wp2_with fail
    refine (within_any _ k 700 (by omega) (by omega) hk1 hk2).mono ?_
    rintro e wr1 ⟨K, hK, rfl, rfl⟩
    have hK2 : K ≤ 1048576 := by omega
    have bs := nl_shl X K
    have bs2 : nl (X * 2 ^ K) ≤ 10000000 := by omega
    have bq : nl (X / 2 ^ K) ≤ nl X := nl_mono (Nat.div_le_self _ _)
    go_wp2_with fail
    refine (shl_any K hx (by omega) hK2).mono ?_
    rintro e w3 ⟨vl, rfl, hl, hf3⟩
    replace hx := hx.fwd hf3
    replace hF := hF.trans hf3
    clear hf3
    go_wp2_with fail
    refine (shr_any K hx (by omega) hK2).mono ?_
    rintro e w4 ⟨vr, rfl, hr, hf4⟩
    replace hx := hx.fwd hf4
    replace hl := hl.fwd hf4
    replace hF := hF.trans hf4
    clear hf4
    go_wp2_with fail
    refine (refShl_any K hx (by omega) hK2).mono ?_
    rintro e w5 ⟨v1, rfl, h1, hf5⟩
    replace hx := hx.fwd hf5
    replace hl := hl.fwd hf5
    replace hr := hr.fwd hf5
    replace hF := hF.trans hf5
    clear hf5
    go_wp2_with fail
    refine (same_true hl h1 (by omega) (by omega) (rfl)).mono ?_
    rintro e w6 ⟨rfl, hf6⟩
    replace hx := hx.fwd hf6
    replace hl := hl.fwd hf6
    replace hr := hr.fwd hf6
    replace h1 := h1.fwd hf6
    replace hF := hF.trans hf6
    clear hf6
    clear h1
    go_wp2_with fail
    refine (refShr_any K hx (by omega) hK2).mono ?_
    rintro e w7 ⟨v1, rfl, h1, hf7⟩
    replace hx := hx.fwd hf7
    replace hl := hl.fwd hf7
    replace hr := hr.fwd hf7
    replace hF := hF.trans hf7
    clear hf7
    go_wp2_with fail
    refine (same_true hr h1 (by omega) (by omega) (rfl)).mono ?_
    rintro e w8 ⟨rfl, hf8⟩
    replace hx := hx.fwd hf8
    replace hl := hl.fwd hf8
    replace hr := hr.fwd hf8
    replace h1 := h1.fwd hf8
    replace hF := hF.trans hf8
    clear hf8
    clear h1
    go_wp2_with fail
    refine (shr_any K hl bs2 hK2).mono ?_
    rintro e w9 ⟨v1, rfl, h1, hf9⟩
    rw [Nat.mul_div_cancel _ (Nat.two_pow_pos _)] at h1
    replace hx := hx.fwd hf9
    replace hl := hl.fwd hf9
    replace hr := hr.fwd hf9
    replace hF := hF.trans hf9
    clear hf9
    go_wp2_with fail
    refine (same_true h1 hx (by omega) (by omega) (rfl)).mono ?_
    rintro e w10 ⟨rfl, hf10⟩
    replace hx := hx.fwd hf10
    replace hl := hl.fwd hf10
    replace hr := hr.fwd hf10
    replace h1 := h1.fwd hf10
    replace hF := hF.trans hf10
    clear hf10
    clear h1
    go_wp2_with fail
    refine (refBits_any hx (by omega)).mono ?_
    rintro e wr2 ⟨rfl, rfl⟩
    have hbl := blen_nl X
    by_cases hX0 : X = 0
    · have hb0 : blen X = 0 := by rw [hX0]; rfl
      rw [hb0]
      clear hX0 hb0
      go_wp2_with fail
      refine (shl_odd raw hx (by omega) (.inr HRAW.out)).mono ?_
      rintro e w11 ⟨v1, rfl, h1, hf11⟩
      replace hx := hx.fwd hf11
      replace hl := hl.fwd hf11
      replace hr := hr.fwd hf11
      replace hF := hF.trans hf11
      clear hf11
      go_wp2_with fail
      refine (same_true h1 hx (by omega) (by omega) (rfl)).mono ?_
      rintro e w12 ⟨rfl, hf12⟩
      replace hx := hx.fwd hf12
      replace hl := hl.fwd hf12
      replace hr := hr.fwd hf12
      replace h1 := h1.fwd hf12
      replace hF := hF.trans hf12
      clear hf12
      clear h1
      go_wp2_with fail
      refine (shr_odd raw hx (by omega) (.inr HRAW.out)).mono ?_
      rintro e w13 ⟨v1, rfl, h1, hf13⟩
      replace hx := hx.fwd hf13
      replace hl := hl.fwd hf13
      replace hr := hr.fwd hf13
      replace hF := hF.trans hf13
      clear hf13
      go_wp2_with fail
      refine (same_true h1 hx (by omega) (by omega) (rfl)).mono ?_
      rintro e w14 ⟨rfl, hf14⟩
      replace hx := hx.fwd hf14
      replace hl := hl.fwd hf14
      replace hr := hr.fwd hf14
      replace h1 := h1.fwd hf14
      replace hF := hF.trans hf14
      clear hf14
      clear h1
      go_wp2
      go_ret
      exact ⟨rfl, hF⟩
    · have hb0 : 0 < blen X := by rw [blen_half (x := X) (by omega)]; omega
      have HB := hid (blen_shl X K hX0)
      clear hX0
      go_wp2_with fail
      refine (bits_any hl (by omega)).mono ?_
      rintro e w11 ⟨rfl, hf11⟩
      rw [HB.out]
      replace hx := hx.fwd hf11
      replace hl := hl.fwd hf11
      replace hr := hr.fwd hf11
      replace hF := hF.trans hf11
      clear hf11
      go_wp2_with fail
      refine (refBits_any hx (by omega)).mono ?_
      rintro e wr3 ⟨rfl, rfl⟩
      have hnn : (((blen X + K : Nat) : Int) != (blen X : Int) + K) = false := by simp
      go_wp2_with fail
      refine (shl_odd raw hx (by omega) (.inr HRAW.out)).mono ?_
      rintro e w12 ⟨v1, rfl, h1, hf12⟩
      replace hx := hx.fwd hf12
      replace hl := hl.fwd hf12
      replace hr := hr.fwd hf12
      replace hF := hF.trans hf12
      clear hf12
      go_wp2_with fail
      refine (same_true h1 hx (by omega) (by omega) (rfl)).mono ?_
      rintro e w13 ⟨rfl, hf13⟩
      replace hx := hx.fwd hf13
      replace hl := hl.fwd hf13
      replace hr := hr.fwd hf13
      replace h1 := h1.fwd hf13
      replace hF := hF.trans hf13
      clear hf13
      clear h1
      go_wp2_with fail
      refine (shr_odd raw hx (by omega) (.inr HRAW.out)).mono ?_
      rintro e w14 ⟨v1, rfl, h1, hf14⟩
      replace hx := hx.fwd hf14
      replace hl := hl.fwd hf14
      replace hr := hr.fwd hf14
      replace hF := hF.trans hf14
      clear hf14
      go_wp2_with fail
      refine (same_true h1 hx (by omega) (by omega) (rfl)).mono ?_
      rintro e w15 ⟨rfl, hf15⟩
      replace hx := hx.fwd hf15
      replace hl := hl.fwd hf15
      replace hr := hr.fwd hf15
      replace h1 := h1.fwd hf15
      replace hF := hF.trans hf15
      clear hf15
      clear h1
      go_wp2
      go_ret
      exact ⟨rfl, hF⟩
  · have r0 : decide (raw < 0) = false := decide_eq_false (by omega)
    have r1 : decide ((1048576 : Int) < raw) = false := decide_eq_false (by omega)
    have HRAW := hid hraw
    clear hraw
    go_enter Tryd.func5, Tryd.ntmps5
    go_wp2_with fail
    refine (known_any _).mono ?_
    rintro e w1 ⟨rfl, hf1⟩
    replace ha := ha.fwd hf1
    have hF := hf1
    go_wp2_with fail
    refine (make_any 20 ha (by omega) (by omega)).mono ?_
    rintro e w2 ⟨vX, rfl, hx, hf2⟩
    have bX := nl_take ha.ok 20
    generalize val (List.take 20 _) = X at hx bX
    replace hF := hF.trans hf2
    clear hf2
    clear ha
    go_wp2_with fail
    refine (within_any _ k 700 (by omega) (by omega) hk1 hk2).mono ?_
    rintro e wr1 ⟨K, hK, rfl, rfl⟩
    have hK2 : K ≤ 1048576 := by omega
    have bs := nl_shl X K
    have bs2 : nl (X * 2 ^ K) ≤ 10000000 := by omega
    have bq : nl (X / 2 ^ K) ≤ nl X := nl_mono (Nat.div_le_self _ _)
    go_wp2_with fail
    refine (shl_any K hx (by omega) hK2).mono ?_
    rintro e w3 ⟨vl, rfl, hl, hf3⟩
    replace hx := hx.fwd hf3
    replace hF := hF.trans hf3
    clear hf3
    go_wp2_with fail
    refine (shr_any K hx (by omega) hK2).mono ?_
    rintro e w4 ⟨vr, rfl, hr, hf4⟩
    replace hx := hx.fwd hf4
    replace hl := hl.fwd hf4
    replace hF := hF.trans hf4
    clear hf4
    go_wp2_with fail
    refine (refShl_any K hx (by omega) hK2).mono ?_
    rintro e w5 ⟨v1, rfl, h1, hf5⟩
    replace hx := hx.fwd hf5
    replace hl := hl.fwd hf5
    replace hr := hr.fwd hf5
    replace hF := hF.trans hf5
    clear hf5
    go_wp2_with fail
    refine (same_true hl h1 (by omega) (by omega) (rfl)).mono ?_
    rintro e w6 ⟨rfl, hf6⟩
    replace hx := hx.fwd hf6
    replace hl := hl.fwd hf6
    replace hr := hr.fwd hf6
    replace h1 := h1.fwd hf6
    replace hF := hF.trans hf6
    clear hf6
    clear h1
    go_wp2_with fail
    refine (refShr_any K hx (by omega) hK2).mono ?_
    rintro e w7 ⟨v1, rfl, h1, hf7⟩
    replace hx := hx.fwd hf7
    replace hl := hl.fwd hf7
    replace hr := hr.fwd hf7
    replace hF := hF.trans hf7
    clear hf7
    go_wp2_with fail
    refine (same_true hr h1 (by omega) (by omega) (rfl)).mono ?_
    rintro e w8 ⟨rfl, hf8⟩
    replace hx := hx.fwd hf8
    replace hl := hl.fwd hf8
    replace hr := hr.fwd hf8
    replace h1 := h1.fwd hf8
    replace hF := hF.trans hf8
    clear hf8
    clear h1
    go_wp2_with fail
    refine (shr_any K hl bs2 hK2).mono ?_
    rintro e w9 ⟨v1, rfl, h1, hf9⟩
    rw [Nat.mul_div_cancel _ (Nat.two_pow_pos _)] at h1
    replace hx := hx.fwd hf9
    replace hl := hl.fwd hf9
    replace hr := hr.fwd hf9
    replace hF := hF.trans hf9
    clear hf9
    go_wp2_with fail
    refine (same_true h1 hx (by omega) (by omega) (rfl)).mono ?_
    rintro e w10 ⟨rfl, hf10⟩
    replace hx := hx.fwd hf10
    replace hl := hl.fwd hf10
    replace hr := hr.fwd hf10
    replace h1 := h1.fwd hf10
    replace hF := hF.trans hf10
    clear hf10
    clear h1
    go_wp2_with fail
    refine (refBits_any hx (by omega)).mono ?_
    rintro e wr2 ⟨rfl, rfl⟩
    have hbl := blen_nl X
    by_cases hX0 : X = 0
    · have hb0 : blen X = 0 := by rw [hX0]; rfl
      rw [hb0]
      clear hX0 hb0
      go_wp2
      go_ret
      exact ⟨rfl, hF⟩
    · have hb0 : 0 < blen X := by rw [blen_half (x := X) (by omega)]; omega
      have HB := hid (blen_shl X K hX0)
      clear hX0
      go_wp2_with fail
      refine (bits_any hl (by omega)).mono ?_
      rintro e w11 ⟨rfl, hf11⟩
      rw [HB.out]
      replace hx := hx.fwd hf11
      replace hl := hl.fwd hf11
      replace hr := hr.fwd hf11
      replace hF := hF.trans hf11
      clear hf11
      go_wp2_with fail
      refine (refBits_any hx (by omega)).mono ?_
      rintro e wr3 ⟨rfl, rfl⟩
      have hnn : (((blen X + K : Nat) : Int) != (blen X : Int) + K) = false := by simp
      go_wp2
      go_ret
      exact ⟨rfl, hF⟩

end Go.Proofs.YthaclmceppelbaaDoor
