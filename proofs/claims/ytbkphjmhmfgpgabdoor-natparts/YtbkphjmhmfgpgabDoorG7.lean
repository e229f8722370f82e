/- Contracts of nat's gcdShort and Gcd. -/
import Derived.Test.YtbkphjmhmfgpgabDoorG6
import Derived.Test.YtbkphjmhmfgpgabDoorD8
namespace Go.Proofs.YtbkphjmhmfgpgabDoor
open Go.RowKit
set_option linter.unusedVariables false

set_option maxHeartbeats 4000000 in
theorem gcdShort_any {w : World} {x y : Value} {X Y : Nat} (hx : Num w x X) (hy : Num w y Y) (hX : nl X ≤ 10000000) (hY : nl Y ≤ 2) :
    Calls Tryd.prog 37 #[x, y] w fun e w' => ∃ v, e = .returned v ∧ Num w' v (Nat.gcd X Y) ∧ Fwd w w' := by
  obtain ⟨bo, cb, rfl, hcb, hcmb, hcellb⟩ := hy.parts
  unfold maxLen at hcmb
  clear hcellb
  by_cases h0 : Y = 0
  · have h1 : nl Y = 0 := by rw [h0, nl_zero]
    have H0 := hid h0
    rw [h1]
    clear h0
    go_enter Tryd.func37, Tryd.ntmps37
    go_wp2
    go_ret
    refine ⟨_, rfl, ?_, Fwd.refl _⟩
    rw [H0.out, Nat.gcd_zero_right]; exact hx
  · have hpos : 0 < nl Y := by rw [nl_pos h0]; omega
    have hne : ((nl Y : Int) == 0) = false := by simp; omega
    have H0 := hid h0
    have hYb : Y < 18446744073709551616 := nl_le_two.1 hY
    have hml : X % Y < Y := Nat.mod_lt _ (Nat.pos_of_ne_zero h0)
    have hmb : X % Y < 18446744073709551616 := by omega
    have HSY : Hid (smallV Y = .tuple #[.int .u64 Y, .bool true]) := hid (by rw [smallV, if_pos hYb])
    have HSM : Hid (smallV (X % Y) = .tuple #[.int .u64 (X % Y : Nat), .bool true]) := hid (by rw [smallV, if_pos hmb])
    have hnm : nl (X % Y) ≤ 2 := nl_le_two.2 hmb
    have HST : Hid (Nat.gcd Y (X % Y) = Nat.gcd X Y) := hid (by rw [Nat.gcd_comm Y, ← Nat.gcd_rec, Nat.gcd_comm])
    clear h0
    go_enter Tryd.func37, Tryd.ntmps37
    go_wp2_with fail
    refine (divide_any hx hy hX (by omega) H0.out).mono ?_
    rintro e w1 ⟨q, r, rfl, hq, hr, hf1⟩
    have hy1 := hy.fwd hf1
    go_wp2_with fail
    refine (small_any hy1 (by omega)).mono ?_
    rintro e w2 ⟨rfl, hf2⟩
    rw [HSY.out]
    have hr2 := hr.fwd hf2
    go_wp2_with fail
    refine (small_any hr2 (by omega)).mono ?_
    rintro e w3 ⟨rfl, hf3⟩
    rw [HSM.out]
    have HF := hid ((hf1.trans hf2).trans hf3)
    clear hf1 hf2 hf3 hq hr hr2 hy1 hx hy HSY HSM
    generalize X % Y = M at *
    go_wp2
    go_loopw [7, 9] (fun u v wr => ∃ U V : Nat, u = .int .u64 U ∧ v = .int .u64 V ∧ U < 18446744073709551616 ∧ V < 18446744073709551616 ∧ Nat.gcd U V = Nat.gcd X Y ∧ Fwd w wr) (fun _ v _ => (intOf v).toNat)
    case atStart => exact ⟨Y, M, rfl, rfl, hYb, hmb, HST.out, HF.out⟩
    case round =>
      obtain ⟨U, V, rfl, rfl, hU, hV, hg, hfw⟩ := hrel
      have HG := hid hg
      clear hg
      by_cases hv0 : V = 0
      · subst hv0
        go_wp2_with fail
        refine (of_any _ U hU).mono ?_
        rintro e w4 ⟨v, rfl, hv, hf4⟩
        go_wp2
        go_ret
        refine ⟨_, rfl, ?_, hfw.trans hf4⟩
        rw [← HG.out, Nat.gcd_zero_right]; exact hv
      · have hvn : ((V : Int) == 0) = false := by simp; omega
        have hvn2 : ((V : Int) != 0) = true := by simp; omega
        have hUi := u64_le hU
        have hVi := u64_le hV
        have HV0 := hid hv0
        have hv0p : 0 < V := Nat.pos_of_ne_zero hv0
        have hmod := Nat.mod_lt U hv0p
        have er0 : (U : Int) % (V : Int) = ((U % V : Nat) : Int) := (Int.natCast_emod _ _).symm
        obtain ⟨r, hr⟩ : ∃ r, r = U % V := ⟨_, rfl⟩
        rw [← hr] at hmod er0
        have br : (r : Int) ≤ 18446744073709551615 := by omega
        have HRR := hid hr
        clear hv0 hr
        go_wp2_with fail
        go_quiet (fail)
        go_wp2
        go_roundw
        case rel =>
          refine ⟨V, r, rfl, by first | rfl | rw [er0], hV, by omega, ?_, hfw.drewN _⟩
          rw [← HG.out, HRR.out, Nat.gcd_comm V, ← Nat.gcd_rec, Nat.gcd_comm]
        case measure =>
          first | rw [er0] | skip
          simp only [intOf, Int.toNat_natCast]; omega

end Go.Proofs.YtbkphjmhmfgpgabDoor
