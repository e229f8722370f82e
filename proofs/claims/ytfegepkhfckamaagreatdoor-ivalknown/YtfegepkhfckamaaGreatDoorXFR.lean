/- Floats, mathematics: a rational number as a value. -/
import Derived.Test.YtfegepkhfckamaaGreatDoorXFO
namespace Go.Proofs.YtfegepkhfckamaaGreatDoor
open Go.RowKit
set_option linter.unusedVariables false

/-- A rational number's size as the program's ratio tells it: the shift; both terms, shifted; the value. -/
def rtS (N D : Nat) : Int := 63 - ((blen N : Int) - (blen D : Int))
def rtN (N D : Nat) : Nat := N * 2 ^ (rtS N D).toNat
def rtD (N D : Nat) : Nat := D * 2 ^ (-(rtS N D)).toNat
def ratV (s : Bool) (N D : Nat) : Bool × Bool × Nat × Int := (s, false, rtN N D / rtD N D * 18446744073709551616 + stk (rtN N D % rtD N D), -(rtS N D) - 64)
theorem rtD_pos {N D : Nat} (h : D ≠ 0) : 0 < rtD N D := Nat.mul_pos (by omega) (Nat.two_pow_pos _)
theorem rt_lt {N D : Nat} (h : D ≠ 0) : rtN N D / rtD N D < 18446744073709551616 := by
  have hp := rtD_pos (N := N) h
  rw [Nat.div_lt_iff_lt_mul hp]
  have h1 := lt_blen N
  have h2 : 2 ^ (blen D - 1) ≤ D := by
    have hb := blen_pos h
    have : ¬ D < 2 ^ (blen D - 1) := fun c => by have := (blen_le_iff D (blen D - 1)).2 c; omega
    omega
  have hb := blen_pos h
  have h3 : rtN N D < 2 ^ (blen N + (rtS N D).toNat) := by
    unfold rtN; rw [Nat.pow_add]; exact Nat.mul_lt_mul_of_pos_right h1 (Nat.two_pow_pos _)
  have h4 : 2 ^ (blen D - 1 + (-(rtS N D)).toNat) ≤ rtD N D := by
    unfold rtD; rw [Nat.pow_add]; exact Nat.mul_le_mul_right _ h2
  have h5 : 2 ^ (blen N + (rtS N D).toNat) = 2 ^ 64 * 2 ^ (blen D - 1 + (-(rtS N D)).toNat) := by
    rw [← Nat.pow_add]; congr 1; unfold rtS; omega
  rw [h5] at h3
  exact Nat.lt_of_lt_of_le h3 (Nat.mul_le_mul_left _ h4)
theorem rtS_zero {D : Nat} : rtN 0 D = 0 := by unfold rtN; omega
end Go.Proofs.YtfegepkhfckamaaGreatDoor
