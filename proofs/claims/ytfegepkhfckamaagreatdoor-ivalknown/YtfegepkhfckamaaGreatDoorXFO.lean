/- Floats, mathematics: a quotient by words. -/
import Derived.Test.YtfegepkhfckamaaGreatDoorXFM
namespace Go.Proofs.YtfegepkhfckamaaGreatDoor
open Go.RowKit
set_option linter.unusedVariables false

/-- Both lifted; the first one halved; by the second one's upper word. -/
def ovH (n : Nat) : Nat := dn (n * 2 ^ lsh n 0) 1
def ovY (k : Nat) : Nat := k * 2 ^ lsh k 0 / 18446744073709551616
def overV (v w : Bool × Bool × Nat × Int) : Bool × Bool × Nat × Int :=
  (v.1 != w.1, false, ovH v.2.2.1 / ovY w.2.2.1 * 18446744073709551616 + stk (ovH v.2.2.1 % ovY w.2.2.1), v.2.2.2 - (lsh v.2.2.1 0 : Int) + 1 - (w.2.2.2 - (lsh w.2.2.1 0 : Int)) - 128)
theorem lift0_ge {n : Nat} (h : n ≠ 0) (hb : blen n ≤ 128) : 170141183460469231731687303715884105728 ≤ n * 2 ^ lsh n 0 := by
  have hp := blen_pos h
  have h1 : 2 ^ (blen n - 1) ≤ n := by
    have : ¬ n < 2 ^ (blen n - 1) := fun c => by have := (blen_le_iff n (blen n - 1)).2 c; omega
    omega
  have h2 : 2 ^ (blen n - 1) * 2 ^ lsh n 0 ≤ n * 2 ^ lsh n 0 := Nat.mul_le_mul_right _ h1
  rw [← Nat.pow_add, show blen n - 1 + lsh n 0 = 127 by unfold lsh; omega] at h2
  exact h2
theorem ovY_facts {k : Nat} (h : k ≠ 0) (hk : k < 9007199254740992) : 9223372036854775808 ≤ ovY k ∧ ovY k < 18446744073709551616 ∧ k * 2 ^ lsh k 0 = ovY k * 18446744073709551616 + 0 := by
  have hb : blen k ≤ 53 := blen_of_lt hk
  have h1 := lift0_ge h (by omega)
  have h2 := lift_lt (r := 0) h (Nat.lt_trans hk (by decide))
  have e : k * 2 ^ lsh k 0 = k * 2 ^ (lsh k 0 - 64) * 18446744073709551616 := by
    rw [Nat.mul_assoc, show (18446744073709551616 : Nat) = 2 ^ 64 from rfl, ← Nat.pow_add, show lsh k 0 - 64 + 64 = lsh k 0 by unfold lsh; omega]
  unfold ovY
  rw [e] at h1 h2 ⊢
  generalize k * 2 ^ (lsh k 0 - 64) = z at *
  omega
theorem ovH_facts {n : Nat} (h : n ≠ 0) (hn : n < 9007199254740992) : 85070591730234615865843651857942052864 ≤ ovH n ∧ ovH n < 170141183460469231731687303715884105728 := by
  have hb : blen n ≤ 53 := blen_of_lt hn
  have h1 := lift0_ge h (by omega)
  have h2 := lift_lt (r := 0) h (Nat.lt_trans hn (by decide))
  have hl : 1 ≤ lsh n 0 := by unfold lsh; omega
  unfold ovH
  rw [dn_mul n (lsh n 0) 1 hl]
  have e : n * 2 ^ lsh n 0 = n * 2 ^ (lsh n 0 - 1) * 2 := by rw [Nat.mul_assoc, ← Nat.pow_succ, show (lsh n 0 - 1).succ = lsh n 0 by omega]
  rw [e] at h1 h2
  generalize n * 2 ^ (lsh n 0 - 1) = z at *
  omega
end Go.Proofs.YtfegepkhfckamaaGreatDoor
