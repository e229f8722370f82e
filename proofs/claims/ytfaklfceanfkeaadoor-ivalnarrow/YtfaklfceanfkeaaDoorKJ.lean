/- sfloat's times, multiply. -/
/- sfloat's sum, product, sumOfProduct: of values that lie in a row. -/
/- sfloat's ofNumbers: floats are taken apart, and handed on. -/
/- sfloat's Add, Sub, Mul, Fma. -/
/- sfloat's quotient. -/
/- sfloat's Div, over the quotient of what is finite and not nought. -/
import Derived.Test.YtfaklfceanfkeaaDoorXF9
import Derived.Test.YtfaklfceanfkeaaDoorXF10
import Derived.LoopN
namespace Go.Proofs.YtfaklfceanfkeaaDoor
open Go.RowKit
set_option linter.unusedVariables false

end Go.Proofs.YtfaklfceanfkeaaDoor

namespace Go.Proofs.YtfaklfceanfkeaaDoor
open Go.RowKit
set_option linter.unusedVariables false

theorem Fwd.undrew' {a w : World} (h : Fwd a w) : Fwd a.drew w := ⟨h.os, h.tape, h.output, h.size, h.block⟩
theorem cell_drew_alloc' {w : World} {o : Obj} {p : Addr} {v : Value} (h : w.drew.cell? p = some v) : (w.alloc o).drew.cell? p = some v := Fwd.cell ((Fwd.refl w).alloc o) h
theorem farset5 {w : World} {g : Nat} {a b c d e v : Value} {p : Addr} (h : p.block ≠ g) (hc : w.cell? p = some v) : (((((w.setCell ⟨g, 0, none⟩ a).setCell ⟨g, 1, none⟩ b).setCell ⟨g, 2, none⟩ c).setCell ⟨g, 3, none⟩ d).setCell ⟨g, 4, none⟩ e).cell? p = some v :=
  farset h (farset h (farset h (farset h (farset h hc))))
theorem mulV_small {s en : Bool} {n : Nat} {x : Int} {t em : Bool} {k : Nat} {y : Int} (hn : n < 9007199254740992) (hk : k < 9007199254740992) (h1 : -10000 ≤ x) (h2 : x ≤ 10000) (h3 : -10000 ≤ y) (h4 : y ≤ 10000) :
    blen ((mulV (s, en, n, x) (t, em, k, y)).getD (false, false, 0, 0)).2.2.1 ≤ 127 ∧ -20000 ≤ ((mulV (s, en, n, x) (t, em, k, y)).getD (false, false, 0, 0)).2.2.2 ∧ ((mulV (s, en, n, x) (t, em, k, y)).getD (false, false, 0, 0)).2.2.2 ≤ 20000 := by
  have hz : blen 0 ≤ 127 := by decide
  have hp : blen (n * k) ≤ 127 := by
    refine blen_of_lt (Nat.lt_of_le_of_lt (Nat.mul_le_mul (Nat.le_of_lt_succ hn) (Nat.le_of_lt_succ hk)) (by decide))
  unfold mulV
  split
  · exact ⟨hz, by decide, by decide⟩
  · split
    · exact ⟨hz, by simp, by simp⟩
    · exact ⟨hp, by simp; omega, by simp; omega⟩

end Go.Proofs.YtfaklfceanfkeaaDoor

namespace Go.Proofs.YtfaklfceanfkeaaDoor
open Go.RowKit
set_option linter.unusedVariables false
set_option linter.unusedSimpArgs false

theorem valF_small (f : Nat) : (valF f).2.2.1 < 9007199254740992 ∧ -10000 ≤ (valF f).2.2.2 ∧ (valF f).2.2.2 ≤ 10000 := by
  have h1 := vsz_lt f
  have h2 := vex_ge f
  have h3 : vex f ≤ 10000 := by have := fsz_lt f; unfold vex; split <;> omega
  unfold valF
  split
  · exact ⟨by simp, by simp, by simp⟩
  · exact ⟨h1, by simp only; omega, h3⟩

theorem isNone_nan {w : World} (f : Nat) (hf : f < 18446744073709551616) : Calls Tryd.prog 39 #[.int .u64 f] w fun e w' => e = .returned (.bool (isNan f)) ∧ w' = w := isNone_any f hf

end Go.Proofs.YtfaklfceanfkeaaDoor

namespace Go.Proofs.YtfaklfceanfkeaaDoor
open Go.RowKit
set_option linter.unusedVariables false

/-- A float with the other sign. -/
def flipF (f : Nat) : Nat := if 9223372036854775808 ≤ f then f - 9223372036854775808 else f + 9223372036854775808
theorem flip_lt {f : Nat} (h : f < 18446744073709551616) : flipF f < 18446744073709551616 := by unfold flipF; split <;> omega
theorem xor_top (g : Nat) (h : g < 2 ^ 63) : g ^^^ 2 ^ 63 = 2 ^ 63 + g := by
  apply Nat.eq_of_testBit_eq
  intro i
  rw [Nat.testBit_xor, Nat.testBit_two_pow]
  by_cases h1 : i = 63
  · subst h1
    rw [Nat.testBit_two_pow_add_eq]; simp
  · by_cases h2 : i < 63
    · rw [Nat.testBit_two_pow_add_gt h2]
      have : ¬ 63 = i := fun e => h1 e.symm
      simp [this]
    · have a : g.testBit i = false := Nat.testBit_lt_two_pow (Nat.lt_of_lt_of_le h (Nat.pow_le_pow_right (by omega) (by omega)))
      have b : (2 ^ 63 + g).testBit i = false := Nat.testBit_lt_two_pow (Nat.lt_of_lt_of_le (show 2 ^ 63 + g < 2 ^ 64 by omega) (Nat.pow_le_pow_right (by omega) (by omega)))
      have : ¬ 63 = i := fun e => h1 e.symm
      rw [a, b]; simp [this]
theorem xor_flip (f : Nat) (hf : f < 18446744073709551616) : f ^^^ 9223372036854775808 = flipF f := by
  unfold flipF
  by_cases c : 9223372036854775808 ≤ f
  · rw [if_pos c]
    have e := xor_top (f - 9223372036854775808) (by show _ < 9223372036854775808; omega)
    rw [show (2 : Nat) ^ 63 = 9223372036854775808 from rfl, show 9223372036854775808 + (f - 9223372036854775808) = f by omega] at e
    have e2 : f ^^^ 9223372036854775808 = ((f - 9223372036854775808) ^^^ 9223372036854775808) ^^^ 9223372036854775808 := by rw [e]
    rw [e2, Nat.xor_assoc, Nat.xor_self, Nat.xor_zero]
  · rw [if_neg c]
    have e := xor_top f (by show _ < 9223372036854775808; omega)
    rw [show (2 : Nat) ^ 63 = 9223372036854775808 from rfl] at e
    rw [e]; omega
theorem xor_sign (f : Nat) (hf : f < 18446744073709551616) : bits .xor .u64 (f : Int) 9223372036854775808 = (flipF f : Int) := by
  have h := bits_xor_u64_nat f 9223372036854775808 hf (by decide)
  rw [xor_flip f hf] at h
  exact h

end Go.Proofs.YtfaklfceanfkeaaDoor

namespace Go.Proofs.YtfaklfceanfkeaaDoor
open Go.RowKit
set_option linter.unusedVariables false
set_option linter.unusedSimpArgs false

/-- A quotient, rounded: o is the quotient of what is finite and not nought. -/
def divV (m : Int) (v w o : Bool × Bool × Nat × Int) : Nat × Nat :=
  if (v.2.1 = true ∧ w.2.1 = true) ∨ ((v.2.1 = false ∧ v.2.2.1 = 0) ∧ w.2.1 = false ∧ w.2.2.1 = 0) then (9221120237041090560, 16) else
  if v.2.1 = true then rdV m (v.1 != w.1, true, 0, 0) else
  if w.2.1 = true ∨ v.2.2.1 = 0 then rdV m (v.1 != w.1, false, 0, 0) else
  if w.2.2.1 = 0 then ((rdV m (v.1 != w.1, true, 0, 0)).1, 8) else rdV m o

end Go.Proofs.YtfaklfceanfkeaaDoor

namespace Go.Proofs.YtfaklfceanfkeaaDoor
open Go.RowKit
set_option linter.unusedVariables false
set_option linter.unusedSimpArgs false

/-- A quotient of floats, over that of what is finite and not nought. -/
def divF (m : Int) (f h : Nat) (o : Bool × Bool × Nat × Int) : Nat × Nat := if isNan f || isNan h then (9221120237041090560, 0) else divV m (valF f) (valF h) o

end Go.Proofs.YtfaklfceanfkeaaDoor
