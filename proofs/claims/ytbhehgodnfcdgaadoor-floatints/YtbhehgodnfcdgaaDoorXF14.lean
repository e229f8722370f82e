/- sfloat's Add, Sub, Mul, Fma. -/
import Derived.Test.YtbhehgodnfcdgaaDoorXF13
namespace Go.Proofs.YtbhehgodnfcdgaaDoor
open Go.RowKit
set_option linter.unusedVariables false

set_option maxHeartbeats 4000000 in
set_option maxRecDepth 100000 in
theorem addF_any {w : World} (hR : Ru w) (m : Int) (f h : Nat) (hf : f < 18446744073709551616) (hh : h < 18446744073709551616) :
    Calls Tryd.prog 12 #[.int .u64 f, .int .u64 h, .int .i64 m] w fun e w' => e = .returned (.tuple #[.int .u64 ((addF m f h).1 : Nat), .int .i64 ((addF m f h).2 : Nat)]) ∧ Fwd w w' := by
  have hmf : ∀ (fn : Fn) (first cap : Array Value) (w : World), (Instr.makeFunc fn first cap).run Tryd.prog w = .ok (.func fn first cap) w := fun _ _ _ _ => rfl
  have c1 := ruleOf_any m hR
  have c2 : ∀ (w1 : World), Calls Tryd.prog 24 #[.func (.func 26) #[ruleV m] #[], .slice (some ⟨w1.heap.size, 0, none⟩) 2 2] (w1.alloc (.cells #[.int .u64 f, .int .u64 h] 22)) fun e w' => e = .returned (.tuple #[.int .u64 ((addF m f h).1 : Nat), .int .i64 ((addF m f h).2 : Nat)]) ∧ Fwd (w1.alloc (.cells #[.int .u64 f, .int .u64 h] 22)) w' := fun w1 => ofNumbers_sum m f h hf hh (BlkV.made w1 _ _)
  generalize addF m f h = Z at *
  obtain ⟨z1, z2⟩ := Z
  generalize ruleV m = rv at *
  go_enter Tryd.func12, Tryd.ntmps12
  go_wp2_with fail
  refine c1.mono ?_
  rintro e w1 ⟨rfl, hf⟩
  go_wp2_with fail
  refine (c2 w1).mono ?_
  rintro e w2 ⟨rfl, hf2⟩
  go_wp2
  go_ret2
  exact ⟨ret_pair rfl rfl, (hf.alloc _).trans hf2⟩

set_option maxHeartbeats 4000000 in
set_option maxRecDepth 100000 in
theorem mulF_any {w : World} (hR : Ru w) (m : Int) (f h : Nat) (hf : f < 18446744073709551616) (hh : h < 18446744073709551616) :
    Calls Tryd.prog 13 #[.int .u64 f, .int .u64 h, .int .i64 m] w fun e w' => e = .returned (.tuple #[.int .u64 ((mulF m f h).1 : Nat), .int .i64 ((mulF m f h).2 : Nat)]) ∧ Fwd w w' := by
  have hmf : ∀ (fn : Fn) (first cap : Array Value) (w : World), (Instr.makeFunc fn first cap).run Tryd.prog w = .ok (.func fn first cap) w := fun _ _ _ _ => rfl
  have c1 := ruleOf_any m hR
  have c2 : ∀ (w1 : World), Calls Tryd.prog 24 #[.func (.func 27) #[ruleV m] #[], .slice (some ⟨w1.heap.size, 0, none⟩) 2 2] (w1.alloc (.cells #[.int .u64 f, .int .u64 h] 22)) fun e w' => e = .returned (.tuple #[.int .u64 ((mulF m f h).1 : Nat), .int .i64 ((mulF m f h).2 : Nat)]) ∧ Fwd (w1.alloc (.cells #[.int .u64 f, .int .u64 h] 22)) w' := fun w1 => ofNumbers_product m f h hf hh (BlkV.made w1 _ _)
  generalize mulF m f h = Z at *
  obtain ⟨z1, z2⟩ := Z
  generalize ruleV m = rv at *
  go_enter Tryd.func13, Tryd.ntmps13
  go_wp2_with fail
  refine c1.mono ?_
  rintro e w1 ⟨rfl, hf⟩
  go_wp2_with fail
  refine (c2 w1).mono ?_
  rintro e w2 ⟨rfl, hf2⟩
  go_wp2
  go_ret2
  exact ⟨ret_pair rfl rfl, (hf.alloc _).trans hf2⟩

/-- A float with the other sign. -/
def flipF (f : Nat) : Nat := if 9223372036854775808 ≤ f then f - 9223372036854775808 else f + 9223372036854775808
theorem flip_lt {f : Nat} (h : f < 18446744073709551616) : flipF f < 18446744073709551616 := by unfold flipF; split <;> omega
theorem xor_top (g : Nat) (h : g < 2 ^ 63) : g ^^^ 2 ^ 63 = 2 ^ 63 + g := by
  apply Nat.eq_of_testBit_eq
  intro i
  rw [Nat.testBit_xor, Nat.testBit_two_pow]
  by_cases h1 : i = 63
  · subst h1
    rw [Nat.testBit_two_pow_add_eq]; simp
  · by_cases h2 : i < 63
    · rw [Nat.testBit_two_pow_add_gt h2]
      have : ¬ 63 = i := fun e => h1 e.symm
      simp [this]
    · have a : g.testBit i = false := Nat.testBit_lt_two_pow (Nat.lt_of_lt_of_le h (Nat.pow_le_pow_right (by omega) (by omega)))
      have b : (2 ^ 63 + g).testBit i = false := Nat.testBit_lt_two_pow (Nat.lt_of_lt_of_le (show 2 ^ 63 + g < 2 ^ 64 by omega) (Nat.pow_le_pow_right (by omega) (by omega)))
      have : ¬ 63 = i := fun e => h1 e.symm
      rw [a, b]; simp [this]
theorem xor_flip (f : Nat) (hf : f < 18446744073709551616) : f ^^^ 9223372036854775808 = flipF f := by
  unfold flipF
  by_cases c : 9223372036854775808 ≤ f
  · rw [if_pos c]
    have e := xor_top (f - 9223372036854775808) (by show _ < 9223372036854775808; omega)
    rw [show (2 : Nat) ^ 63 = 9223372036854775808 from rfl, show 9223372036854775808 + (f - 9223372036854775808) = f by omega] at e
    have e2 : f ^^^ 9223372036854775808 = ((f - 9223372036854775808) ^^^ 9223372036854775808) ^^^ 9223372036854775808 := by rw [e]
    rw [e2, Nat.xor_assoc, Nat.xor_self, Nat.xor_zero]
  · rw [if_neg c]
    have e := xor_top f (by show _ < 9223372036854775808; omega)
    rw [show (2 : Nat) ^ 63 = 9223372036854775808 from rfl] at e
    rw [e]; omega
theorem xor_sign (f : Nat) (hf : f < 18446744073709551616) : bits .xor .u64 (f : Int) 9223372036854775808 = (flipF f : Int) := by
  have h := bits_xor_u64_nat f 9223372036854775808 hf (by decide)
  rw [xor_flip f hf] at h
  exact h

set_option maxHeartbeats 4000000 in
theorem subF_any {w : World} (hR : Ru w) (m : Int) (f h : Nat) (hf : f < 18446744073709551616) (hh : h < 18446744073709551616) :
    Calls Tryd.prog 21 #[.int .u64 f, .int .u64 h, .int .i64 m] w fun e w' => e = .returned (.tuple #[.int .u64 ((addF m f (flipF h)).1 : Nat), .int .i64 ((addF m f (flipF h)).2 : Nat)]) ∧ Fwd w w' := by
  have c1 := addF_any hR m f (flipF h) hf (flip_lt hh)
  have hx := xor_sign h hh
  generalize addF m f (flipF h) = Z at *
  obtain ⟨z1, z2⟩ := Z
  generalize flipF h = h' at *
  go_enter Tryd.func21, Tryd.ntmps21
  go_wp2_with fail
  refine c1.mono ?_
  rintro e w1 ⟨rfl, hf1⟩
  go_wp2
  go_ret2
  exact ⟨ret_pair rfl rfl, hf1⟩
end Go.Proofs.YtbhehgodnfcdgaaDoor
