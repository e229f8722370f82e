/- The law's Make at six: a float of middling size, with few digits. -/
import Derived.Test.YtbhehgodnfcdgaaDoorF17
import Derived.Test.YtbhehgodnfcdgaaDoorFS
namespace Go.Proofs.YtbhehgodnfcdgaaDoor
open Go.RowKit
set_option linter.unusedVariables false
set_option linter.unusedSimpArgs false

set_option maxHeartbeats 4000000 in
theorem within6_any (w : World) : Calls Tryd.prog 11 #[.int .i64 6, .int .i64 12] w fun e w' => e = .returned (.int .i64 6) ∧ w = w' := by
  go_enter Tryd.func11, Tryd.ntmps11
  go_wp2
  go_ret
  exact ⟨rfl, rfl⟩

theorem and31 (x : Nat) (hx : x < 18446744073709551616) : bits .and .u64 (x : Int) 31 = ((x % 32 : Nat) : Int) := by
  have h := bits_and_u64_nat x 31 hx (by decide)
  rw [show (31 : Nat) = 2 ^ 5 - 1 from rfl, Nat.and_two_pow_sub_one_eq_mod] at h
  exact h
theorem and255 (x : Nat) (hx : x < 18446744073709551616) : bits .and .u64 (x : Int) 255 = ((x % 256 : Nat) : Int) := by
  have h := bits_and_u64_nat x 255 hx (by decide)
  rw [show (255 : Nat) = 2 ^ 8 - 1 from rfl, Nat.and_two_pow_sub_one_eq_mod] at h
  exact h
theorem make6_or (s : Bool) {E r : Nat} (hE : E ≤ 1038) (hr : r < 4503599627370496) : bits .or .u64 ((sgn s + E * 4503599627370496 : Nat) : Int) (r : Int) = ((sgn s + (E * 4503599627370496 + r) : Nat) : Int) := by
  have hs : sgn s = 0 ∨ sgn s = 2048 * 4503599627370496 := by cases s <;> simp [sgn]
  obtain ⟨q, hq, hq2⟩ : ∃ q, sgn s = q * 4503599627370496 ∧ q ≤ 2048 := by
    rcases hs with h | h
    · exact ⟨0, by omega, by omega⟩
    · exact ⟨2048, h, by omega⟩
  have o := or_add (q + E) r 52 hr
  have e : (q + E) * 2 ^ 52 = q * 4503599627370496 + E * 4503599627370496 := Nat.add_mul q E 4503599627370496
  rw [e, Nat.add_assoc] at o
  rw [hq, bits_or_u64_nat _ _ (by omega) (by omega), o]
theorem make6_val (f : Nat) (hf : f < 18446744073709551616) : ∃ (x : Nat) (s : Bool) (F r : Nat), NF x s F r ∧ 1007 ≤ F ∧ F ≤ 1038 ∧ bits .or .u64 (bits .or .u64 (bits .and .u64 (f : Int) 9223372036854775808) (IntKind.u64.wrap (IntKind.u64.wrap (IntKind.u64.wrap (1023 + bits .and .u64 ((f : Int) / 4294967296) 31) - 16) * 4503599627370496))) (IntKind.u64.wrap (bits .and .u64 (f : Int) 255 * 17592186044416)) = (x : Int) := by
  have h1 : bits .and .u64 (f : Int) 9223372036854775808 = ((sgn (fneg f) : Nat) : Int) := by
    rw [and_sign f hf]; unfold sgn fneg; by_cases c : 9223372036854775808 ≤ f <;> simp [c]
  have h2 : (f : Int) / 4294967296 = ((f / 4294967296 : Nat) : Int) := by omega
  have h3 := and31 (f / 4294967296) (by omega)
  have h4 := and255 f hf
  rw [h1, h2, h3, h4]
  have l1 : f / 4294967296 % 32 < 32 := Nat.mod_lt _ (by omega)
  have l2 : f % 256 < 256 := Nat.mod_lt _ (by omega)
  generalize f / 4294967296 % 32 = e at *
  generalize f % 256 = b at *
  have h5 : IntKind.u64.wrap (IntKind.u64.wrap (IntKind.u64.wrap (1023 + (e : Int)) - 16) * 4503599627370496) = (((1007 + e) * 4503599627370496 : Nat) : Int) := by
    simp only [IntKind.wrap_u64]; omega
  have h6 : IntKind.u64.wrap ((b : Int) * 17592186044416) = ((b * 17592186044416 : Nat) : Int) := by
    simp only [IntKind.wrap_u64]; omega
  rw [h5, h6, or_sgn _ _ (by omega), make6_or (fneg f) (E := 1007 + e) (by omega) (by omega)]
  exact ⟨_, fneg f, 1007 + e, b * 17592186044416, ⟨rfl, by omega, by omega, by omega⟩, by omega, by omega, rfl⟩

set_option maxHeartbeats 4000000 in
set_option maxRecDepth 100000 in
theorem make6_any (w : World) (f : Nat) (hf : f < 18446744073709551616) :
    Calls Tryd.prog 10 #[.int .u64 f, .int .i64 6] w fun e w' => ∃ (x : Nat) (s : Bool) (F r : Nat), NF x s F r ∧ 1007 ≤ F ∧ F ≤ 1038 ∧ e = .returned (.int .u64 x) ∧ w = w' := by
  go_enter Tryd.func10, Tryd.ntmps10
  go_wp2_with fail
  refine (within6_any _).mono ?_
  rintro e w1 ⟨rfl, rfl⟩
  go_wp2
  go_ret
  obtain ⟨x, s, F, r, h1, h2, h3, h4⟩ := make6_val f hf
  exact ⟨x, s, F, r, h1, h2, h3, ret_int h4, rfl⟩
end Go.Proofs.YtbhehgodnfcdgaaDoor
