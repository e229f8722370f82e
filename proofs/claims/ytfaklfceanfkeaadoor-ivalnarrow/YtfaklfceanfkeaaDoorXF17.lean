/- The laws of floats: within, Make, known. -/
import Derived.Test.YtfaklfceanfkeaaDoorKJ
namespace Go.Proofs.YtfaklfceanfkeaaDoor
open Go.RowKit
set_option linter.unusedVariables false
set_option linter.unusedSimpArgs false

set_option maxHeartbeats 1000000 in
/-- within: a number from 0 on, below n. -/
theorem within3_any (w : World) (a : Int) (n : Nat) (hn : 0 < n) (hn2 : n ≤ 1000000000) (ha1 : -9223372036854775808 ≤ a) (ha2 : a ≤ 9223372036854775807) :
    Calls Tryd.prog 38 #[.int .i64 a, .int .i64 n] w fun e w' => ∃ k : Nat, k < n ∧ e = .returned (.int .i64 k) ∧ w = w' := by
  by_cases h0 : 0 ≤ a
  · have h1 : a % n < n := Int.emod_lt_of_pos _ (by omega)
    have h2 : 0 ≤ a % n := Int.emod_nonneg _ (by omega)
    have hnz : (n : Int) ≠ 0 := by omega
    go_enter Tryd.func38, Tryd.ntmps38
    go_wp2
    go_ret
    refine ⟨(a % n).toNat, by omega, ret_int (by omega), rfl⟩
  · have hb : ∃ b : Int, a = -b ∧ 0 < b := ⟨-a, by omega, by omega⟩
    obtain ⟨b, hb, hb0⟩ := hb
    have h3 : a.tmod n = -(b % n) := by rw [hb, Int.neg_tmod, Int.tmod_eq_emod_of_nonneg (by omega)]
    have h1 : b % n < n := Int.emod_lt_of_pos _ (by omega)
    have h2 : 0 ≤ b % n := Int.emod_nonneg _ (by omega)
    have hnz : (n : Int) ≠ 0 := by omega
    obtain ⟨t, ht⟩ : ∃ t, t = b % n := ⟨_, rfl⟩
    rw [← ht] at h1 h2 h3
    clear ht hb
    by_cases ht0 : t = 0
    · have h4 : ¬ (-t < 0) := by omega
      have HT := hid ht0
      subst ht0
      simp only [Int.neg_zero] at h3
      go_enter Tryd.func38, Tryd.ntmps38
      go_wp2
      go_ret
      exact ⟨0, hn, ret_int (by omega), rfl⟩
    · have h4 : -t < 0 := by omega
      go_enter Tryd.func38, Tryd.ntmps38
      go_wp2
      go_ret
      exact ⟨(n - t).toNat, by omega, ret_int (by omega), rfl⟩

theorem bits_nat (op : BinOp) (a b : Int) : ∃ x : Nat, x < 18446744073709551616 ∧ bits op .u64 a b = (x : Int) := by
  unfold bits
  simp only [IntKind.wrap_u64]
  refine ⟨(_ % 18446744073709551616 : Int).toNat, ?_, (Int.toNat_of_nonneg (Int.emod_nonneg _ (by decide))).symm⟩
  have := Int.emod_lt_of_pos ((match op with | .and => BitVec.ofInt IntKind.u64.bits a &&& BitVec.ofInt IntKind.u64.bits b | .or => BitVec.ofInt IntKind.u64.bits a ||| BitVec.ofInt IntKind.u64.bits b | .xor => BitVec.ofInt IntKind.u64.bits a ^^^ BitVec.ofInt IntKind.u64.bits b | _ => BitVec.ofInt IntKind.u64.bits a &&& ~~~BitVec.ofInt IntKind.u64.bits b).toNat : Int) (show (0 : Int) < 18446744073709551616 by decide)
  omega
theorem ret_u64 {z : Int} {w : World} (h : ∃ x : Nat, x < 18446744073709551616 ∧ z = (x : Int)) : ∃ x : Nat, x < 18446744073709551616 ∧ Ending.returned (.int .u64 z) = .returned (.int .u64 x) ∧ w = w := by
  obtain ⟨x, hx, rfl⟩ := h; exact ⟨x, hx, rfl, rfl⟩

set_option maxHeartbeats 4000000 in
set_option maxRecDepth 100000 in
theorem make3_any (w : World) (f : Nat) (n : Int) (hf : f < 18446744073709551616) (hn1 : -9223372036854775808 ≤ n) (hn2 : n ≤ 9223372036854775807) :
    Calls Tryd.prog 22 #[.int .u64 f, .int .i64 n] w fun e w' => ∃ x : Nat, x < 18446744073709551616 ∧ e = .returned (.int .u64 x) ∧ w = w' := by
  go_enter Tryd.func22, Tryd.ntmps22
  go_wp2_with fail
  refine (within3_any _ n 12 (by omega) (by omega) hn1 hn2).mono ?_
  rintro e w1 ⟨k, hk, rfl, rfl⟩
  clear hn1 hn2
  obtain rfl | rfl | rfl | rfl | rfl | rfl | rfl | rfl | rfl | rfl | rfl | rfl : k = 0 ∨ k = 1 ∨ k = 2 ∨ k = 3 ∨ k = 4 ∨ k = 5 ∨ k = 6 ∨ k = 7 ∨ k = 8 ∨ k = 9 ∨ k = 10 ∨ k = 11 := by omega
  all_goals clear hk
  all_goals go_wp2
  all_goals go_ret
  all_goals first
    | exact ret_u64 (bits_nat _ _ _)
    | exact ⟨f, hf, rfl, rfl⟩

theorem known_div : divF 0 4607182418800017408 0 (false, false, 0, 0) = (9218868437227405312, 8) := by decide +kernel
theorem known_add : addF 0 4607182418800017408 4607182418800017408 = (4611686018427387904, 0) := by decide +kernel
theorem known_nought : (valF 0).2.2.1 = 0 := by decide +kernel

end Go.Proofs.YtfaklfceanfkeaaDoor
