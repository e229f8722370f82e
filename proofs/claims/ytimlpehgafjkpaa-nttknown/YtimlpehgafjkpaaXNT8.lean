/- Contracts: bits, read backwards. -/
import Derived.Test.YtimlpehgafjkpaaXNT7
namespace Go.Proofs.Ytimlpehgafjkpaa
open Go.RowKit Go.Maps
set_option linter.unusedVariables false
set_option linter.unusedSimpArgs false

/-- Neighbours exchanged, d the power of two between them. -/
def swB (m d x : Int) : Int := bits .or .u64 (bits .and .u64 (x / d) m) (IntKind.u64.wrap (bits .and .u64 x m * d))
def rbI (x : Int) : Int := bits .or .u64 (swB 281470681808895 65536 (swB 71777214294589695 256 x) / 4294967296) (IntKind.u64.wrap (swB 281470681808895 65536 (swB 71777214294589695 256 x) * 4294967296))
def rvI (x : Int) : Int := rbI (swB 1085102592571150095 16 (swB 3689348814741910323 4 (swB 6148914691236517205 2 x)))

theorem rb64 (w : World) (x : Int) : Calls Try.prog 43 #[.int .u64 x] w fun e w' => e = .returned (.int .u64 (rbI x)) ∧ w' = w := by
  go_enter Try.func43, Try.ntmps43
  go_wp2_with fail
  go_ret
  exact ⟨rfl, rfl⟩
theorem r64 (w : World) (x : Int) : Calls Try.prog 41 #[.int .u64 x] w fun e w' => e = .returned (.int .u64 (rvI x)) ∧ w' = w := by
  go_enter Try.func41, Try.ntmps41
  go_wp2_with fail
  refine (rb64 _ _).mono ?_
  rintro e w1 ⟨rfl, rfl⟩
  go_wp2_with fail
  go_ret
  exact ⟨rfl, rfl⟩
theorem Reverse_any (w : World) (x : Int) : Calls Try.prog 35 #[.int .u64 x] w fun e w' => e = .returned (.int .u64 (rvI x)) ∧ w' = w := by
  go_enter Try.func35, Try.ntmps35
  go_wp2_with fail
  refine (r64 _ _).mono ?_
  rintro e w1 ⟨rfl, rfl⟩
  go_wp2_with fail
  go_ret
  exact ⟨rfl, rfl⟩

/-- So many bits, read backwards. -/
def rev : Nat → Nat → Nat
  | 0, _ => 0
  | q + 1, b => rev q (b / 2) + 2 ^ q * (b % 2)
def revOk : Bool := (List.range 11).all fun m => (List.range (2 ^ m)).all fun k => decide (rvI (k : Int) / 2 ^ (64 - m) = (rev m k : Int))
theorem revOk_true : revOk = true := by decide +kernel
theorem rv_rev {m k : Nat} (hm : m ≤ 10) (hk : k < 2 ^ m) : rvI (k : Int) / 2 ^ (64 - m) = (rev m k : Int) := by
  have h := revOk_true
  unfold revOk at h
  rw [List.all_eq_true] at h
  have h1 := h m (List.mem_range.2 (by omega))
  rw [List.all_eq_true] at h1
  exact of_decide_eq_true (h1 k (List.mem_range.2 hk))
theorem rev_lt (m : Nat) : ∀ k, rev m k < 2 ^ m := by
  induction m with
  | zero => intro k; simp [rev]
  | succ m ih =>
    intro k
    have h1 := ih (k / 2)
    have h2 : 2 ^ m * (k % 2) ≤ 2 ^ m * 1 := Nat.mul_le_mul_left _ (by omega)
    rw [rev, Nat.pow_succ]
    omega
theorem rev_even (q b : Nat) : rev (q + 1) (2 * b) = rev q b := by
  rw [rev, show 2 * b / 2 = b by omega, show 2 * b % 2 = 0 by omega]; omega
theorem rev_odd (q b : Nat) : rev (q + 1) (2 * b + 1) = rev q b + 2 ^ q := by
  rw [rev, show (2 * b + 1) / 2 = b by omega, show (2 * b + 1) % 2 = 1 by omega]; omega
def revTwice : Bool := (List.range 11).all fun m => (List.range (2 ^ m)).all fun k => decide (rev m (rev m k) = k)
theorem revTwice_true : revTwice = true := by decide +kernel
theorem rev_rev {m k : Nat} (hm : m ≤ 10) (hk : k < 2 ^ m) : rev m (rev m k) = k := by
  have h := revTwice_true
  unfold revTwice at h
  rw [List.all_eq_true] at h
  have h1 := h m (List.mem_range.2 (by omega))
  rw [List.all_eq_true] at h1
  exact of_decide_eq_true (h1 k (List.mem_range.2 hk))
end Go.Proofs.Ytimlpehgafjkpaa
