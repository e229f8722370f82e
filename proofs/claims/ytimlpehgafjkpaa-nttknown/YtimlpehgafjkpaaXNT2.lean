/- The remainders by the prime as a ring. -/
import Derived.Test.YtimlpehgafjkpaaXNT1
namespace Go.Proofs.Ytimlpehgafjkpaa
set_option linter.unusedVariables false
set_option linter.unusedSimpArgs false

def cF (x : Nat) : F := Fin.ofNat 998244353 x
def vF (x : F) : Nat := x.val
theorem cF_add (a b : Nat) : cF (a + b) = cF a + cF b := by
  unfold cF
  apply Fin.ext
  rw [Fin.val_add]
  simp [Fin.ofNat]
theorem cF_mul (a b : Nat) : cF (a * b) = cF a * cF b := by
  unfold cF
  apply Fin.ext
  rw [Fin.val_mul]
  simp [Fin.ofNat, Nat.mul_mod]
theorem cF_mod (a : Nat) : cF (a % 998244353) = cF a := by
  unfold cF
  apply Fin.ext
  simp [Fin.ofNat]
theorem vF_lt (x : F) : vF x < 998244353 := x.isLt
theorem cF_v (x : F) : cF (vF x) = x := by
  unfold cF vF
  apply Fin.ext
  simp [Fin.ofNat]
theorem vF_c (a : Nat) : vF (cF a) = a % 998244353 := rfl
theorem vF_c_lt {a : Nat} (h : a < 998244353) : vF (cF a) = a := by rw [vF_c, Nat.mod_eq_of_lt h]
theorem cF_zero : cF 0 = 0 := rfl
theorem cF_one : cF 1 = 1 := rfl
theorem vF_inj {x y : F} (h : vF x = vF y) : x = y := Fin.ext h
theorem vF_zero : vF 0 = 0 := rfl
theorem vF_one : vF 1 = 1 := rfl
theorem cF_inj {a b : Nat} (ha : a < 998244353) (hb : b < 998244353) (h : cF a = cF b) : a = b := by
  have := congrArg vF h
  rwa [vF_c_lt ha, vF_c_lt hb] at this
theorem cF_prime : cF 998244353 = 0 := by rw [← cF_mod]; rfl
theorem cF_sub {a b : Nat} (h : b ≤ a) : cF (a - b) = cF a - cF b := by
  have : cF a = cF (a - b) + cF b := by rw [← cF_add, Nat.sub_add_cancel h]
  rw [this]; grind
theorem cF_pow (a n : Nat) : cF (a ^ n) = cF a ^ n := by
  induction n with
  | zero => rw [Nat.pow_zero, rpow_zero]; rfl
  | succ n ih => rw [Nat.pow_succ, cF_mul, ih, rpow_succ]
theorem cF_eq_zero {a : Nat} : cF a = 0 ↔ a % 998244353 = 0 := by
  constructor
  · intro h
    have := congrArg vF h
    rwa [vF_c, vF_zero] at this
  · intro h
    apply vF_inj
    rw [vF_c, vF_zero, h]

/-- A power's remainder, reckoned by squares. -/
def pmF : Nat → Nat → Nat → Nat
  | 0, _, _ => 1
  | f + 1, a, n => if n % 2 = 1 then a * pmF f (a * a % 998244353) (n / 2) % 998244353 else pmF f (a * a % 998244353) (n / 2)
theorem pmF_c (f : Nat) : ∀ a n, n < 2 ^ f → cF (pmF f a n) = cF a ^ n := by
  induction f with
  | zero =>
    intro a n h
    obtain rfl : n = 0 := by simpa using h
    rw [rpow_zero]; rfl
  | succ f ih =>
    intro a n h
    have hn : n / 2 < 2 ^ f := by rw [Nat.pow_succ] at h; omega
    have hsq : cF (pmF f (a * a % 998244353) (n / 2)) = cF a ^ (n / 2 + n / 2) := by rw [ih _ _ hn, cF_mod, cF_mul, mul_rpow, rpow_add]
    unfold pmF
    split
    · rename_i h1
      rw [cF_mod, cF_mul, hsq]
      have e : n = n / 2 + n / 2 + 1 := by omega
      rw [show cF a ^ n = cF a ^ (n / 2 + n / 2 + 1) by rw [← e], rpow_succ]
      grind
    · rename_i h1
      have e : n = n / 2 + n / 2 := by omega
      rw [hsq, ← e]

/-- Three to half of what the prime has is minus one. -/
theorem three_half : cF 3 ^ 499122176 = -1 := by
  rw [← pmF_c 29 3 499122176 (by decide)]
  have : pmF 29 3 499122176 = 998244352 := by decide +kernel
  rw [this]
  have h := cF_add 998244352 1
  rw [show 998244352 + 1 = 998244353 from rfl, cF_prime, cF_one] at h
  grind

end Go.Proofs.Ytimlpehgafjkpaa
