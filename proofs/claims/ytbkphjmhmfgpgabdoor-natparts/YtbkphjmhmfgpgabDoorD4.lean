/- Numbers of the long division. -/
import Derived.Test.YtbkphjmhmfgpgabDoorD3
namespace Go.Proofs.YtbkphjmhmfgpgabDoor
open Go.RowKit
set_option linter.unusedVariables false

theorem fits_aux {P T U a x y D : Nat} (h : a + P * (x + T * y) < P * (4294967296 * D)) (e : T = U * 4294967296) (hD : D < U) : x < 4294967296 * D ∧ y = 0 := by
  have h1 : P * (x + T * y) < P * (4294967296 * D) := by omega
  have h2 := Nat.lt_of_mul_lt_mul_left h1
  rcases Nat.eq_zero_or_pos y with h0 | h0
  · subst h0; exact ⟨by omega, rfl⟩
  · have h3 : T * 1 ≤ T * y := Nat.mul_le_mul_left _ h0
    omega

theorem pow_next (i : Nat) : 4294967296 ^ (i + 1) = 4294967296 ^ i * 4294967296 := by rw [Nat.pow_succ]

theorem long_fits {A xs post : List Nat} {D i p : Nat} (hA : A.length = i) (hl : xs.length = p + 3) (hD : D < 4294967296 ^ (p + 2)) (h : val (A ++ (xs ++ post)) < 4294967296 ^ (i + 1) * D) : val xs < 4294967296 * D ∧ val post = 0 := by
  rw [val_append, val_append, hA, hl, pow_next i, Nat.mul_assoc] at h
  exact fits_aux h (pow_next (p + 2)) hD

theorem long_next {A xs zs post : List Nat} {D i q M d : Nat} (hA : A.length = i) (hok : Ok A) (hl : zs.length = xs.length) (hp : val post = 0) (hM : M = q * (4294967296 ^ (i + 1) * D) + val (A ++ (xs ++ post))) (hx : val xs = d * D + val zs) (hz : val zs < D) :
    M = (d + 4294967296 * q) * (4294967296 ^ i * D) + val (A ++ (zs ++ post)) ∧ val (A ++ (zs ++ post)) < 4294967296 ^ i * D := by
  rw [val_append, val_append, hA, hp, pow_next i, hx] at hM
  rw [val_append, val_append, hA, hp]
  have h1 := val_lt hok
  rw [hA] at h1
  generalize 4294967296 ^ i = P at *
  constructor
  · rw [hM]; grind
  · have : P * (val zs + 1) ≤ P * D := Nat.mul_le_mul_left _ hz
    rw [Nat.mul_add, Nat.mul_one] at this
    simp only [Nat.mul_zero, Nat.add_zero]
    omega

theorem long_start {m n k : Nat} (hn : n ≠ 0) (hle : nl n ≤ nl m) : m * 2 ^ k < 4294967296 ^ (nl m - nl n + 1) * (n * 2 ^ k) := by
  rw [← Nat.mul_assoc]
  refine Nat.mul_lt_mul_of_pos_right ?_ (Nat.two_pow_pos k)
  have h1 := lt_pow_nl m
  have h2 := nl_ge_pow hn
  have h3 : 4294967296 ^ (nl m - nl n + 1) * 4294967296 ^ (nl n - 1) ≤ 4294967296 ^ (nl m - nl n + 1) * n := Nat.mul_le_mul_left _ h2
  have hp := nl_pos hn
  rw [← Nat.pow_add, show nl m - nl n + 1 + (nl n - 1) = nl m by omega] at h3
  omega

theorem long_end {m n k q r : Nat} (h : m * 2 ^ k = q * (n * 2 ^ k) + r) (hr : r < n * 2 ^ k) : q = m / n ∧ r / 2 ^ k = m % n := by
  have hp := Nat.two_pow_pos k
  generalize 2 ^ k = P at *
  have h1 : q * n ≤ m := by
    have : q * n * P ≤ m * P := by rw [Nat.mul_assoc]; omega
    exact Nat.le_of_mul_le_mul_right this hp
  obtain ⟨s, rfl⟩ : ∃ s, m = q * n + s := ⟨m - q * n, by omega⟩
  have hs : r = s * P := by rw [Nat.add_mul, Nat.mul_assoc] at h; omega
  subst hs
  have hs : s < n := Nat.lt_of_mul_lt_mul_right hr
  rw [Nat.mul_div_cancel _ hp, Nat.mul_comm q n]
  exact ⟨by rw [Nat.mul_add_div (by omega), Nat.div_eq_of_lt hs]; rfl, by rw [Nat.mul_add_mod, Nat.mod_eq_of_lt hs]⟩

theorem top_pos {ys : List Nat} {p : Nat} (hok : Ok ys) (hl : ys.length = p + 2) (h : 4294967296 ^ (p + 1) ≤ val ys) : 0 < ys.getD (p + 1) 0 := by
  rcases Nat.eq_zero_or_pos (ys.getD (p + 1) 0) with h0 | h0
  · exfalso
    have e := val_take_succ ys (p + 1)
    rw [val_take_all (by omega), h0] at e
    have := val_take_lt hok (p + 1)
    omega
  · exact h0

theorem shift_fits {n k : Nat} (hn : n ≠ 0) (hk : k = 32 - blen ((lim n).getD (nl n - 1) 0)) : k < 32 ∧ n * 2 ^ k < 4294967296 ^ nl n := by
  have h1 := blen_limbs hn
  have h2 : 0 < blen ((lim n).getD (nl n - 1) 0) := by
    rcases Nat.eq_zero_or_pos (blen ((lim n).getD (nl n - 1) 0)) with h | h
    · exfalso
      have h3 := (blen_le_iff _ 0).1 (Nat.le_of_eq h)
      have h4 := top_limb hn
      have h5 := nl_ge_pow hn
      have h6 : 1 ≤ n / 4294967296 ^ (nl n - 1) := (Nat.le_div_iff_mul_le (Nat.pow_pos (by omega))).2 (by omega)
      omega
    · exact h
  have h3 : blen ((lim n).getD (nl n - 1) 0) ≤ 32 := (blen_le_iff _ 32).2 ((ok_lim n).getD _)
  have hp := nl_pos hn
  refine ⟨by omega, ?_⟩
  have h4 := (blen_le_iff n (blen n)).1 (Nat.le_refl _)
  have h5 : n * 2 ^ k < 2 ^ blen n * 2 ^ k := Nat.mul_lt_mul_of_pos_right h4 (Nat.two_pow_pos k)
  rw [← Nat.pow_add, show blen n + k = 32 * nl n by omega, ← pow32] at h5
  exact h5

theorem fit_more (m k : Nat) (hk : k < 32) : m * 2 ^ k < 4294967296 ^ (nl m + 1) := by
  rw [pow_next]
  have h2 : 2 ^ k ≤ 4294967296 := by
    have : 2 ^ k ≤ 2 ^ 32 := Nat.pow_le_pow_right (by omega) (by omega)
    exact this
  exact Nat.lt_of_le_of_lt (Nat.mul_le_mul_left m h2) (Nat.mul_lt_mul_of_pos_right (lt_pow_nl m) (by omega))

theorem small_take {R : List Nat} {c : Nat} (h : val R < 4294967296 ^ c) (hc : c ≤ R.length) : val (R.take c) = val R := by
  have e := val_split R c hc
  generalize 4294967296 ^ c = P at *
  rcases Nat.eq_zero_or_pos (val (R.drop c)) with h0 | h0
  · rw [h0] at e; omega
  · have : P * 1 ≤ P * val (R.drop c) := Nat.mul_le_mul_left _ h0
    omega

theorem cut3 (R : List Nat) (i c : Nat) : R.take i ++ ((R.drop i).take c ++ R.drop (i + c)) = R := by
  rw [← List.drop_drop, List.take_append_drop, List.take_append_drop]

end Go.Proofs.YtbkphjmhmfgpgabDoor
