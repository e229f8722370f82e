/- Mathematics: the fast way, step by step; its roots. -/
import Derived.Test.YtimlpehgafjkpaaXNT10
namespace Go.Proofs.Ytimlpehgafjkpaa
open Go.RowKit Go.Maps
set_option linter.unusedVariables false
set_option linter.unusedSimpArgs false

theorem neg_one_odd (k : Nat) : (-1 : F) ^ (2 * k + 1) = -1 := by
  rw [rpow_add, rpow_one, rpow_mul, show (2 : Nat) = 1 + 1 from rfl, rpow_add, rpow_one, show (-1 : F) * -1 = 1 by grind, one_rpow]
  grind
theorem rpow_comm (a : F) (m n : Nat) : (a ^ m) ^ n = (a ^ n) ^ m := by rw [← rpow_mul, ← rpow_mul, Nat.mul_comm]
theorem iv_half : ivF (cF 3) ^ 499122176 = -1 := by
  unfold ivF
  rw [rpow_comm, three_half]
  exact neg_one_odd 499122175
theorem part_half : ∀ t, t < 10 → 998244352 / 2 ^ (t + 1) * 2 ^ t = 499122176 := by decide
theorem part_twice : ∀ t, t < 10 → 998244352 / 2 ^ (t + 1) + 998244352 / 2 ^ (t + 1) = 998244352 / 2 ^ t := by decide
theorem rt_half (back : Bool) {t : Nat} (ht : t < 10) : rtF back (2 ^ (t + 1)) ^ (2 ^ t) = -1 := by
  unfold rtF
  cases back with
  | false => rw [if_neg (by simp), ← rpow_mul, part_half t ht, three_half]
  | true => rw [if_pos rfl, ← rpow_mul, part_half t ht, iv_half]
theorem rt_twice (back : Bool) {t : Nat} (ht : t < 10) : rtF back (2 ^ (t + 1)) * rtF back (2 ^ (t + 1)) = rtF back (2 ^ t) := by
  unfold rtF
  cases back with
  | false => rw [if_neg (by simp), if_neg (by simp), ← rpow_add, part_twice t ht]
  | true => rw [if_pos rfl, if_pos rfl, ← rpow_add, part_twice t ht]

/-- What stands in the places when sums of 2^t points each are made. -/
def SInv (back : Bool) (m t : Nat) (l f : Nat → F) : Prop :=
  ∀ i, i < 2 ^ m → f i = dft (fun j => l (rev (m - t) (i / 2 ^ t) + 2 ^ (m - t) * j)) (rtF back (2 ^ t)) (2 ^ t) (i % 2 ^ t)

theorem SInv.start {back : Bool} {m : Nat} {L M : List Nat} (hS : Scat m (2 ^ m) L M) (hm : m ≤ 10) : SInv back m 0 (fF L) (fF M) := by
  intro i hi
  have hp : 2 ^ m ≤ 2 ^ 10 := Nat.pow_le_pow_right (by omega) hm
  have h := hS i (by omega)
  rw [if_pos ⟨hi, .inl hi⟩] at h
  show cF (M.getD i 0) = _
  rw [h]
  unfold dft
  rw [Nat.pow_zero, Nat.sub_zero, Nat.div_one, Nat.mod_one]
  show _ = 0 + fF L (rev m i + 2 ^ m * 0) * rtF back 1 ^ (0 * 0)
  rw [Nat.mul_zero, Nat.mul_zero, Nat.add_zero, rpow_zero]
  show fF L (rev m i) = _
  grind

theorem SInv.step {back : Bool} {m t : Nat} {l f f' : Nat → F} (hm : m ≤ 10) (ht : t < m) (hI : SInv back m t l f) (hf : ∀ i, i < 2 ^ m → f' i = btF (2 ^ t) (rtF back (2 ^ (t + 1))) f i) : SInv back m (t + 1) l f' := by
  intro i hi
  obtain ⟨q, hq⟩ : ∃ q, m - t = q + 1 := ⟨m - t - 1, by omega⟩
  have hq2 : m - (t + 1) = q := by omega
  have hw := rt_half back (t := t) (by omega)
  have hww := rt_twice back (t := t) (by omega)
  have hmm : 2 ^ m = 2 * 2 ^ t * 2 ^ q := by rw [← Nat.pow_succ', ← Nat.pow_add]; congr 1; omega
  have ht1 : 2 ^ (t + 1) = 2 * 2 ^ t := by rw [Nat.pow_succ']
  have hh0 := Nat.two_pow_pos t
  unfold SInv at hI
  rw [hq] at hI
  rw [hf i hi, hq2, ht1]
  rw [ht1] at hw hww
  unfold btF
  rw [hmm] at hi hI
  generalize 2 ^ t = h at *
  generalize rtF back (2 * h) = w at *
  generalize rtF back h = v at *
  have hlt : i % (2 * h) < 2 * h := Nat.mod_lt _ (by omega)
  have hdm := Nat.div_add_mod i (2 * h)
  generalize hb : i / (2 * h) = b at *
  generalize hr : i % (2 * h) = r at *
  have hbq : b < 2 ^ q := by
    rw [← hb]
    exact Nat.div_lt_of_lt_mul hi
  have hb2 : 2 * h * b = h * (2 * b) := by rw [Nat.mul_comm 2 h, Nat.mul_assoc]
  have hnext : 2 * h * b + 2 * h ≤ 2 * h * 2 ^ q := by
    have := Nat.mul_le_mul_left (2 * h) hbq
    rwa [Nat.mul_succ] at this
  have hp2 : 2 ^ (q + 1) = 2 * 2 ^ q := by rw [Nat.pow_succ']
  have hev : ∀ j, l (rev (q + 1) (2 * b) + 2 ^ (q + 1) * j) = l (rev q b + 2 ^ q * (2 * j)) := fun j => by
    rw [rev_even, hp2]; congr 2; grind
  have hod : ∀ j, l (rev (q + 1) (2 * b + 1) + 2 ^ (q + 1) * j) = l (rev q b + 2 ^ q * (2 * j + 1)) := fun j => by
    rw [rev_odd, hp2]; congr 1; grind
  by_cases hrh : r < h
  · rw [if_pos hrh]
    have d1 : i / h = 2 * b := by
      rw [← hdm, hb2, Nat.mul_add_div hh0, Nat.div_eq_of_lt hrh]; omega
    have d2 : i % h = r := by rw [← hdm, hb2, Nat.mul_add_mod, Nat.mod_eq_of_lt hrh]
    have d3 : (i + h) / h = 2 * b + 1 := by rw [Nat.add_div_right _ hh0, d1]
    have d4 : (i + h) % h = r := by rw [Nat.add_mod_right, d2]
    rw [hI i hi, hI (i + h) (by omega), d1, d2, d3, d4, dft_step, hww]
    congr 1
    · exact dft_congr fun j _ => hev j
    · congr 1
      exact dft_congr fun j _ => hod j
  · rw [if_neg hrh]
    obtain ⟨s, hs⟩ : ∃ s, r = s + h := ⟨r - h, by omega⟩
    have hsh : s < h := by omega
    subst hs
    have d1 : i / h = 2 * b + 1 := by
      rw [← hdm, hb2, Nat.mul_add_div hh0, Nat.add_div_right _ hh0, Nat.div_eq_of_lt hsh]
    have d2 : i % h = s := by rw [← hdm, hb2, Nat.mul_add_mod, Nat.add_mod_right, Nat.mod_eq_of_lt hsh]
    have hih : i - h = h * (2 * b) + s := by omega
    have d3 : (i - h) / h = 2 * b := by rw [hih, Nat.mul_add_div hh0, Nat.div_eq_of_lt hsh]; omega
    have d4 : (i - h) % h = s := by rw [hih, Nat.mul_add_mod, Nat.mod_eq_of_lt hsh]
    rw [hI i hi, hI (i - h) (by omega), d1, d2, d3, d4, dft_step2 _ _ _ _ hw, hww, Nat.add_sub_cancel]
    congr 1
    · exact dft_congr fun j _ => hev j
    · congr 1
      exact dft_congr fun j _ => hod j

theorem SInv.done {back : Bool} {m : Nat} {l f : Nat → F} (hI : SInv back m m l f) : ∀ i, i < 2 ^ m → f i = dft l (rtF back (2 ^ m)) (2 ^ m) i := by
  intro i hi
  rw [hI i hi, Nat.sub_self, Nat.mod_eq_of_lt hi]
  refine dft_congr fun j _ => ?_
  show l (rev 0 _ + 2 ^ 0 * j) = l j
  rw [rev, Nat.pow_zero, Nat.one_mul, Nat.zero_add]
end Go.Proofs.Ytimlpehgafjkpaa
