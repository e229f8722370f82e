/- Mathematics: Fermat's little theorem for the prime. -/
import Derived.Test.YtimlpehgafjkpaaXNT3
namespace Go.Proofs.Ytimlpehgafjkpaa
set_option linter.unusedVariables false
set_option linter.unusedSimpArgs false

/-- Ways to choose. -/
def ch : Nat → Nat → Nat
  | _, 0 => 1
  | 0, _ + 1 => 0
  | n + 1, k + 1 => ch n k + ch n (k + 1)
theorem ch_zero (n : Nat) : ch n 0 = 1 := by cases n <;> rfl
theorem ch_none : ∀ (n k : Nat), n < k → ch n k = 0
  | 0, 0, h => absurd h (by omega)
  | 0, k + 1, _ => rfl
  | n + 1, 0, h => absurd h (by omega)
  | n + 1, k + 1, h => by rw [ch, ch_none n k (by omega), ch_none n (k + 1) (by omega)]
theorem ch_self : ∀ n, ch n n = 1
  | 0 => rfl
  | n + 1 => by rw [ch, ch_self n, ch_none n (n + 1) (by omega)]
theorem ch_absorb : ∀ n k, (k + 1) * ch (n + 1) (k + 1) = (n + 1) * ch n k := by
  intro n
  induction n with
  | zero =>
    intro k
    cases k with
    | zero => rfl
    | succ k =>
      show (k + 1 + 1) * (0 + 0) = (0 + 1) * 0
      omega
  | succ n ih =>
    intro k
    cases k with
    | zero =>
      have h := ih 0
      rw [ch_zero] at h ⊢
      rw [ch, ch_zero]
      omega
    | succ k =>
      have h1 := ih k
      have h2 := ih (k + 1)
      have e1 : ch (n + 1 + 1) (k + 1 + 1) = ch (n + 1) (k + 1) + ch (n + 1) (k + 1 + 1) := by rw [ch]
      have e2 : ch (n + 1) (k + 1) = ch n k + ch n (k + 1) := by rw [ch]
      rw [e1]
      grind
theorem binomial (x : F) (n : Nat) : (x + 1) ^ n = sm (fun k => cF (ch n k) * x ^ k) (n + 1) := by
  induction n with
  | zero =>
    show _ = 0 + cF (ch 0 0) * x ^ 0
    rw [rpow_zero, rpow_zero, ch_zero, cF_one]
    grind
  | succ n ih =>
    rw [rpow_succ, ih]
    rw [sm_head (fun k => cF (ch (n + 1) k) * x ^ k)]
    have h1 : sm (fun i => cF (ch (n + 1) (i + 1)) * x ^ (i + 1)) (n + 1) = x * sm (fun k => cF (ch n k) * x ^ k) (n + 1) + sm (fun i => cF (ch n (i + 1)) * x ^ (i + 1)) (n + 1) := by
      rw [← sm_mul, ← sm_add]
      refine sm_congr fun i _ => ?_
      show cF (ch n i + ch n (i + 1)) * x ^ (i + 1) = _
      rw [cF_add, rpow_add, rpow_one]
      grind
    have h2 : sm (fun k => cF (ch n k) * x ^ k) (n + 1) = cF (ch n 0) * x ^ 0 + sm (fun i => cF (ch n (i + 1)) * x ^ (i + 1)) (n + 1) := by
      rw [sm_head]
      congr 1
      show _ = sm (fun i => cF (ch n (i + 1)) * x ^ (i + 1)) n + cF (ch n (n + 1)) * x ^ (n + 1)
      rw [ch_none n (n + 1) (by omega), cF_zero]
      grind
    rw [h1, ch_zero, rpow_zero, cF_one]
    rw [ch_zero, rpow_zero, cF_one] at h2
    grind

/-- No divisor among so many, from d on. -/
def noDiv : Nat → Nat → Bool
  | 0, _ => true
  | f + 1, d => (998244353 % d != 0) && noDiv f (d + 1)
theorem noDiv_true : noDiv 31600 2 = true := by decide +kernel
theorem noDiv_at : ∀ f d, noDiv f d = true → ∀ e, d ≤ e → e < d + f → 998244353 % e ≠ 0 := by
  intro f
  induction f with
  | zero => intro d _ e h1 h2; omega
  | succ f ih =>
    intro d h e h1 h2
    unfold noDiv at h
    rw [Bool.and_eq_true] at h
    by_cases he : e = d
    · subst he
      simpa using h.1
    · exact ih (d + 1) h.2 e (by omega) (by omega)
theorem prime_P (e : Nat) (h1 : 2 ≤ e) (h2 : e < 998244353) : ¬ e ∣ 998244353 := by
  intro hd
  obtain ⟨c, hc⟩ := hd
  have hno := noDiv_at 31600 2 noDiv_true
  by_cases he : e < 31602
  · exact hno e h1 (by omega) (by rw [hc]; exact Nat.mul_mod_right e c)
  · by_cases hcc : c < 31602
    · have hc2 : 2 ≤ c := by
        rcases Nat.lt_or_ge c 2 with h | h
        · have : c = 0 ∨ c = 1 := by omega
          rcases this with rfl | rfl <;> omega
        · exact h
      exact hno c hc2 (by omega) (by rw [hc]; exact Nat.mul_mod_left e c)
    · have := Nat.mul_le_mul (show 31602 ≤ e by omega) (show 31602 ≤ c by omega)
      omega
theorem coprime_P {k : Nat} (h1 : 0 < k) (h2 : k < 998244353) : Nat.Coprime 998244353 k := by
  have hg1 := Nat.gcd_dvd_left 998244353 k
  have hg2 := Nat.gcd_dvd_right 998244353 k
  have hle := Nat.le_of_dvd h1 hg2
  have hpos : 0 < Nat.gcd 998244353 k := Nat.gcd_pos_of_pos_left _ (by omega)
  show Nat.gcd 998244353 k = 1
  generalize Nat.gcd 998244353 k = d at *
  rcases Nat.lt_or_ge d 2 with h | h
  · omega
  · exact absurd hg1 (prime_P d h (by omega))

theorem ch_prime {k : Nat} (h1 : 0 < k) (h2 : k < 998244353) : cF (ch 998244353 k) = 0 := by
  rw [cF_eq_zero]
  obtain ⟨j, rfl⟩ : ∃ j, k = j + 1 := ⟨k - 1, by omega⟩
  have h := ch_absorb 998244352 j
  have hd : 998244353 ∣ (j + 1) * ch 998244353 (j + 1) := ⟨ch 998244352 j, h⟩
  exact Nat.mod_eq_zero_of_dvd ((coprime_P h1 h2).dvd_of_dvd_mul_left hd)

/-- Fermat's little theorem. -/
theorem fermat_step (x : F) (n : Nat) (hn : n = 998244353) : (x + 1) ^ n = x ^ n + 1 := by
  have hch : ∀ k, 0 < k → k < n → cF (ch n k) = 0 := fun k h1 h2 => by subst hn; exact ch_prime h1 h2
  rw [binomial, sm, ch_self, cF_one]
  obtain ⟨m, rfl⟩ : ∃ m, n = m + 1 := ⟨n - 1, by omega⟩
  rw [sm_head]
  rw [sm_congr (g := fun _ => (0 : F)) (fun i hi => by rw [hch (i + 1) (by omega) (by omega)]; grind), sm_zero, ch_zero, rpow_zero, cF_one]
  grind
theorem fermat_nat (a n : Nat) (hn : n = 998244353) : cF a ^ n = cF a := by
  induction a with
  | zero =>
    rw [cF_zero]
    obtain ⟨m, rfl⟩ : ∃ m, n = m + 1 := ⟨n - 1, by omega⟩
    rw [rpow_succ]
    grind
  | succ a ih => rw [cF_add, cF_one, fermat_step _ n hn, ih]

/-- What is no multiple of the prime may be struck. -/
theorem strike {a : Nat} (h : a % 998244353 ≠ 0) {z : F} (hz : cF a * z = 0) : z = 0 := by
  have h1 : 0 < a % 998244353 := by omega
  have h2 : a % 998244353 < 998244353 := Nat.mod_lt _ (by omega)
  have hc := coprime_P h1 h2
  have h3 : cF (a % 998244353 * vF z) = 0 := by rw [cF_mul, cF_mod, cF_v]; exact hz
  have h4 := Nat.dvd_of_mod_eq_zero (cF_eq_zero.1 h3)
  have h5 := hc.dvd_of_dvd_mul_left h4
  have h6 := vF_lt z
  have h7 : vF z = 0 := by
    rcases Nat.eq_zero_or_pos (vF z) with h | h
    · exact h
    · have := Nat.le_of_dvd h h5; omega
  have := cF_v z
  rw [h7, cF_zero] at this
  exact this.symm
theorem fermat_one {a : Nat} (h : a % 998244353 ≠ 0) (n : Nat) (hn : n = 998244352) : cF a ^ n = 1 := by
  have h1 := fermat_nat a (n + 1) (by omega)
  rw [rpow_succ] at h1
  have h2 : cF a * (cF a ^ n - 1) = 0 := by grind
  have h3 := strike h h2
  grind
theorem iv_pow (x : F) (n : Nat) (hn : n = 998244351) : x ^ n = ivF x := by subst hn; rfl
theorem iv_mul {a : Nat} (h : a % 998244353 ≠ 0) : ivF (cF a) * cF a = 1 := by
  obtain ⟨n, hn⟩ : ∃ n, n = 998244351 := ⟨_, rfl⟩
  rw [← iv_pow _ n hn, ← rpow_succ]
  exact fermat_one h (n + 1) (by omega)
theorem iv_zero {a : Nat} (h : a % 998244353 = 0) : ivF (cF a) = 0 := by
  obtain ⟨n, hn⟩ : ∃ n, n = 998244350 := ⟨_, rfl⟩
  rw [← iv_pow _ (n + 1) (by omega), rpow_succ, cF_eq_zero.2 h]
  grind
end Go.Proofs.Ytimlpehgafjkpaa
