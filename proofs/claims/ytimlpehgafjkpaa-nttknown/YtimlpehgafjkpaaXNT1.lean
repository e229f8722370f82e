/- Mathematics of transforms: sums, powers in a ring, how a transform is made of two of half the size, and undone. Nothing of the program is named here. -/

namespace Go.Proofs.Ytimlpehgafjkpaa
set_option linter.unusedVariables false
set_option linter.unusedSimpArgs false

/-- The remainders. -/
abbrev F : Type := Fin 998244353
/-- The sum of the first n. -/
def sm (f : Nat → F) : Nat → F
  | 0 => 0
  | n + 1 => sm f n + f n

theorem rpow_zero (a : F) : a ^ 0 = 1 := rfl
theorem rpow_succ (a : F) (n : Nat) : a ^ (n + 1) = a ^ n * a := rfl
theorem rmul_one (a : F) : a * 1 = a := by grind

theorem sm_congr {f g : Nat → F} {n : Nat} (h : ∀ i, i < n → f i = g i) : sm f n = sm g n := by
  induction n with
  | zero => rfl
  | succ n ih => rw [sm, sm, ih (fun i hi => h i (by omega)), h n (by omega)]
theorem sm_add (f g : Nat → F) (n : Nat) : sm (fun i => f i + g i) n = sm f n + sm g n := by
  induction n with
  | zero => simp only [sm]; grind
  | succ n ih => simp only [sm, ih]; grind
theorem sm_mul (c : F) (f : Nat → F) (n : Nat) : sm (fun i => c * f i) n = c * sm f n := by
  induction n with
  | zero => simp only [sm]; grind
  | succ n ih => simp only [sm, ih]; grind
theorem sm_zero (n : Nat) : sm (fun _ => (0 : F)) n = 0 := by
  induction n with
  | zero => rfl
  | succ n ih => simp only [sm, ih]; grind
theorem sm_comm (f : Nat → Nat → F) (n m : Nat) : sm (fun i => sm (fun j => f i j) m) n = sm (fun j => sm (fun i => f i j) n) m := by
  induction n with
  | zero => simp only [sm]; rw [sm_zero]
  | succ n ih => simp only [sm, ih]; rw [sm_add]
theorem sm_append (f : Nat → F) (n m : Nat) : sm f (n + m) = sm f n + sm (fun i => f (n + i)) m := by
  induction m with
  | zero => simp only [sm, Nat.add_zero]; grind
  | succ m ih => rw [← Nat.add_assoc]; simp only [sm, ih]; grind
theorem sm_pairs (f : Nat → F) (h : Nat) : sm f (2 * h) = sm (fun i => f (2 * i)) h + sm (fun i => f (2 * i + 1)) h := by
  induction h with
  | zero => simp only [sm, Nat.mul_zero]; grind
  | succ h ih => rw [show 2 * (h + 1) = 2 * h + 1 + 1 by omega]; simp only [sm, ih]; grind
theorem sm_single {f : Nat → F} {n j : Nat} (hj : j < n) (h : ∀ i, i < n → i ≠ j → f i = 0) : sm f n = f j := by
  induction n with
  | zero => omega
  | succ n ih =>
    rw [sm]
    by_cases e : j = n
    · subst e
      rw [sm_congr (g := fun _ => 0) (fun i hi => h i (by omega) (by omega)), sm_zero]; grind
    · rw [ih (by omega) (fun i hi hne => h i (by omega) hne), h n (by omega) (by omega)]; grind
theorem sm_head (f : Nat → F) (n : Nat) : sm f (n + 1) = f 0 + sm (fun i => f (i + 1)) n := by
  rw [Nat.add_comm, sm_append]
  have : sm f 1 = f 0 := by simp only [sm]; grind
  rw [this]
  congr 2
  funext i
  rw [Nat.add_comm]

theorem rpow_add (a : F) (m n : Nat) : a ^ (m + n) = a ^ m * a ^ n := by
  induction n with
  | zero => rw [Nat.add_zero, rpow_zero]; grind
  | succ n ih => rw [← Nat.add_assoc, rpow_succ, rpow_succ, ih]; grind
theorem rpow_one (a : F) : a ^ 1 = a := by rw [show 1 = 0 + 1 from rfl, rpow_succ, rpow_zero]; grind
theorem one_rpow (n : Nat) : (1 : F) ^ n = 1 := by
  induction n with
  | zero => exact rpow_zero 1
  | succ n ih => rw [rpow_succ, ih]; grind
theorem rpow_mul (a : F) (m n : Nat) : a ^ (m * n) = (a ^ m) ^ n := by
  induction n with
  | zero => rw [Nat.mul_zero, rpow_zero, rpow_zero]
  | succ n ih => rw [Nat.mul_succ, rpow_add, ih, rpow_succ]
theorem mul_rpow (a b : F) (n : Nat) : (a * b) ^ n = a ^ n * b ^ n := by
  induction n with
  | zero => simp only [rpow_zero]; grind
  | succ n ih => simp only [rpow_succ, ih]; grind

/-- The sums that a transform is made of. -/
def dft (l : Nat → F) (w : F) (n k : Nat) : F := sm (fun j => l j * w ^ (j * k)) n

theorem dft_congr {l m : Nat → F} {w : F} {n k : Nat} (h : ∀ i, i < n → l i = m i) : dft l w n k = dft m w n k :=
  sm_congr fun i hi => by rw [h i hi]

/-- One step of the fast way. -/
theorem dft_step (l : Nat → F) (w : F) (h k : Nat) : dft l w (2 * h) k = dft (fun j => l (2 * j)) (w * w) h k + w ^ k * dft (fun j => l (2 * j + 1)) (w * w) h k := by
  unfold dft
  rw [sm_pairs, ← sm_mul]
  congr 1
  · refine sm_congr fun j hj => ?_
    show l (2 * j) * w ^ (2 * j * k) = l (2 * j) * (w * w) ^ (j * k)
    rw [mul_rpow, ← rpow_add]
    congr 2
    grind
  · refine sm_congr fun j hj => ?_
    show l (2 * j + 1) * w ^ ((2 * j + 1) * k) = w ^ k * (l (2 * j + 1) * (w * w) ^ (j * k))
    rw [mul_rpow, ← rpow_add, show (2 * j + 1) * k = k + (j * k + j * k) by grind, rpow_add]
    grind
theorem dft_round (l : Nat → F) (w : F) (n k : Nat) (hw : w ^ n = 1) : dft l w n (k + n) = dft l w n k := by
  unfold dft
  refine sm_congr fun j hj => ?_
  rw [show j * (k + n) = j * k + n * j by grind, rpow_add, rpow_mul w n j, hw, one_rpow]
  grind
theorem dft_step2 (l : Nat → F) (w : F) (h k : Nat) (hw : w ^ h = -1) : dft l w (2 * h) (k + h) = dft (fun j => l (2 * j)) (w * w) h k - w ^ k * dft (fun j => l (2 * j + 1)) (w * w) h k := by
  have h1 : (w * w) ^ h = 1 := by rw [mul_rpow, hw]; grind
  rw [dft_step, dft_round _ _ _ _ h1, dft_round _ _ _ _ h1, rpow_add, hw]
  grind

/-- All powers of a root, summed up, are nought. -/
theorem sum_root (t : Nat) : ∀ (w : F) (i : Nat), w ^ (2 ^ t) = -1 → 0 < i → i < 2 ^ (t + 1) → sm (fun k => w ^ (i * k)) (2 ^ (t + 1)) = 0 := by
  induction t with
  | zero =>
    intro w i hw h0 h1
    obtain rfl : i = 1 := by simp at h1; omega
    rw [Nat.pow_zero, rpow_one] at hw
    show 0 + w ^ (1 * 0) + w ^ (1 * 1) = 0
    rw [Nat.mul_zero, Nat.mul_one, rpow_zero, rpow_one, hw]
    grind
  | succ t ih =>
    intro w i hw h0 h1
    have e : 2 ^ (t + 1 + 1) = 2 ^ (t + 1) + 2 ^ (t + 1) := by rw [Nat.pow_succ]; omega
    rw [e, sm_append]
    rcases Nat.mod_two_eq_zero_or_one i with hi | hi
    · obtain ⟨j, rfl⟩ : ∃ j, i = 2 * j := ⟨i / 2, by omega⟩
      have hw2 : (w * w) ^ (2 ^ t) = -1 := by rw [mul_rpow, ← rpow_add, ← Nat.two_mul, Nat.mul_comm, ← Nat.pow_succ]; exact hw
      have hs : ∀ k, w ^ (2 * j * k) = (w * w) ^ (j * k) := fun k => by rw [mul_rpow, ← rpow_add]; congr 1; grind
      have h3 := ih (w * w) j hw2 (by omega) (by omega)
      have h4 : sm (fun k => w ^ (2 * j * k)) (2 ^ (t + 1)) = 0 := by rw [← h3]; exact sm_congr fun k _ => hs k
      have h5 : sm (fun k => w ^ (2 * j * (2 ^ (t + 1) + k))) (2 ^ (t + 1)) = 0 := by
        rw [← h3]
        refine sm_congr fun k _ => ?_
        rw [Nat.mul_add, rpow_add, hs k, show 2 * j * 2 ^ (t + 1) = 2 ^ (t + 1) * 2 * j by grind, rpow_mul, rpow_mul, hw, show (2 : Nat) = 1 + 1 from rfl, rpow_add, rpow_one, show (-1 : F) * -1 = 1 by grind, one_rpow]
        grind
      rw [h4, h5]; grind
    · obtain ⟨j, rfl⟩ : ∃ j, i = 2 * j + 1 := ⟨i / 2, by omega⟩
      have : sm (fun k => w ^ ((2 * j + 1) * (2 ^ (t + 1) + k))) (2 ^ (t + 1)) = sm (fun k => (-1) * w ^ ((2 * j + 1) * k)) (2 ^ (t + 1)) := by
        refine sm_congr fun k _ => ?_
        rw [Nat.mul_add, rpow_add, show (2 * j + 1) * 2 ^ (t + 1) = 2 ^ (t + 1) * 2 * j + 2 ^ (t + 1) by grind, rpow_add, rpow_mul, rpow_mul, hw, show (2 : Nat) = 1 + 1 from rfl, rpow_add, rpow_one, show (-1 : F) * -1 = 1 by grind, one_rpow]
        grind
      rw [this, sm_mul]
      grind

/-- Of what is transformed once, and once more, by u where u w is one, each number is left, so many times. -/
theorem dft_back (l : Nat → F) (w u : F) (t k : Nat) (hw : w ^ (2 ^ t) = -1) (hu : u * w = 1) (hk : k < 2 ^ (t + 1)) :
    dft (fun i => dft l w (2 ^ (t + 1)) i) u (2 ^ (t + 1)) k = sm (fun _ => 1) (2 ^ (t + 1)) * l k := by
  have hup : ∀ m, u ^ m * w ^ m = 1 := fun m => by rw [← mul_rpow, hu, one_rpow]
  have hun : u ^ (2 ^ t) = -1 := by have := hup (2 ^ t); rw [hw] at this; grind
  generalize hn : 2 ^ (t + 1) = n at *
  have h0 := hn
  unfold dft
  have h1 : sm (fun j => sm (fun i => l i * w ^ (i * j)) n * u ^ (j * k)) n = sm (fun i => l i * sm (fun j => w ^ (i * j) * u ^ (j * k)) n) n := by
    rw [sm_congr (g := fun j => sm (fun i => l i * (w ^ (i * j) * u ^ (j * k))) n), sm_comm]
    · refine sm_congr fun i _ => ?_
      rw [← sm_mul]
    · intro j _
      rw [show ∀ x y : F, x * y = y * x from fun x y => by grind, ← sm_mul]
      refine sm_congr fun i _ => ?_
      grind
  rw [h1]
  rw [sm_single (j := k) hk]
  · rw [sm_congr (g := fun _ => 1)]
    · grind
    · intro j _
      rw [Nat.mul_comm j k]; have := hup (k * j); grind
  · intro i hi hne
    have h2 : sm (fun j => w ^ (i * j) * u ^ (j * k)) n = 0 := by
      rcases Nat.lt_or_gt_of_ne hne with hlt | hgt
      · rw [sm_congr (g := fun j => u ^ ((k - i) * j))]
        · rw [← hn]; exact sum_root t u (k - i) hun (by omega) (by omega)
        · intro j _
          rw [show j * k = i * j + (k - i) * j by rw [← Nat.add_mul, Nat.mul_comm]; congr 1; omega, rpow_add]
          have := hup (i * j); grind
      · rw [sm_congr (g := fun j => w ^ ((i - k) * j))]
        · rw [← hn]; exact sum_root t w (i - k) hw (by omega) (by omega)
        · intro j _
          rw [show i * j = j * k + (i - k) * j by rw [Nat.mul_comm j k, ← Nat.add_mul]; congr 1; omega, rpow_add]
          have := hup (j * k); grind
    rw [h2]; grind

end Go.Proofs.Ytimlpehgafjkpaa
