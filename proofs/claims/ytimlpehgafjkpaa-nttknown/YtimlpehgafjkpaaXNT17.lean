/- Mathematics: products of polynomials, transforms undone. -/
import Derived.Test.YtimlpehgafjkpaaXNT15
import Derived.Test.YtimlpehgafjkpaaXNT16
namespace Go.Proofs.Ytimlpehgafjkpaa
set_option linter.unusedVariables false
set_option linter.unusedSimpArgs false

/-- A product's number t. -/
def cvF (f : Nat → F) (la : Nat) (g : Nat → F) (lb t : Nat) : F := sm (fun i => sm (fun k => if i + k = t then f i * g k else 0) lb) la
/-- The product of two polynomials. -/
def cvL (xs ys : List Nat) : List Nat := (List.range (xs.length + ys.length - 1)).map fun t => vF (cvF (fF xs) xs.length (fF ys) ys.length t)
theorem cvL_len (xs ys : List Nat) : (cvL xs ys).length = xs.length + ys.length - 1 := by simp [cvL]
theorem cvL_getD (xs ys : List Nat) (t : Nat) (h : t < xs.length + ys.length - 1) : (cvL xs ys).getD t 0 = vF (cvF (fF xs) xs.length (fF ys) ys.length t) := by simp [cvL, h]

theorem fF_none (xs : List Nat) (i : Nat) (h : xs.length ≤ i) : fF xs i = 0 := by
  unfold fF
  rw [List.getD_eq_getElem?_getD, List.getElem?_eq_none h]
  exact cF_zero
theorem dft_pad (xs : List Nat) (w : F) (n k : Nat) (h : xs.length ≤ n) : dft (fF xs) w n k = dft (fF xs) w xs.length k := by
  obtain ⟨d, rfl⟩ : ∃ d, n = xs.length + d := ⟨n - xs.length, by omega⟩
  unfold dft
  rw [sm_append, sm_congr (g := fun _ => (0 : F)) (n := d) (fun i _ => by rw [fF_none xs (xs.length + i) (by omega)]; grind), sm_zero]
  grind
theorem sm_prod (f g : Nat → F) (n m : Nat) : sm (fun i => sm (fun k => f i * g k) m) n = sm f n * sm g m := by
  rw [sm_congr (g := fun i => sm g m * f i) (fun i _ => by rw [sm_mul]; grind), sm_mul]
  grind

/-- The transform of a product is the product. -/
theorem cv_dft (f g : Nat → F) (w : F) (la lb n k : Nat) (h : la + lb ≤ n + 1) : dft (cvF f la g lb) w n k = dft f w la k * dft g w lb k := by
  unfold dft
  have h1 : ∀ t, cvF f la g lb t * w ^ (t * k) = sm (fun i => sm (fun j => if i + j = t then f i * g j * w ^ (t * k) else 0) lb) la := by
    intro t
    unfold cvF
    rw [show ∀ x y : F, x * y = y * x from fun x y => by grind, ← sm_mul]
    refine sm_congr fun i _ => ?_
    rw [← sm_mul]
    refine sm_congr fun j _ => ?_
    by_cases e : i + j = t
    · rw [if_pos e, if_pos e]; grind
    · rw [if_neg e, if_neg e]; grind
  rw [sm_congr (fun t _ => h1 t), sm_comm, ← sm_prod]
  refine sm_congr fun i hi => ?_
  rw [sm_comm]
  refine sm_congr fun j hj => ?_
  rw [sm_single (j := i + j) (by omega)]
  · rw [if_pos rfl, Nat.add_mul, rpow_add]
    grind
  · intro t _ hne
    rw [if_neg (fun e => hne e.symm)]

theorem sm_ones (n : Nat) : sm (fun _ => (1 : F)) n = cF n := by
  induction n with
  | zero => rfl
  | succ n ih => rw [sm, ih, cF_add, cF_one]
theorem three_no : 3 % 998244353 ≠ 0 := by decide
theorem rt_undo (n : Nat) : rtF true n * rtF false n = 1 := by
  unfold rtF
  rw [if_pos rfl, if_neg (by simp), ← mul_rpow, iv_mul three_no, one_rpow]
theorem three_one (e : Nat) (he : e = 998244352) : cF 3 ^ e = 1 := fermat_one three_no e he
theorem rt_one_of (n : Nat) (h : 998244352 / n = 998244352) : rtF false n = 1 := by
  unfold rtF
  rw [if_neg (by simp)]
  exact three_one _ h
theorem rt_one : rtF false 1 = 1 := rt_one_of 1 (Nat.div_one _)
theorem sh_undo (n : Nat) (h0 : 0 < n) (h1 : n ≤ 1024) : cF n * shF true n = 1 := by
  unfold shF
  rw [if_pos rfl]
  have := iv_mul (a := n) (by omega)
  generalize ivF (cF n) = y at *
  generalize cF n = x at *
  grind

/-- Back, it is as it was. -/
theorem dft_undo (l : Nat → F) (m : Nat) (hm : m ≤ 10) (k : Nat) (hk : k < 2 ^ m) :
    dft (fun i => dft l (rtF false (2 ^ m)) (2 ^ m) i) (rtF true (2 ^ m)) (2 ^ m) k * shF true (2 ^ m) = l k := by
  have hp : 2 ^ m ≤ 2 ^ 10 := Nat.pow_le_pow_right (by omega) hm
  have hsh := sh_undo (2 ^ m) (Nat.two_pow_pos m) (by omega)
  cases m with
  | zero =>
    obtain rfl : k = 0 := by simpa using hk
    rw [Nat.pow_zero] at hsh ⊢
    unfold dft
    show (0 + (0 + l 0 * rtF false 1 ^ (0 * 0)) * rtF true 1 ^ (0 * 0)) * shF true 1 = l 0
    rw [Nat.zero_mul, rpow_zero, rpow_zero]
    rw [cF_one] at hsh
    grind
  | succ t =>
    have h := dft_back l (rtF false (2 ^ (t + 1))) (rtF true (2 ^ (t + 1))) t k (rt_half false (by omega)) (rt_undo _) hk
    rw [h, sm_ones]
    grind
end Go.Proofs.Ytimlpehgafjkpaa
