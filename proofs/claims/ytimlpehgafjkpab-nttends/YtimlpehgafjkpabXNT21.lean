/- Rows that are the same, read alone; mathematics of products. -/
import Derived.Test.YtimlpehgafjkpabXLNttTransforms
namespace Go.Proofs.Ytimlpehgafjkpab
open Go.RowKit Go.Maps
set_option linter.unusedVariables false
set_option linter.unusedSimpArgs false


theorem cvF_comm (f g : Nat → F) (la lb t : Nat) : cvF f la g lb t = cvF g lb f la t := by
  unfold cvF
  rw [sm_comm]
  refine sm_congr fun j _ => sm_congr fun i _ => ?_
  rw [Nat.add_comm i j]
  split
  · grind
  · rfl
theorem cvL_comm (xs ys : List Nat) : cvL xs ys = cvL ys xs := by
  unfold cvL
  rw [Nat.add_comm xs.length]
  refine List.map_congr_left fun t _ => ?_
  rw [cvF_comm]
theorem fF_cvL (xs ys : List Nat) (t : Nat) (h : t < xs.length + ys.length - 1) : fF (cvL xs ys) t = cvF (fF xs) xs.length (fF ys) ys.length t := by
  show cF ((cvL xs ys).getD t 0) = _
  rw [cvL_getD _ _ _ h, cF_v]
theorem allR_cvL (xs ys : List Nat) : allR (cvL xs ys) = true := by
  unfold allR
  rw [List.all_eq_true]
  intro x hx
  unfold cvL at hx
  obtain ⟨i, _, rfl⟩ := List.mem_map.1 hx
  exact decide_eq_true (vF_lt _)
theorem cvL_one (xs : List Nat) (hR : allR xs = true) : cvL xs [1] = xs := by
  have h1 : ([1] : List Nat).length = 1 := rfl
  refine list_ext (by rw [cvL_len, h1]; omega) fun t ht => ?_
  rw [cvL_len, h1] at ht
  have ht2 : t < xs.length := by omega
  rw [cvL_getD _ _ _ (by rw [h1]; omega)]
  refine (vF_of (allR_get hR t) ?_).symm
  unfold cvF
  rw [sm_single (j := t) ht2]
  · show fF xs t = 0 + (if t + 0 = t then fF xs t * fF [1] 0 else 0)
    rw [if_pos (by omega), show fF [1] 0 = 1 from rfl]
    grind
  · intro i _ hne
    show 0 + (if i + 0 = t then fF xs i * fF [1] 0 else 0) = 0
    rw [if_neg (by omega)]
    grind
/-- A product's transform, of lists. -/
theorem dft_cvL (xs ys : List Nat) (w : F) (n k : Nat) (h0 : 0 < xs.length) (h1 : 0 < ys.length) (h : xs.length + ys.length ≤ n + 1) : dft (fF (cvL xs ys)) w n k = dft (fF xs) w n k * dft (fF ys) w n k := by
  rw [dft_pad _ w n k (by rw [cvL_len]; omega), cvL_len, dft_pad xs w n k (by omega), dft_pad ys w n k (by omega), ← cv_dft _ _ w _ _ (xs.length + ys.length - 1) k (by omega)]
  exact dft_congr fun t ht => fF_cvL xs ys t ht
/-- Lists whose transforms are the same are the same. -/
theorem dft_inj {xs ys : List Nat} (m : Nat) (hm : m ≤ 10) (hl : xs.length = ys.length) (hn : xs.length ≤ 2 ^ m) (hx : allR xs = true) (hy : allR ys = true) (h : ∀ k, dft (fF xs) (rtF false (2 ^ m)) (2 ^ m) k = dft (fF ys) (rtF false (2 ^ m)) (2 ^ m) k) : xs = ys := by
  refine list_ext hl fun i hi => ?_
  have h1 := dft_undo (fF xs) m hm i (by omega)
  have h2 := dft_undo (fF ys) m hm i (by omega)
  rw [dft_congr (fun j _ => h j), h2] at h1
  exact cF_inj (allR_get hx i) (allR_get hy i) h1.symm
theorem cvL_assoc (xs ys zs : List Nat) (hx : 0 < xs.length) (hy : 0 < ys.length) (hz : 0 < zs.length) (hl : xs.length + ys.length + zs.length ≤ 1026) : cvL (cvL xs ys) zs = cvL xs (cvL ys zs) := by
  have l1 := cvL_len xs ys
  have l2 := cvL_len ys zs
  refine dft_inj 10 (by omega) (by rw [cvL_len, l1, cvL_len, l2]; omega) (by rw [cvL_len, l1]; omega) (allR_cvL _ _) (allR_cvL _ _) fun k => ?_
  rw [dft_cvL _ _ _ _ _ (by omega) hz (by omega), dft_cvL _ _ _ _ _ hx hy (by omega), dft_cvL _ _ _ _ _ hx (by omega) (by omega), dft_cvL _ _ _ _ _ hy hz (by omega)]
  grind
/-- The last number of a product. -/
theorem cvL_last (xs ys : List Nat) (hx : 0 < xs.length) (hy : 0 < ys.length) : (cvL xs ys).getD (xs.length + ys.length - 1 - 1) 0 = xs.getD (xs.length - 1) 0 * ys.getD (ys.length - 1) 0 % 998244353 := by
  rw [cvL_getD _ _ _ (by omega)]
  refine (vF_of (Nat.mod_lt _ (by omega)) ?_).symm
  rw [cF_mod, cF_mul]
  unfold cvF
  rw [sm_single (j := xs.length - 1) (by omega)]
  · rw [sm_single (j := ys.length - 1) (by omega)]
    · rw [if_pos (by omega)]; rfl
    · intro k hk hne
      rw [if_neg (by omega)]
  · intro i hi hne
    rw [sm_congr (g := fun _ => (0 : F)) (fun k hk => by rw [if_neg (by omega)]), sm_zero]
end Go.Proofs.Ytimlpehgafjkpab
