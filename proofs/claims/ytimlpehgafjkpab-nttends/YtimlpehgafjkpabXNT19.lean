/- Contract: the second telling's Conv. -/
import Derived.Test.YtimlpehgafjkpabXNT18
namespace Go.Proofs.Ytimlpehgafjkpab
open Go.RowKit Go.Maps
set_option linter.unusedVariables false
set_option linter.unusedSimpArgs false

/-- How far the sums are: i rows whole, and k numbers of the next. -/
def CInv (xs ys : List Nat) (n i k : Nat) (Z : List Nat) : Prop := Z.length = n ∧ ∀ t, t < n → Z.getD t 0 < 998244353 ∧ fF Z t = cvF (fF xs) i (fF ys) ys.length t + sm (fun j => if i + j = t then fF xs i * fF ys j else 0) k
theorem CInv.start (xs ys : List Nat) (n : Nat) : CInv xs ys n 0 0 (List.replicate n 0) := by
  refine ⟨List.length_replicate, fun t ht => ?_⟩
  have hz : (List.replicate n 0).getD t 0 = 0 := by simp [List.getD_eq_getElem?_getD, List.getElem?_replicate, ht]
  refine ⟨by rw [hz]; omega, ?_⟩
  show cF ((List.replicate n 0).getD t 0) = 0 + 0
  rw [hz, cF_zero]; grind
theorem CInv.row {xs ys : List Nat} {n i : Nat} {Z : List Nat} (h : CInv xs ys n i ys.length Z) : CInv xs ys n (i + 1) 0 Z := by
  refine ⟨h.1, fun t ht => ⟨(h.2 t ht).1, ?_⟩⟩
  rw [(h.2 t ht).2]
  show _ = (cvF (fF xs) i (fF ys) ys.length t + _) + 0
  grind
theorem CInv.step {xs ys : List Nat} {n i k : Nat} {Z : List Nat} (h : CInv xs ys n i k Z) (hk : i + k < n) : CInv xs ys n i (k + 1) (Z.set (i + k) ((Z.getD (i + k) 0 + xs.getD i 0 * ys.getD k 0 % 998244353) % 998244353)) := by
  refine ⟨by rw [List.length_set]; exact h.1, fun t ht => ?_⟩
  by_cases e : t = i + k
  · subst e
    have hg := getD_set_eq Z (i + k) ((Z.getD (i + k) 0 + xs.getD i 0 * ys.getD k 0 % 998244353) % 998244353) (by rw [h.1]; exact hk)
    refine ⟨by rw [hg]; exact Nat.mod_lt _ (by omega), ?_⟩
    show cF (List.getD _ (i + k) 0) = _
    rw [hg, cF_mod, cF_add, cF_mod, cF_mul, sm, if_pos rfl]
    have := (h.2 (i + k) hk).2
    show fF Z (i + k) + fF xs i * fF ys k = _
    rw [this]; grind
  · have hg := getD_set_ne Z (i + k) t ((Z.getD (i + k) 0 + xs.getD i 0 * ys.getD k 0 % 998244353) % 998244353) (fun h => e h.symm)
    refine ⟨by rw [hg]; exact (h.2 t ht).1, ?_⟩
    show cF (List.getD _ t 0) = _
    rw [hg, sm, if_neg (fun h => e h.symm)]
    show fF Z t = _
    rw [(h.2 t ht).2]; grind

end Go.Proofs.Ytimlpehgafjkpab
