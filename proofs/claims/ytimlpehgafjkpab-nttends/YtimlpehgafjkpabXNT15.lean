/- Contracts: Transform in full; the product of points. -/
import Derived.Test.YtimlpehgafjkpabXNT14
namespace Go.Proofs.Ytimlpehgafjkpab
open Go.RowKit Go.Maps
set_option linter.unusedVariables false
set_option linter.unusedSimpArgs false

/-- How far the products are. -/
def PInv (n : Nat) (f h : Nat → F) (k : Nat) (M : List Nat) : Prop := ∀ i, i < n → M.getD i 0 < 998244353 ∧ fF M i = if i < k then f i * h i else f i
theorem PInv.step {n k bv : Nat} {f h : Nat → F} {M : List Nat} (hI : PInv n f h k M) (hl : M.length = 1024) (hn : n ≤ 1024) (hk : k < n) (hs : cF bv = h k) : PInv n f h (k + 1) (M.set k (M.getD k 0 * bv % 998244353)) := by
  intro i hi
  by_cases e : i = k
  · subst e
    have hg := getD_set_eq M i (M.getD i 0 * bv % 998244353) (by rw [hl]; omega)
    refine ⟨by rw [hg]; exact Nat.mod_lt _ (by omega), ?_⟩
    rw [if_pos (by omega)]
    show cF (List.getD _ i 0) = _
    rw [hg, cF_mod, cF_mul, hs]
    have := (hI i hi).2
    rw [if_neg (by omega)] at this
    rw [← this]; rfl
  · have hg := getD_set_ne M k i (M.getD k 0 * bv % 998244353) (fun h => e h.symm)
    obtain ⟨h1, h2⟩ := hI i hi
    refine ⟨by rw [hg]; exact h1, ?_⟩
    show cF (List.getD _ i 0) = _
    rw [hg]
    show fF M i = _
    rw [h2]
    by_cases hc : i < k
    · rw [if_pos hc, if_pos (by omega)]
    · rw [if_neg hc, if_neg (by omega)]

theorem shF_false (n : Nat) : shF false n = 1 := by unfold shF; rw [if_neg (by simp)]

end Go.Proofs.Ytimlpehgafjkpab
