/- The walk of NttTransforms. -/
import Derived.Test.YtimlpehgafjkpabXNT20
namespace Go.Proofs.Ytimlpehgafjkpab
open Go.RowKit Go.Maps
set_option linter.unusedVariables false
set_option linter.unusedSimpArgs false
theorem within8 (w : World) (a : Int) (n : Nat) (hn : 0 < n) (hn2 : n ≤ 1000000000) (ha1 : -9223372036854775808 ≤ a) (ha2 : a ≤ 9223372036854775807) :
    Calls Try.prog 6 #[.int .i64 a, .int .i64 n] w fun e w' => e = .returned (.int .i64 ((a % (n : Int)).toNat : Nat)) ∧ w' = w := by
  refine (within_l8 w a n hn hn2 ha1 ha2).mono ?_
  rintro e w1 ⟨rfl, hww⟩
  have : 0 ≤ a % (n : Int) := Int.emod_nonneg _ (by omega)
  refine ⟨rt_int (by omega), hww.symm⟩
theorem pow2_wrap {m : Nat} (h : m ≤ 30) : wrap64 (2 ^ m) = ((2 ^ m : Nat) : Int) := by
  have hp : 2 ^ m ≤ 2 ^ 30 := Nat.pow_le_pow_right (by omega) h
  have e : ((2 : Int) ^ m) = ((2 ^ m : Nat) : Int) := by simp
  rw [e]
  generalize 2 ^ m = N at *
  unfold wrap64
  omega
theorem allR_trF (back : Bool) (xs : List Nat) : allR (trF back xs) = true := by
  unfold allR
  rw [List.all_eq_true]
  intro x hx
  unfold trF at hx
  obtain ⟨i, _, rfl⟩ := List.mem_map.1 hx
  exact decide_eq_true (vF_lt _)
theorem trF_undo {xs : List Nat} (m : Nat) (hm : m ≤ 10) (hl : xs.length = 2 ^ m) (hR : allR xs = true) : trF true (trF false xs) = xs := by
  refine list_ext (by rw [trF_len, trF_len]) fun i hi => ?_
  rw [trF_len, trF_len] at hi
  rw [trF_getD _ _ _ (by rw [trF_len]; exact hi), trF_len]
  refine (vF_of (allR_get hR i) ?_).symm
  have h := dft_undo (fF xs) m hm i (by rw [← hl]; exact hi)
  rw [← hl] at h
  have hd : dft (fF (trF false xs)) (rtF true xs.length) xs.length i = dft (fun j => dft (fF xs) (rtF false xs.length) xs.length j) (rtF true xs.length) xs.length i := by
    refine dft_congr fun j hj => ?_
    show cF ((trF false xs).getD j 0) = _
    rw [trF_getD _ _ _ hj, cF_v, shF_false]
    grind
  rw [hd, h]
  rfl
theorem isPow_pow {m : Nat} (hm : m ≤ 10) : isPow (2 ^ m) = true := isPow_iff.2 ⟨m, by omega, rfl⟩

end Go.Proofs.Ytimlpehgafjkpab
