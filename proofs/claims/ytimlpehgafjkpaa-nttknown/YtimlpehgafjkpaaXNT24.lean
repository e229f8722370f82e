/- The numbers that are known beforehand. -/
import Derived.Test.YtimlpehgafjkpaaXNT23
import Derived.Test.YtimlpehgafjkpaaXLNttTransforms
namespace Go.Proofs.Ytimlpehgafjkpaa
open Go.RowKit Go.Maps
set_option linter.unusedVariables false
set_option linter.unusedSimpArgs false

theorem rt_2 : rtF false 2 = cF 998244352 := by
  unfold rtF
  rw [if_neg (by simp), show 998244352 / 2 = 499122176 from rfl, ← pmF_c 29 3 499122176 (by decide), show pmF 29 3 499122176 = 998244352 from by decide +kernel]
theorem rt_4 : rtF false 4 = cF 911660635 := by
  unfold rtF
  rw [if_neg (by simp), show 998244352 / 4 = 249561088 from rfl, ← pmF_c 29 3 249561088 (by decide), show pmF 29 3 249561088 = 911660635 from by decide +kernel]
theorem iv_c (a b : Nat) (h : pmF 30 a 998244351 = b) : ivF (cF a) = cF b := by
  unfold ivF
  rw [← pmF_c 30 a 998244351 (by decide), h]
theorem rt_4b : rtF true 4 = cF 86583718 := by
  unfold rtF
  rw [if_pos rfl, show 998244352 / 4 = 249561088 from rfl, iv_c 3 332748118 (by decide +kernel), ← pmF_c 29 332748118 249561088 (by decide), show pmF 29 332748118 249561088 = 86583718 from by decide +kernel]
theorem sh_4b : shF true 4 = cF 748683265 := by
  unfold shF
  rw [if_pos rfl]
  exact iv_c 4 748683265 (by decide +kernel)
theorem k_two : trA false [1, 2] = ([3, 998244352], 0) := by
  rw [trA_good (by decide) (by decide)]
  have h : trF false [1, 2] = [3, 998244352] := by
    unfold trF
    show (List.range 2).map (fun k => vF (dft (fF [1, 2]) (rtF false 2) 2 k * shF false 2)) = _
    rw [rt_2, shF_false]
    decide +kernel
  rw [h]
theorem k_four : trA false [0, 1, 0, 0] = ([1, 911660635, 998244352, 86583718], 0) := by
  rw [trA_good (by decide) (by decide)]
  have h : trF false [0, 1, 0, 0] = [1, 911660635, 998244352, 86583718] := by
    unfold trF
    show (List.range 4).map (fun k => vF (dft (fF [0, 1, 0, 0]) (rtF false 4) 4 k * shF false 4)) = _
    rw [rt_4, shF_false]
    decide +kernel
  rw [h]
theorem k_back : trA true [5, 5, 5, 5] = ([5, 0, 0, 0], 0) := by
  rw [trA_good (by decide) (by decide)]
  have h : trF true [5, 5, 5, 5] = [5, 0, 0, 0] := by
    unfold trF
    show (List.range 4).map (fun k => vF (dft (fF [5, 5, 5, 5]) (rtF true 4) 4 k * shF true 4)) = _
    rw [rt_4b, sh_4b]
    decide +kernel
  rw [h]
theorem k_three : trA false [1, 2, 3] = ([], 3) := by
  unfold trA
  rw [if_neg (by decide)]
theorem k_odd : trA true [1, 998244353] = ([], 1) := by
  unfold trA
  rw [if_pos (by decide), if_neg (by decide)]
theorem k_conv : cvA [1, 2, 3] [4, 5] = ([4, 13, 22, 15], 0) := by
  unfold cvA
  rw [if_neg (by decide), if_pos (by decide)]
  have h : cvL [1, 2, 3] [4, 5] = [4, 13, 22, 15] := by decide +kernel
  rw [h]
theorem allR_rep (n : Nat) : allR (List.replicate n 0) = true := by
  unfold allR
  rw [List.all_eq_true]
  intro x hx
  rw [List.eq_of_mem_replicate hx]
  exact decide_eq_true (by omega)
theorem k_long : cvA (List.replicate 1000 0) (List.replicate 26 0) = ([], 3) := by
  unfold cvA
  rw [if_pos (.inr (.inr (by rw [List.length_replicate, List.length_replicate]; omega)))]
theorem k_fits : ∃ L, cvA (List.replicate 1000 0) (List.replicate 25 0) = (L, 0) ∧ L.length = 1024 := by
  refine ⟨cvL (List.replicate 1000 0) (List.replicate 25 0), ?_, ?_⟩
  · unfold cvA
    rw [if_neg (by rw [List.length_replicate, List.length_replicate]; omega), if_pos (by rw [allR_rep, allR_rep]; rfl)]
  · rw [cvL_len, List.length_replicate, List.length_replicate]
theorem p_one (w : World) : Calls Try.prog 10 #[.int .u32 3, .int .i64 998244352] w fun e w' => e = .returned (.int .u32 1) ∧ w' = w := by
  refine (Pow_any w 3 998244352 (by omega) (by omega) (by omega)).mono ?_
  rintro e w' ⟨rfl, h⟩
  have : vF (powF (cF 3) 998244352) = 1 := by
    unfold powF
    rw [if_neg (by omega), show (998244352 : Int).natAbs = 998244352 from rfl, ← pmF_c 30 3 998244352 (by decide)]
    decide +kernel
  rw [this]
  exact ⟨rfl, h⟩
theorem p_two (w : World) : Calls Try.prog 10 #[.int .u32 2, .int .i64 (-1)] w fun e w' => e = .returned (.int .u32 499122177) ∧ w' = w := by
  refine (Pow_any w 2 (-1) (by omega) (by omega) (by omega)).mono ?_
  rintro e w' ⟨rfl, h⟩
  have : vF (powF (cF 2) (-1)) = 499122177 := by
    unfold powF
    rw [if_pos (by omega), show (-1 : Int).natAbs = 1 from rfl, iv_c 2 499122177 (by decide +kernel)]
    decide +kernel
  rw [this]
  exact ⟨rfl, h⟩
theorem p_three (w : World) : Calls Try.prog 10 #[.int .u32 0, .int .i64 0] w fun e w' => e = .returned (.int .u32 1) ∧ w' = w := by
  refine (Pow_any w 0 0 (by omega) (by omega) (by omega)).mono ?_
  rintro e w' ⟨rfl, h⟩
  have : vF (powF (cF 0) 0) = 1 := by
    unfold powF
    rw [if_neg (by omega), show (0 : Int).natAbs = 0 from rfl, rpow_zero]
    rfl
  rw [this]
  exact ⟨rfl, h⟩
theorem p_four (w : World) : Calls Try.prog 10 #[.int .u32 998244353, .int .i64 (-3)] w fun e w' => e = .returned (.int .u32 0) ∧ w' = w := by
  refine (Pow_any w 998244353 (-3) (by omega) (by omega) (by omega)).mono ?_
  rintro e w' ⟨rfl, h⟩
  have : vF (powF (cF 998244353) (-3)) = 0 := by
    unfold powF
    rw [if_pos (by omega), show (-3 : Int).natAbs = 3 from rfl, iv_zero (by decide)]
    decide +kernel
  rw [this]
  exact ⟨rfl, h⟩
end Go.Proofs.Ytimlpehgafjkpaa
