/- Floats, mathematics: by Down and by Up a value is the same float, or two that are next to one another. -/
import Derived.Test.YtfaklfceanfkeaaDoorXFS
namespace Go.Proofs.YtfaklfceanfkeaaDoor
open Go.RowKit
set_option linter.unusedVariables false

/-- Of one value, by Down and by Up: the same, or next to one another, in order, numbers. -/
def Narrow (lo hi : Nat) : Prop := (lo = hi ∨ nxF lo true = hi) ∧ (cmpF lo hi).2 = true ∧ (cmpF lo hi).1 ≤ 0 ∧ fsz lo ≤ 9218868437227405312 ∧ fsz hi ≤ 9218868437227405312
theorem cmpI_self (x : Int) : cmpI x x = 0 := by unfold cmpI; rw [if_neg (by omega), if_neg (by omega)]
theorem cmpF_self {f : Nat} (h : fsz f ≤ 9218868437227405312) : cmpF f f = (0, true) := by rw [cmp_num h h, cmpI_self]
theorem narrow_same {f : Nat} (h : fsz f ≤ 9218868437227405312) : Narrow f f := by
  refine ⟨Or.inl rfl, ?_, ?_, h, h⟩ <;> rw [cmpF_self h]
  · exact Int.le_refl 0
theorem narrow_rnd (s : Bool) (n : Nat) (x : Int) : Narrow (rnd 2 s n x) (rnd 3 s n x) := by
  have ht : kpt n x % 8 < 8 := Nat.mod_lt _ (by omega)
  have hu := upB_lt (kpt n x % 8)
  have e : ∀ m, rnd m s n x = sgn s + capB (fdP n x * 4503599627370496 + kpt n x / 4) (grt m s (kpt n x % 8)) (grt m s 7) := fun m => rfl
  rw [e, e]
  generalize fdP n x * 4503599627370496 + kpt n x / 4 = B
  cases s
  · obtain ⟨g1, g2, g3, g0, g4⟩ := grt_pos _ ht
    have b2 : grt 2 false 7 = 0 := by decide
    have b3 : grt 3 false 7 = 1 := by decide
    rw [g2, g3, b2, b3, show sgn false = 0 from rfl]
    generalize upB (kpt n x % 8) = u at *
    have l1 := capB_le B 0 0 (by omega)
    have l2 := capB_le B u 1 (by omega)
    have l3 := capB_mono B u hu
    have l4 : capB B u 1 = capB B 0 0 ∨ capB B u 1 = capB B 0 0 + 1 := by
      unfold capB; repeat' split
      all_goals omega
    generalize capB B 0 0 = L at *
    generalize capB B u 1 = H at *
    have f1 : fsz (0 + L) = L := by unfold fsz; omega
    have f2 : fsz (0 + H) = H := by unfold fsz; omega
    refine ⟨?_, ?_, ?_, by omega, by omega⟩
    · rcases l4 with h | h
      · left; omega
      · right
        have n1 : isNan (0 + L) = false := nan_le (by omega)
        have n2 : fneg (0 + L) = false := by unfold fneg; exact decide_eq_false (by omega)
        unfold nxF
        rw [n1, f1, n2]
        by_cases z : L = 0
        · subst z; simp; omega
        · rw [if_neg (by simp), if_neg z, if_neg (by simp), if_neg (by omega)]; omega
    · rw [cmp_num (by omega) (by omega)]
    · rw [cmp_num (by omega) (by omega), rk_pos (by omega), rk_pos (by omega)]; exact cmpI_le (by omega)
  · obtain ⟨g1, g3, g2, g0, g4⟩ := grt_neg _ ht
    have b2 : grt 2 true 7 = 1 := by decide
    have b3 : grt 3 true 7 = 0 := by decide
    rw [g2, g3, b2, b3, show sgn true = 9223372036854775808 from rfl]
    generalize upB (kpt n x % 8) = u at *
    have l1 := capB_le B 0 0 (by omega)
    have l2 := capB_le B u 1 (by omega)
    have l3 := capB_mono B u hu
    have l4 : capB B u 1 = capB B 0 0 ∨ capB B u 1 = capB B 0 0 + 1 := by
      unfold capB; repeat' split
      all_goals omega
    generalize capB B 0 0 = L at *
    generalize capB B u 1 = H at *
    have f1 : fsz (9223372036854775808 + L) = L := by unfold fsz; omega
    have f2 : fsz (9223372036854775808 + H) = H := by unfold fsz; omega
    refine ⟨?_, ?_, ?_, by omega, by omega⟩
    · rcases l4 with h | h
      · left; omega
      · right
        have n1 : isNan (9223372036854775808 + H) = false := nan_le (by omega)
        have n2 : fneg (9223372036854775808 + H) = true := by unfold fneg; exact decide_eq_true (by omega)
        unfold nxF
        rw [n1, f2, n2, if_neg (by simp), if_neg (by omega), if_pos rfl]; omega
    · rw [cmp_num (by omega) (by omega)]
    · rw [cmp_num (by omega) (by omega), rk_neg (by omega), rk_neg (by omega)]; exact cmpI_le (by omega)
theorem narrow_rdV {s : Bool} {n : Nat} {x : Int} : Narrow (rdV 2 (s, false, n, x)).1 (rdV 3 (s, false, n, x)).1 := by
  by_cases c : n = 0
  · have e : ∀ m, rdV m (s, false, n, x) = (sgn s, 0) := fun m => by
      unfold rdV; rw [if_neg (fun h => by cases h), if_pos c]
    rw [e, e]
    exact narrow_same (by cases s <;> decide +kernel)
  · rw [rdV_fin 2 s x c, rdV_fin 3 s x c]
    exact narrow_rnd s n x
end Go.Proofs.YtfaklfceanfkeaaDoor
