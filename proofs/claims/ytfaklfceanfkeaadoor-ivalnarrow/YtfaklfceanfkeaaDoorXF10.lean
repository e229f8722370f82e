/- sfloat's round of any value; add. -/
import Derived.Test.YtfaklfceanfkeaaDoorXF8
import Derived.Test.YtfaklfceanfkeaaDoorXF9
namespace Go.Proofs.YtfaklfceanfkeaaDoor
open Go.RowKit
set_option linter.unusedVariables false

theorem round_any {w : World} {v : Value} {s en : Bool} {n : Nat} {x : Int} (m : Int) (h : VV v s en n x) (hx1 : -1000000 ≤ x) (hx2 : x ≤ 1000000) :
    Calls Tryd.prog 34 #[ruleV m, v] w fun e w' => e = .returned (.tuple #[.int .u64 ((rdV m (s, en, n, x)).1 : Nat), .int .i64 ((rdV m (s, en, n, x)).2 : Nat)]) ∧ Fwd w w' := by
  unfold rdV
  cases en
  · by_cases c : n = 0
    · subst c; simp only [Bool.false_eq_true, if_false, if_true]; exact round_nought m h
    · simp only [Bool.false_eq_true, if_false, if_neg c]
      by_cases c1 : hiP n x < -1074
      · exact round_a m h c hx1 hx2 c1
      · by_cases c2 : hiP n x + 1074 ≤ 2046
        · exact round_b m h c hx1 hx2 (by omega) c2
        · exact round_c m h c hx1 hx2 (by omega) (by omega)
  · simp only [if_true]; exact round_end m h

theorem plusV_exp (s : Bool) (n : Nat) (x : Int) (t : Bool) (k : Nat) (y : Int) (hx1 : -100000 ≤ x) (hx2 : x ≤ 100000) (hy1 : -100000 ≤ y) (hy2 : y ≤ 100000) :
    -1000000 ≤ (plusV (s, false, n, x) (t, false, k, y)).2.2.2 ∧ (plusV (s, false, n, x) (t, false, k, y)).2.2.2 ≤ 1000000 := by
  have h1 : lsh n 1 ≤ 128 := by unfold lsh; omega
  have h2 : lsh k 1 ≤ 128 := by unfold lsh; omega
  unfold plusV pl2
  simp only
  repeat' split
  all_goals simp only
  all_goals omega

end Go.Proofs.YtfaklfceanfkeaaDoor
