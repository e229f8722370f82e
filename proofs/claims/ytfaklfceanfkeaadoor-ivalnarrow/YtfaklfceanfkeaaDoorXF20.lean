/- The second telling's Next. -/
import Derived.Test.YtfaklfceanfkeaaDoorXF19
namespace Go.Proofs.YtfaklfceanfkeaaDoor
open Go.RowKit
set_option linter.unusedVariables false
set_option linter.unusedSimpArgs false

set_option maxHeartbeats 4000000 in
theorem next3_any {w : World} (f : Nat) (up : Bool) (hf : f < 18446744073709551616) : Calls Tryd.prog 11 #[.int .u64 f, .bool up] w fun e w' => e = .returned (.int .u64 (nxF f up : Nat)) ∧ w' = w := by
  have hz : fsz f = f % 9223372036854775808 := rfl
  have n1 := fun w => none3_any (w := w) f hf
  have n2 := fun w => nought3_any (w := w) f hf
  have n3 := fun w => endless3_any (w := w) f hf
  have n4 := fun w => minus3_any (w := w) f hf
  have n5 := fun w => signed3_any (w := w) (!up) 1 (by omega)
  unfold nxF
  by_cases c : isNan f = true
  · rw [if_pos c]
    simp only [c] at n1
    clear c hz n2 n3 n4 n5
    go_enter Tryd.func11, Tryd.ntmps11
    go_wp2_with fail
    refine (n1 _).mono ?_
    rintro e wq ⟨rfl, rfl⟩
    go_wp2
    go_ret
    exact ⟨rfl, rfl⟩
  · rw [if_neg c]
    have c' : isNan f = false := by simpa using c
    have hle : fsz f ≤ 9218868437227405312 := by
      have : ¬ 9218868437227405312 < fsz f := fun h => c (decide_eq_true h)
      omega
    simp only [c'] at n1
    clear c c'
    by_cases d : fsz f = 0
    · rw [if_pos d]
      simp only [decide_eq_true d] at n2
      clear d hz hle n3 n4
      cases up
      · simp only [sgn, Bool.not_false, if_true] at n5
        go_enter Tryd.func11, Tryd.ntmps11
        go_wp2_with fail
        refine (n1 _).mono ?_
        rintro e wq ⟨rfl, rfl⟩
        go_wp2_with fail
        refine (n2 _).mono ?_
        rintro e wq ⟨rfl, rfl⟩
        go_wp2_with fail
        refine (n5 _).mono ?_
        rintro e wq ⟨rfl, rfl⟩
        go_wp2
        go_ret
        exact ⟨ret_int (by first | rfl | simp), rfl⟩
      · simp only [sgn, Bool.not_true, Bool.false_eq_true, if_false] at n5
        go_enter Tryd.func11, Tryd.ntmps11
        go_wp2_with fail
        refine (n1 _).mono ?_
        rintro e wq ⟨rfl, rfl⟩
        go_wp2_with fail
        refine (n2 _).mono ?_
        rintro e wq ⟨rfl, rfl⟩
        go_wp2_with fail
        refine (n5 _).mono ?_
        rintro e wq ⟨rfl, rfl⟩
        go_wp2
        go_ret
        exact ⟨ret_int (by first | rfl | simp), rfl⟩
    · rw [if_neg d]
      simp only [decide_eq_false d] at n2
      have hw1 := nx_one d hz hf
      by_cases s : fneg f = up
      · rw [if_pos s]
        have i2 : (fneg f == up) = true := by simp [s]
        clear s n5
        by_cases t : fsz f = 9218868437227405312
        · simp only [decide_eq_true t] at n3
          clear d hz hle t
          generalize fneg f = s at *
          generalize f - 1 = f' at *
          go_enter Tryd.func11, Tryd.ntmps11
          go_wp2_with fail
          refine (n1 _).mono ?_
          rintro e wq ⟨rfl, rfl⟩
          go_wp2_with fail
          refine (n2 _).mono ?_
          rintro e wq ⟨rfl, rfl⟩
          go_wp2_with fail
          refine (n3 _).mono ?_
          rintro e wq ⟨rfl, rfl⟩
          go_wp2_with fail
          refine (n4 _).mono ?_
          rintro e wq ⟨rfl, rfl⟩
          go_wp2_with fail
          refine (n4 _).mono ?_
          rintro e wq ⟨rfl, rfl⟩
          go_wp2
          go_ret
          exact ⟨ret_int (by first | rfl | omega), rfl⟩
        · simp only [decide_eq_false t] at n3
          clear d hz hle t
          generalize fneg f = s at *
          generalize f - 1 = f' at *
          go_enter Tryd.func11, Tryd.ntmps11
          go_wp2_with fail
          refine (n1 _).mono ?_
          rintro e wq ⟨rfl, rfl⟩
          go_wp2_with fail
          refine (n2 _).mono ?_
          rintro e wq ⟨rfl, rfl⟩
          go_wp2_with fail
          refine (n3 _).mono ?_
          rintro e wq ⟨rfl, rfl⟩
          go_wp2_with fail
          refine (n4 _).mono ?_
          rintro e wq ⟨rfl, rfl⟩
          go_wp2
          go_ret
          exact ⟨ret_int (by first | rfl | omega), rfl⟩
      · rw [if_neg s]
        have i2 : (fneg f == up) = false := by simpa using s
        clear n5
        by_cases t : fsz f = 9218868437227405312
        · rw [if_pos t]
          simp only [decide_eq_true t] at n3
          clear s d hz hle t hw1
          generalize fneg f = s at *
          go_enter Tryd.func11, Tryd.ntmps11
          go_wp2_with fail
          refine (n1 _).mono ?_
          rintro e wq ⟨rfl, rfl⟩
          go_wp2_with fail
          refine (n2 _).mono ?_
          rintro e wq ⟨rfl, rfl⟩
          go_wp2_with fail
          refine (n3 _).mono ?_
          rintro e wq ⟨rfl, rfl⟩
          go_wp2_with fail
          refine (n4 _).mono ?_
          rintro e wq ⟨rfl, rfl⟩
          go_wp2
          go_ret
          exact ⟨rfl, rfl⟩
        · rw [if_neg t]
          simp only [decide_eq_false t] at n3
          have hw2 := nx_more (f := f) (by omega)
          clear s d hz hle t hw1
          generalize fneg f = s at *
          generalize hf1 : f + 1 = f1 at *
          clear hf1
          go_enter Tryd.func11, Tryd.ntmps11
          go_wp2_with fail
          refine (n1 _).mono ?_
          rintro e wq ⟨rfl, rfl⟩
          go_wp2_with fail
          refine (n2 _).mono ?_
          rintro e wq ⟨rfl, rfl⟩
          go_wp2_with fail
          refine (n3 _).mono ?_
          rintro e wq ⟨rfl, rfl⟩
          go_wp2_with fail
          refine (n4 _).mono ?_
          rintro e wq ⟨rfl, rfl⟩
          go_wp2
          go_ret
          exact ⟨ret_int (by first | rfl | omega), rfl⟩
theorem nxF_lt {f : Nat} (up : Bool) (hf : f < 18446744073709551616) : nxF f up < 18446744073709551616 := by
  have hz : fsz f = f % 9223372036854775808 := rfl
  unfold nxF
  split
  · decide
  · rename_i c
    have : ¬ 9218868437227405312 < fsz f := fun h => c (decide_eq_true h)
    split
    · split <;> decide
    · split
      · omega
      · split <;> omega
end Go.Proofs.YtfaklfceanfkeaaDoor
