/- The program's gen: a number that is refused; the second telling's Neg. -/
import Derived.Test.YtcccejhkblnonabXN2
import Derived.Test.YtcccejhkblnonabXP14
namespace Go.Proofs.Ytcccejhkblnonab
open Go.RowKit
set_option linter.unusedVariables false
set_option linter.unusedSimpArgs false

theorem Rd.sl {w : World} {v : Value} {xs : List Nat} (h : Rd w v xs) : ∃ a c, v = .slice a xs.length c ∧ xs.length ≤ c ∧ c ≤ maxLen := by
  rcases h.2 with ⟨rfl, rfl⟩ | ⟨b, off, cap, rfl, h1, h2, _⟩
  · exact ⟨none, 0, rfl, Nat.le_refl _, by unfold maxLen; omega⟩
  · exact ⟨_, cap, rfl, h1, h2⟩

def refusedR (s : Bool) (xs ys : List Nat) : Bool := decide (4 < xs.length) || (decide (4 < ys.length) || !rightR s xs ys)

set_option maxHeartbeats 4000000 in
set_option maxRecDepth 20000 in
theorem refused_any {w : World} {a : Value} {s : Bool} {xs ys : List Nat} (ha : RawA w a s xs ys) (bx : xs.length ≤ 1000) (by' : ys.length ≤ 1000) :
    Calls Try.prog 44 #[a] w fun e w' => e = .returned (.bool (refusedR s xs ys)) ∧ Fwd w w' := by
  have HA := hid ha
  obtain ⟨vN, vD, rfl, h1, h2⟩ := ha
  obtain ⟨ao, ac, rfl, a1, a2⟩ := h1.sl
  obtain ⟨bo, bc, rfl, b1, b2⟩ := h2.sl
  clear h1 h2
  unfold maxLen at a2 b2
  have HR := hid (show refusedR s xs ys = (decide (4 < xs.length) || (decide (4 < ys.length) || !rightR s xs ys)) from rfl)
  generalize refusedR s xs ys = R at *
  by_cases hx : 4 < xs.length
  · go_enter Try.func44, Try.ntmps44
    have hx' : (4 : Int) < xs.length := by omega
    go_wp2_with fail
    go_ret
    exact ⟨by rw [HR.out, decide_eq_true hx]; rfl, (Fwd.refl w).alloc _⟩
  · have hx' : ¬ (4 : Int) < xs.length := by omega
    by_cases hy : 4 < ys.length
    · go_enter Try.func44, Try.ntmps44
      have hy' : (4 : Int) < ys.length := by omega
      go_wp2_with fail
      go_ret
      exact ⟨by rw [HR.out, decide_eq_true hy, decide_eq_false hx]; rfl, (Fwd.refl w).alloc _⟩
    · have hy' : ¬ (4 : Int) < ys.length := by omega
      go_enter Try.func44, Try.ntmps44
      go_wp2_with fail
      refine (rright_any (HA.out.fwd ((Fwd.refl w).alloc _)) bx by').mono ?_
      rintro e w1 ⟨rfl, hf⟩
      go_wp2_with fail
      go_ret
      exact ⟨by rw [HR.out, decide_eq_false hx, decide_eq_false hy]; simp, ((Fwd.refl w).alloc _).trans hf⟩

end Go.Proofs.Ytcccejhkblnonab
