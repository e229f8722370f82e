/- The number that a value is, as a measure; contract of the second telling's Gcd. -/
import Derived.Test.YtbkphjmhmfgpgabDoorD7
namespace Go.Proofs.YtbkphjmhmfgpgabDoor
open Go.RowKit
set_option linter.unusedVariables false

theorem Rd.inj {w : World} {v : Value} {xs ys : List Nat} (h : Rd w v xs) (k : Rd w v ys) : xs = ys := by
  obtain ⟨ao, cap, e1, _, _, _, h3⟩ := h.parts
  obtain ⟨ao', cap', e2, _, _, _, k3⟩ := k.parts
  rw [e1] at e2
  injection e2 with e3 e4 e5
  subst e3
  apply List.ext_getElem e4
  intro i h1 h2
  obtain ⟨b, off, rfl, hc⟩ := h3 i h1
  obtain ⟨b', off', e6, hc'⟩ := k3 i h2
  cases e6
  rw [hc] at hc'
  have e7 := Option.some.inj hc'
  injection e7 with _ e8
  simp only [List.getD_eq_getElem?_getD, List.getElem?_eq_getElem h1, List.getElem?_eq_getElem h2, Option.getD_some] at e8
  omega
theorem Num.inj {w : World} {v : Value} {m n : Nat} (h : Num w v m) (k : Num w v n) : m = n := lim_inj (Rd.inj h k)

/-- The number that v is. -/
theorem numOf_ex : ∃ f : World → Value → Nat, ∀ (w : World) (v : Value) (n : Nat), Num w v n → f w v = n := by
  classical
  refine ⟨fun w v => if h : ∃ n, Num w v n then h.choose else 0, fun w v n h => ?_⟩
  have hx : ∃ n, Num w v n := ⟨n, h⟩
  show (if h : ∃ n, Num w v n then h.choose else 0) = n
  rw [dif_pos hx]
  exact Num.inj hx.choose_spec h

end Go.Proofs.YtbkphjmhmfgpgabDoor
