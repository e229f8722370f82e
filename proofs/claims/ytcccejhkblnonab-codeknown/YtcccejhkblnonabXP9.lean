/- The program's rational numbers: slices.Equal, shapeOf, Same. -/
import Derived.Test.YtcccejhkblnonabKL
namespace Go.Proofs.Ytcccejhkblnonab
open Go.RowKit
set_option linter.unusedVariables false

theorem take_more {xs ys : List Nat} {k : Nat} (h : xs.take k = ys.take k) (h1 : k < xs.length) (h2 : k < ys.length) (he : xs.getD k 0 = ys.getD k 0) : xs.take (k + 1) = ys.take (k + 1) := by
  rw [List.take_succ_eq_append_getElem h1, List.take_succ_eq_append_getElem h2, h]
  simp [List.getD_eq_getElem?_getD, h1, h2] at he
  rw [he]

set_option maxHeartbeats 4000000 in
set_option maxRecDepth 20000 in
theorem shapeOf_any {w : World} {a : Value} {sa : Bool} {ma da : Nat} (ha : RW w a sa ma da) (bam : nl ma ≤ 1000000) (bad : nl da ≤ 1000000) :
    Calls Try.prog 58 #[a] w fun e w' => e = .returned (.agg #[.bool sa, .int .i64 (nl ma), .int .i64 (nl da)]) ∧ Fwd w w' := by
  obtain ⟨ao, ac, ap, ae, rfl, a1, a2, a3, a4, aN, aD⟩ := RW.open ha
  clear ha
  go_enter Try.func58, Try.ntmps58
  go_wp2_with fail
  have hf := ((Fwd.refl w).alloc (.cells #[.bool sa, .slice ao (nl ma) ac, .slice ap (nl da) ae] 32)).alloc (.cells #[.bool sa, .int .i64 (nl ma), .int .i64 (nl da)] 101)
  refine bodyPost_ret (by simp [results, Try.results58, go_sem]; try rfl) rfl ?_
  exact ⟨rfl, hf⟩

end Go.Proofs.Ytcccejhkblnonab
