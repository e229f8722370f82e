/- GenErrs: these answers are just these: the law's walk. -/
import Derived.Test.YtcccejhkblnonaaGreatXKGE0
import Derived.Test.YtcccejhkblnonaaGreatXKGE1
import Derived.Test.YtcccejhkblnonaaGreatXKGE2
namespace Go.Proofs.YtcccejhkblnonaaGreat
open Go.RowKit Go.Ev
set_option linter.unusedVariables false

theorem genErrs_of {w : World} {a c : Int} (a1 : -9223372036854775808 ≤ a) (a2 : a ≤ 9223372036854775807) {b m : Nat} (h : ∃ t : Tr Func, TabOK Tryz.prog t ∧ ((List.range m).all fun k => isTrueA (evalCall ⟨Tryz.prog, true, t.get, orcD (genErrsD (b + k)), lenHook Tryz.prog⟩ 1000000 6 [.one (.atom (.sym 0)), .one (.atom (.sym 1))] .e 0)) = true)
    (h1 : b ≤ a % 15) (h2 : a % 15 < b + m) : Calls Tryz.prog 6 #[.int .i64 a, .int .i64 c] w fun e w' => e = .returned (.bool true) ∧ Below w.heap.size w w' := by
  obtain ⟨t, ht, hr⟩ := h
  rw [List.all_eq_true] at hr
  obtain ⟨k, hk⟩ : ∃ k : Nat, a % 15 = ((b + k : Nat) : Int) := ⟨(a % 15).toNat - b, by omega⟩
  exact true_call (M := DomQ true (fun _ => 0) (fun i => match i with | 0 => a | _ => c) (fun _ => none)) (cx := ⟨Tryz.prog, true, t.get, orcD (genErrsD (b + k)), lenHook Tryz.prog⟩) (xs := [.one (.atom (.sym 0)), .one (.atom (.sym 1))]) (vs := [.int .i64 a, .int .i64 c]) Tryz.checked.mixed (genErrsCx ht a1 a2 hk) (fun hg => by cases hg) ⟨rfl, rfl, trivial⟩ (hr k (List.mem_range.2 (by omega)))

theorem genErrs_walk {w : World} {a c : Int} (ha : (Lit.int .i64 a).wf = true) (hc : (Lit.int .i64 c).wf = true) :
    Calls Tryz.prog 6 #[.int .i64 a, .int .i64 c] w fun e w' => e = .returned (.bool true) ∧ Below w.heap.size w w' := by
  obtain ⟨a1, a2⟩ := bounds_i64 ha
  have h1 : a % 15 < 15 := Int.emod_lt_of_pos _ (by omega)
  have h2 : 0 ≤ a % 15 := Int.emod_nonneg _ (by omega)
  by_cases c0 : a % 15 < 5
  · exact genErrs_of (by omega) (by omega) genErrsRead0 (by omega) (by omega)
  by_cases c1 : a % 15 < 10
  · exact genErrs_of (by omega) (by omega) genErrsRead1 (by omega) (by omega)
  exact genErrs_of (by omega) (by omega) genErrsRead2 (by omega) (by omega)
end Go.Proofs.YtcccejhkblnonaaGreat
