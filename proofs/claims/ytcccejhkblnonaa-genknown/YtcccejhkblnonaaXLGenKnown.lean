/- GenKnown: these answers are just these: the law's walk. -/
import Derived.Test.YtcccejhkblnonaaXKGK0
import Derived.Test.YtcccejhkblnonaaXKGK1
namespace Go.Proofs.Ytcccejhkblnonaa
open Go.RowKit Go.Ev
set_option linter.unusedVariables false

theorem genKnown_of {w : World} {a : Int} (a1 : -9223372036854775808 ≤ a) (a2 : a ≤ 9223372036854775807) {b m : Nat} (h : ∃ t : Tr Func, TabOK Try.prog t ∧ ((List.range m).all fun k => isTrueA (evalCall ⟨Try.prog, true, t.get, orcD (genKnownD (b + k))⟩ 1000000 3 [.one (.atom (.sym 0))] .e 0)) = true)
    (h1 : b ≤ a % 7) (h2 : a % 7 < b + m) : Calls Try.prog 3 #[.int .i64 a] w fun e w' => e = .returned (.bool true) ∧ Below w.heap.size w w' := by
  obtain ⟨t, ht, hr⟩ := h
  rw [List.all_eq_true] at hr
  obtain ⟨k, hk⟩ : ∃ k : Nat, a % 7 = ((b + k : Nat) : Int) := ⟨(a % 7).toNat - b, by omega⟩
  exact true_call (M := DomQ (fun _ => 0) (fun _ => a)) (cx := ⟨Try.prog, true, t.get, orcD (genKnownD (b + k))⟩) (xs := [.one (.atom (.sym 0))]) (vs := [.int .i64 a]) Try.checked.mixed (genKnownCx ht a1 a2 hk) (fun hg => by cases hg) ⟨rfl, trivial⟩ (hr k (List.mem_range.2 (by omega)))

theorem genKnown_walk {w : World} {a : Int} (ha : (Lit.int .i64 a).wf = true) :
    Calls Try.prog 3 #[.int .i64 a] w fun e w' => e = .returned (.bool true) ∧ Below w.heap.size w w' := by
  obtain ⟨a1, a2⟩ := bounds_i64 ha
  have h1 : a % 7 < 7 := Int.emod_lt_of_pos _ (by omega)
  have h2 : 0 ≤ a % 7 := Int.emod_nonneg _ (by omega)
  by_cases c0 : a % 7 < 4
  · exact genKnown_of (by omega) (by omega) genKnownRead0 (by omega) (by omega)
  exact genKnown_of (by omega) (by omega) genKnownRead1 (by omega) (by omega)
end Go.Proofs.Ytcccejhkblnonaa
