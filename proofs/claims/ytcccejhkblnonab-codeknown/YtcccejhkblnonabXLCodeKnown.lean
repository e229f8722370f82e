/- CodeKnown: these answers are just these: the law's walk. -/
import Derived.Test.YtcccejhkblnonabXKCK0
import Derived.Test.YtcccejhkblnonabXKCK1
import Derived.Test.YtcccejhkblnonabXKCK2
import Derived.Test.YtcccejhkblnonabXKCK3
import Derived.Test.YtcccejhkblnonabXKCK4
namespace Go.Proofs.Ytcccejhkblnonab
open Go.RowKit Go.Ev
set_option linter.unusedVariables false

theorem codeKnown_of {w : World} {a : Int} (a1 : -9223372036854775808 ≤ a) (a2 : a ≤ 9223372036854775807) {b m : Nat} (h : ∃ t : Tr Func, TabOK Try.prog t ∧ ((List.range m).all fun k => isTrueA (evalCall ⟨Try.prog, false, t.get, orcD (codeKnownD (b + k)), bigHook Try.prog false⟩ 1000000 3 [.one (.atom (.sym 0))] .e 0)) = true)
    (h1 : b ≤ a % 16) (h2 : a % 16 < b + m) : Calls Try.prog 3 #[.int .i64 a] w fun e w' => e = .returned (.bool true) ∧ Below w.heap.size w w' := by
  obtain ⟨t, ht, hr⟩ := h
  rw [List.all_eq_true] at hr
  obtain ⟨k, hk⟩ : ∃ k : Nat, a % 16 = ((b + k : Nat) : Int) := ⟨(a % 16).toNat - b, by omega⟩
  exact true_call (M := DomQ false (fun _ => 0) (symI (fun _ => a)) (fun _ => none)) (cx := ⟨Try.prog, false, t.get, orcD (codeKnownD (b + k)), bigHook Try.prog false⟩) (xs := [.one (.atom (.sym 0))]) (vs := [.int .i64 a]) Try.checked.mixed (codeKnownCx ht a1 a2 hk) (fun hg => by cases hg) ⟨⟨rfl, fun _ => trivial⟩, trivial⟩ (hr k (List.mem_range.2 (by omega)))

theorem codeKnown_walk {w : World} {a : Int} (ha : (Lit.int .i64 a).wf = true) :
    Calls Try.prog 3 #[.int .i64 a] w fun e w' => e = .returned (.bool true) ∧ Below w.heap.size w w' := by
  obtain ⟨a1, a2⟩ := bounds_i64 ha
  have h1 : a % 16 < 16 := Int.emod_lt_of_pos _ (by omega)
  have h2 : 0 ≤ a % 16 := Int.emod_nonneg _ (by omega)
  by_cases c0 : a % 16 < 4
  · exact codeKnown_of (by omega) (by omega) codeKnownRead0 (by omega) (by omega)
  by_cases c1 : a % 16 < 8
  · exact codeKnown_of (by omega) (by omega) codeKnownRead1 (by omega) (by omega)
  by_cases c2 : a % 16 < 12
  · exact codeKnown_of (by omega) (by omega) codeKnownRead2 (by omega) (by omega)
  by_cases c3 : a % 16 < 15
  · exact codeKnown_of (by omega) (by omega) codeKnownRead3 (by omega) (by omega)
  exact codeKnown_of (by omega) (by omega) codeKnownRead4 (by omega) (by omega)
end Go.Proofs.Ytcccejhkblnonab
