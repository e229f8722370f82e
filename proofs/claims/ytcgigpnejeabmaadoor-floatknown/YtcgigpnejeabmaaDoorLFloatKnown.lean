/- FloatKnown: these answers, and flags, are just these: the law's walk. -/
import Derived.Test.YtcgigpnejeabmaaDoorFKR0
import Derived.Test.YtcgigpnejeabmaaDoorFKR1
import Derived.Test.YtcgigpnejeabmaaDoorFKR2
import Derived.Test.YtcgigpnejeabmaaDoorFKR3
import Derived.Test.YtcgigpnejeabmaaDoorFKR4
import Derived.Test.YtcgigpnejeabmaaDoorFKR5
import Derived.Test.YtcgigpnejeabmaaDoorFKR6
import Derived.Test.YtcgigpnejeabmaaDoorFKR7
namespace Go.Proofs.YtcgigpnejeabmaaDoor
open Go.RowKit Go.Ev
set_option linter.unusedVariables false

theorem floatKnown_of {w : World} {a : Int} (hR : Ru w) (a1 : -9223372036854775808 ≤ a) (a2 : a ≤ 9223372036854775807) {b m : Nat} (h : ∃ t : Tr Func, TabOK Tryd.prog t ∧ ((List.range m).all fun k => isTrueA (evalCall ⟨Tryd.prog, false, t.get, knownOrc (b + k)⟩ 1000000 3 [.one (.atom (.sym 0))] .e 0)) = true)
    (h1 : b ≤ a % 31) (h2 : a % 31 < b + m) : Calls Tryd.prog 3 #[.int .i64 a] w fun e w' => e = .returned (.bool true) ∧ Below w.heap.size w w' := by
  obtain ⟨t, ht, hr⟩ := h
  rw [List.all_eq_true] at hr
  obtain ⟨k, hk⟩ : ∃ k : Nat, a % 31 = ((b + k : Nat) : Int) := ⟨(a % 31).toNat - b, by omega⟩
  exact true_call (M := knownDom a) (cx := ⟨Tryd.prog, false, t.get, knownOrc (b + k)⟩) (xs := [.one (.atom (.sym 0))]) (vs := [.int .i64 a]) Tryd.checked.mixed (knownCx ht a1 a2 hk) (fun hg => knownGlob hR hg) ⟨⟨rfl, rfl⟩, trivial⟩ (hr k (List.mem_range.2 (by omega)))

theorem floatKnown_walk {w : World} {a : Int} (hR : Ru w) (ha : (Lit.int .i64 a).wf = true) :
    Calls Tryd.prog 3 #[.int .i64 a] w fun e w' => e = .returned (.bool true) ∧ Below w.heap.size w w' := by
  obtain ⟨a1, a2⟩ := bounds_i64 ha
  have h1 : a % 31 < 31 := Int.emod_lt_of_pos _ (by omega)
  have h2 : 0 ≤ a % 31 := Int.emod_nonneg _ (by omega)
  by_cases c0 : a % 31 < 7
  · exact floatKnown_of hR (by omega) (by omega) knownRead0 (by omega) (by omega)
  by_cases c1 : a % 31 < 13
  · exact floatKnown_of hR (by omega) (by omega) knownRead1 (by omega) (by omega)
  by_cases c2 : a % 31 < 18
  · exact floatKnown_of hR (by omega) (by omega) knownRead2 (by omega) (by omega)
  by_cases c3 : a % 31 < 22
  · exact floatKnown_of hR (by omega) (by omega) knownRead3 (by omega) (by omega)
  by_cases c4 : a % 31 < 25
  · exact floatKnown_of hR (by omega) (by omega) knownRead4 (by omega) (by omega)
  by_cases c5 : a % 31 < 28
  · exact floatKnown_of hR (by omega) (by omega) knownRead5 (by omega) (by omega)
  by_cases c6 : a % 31 < 30
  · exact floatKnown_of hR (by omega) (by omega) knownRead6 (by omega) (by omega)
  exact floatKnown_of hR (by omega) (by omega) knownRead7 (by omega) (by omega)
end Go.Proofs.YtcgigpnejeabmaaDoor
