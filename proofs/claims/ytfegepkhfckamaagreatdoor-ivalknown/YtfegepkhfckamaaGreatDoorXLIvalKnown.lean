/- IvalKnown: these answers are just these: the law's walk. -/
import Derived.Test.YtfegepkhfckamaaGreatDoorXKIV0
import Derived.Test.YtfegepkhfckamaaGreatDoorXKIV1
namespace Go.Proofs.YtfegepkhfckamaaGreatDoor
open Go.RowKit Go.Ev
set_option linter.unusedVariables false

theorem ivalKnown_of {w : World} {a : Int} (hR : Ru w) (a1 : -9223372036854775808 ≤ a) (a2 : a ≤ 9223372036854775807) {b m : Nat} (h : ∃ t : Tr Func, TabOK Tryz.prog t ∧ ((List.range m).all fun k => isTrueA (evalCall ⟨Tryz.prog, true, t.get, orcD (ivalKnownD (b + k)), bigHook Tryz.prog true⟩ 1000000 3 [.one (.atom (.sym 0))] .e 0)) = true)
    (h1 : b ≤ a % 10) (h2 : a % 10 < b + m) : Calls Tryz.prog 3 #[.int .i64 a] w fun e w' => e = .returned (.bool true) ∧ Below w.heap.size w w' := by
  obtain ⟨t, ht, hr⟩ := h
  rw [List.all_eq_true] at hr
  obtain ⟨k, hk⟩ : ∃ k : Nat, a % 10 = ((b + k : Nat) : Int) := ⟨(a % 10).toNat - b, by omega⟩
  exact true_call (M := DomQ true (fun _ => 0) (symI (fun _ => a)) ruG) (cx := ⟨Tryz.prog, true, t.get, orcD (ivalKnownD (b + k)), bigHook Tryz.prog true⟩) (xs := [.one (.atom (.sym 0))]) (vs := [.int .i64 a]) Tryz.checked.mixed (ivalKnownCx ht a1 a2 hk) (fun hg => ruG_ok hR hg) ⟨⟨rfl, fun _ => trivial⟩, trivial⟩ (hr k (List.mem_range.2 (by omega)))

theorem ivalKnown_walk {w : World} {a : Int} (hR : Ru w) (ha : (Lit.int .i64 a).wf = true) :
    Calls Tryz.prog 3 #[.int .i64 a] w fun e w' => e = .returned (.bool true) ∧ Below w.heap.size w w' := by
  obtain ⟨a1, a2⟩ := bounds_i64 ha
  have h1 : a % 10 < 10 := Int.emod_lt_of_pos _ (by omega)
  have h2 : 0 ≤ a % 10 := Int.emod_nonneg _ (by omega)
  by_cases c0 : a % 10 < 5
  · exact ivalKnown_of hR (by omega) (by omega) ivalKnownRead0 (by omega) (by omega)
  exact ivalKnown_of hR (by omega) (by omega) ivalKnownRead1 (by omega) (by omega)
end Go.Proofs.YtfegepkhfckamaaGreatDoor
