/- IvalKnown: the law's call, read out: what is known of what it calls; its example. -/
import Derived.Test.YtfegepkhfckamaaGreatDoorYXF26
namespace Go.Proofs.YtfegepkhfckamaaGreatDoor
open Go.RowKit Go.Ev
set_option linter.unusedVariables false
set_option linter.unusedSimpArgs false

set_option maxHeartbeats 1000000 in
/-- within: what is left by 10. -/
theorem ivalKnown_within (w : World) (a : Int) (ha1 : -9223372036854775808 ≤ a) (ha2 : a ≤ 9223372036854775807) :
    Calls Tryz.prog 15 #[.int .i64 a, .int .i64 10] w fun e w' => e = .returned (.int .i64 (a % 10)) ∧ w = w' := by
  by_cases h0 : 0 ≤ a
  · have h1 : a % 10 < 10 := Int.emod_lt_of_pos _ (by omega)
    have h2 : 0 ≤ a % 10 := Int.emod_nonneg _ (by omega)
    go_enter Tryz.func15, Tryz.ntmps15
    go_wp2
    go_ret
    exact ⟨rfl, rfl⟩
  · have hb : ∃ b : Int, a = -b ∧ 0 < b := ⟨-a, by omega, by omega⟩
    obtain ⟨b, hb, hb0⟩ := hb
    have h3 : a.tmod 10 = -(b % 10) := by rw [hb, Int.neg_tmod, Int.tmod_eq_emod_of_nonneg (by omega)]
    have h1 : b % 10 < 10 := Int.emod_lt_of_pos _ (by omega)
    have h2 : 0 ≤ b % 10 := Int.emod_nonneg _ (by omega)
    obtain ⟨t, ht⟩ : ∃ t, t = b % 10 := ⟨_, rfl⟩
    obtain ⟨r, hr⟩ : ∃ r, r = a % 10 := ⟨_, rfl⟩
    have h5 : r = if t = 0 then 0 else 10 - t := by split <;> omega
    rw [← hr]
    rw [← ht] at h1 h2 h3
    clear ht hb hr
    by_cases ht0 : t = 0
    · have h4 : ¬ (-t < 0) := by omega
      rw [if_pos ht0] at h5
      subst h5
      have HT := hid ht0
      subst ht0
      simp only [Int.neg_zero] at h3
      go_enter Tryz.func15, Tryz.ntmps15
      go_wp2
      go_ret
      exact ⟨rfl, rfl⟩
    · have h4 : -t < 0 := by omega
      rw [if_neg ht0] at h5
      subst h5
      go_enter Tryz.func15, Tryz.ntmps15
      go_wp2
      go_ret
      refine ⟨?_, rfl⟩
      have e : -t + 10 = 10 - t := by omega
      simp only [e]
      rfl

/-- What is known of what is called. -/
def ivalKnownPre (σ : SymD) : List (OP true (fun _ => 0) σ ruG) := [oInt2, oOf2, oAddF, oMulF, oDivF, oCmpF, oOfF ⟨fun _ => by decide⟩]
def ivalKnownD0 : List (FuncId × Ans) := (ivalKnownPre (symI fun _ => 0)).map fun o => (o.f, o.ans)
/-- Likewise: that the example holds; which of the cases it is. -/
def ivalKnownD (k : Nat) : List (FuncId × Ans) := (4, ansTrue) :: (15, ansWithin 10 k) :: ivalKnownD0

set_option maxRecDepth 1000000 in
theorem ivalKnownTold : ∃ t : Tr Func, TabOK Tryz.prog t ∧ isTrueA (evalCall ⟨Tryz.prog, true, t.get, orcD ivalKnownD0, bigHook Tryz.prog true⟩ 1000000 4 [] .e 0) = true :=
  ⟨((((((((((((((((((((((((((Tr.e).put 3 (some Tryz.f3)).put 4 (some Tryz.f4)).put 5 (some Tryz.f5)).put 6 (some Tryz.f6)).put 7 (some Tryz.f7)).put 8 (some Tryz.f8)).put 9 (some Tryz.f9)).put 10 (some Tryz.f10)).put 11 (some Tryz.f11)).put 12 (some Tryz.f12)).put 13 (some Tryz.f13)).put 14 (some Tryz.f14)).put 15 (some Tryz.f15)).put 16 (some Tryz.f16)).put 17 (some Tryz.f17)).put 18 (some Tryz.f18)).put 19 (some Tryz.f19)).put 20 (some Tryz.f20)).put 21 (some Tryz.f21)).put 22 (some Tryz.f22)).put 23 (some Tryz.f23)).put 24 (some Tryz.f24)).put 25 (some Tryz.f25)).put 29 (some Tryz.f29)).put 30 (some Tryz.f30)).put 36 (some Tryz.f36),
   (TabOK.put (TabOK.put (TabOK.put (TabOK.put (TabOK.put (TabOK.put (TabOK.put (TabOK.put (TabOK.put (TabOK.put (TabOK.put (TabOK.put (TabOK.put (TabOK.put (TabOK.put (TabOK.put (TabOK.put (TabOK.put (TabOK.put (TabOK.put (TabOK.put (TabOK.put (TabOK.put (TabOK.put (TabOK.put (TabOK.put (TabOK.e _) ⟨Tryz.func3, by decide +kernel, by decide +kernel⟩) ⟨Tryz.func4, by decide +kernel, by decide +kernel⟩) ⟨Tryz.func5, by decide +kernel, by decide +kernel⟩) ⟨Tryz.func6, by decide +kernel, by decide +kernel⟩) ⟨Tryz.func7, by decide +kernel, by decide +kernel⟩) ⟨Tryz.func8, by decide +kernel, by decide +kernel⟩) ⟨Tryz.func9, by decide +kernel, by decide +kernel⟩) ⟨Tryz.func10, by decide +kernel, by decide +kernel⟩) ⟨Tryz.func11, by decide +kernel, by decide +kernel⟩) ⟨Tryz.func12, by decide +kernel, by decide +kernel⟩) ⟨Tryz.func13, by decide +kernel, by decide +kernel⟩) ⟨Tryz.func14, by decide +kernel, by decide +kernel⟩) ⟨Tryz.func15, by decide +kernel, by decide +kernel⟩) ⟨Tryz.func16, by decide +kernel, by decide +kernel⟩) ⟨Tryz.func17, by decide +kernel, by decide +kernel⟩) ⟨Tryz.func18, by decide +kernel, by decide +kernel⟩) ⟨Tryz.func19, by decide +kernel, by decide +kernel⟩) ⟨Tryz.func20, by decide +kernel, by decide +kernel⟩) ⟨Tryz.func21, by decide +kernel, by decide +kernel⟩) ⟨Tryz.func22, by decide +kernel, by decide +kernel⟩) ⟨Tryz.func23, by decide +kernel, by decide +kernel⟩) ⟨Tryz.func24, by decide +kernel, by decide +kernel⟩) ⟨Tryz.func25, by decide +kernel, by decide +kernel⟩) ⟨Tryz.func29, by decide +kernel, by decide +kernel⟩) ⟨Tryz.func30, by decide +kernel, by decide +kernel⟩) ⟨Tryz.func36, by decide +kernel, by decide +kernel⟩),
   by decide +kernel⟩

theorem ivalKnown_read (w : World) (hR : Ru w) : Calls Tryz.prog 4 #[] w fun e w' => e = .returned (.bool true) ∧ Below w.heap.size w w' := by
  obtain ⟨t, ht, hr⟩ := ivalKnownTold
  exact true_call (M := DomQ true (fun _ => 0) (symI fun _ => 0) ruG) (cx := ⟨Tryz.prog, true, t.get, orcD ivalKnownD0, bigHook Tryz.prog true⟩) (xs := []) (vs := []) Tryz.checked.mixed (cxS_ok ht ⟨ivalKnownPre _, rfl⟩ (bigHook_le _ _) (bigHook_ok _)) (fun hg => ruG_ok hR hg) trivial hr

theorem ivalKnownCx {f : Nat → Int} {B k : Nat} {t : Tr Func} (ht : TabOK Tryz.prog t) (ha1 : -9223372036854775808 ≤ f 0) (ha2 : f 0 ≤ 9223372036854775807) (hk : f 0 % 10 = (k : Int)) : CxOK (DomQ true (fun _ => 0) (symI f) ruG) B ⟨Tryz.prog, true, t.get, orcD (ivalKnownD k), bigHook Tryz.prog true⟩ :=
  cxS_ok ht ⟨orcTrue 4 (fun hS => ivalKnown_read _ (ru_of hS)) :: orcWithin 15 10 k rfl hk (fun w => ivalKnown_within w _ ha1 ha2) :: ivalKnownPre (symI f), rfl⟩ (bigHook_le _ _) (bigHook_ok _)
end Go.Proofs.YtfegepkhfckamaaGreatDoor
