/- CodeKnown: the law's call, read out: what is known of what it calls; its example. -/
import Derived.Test.YtcccejhkblnonabXN4
namespace Go.Proofs.Ytcccejhkblnonab
open Go.RowKit Go.Ev
set_option linter.unusedVariables false
set_option linter.unusedSimpArgs false

set_option maxHeartbeats 1000000 in
/-- within: what is left by 16. -/
theorem codeKnown_within (w : World) (a : Int) (ha1 : -9223372036854775808 ≤ a) (ha2 : a ≤ 9223372036854775807) :
    Calls Try.prog 9 #[.int .i64 a, .int .i64 16] w fun e w' => e = .returned (.int .i64 (a % 16)) ∧ w = w' := by
  by_cases h0 : 0 ≤ a
  · have h1 : a % 16 < 16 := Int.emod_lt_of_pos _ (by omega)
    have h2 : 0 ≤ a % 16 := Int.emod_nonneg _ (by omega)
    go_enter Try.func9, Try.ntmps9
    go_wp2
    go_ret
    exact ⟨rfl, rfl⟩
  · have hb : ∃ b : Int, a = -b ∧ 0 < b := ⟨-a, by omega, by omega⟩
    obtain ⟨b, hb, hb0⟩ := hb
    have h3 : a.tmod 16 = -(b % 16) := by rw [hb, Int.neg_tmod, Int.tmod_eq_emod_of_nonneg (by omega)]
    have h1 : b % 16 < 16 := Int.emod_lt_of_pos _ (by omega)
    have h2 : 0 ≤ b % 16 := Int.emod_nonneg _ (by omega)
    obtain ⟨t, ht⟩ : ∃ t, t = b % 16 := ⟨_, rfl⟩
    obtain ⟨r, hr⟩ : ∃ r, r = a % 16 := ⟨_, rfl⟩
    have h5 : r = if t = 0 then 0 else 16 - t := by split <;> omega
    rw [← hr]
    rw [← ht] at h1 h2 h3
    clear ht hb hr
    by_cases ht0 : t = 0
    · have h4 : ¬ (-t < 0) := by omega
      rw [if_pos ht0] at h5
      subst h5
      have HT := hid ht0
      subst ht0
      simp only [Int.neg_zero] at h3
      go_enter Try.func9, Try.ntmps9
      go_wp2
      go_ret
      exact ⟨rfl, rfl⟩
    · have h4 : -t < 0 := by omega
      rw [if_neg ht0] at h5
      subst h5
      go_enter Try.func9, Try.ntmps9
      go_wp2
      go_ret
      refine ⟨?_, rfl⟩
      have e : -t + 16 = 16 - t := by omega
      simp only [e]
      rfl

/-- What is known of what is called. -/
def codeKnownPre (σ : SymD) : List (OP false (fun _ => 0) σ (fun _ => none)) := [oRight qx0, oRefused qx0, oMeet qx0, oCounts5]
def codeKnownD0 : List (FuncId × Ans) := (codeKnownPre (symI fun _ => 0)).map fun o => (o.f, o.ans)
/-- Likewise: that the example holds; which of the cases it is. -/
def codeKnownD (k : Nat) : List (FuncId × Ans) := (4, ansTrue) :: (9, ansWithin 16 k) :: codeKnownD0

set_option maxRecDepth 1000000 in
theorem codeKnownTold : ∃ t : Tr Func, TabOK Try.prog t ∧ isTrueA (evalCall ⟨Try.prog, false, t.get, orcD codeKnownD0, bigHook Try.prog false⟩ 1000000 4 [] .e 0) = true :=
  ⟨(((((((((((((((((((((((((((((((((((((((((((((((((((((((((((((((((((((((((((((((((((((((Tr.e).put 3 (some Try.f3)).put 4 (some Try.f4)).put 5 (some Try.f5)).put 6 (some Try.f6)).put 7 (some Try.f7)).put 8 (some Try.f8)).put 9 (some Try.f9)).put 10 (some Try.f10)).put 11 (some Try.f11)).put 12 (some Try.f12)).put 13 (some Try.f13)).put 14 (some Try.f14)).put 15 (some Try.f15)).put 16 (some Try.f16)).put 17 (some Try.f17)).put 18 (some Try.f18)).put 19 (some Try.f19)).put 20 (some Try.f20)).put 21 (some Try.f21)).put 22 (some Try.f22)).put 23 (some Try.f23)).put 24 (some Try.f24)).put 25 (some Try.f25)).put 26 (some Try.f26)).put 27 (some Try.f27)).put 28 (some Try.f28)).put 29 (some Try.f29)).put 30 (some Try.f30)).put 31 (some Try.f31)).put 32 (some Try.f32)).put 33 (some Try.f33)).put 34 (some Try.f34)).put 35 (some Try.f35)).put 36 (some Try.f36)).put 37 (some Try.f37)).put 38 (some Try.f38)).put 39 (some Try.f39)).put 40 (some Try.f40)).put 41 (some Try.f41)).put 42 (some Try.f42)).put 43 (some Try.f43)).put 44 (some Try.f44)).put 45 (some Try.f45)).put 46 (some Try.f46)).put 47 (some Try.f47)).put 48 (some Try.f48)).put 49 (some Try.f49)).put 50 (some Try.f50)).put 51 (some Try.f51)).put 52 (some Try.f52)).put 53 (some Try.f53)).put 54 (some Try.f54)).put 55 (some Try.f55)).put 56 (some Try.f56)).put 57 (some Try.f57)).put 58 (some Try.f58)).put 59 (some Try.f59)).put 60 (some Try.f60)).put 61 (some Try.f61)).put 62 (some Try.f62)).put 63 (some Try.f63)).put 64 (some Try.f64)).put 65 (some Try.f65)).put 66 (some Try.f66)).put 67 (some Try.f67)).put 68 (some Try.f68)).put 69 (some Try.f69)).put 70 (some Try.f70)).put 71 (some Try.f71)).put 72 (some Try.f72)).put 73 (some Try.f73)).put 74 (some Try.f74)).put 75 (some Try.f75)).put 76 (some Try.f76)).put 77 (some Try.f77)).put 78 (some Try.f78)).put 79 (some Try.f79)).put 80 (some Try.f80)).put 81 (some Try.f81)).put 82 (some Try.f82)).put 83 (some Try.f83)).put 84 (some Try.f84)).put 85 (some Try.f85)).put 86 (some Try.f86)).put 87 (some Try.f87)).put 88 (some Try.f88)).put 89 (some Try.f89),
   (TabOK.put (TabOK.put (TabOK.put (TabOK.put (TabOK.put (TabOK.put (TabOK.put (TabOK.put (TabOK.put (TabOK.put (TabOK.put (TabOK.put (TabOK.put (TabOK.put (TabOK.put (TabOK.put (TabOK.put (TabOK.put (TabOK.put (TabOK.put (TabOK.put (TabOK.put (TabOK.put (TabOK.put (TabOK.put (TabOK.put (TabOK.put (TabOK.put (TabOK.put (TabOK.put (TabOK.put (TabOK.put (TabOK.put (TabOK.put (TabOK.put (TabOK.put (TabOK.put (TabOK.put (TabOK.put (TabOK.put (TabOK.put (TabOK.put (TabOK.put (TabOK.put (TabOK.put (TabOK.put (TabOK.put (TabOK.put (TabOK.put (TabOK.put (TabOK.put (TabOK.put (TabOK.put (TabOK.put (TabOK.put (TabOK.put (TabOK.put (TabOK.put (TabOK.put (TabOK.put (TabOK.put (TabOK.put (TabOK.put (TabOK.put (TabOK.put (TabOK.put (TabOK.put (TabOK.put (TabOK.put (TabOK.put (TabOK.put (TabOK.put (TabOK.put (TabOK.put (TabOK.put (TabOK.put (TabOK.put (TabOK.put (TabOK.put (TabOK.put (TabOK.put (TabOK.put (TabOK.put (TabOK.put (TabOK.put (TabOK.put (TabOK.put (TabOK.e _) ⟨Try.func3, by decide +kernel, by decide +kernel⟩) ⟨Try.func4, by decide +kernel, by decide +kernel⟩) ⟨Try.func5, by decide +kernel, by decide +kernel⟩) ⟨Try.func6, by decide +kernel, by decide +kernel⟩) ⟨Try.func7, by decide +kernel, by decide +kernel⟩) ⟨Try.func8, by decide +kernel, by decide +kernel⟩) ⟨Try.func9, by decide +kernel, by decide +kernel⟩) ⟨Try.func10, by decide +kernel, by decide +kernel⟩) ⟨Try.func11, by decide +kernel, by decide +kernel⟩) ⟨Try.func12, by decide +kernel, by decide +kernel⟩) ⟨Try.func13, by decide +kernel, by decide +kernel⟩) ⟨Try.func14, by decide +kernel, by decide +kernel⟩) ⟨Try.func15, by decide +kernel, by decide +kernel⟩) ⟨Try.func16, by decide +kernel, by decide +kernel⟩) ⟨Try.func17, by decide +kernel, by decide +kernel⟩) ⟨Try.func18, by decide +kernel, by decide +kernel⟩) ⟨Try.func19, by decide +kernel, by decide +kernel⟩) ⟨Try.func20, by decide +kernel, by decide +kernel⟩) ⟨Try.func21, by decide +kernel, by decide +kernel⟩) ⟨Try.func22, by decide +kernel, by decide +kernel⟩) ⟨Try.func23, by decide +kernel, by decide +kernel⟩) ⟨Try.func24, by decide +kernel, by decide +kernel⟩) ⟨Try.func25, by decide +kernel, by decide +kernel⟩) ⟨Try.func26, by decide +kernel, by decide +kernel⟩) ⟨Try.func27, by decide +kernel, by decide +kernel⟩) ⟨Try.func28, by decide +kernel, by decide +kernel⟩) ⟨Try.func29, by decide +kernel, by decide +kernel⟩) ⟨Try.func30, by decide +kernel, by decide +kernel⟩) ⟨Try.func31, by decide +kernel, by decide +kernel⟩) ⟨Try.func32, by decide +kernel, by decide +kernel⟩) ⟨Try.func33, by decide +kernel, by decide +kernel⟩) ⟨Try.func34, by decide +kernel, by decide +kernel⟩) ⟨Try.func35, by decide +kernel, by decide +kernel⟩) ⟨Try.func36, by decide +kernel, by decide +kernel⟩) ⟨Try.func37, by decide +kernel, by decide +kernel⟩) ⟨Try.func38, by decide +kernel, by decide +kernel⟩) ⟨Try.func39, by decide +kernel, by decide +kernel⟩) ⟨Try.func40, by decide +kernel, by decide +kernel⟩) ⟨Try.func41, by decide +kernel, by decide +kernel⟩) ⟨Try.func42, by decide +kernel, by decide +kernel⟩) ⟨Try.func43, by decide +kernel, by decide +kernel⟩) ⟨Try.func44, by decide +kernel, by decide +kernel⟩) ⟨Try.func45, by decide +kernel, by decide +kernel⟩) ⟨Try.func46, by decide +kernel, by decide +kernel⟩) ⟨Try.func47, by decide +kernel, by decide +kernel⟩) ⟨Try.func48, by decide +kernel, by decide +kernel⟩) ⟨Try.func49, by decide +kernel, by decide +kernel⟩) ⟨Try.func50, by decide +kernel, by decide +kernel⟩) ⟨Try.func51, by decide +kernel, by decide +kernel⟩) ⟨Try.func52, by decide +kernel, by decide +kernel⟩) ⟨Try.func53, by decide +kernel, by decide +kernel⟩) ⟨Try.func54, by decide +kernel, by decide +kernel⟩) ⟨Try.func55, by decide +kernel, by decide +kernel⟩) ⟨Try.func56, by decide +kernel, by decide +kernel⟩) ⟨Try.func57, by decide +kernel, by decide +kernel⟩) ⟨Try.func58, by decide +kernel, by decide +kernel⟩) ⟨Try.func59, by decide +kernel, by decide +kernel⟩) ⟨Try.func60, by decide +kernel, by decide +kernel⟩) ⟨Try.func61, by decide +kernel, by decide +kernel⟩) ⟨Try.func62, by decide +kernel, by decide +kernel⟩) ⟨Try.func63, by decide +kernel, by decide +kernel⟩) ⟨Try.func64, by decide +kernel, by decide +kernel⟩) ⟨Try.func65, by decide +kernel, by decide +kernel⟩) ⟨Try.func66, by decide +kernel, by decide +kernel⟩) ⟨Try.func67, by decide +kernel, by decide +kernel⟩) ⟨Try.func68, by decide +kernel, by decide +kernel⟩) ⟨Try.func69, by decide +kernel, by decide +kernel⟩) ⟨Try.func70, by decide +kernel, by decide +kernel⟩) ⟨Try.func71, by decide +kernel, by decide +kernel⟩) ⟨Try.func72, by decide +kernel, by decide +kernel⟩) ⟨Try.func73, by decide +kernel, by decide +kernel⟩) ⟨Try.func74, by decide +kernel, by decide +kernel⟩) ⟨Try.func75, by decide +kernel, by decide +kernel⟩) ⟨Try.func76, by decide +kernel, by decide +kernel⟩) ⟨Try.func77, by decide +kernel, by decide +kernel⟩) ⟨Try.func78, by decide +kernel, by decide +kernel⟩) ⟨Try.func79, by decide +kernel, by decide +kernel⟩) ⟨Try.func80, by decide +kernel, by decide +kernel⟩) ⟨Try.func81, by decide +kernel, by decide +kernel⟩) ⟨Try.func82, by decide +kernel, by decide +kernel⟩) ⟨Try.func83, by decide +kernel, by decide +kernel⟩) ⟨Try.func84, by decide +kernel, by decide +kernel⟩) ⟨Try.func85, by decide +kernel, by decide +kernel⟩) ⟨Try.func86, by decide +kernel, by decide +kernel⟩) ⟨Try.func87, by decide +kernel, by decide +kernel⟩) ⟨Try.func88, by decide +kernel, by decide +kernel⟩) ⟨Try.func89, by decide +kernel, by decide +kernel⟩),
   by decide +kernel⟩

theorem codeKnown_read (w : World) : Calls Try.prog 4 #[] w fun e w' => e = .returned (.bool true) ∧ Below w.heap.size w w' := by
  obtain ⟨t, ht, hr⟩ := codeKnownTold
  exact true_call (M := DomQ false (fun _ => 0) (symI fun _ => 0) (fun _ => none)) (cx := ⟨Try.prog, false, t.get, orcD codeKnownD0, bigHook Try.prog false⟩) (xs := []) (vs := []) Try.checked.mixed (cxS_ok ht ⟨codeKnownPre _, rfl⟩ (bigHook_le _ _) (bigHook_ok _)) (fun hg => by cases hg) trivial hr

theorem codeKnownCx {f : Nat → Int} {B k : Nat} {t : Tr Func} (ht : TabOK Try.prog t) (ha1 : -9223372036854775808 ≤ f 0) (ha2 : f 0 ≤ 9223372036854775807) (hk : f 0 % 16 = (k : Int)) : CxOK (DomQ false (fun _ => 0) (symI f) (fun _ => none)) B ⟨Try.prog, false, t.get, orcD (codeKnownD k), bigHook Try.prog false⟩ :=
  cxS_ok ht ⟨orcTrue 4 (fun _ => codeKnown_read _) :: orcWithin 9 16 k rfl hk (fun w => codeKnown_within w _ ha1 ha2) :: codeKnownPre (symI f), rfl⟩ (bigHook_le _ _) (bigHook_ok _)
end Go.Proofs.Ytcccejhkblnonab
