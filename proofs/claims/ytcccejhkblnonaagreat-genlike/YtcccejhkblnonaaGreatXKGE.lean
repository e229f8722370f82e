/- GenErrs: the law's call, read out: what is known of what it calls; its example. -/
import Derived.Test.YtcccejhkblnonaaGreatXEVU
namespace Go.Proofs.YtcccejhkblnonaaGreat
open Go.RowKit Go.Ev
set_option linter.unusedVariables false
set_option linter.unusedSimpArgs false

set_option maxHeartbeats 1000000 in
/-- within: what is left by 15. -/
theorem genErrs_within (w : World) (a : Int) (ha1 : -9223372036854775808 ≤ a) (ha2 : a ≤ 9223372036854775807) :
    Calls Tryz.prog 16 #[.int .i64 a, .int .i64 15] w fun e w' => e = .returned (.int .i64 (a % 15)) ∧ w = w' := by
  by_cases h0 : 0 ≤ a
  · have h1 : a % 15 < 15 := Int.emod_lt_of_pos _ (by omega)
    have h2 : 0 ≤ a % 15 := Int.emod_nonneg _ (by omega)
    go_enter Tryz.func16, Tryz.ntmps16
    go_wp2
    go_ret
    exact ⟨rfl, rfl⟩
  · have hb : ∃ b : Int, a = -b ∧ 0 < b := ⟨-a, by omega, by omega⟩
    obtain ⟨b, hb, hb0⟩ := hb
    have h3 : a.tmod 15 = -(b % 15) := by rw [hb, Int.neg_tmod, Int.tmod_eq_emod_of_nonneg (by omega)]
    have h1 : b % 15 < 15 := Int.emod_lt_of_pos _ (by omega)
    have h2 : 0 ≤ b % 15 := Int.emod_nonneg _ (by omega)
    obtain ⟨t, ht⟩ : ∃ t, t = b % 15 := ⟨_, rfl⟩
    obtain ⟨r, hr⟩ : ∃ r, r = a % 15 := ⟨_, rfl⟩
    have h5 : r = if t = 0 then 0 else 15 - t := by split <;> omega
    rw [← hr]
    rw [← ht] at h1 h2 h3
    clear ht hb hr
    by_cases ht0 : t = 0
    · have h4 : ¬ (-t < 0) := by omega
      rw [if_pos ht0] at h5
      subst h5
      have HT := hid ht0
      subst ht0
      simp only [Int.neg_zero] at h3
      go_enter Tryz.func16, Tryz.ntmps16
      go_wp2
      go_ret
      exact ⟨rfl, rfl⟩
    · have h4 : -t < 0 := by omega
      rw [if_neg ht0] at h5
      subst h5
      go_enter Tryz.func16, Tryz.ntmps16
      go_wp2
      go_ret
      refine ⟨?_, rfl⟩
      have e : -t + 15 = 15 - t := by omega
      simp only [e]
      rfl

/-- What is known of what is called. -/
def genErrsPre (σ : SymD) : List (OP true (fun _ => 0) σ (fun _ => none)) := [oAdd qx0, oSub qx0, oMul qx0, oQuo qx0, oRight qx0, oClone qx0, oRefused qx0, oMeet qx0, oZero2, oInt2, oOf2, oSame2 qx0, oRight2 qx0]
def genErrsD0 : List (FuncId × Ans) := (genErrsPre (symI fun _ => 0)).map fun o => (o.f, o.ans)
/-- Likewise: that the example holds; which of the cases it is. -/
def genErrsD (k : Nat) : List (FuncId × Ans) := (8, ansTrue) :: (16, ansWithin 15 k) :: genErrsD0

set_option maxRecDepth 1000000 in
theorem genErrsTold : ∃ t : Tr Func, TabOK Tryz.prog t ∧ isTrueA (evalCall ⟨Tryz.prog, true, t.get, orcD genErrsD0, bigHook Tryz.prog true⟩ 1000000 8 [] .e 0) = true :=
  ⟨(((((((((((((((((((((((((((((((((((((((((((((((((((((((((((((((((Tr.e).put 6 (some Tryz.f6)).put 8 (some Tryz.f8)).put 10 (some Tryz.f10)).put 11 (some Tryz.f11)).put 12 (some Tryz.f12)).put 13 (some Tryz.f13)).put 14 (some Tryz.f14)).put 15 (some Tryz.f15)).put 16 (some Tryz.f16)).put 17 (some Tryz.f17)).put 18 (some Tryz.f18)).put 19 (some Tryz.f19)).put 20 (some Tryz.f20)).put 21 (some Tryz.f21)).put 22 (some Tryz.f22)).put 23 (some Tryz.f23)).put 24 (some Tryz.f24)).put 25 (some Tryz.f25)).put 26 (some Tryz.f26)).put 28 (some Tryz.f28)).put 29 (some Tryz.f29)).put 30 (some Tryz.f30)).put 32 (some Tryz.f32)).put 33 (some Tryz.f33)).put 34 (some Tryz.f34)).put 35 (some Tryz.f35)).put 36 (some Tryz.f36)).put 37 (some Tryz.f37)).put 38 (some Tryz.f38)).put 42 (some Tryz.f42)).put 43 (some Tryz.f43)).put 44 (some Tryz.f44)).put 45 (some Tryz.f45)).put 46 (some Tryz.f46)).put 47 (some Tryz.f47)).put 48 (some Tryz.f48)).put 49 (some Tryz.f49)).put 50 (some Tryz.f50)).put 52 (some Tryz.f52)).put 53 (some Tryz.f53)).put 54 (some Tryz.f54)).put 55 (some Tryz.f55)).put 56 (some Tryz.f56)).put 57 (some Tryz.f57)).put 58 (some Tryz.f58)).put 59 (some Tryz.f59)).put 60 (some Tryz.f60)).put 61 (some Tryz.f61)).put 62 (some Tryz.f62)).put 63 (some Tryz.f63)).put 65 (some Tryz.f65)).put 69 (some Tryz.f69)).put 70 (some Tryz.f70)).put 71 (some Tryz.f71)).put 72 (some Tryz.f72)).put 73 (some Tryz.f73)).put 75 (some Tryz.f75)).put 76 (some Tryz.f76)).put 77 (some Tryz.f77)).put 78 (some Tryz.f78)).put 79 (some Tryz.f79)).put 80 (some Tryz.f80)).put 82 (some Tryz.f82)).put 85 (some Tryz.f85)).put 86 (some Tryz.f86),
   (TabOK.put (TabOK.put (TabOK.put (TabOK.put (TabOK.put (TabOK.put (TabOK.put (TabOK.put (TabOK.put (TabOK.put (TabOK.put (TabOK.put (TabOK.put (TabOK.put (TabOK.put (TabOK.put (TabOK.put (TabOK.put (TabOK.put (TabOK.put (TabOK.put (TabOK.put (TabOK.put (TabOK.put (TabOK.put (TabOK.put (TabOK.put (TabOK.put (TabOK.put (TabOK.put (TabOK.put (TabOK.put (TabOK.put (TabOK.put (TabOK.put (TabOK.put (TabOK.put (TabOK.put (TabOK.put (TabOK.put (TabOK.put (TabOK.put (TabOK.put (TabOK.put (TabOK.put (TabOK.put (TabOK.put (TabOK.put (TabOK.put (TabOK.put (TabOK.put (TabOK.put (TabOK.put (TabOK.put (TabOK.put (TabOK.put (TabOK.put (TabOK.put (TabOK.put (TabOK.put (TabOK.put (TabOK.put (TabOK.put (TabOK.put (TabOK.put (TabOK.e _) ⟨Tryz.func6, by decide +kernel, by decide +kernel⟩) ⟨Tryz.func8, by decide +kernel, by decide +kernel⟩) ⟨Tryz.func10, by decide +kernel, by decide +kernel⟩) ⟨Tryz.func11, by decide +kernel, by decide +kernel⟩) ⟨Tryz.func12, by decide +kernel, by decide +kernel⟩) ⟨Tryz.func13, by decide +kernel, by decide +kernel⟩) ⟨Tryz.func14, by decide +kernel, by decide +kernel⟩) ⟨Tryz.func15, by decide +kernel, by decide +kernel⟩) ⟨Tryz.func16, by decide +kernel, by decide +kernel⟩) ⟨Tryz.func17, by decide +kernel, by decide +kernel⟩) ⟨Tryz.func18, by decide +kernel, by decide +kernel⟩) ⟨Tryz.func19, by decide +kernel, by decide +kernel⟩) ⟨Tryz.func20, by decide +kernel, by decide +kernel⟩) ⟨Tryz.func21, by decide +kernel, by decide +kernel⟩) ⟨Tryz.func22, by decide +kernel, by decide +kernel⟩) ⟨Tryz.func23, by decide +kernel, by decide +kernel⟩) ⟨Tryz.func24, by decide +kernel, by decide +kernel⟩) ⟨Tryz.func25, by decide +kernel, by decide +kernel⟩) ⟨Tryz.func26, by decide +kernel, by decide +kernel⟩) ⟨Tryz.func28, by decide +kernel, by decide +kernel⟩) ⟨Tryz.func29, by decide +kernel, by decide +kernel⟩) ⟨Tryz.func30, by decide +kernel, by decide +kernel⟩) ⟨Tryz.func32, by decide +kernel, by decide +kernel⟩) ⟨Tryz.func33, by decide +kernel, by decide +kernel⟩) ⟨Tryz.func34, by decide +kernel, by decide +kernel⟩) ⟨Tryz.func35, by decide +kernel, by decide +kernel⟩) ⟨Tryz.func36, by decide +kernel, by decide +kernel⟩) ⟨Tryz.func37, by decide +kernel, by decide +kernel⟩) ⟨Tryz.func38, by decide +kernel, by decide +kernel⟩) ⟨Tryz.func42, by decide +kernel, by decide +kernel⟩) ⟨Tryz.func43, by decide +kernel, by decide +kernel⟩) ⟨Tryz.func44, by decide +kernel, by decide +kernel⟩) ⟨Tryz.func45, by decide +kernel, by decide +kernel⟩) ⟨Tryz.func46, by decide +kernel, by decide +kernel⟩) ⟨Tryz.func47, by decide +kernel, by decide +kernel⟩) ⟨Tryz.func48, by decide +kernel, by decide +kernel⟩) ⟨Tryz.func49, by decide +kernel, by decide +kernel⟩) ⟨Tryz.func50, by decide +kernel, by decide +kernel⟩) ⟨Tryz.func52, by decide +kernel, by decide +kernel⟩) ⟨Tryz.func53, by decide +kernel, by decide +kernel⟩) ⟨Tryz.func54, by decide +kernel, by decide +kernel⟩) ⟨Tryz.func55, by decide +kernel, by decide +kernel⟩) ⟨Tryz.func56, by decide +kernel, by decide +kernel⟩) ⟨Tryz.func57, by decide +kernel, by decide +kernel⟩) ⟨Tryz.func58, by decide +kernel, by decide +kernel⟩) ⟨Tryz.func59, by decide +kernel, by decide +kernel⟩) ⟨Tryz.func60, by decide +kernel, by decide +kernel⟩) ⟨Tryz.func61, by decide +kernel, by decide +kernel⟩) ⟨Tryz.func62, by decide +kernel, by decide +kernel⟩) ⟨Tryz.func63, by decide +kernel, by decide +kernel⟩) ⟨Tryz.func65, by decide +kernel, by decide +kernel⟩) ⟨Tryz.func69, by decide +kernel, by decide +kernel⟩) ⟨Tryz.func70, by decide +kernel, by decide +kernel⟩) ⟨Tryz.func71, by decide +kernel, by decide +kernel⟩) ⟨Tryz.func72, by decide +kernel, by decide +kernel⟩) ⟨Tryz.func73, by decide +kernel, by decide +kernel⟩) ⟨Tryz.func75, by decide +kernel, by decide +kernel⟩) ⟨Tryz.func76, by decide +kernel, by decide +kernel⟩) ⟨Tryz.func77, by decide +kernel, by decide +kernel⟩) ⟨Tryz.func78, by decide +kernel, by decide +kernel⟩) ⟨Tryz.func79, by decide +kernel, by decide +kernel⟩) ⟨Tryz.func80, by decide +kernel, by decide +kernel⟩) ⟨Tryz.func82, by decide +kernel, by decide +kernel⟩) ⟨Tryz.func85, by decide +kernel, by decide +kernel⟩) ⟨Tryz.func86, by decide +kernel, by decide +kernel⟩),
   by decide +kernel⟩

theorem genErrs_read (w : World) : Calls Tryz.prog 8 #[] w fun e w' => e = .returned (.bool true) ∧ Below w.heap.size w w' := by
  obtain ⟨t, ht, hr⟩ := genErrsTold
  exact true_call (M := DomQ true (fun _ => 0) (symI fun _ => 0) (fun _ => none)) (cx := ⟨Tryz.prog, true, t.get, orcD genErrsD0, bigHook Tryz.prog true⟩) (xs := []) (vs := []) Tryz.checked.mixed (cxS_ok ht ⟨genErrsPre _, rfl⟩ (bigHook_le _ _) (bigHook_ok _)) (fun hg => by cases hg) trivial hr

theorem genErrsCx {f : Nat → Int} {B k : Nat} {t : Tr Func} (ht : TabOK Tryz.prog t) (ha1 : -9223372036854775808 ≤ f 0) (ha2 : f 0 ≤ 9223372036854775807) (hk : f 0 % 15 = (k : Int)) : CxOK (DomQ true (fun _ => 0) (symI f) (fun _ => none)) B ⟨Tryz.prog, true, t.get, orcD (genErrsD k), bigHook Tryz.prog true⟩ :=
  cxS_ok ht ⟨orcTrue 8 (fun _ => genErrs_read _) :: orcWithin 16 15 k rfl hk (fun w => genErrs_within w _ ha1 ha2) :: genErrsPre (symI f), rfl⟩ (bigHook_le _ _) (bigHook_ok _)
end Go.Proofs.YtcccejhkblnonaaGreat
