/- FloatKnown: the law's call, read out: what is laid down ahead of it, and its example. -/
import Derived.Test.YtcgigpnejeabmaaDoorEV15
import Derived.Test.YtcgigpnejeabmaaDoorF4
import Derived.OpenShut
namespace Go.Proofs.YtcgigpnejeabmaaDoor
open Go.RowKit Go.Ev
set_option linter.unusedVariables false
set_option linter.unusedSimpArgs false

set_option maxHeartbeats 1000000 in
/-- within: what is left by 31. -/
theorem within31 (w : World) (a : Int) (ha1 : -9223372036854775808 ≤ a) (ha2 : a ≤ 9223372036854775807) :
    Calls Tryd.prog 5 #[.int .i64 a, .int .i64 31] w fun e w' => e = .returned (.int .i64 (a % 31)) ∧ w = w' := by
  by_cases h0 : 0 ≤ a
  · have h1 : a % 31 < 31 := Int.emod_lt_of_pos _ (by omega)
    have h2 : 0 ≤ a % 31 := Int.emod_nonneg _ (by omega)
    go_enter Tryd.func5, Tryd.ntmps5
    go_wp2
    go_ret
    exact ⟨rfl, rfl⟩
  · have hb : ∃ b : Int, a = -b ∧ 0 < b := ⟨-a, by omega, by omega⟩
    obtain ⟨b, hb, hb0⟩ := hb
    have h3 : a.tmod 31 = -(b % 31) := by rw [hb, Int.neg_tmod, Int.tmod_eq_emod_of_nonneg (by omega)]
    have h1 : b % 31 < 31 := Int.emod_lt_of_pos _ (by omega)
    have h2 : 0 ≤ b % 31 := Int.emod_nonneg _ (by omega)
    obtain ⟨t, ht⟩ : ∃ t, t = b % 31 := ⟨_, rfl⟩
    obtain ⟨r, hr⟩ : ∃ r, r = a % 31 := ⟨_, rfl⟩
    have h5 : r = if t = 0 then 0 else 31 - t := by split <;> omega
    rw [← hr]
    rw [← ht] at h1 h2 h3
    clear ht hb hr
    by_cases ht0 : t = 0
    · have h4 : ¬ (-t < 0) := by omega
      rw [if_pos ht0] at h5
      subst h5
      have HT := hid ht0
      subst ht0
      simp only [Int.neg_zero] at h3
      go_enter Tryd.func5, Tryd.ntmps5
      go_wp2
      go_ret
      exact ⟨rfl, rfl⟩
    · have h4 : -t < 0 := by omega
      rw [if_neg ht0] at h5
      subst h5
      go_enter Tryd.func5, Tryd.ntmps5
      go_wp2
      go_ret
      refine ⟨?_, rfl⟩
      have e : -t + 31 = 31 - t := by omega
      simp only [e]
      rfl

/-- What is known without a look: the rule of a mode. -/
def knownOrc0 : CallF := fun f args S n =>
  bif Nat.beq f 11 then (match args with
    | [.one (.lit (.int .i64 m))] => (ofV1 (ruleV m)).map fun x => (.v x, [], n)
    | _ => none)
  else none
/-- Likewise: that the example holds; which of the cases it is. -/
def knownOrc (k : Nat) : CallF := fun f args S n =>
  bif Nat.beq f 4 then (match args with
    | [] => some (.v (.one (.lit (.bool true))), [], n)
    | _ => none)
  else bif Nat.beq f 5 then (match args with
    | [.one (.atom (.sym 0)), .one (.lit (.int .i64 (.ofNat j)))] => bif Nat.beq j 31 then some (.v (.one (.lit (.int .i64 (.ofNat k)))), [], n) else none
    | _ => none)
  else knownOrc0 f args S n

/-- What the case's number stands for; where the table of rules lies. -/
def knownDom (a : Int) : Dom where
  strict := false
  rel := fun _ d u => d = .sym 0 ∧ u = .int .i64 a
  keep := fun _ h => h
  cell := fun h => by obtain ⟨_, rfl⟩ := h; exact ⟨rfl, fun x => by simp⟩
  glob := fun g => if g = 0 then some rulesL else none

theorem knownGlob {a : Int} {w : World} (hR : Ru w) {g : Nat} {us : List Value} (hg : (knownDom a).glob g = some us) : g < w.heap.size ∧ ∀ j v, us[j]? = some v → w.cell? ⟨g, j, none⟩ = some v := by
  simp only [knownDom] at hg
  split at hg
  · rename_i e
    subst e
    obtain rfl := Option.some.inj hg
    exact ⟨World.block_lt_of_cell? w _ (hR 0 _ rfl), hR⟩
  · cases hg

theorem knownOrc0_ok {a : Int} {B : Nat} {f : FuncId} {xs : List A1} {S : Tr Bk} {n n' : Nat} {av : AV} {dl : Dl} (h : knownOrc0 f xs S n = some (av, dl, n')) : n' = n ∧ ∀ ρ w vs, SRel (knownDom a) B ρ w S → (∀ {b k}, S.get b = some k → b < n) → rel1s (knownDom a) ρ w xs vs →
    Calls Tryd.prog f vs.toArray w fun e w' => ∃ v ρ', e = .returned v ∧ av.rel (knownDom a) ρ' w' v ∧ Tn (knownDom a) B ρ w S n ρ' w' (puts S dl) n' := by
  unfold knownOrc0 at h
  cases h1 : Nat.beq f 11 with
  | false => rw [h1] at h; cases h
  | true =>
    rw [h1] at h
    simp only [cond_true] at h
    obtain rfl := Nat.eq_of_beq_eq_true h1
    split at h
    · rename_i m
      simp only [Option.map_eq_some_iff, Prod.mk.injEq] at h
      obtain ⟨x, hx, rfl, rfl, rfl⟩ := h
      refine ⟨rfl, fun ρ w vs hS hkk hvs => ?_⟩
      obtain ⟨v, rfl⟩ : ∃ v, vs = [v] := by
        match vs, hvs with
        | [v], _ => exact ⟨v, rfl⟩
      obtain ⟨⟨rfl, _⟩, _⟩ := hvs
      have hR : Ru w := fun i v hv => (hS.glob (g := 0) (vs := rulesL) (by simp [knownDom])).2.2 i v hv
      refine (ruleOf_any m hR).mono ?_
      rintro e w' ⟨rfl, hw⟩
      exact ⟨ruleV m, ρ, rfl, ofV1_rel hx, tn_below hw hS hkk⟩
    · cases h

theorem knownCx0 {a : Int} {B : Nat} {t : Tr Func} (ht : TabOK Tryd.prog t) : CxOK (knownDom a) B ⟨Tryd.prog, false, t.get, knownOrc0⟩ :=
  ⟨rfl, fun h => ht h, fun f xs S n av dl n' h => Nat.le_of_eq (knownOrc0_ok (a := a) (B := B) (S := S) h).1.symm, fun h ρ w vs hS _ hk _ hvs => (knownOrc0_ok h).2 ρ w vs hS hk hvs⟩

set_option maxRecDepth 1000000 in
theorem knownTold : ∃ t : Tr Func, TabOK Tryd.prog t ∧ isTrueA (evalCall ⟨Tryd.prog, false, t.get, knownOrc0⟩ 1000000 4 [] .e 0) = true :=
  ⟨(((((((((((((((((((((((((((((((((((((((((Tr.e).put 4 (some Tryd.f4)).put 3 (some Tryd.f3)).put 5 (some Tryd.f5)).put 6 (some Tryd.f6)).put 7 (some Tryd.f7)).put 8 (some Tryd.f8)).put 9 (some Tryd.f9)).put 10 (some Tryd.f10)).put 11 (some Tryd.f11)).put 12 (some Tryd.f12)).put 13 (some Tryd.f13)).put 14 (some Tryd.f14)).put 15 (some Tryd.f15)).put 16 (some Tryd.f16)).put 17 (some Tryd.f17)).put 18 (some Tryd.f18)).put 19 (some Tryd.f19)).put 20 (some Tryd.f20)).put 21 (some Tryd.f21)).put 22 (some Tryd.f22)).put 23 (some Tryd.f23)).put 24 (some Tryd.f24)).put 25 (some Tryd.f25)).put 26 (some Tryd.f26)).put 27 (some Tryd.f27)).put 28 (some Tryd.f28)).put 29 (some Tryd.f29)).put 30 (some Tryd.f30)).put 31 (some Tryd.f31)).put 32 (some Tryd.f32)).put 33 (some Tryd.f33)).put 34 (some Tryd.f34)).put 35 (some Tryd.f35)).put 36 (some Tryd.f36)).put 37 (some Tryd.f37)).put 38 (some Tryd.f38)).put 39 (some Tryd.f39)).put 40 (some Tryd.f40)).put 41 (some Tryd.f41)).put 45 (some Tryd.f45)).put 43 (some Tryd.f43),
   (TabOK.put (TabOK.put (TabOK.put (TabOK.put (TabOK.put (TabOK.put (TabOK.put (TabOK.put (TabOK.put (TabOK.put (TabOK.put (TabOK.put (TabOK.put (TabOK.put (TabOK.put (TabOK.put (TabOK.put (TabOK.put (TabOK.put (TabOK.put (TabOK.put (TabOK.put (TabOK.put (TabOK.put (TabOK.put (TabOK.put (TabOK.put (TabOK.put (TabOK.put (TabOK.put (TabOK.put (TabOK.put (TabOK.put (TabOK.put (TabOK.put (TabOK.put (TabOK.put (TabOK.put (TabOK.put (TabOK.put (TabOK.put (TabOK.e _) ⟨Tryd.func4, by decide +kernel, by decide +kernel⟩) ⟨Tryd.func3, by decide +kernel, by decide +kernel⟩) ⟨Tryd.func5, by decide +kernel, by decide +kernel⟩) ⟨Tryd.func6, by decide +kernel, by decide +kernel⟩) ⟨Tryd.func7, by decide +kernel, by decide +kernel⟩) ⟨Tryd.func8, by decide +kernel, by decide +kernel⟩) ⟨Tryd.func9, by decide +kernel, by decide +kernel⟩) ⟨Tryd.func10, by decide +kernel, by decide +kernel⟩) ⟨Tryd.func11, by decide +kernel, by decide +kernel⟩) ⟨Tryd.func12, by decide +kernel, by decide +kernel⟩) ⟨Tryd.func13, by decide +kernel, by decide +kernel⟩) ⟨Tryd.func14, by decide +kernel, by decide +kernel⟩) ⟨Tryd.func15, by decide +kernel, by decide +kernel⟩) ⟨Tryd.func16, by decide +kernel, by decide +kernel⟩) ⟨Tryd.func17, by decide +kernel, by decide +kernel⟩) ⟨Tryd.func18, by decide +kernel, by decide +kernel⟩) ⟨Tryd.func19, by decide +kernel, by decide +kernel⟩) ⟨Tryd.func20, by decide +kernel, by decide +kernel⟩) ⟨Tryd.func21, by decide +kernel, by decide +kernel⟩) ⟨Tryd.func22, by decide +kernel, by decide +kernel⟩) ⟨Tryd.func23, by decide +kernel, by decide +kernel⟩) ⟨Tryd.func24, by decide +kernel, by decide +kernel⟩) ⟨Tryd.func25, by decide +kernel, by decide +kernel⟩) ⟨Tryd.func26, by decide +kernel, by decide +kernel⟩) ⟨Tryd.func27, by decide +kernel, by decide +kernel⟩) ⟨Tryd.func28, by decide +kernel, by decide +kernel⟩) ⟨Tryd.func29, by decide +kernel, by decide +kernel⟩) ⟨Tryd.func30, by decide +kernel, by decide +kernel⟩) ⟨Tryd.func31, by decide +kernel, by decide +kernel⟩) ⟨Tryd.func32, by decide +kernel, by decide +kernel⟩) ⟨Tryd.func33, by decide +kernel, by decide +kernel⟩) ⟨Tryd.func34, by decide +kernel, by decide +kernel⟩) ⟨Tryd.func35, by decide +kernel, by decide +kernel⟩) ⟨Tryd.func36, by decide +kernel, by decide +kernel⟩) ⟨Tryd.func37, by decide +kernel, by decide +kernel⟩) ⟨Tryd.func38, by decide +kernel, by decide +kernel⟩) ⟨Tryd.func39, by decide +kernel, by decide +kernel⟩) ⟨Tryd.func40, by decide +kernel, by decide +kernel⟩) ⟨Tryd.func41, by decide +kernel, by decide +kernel⟩) ⟨Tryd.func45, by decide +kernel, by decide +kernel⟩) ⟨Tryd.func43, by decide +kernel, by decide +kernel⟩),
   by decide +kernel⟩

theorem known_read {w : World} (hR : Ru w) : Calls Tryd.prog 4 #[] w fun e w' => e = .returned (.bool true) ∧ Below w.heap.size w w' := by
  obtain ⟨t, ht, hr⟩ := knownTold
  exact true_call (M := knownDom 0) (cx := ⟨Tryd.prog, false, t.get, knownOrc0⟩) (xs := []) (vs := []) Tryd.checked.mixed (knownCx0 ht) (fun hg => knownGlob hR hg) trivial hr

theorem knownCx {a : Int} {B k : Nat} {t : Tr Func} (ht : TabOK Tryd.prog t) (ha1 : -9223372036854775808 ≤ a) (ha2 : a ≤ 9223372036854775807) (hk : a % 31 = (k : Int)) : CxOK (knownDom a) B ⟨Tryd.prog, false, t.get, knownOrc k⟩ := by
  have parts : ∀ {f xs S n av dl n'}, knownOrc k f xs S n = some (av, dl, n') → knownOrc0 f xs S n = some (av, dl, n') ∨
      (f = 4 ∧ xs = [] ∧ av = .v (.one (.lit (.bool true))) ∧ dl = [] ∧ n' = n) ∨
      (f = 5 ∧ xs = [.one (.atom (.sym 0)), .one (.lit (.int .i64 (.ofNat 31)))] ∧ av = .v (.one (.lit (.int .i64 (.ofNat k)))) ∧ dl = [] ∧ n' = n) := by
    intro f xs S n av dl n' h
    unfold knownOrc at h
    cases h1 : Nat.beq f 4 with
    | true =>
      rw [h1] at h
      simp only [cond_true] at h
      right; left
      refine ⟨Nat.eq_of_beq_eq_true h1, ?_⟩
      split at h
      · simp only [Option.some.injEq, Prod.mk.injEq] at h
        obtain ⟨rfl, rfl, rfl⟩ := h
        exact ⟨rfl, rfl, rfl, rfl⟩
      · cases h
    | false =>
      rw [h1] at h
      simp only [cond_false] at h
      cases h2 : Nat.beq f 5 with
      | false => rw [h2] at h; exact .inl h
      | true =>
        rw [h2] at h
        simp only [cond_true] at h
        right; right
        refine ⟨Nat.eq_of_beq_eq_true h2, ?_⟩
        split at h
        · rename_i j
          cases h3 : Nat.beq j 31 with
          | false => rw [h3] at h; cases h
          | true =>
            rw [h3] at h
            simp only [cond_true, Option.some.injEq, Prod.mk.injEq] at h
            obtain ⟨rfl, rfl, rfl⟩ := h
            obtain rfl := Nat.eq_of_beq_eq_true h3
            exact ⟨rfl, rfl, rfl, rfl⟩
        · cases h
  refine ⟨rfl, fun h => ht h, ?_, ?_⟩
  · intro f xs S n av dl n' h
    rcases parts h with h | ⟨_, _, _, _, rfl⟩ | ⟨_, _, _, _, rfl⟩
    · exact Nat.le_of_eq (knownOrc0_ok (a := a) (B := B) (S := S) h).1.symm
    · exact Nat.le_refl _
    · exact Nat.le_refl _
  · intro f xs S n av dl n' h ρ w vs hS hB hkk hf hvs
    rcases parts h with h | ⟨rfl, rfl, rfl, rfl, rfl⟩ | ⟨rfl, rfl, rfl, rfl, rfl⟩
    · exact (knownOrc0_ok h).2 ρ w vs hS hkk hvs
    · obtain rfl : vs = [] := by
        match vs, hvs with
        | [], _ => rfl
      have hR : Ru w := fun i v hv => (hS.glob (g := 0) (vs := rulesL) (by simp [knownDom])).2.2 i v hv
      refine (known_read hR).mono ?_
      rintro e w' ⟨rfl, hw⟩
      exact ⟨.bool true, ρ, rfl, ⟨rfl, rfl⟩, tn_below hw hS hkk⟩
    · obtain ⟨v, u, rfl⟩ : ∃ v u, vs = [v, u] := by
        match vs, hvs with
        | [v, u], _ => exact ⟨v, u, rfl⟩
      obtain ⟨⟨_, rfl⟩, ⟨rfl, _⟩, _⟩ := hvs
      refine (within31 w a ha1 ha2).mono ?_
      rintro e w' ⟨rfl, rfl⟩
      exact ⟨.int .i64 (.ofNat k), ρ, by rw [hk]; rfl, ⟨rfl, rfl⟩, tn_below (Below.refl _ _) hS hkk⟩
end Go.Proofs.YtcgigpnejeabmaaDoor
