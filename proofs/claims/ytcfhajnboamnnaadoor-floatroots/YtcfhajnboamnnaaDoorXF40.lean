/- sfloat's Sqrt, by the reader upon letters. -/
import Derived.Test.YtcfhajnboamnnaaDoorXF39
import Derived.Test.YtcfhajnboamnnaaDoorXF10
import Derived.Test.YtcfhajnboamnnaaDoorYXFZ
import Derived.Test.YtcfhajnboamnnaaDoorYXF26
namespace Go.Proofs.YtcfhajnboamnnaaDoor
open Go.RowKit Go.Ev
set_option linter.unusedVariables false
set_option linter.unusedSimpArgs false

def rAc (c : Nat) : Nat := [200, 0, 0, 238, 204].getD c 0
def rBc (c : Nat) : Nat := [200, 0, 238, 0, 204].getD c 0
def rMc (c : Nat) : Bool := [false, false, true, false, false].getD c false
theorem rule_class (m : Int) : ∃ c, c < 5 ∧ rAbove m = rAc c ∧ rBelow m = rBc c ∧ rMinus m = rMc c := by
  by_cases m1 : m = 1
  · subst m1; exact ⟨1, by decide, by decide, by decide, by decide⟩
  · by_cases m2 : m = 2
    · subst m2; exact ⟨2, by decide, by decide, by decide, by decide⟩
    · by_cases m3 : m = 3
      · subst m3; exact ⟨3, by decide, by decide, by decide, by decide⟩
      · by_cases m4 : m = 4
        · subst m4; exact ⟨4, by decide, by decide, by decide, by decide⟩
        · refine ⟨0, by decide, ?_, ?_, ?_⟩
          · unfold rAbove; rw [if_neg m1, if_neg m2, if_neg m3, if_neg m4]; rfl
          · unfold rBelow; rw [if_neg m1, if_neg m2, if_neg m3, if_neg m4]; rfl
          · unfold rMinus; rw [decide_eq_false m2]; rfl
theorem sqN_lt64 {n : Nat} (h : n < 340282366920938463463374607431768211456) : sqN n < 18446744073709551616 := by
  obtain ⟨g1, g2⟩ := sqN_spec n
  by_cases c : sqN n < 18446744073709551616
  · exact c
  · exfalso
    have := Nat.mul_le_mul (show 18446744073709551616 ≤ sqN n by omega) (show 18446744073709551616 ≤ sqN n by omega)
    omega
theorem rootV_lt {n : Nat} {x : Int} (hn : n ≠ 0) (hb : n < 9007199254740992) : (rootV n x).2.2.1 < 340282366920938463463374607431768211456 := by
  have hL : rtL n x < 340282366920938463463374607431768211456 := lift_lt hn (Nat.lt_trans hb (by decide))
  have h1 := sqN_lt64 hL
  have h2 := stk_lt (rtL n x - sqN (rtL n x) * sqN (rtL n x))
  show sqN (rtL n x) * 18446744073709551616 + stk (rtL n x - sqN (rtL n x) * sqN (rtL n x)) < _
  omega
theorem rootV_ex {n : Nat} {x : Int} (hn : n ≠ 0) (hb : n < 9007199254740992) (x1 : -1074 ≤ x) (x2 : x ≤ 971) : -10000 ≤ (rootV n x).2.2.2 ∧ (rootV n x).2.2.2 ≤ 10000 := by
  show -10000 ≤ (x - (lsh n (rtR n x) : Int)) / 2 - 64 ∧ (x - (lsh n (rtR n x) : Int)) / 2 - 64 ≤ 10000
  have : (lsh n (rtR n x) : Int) ≤ 128 := by unfold lsh; omega
  omega
/-- A root. -/
def sqrtF (m : Int) (f : Nat) : Nat × Nat := if isNan f then (9221120237041090560, 0) else if fsz f = 0 then (f, 0) else if fneg f then (9221120237041090560, 16) else if fsz f = 9218868437227405312 then (f, 0) else rdV m (rootV (vsz f) (vex f))

def sqND (c : Nat) : List (FuncId × Ans) :=
  [(49, ansT [([.one (.atom (.sym 1))], .v (.agg [.lit (.int .u8 ((rAc c : Nat) : Int)), .lit (.int .u8 ((rBc c : Nat) : Int)), .lit (.bool (rMc c))]))]),
   (59, ansT [([.one (.atom (.sym 0))], .v (.one (.lit (.bool true))))])]
def sqNL (c : Nat) : BT := []
def sqNM : BT := []
def sqNN : At → Option Nat
  | _ => none

set_option maxRecDepth 1000000 in
theorem sqNTold : ∃ t : Tr Func, TabOK Tryd.prog t ∧ (∀ c, c < 5 → isAV (.tup [.one (.lit (.int .u64 9221120237041090560)), .one (.lit (.int .i64 (0)))]) (evalCall ⟨Tryd.prog, true, t.get, orcD (sqND c), (opH (bigHook Tryd.prog true) (opH (symHook Tryd.prog sqNN (fun _ _ _ => none)) (tabHook (sqNL c) sqNM)))⟩ 1000 34 [.one (.atom (.sym 0)), .one (.atom (.sym 1))] .e 0) = true) :=
  ⟨(((((Tr.e).put 34 (some Tryd.f34)).put 68 (some Tryd.f68)).put 74 (some Tryd.f74)).put 49 (some Tryd.f49)).put 59 (some Tryd.f59),
   (TabOK.put (TabOK.put (TabOK.put (TabOK.put (TabOK.put (TabOK.e _) ⟨Tryd.func34, by decide +kernel, by decide +kernel⟩) ⟨Tryd.func68, by decide +kernel, by decide +kernel⟩) ⟨Tryd.func74, by decide +kernel, by decide +kernel⟩) ⟨Tryd.func49, by decide +kernel, by decide +kernel⟩) ⟨Tryd.func59, by decide +kernel, by decide +kernel⟩),
   by decide +kernel⟩

set_option maxHeartbeats 4000000 in
set_option maxRecDepth 100000 in
theorem sqN_tab {w : World} (hR : Ru w) (m : Int) (f : Nat) (hf : f < 18446744073709551616) (K : isNan f = true) {c : Nat} (hc : c < 5) (r1 : rAbove m = rAc c) (r2 : rBelow m = rBc c) (r3 : rMinus m = rMc c) :
    Calls Tryd.prog 34 #[.int .u64 f, .int .i64 m] w fun e w' => e = .returned (.tuple #[.int .u64 ((sqrtF m f).1 : Nat), .int .i64 ((sqrtF m f).2 : Nat)]) ∧ Below w.heap.size w w' := by
  have cRu : ∀ (w : World), Ru w → Calls Tryd.prog 49 #[.int .i64 m] w fun e w' => e = .returned (.agg #[.int .u8 ((rAc c : Nat) : Int), .int .u8 ((rBc c : Nat) : Int), .bool (rMc c)]) ∧ Fwd w w' := fun w hR => by
    have := ruleOf_any m hR; unfold ruleV at this; rw [r1, r2, r3] at this; exact this
  have cNo : ∀ (w : World), Calls Tryd.prog 59 #[.int .u64 f] w fun e w' => e = .returned (.bool true) ∧ Fwd w w' := fun w =>
    (isNone_any f hf).mono fun e w' gg => ⟨by rw [gg.1, show decide (9218868437227405312 < fsz f) = true from K], gg.2 ▸ Fwd.refl _⟩
  have hval : sqrtF m f = (9221120237041090560, 0) := by unfold sqrtF; rw [K]; exact if_pos rfl
  rw [hval]
  obtain ⟨t, ht, hr⟩ := sqNTold
  obtain ⟨dl, n', he⟩ := isAV_ok (hr _ hc)
  let ν : Nat → Rat := nuL [] []
  let σ : SymD := symL [.u f, .i m, .b (fneg f), .u (0 / 18446744073709551616), .u (0 % 18446744073709551616), .i (0), .b false, .u (sqrtF m f).1, .i ((sqrtF m f).2 : Int), .u ((rootV (vsz f) (vex f)).2.2.1 / 18446744073709551616), .u ((rootV (vsz f) (vex f)).2.2.1 % 18446744073709551616), .i (rootV (vsz f) (vex f)).2.2.2]
  have hcx : CxOK (DomQ true ν σ ruG) w.heap.size ⟨Tryd.prog, true, t.get, orcD (sqND c), (opH (bigHook Tryd.prog true) (opH (symHook Tryd.prog sqNN (fun _ _ _ => none)) (tabHook (sqNL c) sqNM)))⟩ := cxS_ok (M := (DomQ true ν σ ruG)) ht ⟨[
      orcT 49 [
        { args := [.one (.atom (.sym 1))], ans := .v (.agg [.lit (.int .u8 ((rAc c : Nat) : Int)), .lit (.int .u8 ((rBc c : Nat) : Int)), .lit (.bool (rMc c))]), ok := by
            intro B ρ w S vs hS hr
            match vs, hr with
            | [u0], ⟨z0, _⟩ =>
              obtain ⟨rfl, _⟩ : u0 = _ ∧ _ := z0
              refine (cRu _ (ru_of hS)).mono ?_
              rintro e w' ⟨rfl, hf⟩
              exact ⟨_, rfl, ⟨[_, _, _], rfl, ⟨rfl,rfl⟩, ⟨rfl,rfl⟩, ⟨rfl,rfl⟩, trivial⟩, hf⟩ }],
      orcT 59 [
        { args := [.one (.atom (.sym 0))], ans := .v (.one (.lit (.bool true))), ok := by
            intro B ρ w S vs hS hr
            match vs, hr with
            | [u0], ⟨z0, _⟩ =>
              obtain ⟨rfl, _⟩ : u0 = _ ∧ _ := z0
              refine (cNo _).mono ?_
              rintro e w' ⟨rfl, hf⟩
              exact ⟨_, rfl, ⟨rfl, rfl⟩, hf⟩ }]], rfl⟩
    (opH_le (bigHook_le _ _) (opH_le (symHook_le _ _ _) (tabHook_le _ _)))
    (opH_ok (bigHook_ok _) (opH_ok (symHook_ok _ (fun h => by cases h) (fun h => by cases h)) (tabHook_ok _ all_nil all_nil)))
  refine (told_call (M := (DomQ true ν σ ruG)) (cx := ⟨Tryd.prog, true, t.get, orcD (sqND c), (opH (bigHook Tryd.prog true) (opH (symHook Tryd.prog sqNN (fun _ _ _ => none)) (tabHook (sqNL c) sqNM)))⟩) (xs := [.one (.atom (.sym 0)), .one (.atom (.sym 1))]) (vs := [.int .u64 f, .int .i64 m]) Tryd.checked.mixed hcx (fun hg => ruG_ok hR hg) ⟨⟨rfl, fun _ => trivial⟩, ⟨rfl, fun _ => trivial⟩, trivial⟩ he).mono ?_
  rintro e w' ⟨v, ρ', rfl, hv, hbel⟩
  obtain ⟨us, rfl, hu⟩ := hv
  match us, hu with
  | [c0, c1], ⟨r0, r1, _⟩ =>
    obtain ⟨rfl, _⟩ : c0 = _ ∧ _ := r0
    obtain ⟨rfl, _⟩ : c1 = _ ∧ _ := r1
    exact ⟨rfl, hbel⟩

def sqZD (c : Nat) : List (FuncId × Ans) :=
  [(49, ansT [([.one (.atom (.sym 1))], .v (.agg [.lit (.int .u8 ((rAc c : Nat) : Int)), .lit (.int .u8 ((rBc c : Nat) : Int)), .lit (.bool (rMc c))]))]),
   (59, ansT [([.one (.atom (.sym 0))], .v (.one (.lit (.bool false))))]),
   (91, ansT [([.one (.atom (.sym 0))], .v (.agg [.atom (.sym 2), .lit (.bool false), .atom (.sym 3), .atom (.sym 4), .atom (.sym 5)]))]),
   (80, ansT [([.agg [.atom (.sym 2), .lit (.bool false), .atom (.sym 3), .atom (.sym 4), .atom (.sym 5)]], .v (.one (.lit (.bool true))))]),
   (50, ansT [([.agg [.lit (.int .u8 ((rAc c : Nat) : Int)), .lit (.int .u8 ((rBc c : Nat) : Int)), .lit (.bool (rMc c))], .agg [.atom (.sym 2), .lit (.bool false), .atom (.sym 3), .atom (.sym 4), .atom (.sym 5)]], .tup [.one (.atom (.sym 7)), .one (.atom (.sym 8))])])]
def sqZL (c : Nat) : BT := []
def sqZM : BT := []
def sqZN : At → Option Nat
  | _ => none

set_option maxRecDepth 1000000 in
theorem sqZTold : ∃ t : Tr Func, TabOK Tryd.prog t ∧ (∀ c, c < 5 → isAV (.tup [.one (.atom (.sym 7)), .one (.atom (.sym 8))]) (evalCall ⟨Tryd.prog, true, t.get, orcD (sqZD c), (opH (bigHook Tryd.prog true) (opH (symHook Tryd.prog sqZN (fun _ _ _ => none)) (tabHook (sqZL c) sqZM)))⟩ 1000 34 [.one (.atom (.sym 0)), .one (.atom (.sym 1))] .e 0) = true) :=
  ⟨((((((((Tr.e).put 34 (some Tryd.f34)).put 68 (some Tryd.f68)).put 74 (some Tryd.f74)).put 49 (some Tryd.f49)).put 59 (some Tryd.f59)).put 91 (some Tryd.f91)).put 80 (some Tryd.f80)).put 50 (some Tryd.f50),
   (TabOK.put (TabOK.put (TabOK.put (TabOK.put (TabOK.put (TabOK.put (TabOK.put (TabOK.put (TabOK.e _) ⟨Tryd.func34, by decide +kernel, by decide +kernel⟩) ⟨Tryd.func68, by decide +kernel, by decide +kernel⟩) ⟨Tryd.func74, by decide +kernel, by decide +kernel⟩) ⟨Tryd.func49, by decide +kernel, by decide +kernel⟩) ⟨Tryd.func59, by decide +kernel, by decide +kernel⟩) ⟨Tryd.func91, by decide +kernel, by decide +kernel⟩) ⟨Tryd.func80, by decide +kernel, by decide +kernel⟩) ⟨Tryd.func50, by decide +kernel, by decide +kernel⟩),
   by decide +kernel⟩

set_option maxHeartbeats 4000000 in
set_option maxRecDepth 100000 in
theorem sqZ_tab {w : World} (hR : Ru w) (m : Int) (f : Nat) (hf : f < 18446744073709551616) (K : fsz f = 0) {c : Nat} (hc : c < 5) (r1 : rAbove m = rAc c) (r2 : rBelow m = rBc c) (r3 : rMinus m = rMc c) :
    Calls Tryd.prog 34 #[.int .u64 f, .int .i64 m] w fun e w' => e = .returned (.tuple #[.int .u64 ((sqrtF m f).1 : Nat), .int .i64 ((sqrtF m f).2 : Nat)]) ∧ Below w.heap.size w w' := by
  have cRu : ∀ (w : World), Ru w → Calls Tryd.prog 49 #[.int .i64 m] w fun e w' => e = .returned (.agg #[.int .u8 ((rAc c : Nat) : Int), .int .u8 ((rBc c : Nat) : Int), .bool (rMc c)]) ∧ Fwd w w' := fun w hR => by
    have := ruleOf_any m hR; unfold ruleV at this; rw [r1, r2, r3] at this; exact this
  have cNo : ∀ (w : World), Calls Tryd.prog 59 #[.int .u64 f] w fun e w' => e = .returned (.bool false) ∧ Fwd w w' := fun w =>
    (isNone_any f hf).mono fun e w' gg => ⟨by rw [gg.1, show decide (9218868437227405312 < fsz f) = false from decide_eq_false (by omega)], gg.2 ▸ Fwd.refl _⟩
  have hval : sqrtF m f = (f, 0) := by unfold sqrtF; rw [isNan_le (by omega), if_neg (by simp), if_pos K]
  have hVV : ∀ (w : World), Calls Tryd.prog 91 #[.int .u64 f] w fun e w' => e = .returned (vt (fneg f) false (vsz f) (vex f)) ∧ Fwd w w' := fun w => (valueOf_any f hf).mono fun e w' gg => by
    obtain ⟨v, rfl, hf, hv⟩ := gg; rw [if_neg (by omega)] at hv; exact ⟨by rw [vv_eq hv], hf⟩
  have hnn : (vsz f) < 340282366920938463463374607431768211456 ∧ (!false && (vsz f) == 0) = true := ⟨Nat.lt_trans (vsz_lt f) (by decide), by rw [vsz_zero K]; rfl⟩
  have cN0 : ∀ (w : World), Calls Tryd.prog 80 #[vt (fneg f) false (vsz f) (vex f)] w fun e w' => e = .returned (.bool true) ∧ Fwd w w' := fun w => by
    have := visNought_any (w := w) (vt_vv (fneg f) false (vex f) hnn.1); rwa [hnn.2] at this
  have cRo : ∀ (w : World), Calls Tryd.prog 50 #[.agg #[.int .u8 ((rAc c : Nat) : Int), .int .u8 ((rBc c : Nat) : Int), .bool (rMc c)], vt (fneg f) false (vsz f) (vex f)] w fun e w' => e = .returned (.tuple #[.int .u64 ((sqrtF m f).1 : Nat), .int .i64 ((sqrtF m f).2 : Nat)]) ∧ Fwd w w' := fun w => by
    have := round_any (w := w) m (vt_vv (fneg f) false (vex f) hnn.1) (by have := valF_small f; have := vex_ge f; omega) (by have := vex_le (f := f) (by omega); omega)
    unfold ruleV at this; rw [r1, r2, r3] at this
    rw [hval]
    rw [show rdV m ((fneg f), false, vsz f, vex f) = (f, 0) from by rw [vsz_zero K]; unfold rdV; rw [if_neg (by simp), if_pos rfl, sgn_nought hf K]] at this; exact this
  obtain ⟨t, ht, hr⟩ := sqZTold
  obtain ⟨dl, n', he⟩ := isAV_ok (hr _ hc)
  let ν : Nat → Rat := nuL [] []
  let σ : SymD := symL [.u f, .i m, .b (fneg f), .u (vsz f / 18446744073709551616), .u (vsz f % 18446744073709551616), .i (vex f), .b false, .u (sqrtF m f).1, .i ((sqrtF m f).2 : Int), .u ((rootV (vsz f) (vex f)).2.2.1 / 18446744073709551616), .u ((rootV (vsz f) (vex f)).2.2.1 % 18446744073709551616), .i (rootV (vsz f) (vex f)).2.2.2]
  have hcx : CxOK (DomQ true ν σ ruG) w.heap.size ⟨Tryd.prog, true, t.get, orcD (sqZD c), (opH (bigHook Tryd.prog true) (opH (symHook Tryd.prog sqZN (fun _ _ _ => none)) (tabHook (sqZL c) sqZM)))⟩ := cxS_ok (M := (DomQ true ν σ ruG)) ht ⟨[
      orcT 49 [
        { args := [.one (.atom (.sym 1))], ans := .v (.agg [.lit (.int .u8 ((rAc c : Nat) : Int)), .lit (.int .u8 ((rBc c : Nat) : Int)), .lit (.bool (rMc c))]), ok := by
            intro B ρ w S vs hS hr
            match vs, hr with
            | [u0], ⟨z0, _⟩ =>
              obtain ⟨rfl, _⟩ : u0 = _ ∧ _ := z0
              refine (cRu _ (ru_of hS)).mono ?_
              rintro e w' ⟨rfl, hf⟩
              exact ⟨_, rfl, ⟨[_, _, _], rfl, ⟨rfl,rfl⟩, ⟨rfl,rfl⟩, ⟨rfl,rfl⟩, trivial⟩, hf⟩ }],
      orcT 59 [
        { args := [.one (.atom (.sym 0))], ans := .v (.one (.lit (.bool false))), ok := by
            intro B ρ w S vs hS hr
            match vs, hr with
            | [u0], ⟨z0, _⟩ =>
              obtain ⟨rfl, _⟩ : u0 = _ ∧ _ := z0
              refine (cNo _).mono ?_
              rintro e w' ⟨rfl, hf⟩
              exact ⟨_, rfl, ⟨rfl, rfl⟩, hf⟩ }],
      orcT 91 [
        { args := [.one (.atom (.sym 0))], ans := .v (.agg [.atom (.sym 2), .lit (.bool false), .atom (.sym 3), .atom (.sym 4), .atom (.sym 5)]), ok := by
            intro B ρ w S vs hS hr
            match vs, hr with
            | [u0], ⟨z0, _⟩ =>
              obtain ⟨rfl, _⟩ : u0 = _ ∧ _ := z0
              refine (hVV _).mono ?_
              rintro e w' ⟨rfl, hf⟩
              exact ⟨_, rfl, ⟨[_, _, _, _, _], rfl, ⟨rfl, fun _ => trivial⟩, ⟨rfl, rfl⟩, ⟨rfl, fun _ => trivial⟩, ⟨rfl, fun _ => trivial⟩, ⟨rfl, fun _ => trivial⟩, trivial⟩, hf⟩ }],
      orcT 80 [
        { args := [.agg [.atom (.sym 2), .lit (.bool false), .atom (.sym 3), .atom (.sym 4), .atom (.sym 5)]], ans := .v (.one (.lit (.bool true))), ok := by
            intro B ρ w S vs hS hr
            match vs, hr with
            | [u0], ⟨z0, _⟩ =>
              obtain ⟨us0, rfl, y0⟩ := z0
              match us0, y0 with
              | [v0_0, v0_1, v0_2, v0_3, v0_4], ⟨y0_0, y0_1, y0_2, y0_3, y0_4, _⟩ =>
              obtain ⟨rfl, f0_0⟩ : v0_0 = _ ∧ _ := y0_0
              obtain ⟨rfl, f0_1⟩ : v0_1 = _ ∧ _ := y0_1
              obtain ⟨rfl, f0_2⟩ : v0_2 = _ ∧ _ := y0_2
              obtain ⟨rfl, f0_3⟩ : v0_3 = _ ∧ _ := y0_3
              obtain ⟨rfl, f0_4⟩ : v0_4 = _ ∧ _ := y0_4
              refine (cN0 _).mono ?_
              rintro e w' ⟨rfl, hf⟩
              exact ⟨_, rfl, ⟨rfl, rfl⟩, hf⟩ }],
      orcT 50 [
        { args := [.agg [.lit (.int .u8 ((rAc c : Nat) : Int)), .lit (.int .u8 ((rBc c : Nat) : Int)), .lit (.bool (rMc c))], .agg [.atom (.sym 2), .lit (.bool false), .atom (.sym 3), .atom (.sym 4), .atom (.sym 5)]], ans := .tup [.one (.atom (.sym 7)), .one (.atom (.sym 8))], ok := by
            intro B ρ w S vs hS hr
            match vs, hr with
            | [u0, u1], ⟨z0, z1, _⟩ =>
              obtain ⟨us0, rfl, y0⟩ := z0
              match us0, y0 with
              | [v0_0, v0_1, v0_2], ⟨y0_0, y0_1, y0_2, _⟩ =>
              obtain ⟨rfl, f0_0⟩ : v0_0 = _ ∧ _ := y0_0
              obtain ⟨rfl, f0_1⟩ : v0_1 = _ ∧ _ := y0_1
              obtain ⟨rfl, f0_2⟩ : v0_2 = _ ∧ _ := y0_2
              obtain ⟨us1, rfl, y1⟩ := z1
              match us1, y1 with
              | [v1_0, v1_1, v1_2, v1_3, v1_4], ⟨y1_0, y1_1, y1_2, y1_3, y1_4, _⟩ =>
              obtain ⟨rfl, f1_0⟩ : v1_0 = _ ∧ _ := y1_0
              obtain ⟨rfl, f1_1⟩ : v1_1 = _ ∧ _ := y1_1
              obtain ⟨rfl, f1_2⟩ : v1_2 = _ ∧ _ := y1_2
              obtain ⟨rfl, f1_3⟩ : v1_3 = _ ∧ _ := y1_3
              obtain ⟨rfl, f1_4⟩ : v1_4 = _ ∧ _ := y1_4
              refine (cRo _).mono ?_
              rintro e w' ⟨rfl, hf⟩
              exact ⟨_, rfl, ⟨[_, _], rfl, ⟨rfl, fun _ => trivial⟩, ⟨rfl, fun _ => trivial⟩, trivial⟩, hf⟩ }]], rfl⟩
    (opH_le (bigHook_le _ _) (opH_le (symHook_le _ _ _) (tabHook_le _ _)))
    (opH_ok (bigHook_ok _) (opH_ok (symHook_ok _ (fun h => by cases h) (fun h => by cases h)) (tabHook_ok _ all_nil all_nil)))
  refine (told_call (M := (DomQ true ν σ ruG)) (cx := ⟨Tryd.prog, true, t.get, orcD (sqZD c), (opH (bigHook Tryd.prog true) (opH (symHook Tryd.prog sqZN (fun _ _ _ => none)) (tabHook (sqZL c) sqZM)))⟩) (xs := [.one (.atom (.sym 0)), .one (.atom (.sym 1))]) (vs := [.int .u64 f, .int .i64 m]) Tryd.checked.mixed hcx (fun hg => ruG_ok hR hg) ⟨⟨rfl, fun _ => trivial⟩, ⟨rfl, fun _ => trivial⟩, trivial⟩ he).mono ?_
  rintro e w' ⟨v, ρ', rfl, hv, hbel⟩
  obtain ⟨us, rfl, hu⟩ := hv
  match us, hu with
  | [c0, c1], ⟨r0, r1, _⟩ =>
    obtain ⟨rfl, _⟩ : c0 = _ ∧ _ := r0
    obtain ⟨rfl, _⟩ : c1 = _ ∧ _ := r1
    exact ⟨rfl, hbel⟩

def sqMD (c : Nat) : List (FuncId × Ans) :=
  [(49, ansT [([.one (.atom (.sym 1))], .v (.agg [.lit (.int .u8 ((rAc c : Nat) : Int)), .lit (.int .u8 ((rBc c : Nat) : Int)), .lit (.bool (rMc c))]))]),
   (59, ansT [([.one (.atom (.sym 0))], .v (.one (.lit (.bool false))))]),
   (91, ansT [([.one (.atom (.sym 0))], .v (.agg [.lit (.bool true), .atom (.sym 6), .atom (.sym 3), .atom (.sym 4), .atom (.sym 5)]))]),
   (80, ansT [([.agg [.lit (.bool true), .atom (.sym 6), .atom (.sym 3), .atom (.sym 4), .atom (.sym 5)]], .v (.one (.lit (.bool false))))])]
def sqML (c : Nat) : BT := []
def sqMM : BT := []
def sqMN : At → Option Nat
  | _ => none

set_option maxRecDepth 1000000 in
theorem sqMTold : ∃ t : Tr Func, TabOK Tryd.prog t ∧ (∀ c, c < 5 → isAV (.tup [.one (.lit (.int .u64 9221120237041090560)), .one (.lit (.int .i64 (16)))]) (evalCall ⟨Tryd.prog, true, t.get, orcD (sqMD c), (opH (bigHook Tryd.prog true) (opH (symHook Tryd.prog sqMN (fun _ _ _ => none)) (tabHook (sqML c) sqMM)))⟩ 1000 34 [.one (.atom (.sym 0)), .one (.atom (.sym 1))] .e 0) = true) :=
  ⟨(((((((Tr.e).put 34 (some Tryd.f34)).put 68 (some Tryd.f68)).put 74 (some Tryd.f74)).put 49 (some Tryd.f49)).put 59 (some Tryd.f59)).put 91 (some Tryd.f91)).put 80 (some Tryd.f80),
   (TabOK.put (TabOK.put (TabOK.put (TabOK.put (TabOK.put (TabOK.put (TabOK.put (TabOK.e _) ⟨Tryd.func34, by decide +kernel, by decide +kernel⟩) ⟨Tryd.func68, by decide +kernel, by decide +kernel⟩) ⟨Tryd.func74, by decide +kernel, by decide +kernel⟩) ⟨Tryd.func49, by decide +kernel, by decide +kernel⟩) ⟨Tryd.func59, by decide +kernel, by decide +kernel⟩) ⟨Tryd.func91, by decide +kernel, by decide +kernel⟩) ⟨Tryd.func80, by decide +kernel, by decide +kernel⟩),
   by decide +kernel⟩

set_option maxHeartbeats 4000000 in
set_option maxRecDepth 100000 in
theorem sqM_tab {w : World} (hR : Ru w) (m : Int) (f : Nat) (hf : f < 18446744073709551616) (K : fsz f ≠ 0) (L : fsz f ≤ 9218868437227405312) (hs : fneg f = true) {c : Nat} (hc : c < 5) (r1 : rAbove m = rAc c) (r2 : rBelow m = rBc c) (r3 : rMinus m = rMc c) :
    Calls Tryd.prog 34 #[.int .u64 f, .int .i64 m] w fun e w' => e = .returned (.tuple #[.int .u64 ((sqrtF m f).1 : Nat), .int .i64 ((sqrtF m f).2 : Nat)]) ∧ Below w.heap.size w w' := by
  have cRu : ∀ (w : World), Ru w → Calls Tryd.prog 49 #[.int .i64 m] w fun e w' => e = .returned (.agg #[.int .u8 ((rAc c : Nat) : Int), .int .u8 ((rBc c : Nat) : Int), .bool (rMc c)]) ∧ Fwd w w' := fun w hR => by
    have := ruleOf_any m hR; unfold ruleV at this; rw [r1, r2, r3] at this; exact this
  have cNo : ∀ (w : World), Calls Tryd.prog 59 #[.int .u64 f] w fun e w' => e = .returned (.bool false) ∧ Fwd w w' := fun w =>
    (isNone_any f hf).mono fun e w' gg => ⟨by rw [gg.1, show decide (9218868437227405312 < fsz f) = false from decide_eq_false (by omega)], gg.2 ▸ Fwd.refl _⟩
  have hval : sqrtF m f = (9221120237041090560, 16) := by unfold sqrtF; rw [isNan_le (by omega), if_neg (by simp), if_neg K, hs, if_pos rfl]
  rw [hval]
  obtain ⟨en, n0, x0, hVV, hnn⟩ : ∃ (en : Bool) (n0 : Nat) (x0 : Int), (∀ (w : World), Calls Tryd.prog 91 #[.int .u64 f] w fun e w' => e = .returned (vt true en n0 x0) ∧ Fwd w w') ∧ (n0 < 340282366920938463463374607431768211456 ∧ (!en && n0 == 0) = false) := by
    by_cases c : fsz f = 9218868437227405312
    · refine ⟨true, 0, 0, fun w => (valueOf_any f hf).mono fun e w' gg => ?_, by decide, rfl⟩
      obtain ⟨v, rfl, hf, hv⟩ := gg; rw [if_pos c, hs] at hv; exact ⟨by rw [vv_eq hv], hf⟩
    · refine ⟨false, vsz f, vex f, fun w => (valueOf_any f hf).mono fun e w' gg => ?_, Nat.lt_trans (vsz_lt f) (by decide), by have := vsz_ne K; simpa using this⟩
      obtain ⟨v, rfl, hf, hv⟩ := gg; rw [if_neg c, hs] at hv; exact ⟨by rw [vv_eq hv], hf⟩
  have cN0 : ∀ (w : World), Calls Tryd.prog 80 #[vt true en (n0) (x0)] w fun e w' => e = .returned (.bool false) ∧ Fwd w w' := fun w => by
    have := visNought_any (w := w) (vt_vv true en (x0) hnn.1); rwa [hnn.2] at this
  obtain ⟨t, ht, hr⟩ := sqMTold
  obtain ⟨dl, n', he⟩ := isAV_ok (hr _ hc)
  let ν : Nat → Rat := nuL [] []
  let σ : SymD := symL [.u f, .i m, .b (fneg f), .u (n0 / 18446744073709551616), .u (n0 % 18446744073709551616), .i (x0), .b en, .u (sqrtF m f).1, .i ((sqrtF m f).2 : Int), .u ((rootV (vsz f) (vex f)).2.2.1 / 18446744073709551616), .u ((rootV (vsz f) (vex f)).2.2.1 % 18446744073709551616), .i (rootV (vsz f) (vex f)).2.2.2]
  have hcx : CxOK (DomQ true ν σ ruG) w.heap.size ⟨Tryd.prog, true, t.get, orcD (sqMD c), (opH (bigHook Tryd.prog true) (opH (symHook Tryd.prog sqMN (fun _ _ _ => none)) (tabHook (sqML c) sqMM)))⟩ := cxS_ok (M := (DomQ true ν σ ruG)) ht ⟨[
      orcT 49 [
        { args := [.one (.atom (.sym 1))], ans := .v (.agg [.lit (.int .u8 ((rAc c : Nat) : Int)), .lit (.int .u8 ((rBc c : Nat) : Int)), .lit (.bool (rMc c))]), ok := by
            intro B ρ w S vs hS hr
            match vs, hr with
            | [u0], ⟨z0, _⟩ =>
              obtain ⟨rfl, _⟩ : u0 = _ ∧ _ := z0
              refine (cRu _ (ru_of hS)).mono ?_
              rintro e w' ⟨rfl, hf⟩
              exact ⟨_, rfl, ⟨[_, _, _], rfl, ⟨rfl,rfl⟩, ⟨rfl,rfl⟩, ⟨rfl,rfl⟩, trivial⟩, hf⟩ }],
      orcT 59 [
        { args := [.one (.atom (.sym 0))], ans := .v (.one (.lit (.bool false))), ok := by
            intro B ρ w S vs hS hr
            match vs, hr with
            | [u0], ⟨z0, _⟩ =>
              obtain ⟨rfl, _⟩ : u0 = _ ∧ _ := z0
              refine (cNo _).mono ?_
              rintro e w' ⟨rfl, hf⟩
              exact ⟨_, rfl, ⟨rfl, rfl⟩, hf⟩ }],
      orcT 91 [
        { args := [.one (.atom (.sym 0))], ans := .v (.agg [.lit (.bool true), .atom (.sym 6), .atom (.sym 3), .atom (.sym 4), .atom (.sym 5)]), ok := by
            intro B ρ w S vs hS hr
            match vs, hr with
            | [u0], ⟨z0, _⟩ =>
              obtain ⟨rfl, _⟩ : u0 = _ ∧ _ := z0
              refine (hVV _).mono ?_
              rintro e w' ⟨rfl, hf⟩
              exact ⟨_, rfl, ⟨[_, _, _, _, _], rfl, ⟨rfl, rfl⟩, ⟨rfl, fun _ => trivial⟩, ⟨rfl, fun _ => trivial⟩, ⟨rfl, fun _ => trivial⟩, ⟨rfl, fun _ => trivial⟩, trivial⟩, hf⟩ }],
      orcT 80 [
        { args := [.agg [.lit (.bool true), .atom (.sym 6), .atom (.sym 3), .atom (.sym 4), .atom (.sym 5)]], ans := .v (.one (.lit (.bool false))), ok := by
            intro B ρ w S vs hS hr
            match vs, hr with
            | [u0], ⟨z0, _⟩ =>
              obtain ⟨us0, rfl, y0⟩ := z0
              match us0, y0 with
              | [v0_0, v0_1, v0_2, v0_3, v0_4], ⟨y0_0, y0_1, y0_2, y0_3, y0_4, _⟩ =>
              obtain ⟨rfl, f0_0⟩ : v0_0 = _ ∧ _ := y0_0
              obtain ⟨rfl, f0_1⟩ : v0_1 = _ ∧ _ := y0_1
              obtain ⟨rfl, f0_2⟩ : v0_2 = _ ∧ _ := y0_2
              obtain ⟨rfl, f0_3⟩ : v0_3 = _ ∧ _ := y0_3
              obtain ⟨rfl, f0_4⟩ : v0_4 = _ ∧ _ := y0_4
              refine (cN0 _).mono ?_
              rintro e w' ⟨rfl, hf⟩
              exact ⟨_, rfl, ⟨rfl, rfl⟩, hf⟩ }]], rfl⟩
    (opH_le (bigHook_le _ _) (opH_le (symHook_le _ _ _) (tabHook_le _ _)))
    (opH_ok (bigHook_ok _) (opH_ok (symHook_ok _ (fun h => by cases h) (fun h => by cases h)) (tabHook_ok _ all_nil all_nil)))
  refine (told_call (M := (DomQ true ν σ ruG)) (cx := ⟨Tryd.prog, true, t.get, orcD (sqMD c), (opH (bigHook Tryd.prog true) (opH (symHook Tryd.prog sqMN (fun _ _ _ => none)) (tabHook (sqML c) sqMM)))⟩) (xs := [.one (.atom (.sym 0)), .one (.atom (.sym 1))]) (vs := [.int .u64 f, .int .i64 m]) Tryd.checked.mixed hcx (fun hg => ruG_ok hR hg) ⟨⟨rfl, fun _ => trivial⟩, ⟨rfl, fun _ => trivial⟩, trivial⟩ he).mono ?_
  rintro e w' ⟨v, ρ', rfl, hv, hbel⟩
  obtain ⟨us, rfl, hu⟩ := hv
  match us, hu with
  | [c0, c1], ⟨r0, r1, _⟩ =>
    obtain ⟨rfl, _⟩ : c0 = _ ∧ _ := r0
    obtain ⟨rfl, _⟩ : c1 = _ ∧ _ := r1
    exact ⟨rfl, hbel⟩

def sqID (c : Nat) : List (FuncId × Ans) :=
  [(49, ansT [([.one (.atom (.sym 1))], .v (.agg [.lit (.int .u8 ((rAc c : Nat) : Int)), .lit (.int .u8 ((rBc c : Nat) : Int)), .lit (.bool (rMc c))]))]),
   (59, ansT [([.one (.atom (.sym 0))], .v (.one (.lit (.bool false))))]),
   (91, ansT [([.one (.atom (.sym 0))], .v (.agg [.lit (.bool false), .lit (.bool true), .atom (.sym 3), .atom (.sym 4), .atom (.sym 5)]))]),
   (80, ansT [([.agg [.lit (.bool false), .lit (.bool true), .atom (.sym 3), .atom (.sym 4), .atom (.sym 5)]], .v (.one (.lit (.bool false))))]),
   (50, ansT [([.agg [.lit (.int .u8 ((rAc c : Nat) : Int)), .lit (.int .u8 ((rBc c : Nat) : Int)), .lit (.bool (rMc c))], .agg [.lit (.bool false), .lit (.bool true), .atom (.sym 3), .atom (.sym 4), .atom (.sym 5)]], .tup [.one (.atom (.sym 7)), .one (.atom (.sym 8))])])]
def sqIL (c : Nat) : BT := []
def sqIM : BT := []
def sqIN : At → Option Nat
  | _ => none

set_option maxRecDepth 1000000 in
theorem sqITold : ∃ t : Tr Func, TabOK Tryd.prog t ∧ (∀ c, c < 5 → isAV (.tup [.one (.atom (.sym 7)), .one (.atom (.sym 8))]) (evalCall ⟨Tryd.prog, true, t.get, orcD (sqID c), (opH (bigHook Tryd.prog true) (opH (symHook Tryd.prog sqIN (fun _ _ _ => none)) (tabHook (sqIL c) sqIM)))⟩ 1000 34 [.one (.atom (.sym 0)), .one (.atom (.sym 1))] .e 0) = true) :=
  ⟨((((((((Tr.e).put 34 (some Tryd.f34)).put 68 (some Tryd.f68)).put 74 (some Tryd.f74)).put 49 (some Tryd.f49)).put 59 (some Tryd.f59)).put 91 (some Tryd.f91)).put 80 (some Tryd.f80)).put 50 (some Tryd.f50),
   (TabOK.put (TabOK.put (TabOK.put (TabOK.put (TabOK.put (TabOK.put (TabOK.put (TabOK.put (TabOK.e _) ⟨Tryd.func34, by decide +kernel, by decide +kernel⟩) ⟨Tryd.func68, by decide +kernel, by decide +kernel⟩) ⟨Tryd.func74, by decide +kernel, by decide +kernel⟩) ⟨Tryd.func49, by decide +kernel, by decide +kernel⟩) ⟨Tryd.func59, by decide +kernel, by decide +kernel⟩) ⟨Tryd.func91, by decide +kernel, by decide +kernel⟩) ⟨Tryd.func80, by decide +kernel, by decide +kernel⟩) ⟨Tryd.func50, by decide +kernel, by decide +kernel⟩),
   by decide +kernel⟩

set_option maxHeartbeats 4000000 in
set_option maxRecDepth 100000 in
theorem sqI_tab {w : World} (hR : Ru w) (m : Int) (f : Nat) (hf : f < 18446744073709551616) (K : fsz f = 9218868437227405312) (hs : fneg f = false) {c : Nat} (hc : c < 5) (r1 : rAbove m = rAc c) (r2 : rBelow m = rBc c) (r3 : rMinus m = rMc c) :
    Calls Tryd.prog 34 #[.int .u64 f, .int .i64 m] w fun e w' => e = .returned (.tuple #[.int .u64 ((sqrtF m f).1 : Nat), .int .i64 ((sqrtF m f).2 : Nat)]) ∧ Below w.heap.size w w' := by
  have cRu : ∀ (w : World), Ru w → Calls Tryd.prog 49 #[.int .i64 m] w fun e w' => e = .returned (.agg #[.int .u8 ((rAc c : Nat) : Int), .int .u8 ((rBc c : Nat) : Int), .bool (rMc c)]) ∧ Fwd w w' := fun w hR => by
    have := ruleOf_any m hR; unfold ruleV at this; rw [r1, r2, r3] at this; exact this
  have cNo : ∀ (w : World), Calls Tryd.prog 59 #[.int .u64 f] w fun e w' => e = .returned (.bool false) ∧ Fwd w w' := fun w =>
    (isNone_any f hf).mono fun e w' gg => ⟨by rw [gg.1, show decide (9218868437227405312 < fsz f) = false from decide_eq_false (by omega)], gg.2 ▸ Fwd.refl _⟩
  have hval : sqrtF m f = (f, 0) := by unfold sqrtF; rw [isNan_le (by omega), if_neg (by simp), if_neg (by omega), hs, if_neg (by simp), if_pos K]
  have hVV : ∀ (w : World), Calls Tryd.prog 91 #[.int .u64 f] w fun e w' => e = .returned (vt false true (0) (0)) ∧ Fwd w w' := fun w => (valueOf_any f hf).mono fun e w' gg => by
    obtain ⟨v, rfl, hf, hv⟩ := gg; rw [if_pos K, hs] at hv; exact ⟨by rw [vv_eq hv], hf⟩
  have hnn : (0) < 340282366920938463463374607431768211456 ∧ (!true && (0) == 0) = false := ⟨by decide, rfl⟩
  have cN0 : ∀ (w : World), Calls Tryd.prog 80 #[vt false true (0) (0)] w fun e w' => e = .returned (.bool false) ∧ Fwd w w' := fun w => by
    have := visNought_any (w := w) (vt_vv false true (0) hnn.1); rwa [hnn.2] at this
  have cRo : ∀ (w : World), Calls Tryd.prog 50 #[.agg #[.int .u8 ((rAc c : Nat) : Int), .int .u8 ((rBc c : Nat) : Int), .bool (rMc c)], vt false true (0) (0)] w fun e w' => e = .returned (.tuple #[.int .u64 ((sqrtF m f).1 : Nat), .int .i64 ((sqrtF m f).2 : Nat)]) ∧ Fwd w w' := fun w => by
    have := round_any (w := w) m (vt_vv false true (0) hnn.1) (by have := valF_small f; have := vex_ge f; omega) (by omega)
    unfold ruleV at this; rw [r1, r2, r3] at this
    rw [hval]
    rw [show rdV m (false, true, 0, 0) = (f, 0) from by unfold rdV; rw [if_pos rfl]; have := sgn_inf hf K; rw [hs] at this; rw [this]] at this; exact this
  obtain ⟨t, ht, hr⟩ := sqITold
  obtain ⟨dl, n', he⟩ := isAV_ok (hr _ hc)
  let ν : Nat → Rat := nuL [] []
  let σ : SymD := symL [.u f, .i m, .b (fneg f), .u (0 / 18446744073709551616), .u (0 % 18446744073709551616), .i (0), .b false, .u (sqrtF m f).1, .i ((sqrtF m f).2 : Int), .u ((rootV (vsz f) (vex f)).2.2.1 / 18446744073709551616), .u ((rootV (vsz f) (vex f)).2.2.1 % 18446744073709551616), .i (rootV (vsz f) (vex f)).2.2.2]
  have hcx : CxOK (DomQ true ν σ ruG) w.heap.size ⟨Tryd.prog, true, t.get, orcD (sqID c), (opH (bigHook Tryd.prog true) (opH (symHook Tryd.prog sqIN (fun _ _ _ => none)) (tabHook (sqIL c) sqIM)))⟩ := cxS_ok (M := (DomQ true ν σ ruG)) ht ⟨[
      orcT 49 [
        { args := [.one (.atom (.sym 1))], ans := .v (.agg [.lit (.int .u8 ((rAc c : Nat) : Int)), .lit (.int .u8 ((rBc c : Nat) : Int)), .lit (.bool (rMc c))]), ok := by
            intro B ρ w S vs hS hr
            match vs, hr with
            | [u0], ⟨z0, _⟩ =>
              obtain ⟨rfl, _⟩ : u0 = _ ∧ _ := z0
              refine (cRu _ (ru_of hS)).mono ?_
              rintro e w' ⟨rfl, hf⟩
              exact ⟨_, rfl, ⟨[_, _, _], rfl, ⟨rfl,rfl⟩, ⟨rfl,rfl⟩, ⟨rfl,rfl⟩, trivial⟩, hf⟩ }],
      orcT 59 [
        { args := [.one (.atom (.sym 0))], ans := .v (.one (.lit (.bool false))), ok := by
            intro B ρ w S vs hS hr
            match vs, hr with
            | [u0], ⟨z0, _⟩ =>
              obtain ⟨rfl, _⟩ : u0 = _ ∧ _ := z0
              refine (cNo _).mono ?_
              rintro e w' ⟨rfl, hf⟩
              exact ⟨_, rfl, ⟨rfl, rfl⟩, hf⟩ }],
      orcT 91 [
        { args := [.one (.atom (.sym 0))], ans := .v (.agg [.lit (.bool false), .lit (.bool true), .atom (.sym 3), .atom (.sym 4), .atom (.sym 5)]), ok := by
            intro B ρ w S vs hS hr
            match vs, hr with
            | [u0], ⟨z0, _⟩ =>
              obtain ⟨rfl, _⟩ : u0 = _ ∧ _ := z0
              refine (hVV _).mono ?_
              rintro e w' ⟨rfl, hf⟩
              exact ⟨_, rfl, ⟨[_, _, _, _, _], rfl, ⟨rfl, rfl⟩, ⟨rfl, rfl⟩, ⟨rfl, fun _ => trivial⟩, ⟨rfl, fun _ => trivial⟩, ⟨rfl, fun _ => trivial⟩, trivial⟩, hf⟩ }],
      orcT 80 [
        { args := [.agg [.lit (.bool false), .lit (.bool true), .atom (.sym 3), .atom (.sym 4), .atom (.sym 5)]], ans := .v (.one (.lit (.bool false))), ok := by
            intro B ρ w S vs hS hr
            match vs, hr with
            | [u0], ⟨z0, _⟩ =>
              obtain ⟨us0, rfl, y0⟩ := z0
              match us0, y0 with
              | [v0_0, v0_1, v0_2, v0_3, v0_4], ⟨y0_0, y0_1, y0_2, y0_3, y0_4, _⟩ =>
              obtain ⟨rfl, f0_0⟩ : v0_0 = _ ∧ _ := y0_0
              obtain ⟨rfl, f0_1⟩ : v0_1 = _ ∧ _ := y0_1
              obtain ⟨rfl, f0_2⟩ : v0_2 = _ ∧ _ := y0_2
              obtain ⟨rfl, f0_3⟩ : v0_3 = _ ∧ _ := y0_3
              obtain ⟨rfl, f0_4⟩ : v0_4 = _ ∧ _ := y0_4
              refine (cN0 _).mono ?_
              rintro e w' ⟨rfl, hf⟩
              exact ⟨_, rfl, ⟨rfl, rfl⟩, hf⟩ }],
      orcT 50 [
        { args := [.agg [.lit (.int .u8 ((rAc c : Nat) : Int)), .lit (.int .u8 ((rBc c : Nat) : Int)), .lit (.bool (rMc c))], .agg [.lit (.bool false), .lit (.bool true), .atom (.sym 3), .atom (.sym 4), .atom (.sym 5)]], ans := .tup [.one (.atom (.sym 7)), .one (.atom (.sym 8))], ok := by
            intro B ρ w S vs hS hr
            match vs, hr with
            | [u0, u1], ⟨z0, z1, _⟩ =>
              obtain ⟨us0, rfl, y0⟩ := z0
              match us0, y0 with
              | [v0_0, v0_1, v0_2], ⟨y0_0, y0_1, y0_2, _⟩ =>
              obtain ⟨rfl, f0_0⟩ : v0_0 = _ ∧ _ := y0_0
              obtain ⟨rfl, f0_1⟩ : v0_1 = _ ∧ _ := y0_1
              obtain ⟨rfl, f0_2⟩ : v0_2 = _ ∧ _ := y0_2
              obtain ⟨us1, rfl, y1⟩ := z1
              match us1, y1 with
              | [v1_0, v1_1, v1_2, v1_3, v1_4], ⟨y1_0, y1_1, y1_2, y1_3, y1_4, _⟩ =>
              obtain ⟨rfl, f1_0⟩ : v1_0 = _ ∧ _ := y1_0
              obtain ⟨rfl, f1_1⟩ : v1_1 = _ ∧ _ := y1_1
              obtain ⟨rfl, f1_2⟩ : v1_2 = _ ∧ _ := y1_2
              obtain ⟨rfl, f1_3⟩ : v1_3 = _ ∧ _ := y1_3
              obtain ⟨rfl, f1_4⟩ : v1_4 = _ ∧ _ := y1_4
              refine (cRo _).mono ?_
              rintro e w' ⟨rfl, hf⟩
              exact ⟨_, rfl, ⟨[_, _], rfl, ⟨rfl, fun _ => trivial⟩, ⟨rfl, fun _ => trivial⟩, trivial⟩, hf⟩ }]], rfl⟩
    (opH_le (bigHook_le _ _) (opH_le (symHook_le _ _ _) (tabHook_le _ _)))
    (opH_ok (bigHook_ok _) (opH_ok (symHook_ok _ (fun h => by cases h) (fun h => by cases h)) (tabHook_ok _ all_nil all_nil)))
  refine (told_call (M := (DomQ true ν σ ruG)) (cx := ⟨Tryd.prog, true, t.get, orcD (sqID c), (opH (bigHook Tryd.prog true) (opH (symHook Tryd.prog sqIN (fun _ _ _ => none)) (tabHook (sqIL c) sqIM)))⟩) (xs := [.one (.atom (.sym 0)), .one (.atom (.sym 1))]) (vs := [.int .u64 f, .int .i64 m]) Tryd.checked.mixed hcx (fun hg => ruG_ok hR hg) ⟨⟨rfl, fun _ => trivial⟩, ⟨rfl, fun _ => trivial⟩, trivial⟩ he).mono ?_
  rintro e w' ⟨v, ρ', rfl, hv, hbel⟩
  obtain ⟨us, rfl, hu⟩ := hv
  match us, hu with
  | [c0, c1], ⟨r0, r1, _⟩ =>
    obtain ⟨rfl, _⟩ : c0 = _ ∧ _ := r0
    obtain ⟨rfl, _⟩ : c1 = _ ∧ _ := r1
    exact ⟨rfl, hbel⟩

def sqFD (c : Nat) : List (FuncId × Ans) :=
  [(49, ansT [([.one (.atom (.sym 1))], .v (.agg [.lit (.int .u8 ((rAc c : Nat) : Int)), .lit (.int .u8 ((rBc c : Nat) : Int)), .lit (.bool (rMc c))]))]),
   (59, ansT [([.one (.atom (.sym 0))], .v (.one (.lit (.bool false))))]),
   (91, ansT [([.one (.atom (.sym 0))], .v (.agg [.lit (.bool false), .lit (.bool false), .atom (.sym 3), .atom (.sym 4), .atom (.sym 5)]))]),
   (80, ansT [([.agg [.lit (.bool false), .lit (.bool false), .atom (.sym 3), .atom (.sym 4), .atom (.sym 5)]], .v (.one (.lit (.bool false))))]),
   (95, ansT [([.agg [.lit (.bool false), .lit (.bool false), .atom (.sym 3), .atom (.sym 4), .atom (.sym 5)]], .v (.agg [.lit (.bool false), .lit (.bool false), .atom (.sym 9), .atom (.sym 10), .atom (.sym 11)]))]),
   (50, ansT [([.agg [.lit (.int .u8 ((rAc c : Nat) : Int)), .lit (.int .u8 ((rBc c : Nat) : Int)), .lit (.bool (rMc c))], .agg [.lit (.bool false), .lit (.bool false), .atom (.sym 9), .atom (.sym 10), .atom (.sym 11)]], .tup [.one (.atom (.sym 7)), .one (.atom (.sym 8))])])]
def sqFL (c : Nat) : BT := []
def sqFM : BT := []
def sqFN : At → Option Nat
  | _ => none

set_option maxRecDepth 1000000 in
theorem sqFTold : ∃ t : Tr Func, TabOK Tryd.prog t ∧ (∀ c, c < 5 → isAV (.tup [.one (.atom (.sym 7)), .one (.atom (.sym 8))]) (evalCall ⟨Tryd.prog, true, t.get, orcD (sqFD c), (opH (bigHook Tryd.prog true) (opH (symHook Tryd.prog sqFN (fun _ _ _ => none)) (tabHook (sqFL c) sqFM)))⟩ 1000 34 [.one (.atom (.sym 0)), .one (.atom (.sym 1))] .e 0) = true) :=
  ⟨(((((((((Tr.e).put 34 (some Tryd.f34)).put 68 (some Tryd.f68)).put 74 (some Tryd.f74)).put 49 (some Tryd.f49)).put 59 (some Tryd.f59)).put 91 (some Tryd.f91)).put 80 (some Tryd.f80)).put 95 (some Tryd.f95)).put 50 (some Tryd.f50),
   (TabOK.put (TabOK.put (TabOK.put (TabOK.put (TabOK.put (TabOK.put (TabOK.put (TabOK.put (TabOK.put (TabOK.e _) ⟨Tryd.func34, by decide +kernel, by decide +kernel⟩) ⟨Tryd.func68, by decide +kernel, by decide +kernel⟩) ⟨Tryd.func74, by decide +kernel, by decide +kernel⟩) ⟨Tryd.func49, by decide +kernel, by decide +kernel⟩) ⟨Tryd.func59, by decide +kernel, by decide +kernel⟩) ⟨Tryd.func91, by decide +kernel, by decide +kernel⟩) ⟨Tryd.func80, by decide +kernel, by decide +kernel⟩) ⟨Tryd.func95, by decide +kernel, by decide +kernel⟩) ⟨Tryd.func50, by decide +kernel, by decide +kernel⟩),
   by decide +kernel⟩

set_option maxHeartbeats 4000000 in
set_option maxRecDepth 100000 in
theorem sqF_tab {w : World} (hR : Ru w) (m : Int) (f : Nat) (hf : f < 18446744073709551616) (K : fsz f ≠ 0) (L : fsz f < 9218868437227405312) (hs : fneg f = false) {c : Nat} (hc : c < 5) (r1 : rAbove m = rAc c) (r2 : rBelow m = rBc c) (r3 : rMinus m = rMc c) :
    Calls Tryd.prog 34 #[.int .u64 f, .int .i64 m] w fun e w' => e = .returned (.tuple #[.int .u64 ((sqrtF m f).1 : Nat), .int .i64 ((sqrtF m f).2 : Nat)]) ∧ Below w.heap.size w w' := by
  have cRu : ∀ (w : World), Ru w → Calls Tryd.prog 49 #[.int .i64 m] w fun e w' => e = .returned (.agg #[.int .u8 ((rAc c : Nat) : Int), .int .u8 ((rBc c : Nat) : Int), .bool (rMc c)]) ∧ Fwd w w' := fun w hR => by
    have := ruleOf_any m hR; unfold ruleV at this; rw [r1, r2, r3] at this; exact this
  have cNo : ∀ (w : World), Calls Tryd.prog 59 #[.int .u64 f] w fun e w' => e = .returned (.bool false) ∧ Fwd w w' := fun w =>
    (isNone_any f hf).mono fun e w' gg => ⟨by rw [gg.1, show decide (9218868437227405312 < fsz f) = false from decide_eq_false (by omega)], gg.2 ▸ Fwd.refl _⟩
  have hval : sqrtF m f = rdV m (rootV (vsz f) (vex f)) := by unfold sqrtF; rw [isNan_le (by omega), if_neg (by simp), if_neg K, hs, if_neg (by simp), if_neg (by omega)]
  have hVV : ∀ (w : World), Calls Tryd.prog 91 #[.int .u64 f] w fun e w' => e = .returned (vt false false (vsz f) (vex f)) ∧ Fwd w w' := fun w => (valueOf_any f hf).mono fun e w' gg => by
    obtain ⟨v, rfl, hf, hv⟩ := gg; rw [if_neg (by omega), hs] at hv; exact ⟨by rw [vv_eq hv], hf⟩
  have hnn : (vsz f) < 340282366920938463463374607431768211456 ∧ (!false && (vsz f) == 0) = false := ⟨Nat.lt_trans (vsz_lt f) (by decide), by have := vsz_ne K; simpa using this⟩
  have cN0 : ∀ (w : World), Calls Tryd.prog 80 #[vt false false (vsz f) (vex f)] w fun e w' => e = .returned (.bool false) ∧ Fwd w w' := fun w => by
    have := visNought_any (w := w) (vt_vv false false (vex f) hnn.1); rwa [hnn.2] at this
  have hr1 : (rootV (vsz f) (vex f)).2.2.1 < 340282366920938463463374607431768211456 := rootV_lt (vsz_ne K) (vsz_lt f)
  have hr2 : -10000 ≤ (rootV (vsz f) (vex f)).2.2.2 ∧ (rootV (vsz f) (vex f)).2.2.2 ≤ 10000 := rootV_ex (vsz_ne K) (vsz_lt f) (vex_ge f) (vex_le L)
  have cRt : ∀ (w : World), Calls Tryd.prog 95 #[vt false false (vsz f) (vex f)] w fun e w' => e = .returned (vt false false (rootV (vsz f) (vex f)).2.2.1 (rootV (vsz f) (vex f)).2.2.2) ∧ Fwd w w' := fun w => vroot_any (vsz_ne K) (vsz_lt f) (by have := vex_ge f; omega) (by have := vex_le L; omega)
  have cRo : ∀ (w : World), Calls Tryd.prog 50 #[.agg #[.int .u8 ((rAc c : Nat) : Int), .int .u8 ((rBc c : Nat) : Int), .bool (rMc c)], vt false false (rootV (vsz f) (vex f)).2.2.1 (rootV (vsz f) (vex f)).2.2.2] w fun e w' => e = .returned (.tuple #[.int .u64 ((sqrtF m f).1 : Nat), .int .i64 ((sqrtF m f).2 : Nat)]) ∧ Fwd w w' := fun w => by
    have := round_any (w := w) m (vt_vv false false (rootV (vsz f) (vex f)).2.2.2 hr1) (by omega) (by omega)
    unfold ruleV at this; rw [r1, r2, r3] at this; rw [hval]; exact this
  obtain ⟨t, ht, hr⟩ := sqFTold
  obtain ⟨dl, n', he⟩ := isAV_ok (hr _ hc)
  let ν : Nat → Rat := nuL [] []
  let σ : SymD := symL [.u f, .i m, .b (fneg f), .u (vsz f / 18446744073709551616), .u (vsz f % 18446744073709551616), .i (vex f), .b false, .u (sqrtF m f).1, .i ((sqrtF m f).2 : Int), .u ((rootV (vsz f) (vex f)).2.2.1 / 18446744073709551616), .u ((rootV (vsz f) (vex f)).2.2.1 % 18446744073709551616), .i (rootV (vsz f) (vex f)).2.2.2]
  have hcx : CxOK (DomQ true ν σ ruG) w.heap.size ⟨Tryd.prog, true, t.get, orcD (sqFD c), (opH (bigHook Tryd.prog true) (opH (symHook Tryd.prog sqFN (fun _ _ _ => none)) (tabHook (sqFL c) sqFM)))⟩ := cxS_ok (M := (DomQ true ν σ ruG)) ht ⟨[
      orcT 49 [
        { args := [.one (.atom (.sym 1))], ans := .v (.agg [.lit (.int .u8 ((rAc c : Nat) : Int)), .lit (.int .u8 ((rBc c : Nat) : Int)), .lit (.bool (rMc c))]), ok := by
            intro B ρ w S vs hS hr
            match vs, hr with
            | [u0], ⟨z0, _⟩ =>
              obtain ⟨rfl, _⟩ : u0 = _ ∧ _ := z0
              refine (cRu _ (ru_of hS)).mono ?_
              rintro e w' ⟨rfl, hf⟩
              exact ⟨_, rfl, ⟨[_, _, _], rfl, ⟨rfl,rfl⟩, ⟨rfl,rfl⟩, ⟨rfl,rfl⟩, trivial⟩, hf⟩ }],
      orcT 59 [
        { args := [.one (.atom (.sym 0))], ans := .v (.one (.lit (.bool false))), ok := by
            intro B ρ w S vs hS hr
            match vs, hr with
            | [u0], ⟨z0, _⟩ =>
              obtain ⟨rfl, _⟩ : u0 = _ ∧ _ := z0
              refine (cNo _).mono ?_
              rintro e w' ⟨rfl, hf⟩
              exact ⟨_, rfl, ⟨rfl, rfl⟩, hf⟩ }],
      orcT 91 [
        { args := [.one (.atom (.sym 0))], ans := .v (.agg [.lit (.bool false), .lit (.bool false), .atom (.sym 3), .atom (.sym 4), .atom (.sym 5)]), ok := by
            intro B ρ w S vs hS hr
            match vs, hr with
            | [u0], ⟨z0, _⟩ =>
              obtain ⟨rfl, _⟩ : u0 = _ ∧ _ := z0
              refine (hVV _).mono ?_
              rintro e w' ⟨rfl, hf⟩
              exact ⟨_, rfl, ⟨[_, _, _, _, _], rfl, ⟨rfl, rfl⟩, ⟨rfl, rfl⟩, ⟨rfl, fun _ => trivial⟩, ⟨rfl, fun _ => trivial⟩, ⟨rfl, fun _ => trivial⟩, trivial⟩, hf⟩ }],
      orcT 80 [
        { args := [.agg [.lit (.bool false), .lit (.bool false), .atom (.sym 3), .atom (.sym 4), .atom (.sym 5)]], ans := .v (.one (.lit (.bool false))), ok := by
            intro B ρ w S vs hS hr
            match vs, hr with
            | [u0], ⟨z0, _⟩ =>
              obtain ⟨us0, rfl, y0⟩ := z0
              match us0, y0 with
              | [v0_0, v0_1, v0_2, v0_3, v0_4], ⟨y0_0, y0_1, y0_2, y0_3, y0_4, _⟩ =>
              obtain ⟨rfl, f0_0⟩ : v0_0 = _ ∧ _ := y0_0
              obtain ⟨rfl, f0_1⟩ : v0_1 = _ ∧ _ := y0_1
              obtain ⟨rfl, f0_2⟩ : v0_2 = _ ∧ _ := y0_2
              obtain ⟨rfl, f0_3⟩ : v0_3 = _ ∧ _ := y0_3
              obtain ⟨rfl, f0_4⟩ : v0_4 = _ ∧ _ := y0_4
              refine (cN0 _).mono ?_
              rintro e w' ⟨rfl, hf⟩
              exact ⟨_, rfl, ⟨rfl, rfl⟩, hf⟩ }],
      orcT 95 [
        { args := [.agg [.lit (.bool false), .lit (.bool false), .atom (.sym 3), .atom (.sym 4), .atom (.sym 5)]], ans := .v (.agg [.lit (.bool false), .lit (.bool false), .atom (.sym 9), .atom (.sym 10), .atom (.sym 11)]), ok := by
            intro B ρ w S vs hS hr
            match vs, hr with
            | [u0], ⟨z0, _⟩ =>
              obtain ⟨us0, rfl, y0⟩ := z0
              match us0, y0 with
              | [v0_0, v0_1, v0_2, v0_3, v0_4], ⟨y0_0, y0_1, y0_2, y0_3, y0_4, _⟩ =>
              obtain ⟨rfl, f0_0⟩ : v0_0 = _ ∧ _ := y0_0
              obtain ⟨rfl, f0_1⟩ : v0_1 = _ ∧ _ := y0_1
              obtain ⟨rfl, f0_2⟩ : v0_2 = _ ∧ _ := y0_2
              obtain ⟨rfl, f0_3⟩ : v0_3 = _ ∧ _ := y0_3
              obtain ⟨rfl, f0_4⟩ : v0_4 = _ ∧ _ := y0_4
              refine (cRt _).mono ?_
              rintro e w' ⟨rfl, hf⟩
              exact ⟨_, rfl, ⟨[_, _, _, _, _], rfl, ⟨rfl, rfl⟩, ⟨rfl, rfl⟩, ⟨rfl, fun _ => trivial⟩, ⟨rfl, fun _ => trivial⟩, ⟨rfl, fun _ => trivial⟩, trivial⟩, hf⟩ }],
      orcT 50 [
        { args := [.agg [.lit (.int .u8 ((rAc c : Nat) : Int)), .lit (.int .u8 ((rBc c : Nat) : Int)), .lit (.bool (rMc c))], .agg [.lit (.bool false), .lit (.bool false), .atom (.sym 9), .atom (.sym 10), .atom (.sym 11)]], ans := .tup [.one (.atom (.sym 7)), .one (.atom (.sym 8))], ok := by
            intro B ρ w S vs hS hr
            match vs, hr with
            | [u0, u1], ⟨z0, z1, _⟩ =>
              obtain ⟨us0, rfl, y0⟩ := z0
              match us0, y0 with
              | [v0_0, v0_1, v0_2], ⟨y0_0, y0_1, y0_2, _⟩ =>
              obtain ⟨rfl, f0_0⟩ : v0_0 = _ ∧ _ := y0_0
              obtain ⟨rfl, f0_1⟩ : v0_1 = _ ∧ _ := y0_1
              obtain ⟨rfl, f0_2⟩ : v0_2 = _ ∧ _ := y0_2
              obtain ⟨us1, rfl, y1⟩ := z1
              match us1, y1 with
              | [v1_0, v1_1, v1_2, v1_3, v1_4], ⟨y1_0, y1_1, y1_2, y1_3, y1_4, _⟩ =>
              obtain ⟨rfl, f1_0⟩ : v1_0 = _ ∧ _ := y1_0
              obtain ⟨rfl, f1_1⟩ : v1_1 = _ ∧ _ := y1_1
              obtain ⟨rfl, f1_2⟩ : v1_2 = _ ∧ _ := y1_2
              obtain ⟨rfl, f1_3⟩ : v1_3 = _ ∧ _ := y1_3
              obtain ⟨rfl, f1_4⟩ : v1_4 = _ ∧ _ := y1_4
              refine (cRo _).mono ?_
              rintro e w' ⟨rfl, hf⟩
              exact ⟨_, rfl, ⟨[_, _], rfl, ⟨rfl, fun _ => trivial⟩, ⟨rfl, fun _ => trivial⟩, trivial⟩, hf⟩ }]], rfl⟩
    (opH_le (bigHook_le _ _) (opH_le (symHook_le _ _ _) (tabHook_le _ _)))
    (opH_ok (bigHook_ok _) (opH_ok (symHook_ok _ (fun h => by cases h) (fun h => by cases h)) (tabHook_ok _ all_nil all_nil)))
  refine (told_call (M := (DomQ true ν σ ruG)) (cx := ⟨Tryd.prog, true, t.get, orcD (sqFD c), (opH (bigHook Tryd.prog true) (opH (symHook Tryd.prog sqFN (fun _ _ _ => none)) (tabHook (sqFL c) sqFM)))⟩) (xs := [.one (.atom (.sym 0)), .one (.atom (.sym 1))]) (vs := [.int .u64 f, .int .i64 m]) Tryd.checked.mixed hcx (fun hg => ruG_ok hR hg) ⟨⟨rfl, fun _ => trivial⟩, ⟨rfl, fun _ => trivial⟩, trivial⟩ he).mono ?_
  rintro e w' ⟨v, ρ', rfl, hv, hbel⟩
  obtain ⟨us, rfl, hu⟩ := hv
  match us, hu with
  | [c0, c1], ⟨r0, r1, _⟩ =>
    obtain ⟨rfl, _⟩ : c0 = _ ∧ _ := r0
    obtain ⟨rfl, _⟩ : c1 = _ ∧ _ := r1
    exact ⟨rfl, hbel⟩

theorem sqrtF_any {w : World} (hR : Ru w) (m : Int) (f : Nat) (hf : f < 18446744073709551616) :
    Calls Tryd.prog 34 #[.int .u64 f, .int .i64 m] w fun e w' => e = .returned (.tuple #[.int .u64 ((sqrtF m f).1 : Nat), .int .i64 ((sqrtF m f).2 : Nat)]) ∧ Fwd w w' := by
  obtain ⟨c, hc, r1, r2, r3⟩ := rule_class m
  by_cases k : isNan f = true
  · exact sqN_tab hR m f hf k hc r1 r2 r3
  · have k' : fsz f ≤ 9218868437227405312 := by
      by_cases d : 9218868437227405312 < fsz f
      · exact absurd (decide_eq_true d) k
      · omega
    by_cases z : fsz f = 0
    · exact sqZ_tab hR m f hf z hc r1 r2 r3
    · cases s : fneg f with
      | true => exact sqM_tab hR m f hf z k' s hc r1 r2 r3
      | false =>
        by_cases i : fsz f = 9218868437227405312
        · exact sqI_tab hR m f hf i s hc r1 r2 r3
        · exact sqF_tab hR m f hf z (by omega) s hc r1 r2 r3
end Go.Proofs.YtcfhajnboamnnaaDoor
