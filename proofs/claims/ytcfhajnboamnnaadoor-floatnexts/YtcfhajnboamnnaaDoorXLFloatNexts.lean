/- FloatNexts: between a float and the next one there is none: the law's walk, by the reader upon letters. -/
import Derived.Test.YtcfhajnboamnnaaDoorXF36
import Derived.Test.YtcfhajnboamnnaaDoorYXF17
import Derived.Test.YtcfhajnboamnnaaDoorYXFM
import Derived.Test.YtcfhajnboamnnaaDoorYXF34
import Derived.Test.YtcfhajnboamnnaaDoorYXFBR
import Derived.Test.YtcfhajnboamnnaaDoorKI
import Derived.Test.YtcfhajnboamnnaaDoorYXF26
import Derived.OpenShut
namespace Go.Proofs.YtcfhajnboamnnaaDoor
open Go.RowKit Go.Ev
set_option linter.unusedVariables false
set_option linter.unusedSimpArgs false

theorem bo_andNot {a c : Nat} {b : Int} (h : bits .andNot .u64 (a : Int) b = (c : Int)) (t : TypeId) : binOp .andNot t (.int .u64 (a : Int)) (.int .u64 b) = pure (.int .u64 (c : Int)) := by
  rw [binOp_andNot, ← h]; rfl
theorem cmp2n {w : World} {a b : Value} {p q : Rat} (ha : RV w a p) (hb : RV w b q) (bp : nr p ≤ 5000) (bq : nr q ≤ 5000) :
    Calls Tryd.prog 18 #[a, b] w fun e w' => e = .returned (.int .i64 (cmpQ p q)) ∧ Fwd w w' := by
  rw [← cmpS_eq]
  exact cmp2_any ha.rw' (nr_le bp).1 (nr_le bp).2 hb.rw' (nr_le bq).1 (nr_le bq).2
theorem cmpQ_below (p q : Rat) : decide (cmpQ p q < 0) = decide (p < q) := by
  unfold cmpQ
  by_cases h : p < q
  · simp [h]
  · by_cases g : q < p <;> simp [h, g]
theorem cmpQ_above (p q : Rat) : decide (0 < cmpQ p q) = decide (q < p) := by
  unfold cmpQ
  by_cases h : p < q
  · have : ¬ q < p := by grind
    simp [h, this]
  · by_cases g : q < p <;> simp [h, g]
theorem nxFlt {f : Nat} (hf : f < 18446744073709551616) (up : Bool) : nxF f up < 18446744073709551616 := by
  have h := sgn_fsz hf
  have h1 : sgn (fneg f) ≤ 9223372036854775808 := by unfold sgn; split <;> omega
  by_cases c : isNan f = true
  · unfold nxF; rw [if_pos c]; omega
  · have c' : isNan f = false := by simpa using c
    have : fsz f ≤ 9218868437227405312 := by
      have := of_decide_eq_false c'
      omega
    unfold nxF
    rw [if_neg c]
    repeat' split
    all_goals omega
theorem half_mk : mkQ (!(decide ((1 : Int) < 0) == decide ((2 : Int) < 0))) (1 : Int).natAbs (2 : Int).natAbs = mkRat 1 2 := by decide +kernel
theorem half_any (w : World) : Calls Tryd.prog 23 #[.int .i64 1, .int .i64 2] w fun e w' => ∃ v, e = .returned (.tuple #[v, .int .i64 0]) ∧ RV w' v (mkRat 1 2) ∧ Fwd w w' := by
  rw [← half_mk]
  exact of2_any w 1 2 (by decide) (by decide) (by decide) (by decide) (by decide)

def lnx10D (up : Bool) : List (FuncId × Ans) :=
  [(8, ansT [([], .v (.one (.lit (.bool true))))]),
   (21, ansT [([.one (.atom (.sym 0)), .one (.atom (.sym 1))], .v (.one (.atom (.sym 2))))]),
   (22, ansT [([.one (.atom (.sym 2)), .one (.lit (.bool up))], .v (.one (.atom (.sym 3))))]),
   (17, ansT [([.one (.atom (.sym 2))], .tup [avQ (.v 0), .one (.lit (.int .i64 (0)))]), ([.one (.atom (.sym 3))], .tup [.agg [.lit (.bool false), .lit (.slice none 0 0), .lit (.slice none 0 0)], .one (.lit (.int .i64 (10)))])]),
   (20, ansT [([.one (.atom (.sym 2)), .one (.lit (.bool up))], .v (.one (.atom (.sym 3))))])]
def lnx10L (up : Bool) : BT := [(.eql, .atom (.sym 3), .atom (.sym 3), .lit (.bool true))]
def lnx10M : BT := []
def lnx10N : At → Option Nat
  | _ => none

set_option maxRecDepth 1000000 in
theorem lnx10Told : ∃ t : Tr Func, TabOK Tryd.prog t ∧ (∀ (up : Bool), isAV (.v (.one (.lit (.bool true)))) (evalCall ⟨Tryd.prog, true, t.get, orcD (lnx10D up), (opH (bigHook Tryd.prog true) (opH (symHook Tryd.prog lnx10N (fun _ _ _ => none)) (tabHook (lnx10L up) lnx10M)))⟩ 1000 4 [.one (.atom (.sym 0)), .one (.atom (.sym 1)), .one (.lit (.bool up))] .e 0) = true) :=
  ⟨((((((Tr.e).put 4 (some Tryd.f4)).put 8 (some Tryd.f8)).put 21 (some Tryd.f21)).put 22 (some Tryd.f22)).put 17 (some Tryd.f17)).put 20 (some Tryd.f20),
   (TabOK.put (TabOK.put (TabOK.put (TabOK.put (TabOK.put (TabOK.put (TabOK.e _) ⟨Tryd.func4, by decide +kernel, by decide +kernel⟩) ⟨Tryd.func8, by decide +kernel, by decide +kernel⟩) ⟨Tryd.func21, by decide +kernel, by decide +kernel⟩) ⟨Tryd.func22, by decide +kernel, by decide +kernel⟩) ⟨Tryd.func17, by decide +kernel, by decide +kernel⟩) ⟨Tryd.func20, by decide +kernel, by decide +kernel⟩),
   by decide +kernel⟩

set_option maxHeartbeats 4000000 in
set_option maxRecDepth 100000 in
theorem lnx10_tab {w : World} (hR : Ru w) (f x : Nat) (n : Int) {up : Bool} (hf : f < 18446744073709551616) (hx : x < 18446744073709551616) (n1 : -9223372036854775808 ≤ n) (n2 : n ≤ 9223372036854775807)
    (cx : ∀ w : World, Calls Tryd.prog 21 #[.int .u64 f, .int .i64 n] w fun e w' => e = .returned (.int .u64 x) ∧ Fwd w w') (h1 : fsz x < 9218868437227405312) (h2 : 9218868437227405312 ≤ fsz (nxF x up)) :
    Calls Tryd.prog 4 #[.int .u64 f, .int .i64 n, .bool up] w fun e w' => e = .returned (.bool true) ∧ Below w.heap.size w w' := by
  have hy := nxFlt hx up
  obtain ⟨t, ht, hr⟩ := lnx10Told
  obtain ⟨dl, n', he⟩ := isAV_ok (hr up)
  let ν : Nat → Rat := nuL [fvQ x, fvQ (nxF x up)] []
  let σ : SymD := symL [.u f, .i n, .u x, .u (nxF x up)]
  have hcx : CxOK (DomQ true ν σ ruG) w.heap.size ⟨Tryd.prog, true, t.get, orcD (lnx10D up), (opH (bigHook Tryd.prog true) (opH (symHook Tryd.prog lnx10N (fun _ _ _ => none)) (tabHook (lnx10L up) lnx10M)))⟩ := cxS_ok (M := (DomQ true ν σ ruG)) ht ⟨[
      orcT 8 [
        { args := [], ans := .v (.one (.lit (.bool true))), ok := by
            intro B ρ w S vs hS hr
            match vs, hr with
            | [], _ =>
              skip
              refine (known3_any (ru_of hS)).mono ?_
              rintro e w' ⟨rfl, hf⟩
              exact ⟨_, rfl, ⟨rfl, rfl⟩, hf⟩ }],
      orcT 21 [
        { args := [.one (.atom (.sym 0)), .one (.atom (.sym 1))], ans := .v (.one (.atom (.sym 2))), ok := by
            intro B ρ w S vs hS hr
            match vs, hr with
            | [u0, u1], ⟨z0, z1, _⟩ =>
              obtain ⟨rfl, _⟩ : u0 = _ ∧ _ := z0
              obtain ⟨rfl, _⟩ : u1 = _ ∧ _ := z1
              refine (cx _).mono ?_
              rintro e w' ⟨rfl, hf⟩
              exact ⟨_, rfl, ⟨rfl, fun _ => trivial⟩, hf⟩ }],
      orcT 22 [
        { args := [.one (.atom (.sym 2)), .one (.lit (.bool up))], ans := .v (.one (.atom (.sym 3))), ok := by
            intro B ρ w S vs hS hr
            match vs, hr with
            | [u0, u1], ⟨z0, z1, _⟩ =>
              obtain ⟨rfl, _⟩ : u0 = _ ∧ _ := z0
              obtain ⟨rfl, _⟩ : u1 = _ ∧ _ := z1
              refine ((nxF_any (w := w) x up hx).mono (R' := fun e w' => e = .returned (.int .u64 (nxF x up : Nat)) ∧ Fwd w w') (fun e w' gg => ⟨gg.1, gg.2 ▸ Fwd.refl _⟩)).mono ?_
              rintro e w' ⟨rfl, hf⟩
              exact ⟨_, rfl, ⟨rfl, fun _ => trivial⟩, hf⟩ }],
      orcT 17 [
        { args := [.one (.atom (.sym 2))], ans := .tup [avQ (.v 0), .one (.lit (.int .i64 (0)))], ok := by
            intro B ρ w S vs hS hr
            match vs, hr with
            | [u0], ⟨z0, _⟩ =>
              obtain ⟨rfl, _⟩ : u0 = _ ∧ _ := z0
              refine (refRat_any x hx h1).mono ?_
              rintro e w' ⟨v, rfl, g0, hf⟩
              exact ⟨_, rfl, ⟨[_, _], rfl, (avQ_rel g0), ⟨rfl, rfl⟩, trivial⟩, hf⟩ },
        { args := [.one (.atom (.sym 3))], ans := .tup [.agg [.lit (.bool false), .lit (.slice none 0 0), .lit (.slice none 0 0)], .one (.lit (.int .i64 (10)))], ok := by
            intro B ρ w S vs hS hr
            match vs, hr with
            | [u0], ⟨z0, _⟩ =>
              obtain ⟨rfl, _⟩ : u0 = _ ∧ _ := z0
              refine (refRat_range (nxF x up) hy h2).mono ?_
              rintro e w' ⟨rfl, hf⟩
              exact ⟨_, rfl, ⟨[_, _], rfl, ⟨[_, _, _], rfl, ⟨rfl, rfl⟩, ⟨rfl, rfl⟩, ⟨rfl, rfl⟩, trivial⟩, ⟨rfl, rfl⟩, trivial⟩, hf⟩ }],
      orcT 20 [
        { args := [.one (.atom (.sym 2)), .one (.lit (.bool up))], ans := .v (.one (.atom (.sym 3))), ok := by
            intro B ρ w S vs hS hr
            match vs, hr with
            | [u0, u1], ⟨z0, z1, _⟩ =>
              obtain ⟨rfl, _⟩ : u0 = _ ∧ _ := z0
              obtain ⟨rfl, _⟩ : u1 = _ ∧ _ := z1
              refine ((next3_any (w := w) x up hx).mono (R' := fun e w' => e = .returned (.int .u64 (nxF x up : Nat)) ∧ Fwd w w') (fun e w' gg => ⟨gg.1, gg.2 ▸ Fwd.refl _⟩)).mono ?_
              rintro e w' ⟨rfl, hf⟩
              exact ⟨_, rfl, ⟨rfl, fun _ => trivial⟩, hf⟩ }]], rfl⟩
    (opH_le (bigHook_le _ _) (opH_le (symHook_le _ _ _) (tabHook_le _ _)))
    (opH_ok (bigHook_ok _) (opH_ok (symHook_ok _ (fun h => by cases h) (fun h => by cases h)) (tabHook_ok _ (all_cons (BOk.mk rfl rfl rfl (fun _ _ _ => trivial) rfl rfl (bo_eql (by simp))) all_nil) all_nil)))
  refine (told_call (M := (DomQ true ν σ ruG)) (cx := ⟨Tryd.prog, true, t.get, orcD (lnx10D up), (opH (bigHook Tryd.prog true) (opH (symHook Tryd.prog lnx10N (fun _ _ _ => none)) (tabHook (lnx10L up) lnx10M)))⟩) (xs := [.one (.atom (.sym 0)), .one (.atom (.sym 1)), .one (.lit (.bool up))]) (vs := [.int .u64 f, .int .i64 n, .bool up]) Tryd.checked.mixed hcx (fun hg => ruG_ok hR hg) ⟨⟨rfl, fun _ => trivial⟩, ⟨rfl, fun _ => trivial⟩, ⟨rfl, rfl⟩, trivial⟩ he).mono ?_
  rintro e w' ⟨v, ρ', rfl, hv, hbel⟩
  obtain ⟨rfl, _⟩ : v = _ ∧ _ := hv
  exact ⟨rfl, hbel⟩

def lnx01D (up : Bool) : List (FuncId × Ans) :=
  [(8, ansT [([], .v (.one (.lit (.bool true))))]),
   (21, ansT [([.one (.atom (.sym 0)), .one (.atom (.sym 1))], .v (.one (.atom (.sym 2))))]),
   (22, ansT [([.one (.atom (.sym 2)), .one (.lit (.bool up))], .v (.one (.atom (.sym 3))))]),
   (17, ansT [([.one (.atom (.sym 2))], .tup [.agg [.lit (.bool false), .lit (.slice none 0 0), .lit (.slice none 0 0)], .one (.lit (.int .i64 (10)))]), ([.one (.atom (.sym 3))], .tup [avQ (.v 1), .one (.lit (.int .i64 (0)))])]),
   (20, ansT [([.one (.atom (.sym 2)), .one (.lit (.bool up))], .v (.one (.atom (.sym 3))))])]
def lnx01L (up : Bool) : BT := [(.eql, .atom (.sym 3), .atom (.sym 3), .lit (.bool true))]
def lnx01M : BT := []
def lnx01N : At → Option Nat
  | _ => none

set_option maxRecDepth 1000000 in
theorem lnx01Told : ∃ t : Tr Func, TabOK Tryd.prog t ∧ (∀ (up : Bool), isAV (.v (.one (.lit (.bool true)))) (evalCall ⟨Tryd.prog, true, t.get, orcD (lnx01D up), (opH (bigHook Tryd.prog true) (opH (symHook Tryd.prog lnx01N (fun _ _ _ => none)) (tabHook (lnx01L up) lnx01M)))⟩ 1000 4 [.one (.atom (.sym 0)), .one (.atom (.sym 1)), .one (.lit (.bool up))] .e 0) = true) :=
  ⟨((((((Tr.e).put 4 (some Tryd.f4)).put 8 (some Tryd.f8)).put 21 (some Tryd.f21)).put 22 (some Tryd.f22)).put 17 (some Tryd.f17)).put 20 (some Tryd.f20),
   (TabOK.put (TabOK.put (TabOK.put (TabOK.put (TabOK.put (TabOK.put (TabOK.e _) ⟨Tryd.func4, by decide +kernel, by decide +kernel⟩) ⟨Tryd.func8, by decide +kernel, by decide +kernel⟩) ⟨Tryd.func21, by decide +kernel, by decide +kernel⟩) ⟨Tryd.func22, by decide +kernel, by decide +kernel⟩) ⟨Tryd.func17, by decide +kernel, by decide +kernel⟩) ⟨Tryd.func20, by decide +kernel, by decide +kernel⟩),
   by decide +kernel⟩

set_option maxHeartbeats 4000000 in
set_option maxRecDepth 100000 in
theorem lnx01_tab {w : World} (hR : Ru w) (f x : Nat) (n : Int) {up : Bool} (hf : f < 18446744073709551616) (hx : x < 18446744073709551616) (n1 : -9223372036854775808 ≤ n) (n2 : n ≤ 9223372036854775807)
    (cx : ∀ w : World, Calls Tryd.prog 21 #[.int .u64 f, .int .i64 n] w fun e w' => e = .returned (.int .u64 x) ∧ Fwd w w') (h1 : 9218868437227405312 ≤ fsz x) (h2 : fsz (nxF x up) < 9218868437227405312) :
    Calls Tryd.prog 4 #[.int .u64 f, .int .i64 n, .bool up] w fun e w' => e = .returned (.bool true) ∧ Below w.heap.size w w' := by
  have hy := nxFlt hx up
  obtain ⟨t, ht, hr⟩ := lnx01Told
  obtain ⟨dl, n', he⟩ := isAV_ok (hr up)
  let ν : Nat → Rat := nuL [fvQ x, fvQ (nxF x up)] []
  let σ : SymD := symL [.u f, .i n, .u x, .u (nxF x up)]
  have hcx : CxOK (DomQ true ν σ ruG) w.heap.size ⟨Tryd.prog, true, t.get, orcD (lnx01D up), (opH (bigHook Tryd.prog true) (opH (symHook Tryd.prog lnx01N (fun _ _ _ => none)) (tabHook (lnx01L up) lnx01M)))⟩ := cxS_ok (M := (DomQ true ν σ ruG)) ht ⟨[
      orcT 8 [
        { args := [], ans := .v (.one (.lit (.bool true))), ok := by
            intro B ρ w S vs hS hr
            match vs, hr with
            | [], _ =>
              skip
              refine (known3_any (ru_of hS)).mono ?_
              rintro e w' ⟨rfl, hf⟩
              exact ⟨_, rfl, ⟨rfl, rfl⟩, hf⟩ }],
      orcT 21 [
        { args := [.one (.atom (.sym 0)), .one (.atom (.sym 1))], ans := .v (.one (.atom (.sym 2))), ok := by
            intro B ρ w S vs hS hr
            match vs, hr with
            | [u0, u1], ⟨z0, z1, _⟩ =>
              obtain ⟨rfl, _⟩ : u0 = _ ∧ _ := z0
              obtain ⟨rfl, _⟩ : u1 = _ ∧ _ := z1
              refine (cx _).mono ?_
              rintro e w' ⟨rfl, hf⟩
              exact ⟨_, rfl, ⟨rfl, fun _ => trivial⟩, hf⟩ }],
      orcT 22 [
        { args := [.one (.atom (.sym 2)), .one (.lit (.bool up))], ans := .v (.one (.atom (.sym 3))), ok := by
            intro B ρ w S vs hS hr
            match vs, hr with
            | [u0, u1], ⟨z0, z1, _⟩ =>
              obtain ⟨rfl, _⟩ : u0 = _ ∧ _ := z0
              obtain ⟨rfl, _⟩ : u1 = _ ∧ _ := z1
              refine ((nxF_any (w := w) x up hx).mono (R' := fun e w' => e = .returned (.int .u64 (nxF x up : Nat)) ∧ Fwd w w') (fun e w' gg => ⟨gg.1, gg.2 ▸ Fwd.refl _⟩)).mono ?_
              rintro e w' ⟨rfl, hf⟩
              exact ⟨_, rfl, ⟨rfl, fun _ => trivial⟩, hf⟩ }],
      orcT 17 [
        { args := [.one (.atom (.sym 2))], ans := .tup [.agg [.lit (.bool false), .lit (.slice none 0 0), .lit (.slice none 0 0)], .one (.lit (.int .i64 (10)))], ok := by
            intro B ρ w S vs hS hr
            match vs, hr with
            | [u0], ⟨z0, _⟩ =>
              obtain ⟨rfl, _⟩ : u0 = _ ∧ _ := z0
              refine (refRat_range x hx h1).mono ?_
              rintro e w' ⟨rfl, hf⟩
              exact ⟨_, rfl, ⟨[_, _], rfl, ⟨[_, _, _], rfl, ⟨rfl, rfl⟩, ⟨rfl, rfl⟩, ⟨rfl, rfl⟩, trivial⟩, ⟨rfl, rfl⟩, trivial⟩, hf⟩ },
        { args := [.one (.atom (.sym 3))], ans := .tup [avQ (.v 1), .one (.lit (.int .i64 (0)))], ok := by
            intro B ρ w S vs hS hr
            match vs, hr with
            | [u0], ⟨z0, _⟩ =>
              obtain ⟨rfl, _⟩ : u0 = _ ∧ _ := z0
              refine (refRat_any (nxF x up) hy h2).mono ?_
              rintro e w' ⟨v, rfl, g0, hf⟩
              exact ⟨_, rfl, ⟨[_, _], rfl, (avQ_rel g0), ⟨rfl, rfl⟩, trivial⟩, hf⟩ }],
      orcT 20 [
        { args := [.one (.atom (.sym 2)), .one (.lit (.bool up))], ans := .v (.one (.atom (.sym 3))), ok := by
            intro B ρ w S vs hS hr
            match vs, hr with
            | [u0, u1], ⟨z0, z1, _⟩ =>
              obtain ⟨rfl, _⟩ : u0 = _ ∧ _ := z0
              obtain ⟨rfl, _⟩ : u1 = _ ∧ _ := z1
              refine ((next3_any (w := w) x up hx).mono (R' := fun e w' => e = .returned (.int .u64 (nxF x up : Nat)) ∧ Fwd w w') (fun e w' gg => ⟨gg.1, gg.2 ▸ Fwd.refl _⟩)).mono ?_
              rintro e w' ⟨rfl, hf⟩
              exact ⟨_, rfl, ⟨rfl, fun _ => trivial⟩, hf⟩ }]], rfl⟩
    (opH_le (bigHook_le _ _) (opH_le (symHook_le _ _ _) (tabHook_le _ _)))
    (opH_ok (bigHook_ok _) (opH_ok (symHook_ok _ (fun h => by cases h) (fun h => by cases h)) (tabHook_ok _ (all_cons (BOk.mk rfl rfl rfl (fun _ _ _ => trivial) rfl rfl (bo_eql (by simp))) all_nil) all_nil)))
  refine (told_call (M := (DomQ true ν σ ruG)) (cx := ⟨Tryd.prog, true, t.get, orcD (lnx01D up), (opH (bigHook Tryd.prog true) (opH (symHook Tryd.prog lnx01N (fun _ _ _ => none)) (tabHook (lnx01L up) lnx01M)))⟩) (xs := [.one (.atom (.sym 0)), .one (.atom (.sym 1)), .one (.lit (.bool up))]) (vs := [.int .u64 f, .int .i64 n, .bool up]) Tryd.checked.mixed hcx (fun hg => ruG_ok hR hg) ⟨⟨rfl, fun _ => trivial⟩, ⟨rfl, fun _ => trivial⟩, ⟨rfl, rfl⟩, trivial⟩ he).mono ?_
  rintro e w' ⟨v, ρ', rfl, hv, hbel⟩
  obtain ⟨rfl, _⟩ : v = _ ∧ _ := hv
  exact ⟨rfl, hbel⟩

def lnx00D (up : Bool) : List (FuncId × Ans) :=
  [(8, ansT [([], .v (.one (.lit (.bool true))))]),
   (21, ansT [([.one (.atom (.sym 0)), .one (.atom (.sym 1))], .v (.one (.atom (.sym 2))))]),
   (22, ansT [([.one (.atom (.sym 2)), .one (.lit (.bool up))], .v (.one (.atom (.sym 3))))]),
   (17, ansT [([.one (.atom (.sym 2))], .tup [.agg [.lit (.bool false), .lit (.slice none 0 0), .lit (.slice none 0 0)], .one (.lit (.int .i64 (10)))]), ([.one (.atom (.sym 3))], .tup [.agg [.lit (.bool false), .lit (.slice none 0 0), .lit (.slice none 0 0)], .one (.lit (.int .i64 (10)))])]),
   (20, ansT [([.one (.atom (.sym 2)), .one (.lit (.bool up))], .v (.one (.atom (.sym 3))))])]
def lnx00L (up : Bool) : BT := [(.eql, .atom (.sym 3), .atom (.sym 3), .lit (.bool true))]
def lnx00M : BT := []
def lnx00N : At → Option Nat
  | _ => none

set_option maxRecDepth 1000000 in
theorem lnx00Told : ∃ t : Tr Func, TabOK Tryd.prog t ∧ (∀ (up : Bool), isAV (.v (.one (.lit (.bool true)))) (evalCall ⟨Tryd.prog, true, t.get, orcD (lnx00D up), (opH (bigHook Tryd.prog true) (opH (symHook Tryd.prog lnx00N (fun _ _ _ => none)) (tabHook (lnx00L up) lnx00M)))⟩ 1000 4 [.one (.atom (.sym 0)), .one (.atom (.sym 1)), .one (.lit (.bool up))] .e 0) = true) :=
  ⟨((((((Tr.e).put 4 (some Tryd.f4)).put 8 (some Tryd.f8)).put 21 (some Tryd.f21)).put 22 (some Tryd.f22)).put 17 (some Tryd.f17)).put 20 (some Tryd.f20),
   (TabOK.put (TabOK.put (TabOK.put (TabOK.put (TabOK.put (TabOK.put (TabOK.e _) ⟨Tryd.func4, by decide +kernel, by decide +kernel⟩) ⟨Tryd.func8, by decide +kernel, by decide +kernel⟩) ⟨Tryd.func21, by decide +kernel, by decide +kernel⟩) ⟨Tryd.func22, by decide +kernel, by decide +kernel⟩) ⟨Tryd.func17, by decide +kernel, by decide +kernel⟩) ⟨Tryd.func20, by decide +kernel, by decide +kernel⟩),
   by decide +kernel⟩

set_option maxHeartbeats 4000000 in
set_option maxRecDepth 100000 in
theorem lnx00_tab {w : World} (hR : Ru w) (f x : Nat) (n : Int) {up : Bool} (hf : f < 18446744073709551616) (hx : x < 18446744073709551616) (n1 : -9223372036854775808 ≤ n) (n2 : n ≤ 9223372036854775807)
    (cx : ∀ w : World, Calls Tryd.prog 21 #[.int .u64 f, .int .i64 n] w fun e w' => e = .returned (.int .u64 x) ∧ Fwd w w') (h1 : 9218868437227405312 ≤ fsz x) (h2 : 9218868437227405312 ≤ fsz (nxF x up)) :
    Calls Tryd.prog 4 #[.int .u64 f, .int .i64 n, .bool up] w fun e w' => e = .returned (.bool true) ∧ Below w.heap.size w w' := by
  have hy := nxFlt hx up
  obtain ⟨t, ht, hr⟩ := lnx00Told
  obtain ⟨dl, n', he⟩ := isAV_ok (hr up)
  let ν : Nat → Rat := nuL [fvQ x, fvQ (nxF x up)] []
  let σ : SymD := symL [.u f, .i n, .u x, .u (nxF x up)]
  have hcx : CxOK (DomQ true ν σ ruG) w.heap.size ⟨Tryd.prog, true, t.get, orcD (lnx00D up), (opH (bigHook Tryd.prog true) (opH (symHook Tryd.prog lnx00N (fun _ _ _ => none)) (tabHook (lnx00L up) lnx00M)))⟩ := cxS_ok (M := (DomQ true ν σ ruG)) ht ⟨[
      orcT 8 [
        { args := [], ans := .v (.one (.lit (.bool true))), ok := by
            intro B ρ w S vs hS hr
            match vs, hr with
            | [], _ =>
              skip
              refine (known3_any (ru_of hS)).mono ?_
              rintro e w' ⟨rfl, hf⟩
              exact ⟨_, rfl, ⟨rfl, rfl⟩, hf⟩ }],
      orcT 21 [
        { args := [.one (.atom (.sym 0)), .one (.atom (.sym 1))], ans := .v (.one (.atom (.sym 2))), ok := by
            intro B ρ w S vs hS hr
            match vs, hr with
            | [u0, u1], ⟨z0, z1, _⟩ =>
              obtain ⟨rfl, _⟩ : u0 = _ ∧ _ := z0
              obtain ⟨rfl, _⟩ : u1 = _ ∧ _ := z1
              refine (cx _).mono ?_
              rintro e w' ⟨rfl, hf⟩
              exact ⟨_, rfl, ⟨rfl, fun _ => trivial⟩, hf⟩ }],
      orcT 22 [
        { args := [.one (.atom (.sym 2)), .one (.lit (.bool up))], ans := .v (.one (.atom (.sym 3))), ok := by
            intro B ρ w S vs hS hr
            match vs, hr with
            | [u0, u1], ⟨z0, z1, _⟩ =>
              obtain ⟨rfl, _⟩ : u0 = _ ∧ _ := z0
              obtain ⟨rfl, _⟩ : u1 = _ ∧ _ := z1
              refine ((nxF_any (w := w) x up hx).mono (R' := fun e w' => e = .returned (.int .u64 (nxF x up : Nat)) ∧ Fwd w w') (fun e w' gg => ⟨gg.1, gg.2 ▸ Fwd.refl _⟩)).mono ?_
              rintro e w' ⟨rfl, hf⟩
              exact ⟨_, rfl, ⟨rfl, fun _ => trivial⟩, hf⟩ }],
      orcT 17 [
        { args := [.one (.atom (.sym 2))], ans := .tup [.agg [.lit (.bool false), .lit (.slice none 0 0), .lit (.slice none 0 0)], .one (.lit (.int .i64 (10)))], ok := by
            intro B ρ w S vs hS hr
            match vs, hr with
            | [u0], ⟨z0, _⟩ =>
              obtain ⟨rfl, _⟩ : u0 = _ ∧ _ := z0
              refine (refRat_range x hx h1).mono ?_
              rintro e w' ⟨rfl, hf⟩
              exact ⟨_, rfl, ⟨[_, _], rfl, ⟨[_, _, _], rfl, ⟨rfl, rfl⟩, ⟨rfl, rfl⟩, ⟨rfl, rfl⟩, trivial⟩, ⟨rfl, rfl⟩, trivial⟩, hf⟩ },
        { args := [.one (.atom (.sym 3))], ans := .tup [.agg [.lit (.bool false), .lit (.slice none 0 0), .lit (.slice none 0 0)], .one (.lit (.int .i64 (10)))], ok := by
            intro B ρ w S vs hS hr
            match vs, hr with
            | [u0], ⟨z0, _⟩ =>
              obtain ⟨rfl, _⟩ : u0 = _ ∧ _ := z0
              refine (refRat_range (nxF x up) hy h2).mono ?_
              rintro e w' ⟨rfl, hf⟩
              exact ⟨_, rfl, ⟨[_, _], rfl, ⟨[_, _, _], rfl, ⟨rfl, rfl⟩, ⟨rfl, rfl⟩, ⟨rfl, rfl⟩, trivial⟩, ⟨rfl, rfl⟩, trivial⟩, hf⟩ }],
      orcT 20 [
        { args := [.one (.atom (.sym 2)), .one (.lit (.bool up))], ans := .v (.one (.atom (.sym 3))), ok := by
            intro B ρ w S vs hS hr
            match vs, hr with
            | [u0, u1], ⟨z0, z1, _⟩ =>
              obtain ⟨rfl, _⟩ : u0 = _ ∧ _ := z0
              obtain ⟨rfl, _⟩ : u1 = _ ∧ _ := z1
              refine ((next3_any (w := w) x up hx).mono (R' := fun e w' => e = .returned (.int .u64 (nxF x up : Nat)) ∧ Fwd w w') (fun e w' gg => ⟨gg.1, gg.2 ▸ Fwd.refl _⟩)).mono ?_
              rintro e w' ⟨rfl, hf⟩
              exact ⟨_, rfl, ⟨rfl, fun _ => trivial⟩, hf⟩ }]], rfl⟩
    (opH_le (bigHook_le _ _) (opH_le (symHook_le _ _ _) (tabHook_le _ _)))
    (opH_ok (bigHook_ok _) (opH_ok (symHook_ok _ (fun h => by cases h) (fun h => by cases h)) (tabHook_ok _ (all_cons (BOk.mk rfl rfl rfl (fun _ _ _ => trivial) rfl rfl (bo_eql (by simp))) all_nil) all_nil)))
  refine (told_call (M := (DomQ true ν σ ruG)) (cx := ⟨Tryd.prog, true, t.get, orcD (lnx00D up), (opH (bigHook Tryd.prog true) (opH (symHook Tryd.prog lnx00N (fun _ _ _ => none)) (tabHook (lnx00L up) lnx00M)))⟩) (xs := [.one (.atom (.sym 0)), .one (.atom (.sym 1)), .one (.lit (.bool up))]) (vs := [.int .u64 f, .int .i64 n, .bool up]) Tryd.checked.mixed hcx (fun hg => ruG_ok hR hg) ⟨⟨rfl, fun _ => trivial⟩, ⟨rfl, fun _ => trivial⟩, ⟨rfl, rfl⟩, trivial⟩ he).mono ?_
  rintro e w' ⟨v, ρ', rfl, hv, hbel⟩
  obtain ⟨rfl, _⟩ : v = _ ∧ _ := hv
  exact ⟨rfl, hbel⟩

def lnxfD (up : Bool) (cb : Bool) (xz : Bool) (cz : Bool) (mx : Bool) (my : Bool) (mz : Bool) : List (FuncId × Ans) :=
  [(8, ansT [([], .v (.one (.lit (.bool true))))]),
   (21, ansT [([.one (.atom (.sym 0)), .one (.atom (.sym 1))], .v (.one (.atom (.sym 2))))]),
   (22, ansT [([.one (.atom (.sym 2)), .one (.lit (.bool up))], .v (.one (.atom (.sym 3)))), ([.one (.atom (.sym 3)), .one (.lit (.bool (!up)))], .v (.one (.atom (.sym 6))))]),
   (17, ansT [([.one (.atom (.sym 2))], .tup [avQ (.v 0), .one (.lit (.int .i64 (0)))]), ([.one (.atom (.sym 3))], .tup [avQ (.v 1), .one (.lit (.int .i64 (0)))])]),
   (23, ansT [([.one (.lit (.int .i64 (1))), .one (.lit (.int .i64 (2)))], .tup [avQ (.v 2), .one (.lit (.int .i64 (0)))])]),
   (25, ansT [([avQ (.v 0), avQ (.v 1)], .v (avQ (.v 3)))]),
   (14, ansT [([avQ (.v 3), avQ (.v 2)], .v (avQ (.v 4)))]),
   (24, ansT [([avQ (.v 4), .one (.lit (.int .i64 (0)))], .tup [.one (.atom (.sym 4)), .one (.atom (.sym 5))])]),
   (18, ansT [([avQ (.v 0), avQ (.v 1)], .v (.one (.atom (.sym 7))))]),
   (19, ansT [([avQ (.v 0), avQ (.v 1)], .v (.one (.lit (.bool false))))])]
def lnxfL (up : Bool) (cb : Bool) (xz : Bool) (cz : Bool) (mx : Bool) (my : Bool) (mz : Bool) : BT := [(.eql, .atom (.sym 6), .atom (.sym 2), .lit (.bool cb)), (.andNot, .atom (.sym 2), .lit (.int .u64 9223372036854775808), .atom (.sym 8)), (.andNot, .atom (.sym 6), .lit (.int .u64 9223372036854775808), .atom (.sym 9)), (.andNot, .atom (.sym 4), .lit (.int .u64 9223372036854775808), .atom (.sym 10)), (.eql, .atom (.sym 8), .lit (.int .u64 0), .lit (.bool xz)), (.eql, .atom (.sym 9), .lit (.int .u64 0), .lit (.bool cz)), (.eql, .atom (.sym 10), .lit (.int .u64 0), .lit (.bool mz)), (.eql, .atom (.sym 4), .atom (.sym 2), .lit (.bool mx)), (.eql, .atom (.sym 4), .atom (.sym 3), .lit (.bool my)), (.lss, .atom (.sym 7), .lit (.int .i64 (0)), .lit (.bool up))]
def lnxfM : BT := []
def lnxfN : At → Option Nat
  | _ => none

set_option maxRecDepth 1000000 in
theorem lnxfTold : ∃ t : Tr Func, TabOK Tryd.prog t ∧ (∀ up cb xz cz mx my mz : Bool, (cb || (xz && cz)) = true → (mx || (my || mz)) = true → isAV (.v (.one (.lit (.bool true)))) (evalCall ⟨Tryd.prog, true, t.get, orcD (lnxfD up cb xz cz mx my mz), (opH (bigHook Tryd.prog true) (opH (symHook Tryd.prog lnxfN (fun _ _ _ => none)) (tabHook (lnxfL up cb xz cz mx my mz) lnxfM)))⟩ 1000 4 [.one (.atom (.sym 0)), .one (.atom (.sym 1)), .one (.lit (.bool up))] .e 0) = true) :=
  ⟨(((((((((((Tr.e).put 4 (some Tryd.f4)).put 8 (some Tryd.f8)).put 21 (some Tryd.f21)).put 22 (some Tryd.f22)).put 17 (some Tryd.f17)).put 23 (some Tryd.f23)).put 25 (some Tryd.f25)).put 14 (some Tryd.f14)).put 24 (some Tryd.f24)).put 18 (some Tryd.f18)).put 19 (some Tryd.f19),
   (TabOK.put (TabOK.put (TabOK.put (TabOK.put (TabOK.put (TabOK.put (TabOK.put (TabOK.put (TabOK.put (TabOK.put (TabOK.put (TabOK.e _) ⟨Tryd.func4, by decide +kernel, by decide +kernel⟩) ⟨Tryd.func8, by decide +kernel, by decide +kernel⟩) ⟨Tryd.func21, by decide +kernel, by decide +kernel⟩) ⟨Tryd.func22, by decide +kernel, by decide +kernel⟩) ⟨Tryd.func17, by decide +kernel, by decide +kernel⟩) ⟨Tryd.func23, by decide +kernel, by decide +kernel⟩) ⟨Tryd.func25, by decide +kernel, by decide +kernel⟩) ⟨Tryd.func14, by decide +kernel, by decide +kernel⟩) ⟨Tryd.func24, by decide +kernel, by decide +kernel⟩) ⟨Tryd.func18, by decide +kernel, by decide +kernel⟩) ⟨Tryd.func19, by decide +kernel, by decide +kernel⟩),
   by decide +kernel⟩

set_option maxHeartbeats 4000000 in
set_option maxRecDepth 100000 in
theorem lnxf_tab {w : World} (hR : Ru w) (f x : Nat) (n : Int) {up : Bool} (hf : f < 18446744073709551616) (hx : x < 18446744073709551616) (n1 : -9223372036854775808 ≤ n) (n2 : n ≤ 9223372036854775807)
    (cx : ∀ w : World, Calls Tryd.prog 21 #[.int .u64 f, .int .i64 n] w fun e w' => e = .returned (.int .u64 x) ∧ Fwd w w') (h1 : fsz x < 9218868437227405312) (h2 : fsz (nxF x up) < 9218868437227405312) {cb xz cz mx my mz : Bool}
    (e1 : decide ((nxF (nxF x up) (!up)) = x) = cb) (e2 : decide (fsz x = 0) = xz) (e3 : decide (fsz (nxF (nxF x up) (!up)) = 0) = cz) (e4 : decide ((ofN 0 ((fvQ x + fvQ (nxF x up)) * mkRat 1 2)).1 = x) = mx) (e5 : decide ((ofN 0 ((fvQ x + fvQ (nxF x up)) * mkRat 1 2)).1 = nxF x up) = my) (e6 : decide (fsz (ofN 0 ((fvQ x + fvQ (nxF x up)) * mkRat 1 2)).1 = 0) = mz)
    (hc1 : (cb || (xz && cz)) = true) (hc2 : (mx || (my || mz)) = true) (hlt : (ofN 0 ((fvQ x + fvQ (nxF x up)) * mkRat 1 2)).1 < 18446744073709551616) (hord : decide (fvQ x < fvQ (nxF x up)) = up) (hne : fvQ x ≠ fvQ (nxF x up)) :
    Calls Tryd.prog 4 #[.int .u64 f, .int .i64 n, .bool up] w fun e w' => e = .returned (.bool true) ∧ Below w.heap.size w w' := by
  have hy := nxFlt hx up
  have hz := nxFlt hy (!up)
  have bx := nr_fvQ h1
  have by' := nr_fvQ h2
  have ba := nr_add (fvQ x) (fvQ (nxF x up))
  have bh : nr (mkRat 1 2) ≤ 2 := by decide +kernel
  have bm := nr_mul (fvQ x + fvQ (nxF x up)) (mkRat 1 2)
  have cSa : ∀ (w : World) (u v : Value), RV w u (fvQ x) → RV w v (fvQ (nxF x up)) → Calls Tryd.prog 19 #[u, v] w fun e w' => e = .returned (.bool false) ∧ Fwd w w' := fun w u v h h' => by
    have := same2_num h h' (by omega) (by omega); rwa [decide_eq_false hne] at this
  obtain ⟨t, ht, hr⟩ := lnxfTold
  obtain ⟨dl, n', he⟩ := isAV_ok (hr up cb xz cz mx my mz hc1 hc2)
  let ν : Nat → Rat := nuL [fvQ x, fvQ (nxF x up), mkRat 1 2, fvQ x + fvQ (nxF x up), ((fvQ x + fvQ (nxF x up)) * mkRat 1 2)] []
  let σ : SymD := symL [.u f, .i n, .u x, .u (nxF x up), .u (ofN 0 ((fvQ x + fvQ (nxF x up)) * mkRat 1 2)).1, .i ((ofN 0 ((fvQ x + fvQ (nxF x up)) * mkRat 1 2)).2 : Int), .u (nxF (nxF x up) (!up)), .i (cmpQ (fvQ x) (fvQ (nxF x up))), .u (fsz x), .u (fsz (nxF (nxF x up) (!up))), .u (fsz (ofN 0 ((fvQ x + fvQ (nxF x up)) * mkRat 1 2)).1)]
  have hcx : CxOK (DomQ true ν σ ruG) w.heap.size ⟨Tryd.prog, true, t.get, orcD (lnxfD up cb xz cz mx my mz), (opH (bigHook Tryd.prog true) (opH (symHook Tryd.prog lnxfN (fun _ _ _ => none)) (tabHook (lnxfL up cb xz cz mx my mz) lnxfM)))⟩ := cxS_ok (M := (DomQ true ν σ ruG)) ht ⟨[
      orcT 8 [
        { args := [], ans := .v (.one (.lit (.bool true))), ok := by
            intro B ρ w S vs hS hr
            match vs, hr with
            | [], _ =>
              skip
              refine (known3_any (ru_of hS)).mono ?_
              rintro e w' ⟨rfl, hf⟩
              exact ⟨_, rfl, ⟨rfl, rfl⟩, hf⟩ }],
      orcT 21 [
        { args := [.one (.atom (.sym 0)), .one (.atom (.sym 1))], ans := .v (.one (.atom (.sym 2))), ok := by
            intro B ρ w S vs hS hr
            match vs, hr with
            | [u0, u1], ⟨z0, z1, _⟩ =>
              obtain ⟨rfl, _⟩ : u0 = _ ∧ _ := z0
              obtain ⟨rfl, _⟩ : u1 = _ ∧ _ := z1
              refine (cx _).mono ?_
              rintro e w' ⟨rfl, hf⟩
              exact ⟨_, rfl, ⟨rfl, fun _ => trivial⟩, hf⟩ }],
      orcT 22 [
        { args := [.one (.atom (.sym 2)), .one (.lit (.bool up))], ans := .v (.one (.atom (.sym 3))), ok := by
            intro B ρ w S vs hS hr
            match vs, hr with
            | [u0, u1], ⟨z0, z1, _⟩ =>
              obtain ⟨rfl, _⟩ : u0 = _ ∧ _ := z0
              obtain ⟨rfl, _⟩ : u1 = _ ∧ _ := z1
              refine ((nxF_any (w := w) x up hx).mono (R' := fun e w' => e = .returned (.int .u64 (nxF x up : Nat)) ∧ Fwd w w') (fun e w' gg => ⟨gg.1, gg.2 ▸ Fwd.refl _⟩)).mono ?_
              rintro e w' ⟨rfl, hf⟩
              exact ⟨_, rfl, ⟨rfl, fun _ => trivial⟩, hf⟩ },
        { args := [.one (.atom (.sym 3)), .one (.lit (.bool (!up)))], ans := .v (.one (.atom (.sym 6))), ok := by
            intro B ρ w S vs hS hr
            match vs, hr with
            | [u0, u1], ⟨z0, z1, _⟩ =>
              obtain ⟨rfl, _⟩ : u0 = _ ∧ _ := z0
              obtain ⟨rfl, _⟩ : u1 = _ ∧ _ := z1
              refine ((nxF_any (w := w) (nxF x up) (!up) hy).mono (R' := fun e w' => e = .returned (.int .u64 ((nxF (nxF x up) (!up)) : Nat)) ∧ Fwd w w') (fun e w' gg => ⟨gg.1, gg.2 ▸ Fwd.refl _⟩)).mono ?_
              rintro e w' ⟨rfl, hf⟩
              exact ⟨_, rfl, ⟨rfl, fun _ => trivial⟩, hf⟩ }],
      orcT 17 [
        { args := [.one (.atom (.sym 2))], ans := .tup [avQ (.v 0), .one (.lit (.int .i64 (0)))], ok := by
            intro B ρ w S vs hS hr
            match vs, hr with
            | [u0], ⟨z0, _⟩ =>
              obtain ⟨rfl, _⟩ : u0 = _ ∧ _ := z0
              refine (refRat_any x hx h1).mono ?_
              rintro e w' ⟨v, rfl, g0, hf⟩
              exact ⟨_, rfl, ⟨[_, _], rfl, (avQ_rel g0), ⟨rfl, rfl⟩, trivial⟩, hf⟩ },
        { args := [.one (.atom (.sym 3))], ans := .tup [avQ (.v 1), .one (.lit (.int .i64 (0)))], ok := by
            intro B ρ w S vs hS hr
            match vs, hr with
            | [u0], ⟨z0, _⟩ =>
              obtain ⟨rfl, _⟩ : u0 = _ ∧ _ := z0
              refine (refRat_any (nxF x up) hy h2).mono ?_
              rintro e w' ⟨v, rfl, g0, hf⟩
              exact ⟨_, rfl, ⟨[_, _], rfl, (avQ_rel g0), ⟨rfl, rfl⟩, trivial⟩, hf⟩ }],
      orcT 23 [
        { args := [.one (.lit (.int .i64 (1))), .one (.lit (.int .i64 (2)))], ans := .tup [avQ (.v 2), .one (.lit (.int .i64 (0)))], ok := by
            intro B ρ w S vs hS hr
            match vs, hr with
            | [u0, u1], ⟨z0, z1, _⟩ =>
              obtain ⟨rfl, _⟩ : u0 = _ ∧ _ := z0
              obtain ⟨rfl, _⟩ : u1 = _ ∧ _ := z1
              refine (half_any w).mono ?_
              rintro e w' ⟨v, rfl, g0, hf⟩
              exact ⟨_, rfl, ⟨[_, _], rfl, (avQ_rel g0), ⟨rfl, rfl⟩, trivial⟩, hf⟩ }],
      orcT 25 [
        { args := [avQ (.v 0), avQ (.v 1)], ans := .v (avQ (.v 3)), ok := by
            intro B ρ w S vs hS hr
            match vs, hr with
            | [u0, u1], ⟨z0, z1, _⟩ =>
              have k0 := avQ_rv z0
              have k1 := avQ_rv z1
              refine (add2_any (p := fvQ x) (q := fvQ (nxF x up)) k0 k1 (by omega) (by omega)).mono ?_
              rintro e w' ⟨v, rfl, g0, hf⟩
              exact ⟨_, rfl, (avQ_rel g0), hf⟩ }],
      orcT 14 [
        { args := [avQ (.v 3), avQ (.v 2)], ans := .v (avQ (.v 4)), ok := by
            intro B ρ w S vs hS hr
            match vs, hr with
            | [u0, u1], ⟨z0, z1, _⟩ =>
              have k0 := avQ_rv z0
              have k1 := avQ_rv z1
              refine (mul2_any (p := fvQ x + fvQ (nxF x up)) (q := mkRat 1 2) k0 k1 (by omega) (by omega)).mono ?_
              rintro e w' ⟨v, rfl, g0, hf⟩
              exact ⟨_, rfl, (avQ_rel g0), hf⟩ }],
      orcT 24 [
        { args := [avQ (.v 4), .one (.lit (.int .i64 (0)))], ans := .tup [.one (.atom (.sym 4)), .one (.atom (.sym 5))], ok := by
            intro B ρ w S vs hS hr
            match vs, hr with
            | [u0, u1], ⟨z0, z1, _⟩ =>
              have k0 := avQ_rv z0
              obtain ⟨rfl, _⟩ : u1 = _ ∧ _ := z1
              refine (of3_any (q := ((fvQ x + fvQ (nxF x up)) * mkRat 1 2)) 0 k0 (by omega)).mono ?_
              rintro e w' ⟨rfl, hf⟩
              exact ⟨_, rfl, ⟨[_, _], rfl, ⟨rfl, fun _ => trivial⟩, ⟨rfl, fun _ => trivial⟩, trivial⟩, hf⟩ }],
      orcT 18 [
        { args := [avQ (.v 0), avQ (.v 1)], ans := .v (.one (.atom (.sym 7))), ok := by
            intro B ρ w S vs hS hr
            match vs, hr with
            | [u0, u1], ⟨z0, z1, _⟩ =>
              have k0 := avQ_rv z0
              have k1 := avQ_rv z1
              refine (cmp2n (p := fvQ x) (q := fvQ (nxF x up)) k0 k1 (by omega) (by omega)).mono ?_
              rintro e w' ⟨rfl, hf⟩
              exact ⟨_, rfl, ⟨rfl, fun _ => trivial⟩, hf⟩ }],
      orcT 19 [
        { args := [avQ (.v 0), avQ (.v 1)], ans := .v (.one (.lit (.bool false))), ok := by
            intro B ρ w S vs hS hr
            match vs, hr with
            | [u0, u1], ⟨z0, z1, _⟩ =>
              have k0 := avQ_rv z0
              have k1 := avQ_rv z1
              refine (cSa _ _ _ k0 k1).mono ?_
              rintro e w' ⟨rfl, hf⟩
              exact ⟨_, rfl, ⟨rfl, rfl⟩, hf⟩ }]], rfl⟩
    (opH_le (bigHook_le _ _) (opH_le (symHook_le _ _ _) (tabHook_le _ _)))
    (opH_ok (bigHook_ok _) (opH_ok (symHook_ok _ (fun h => by cases h) (fun h => by cases h)) (tabHook_ok _ (all_cons (BOk.mk rfl rfl rfl (fun _ _ _ => trivial) rfl rfl (bo_eql (by rw [← e1]; exact decide_eq_decide.2 Int.natCast_inj))) (all_cons (BOk.mk rfl rfl rfl (fun _ _ _ => trivial) rfl rfl (bo_andNot (andNot_sign x hx))) (all_cons (BOk.mk rfl rfl rfl (fun _ _ _ => trivial) rfl rfl (bo_andNot (andNot_sign _ hz))) (all_cons (BOk.mk rfl rfl rfl (fun _ _ _ => trivial) rfl rfl (bo_andNot (andNot_sign _ hlt))) (all_cons (BOk.mk rfl rfl rfl (fun _ _ _ => trivial) rfl rfl (bo_eql (by rw [← e2]; exact decide_eq_decide.2 Int.natCast_inj))) (all_cons (BOk.mk rfl rfl rfl (fun _ _ _ => trivial) rfl rfl (bo_eql (by rw [← e3]; exact decide_eq_decide.2 Int.natCast_inj))) (all_cons (BOk.mk rfl rfl rfl (fun _ _ _ => trivial) rfl rfl (bo_eql (by rw [← e6]; exact decide_eq_decide.2 Int.natCast_inj))) (all_cons (BOk.mk rfl rfl rfl (fun _ _ _ => trivial) rfl rfl (bo_eql (by rw [← e4]; exact decide_eq_decide.2 Int.natCast_inj))) (all_cons (BOk.mk rfl rfl rfl (fun _ _ _ => trivial) rfl rfl (bo_eql (by rw [← e5]; exact decide_eq_decide.2 Int.natCast_inj))) (all_cons (BOk.mk rfl rfl rfl (fun _ _ _ => trivial) rfl rfl (bo_lss (by rw [cmpQ_below]; exact hord))) all_nil)))))))))) all_nil)))
  refine (told_call (M := (DomQ true ν σ ruG)) (cx := ⟨Tryd.prog, true, t.get, orcD (lnxfD up cb xz cz mx my mz), (opH (bigHook Tryd.prog true) (opH (symHook Tryd.prog lnxfN (fun _ _ _ => none)) (tabHook (lnxfL up cb xz cz mx my mz) lnxfM)))⟩) (xs := [.one (.atom (.sym 0)), .one (.atom (.sym 1)), .one (.lit (.bool up))]) (vs := [.int .u64 f, .int .i64 n, .bool up]) Tryd.checked.mixed hcx (fun hg => ruG_ok hR hg) ⟨⟨rfl, fun _ => trivial⟩, ⟨rfl, fun _ => trivial⟩, ⟨rfl, rfl⟩, trivial⟩ he).mono ?_
  rintro e w' ⟨v, ρ', rfl, hv, hbel⟩
  obtain ⟨rfl, _⟩ : v = _ ∧ _ := hv
  exact ⟨rfl, hbel⟩

theorem ofN_lt (m : Int) (q : Rat) : (ofN m q).1 < 18446744073709551616 := by
  unfold ofN
  rw [ofR_eq m _ q.den_nz]
  split
  · show (0 : Nat) < _; omega
  · exact rdV_lt m _
theorem floatNexts_walk {w : World} {f n : Int} (hR : Ru w) (hf : (Lit.int .u64 f).wf = true) (hn : (Lit.int .i64 n).wf = true) (up : Bool) :
    Calls Tryd.prog 4 #[.int .u64 f, .int .i64 n, .bool up] w fun e w' => e = .returned (.bool true) ∧ Below w.heap.size w w' := by
  obtain ⟨f1, f2⟩ := bounds_u64 hf
  obtain ⟨n1, n2⟩ := bounds_i64 hn
  obtain ⟨f, rfl⟩ : ∃ a' : Nat, f = (a' : Int) := ⟨f.toNat, by omega⟩
  obtain ⟨x, hx, cx⟩ := make3_fix f n (by omega) n1 n2
  by_cases c : fsz x < 9218868437227405312
  · by_cases d : fsz (nxF x up) < 9218868437227405312
    · obtain ⟨-, a2, a3, a4, a5⟩ := next_facts up hx c d
      refine lnxf_tab hR f x n (by omega) hx n1 n2 cx c d rfl rfl rfl rfl rfl rfl ?_ ?_ (ofN_lt _ _) a2 a3
      · rcases a4 with h | ⟨h, k⟩
        · rw [decide_eq_true h]; rfl
        · rw [decide_eq_true h, decide_eq_true k]; simp
      · rcases a5 0 with h | h | h
        · rw [decide_eq_true h]; rfl
        · rw [decide_eq_true h]; simp
        · rw [decide_eq_true h]; simp
    · exact lnx10_tab hR f x n (by omega) hx n1 n2 cx c (by omega)
  · by_cases d : fsz (nxF x up) < 9218868437227405312
    · exact lnx01_tab hR f x n (by omega) hx n1 n2 cx (by omega) d
    · exact lnx00_tab hR f x n (by omega) hx n1 n2 cx (by omega) (by omega)
end Go.Proofs.YtcfhajnboamnnaaDoor
