/- The second telling of floats: exact, sum, Add, Sub, Mul, Div, Fma, by the reader upon letters. -/
import Derived.Test.YtcfhajnboamnnaaDoorXF35
import Derived.Test.YtcfhajnboamnnaaDoorYXFT
import Derived.Test.YtcfhajnboamnnaaDoorYXEVS
namespace Go.Proofs.YtcfhajnboamnnaaDoor
open Go.RowKit Go.Ev
set_option linter.unusedVariables false
set_option linter.unusedSimpArgs false

theorem nr_fvQ {f : Nat} (h : fsz f < 9218868437227405312) : nr (fvQ f) ≤ 36 := by
  have h1 := nr_mkQ (fneg f) (ratA f) (ratB f) (ratB_pos f)
  have a1 := nl_two' (vsz_lt f)
  have a2 := nl_shl (vsz f) (vex f).toNat
  have a3 := vex_le h
  have b1 := nl_two' (n := 1) (by decide)
  have b2 := nl_shl 1 (-(vex f)).toNat
  have b3 := vex_ge f
  have e1 : nl (ratA f) = nl (vsz f * 2 ^ (vex f).toNat) := rfl
  have e2 : nl (ratB f) = nl (1 * 2 ^ (-(vex f)).toNat) := rfl
  unfold fvQ
  omega

def ex3D : List (FuncId × Ans) :=
  [(17, ansT [([.one (.atom (.sym 0))], .tup [avQ (.v 0), .one (.lit (.int .i64 (0)))])])]
def ex3L : BT := []
def ex3M : BT := []
def ex3N : At → Option Nat
  | _ => none

set_option maxRecDepth 1000000 in
theorem ex3Told : ∃ t : Tr Func, TabOK Tryd.prog t ∧ (isAV (.v (avQ (.v 0))) (evalCall ⟨Tryd.prog, true, t.get, orcD (ex3D ), (opH (bigHook Tryd.prog true) (opH (symHook Tryd.prog ex3N (fun _ _ _ => none)) (tabHook (ex3L ) ex3M)))⟩ 1000 71 [.one (.atom (.sym 0))] .e 0) = true) :=
  ⟨((Tr.e).put 71 (some Tryd.f71)).put 17 (some Tryd.f17),
   (TabOK.put (TabOK.put (TabOK.e _) ⟨Tryd.func71, by decide +kernel, by decide +kernel⟩) ⟨Tryd.func17, by decide +kernel, by decide +kernel⟩),
   by decide +kernel⟩

set_option maxHeartbeats 4000000 in
set_option maxRecDepth 100000 in
theorem ex3_tab {w : World} (f : Nat) (hf : f < 18446744073709551616) (hi : fsz f < 9218868437227405312) :
    Calls Tryd.prog 71 #[.int .u64 f] w fun e w' => (∃ u, e = .returned u ∧ RV w' u (fvQ f)) ∧ Below w.heap.size w w' := by
  obtain ⟨t, ht, hr⟩ := ex3Told
  obtain ⟨dl, n', he⟩ := isAV_ok (hr)
  let ν : Nat → Rat := nuL [fvQ f] []
  let σ : SymD := symL [.u f]
  have hcx : CxOK (DomQ true ν σ (fun _ => none)) w.heap.size ⟨Tryd.prog, true, t.get, orcD (ex3D ), (opH (bigHook Tryd.prog true) (opH (symHook Tryd.prog ex3N (fun _ _ _ => none)) (tabHook (ex3L ) ex3M)))⟩ := cxS_ok (M := (DomQ true ν σ (fun _ => none))) ht ⟨[
      orcT 17 [
        { args := [.one (.atom (.sym 0))], ans := .tup [avQ (.v 0), .one (.lit (.int .i64 (0)))], ok := by
            intro B ρ w S vs hS hr
            match vs, hr with
            | [u0], ⟨z0, _⟩ =>
              obtain ⟨rfl, _⟩ : u0 = _ ∧ _ := z0
              refine (refRat_any (w := w) f hf hi).mono ?_
              rintro e w' ⟨v, rfl, g0, hf⟩
              exact ⟨_, rfl, ⟨[_, _], rfl, (avQ_rel g0), ⟨rfl, rfl⟩, trivial⟩, hf⟩ }]], rfl⟩
    (opH_le (bigHook_le _ _) (opH_le (symHook_le _ _ _) (tabHook_le _ _)))
    (opH_ok (bigHook_ok _) (opH_ok (symHook_ok _ (fun h => by cases h) (fun h => by cases h)) (tabHook_ok _ all_nil all_nil)))
  refine (told_call (M := (DomQ true ν σ (fun _ => none))) (cx := ⟨Tryd.prog, true, t.get, orcD (ex3D ), (opH (bigHook Tryd.prog true) (opH (symHook Tryd.prog ex3N (fun _ _ _ => none)) (tabHook (ex3L ) ex3M)))⟩) (xs := [.one (.atom (.sym 0))]) (vs := [.int .u64 f]) Tryd.checked.mixed hcx (fun hg => by cases hg) ⟨⟨rfl, fun _ => trivial⟩, trivial⟩ he).mono ?_
  rintro e w' ⟨v, ρ', rfl, hv, hbel⟩
  exact ⟨⟨v, rfl, avQ_rv hv⟩, hbel⟩

theorem exact3_any {w : World} (f : Nat) (hf : f < 18446744073709551616) (hi : fsz f < 9218868437227405312) :
    Calls Tryd.prog 71 #[.int .u64 f] w fun e w' => ∃ u, e = .returned u ∧ RV w' u (fvQ f) ∧ Fwd w w' :=
  (ex3_tab f hf hi).mono fun e w' h => by obtain ⟨⟨u, h1, h2⟩, h3⟩ := h; exact ⟨u, h1, h2, h3⟩

def sm3zD : List (FuncId × Ans) :=
  [(25, ansT [([avQ (.v 0), avQ (.v 1)], .v (avQ (.v 2)))]),
   (61, ansT [([avQ (.v 2)], .v (.one (.lit (.bool true))))]),
   (58, ansT [([.one (.atom (.sym 4)), .one (.lit (.int .u64 0))], .v (.one (.atom (.sym 1))))])]
def sm3zL : BT := [(.eql, .atom (.sym 0), .lit (.int .i64 (2)), .atom (.sym 4))]
def sm3zM : BT := []
def sm3zN : At → Option Nat
  | _ => none

set_option maxRecDepth 1000000 in
theorem sm3zTold : ∃ t : Tr Func, TabOK Tryd.prog t ∧ (isAV (.tup [.one (.atom (.sym 1)), .one (.lit (.int .i64 (0)))]) (evalCall ⟨Tryd.prog, true, t.get, orcD (sm3zD ), (opH (bigHook Tryd.prog true) (opH (symHook Tryd.prog sm3zN (fun _ _ _ => none)) (tabHook (sm3zL ) sm3zM)))⟩ 1000 70 [avQ (.v 0), avQ (.v 1), .one (.atom (.sym 0))] .e 0) = true) :=
  ⟨((((Tr.e).put 70 (some Tryd.f70)).put 25 (some Tryd.f25)).put 61 (some Tryd.f61)).put 58 (some Tryd.f58),
   (TabOK.put (TabOK.put (TabOK.put (TabOK.put (TabOK.e _) ⟨Tryd.func70, by decide +kernel, by decide +kernel⟩) ⟨Tryd.func25, by decide +kernel, by decide +kernel⟩) ⟨Tryd.func61, by decide +kernel, by decide +kernel⟩) ⟨Tryd.func58, by decide +kernel, by decide +kernel⟩),
   by decide +kernel⟩

set_option maxHeartbeats 4000000 in
set_option maxRecDepth 100000 in
theorem sm3z_tab {w : World} {a b : Value} {p q : Rat} (m : Int) (ha : RV w a p) (hb : RV w b q) (bp : nr p ≤ 100) (bq : nr q ≤ 100) (bs : nr (p + q) ≤ 150) (hz : p + q = 0) :
    Calls Tryd.prog 70 #[a, b, .int .i64 m] w fun e w' => e = .returned (.tuple #[.int .u64 ((sumN m (p + q)).1 : Nat), .int .i64 ((sumN m (p + q)).2 : Nat)]) ∧ Below w.heap.size w w' := by
  have cNo : ∀ (w : World) (u : Value), RV w u (p + q) → Calls Tryd.prog 61 #[u] w fun e w' => e = .returned (.bool true) ∧ Fwd w w' := fun w u h => by
    have := nought2_num h (by omega); rwa [decide_eq_true hz] at this
  have cS : ∀ (w : World), Calls Tryd.prog 58 #[.bool (decide (m = 2)), .int .u64 0] w fun e w' => e = .returned (.int .u64 ((sgn (decide (m = 2)) : Nat) : Int)) ∧ Fwd w w' := fun w => (signed3_any (decide (m = 2)) 0 (by omega)).mono fun e w' gg => ⟨gg.1, gg.2 ▸ Fwd.refl _⟩
  have hs : sumN m (p + q) = (sgn (decide (m = 2)), 0) := by unfold sumN; rw [if_pos hz]
  rw [hs]
  obtain ⟨t, ht, hr⟩ := sm3zTold
  obtain ⟨dl, n', he⟩ := isAV_ok (hr)
  let ν : Nat → Rat := nuL [p, q, p + q] []
  let σ : SymD := symL [.i m, .u (sgn (decide (m = 2))), .u (ofN m (p + q)).1, .i ((ofN m (p + q)).2 : Int), .b (decide (m = 2))]
  have hcx : CxOK (DomQ true ν σ (fun _ => none)) w.heap.size ⟨Tryd.prog, true, t.get, orcD (sm3zD ), (opH (bigHook Tryd.prog true) (opH (symHook Tryd.prog sm3zN (fun _ _ _ => none)) (tabHook (sm3zL ) sm3zM)))⟩ := cxS_ok (M := (DomQ true ν σ (fun _ => none))) ht ⟨[
      orcT 25 [
        { args := [avQ (.v 0), avQ (.v 1)], ans := .v (avQ (.v 2)), ok := by
            intro B ρ w S vs hS hr
            match vs, hr with
            | [u0, u1], ⟨z0, z1, _⟩ =>
              have k0 := avQ_rv z0
              have k1 := avQ_rv z1
              refine (add2_any k0 k1 (by show nr p ≤ _; omega) (by show nr q ≤ _; omega)).mono ?_
              rintro e w' ⟨v, rfl, g0, hf⟩
              exact ⟨_, rfl, (avQ_rel g0), hf⟩ }],
      orcT 61 [
        { args := [avQ (.v 2)], ans := .v (.one (.lit (.bool true))), ok := by
            intro B ρ w S vs hS hr
            match vs, hr with
            | [u0], ⟨z0, _⟩ =>
              have k0 := avQ_rv z0
              refine (cNo _ _ k0).mono ?_
              rintro e w' ⟨rfl, hf⟩
              exact ⟨_, rfl, ⟨rfl, rfl⟩, hf⟩ }],
      orcT 58 [
        { args := [.one (.atom (.sym 4)), .one (.lit (.int .u64 0))], ans := .v (.one (.atom (.sym 1))), ok := by
            intro B ρ w S vs hS hr
            match vs, hr with
            | [u0, u1], ⟨z0, z1, _⟩ =>
              obtain ⟨rfl, _⟩ : u0 = _ ∧ _ := z0
              obtain ⟨rfl, _⟩ : u1 = _ ∧ _ := z1
              refine (cS _).mono ?_
              rintro e w' ⟨rfl, hf⟩
              exact ⟨_, rfl, ⟨rfl, fun _ => trivial⟩, hf⟩ }]], rfl⟩
    (opH_le (bigHook_le _ _) (opH_le (symHook_le _ _ _) (tabHook_le _ _)))
    (opH_ok (bigHook_ok _) (opH_ok (symHook_ok _ (fun h => by cases h) (fun h => by cases h)) (tabHook_ok _ (all_cons (BOk.mk rfl rfl rfl (fun _ _ _ => trivial) rfl rfl (bo_eql rfl)) all_nil) all_nil)))
  refine (told_call (M := (DomQ true ν σ (fun _ => none))) (cx := ⟨Tryd.prog, true, t.get, orcD (sm3zD ), (opH (bigHook Tryd.prog true) (opH (symHook Tryd.prog sm3zN (fun _ _ _ => none)) (tabHook (sm3zL ) sm3zM)))⟩) (xs := [avQ (.v 0), avQ (.v 1), .one (.atom (.sym 0))]) (vs := [a, b, .int .i64 m]) Tryd.checked.mixed hcx (fun hg => by cases hg) ⟨avQ_rel ha, avQ_rel hb, ⟨rfl, fun _ => trivial⟩, trivial⟩ he).mono ?_
  rintro e w' ⟨v, ρ', rfl, hv, hbel⟩
  obtain ⟨us, rfl, hu⟩ := hv
  match us, hu with
  | [c0, c1], ⟨r0, r1, _⟩ =>
    obtain ⟨rfl, _⟩ : c0 = _ ∧ _ := r0
    obtain ⟨rfl, _⟩ : c1 = _ ∧ _ := r1
    exact ⟨rfl, hbel⟩

def sm3nD : List (FuncId × Ans) :=
  [(25, ansT [([avQ (.v 0), avQ (.v 1)], .v (avQ (.v 2)))]),
   (61, ansT [([avQ (.v 2)], .v (.one (.lit (.bool false))))]),
   (24, ansT [([avQ (.v 2), .one (.atom (.sym 0))], .tup [.one (.atom (.sym 2)), .one (.atom (.sym 3))])])]
def sm3nL : BT := []
def sm3nM : BT := []
def sm3nN : At → Option Nat
  | _ => none

set_option maxRecDepth 1000000 in
theorem sm3nTold : ∃ t : Tr Func, TabOK Tryd.prog t ∧ (isAV (.tup [.one (.atom (.sym 2)), .one (.atom (.sym 3))]) (evalCall ⟨Tryd.prog, true, t.get, orcD (sm3nD ), (opH (bigHook Tryd.prog true) (opH (symHook Tryd.prog sm3nN (fun _ _ _ => none)) (tabHook (sm3nL ) sm3nM)))⟩ 1000 70 [avQ (.v 0), avQ (.v 1), .one (.atom (.sym 0))] .e 0) = true) :=
  ⟨((((Tr.e).put 70 (some Tryd.f70)).put 25 (some Tryd.f25)).put 61 (some Tryd.f61)).put 24 (some Tryd.f24),
   (TabOK.put (TabOK.put (TabOK.put (TabOK.put (TabOK.e _) ⟨Tryd.func70, by decide +kernel, by decide +kernel⟩) ⟨Tryd.func25, by decide +kernel, by decide +kernel⟩) ⟨Tryd.func61, by decide +kernel, by decide +kernel⟩) ⟨Tryd.func24, by decide +kernel, by decide +kernel⟩),
   by decide +kernel⟩

set_option maxHeartbeats 4000000 in
set_option maxRecDepth 100000 in
theorem sm3n_tab {w : World} {a b : Value} {p q : Rat} (m : Int) (ha : RV w a p) (hb : RV w b q) (bp : nr p ≤ 100) (bq : nr q ≤ 100) (bs : nr (p + q) ≤ 150) (hz : p + q ≠ 0) :
    Calls Tryd.prog 70 #[a, b, .int .i64 m] w fun e w' => e = .returned (.tuple #[.int .u64 ((sumN m (p + q)).1 : Nat), .int .i64 ((sumN m (p + q)).2 : Nat)]) ∧ Below w.heap.size w w' := by
  have cNo : ∀ (w : World) (u : Value), RV w u (p + q) → Calls Tryd.prog 61 #[u] w fun e w' => e = .returned (.bool false) ∧ Fwd w w' := fun w u h => by
    have := nought2_num h (by omega); rwa [decide_eq_false hz] at this
  have cS : ∀ (w : World), Calls Tryd.prog 58 #[.bool (decide (m = 2)), .int .u64 0] w fun e w' => e = .returned (.int .u64 ((sgn (decide (m = 2)) : Nat) : Int)) ∧ Fwd w w' := fun w => (signed3_any (decide (m = 2)) 0 (by omega)).mono fun e w' gg => ⟨gg.1, gg.2 ▸ Fwd.refl _⟩
  have hs : sumN m (p + q) = ofN m (p + q) := by unfold sumN; rw [if_neg hz]
  rw [hs]
  obtain ⟨t, ht, hr⟩ := sm3nTold
  obtain ⟨dl, n', he⟩ := isAV_ok (hr)
  let ν : Nat → Rat := nuL [p, q, p + q] []
  let σ : SymD := symL [.i m, .u (sgn (decide (m = 2))), .u (ofN m (p + q)).1, .i ((ofN m (p + q)).2 : Int), .b (decide (m = 2))]
  have hcx : CxOK (DomQ true ν σ (fun _ => none)) w.heap.size ⟨Tryd.prog, true, t.get, orcD (sm3nD ), (opH (bigHook Tryd.prog true) (opH (symHook Tryd.prog sm3nN (fun _ _ _ => none)) (tabHook (sm3nL ) sm3nM)))⟩ := cxS_ok (M := (DomQ true ν σ (fun _ => none))) ht ⟨[
      orcT 25 [
        { args := [avQ (.v 0), avQ (.v 1)], ans := .v (avQ (.v 2)), ok := by
            intro B ρ w S vs hS hr
            match vs, hr with
            | [u0, u1], ⟨z0, z1, _⟩ =>
              have k0 := avQ_rv z0
              have k1 := avQ_rv z1
              refine (add2_any k0 k1 (by show nr p ≤ _; omega) (by show nr q ≤ _; omega)).mono ?_
              rintro e w' ⟨v, rfl, g0, hf⟩
              exact ⟨_, rfl, (avQ_rel g0), hf⟩ }],
      orcT 61 [
        { args := [avQ (.v 2)], ans := .v (.one (.lit (.bool false))), ok := by
            intro B ρ w S vs hS hr
            match vs, hr with
            | [u0], ⟨z0, _⟩ =>
              have k0 := avQ_rv z0
              refine (cNo _ _ k0).mono ?_
              rintro e w' ⟨rfl, hf⟩
              exact ⟨_, rfl, ⟨rfl, rfl⟩, hf⟩ }],
      orcT 24 [
        { args := [avQ (.v 2), .one (.atom (.sym 0))], ans := .tup [.one (.atom (.sym 2)), .one (.atom (.sym 3))], ok := by
            intro B ρ w S vs hS hr
            match vs, hr with
            | [u0, u1], ⟨z0, z1, _⟩ =>
              have k0 := avQ_rv z0
              obtain ⟨rfl, _⟩ : u1 = _ ∧ _ := z1
              refine (of3_any m k0 bs).mono ?_
              rintro e w' ⟨rfl, hf⟩
              exact ⟨_, rfl, ⟨[_, _], rfl, ⟨rfl, fun _ => trivial⟩, ⟨rfl, fun _ => trivial⟩, trivial⟩, hf⟩ }]], rfl⟩
    (opH_le (bigHook_le _ _) (opH_le (symHook_le _ _ _) (tabHook_le _ _)))
    (opH_ok (bigHook_ok _) (opH_ok (symHook_ok _ (fun h => by cases h) (fun h => by cases h)) (tabHook_ok _ all_nil all_nil)))
  refine (told_call (M := (DomQ true ν σ (fun _ => none))) (cx := ⟨Tryd.prog, true, t.get, orcD (sm3nD ), (opH (bigHook Tryd.prog true) (opH (symHook Tryd.prog sm3nN (fun _ _ _ => none)) (tabHook (sm3nL ) sm3nM)))⟩) (xs := [avQ (.v 0), avQ (.v 1), .one (.atom (.sym 0))]) (vs := [a, b, .int .i64 m]) Tryd.checked.mixed hcx (fun hg => by cases hg) ⟨avQ_rel ha, avQ_rel hb, ⟨rfl, fun _ => trivial⟩, trivial⟩ he).mono ?_
  rintro e w' ⟨v, ρ', rfl, hv, hbel⟩
  obtain ⟨us, rfl, hu⟩ := hv
  match us, hu with
  | [c0, c1], ⟨r0, r1, _⟩ =>
    obtain ⟨rfl, _⟩ : c0 = _ ∧ _ := r0
    obtain ⟨rfl, _⟩ : c1 = _ ∧ _ := r1
    exact ⟨rfl, hbel⟩

theorem sum3_any {w : World} {a b : Value} {p q : Rat} (m : Int) (ha : RV w a p) (hb : RV w b q) (bp : nr p ≤ 100) (bq : nr q ≤ 100) (bs : nr (p + q) ≤ 150) :
    Calls Tryd.prog 70 #[a, b, .int .i64 m] w fun e w' => e = .returned (.tuple #[.int .u64 ((sumN m (p + q)).1 : Nat), .int .i64 ((sumN m (p + q)).2 : Nat)]) ∧ Fwd w w' := by
  by_cases hz : p + q = 0
  · exact sm3z_tab m ha hb bp bq bs hz
  · exact sm3n_tab m ha hb bp bq bs hz

def add3NQD : List (FuncId × Ans) :=
  [(52, ansT [([.one (.atom (.sym 0))], .v (.one (.lit (.bool true))))])]
def add3NQL : BT := []
def add3NQM : BT := []
def add3NQN : At → Option Nat
  | _ => none

set_option maxRecDepth 1000000 in
theorem add3NQTold : ∃ t : Tr Func, TabOK Tryd.prog t ∧ (isAV (.tup [.one (.lit (.int .u64 9221120237041090560)), .one (.lit (.int .i64 (0)))]) (evalCall ⟨Tryd.prog, true, t.get, orcD (add3NQD ), (opH (bigHook Tryd.prog true) (opH (symHook Tryd.prog add3NQN (fun _ _ _ => none)) (tabHook (add3NQL ) add3NQM)))⟩ 1000 27 [.one (.atom (.sym 0)), .one (.atom (.sym 1)), .one (.atom (.sym 2))] .e 0) = true) :=
  ⟨((Tr.e).put 27 (some Tryd.f27)).put 52 (some Tryd.f52),
   (TabOK.put (TabOK.put (TabOK.e _) ⟨Tryd.func27, by decide +kernel, by decide +kernel⟩) ⟨Tryd.func52, by decide +kernel, by decide +kernel⟩),
   by decide +kernel⟩

set_option maxHeartbeats 4000000 in
set_option maxRecDepth 100000 in
theorem add3NQ_tab {w : World} (m : Int) (f g : Nat) (hf : f < 18446744073709551616) (hg : g < 18446744073709551616) (Kf : isNan f = true)  :
    Calls Tryd.prog 27 #[.int .u64 f, .int .u64 g, .int .i64 m] w fun e w' => e = .returned (.tuple #[.int .u64 ((addF m f g).1 : Nat), .int .i64 ((addF m f g).2 : Nat)]) ∧ Below w.heap.size w w' := by
  have cnf : ∀ (w : World), Calls Tryd.prog 52 #[.int .u64 f] w fun e w' => e = .returned (.bool true) ∧ Fwd w w' := fun w => (none3_any f hf).mono fun e w' gg => ⟨by rw [gg.1, show isNan f = true from Kf], gg.2 ▸ Fwd.refl _⟩
  have hval : addF m f g = _ := addF_nan (Or.inl Kf)
  rw [hval]
  obtain ⟨t, ht, hr⟩ := add3NQTold
  obtain ⟨dl, n', he⟩ := isAV_ok (hr)
  let ν : Nat → Rat := nuL [fvQ f, fvQ g] []
  let σ : SymD := symL [.u f, .u g, .i m]
  have hcx : CxOK (DomQ true ν σ (fun _ => none)) w.heap.size ⟨Tryd.prog, true, t.get, orcD (add3NQD ), (opH (bigHook Tryd.prog true) (opH (symHook Tryd.prog add3NQN (fun _ _ _ => none)) (tabHook (add3NQL ) add3NQM)))⟩ := cxS_ok (M := (DomQ true ν σ (fun _ => none))) ht ⟨[
      orcT 52 [
        { args := [.one (.atom (.sym 0))], ans := .v (.one (.lit (.bool true))), ok := by
            intro B ρ w S vs hS hr
            match vs, hr with
            | [u0], ⟨z0, _⟩ =>
              obtain ⟨rfl, _⟩ : u0 = _ ∧ _ := z0
              refine (cnf _).mono ?_
              rintro e w' ⟨rfl, hf⟩
              exact ⟨_, rfl, ⟨rfl, rfl⟩, hf⟩ }]], rfl⟩
    (opH_le (bigHook_le _ _) (opH_le (symHook_le _ _ _) (tabHook_le _ _)))
    (opH_ok (bigHook_ok _) (opH_ok (symHook_ok _ (fun h => by cases h) (fun h => by cases h)) (tabHook_ok _ all_nil all_nil)))
  refine (told_call (M := (DomQ true ν σ (fun _ => none))) (cx := ⟨Tryd.prog, true, t.get, orcD (add3NQD ), (opH (bigHook Tryd.prog true) (opH (symHook Tryd.prog add3NQN (fun _ _ _ => none)) (tabHook (add3NQL ) add3NQM)))⟩) (xs := [.one (.atom (.sym 0)), .one (.atom (.sym 1)), .one (.atom (.sym 2))]) (vs := [.int .u64 f, .int .u64 g, .int .i64 m]) Tryd.checked.mixed hcx (fun hg => by cases hg) ⟨⟨rfl, fun _ => trivial⟩, ⟨rfl, fun _ => trivial⟩, ⟨rfl, fun _ => trivial⟩, trivial⟩ he).mono ?_
  rintro e w' ⟨v, ρ', rfl, hv, hbel⟩
  obtain ⟨us, rfl, hu⟩ := hv
  match us, hu with
  | [c0, c1], ⟨r0, r1, _⟩ =>
    obtain ⟨rfl, _⟩ : c0 = _ ∧ _ := r0
    obtain ⟨rfl, _⟩ : c1 = _ ∧ _ := r1
    exact ⟨rfl, hbel⟩

def add3AND : List (FuncId × Ans) :=
  [(52, ansT [([.one (.atom (.sym 0))], .v (.one (.lit (.bool false)))), ([.one (.atom (.sym 1))], .v (.one (.lit (.bool true))))])]
def add3ANL : BT := []
def add3ANM : BT := []
def add3ANN : At → Option Nat
  | _ => none

set_option maxRecDepth 1000000 in
theorem add3ANTold : ∃ t : Tr Func, TabOK Tryd.prog t ∧ (isAV (.tup [.one (.lit (.int .u64 9221120237041090560)), .one (.lit (.int .i64 (0)))]) (evalCall ⟨Tryd.prog, true, t.get, orcD (add3AND ), (opH (bigHook Tryd.prog true) (opH (symHook Tryd.prog add3ANN (fun _ _ _ => none)) (tabHook (add3ANL ) add3ANM)))⟩ 1000 27 [.one (.atom (.sym 0)), .one (.atom (.sym 1)), .one (.atom (.sym 2))] .e 0) = true) :=
  ⟨((Tr.e).put 27 (some Tryd.f27)).put 52 (some Tryd.f52),
   (TabOK.put (TabOK.put (TabOK.e _) ⟨Tryd.func27, by decide +kernel, by decide +kernel⟩) ⟨Tryd.func52, by decide +kernel, by decide +kernel⟩),
   by decide +kernel⟩

set_option maxHeartbeats 4000000 in
set_option maxRecDepth 100000 in
theorem add3AN_tab {w : World} (m : Int) (f g : Nat) (hf : f < 18446744073709551616) (hg : g < 18446744073709551616) (Kf : isNan f = false) (Kg : isNan g = true) :
    Calls Tryd.prog 27 #[.int .u64 f, .int .u64 g, .int .i64 m] w fun e w' => e = .returned (.tuple #[.int .u64 ((addF m f g).1 : Nat), .int .i64 ((addF m f g).2 : Nat)]) ∧ Below w.heap.size w w' := by
  have cnf : ∀ (w : World), Calls Tryd.prog 52 #[.int .u64 f] w fun e w' => e = .returned (.bool false) ∧ Fwd w w' := fun w => (none3_any f hf).mono fun e w' gg => ⟨by rw [gg.1, show isNan f = false from Kf], gg.2 ▸ Fwd.refl _⟩
  have cng : ∀ (w : World), Calls Tryd.prog 52 #[.int .u64 g] w fun e w' => e = .returned (.bool true) ∧ Fwd w w' := fun w => (none3_any g hg).mono fun e w' gg => ⟨by rw [gg.1, show isNan g = true from Kg], gg.2 ▸ Fwd.refl _⟩
  have hval : addF m f g = _ := addF_nan (Or.inr Kg)
  rw [hval]
  obtain ⟨t, ht, hr⟩ := add3ANTold
  obtain ⟨dl, n', he⟩ := isAV_ok (hr)
  let ν : Nat → Rat := nuL [fvQ f, fvQ g] []
  let σ : SymD := symL [.u f, .u g, .i m]
  have hcx : CxOK (DomQ true ν σ (fun _ => none)) w.heap.size ⟨Tryd.prog, true, t.get, orcD (add3AND ), (opH (bigHook Tryd.prog true) (opH (symHook Tryd.prog add3ANN (fun _ _ _ => none)) (tabHook (add3ANL ) add3ANM)))⟩ := cxS_ok (M := (DomQ true ν σ (fun _ => none))) ht ⟨[
      orcT 52 [
        { args := [.one (.atom (.sym 0))], ans := .v (.one (.lit (.bool false))), ok := by
            intro B ρ w S vs hS hr
            match vs, hr with
            | [u0], ⟨z0, _⟩ =>
              obtain ⟨rfl, _⟩ : u0 = _ ∧ _ := z0
              refine (cnf _).mono ?_
              rintro e w' ⟨rfl, hf⟩
              exact ⟨_, rfl, ⟨rfl, rfl⟩, hf⟩ },
        { args := [.one (.atom (.sym 1))], ans := .v (.one (.lit (.bool true))), ok := by
            intro B ρ w S vs hS hr
            match vs, hr with
            | [u0], ⟨z0, _⟩ =>
              obtain ⟨rfl, _⟩ : u0 = _ ∧ _ := z0
              refine (cng _).mono ?_
              rintro e w' ⟨rfl, hf⟩
              exact ⟨_, rfl, ⟨rfl, rfl⟩, hf⟩ }]], rfl⟩
    (opH_le (bigHook_le _ _) (opH_le (symHook_le _ _ _) (tabHook_le _ _)))
    (opH_ok (bigHook_ok _) (opH_ok (symHook_ok _ (fun h => by cases h) (fun h => by cases h)) (tabHook_ok _ all_nil all_nil)))
  refine (told_call (M := (DomQ true ν σ (fun _ => none))) (cx := ⟨Tryd.prog, true, t.get, orcD (add3AND ), (opH (bigHook Tryd.prog true) (opH (symHook Tryd.prog add3ANN (fun _ _ _ => none)) (tabHook (add3ANL ) add3ANM)))⟩) (xs := [.one (.atom (.sym 0)), .one (.atom (.sym 1)), .one (.atom (.sym 2))]) (vs := [.int .u64 f, .int .u64 g, .int .i64 m]) Tryd.checked.mixed hcx (fun hg => by cases hg) ⟨⟨rfl, fun _ => trivial⟩, ⟨rfl, fun _ => trivial⟩, ⟨rfl, fun _ => trivial⟩, trivial⟩ he).mono ?_
  rintro e w' ⟨v, ρ', rfl, hv, hbel⟩
  obtain ⟨us, rfl, hu⟩ := hv
  match us, hu with
  | [c0, c1], ⟨r0, r1, _⟩ =>
    obtain ⟨rfl, _⟩ : c0 = _ ∧ _ := r0
    obtain ⟨rfl, _⟩ : c1 = _ ∧ _ := r1
    exact ⟨rfl, hbel⟩

def add3IIdD : List (FuncId × Ans) :=
  [(52, ansT [([.one (.atom (.sym 0))], .v (.one (.lit (.bool false)))), ([.one (.atom (.sym 1))], .v (.one (.lit (.bool false))))]),
   (53, ansT [([.one (.atom (.sym 0))], .v (.one (.lit (.bool true)))), ([.one (.atom (.sym 1))], .v (.one (.lit (.bool true))))]),
   (57, ansT [([.one (.atom (.sym 0))], .v (.one (.lit (.bool false)))), ([.one (.atom (.sym 1))], .v (.one (.lit (.bool false))))])]
def add3IIdL : BT := [(.neq, .atom (.sym 0), .atom (.sym 1), .lit (.bool true)), (.eql, .atom (.sym 0), .atom (.sym 1), .lit (.bool false))]
def add3IIdM : BT := []
def add3IIdN : At → Option Nat
  | _ => none

set_option maxRecDepth 1000000 in
theorem add3IIdTold : ∃ t : Tr Func, TabOK Tryd.prog t ∧ (isAV (.tup [.one (.lit (.int .u64 9221120237041090560)), .one (.lit (.int .i64 (16)))]) (evalCall ⟨Tryd.prog, true, t.get, orcD (add3IIdD ), (opH (bigHook Tryd.prog true) (opH (symHook Tryd.prog add3IIdN (fun _ _ _ => none)) (tabHook (add3IIdL ) add3IIdM)))⟩ 1000 27 [.one (.atom (.sym 0)), .one (.atom (.sym 1)), .one (.atom (.sym 2))] .e 0) = true) :=
  ⟨((((Tr.e).put 27 (some Tryd.f27)).put 52 (some Tryd.f52)).put 53 (some Tryd.f53)).put 57 (some Tryd.f57),
   (TabOK.put (TabOK.put (TabOK.put (TabOK.put (TabOK.e _) ⟨Tryd.func27, by decide +kernel, by decide +kernel⟩) ⟨Tryd.func52, by decide +kernel, by decide +kernel⟩) ⟨Tryd.func53, by decide +kernel, by decide +kernel⟩) ⟨Tryd.func57, by decide +kernel, by decide +kernel⟩),
   by decide +kernel⟩

set_option maxHeartbeats 4000000 in
set_option maxRecDepth 100000 in
theorem add3IId_tab {w : World} (m : Int) (f g : Nat) (hf : f < 18446744073709551616) (hg : g < 18446744073709551616) (Kf : fsz f = 9218868437227405312) (Kg : fsz g = 9218868437227405312) (hne : f ≠ g) :
    Calls Tryd.prog 27 #[.int .u64 f, .int .u64 g, .int .i64 m] w fun e w' => e = .returned (.tuple #[.int .u64 ((addF m f g).1 : Nat), .int .i64 ((addF m f g).2 : Nat)]) ∧ Below w.heap.size w w' := by
  have cnf : ∀ (w : World), Calls Tryd.prog 52 #[.int .u64 f] w fun e w' => e = .returned (.bool false) ∧ Fwd w w' := fun w => (none3_any f hf).mono fun e w' gg => ⟨by rw [gg.1, show isNan f = false from isNan_le (by omega)], gg.2 ▸ Fwd.refl _⟩
  have cif : ∀ (w : World), Calls Tryd.prog 53 #[.int .u64 f] w fun e w' => e = .returned (.bool true) ∧ Fwd w w' := fun w => (endless3_any f hf).mono fun e w' gg => ⟨by rw [gg.1, show decide (fsz f = 9218868437227405312) = true from decide_eq_true (by omega)], gg.2 ▸ Fwd.refl _⟩
  have czf : ∀ (w : World), Calls Tryd.prog 57 #[.int .u64 f] w fun e w' => e = .returned (.bool false) ∧ Fwd w w' := fun w => (nought3_any f hf).mono fun e w' gg => ⟨by rw [gg.1, show decide (fsz f = 0) = false from decide_eq_false (by omega)], gg.2 ▸ Fwd.refl _⟩
  have cng : ∀ (w : World), Calls Tryd.prog 52 #[.int .u64 g] w fun e w' => e = .returned (.bool false) ∧ Fwd w w' := fun w => (none3_any g hg).mono fun e w' gg => ⟨by rw [gg.1, show isNan g = false from isNan_le (by omega)], gg.2 ▸ Fwd.refl _⟩
  have cig : ∀ (w : World), Calls Tryd.prog 53 #[.int .u64 g] w fun e w' => e = .returned (.bool true) ∧ Fwd w w' := fun w => (endless3_any g hg).mono fun e w' gg => ⟨by rw [gg.1, show decide (fsz g = 9218868437227405312) = true from decide_eq_true (by omega)], gg.2 ▸ Fwd.refl _⟩
  have czg : ∀ (w : World), Calls Tryd.prog 57 #[.int .u64 g] w fun e w' => e = .returned (.bool false) ∧ Fwd w w' := fun w => (nought3_any g hg).mono fun e w' gg => ⟨by rw [gg.1, show decide (fsz g = 0) = false from decide_eq_false (by omega)], gg.2 ▸ Fwd.refl _⟩
  have hval : addF m f g = _ := addF_two hf hg Kf Kg hne
  rw [hval]
  obtain ⟨t, ht, hr⟩ := add3IIdTold
  obtain ⟨dl, n', he⟩ := isAV_ok (hr)
  let ν : Nat → Rat := nuL [fvQ f, fvQ g] []
  let σ : SymD := symL [.u f, .u g, .i m]
  have hcx : CxOK (DomQ true ν σ (fun _ => none)) w.heap.size ⟨Tryd.prog, true, t.get, orcD (add3IIdD ), (opH (bigHook Tryd.prog true) (opH (symHook Tryd.prog add3IIdN (fun _ _ _ => none)) (tabHook (add3IIdL ) add3IIdM)))⟩ := cxS_ok (M := (DomQ true ν σ (fun _ => none))) ht ⟨[
      orcT 52 [
        { args := [.one (.atom (.sym 0))], ans := .v (.one (.lit (.bool false))), ok := by
            intro B ρ w S vs hS hr
            match vs, hr with
            | [u0], ⟨z0, _⟩ =>
              obtain ⟨rfl, _⟩ : u0 = _ ∧ _ := z0
              refine (cnf _).mono ?_
              rintro e w' ⟨rfl, hf⟩
              exact ⟨_, rfl, ⟨rfl, rfl⟩, hf⟩ },
        { args := [.one (.atom (.sym 1))], ans := .v (.one (.lit (.bool false))), ok := by
            intro B ρ w S vs hS hr
            match vs, hr with
            | [u0], ⟨z0, _⟩ =>
              obtain ⟨rfl, _⟩ : u0 = _ ∧ _ := z0
              refine (cng _).mono ?_
              rintro e w' ⟨rfl, hf⟩
              exact ⟨_, rfl, ⟨rfl, rfl⟩, hf⟩ }],
      orcT 53 [
        { args := [.one (.atom (.sym 0))], ans := .v (.one (.lit (.bool true))), ok := by
            intro B ρ w S vs hS hr
            match vs, hr with
            | [u0], ⟨z0, _⟩ =>
              obtain ⟨rfl, _⟩ : u0 = _ ∧ _ := z0
              refine (cif _).mono ?_
              rintro e w' ⟨rfl, hf⟩
              exact ⟨_, rfl, ⟨rfl, rfl⟩, hf⟩ },
        { args := [.one (.atom (.sym 1))], ans := .v (.one (.lit (.bool true))), ok := by
            intro B ρ w S vs hS hr
            match vs, hr with
            | [u0], ⟨z0, _⟩ =>
              obtain ⟨rfl, _⟩ : u0 = _ ∧ _ := z0
              refine (cig _).mono ?_
              rintro e w' ⟨rfl, hf⟩
              exact ⟨_, rfl, ⟨rfl, rfl⟩, hf⟩ }],
      orcT 57 [
        { args := [.one (.atom (.sym 0))], ans := .v (.one (.lit (.bool false))), ok := by
            intro B ρ w S vs hS hr
            match vs, hr with
            | [u0], ⟨z0, _⟩ =>
              obtain ⟨rfl, _⟩ : u0 = _ ∧ _ := z0
              refine (czf _).mono ?_
              rintro e w' ⟨rfl, hf⟩
              exact ⟨_, rfl, ⟨rfl, rfl⟩, hf⟩ },
        { args := [.one (.atom (.sym 1))], ans := .v (.one (.lit (.bool false))), ok := by
            intro B ρ w S vs hS hr
            match vs, hr with
            | [u0], ⟨z0, _⟩ =>
              obtain ⟨rfl, _⟩ : u0 = _ ∧ _ := z0
              refine (czg _).mono ?_
              rintro e w' ⟨rfl, hf⟩
              exact ⟨_, rfl, ⟨rfl, rfl⟩, hf⟩ }]], rfl⟩
    (opH_le (bigHook_le _ _) (opH_le (symHook_le _ _ _) (tabHook_le _ _)))
    (opH_ok (bigHook_ok _) (opH_ok (symHook_ok _ (fun h => by cases h) (fun h => by cases h)) (tabHook_ok _ (all_cons (BOk.mk rfl rfl rfl (fun _ _ _ => trivial) rfl rfl (bo_neq (by simp; omega))) (all_cons (BOk.mk rfl rfl rfl (fun _ _ _ => trivial) rfl rfl (bo_eql (by simp; omega))) all_nil)) all_nil)))
  refine (told_call (M := (DomQ true ν σ (fun _ => none))) (cx := ⟨Tryd.prog, true, t.get, orcD (add3IIdD ), (opH (bigHook Tryd.prog true) (opH (symHook Tryd.prog add3IIdN (fun _ _ _ => none)) (tabHook (add3IIdL ) add3IIdM)))⟩) (xs := [.one (.atom (.sym 0)), .one (.atom (.sym 1)), .one (.atom (.sym 2))]) (vs := [.int .u64 f, .int .u64 g, .int .i64 m]) Tryd.checked.mixed hcx (fun hg => by cases hg) ⟨⟨rfl, fun _ => trivial⟩, ⟨rfl, fun _ => trivial⟩, ⟨rfl, fun _ => trivial⟩, trivial⟩ he).mono ?_
  rintro e w' ⟨v, ρ', rfl, hv, hbel⟩
  obtain ⟨us, rfl, hu⟩ := hv
  match us, hu with
  | [c0, c1], ⟨r0, r1, _⟩ =>
    obtain ⟨rfl, _⟩ : c0 = _ ∧ _ := r0
    obtain ⟨rfl, _⟩ : c1 = _ ∧ _ := r1
    exact ⟨rfl, hbel⟩

def add3IIeD : List (FuncId × Ans) :=
  [(52, ansT [([.one (.atom (.sym 0))], .v (.one (.lit (.bool false)))), ([.one (.atom (.sym 1))], .v (.one (.lit (.bool false))))]),
   (53, ansT [([.one (.atom (.sym 0))], .v (.one (.lit (.bool true)))), ([.one (.atom (.sym 1))], .v (.one (.lit (.bool true))))]),
   (57, ansT [([.one (.atom (.sym 0))], .v (.one (.lit (.bool false)))), ([.one (.atom (.sym 1))], .v (.one (.lit (.bool false))))])]
def add3IIeL : BT := [(.neq, .atom (.sym 0), .atom (.sym 1), .lit (.bool false)), (.eql, .atom (.sym 0), .atom (.sym 1), .lit (.bool true))]
def add3IIeM : BT := []
def add3IIeN : At → Option Nat
  | _ => none

set_option maxRecDepth 1000000 in
theorem add3IIeTold : ∃ t : Tr Func, TabOK Tryd.prog t ∧ (isAV (.tup [.one (.atom (.sym 0)), .one (.lit (.int .i64 (0)))]) (evalCall ⟨Tryd.prog, true, t.get, orcD (add3IIeD ), (opH (bigHook Tryd.prog true) (opH (symHook Tryd.prog add3IIeN (fun _ _ _ => none)) (tabHook (add3IIeL ) add3IIeM)))⟩ 1000 27 [.one (.atom (.sym 0)), .one (.atom (.sym 1)), .one (.atom (.sym 2))] .e 0) = true) :=
  ⟨((((Tr.e).put 27 (some Tryd.f27)).put 52 (some Tryd.f52)).put 53 (some Tryd.f53)).put 57 (some Tryd.f57),
   (TabOK.put (TabOK.put (TabOK.put (TabOK.put (TabOK.e _) ⟨Tryd.func27, by decide +kernel, by decide +kernel⟩) ⟨Tryd.func52, by decide +kernel, by decide +kernel⟩) ⟨Tryd.func53, by decide +kernel, by decide +kernel⟩) ⟨Tryd.func57, by decide +kernel, by decide +kernel⟩),
   by decide +kernel⟩

set_option maxHeartbeats 4000000 in
set_option maxRecDepth 100000 in
theorem add3IIe_tab {w : World} (m : Int) (f g : Nat) (hf : f < 18446744073709551616) (hg : g < 18446744073709551616) (Kf : fsz f = 9218868437227405312) (Kg : fsz g = 9218868437227405312) (hne : f = g) :
    Calls Tryd.prog 27 #[.int .u64 f, .int .u64 g, .int .i64 m] w fun e w' => e = .returned (.tuple #[.int .u64 ((addF m f g).1 : Nat), .int .i64 ((addF m f g).2 : Nat)]) ∧ Below w.heap.size w w' := by
  have cnf : ∀ (w : World), Calls Tryd.prog 52 #[.int .u64 f] w fun e w' => e = .returned (.bool false) ∧ Fwd w w' := fun w => (none3_any f hf).mono fun e w' gg => ⟨by rw [gg.1, show isNan f = false from isNan_le (by omega)], gg.2 ▸ Fwd.refl _⟩
  have cif : ∀ (w : World), Calls Tryd.prog 53 #[.int .u64 f] w fun e w' => e = .returned (.bool true) ∧ Fwd w w' := fun w => (endless3_any f hf).mono fun e w' gg => ⟨by rw [gg.1, show decide (fsz f = 9218868437227405312) = true from decide_eq_true (by omega)], gg.2 ▸ Fwd.refl _⟩
  have czf : ∀ (w : World), Calls Tryd.prog 57 #[.int .u64 f] w fun e w' => e = .returned (.bool false) ∧ Fwd w w' := fun w => (nought3_any f hf).mono fun e w' gg => ⟨by rw [gg.1, show decide (fsz f = 0) = false from decide_eq_false (by omega)], gg.2 ▸ Fwd.refl _⟩
  have cng : ∀ (w : World), Calls Tryd.prog 52 #[.int .u64 g] w fun e w' => e = .returned (.bool false) ∧ Fwd w w' := fun w => (none3_any g hg).mono fun e w' gg => ⟨by rw [gg.1, show isNan g = false from isNan_le (by omega)], gg.2 ▸ Fwd.refl _⟩
  have cig : ∀ (w : World), Calls Tryd.prog 53 #[.int .u64 g] w fun e w' => e = .returned (.bool true) ∧ Fwd w w' := fun w => (endless3_any g hg).mono fun e w' gg => ⟨by rw [gg.1, show decide (fsz g = 9218868437227405312) = true from decide_eq_true (by omega)], gg.2 ▸ Fwd.refl _⟩
  have czg : ∀ (w : World), Calls Tryd.prog 57 #[.int .u64 g] w fun e w' => e = .returned (.bool false) ∧ Fwd w w' := fun w => (nought3_any g hg).mono fun e w' gg => ⟨by rw [gg.1, show decide (fsz g = 0) = false from decide_eq_false (by omega)], gg.2 ▸ Fwd.refl _⟩
  have hval : addF m f g = _ := addF_inf hf hg Kf (by omega) (by rintro ⟨a, b⟩; exact b hne)
  rw [hval]
  obtain ⟨t, ht, hr⟩ := add3IIeTold
  obtain ⟨dl, n', he⟩ := isAV_ok (hr)
  let ν : Nat → Rat := nuL [fvQ f, fvQ g] []
  let σ : SymD := symL [.u f, .u g, .i m]
  have hcx : CxOK (DomQ true ν σ (fun _ => none)) w.heap.size ⟨Tryd.prog, true, t.get, orcD (add3IIeD ), (opH (bigHook Tryd.prog true) (opH (symHook Tryd.prog add3IIeN (fun _ _ _ => none)) (tabHook (add3IIeL ) add3IIeM)))⟩ := cxS_ok (M := (DomQ true ν σ (fun _ => none))) ht ⟨[
      orcT 52 [
        { args := [.one (.atom (.sym 0))], ans := .v (.one (.lit (.bool false))), ok := by
            intro B ρ w S vs hS hr
            match vs, hr with
            | [u0], ⟨z0, _⟩ =>
              obtain ⟨rfl, _⟩ : u0 = _ ∧ _ := z0
              refine (cnf _).mono ?_
              rintro e w' ⟨rfl, hf⟩
              exact ⟨_, rfl, ⟨rfl, rfl⟩, hf⟩ },
        { args := [.one (.atom (.sym 1))], ans := .v (.one (.lit (.bool false))), ok := by
            intro B ρ w S vs hS hr
            match vs, hr with
            | [u0], ⟨z0, _⟩ =>
              obtain ⟨rfl, _⟩ : u0 = _ ∧ _ := z0
              refine (cng _).mono ?_
              rintro e w' ⟨rfl, hf⟩
              exact ⟨_, rfl, ⟨rfl, rfl⟩, hf⟩ }],
      orcT 53 [
        { args := [.one (.atom (.sym 0))], ans := .v (.one (.lit (.bool true))), ok := by
            intro B ρ w S vs hS hr
            match vs, hr with
            | [u0], ⟨z0, _⟩ =>
              obtain ⟨rfl, _⟩ : u0 = _ ∧ _ := z0
              refine (cif _).mono ?_
              rintro e w' ⟨rfl, hf⟩
              exact ⟨_, rfl, ⟨rfl, rfl⟩, hf⟩ },
        { args := [.one (.atom (.sym 1))], ans := .v (.one (.lit (.bool true))), ok := by
            intro B ρ w S vs hS hr
            match vs, hr with
            | [u0], ⟨z0, _⟩ =>
              obtain ⟨rfl, _⟩ : u0 = _ ∧ _ := z0
              refine (cig _).mono ?_
              rintro e w' ⟨rfl, hf⟩
              exact ⟨_, rfl, ⟨rfl, rfl⟩, hf⟩ }],
      orcT 57 [
        { args := [.one (.atom (.sym 0))], ans := .v (.one (.lit (.bool false))), ok := by
            intro B ρ w S vs hS hr
            match vs, hr with
            | [u0], ⟨z0, _⟩ =>
              obtain ⟨rfl, _⟩ : u0 = _ ∧ _ := z0
              refine (czf _).mono ?_
              rintro e w' ⟨rfl, hf⟩
              exact ⟨_, rfl, ⟨rfl, rfl⟩, hf⟩ },
        { args := [.one (.atom (.sym 1))], ans := .v (.one (.lit (.bool false))), ok := by
            intro B ρ w S vs hS hr
            match vs, hr with
            | [u0], ⟨z0, _⟩ =>
              obtain ⟨rfl, _⟩ : u0 = _ ∧ _ := z0
              refine (czg _).mono ?_
              rintro e w' ⟨rfl, hf⟩
              exact ⟨_, rfl, ⟨rfl, rfl⟩, hf⟩ }]], rfl⟩
    (opH_le (bigHook_le _ _) (opH_le (symHook_le _ _ _) (tabHook_le _ _)))
    (opH_ok (bigHook_ok _) (opH_ok (symHook_ok _ (fun h => by cases h) (fun h => by cases h)) (tabHook_ok _ (all_cons (BOk.mk rfl rfl rfl (fun _ _ _ => trivial) rfl rfl (bo_neq (by simp; omega))) (all_cons (BOk.mk rfl rfl rfl (fun _ _ _ => trivial) rfl rfl (bo_eql (by simp; omega))) all_nil)) all_nil)))
  refine (told_call (M := (DomQ true ν σ (fun _ => none))) (cx := ⟨Tryd.prog, true, t.get, orcD (add3IIeD ), (opH (bigHook Tryd.prog true) (opH (symHook Tryd.prog add3IIeN (fun _ _ _ => none)) (tabHook (add3IIeL ) add3IIeM)))⟩) (xs := [.one (.atom (.sym 0)), .one (.atom (.sym 1)), .one (.atom (.sym 2))]) (vs := [.int .u64 f, .int .u64 g, .int .i64 m]) Tryd.checked.mixed hcx (fun hg => by cases hg) ⟨⟨rfl, fun _ => trivial⟩, ⟨rfl, fun _ => trivial⟩, ⟨rfl, fun _ => trivial⟩, trivial⟩ he).mono ?_
  rintro e w' ⟨v, ρ', rfl, hv, hbel⟩
  obtain ⟨us, rfl, hu⟩ := hv
  match us, hu with
  | [c0, c1], ⟨r0, r1, _⟩ =>
    obtain ⟨rfl, _⟩ : c0 = _ ∧ _ := r0
    obtain ⟨rfl, _⟩ : c1 = _ ∧ _ := r1
    exact ⟨rfl, hbel⟩

def add3IZD : List (FuncId × Ans) :=
  [(52, ansT [([.one (.atom (.sym 0))], .v (.one (.lit (.bool false)))), ([.one (.atom (.sym 1))], .v (.one (.lit (.bool false))))]),
   (53, ansT [([.one (.atom (.sym 0))], .v (.one (.lit (.bool true)))), ([.one (.atom (.sym 1))], .v (.one (.lit (.bool false))))]),
   (57, ansT [([.one (.atom (.sym 0))], .v (.one (.lit (.bool false)))), ([.one (.atom (.sym 1))], .v (.one (.lit (.bool true))))])]
def add3IZL : BT := []
def add3IZM : BT := []
def add3IZN : At → Option Nat
  | _ => none

set_option maxRecDepth 1000000 in
theorem add3IZTold : ∃ t : Tr Func, TabOK Tryd.prog t ∧ (isAV (.tup [.one (.atom (.sym 0)), .one (.lit (.int .i64 (0)))]) (evalCall ⟨Tryd.prog, true, t.get, orcD (add3IZD ), (opH (bigHook Tryd.prog true) (opH (symHook Tryd.prog add3IZN (fun _ _ _ => none)) (tabHook (add3IZL ) add3IZM)))⟩ 1000 27 [.one (.atom (.sym 0)), .one (.atom (.sym 1)), .one (.atom (.sym 2))] .e 0) = true) :=
  ⟨((((Tr.e).put 27 (some Tryd.f27)).put 52 (some Tryd.f52)).put 53 (some Tryd.f53)).put 57 (some Tryd.f57),
   (TabOK.put (TabOK.put (TabOK.put (TabOK.put (TabOK.e _) ⟨Tryd.func27, by decide +kernel, by decide +kernel⟩) ⟨Tryd.func52, by decide +kernel, by decide +kernel⟩) ⟨Tryd.func53, by decide +kernel, by decide +kernel⟩) ⟨Tryd.func57, by decide +kernel, by decide +kernel⟩),
   by decide +kernel⟩

set_option maxHeartbeats 4000000 in
set_option maxRecDepth 100000 in
theorem add3IZ_tab {w : World} (m : Int) (f g : Nat) (hf : f < 18446744073709551616) (hg : g < 18446744073709551616) (Kf : fsz f = 9218868437227405312) (Kg : fsz g = 0) :
    Calls Tryd.prog 27 #[.int .u64 f, .int .u64 g, .int .i64 m] w fun e w' => e = .returned (.tuple #[.int .u64 ((addF m f g).1 : Nat), .int .i64 ((addF m f g).2 : Nat)]) ∧ Below w.heap.size w w' := by
  have cnf : ∀ (w : World), Calls Tryd.prog 52 #[.int .u64 f] w fun e w' => e = .returned (.bool false) ∧ Fwd w w' := fun w => (none3_any f hf).mono fun e w' gg => ⟨by rw [gg.1, show isNan f = false from isNan_le (by omega)], gg.2 ▸ Fwd.refl _⟩
  have cif : ∀ (w : World), Calls Tryd.prog 53 #[.int .u64 f] w fun e w' => e = .returned (.bool true) ∧ Fwd w w' := fun w => (endless3_any f hf).mono fun e w' gg => ⟨by rw [gg.1, show decide (fsz f = 9218868437227405312) = true from decide_eq_true (by omega)], gg.2 ▸ Fwd.refl _⟩
  have czf : ∀ (w : World), Calls Tryd.prog 57 #[.int .u64 f] w fun e w' => e = .returned (.bool false) ∧ Fwd w w' := fun w => (nought3_any f hf).mono fun e w' gg => ⟨by rw [gg.1, show decide (fsz f = 0) = false from decide_eq_false (by omega)], gg.2 ▸ Fwd.refl _⟩
  have cng : ∀ (w : World), Calls Tryd.prog 52 #[.int .u64 g] w fun e w' => e = .returned (.bool false) ∧ Fwd w w' := fun w => (none3_any g hg).mono fun e w' gg => ⟨by rw [gg.1, show isNan g = false from isNan_le (by omega)], gg.2 ▸ Fwd.refl _⟩
  have cig : ∀ (w : World), Calls Tryd.prog 53 #[.int .u64 g] w fun e w' => e = .returned (.bool false) ∧ Fwd w w' := fun w => (endless3_any g hg).mono fun e w' gg => ⟨by rw [gg.1, show decide (fsz g = 9218868437227405312) = false from decide_eq_false (by omega)], gg.2 ▸ Fwd.refl _⟩
  have czg : ∀ (w : World), Calls Tryd.prog 57 #[.int .u64 g] w fun e w' => e = .returned (.bool true) ∧ Fwd w w' := fun w => (nought3_any g hg).mono fun e w' gg => ⟨by rw [gg.1, show decide (fsz g = 0) = true from decide_eq_true (by omega)], gg.2 ▸ Fwd.refl _⟩
  have hval : addF m f g = _ := addF_inf hf hg Kf (by omega) (by rintro ⟨a, b⟩; omega)
  rw [hval]
  obtain ⟨t, ht, hr⟩ := add3IZTold
  obtain ⟨dl, n', he⟩ := isAV_ok (hr)
  let ν : Nat → Rat := nuL [fvQ f, fvQ g] []
  let σ : SymD := symL [.u f, .u g, .i m]
  have hcx : CxOK (DomQ true ν σ (fun _ => none)) w.heap.size ⟨Tryd.prog, true, t.get, orcD (add3IZD ), (opH (bigHook Tryd.prog true) (opH (symHook Tryd.prog add3IZN (fun _ _ _ => none)) (tabHook (add3IZL ) add3IZM)))⟩ := cxS_ok (M := (DomQ true ν σ (fun _ => none))) ht ⟨[
      orcT 52 [
        { args := [.one (.atom (.sym 0))], ans := .v (.one (.lit (.bool false))), ok := by
            intro B ρ w S vs hS hr
            match vs, hr with
            | [u0], ⟨z0, _⟩ =>
              obtain ⟨rfl, _⟩ : u0 = _ ∧ _ := z0
              refine (cnf _).mono ?_
              rintro e w' ⟨rfl, hf⟩
              exact ⟨_, rfl, ⟨rfl, rfl⟩, hf⟩ },
        { args := [.one (.atom (.sym 1))], ans := .v (.one (.lit (.bool false))), ok := by
            intro B ρ w S vs hS hr
            match vs, hr with
            | [u0], ⟨z0, _⟩ =>
              obtain ⟨rfl, _⟩ : u0 = _ ∧ _ := z0
              refine (cng _).mono ?_
              rintro e w' ⟨rfl, hf⟩
              exact ⟨_, rfl, ⟨rfl, rfl⟩, hf⟩ }],
      orcT 53 [
        { args := [.one (.atom (.sym 0))], ans := .v (.one (.lit (.bool true))), ok := by
            intro B ρ w S vs hS hr
            match vs, hr with
            | [u0], ⟨z0, _⟩ =>
              obtain ⟨rfl, _⟩ : u0 = _ ∧ _ := z0
              refine (cif _).mono ?_
              rintro e w' ⟨rfl, hf⟩
              exact ⟨_, rfl, ⟨rfl, rfl⟩, hf⟩ },
        { args := [.one (.atom (.sym 1))], ans := .v (.one (.lit (.bool false))), ok := by
            intro B ρ w S vs hS hr
            match vs, hr with
            | [u0], ⟨z0, _⟩ =>
              obtain ⟨rfl, _⟩ : u0 = _ ∧ _ := z0
              refine (cig _).mono ?_
              rintro e w' ⟨rfl, hf⟩
              exact ⟨_, rfl, ⟨rfl, rfl⟩, hf⟩ }],
      orcT 57 [
        { args := [.one (.atom (.sym 0))], ans := .v (.one (.lit (.bool false))), ok := by
            intro B ρ w S vs hS hr
            match vs, hr with
            | [u0], ⟨z0, _⟩ =>
              obtain ⟨rfl, _⟩ : u0 = _ ∧ _ := z0
              refine (czf _).mono ?_
              rintro e w' ⟨rfl, hf⟩
              exact ⟨_, rfl, ⟨rfl, rfl⟩, hf⟩ },
        { args := [.one (.atom (.sym 1))], ans := .v (.one (.lit (.bool true))), ok := by
            intro B ρ w S vs hS hr
            match vs, hr with
            | [u0], ⟨z0, _⟩ =>
              obtain ⟨rfl, _⟩ : u0 = _ ∧ _ := z0
              refine (czg _).mono ?_
              rintro e w' ⟨rfl, hf⟩
              exact ⟨_, rfl, ⟨rfl, rfl⟩, hf⟩ }]], rfl⟩
    (opH_le (bigHook_le _ _) (opH_le (symHook_le _ _ _) (tabHook_le _ _)))
    (opH_ok (bigHook_ok _) (opH_ok (symHook_ok _ (fun h => by cases h) (fun h => by cases h)) (tabHook_ok _ all_nil all_nil)))
  refine (told_call (M := (DomQ true ν σ (fun _ => none))) (cx := ⟨Tryd.prog, true, t.get, orcD (add3IZD ), (opH (bigHook Tryd.prog true) (opH (symHook Tryd.prog add3IZN (fun _ _ _ => none)) (tabHook (add3IZL ) add3IZM)))⟩) (xs := [.one (.atom (.sym 0)), .one (.atom (.sym 1)), .one (.atom (.sym 2))]) (vs := [.int .u64 f, .int .u64 g, .int .i64 m]) Tryd.checked.mixed hcx (fun hg => by cases hg) ⟨⟨rfl, fun _ => trivial⟩, ⟨rfl, fun _ => trivial⟩, ⟨rfl, fun _ => trivial⟩, trivial⟩ he).mono ?_
  rintro e w' ⟨v, ρ', rfl, hv, hbel⟩
  obtain ⟨us, rfl, hu⟩ := hv
  match us, hu with
  | [c0, c1], ⟨r0, r1, _⟩ =>
    obtain ⟨rfl, _⟩ : c0 = _ ∧ _ := r0
    obtain ⟨rfl, _⟩ : c1 = _ ∧ _ := r1
    exact ⟨rfl, hbel⟩

def add3IFD : List (FuncId × Ans) :=
  [(52, ansT [([.one (.atom (.sym 0))], .v (.one (.lit (.bool false)))), ([.one (.atom (.sym 1))], .v (.one (.lit (.bool false))))]),
   (53, ansT [([.one (.atom (.sym 0))], .v (.one (.lit (.bool true)))), ([.one (.atom (.sym 1))], .v (.one (.lit (.bool false))))]),
   (57, ansT [([.one (.atom (.sym 0))], .v (.one (.lit (.bool false)))), ([.one (.atom (.sym 1))], .v (.one (.lit (.bool false))))])]
def add3IFL : BT := []
def add3IFM : BT := []
def add3IFN : At → Option Nat
  | _ => none

set_option maxRecDepth 1000000 in
theorem add3IFTold : ∃ t : Tr Func, TabOK Tryd.prog t ∧ (isAV (.tup [.one (.atom (.sym 0)), .one (.lit (.int .i64 (0)))]) (evalCall ⟨Tryd.prog, true, t.get, orcD (add3IFD ), (opH (bigHook Tryd.prog true) (opH (symHook Tryd.prog add3IFN (fun _ _ _ => none)) (tabHook (add3IFL ) add3IFM)))⟩ 1000 27 [.one (.atom (.sym 0)), .one (.atom (.sym 1)), .one (.atom (.sym 2))] .e 0) = true) :=
  ⟨((((Tr.e).put 27 (some Tryd.f27)).put 52 (some Tryd.f52)).put 53 (some Tryd.f53)).put 57 (some Tryd.f57),
   (TabOK.put (TabOK.put (TabOK.put (TabOK.put (TabOK.e _) ⟨Tryd.func27, by decide +kernel, by decide +kernel⟩) ⟨Tryd.func52, by decide +kernel, by decide +kernel⟩) ⟨Tryd.func53, by decide +kernel, by decide +kernel⟩) ⟨Tryd.func57, by decide +kernel, by decide +kernel⟩),
   by decide +kernel⟩

set_option maxHeartbeats 4000000 in
set_option maxRecDepth 100000 in
theorem add3IF_tab {w : World} (m : Int) (f g : Nat) (hf : f < 18446744073709551616) (hg : g < 18446744073709551616) (Kf : fsz f = 9218868437227405312) (Kg : fsz g ≠ 0) (Lg : fsz g < 9218868437227405312) :
    Calls Tryd.prog 27 #[.int .u64 f, .int .u64 g, .int .i64 m] w fun e w' => e = .returned (.tuple #[.int .u64 ((addF m f g).1 : Nat), .int .i64 ((addF m f g).2 : Nat)]) ∧ Below w.heap.size w w' := by
  have cnf : ∀ (w : World), Calls Tryd.prog 52 #[.int .u64 f] w fun e w' => e = .returned (.bool false) ∧ Fwd w w' := fun w => (none3_any f hf).mono fun e w' gg => ⟨by rw [gg.1, show isNan f = false from isNan_le (by omega)], gg.2 ▸ Fwd.refl _⟩
  have cif : ∀ (w : World), Calls Tryd.prog 53 #[.int .u64 f] w fun e w' => e = .returned (.bool true) ∧ Fwd w w' := fun w => (endless3_any f hf).mono fun e w' gg => ⟨by rw [gg.1, show decide (fsz f = 9218868437227405312) = true from decide_eq_true (by omega)], gg.2 ▸ Fwd.refl _⟩
  have czf : ∀ (w : World), Calls Tryd.prog 57 #[.int .u64 f] w fun e w' => e = .returned (.bool false) ∧ Fwd w w' := fun w => (nought3_any f hf).mono fun e w' gg => ⟨by rw [gg.1, show decide (fsz f = 0) = false from decide_eq_false (by omega)], gg.2 ▸ Fwd.refl _⟩
  have cng : ∀ (w : World), Calls Tryd.prog 52 #[.int .u64 g] w fun e w' => e = .returned (.bool false) ∧ Fwd w w' := fun w => (none3_any g hg).mono fun e w' gg => ⟨by rw [gg.1, show isNan g = false from isNan_le (by omega)], gg.2 ▸ Fwd.refl _⟩
  have cig : ∀ (w : World), Calls Tryd.prog 53 #[.int .u64 g] w fun e w' => e = .returned (.bool false) ∧ Fwd w w' := fun w => (endless3_any g hg).mono fun e w' gg => ⟨by rw [gg.1, show decide (fsz g = 9218868437227405312) = false from decide_eq_false (by omega)], gg.2 ▸ Fwd.refl _⟩
  have czg : ∀ (w : World), Calls Tryd.prog 57 #[.int .u64 g] w fun e w' => e = .returned (.bool false) ∧ Fwd w w' := fun w => (nought3_any g hg).mono fun e w' gg => ⟨by rw [gg.1, show decide (fsz g = 0) = false from decide_eq_false (by omega)], gg.2 ▸ Fwd.refl _⟩
  have hval : addF m f g = _ := addF_inf hf hg Kf (by omega) (by rintro ⟨a, b⟩; omega)
  rw [hval]
  obtain ⟨t, ht, hr⟩ := add3IFTold
  obtain ⟨dl, n', he⟩ := isAV_ok (hr)
  let ν : Nat → Rat := nuL [fvQ f, fvQ g] []
  let σ : SymD := symL [.u f, .u g, .i m]
  have hcx : CxOK (DomQ true ν σ (fun _ => none)) w.heap.size ⟨Tryd.prog, true, t.get, orcD (add3IFD ), (opH (bigHook Tryd.prog true) (opH (symHook Tryd.prog add3IFN (fun _ _ _ => none)) (tabHook (add3IFL ) add3IFM)))⟩ := cxS_ok (M := (DomQ true ν σ (fun _ => none))) ht ⟨[
      orcT 52 [
        { args := [.one (.atom (.sym 0))], ans := .v (.one (.lit (.bool false))), ok := by
            intro B ρ w S vs hS hr
            match vs, hr with
            | [u0], ⟨z0, _⟩ =>
              obtain ⟨rfl, _⟩ : u0 = _ ∧ _ := z0
              refine (cnf _).mono ?_
              rintro e w' ⟨rfl, hf⟩
              exact ⟨_, rfl, ⟨rfl, rfl⟩, hf⟩ },
        { args := [.one (.atom (.sym 1))], ans := .v (.one (.lit (.bool false))), ok := by
            intro B ρ w S vs hS hr
            match vs, hr with
            | [u0], ⟨z0, _⟩ =>
              obtain ⟨rfl, _⟩ : u0 = _ ∧ _ := z0
              refine (cng _).mono ?_
              rintro e w' ⟨rfl, hf⟩
              exact ⟨_, rfl, ⟨rfl, rfl⟩, hf⟩ }],
      orcT 53 [
        { args := [.one (.atom (.sym 0))], ans := .v (.one (.lit (.bool true))), ok := by
            intro B ρ w S vs hS hr
            match vs, hr with
            | [u0], ⟨z0, _⟩ =>
              obtain ⟨rfl, _⟩ : u0 = _ ∧ _ := z0
              refine (cif _).mono ?_
              rintro e w' ⟨rfl, hf⟩
              exact ⟨_, rfl, ⟨rfl, rfl⟩, hf⟩ },
        { args := [.one (.atom (.sym 1))], ans := .v (.one (.lit (.bool false))), ok := by
            intro B ρ w S vs hS hr
            match vs, hr with
            | [u0], ⟨z0, _⟩ =>
              obtain ⟨rfl, _⟩ : u0 = _ ∧ _ := z0
              refine (cig _).mono ?_
              rintro e w' ⟨rfl, hf⟩
              exact ⟨_, rfl, ⟨rfl, rfl⟩, hf⟩ }],
      orcT 57 [
        { args := [.one (.atom (.sym 0))], ans := .v (.one (.lit (.bool false))), ok := by
            intro B ρ w S vs hS hr
            match vs, hr with
            | [u0], ⟨z0, _⟩ =>
              obtain ⟨rfl, _⟩ : u0 = _ ∧ _ := z0
              refine (czf _).mono ?_
              rintro e w' ⟨rfl, hf⟩
              exact ⟨_, rfl, ⟨rfl, rfl⟩, hf⟩ },
        { args := [.one (.atom (.sym 1))], ans := .v (.one (.lit (.bool false))), ok := by
            intro B ρ w S vs hS hr
            match vs, hr with
            | [u0], ⟨z0, _⟩ =>
              obtain ⟨rfl, _⟩ : u0 = _ ∧ _ := z0
              refine (czg _).mono ?_
              rintro e w' ⟨rfl, hf⟩
              exact ⟨_, rfl, ⟨rfl, rfl⟩, hf⟩ }]], rfl⟩
    (opH_le (bigHook_le _ _) (opH_le (symHook_le _ _ _) (tabHook_le _ _)))
    (opH_ok (bigHook_ok _) (opH_ok (symHook_ok _ (fun h => by cases h) (fun h => by cases h)) (tabHook_ok _ all_nil all_nil)))
  refine (told_call (M := (DomQ true ν σ (fun _ => none))) (cx := ⟨Tryd.prog, true, t.get, orcD (add3IFD ), (opH (bigHook Tryd.prog true) (opH (symHook Tryd.prog add3IFN (fun _ _ _ => none)) (tabHook (add3IFL ) add3IFM)))⟩) (xs := [.one (.atom (.sym 0)), .one (.atom (.sym 1)), .one (.atom (.sym 2))]) (vs := [.int .u64 f, .int .u64 g, .int .i64 m]) Tryd.checked.mixed hcx (fun hg => by cases hg) ⟨⟨rfl, fun _ => trivial⟩, ⟨rfl, fun _ => trivial⟩, ⟨rfl, fun _ => trivial⟩, trivial⟩ he).mono ?_
  rintro e w' ⟨v, ρ', rfl, hv, hbel⟩
  obtain ⟨us, rfl, hu⟩ := hv
  match us, hu with
  | [c0, c1], ⟨r0, r1, _⟩ =>
    obtain ⟨rfl, _⟩ : c0 = _ ∧ _ := r0
    obtain ⟨rfl, _⟩ : c1 = _ ∧ _ := r1
    exact ⟨rfl, hbel⟩

def add3ZID : List (FuncId × Ans) :=
  [(52, ansT [([.one (.atom (.sym 0))], .v (.one (.lit (.bool false)))), ([.one (.atom (.sym 1))], .v (.one (.lit (.bool false))))]),
   (53, ansT [([.one (.atom (.sym 0))], .v (.one (.lit (.bool false)))), ([.one (.atom (.sym 1))], .v (.one (.lit (.bool true))))]),
   (57, ansT [([.one (.atom (.sym 0))], .v (.one (.lit (.bool true)))), ([.one (.atom (.sym 1))], .v (.one (.lit (.bool false))))])]
def add3ZIL : BT := []
def add3ZIM : BT := []
def add3ZIN : At → Option Nat
  | _ => none

set_option maxRecDepth 1000000 in
theorem add3ZITold : ∃ t : Tr Func, TabOK Tryd.prog t ∧ (isAV (.tup [.one (.atom (.sym 1)), .one (.lit (.int .i64 (0)))]) (evalCall ⟨Tryd.prog, true, t.get, orcD (add3ZID ), (opH (bigHook Tryd.prog true) (opH (symHook Tryd.prog add3ZIN (fun _ _ _ => none)) (tabHook (add3ZIL ) add3ZIM)))⟩ 1000 27 [.one (.atom (.sym 0)), .one (.atom (.sym 1)), .one (.atom (.sym 2))] .e 0) = true) :=
  ⟨((((Tr.e).put 27 (some Tryd.f27)).put 52 (some Tryd.f52)).put 53 (some Tryd.f53)).put 57 (some Tryd.f57),
   (TabOK.put (TabOK.put (TabOK.put (TabOK.put (TabOK.e _) ⟨Tryd.func27, by decide +kernel, by decide +kernel⟩) ⟨Tryd.func52, by decide +kernel, by decide +kernel⟩) ⟨Tryd.func53, by decide +kernel, by decide +kernel⟩) ⟨Tryd.func57, by decide +kernel, by decide +kernel⟩),
   by decide +kernel⟩

set_option maxHeartbeats 4000000 in
set_option maxRecDepth 100000 in
theorem add3ZI_tab {w : World} (m : Int) (f g : Nat) (hf : f < 18446744073709551616) (hg : g < 18446744073709551616) (Kf : fsz f = 0) (Kg : fsz g = 9218868437227405312) :
    Calls Tryd.prog 27 #[.int .u64 f, .int .u64 g, .int .i64 m] w fun e w' => e = .returned (.tuple #[.int .u64 ((addF m f g).1 : Nat), .int .i64 ((addF m f g).2 : Nat)]) ∧ Below w.heap.size w w' := by
  have cnf : ∀ (w : World), Calls Tryd.prog 52 #[.int .u64 f] w fun e w' => e = .returned (.bool false) ∧ Fwd w w' := fun w => (none3_any f hf).mono fun e w' gg => ⟨by rw [gg.1, show isNan f = false from isNan_le (by omega)], gg.2 ▸ Fwd.refl _⟩
  have cif : ∀ (w : World), Calls Tryd.prog 53 #[.int .u64 f] w fun e w' => e = .returned (.bool false) ∧ Fwd w w' := fun w => (endless3_any f hf).mono fun e w' gg => ⟨by rw [gg.1, show decide (fsz f = 9218868437227405312) = false from decide_eq_false (by omega)], gg.2 ▸ Fwd.refl _⟩
  have czf : ∀ (w : World), Calls Tryd.prog 57 #[.int .u64 f] w fun e w' => e = .returned (.bool true) ∧ Fwd w w' := fun w => (nought3_any f hf).mono fun e w' gg => ⟨by rw [gg.1, show decide (fsz f = 0) = true from decide_eq_true (by omega)], gg.2 ▸ Fwd.refl _⟩
  have cng : ∀ (w : World), Calls Tryd.prog 52 #[.int .u64 g] w fun e w' => e = .returned (.bool false) ∧ Fwd w w' := fun w => (none3_any g hg).mono fun e w' gg => ⟨by rw [gg.1, show isNan g = false from isNan_le (by omega)], gg.2 ▸ Fwd.refl _⟩
  have cig : ∀ (w : World), Calls Tryd.prog 53 #[.int .u64 g] w fun e w' => e = .returned (.bool true) ∧ Fwd w w' := fun w => (endless3_any g hg).mono fun e w' gg => ⟨by rw [gg.1, show decide (fsz g = 9218868437227405312) = true from decide_eq_true (by omega)], gg.2 ▸ Fwd.refl _⟩
  have czg : ∀ (w : World), Calls Tryd.prog 57 #[.int .u64 g] w fun e w' => e = .returned (.bool false) ∧ Fwd w w' := fun w => (nought3_any g hg).mono fun e w' gg => ⟨by rw [gg.1, show decide (fsz g = 0) = false from decide_eq_false (by omega)], gg.2 ▸ Fwd.refl _⟩
  have hval : addF m f g = _ := (addF_comm m f g).trans (addF_inf hg hf Kg (by omega) (by rintro ⟨a, b⟩; omega))
  rw [hval]
  obtain ⟨t, ht, hr⟩ := add3ZITold
  obtain ⟨dl, n', he⟩ := isAV_ok (hr)
  let ν : Nat → Rat := nuL [fvQ f, fvQ g] []
  let σ : SymD := symL [.u f, .u g, .i m]
  have hcx : CxOK (DomQ true ν σ (fun _ => none)) w.heap.size ⟨Tryd.prog, true, t.get, orcD (add3ZID ), (opH (bigHook Tryd.prog true) (opH (symHook Tryd.prog add3ZIN (fun _ _ _ => none)) (tabHook (add3ZIL ) add3ZIM)))⟩ := cxS_ok (M := (DomQ true ν σ (fun _ => none))) ht ⟨[
      orcT 52 [
        { args := [.one (.atom (.sym 0))], ans := .v (.one (.lit (.bool false))), ok := by
            intro B ρ w S vs hS hr
            match vs, hr with
            | [u0], ⟨z0, _⟩ =>
              obtain ⟨rfl, _⟩ : u0 = _ ∧ _ := z0
              refine (cnf _).mono ?_
              rintro e w' ⟨rfl, hf⟩
              exact ⟨_, rfl, ⟨rfl, rfl⟩, hf⟩ },
        { args := [.one (.atom (.sym 1))], ans := .v (.one (.lit (.bool false))), ok := by
            intro B ρ w S vs hS hr
            match vs, hr with
            | [u0], ⟨z0, _⟩ =>
              obtain ⟨rfl, _⟩ : u0 = _ ∧ _ := z0
              refine (cng _).mono ?_
              rintro e w' ⟨rfl, hf⟩
              exact ⟨_, rfl, ⟨rfl, rfl⟩, hf⟩ }],
      orcT 53 [
        { args := [.one (.atom (.sym 0))], ans := .v (.one (.lit (.bool false))), ok := by
            intro B ρ w S vs hS hr
            match vs, hr with
            | [u0], ⟨z0, _⟩ =>
              obtain ⟨rfl, _⟩ : u0 = _ ∧ _ := z0
              refine (cif _).mono ?_
              rintro e w' ⟨rfl, hf⟩
              exact ⟨_, rfl, ⟨rfl, rfl⟩, hf⟩ },
        { args := [.one (.atom (.sym 1))], ans := .v (.one (.lit (.bool true))), ok := by
            intro B ρ w S vs hS hr
            match vs, hr with
            | [u0], ⟨z0, _⟩ =>
              obtain ⟨rfl, _⟩ : u0 = _ ∧ _ := z0
              refine (cig _).mono ?_
              rintro e w' ⟨rfl, hf⟩
              exact ⟨_, rfl, ⟨rfl, rfl⟩, hf⟩ }],
      orcT 57 [
        { args := [.one (.atom (.sym 0))], ans := .v (.one (.lit (.bool true))), ok := by
            intro B ρ w S vs hS hr
            match vs, hr with
            | [u0], ⟨z0, _⟩ =>
              obtain ⟨rfl, _⟩ : u0 = _ ∧ _ := z0
              refine (czf _).mono ?_
              rintro e w' ⟨rfl, hf⟩
              exact ⟨_, rfl, ⟨rfl, rfl⟩, hf⟩ },
        { args := [.one (.atom (.sym 1))], ans := .v (.one (.lit (.bool false))), ok := by
            intro B ρ w S vs hS hr
            match vs, hr with
            | [u0], ⟨z0, _⟩ =>
              obtain ⟨rfl, _⟩ : u0 = _ ∧ _ := z0
              refine (czg _).mono ?_
              rintro e w' ⟨rfl, hf⟩
              exact ⟨_, rfl, ⟨rfl, rfl⟩, hf⟩ }]], rfl⟩
    (opH_le (bigHook_le _ _) (opH_le (symHook_le _ _ _) (tabHook_le _ _)))
    (opH_ok (bigHook_ok _) (opH_ok (symHook_ok _ (fun h => by cases h) (fun h => by cases h)) (tabHook_ok _ all_nil all_nil)))
  refine (told_call (M := (DomQ true ν σ (fun _ => none))) (cx := ⟨Tryd.prog, true, t.get, orcD (add3ZID ), (opH (bigHook Tryd.prog true) (opH (symHook Tryd.prog add3ZIN (fun _ _ _ => none)) (tabHook (add3ZIL ) add3ZIM)))⟩) (xs := [.one (.atom (.sym 0)), .one (.atom (.sym 1)), .one (.atom (.sym 2))]) (vs := [.int .u64 f, .int .u64 g, .int .i64 m]) Tryd.checked.mixed hcx (fun hg => by cases hg) ⟨⟨rfl, fun _ => trivial⟩, ⟨rfl, fun _ => trivial⟩, ⟨rfl, fun _ => trivial⟩, trivial⟩ he).mono ?_
  rintro e w' ⟨v, ρ', rfl, hv, hbel⟩
  obtain ⟨us, rfl, hu⟩ := hv
  match us, hu with
  | [c0, c1], ⟨r0, r1, _⟩ =>
    obtain ⟨rfl, _⟩ : c0 = _ ∧ _ := r0
    obtain ⟨rfl, _⟩ : c1 = _ ∧ _ := r1
    exact ⟨rfl, hbel⟩

def add3ZZdD : List (FuncId × Ans) :=
  [(52, ansT [([.one (.atom (.sym 0))], .v (.one (.lit (.bool false)))), ([.one (.atom (.sym 1))], .v (.one (.lit (.bool false))))]),
   (53, ansT [([.one (.atom (.sym 0))], .v (.one (.lit (.bool false)))), ([.one (.atom (.sym 1))], .v (.one (.lit (.bool false))))]),
   (57, ansT [([.one (.atom (.sym 0))], .v (.one (.lit (.bool true)))), ([.one (.atom (.sym 1))], .v (.one (.lit (.bool true))))]),
   (58, ansT [([.one (.atom (.sym 4)), .one (.lit (.int .u64 0))], .v (.one (.atom (.sym 3))))])]
def add3ZZdL : BT := [(.eql, .atom (.sym 2), .lit (.int .i64 (2)), .atom (.sym 4)), (.neq, .atom (.sym 0), .atom (.sym 1), .lit (.bool true)), (.eql, .atom (.sym 0), .atom (.sym 1), .lit (.bool false))]
def add3ZZdM : BT := []
def add3ZZdN : At → Option Nat
  | _ => none

set_option maxRecDepth 1000000 in
theorem add3ZZdTold : ∃ t : Tr Func, TabOK Tryd.prog t ∧ (isAV (.tup [.one (.atom (.sym 3)), .one (.lit (.int .i64 (0)))]) (evalCall ⟨Tryd.prog, true, t.get, orcD (add3ZZdD ), (opH (bigHook Tryd.prog true) (opH (symHook Tryd.prog add3ZZdN (fun _ _ _ => none)) (tabHook (add3ZZdL ) add3ZZdM)))⟩ 1000 27 [.one (.atom (.sym 0)), .one (.atom (.sym 1)), .one (.atom (.sym 2))] .e 0) = true) :=
  ⟨(((((Tr.e).put 27 (some Tryd.f27)).put 52 (some Tryd.f52)).put 53 (some Tryd.f53)).put 57 (some Tryd.f57)).put 58 (some Tryd.f58),
   (TabOK.put (TabOK.put (TabOK.put (TabOK.put (TabOK.put (TabOK.e _) ⟨Tryd.func27, by decide +kernel, by decide +kernel⟩) ⟨Tryd.func52, by decide +kernel, by decide +kernel⟩) ⟨Tryd.func53, by decide +kernel, by decide +kernel⟩) ⟨Tryd.func57, by decide +kernel, by decide +kernel⟩) ⟨Tryd.func58, by decide +kernel, by decide +kernel⟩),
   by decide +kernel⟩

set_option maxHeartbeats 4000000 in
set_option maxRecDepth 100000 in
theorem add3ZZd_tab {w : World} (m : Int) (f g : Nat) (hf : f < 18446744073709551616) (hg : g < 18446744073709551616) (Kf : fsz f = 0) (Kg : fsz g = 0) (hne : f ≠ g) :
    Calls Tryd.prog 27 #[.int .u64 f, .int .u64 g, .int .i64 m] w fun e w' => e = .returned (.tuple #[.int .u64 ((addF m f g).1 : Nat), .int .i64 ((addF m f g).2 : Nat)]) ∧ Below w.heap.size w w' := by
  have cnf : ∀ (w : World), Calls Tryd.prog 52 #[.int .u64 f] w fun e w' => e = .returned (.bool false) ∧ Fwd w w' := fun w => (none3_any f hf).mono fun e w' gg => ⟨by rw [gg.1, show isNan f = false from isNan_le (by omega)], gg.2 ▸ Fwd.refl _⟩
  have cif : ∀ (w : World), Calls Tryd.prog 53 #[.int .u64 f] w fun e w' => e = .returned (.bool false) ∧ Fwd w w' := fun w => (endless3_any f hf).mono fun e w' gg => ⟨by rw [gg.1, show decide (fsz f = 9218868437227405312) = false from decide_eq_false (by omega)], gg.2 ▸ Fwd.refl _⟩
  have czf : ∀ (w : World), Calls Tryd.prog 57 #[.int .u64 f] w fun e w' => e = .returned (.bool true) ∧ Fwd w w' := fun w => (nought3_any f hf).mono fun e w' gg => ⟨by rw [gg.1, show decide (fsz f = 0) = true from decide_eq_true (by omega)], gg.2 ▸ Fwd.refl _⟩
  have cng : ∀ (w : World), Calls Tryd.prog 52 #[.int .u64 g] w fun e w' => e = .returned (.bool false) ∧ Fwd w w' := fun w => (none3_any g hg).mono fun e w' gg => ⟨by rw [gg.1, show isNan g = false from isNan_le (by omega)], gg.2 ▸ Fwd.refl _⟩
  have cig : ∀ (w : World), Calls Tryd.prog 53 #[.int .u64 g] w fun e w' => e = .returned (.bool false) ∧ Fwd w w' := fun w => (endless3_any g hg).mono fun e w' gg => ⟨by rw [gg.1, show decide (fsz g = 9218868437227405312) = false from decide_eq_false (by omega)], gg.2 ▸ Fwd.refl _⟩
  have czg : ∀ (w : World), Calls Tryd.prog 57 #[.int .u64 g] w fun e w' => e = .returned (.bool true) ∧ Fwd w w' := fun w => (nought3_any g hg).mono fun e w' gg => ⟨by rw [gg.1, show decide (fsz g = 0) = true from decide_eq_true (by omega)], gg.2 ▸ Fwd.refl _⟩
  have cS : ∀ (w : World), Calls Tryd.prog 58 #[.bool (decide (m = 2)), .int .u64 0] w fun e w' => e = .returned (.int .u64 ((sgn (decide (m = 2)) + 0 : Nat) : Int)) ∧ Fwd w w' := fun w => (signed3_any (decide (m = 2)) 0 (by omega)).mono fun e w' gg => ⟨gg.1, gg.2 ▸ Fwd.refl _⟩
  have hval : addF m f g = _ := (addF_nought m hf hg Kf Kg).trans (if_neg hne)
  rw [hval]
  obtain ⟨t, ht, hr⟩ := add3ZZdTold
  obtain ⟨dl, n', he⟩ := isAV_ok (hr)
  let ν : Nat → Rat := nuL [fvQ f, fvQ g] []
  let σ : SymD := symL [.u f, .u g, .i m, .u (sgn (decide (m = 2))), .b (decide (m = 2))]
  have hcx : CxOK (DomQ true ν σ (fun _ => none)) w.heap.size ⟨Tryd.prog, true, t.get, orcD (add3ZZdD ), (opH (bigHook Tryd.prog true) (opH (symHook Tryd.prog add3ZZdN (fun _ _ _ => none)) (tabHook (add3ZZdL ) add3ZZdM)))⟩ := cxS_ok (M := (DomQ true ν σ (fun _ => none))) ht ⟨[
      orcT 52 [
        { args := [.one (.atom (.sym 0))], ans := .v (.one (.lit (.bool false))), ok := by
            intro B ρ w S vs hS hr
            match vs, hr with
            | [u0], ⟨z0, _⟩ =>
              obtain ⟨rfl, _⟩ : u0 = _ ∧ _ := z0
              refine (cnf _).mono ?_
              rintro e w' ⟨rfl, hf⟩
              exact ⟨_, rfl, ⟨rfl, rfl⟩, hf⟩ },
        { args := [.one (.atom (.sym 1))], ans := .v (.one (.lit (.bool false))), ok := by
            intro B ρ w S vs hS hr
            match vs, hr with
            | [u0], ⟨z0, _⟩ =>
              obtain ⟨rfl, _⟩ : u0 = _ ∧ _ := z0
              refine (cng _).mono ?_
              rintro e w' ⟨rfl, hf⟩
              exact ⟨_, rfl, ⟨rfl, rfl⟩, hf⟩ }],
      orcT 53 [
        { args := [.one (.atom (.sym 0))], ans := .v (.one (.lit (.bool false))), ok := by
            intro B ρ w S vs hS hr
            match vs, hr with
            | [u0], ⟨z0, _⟩ =>
              obtain ⟨rfl, _⟩ : u0 = _ ∧ _ := z0
              refine (cif _).mono ?_
              rintro e w' ⟨rfl, hf⟩
              exact ⟨_, rfl, ⟨rfl, rfl⟩, hf⟩ },
        { args := [.one (.atom (.sym 1))], ans := .v (.one (.lit (.bool false))), ok := by
            intro B ρ w S vs hS hr
            match vs, hr with
            | [u0], ⟨z0, _⟩ =>
              obtain ⟨rfl, _⟩ : u0 = _ ∧ _ := z0
              refine (cig _).mono ?_
              rintro e w' ⟨rfl, hf⟩
              exact ⟨_, rfl, ⟨rfl, rfl⟩, hf⟩ }],
      orcT 57 [
        { args := [.one (.atom (.sym 0))], ans := .v (.one (.lit (.bool true))), ok := by
            intro B ρ w S vs hS hr
            match vs, hr with
            | [u0], ⟨z0, _⟩ =>
              obtain ⟨rfl, _⟩ : u0 = _ ∧ _ := z0
              refine (czf _).mono ?_
              rintro e w' ⟨rfl, hf⟩
              exact ⟨_, rfl, ⟨rfl, rfl⟩, hf⟩ },
        { args := [.one (.atom (.sym 1))], ans := .v (.one (.lit (.bool true))), ok := by
            intro B ρ w S vs hS hr
            match vs, hr with
            | [u0], ⟨z0, _⟩ =>
              obtain ⟨rfl, _⟩ : u0 = _ ∧ _ := z0
              refine (czg _).mono ?_
              rintro e w' ⟨rfl, hf⟩
              exact ⟨_, rfl, ⟨rfl, rfl⟩, hf⟩ }],
      orcT 58 [
        { args := [.one (.atom (.sym 4)), .one (.lit (.int .u64 0))], ans := .v (.one (.atom (.sym 3))), ok := by
            intro B ρ w S vs hS hr
            match vs, hr with
            | [u0, u1], ⟨z0, z1, _⟩ =>
              obtain ⟨rfl, _⟩ : u0 = _ ∧ _ := z0
              obtain ⟨rfl, _⟩ : u1 = _ ∧ _ := z1
              refine (cS _).mono ?_
              rintro e w' ⟨rfl, hf⟩
              exact ⟨_, rfl, ⟨rfl, fun _ => trivial⟩, hf⟩ }]], rfl⟩
    (opH_le (bigHook_le _ _) (opH_le (symHook_le _ _ _) (tabHook_le _ _)))
    (opH_ok (bigHook_ok _) (opH_ok (symHook_ok _ (fun h => by cases h) (fun h => by cases h)) (tabHook_ok _ (all_cons (BOk.mk rfl rfl rfl (fun _ _ _ => trivial) rfl rfl (bo_eql rfl)) (all_cons (BOk.mk rfl rfl rfl (fun _ _ _ => trivial) rfl rfl (bo_neq (by simp; omega))) (all_cons (BOk.mk rfl rfl rfl (fun _ _ _ => trivial) rfl rfl (bo_eql (by simp; omega))) all_nil))) all_nil)))
  refine (told_call (M := (DomQ true ν σ (fun _ => none))) (cx := ⟨Tryd.prog, true, t.get, orcD (add3ZZdD ), (opH (bigHook Tryd.prog true) (opH (symHook Tryd.prog add3ZZdN (fun _ _ _ => none)) (tabHook (add3ZZdL ) add3ZZdM)))⟩) (xs := [.one (.atom (.sym 0)), .one (.atom (.sym 1)), .one (.atom (.sym 2))]) (vs := [.int .u64 f, .int .u64 g, .int .i64 m]) Tryd.checked.mixed hcx (fun hg => by cases hg) ⟨⟨rfl, fun _ => trivial⟩, ⟨rfl, fun _ => trivial⟩, ⟨rfl, fun _ => trivial⟩, trivial⟩ he).mono ?_
  rintro e w' ⟨v, ρ', rfl, hv, hbel⟩
  obtain ⟨us, rfl, hu⟩ := hv
  match us, hu with
  | [c0, c1], ⟨r0, r1, _⟩ =>
    obtain ⟨rfl, _⟩ : c0 = _ ∧ _ := r0
    obtain ⟨rfl, _⟩ : c1 = _ ∧ _ := r1
    exact ⟨rfl, hbel⟩

def add3ZZeD : List (FuncId × Ans) :=
  [(52, ansT [([.one (.atom (.sym 0))], .v (.one (.lit (.bool false)))), ([.one (.atom (.sym 1))], .v (.one (.lit (.bool false))))]),
   (53, ansT [([.one (.atom (.sym 0))], .v (.one (.lit (.bool false)))), ([.one (.atom (.sym 1))], .v (.one (.lit (.bool false))))]),
   (57, ansT [([.one (.atom (.sym 0))], .v (.one (.lit (.bool true)))), ([.one (.atom (.sym 1))], .v (.one (.lit (.bool true))))])]
def add3ZZeL : BT := [(.neq, .atom (.sym 0), .atom (.sym 1), .lit (.bool false)), (.eql, .atom (.sym 0), .atom (.sym 1), .lit (.bool true))]
def add3ZZeM : BT := []
def add3ZZeN : At → Option Nat
  | _ => none

set_option maxRecDepth 1000000 in
theorem add3ZZeTold : ∃ t : Tr Func, TabOK Tryd.prog t ∧ (isAV (.tup [.one (.atom (.sym 0)), .one (.lit (.int .i64 (0)))]) (evalCall ⟨Tryd.prog, true, t.get, orcD (add3ZZeD ), (opH (bigHook Tryd.prog true) (opH (symHook Tryd.prog add3ZZeN (fun _ _ _ => none)) (tabHook (add3ZZeL ) add3ZZeM)))⟩ 1000 27 [.one (.atom (.sym 0)), .one (.atom (.sym 1)), .one (.atom (.sym 2))] .e 0) = true) :=
  ⟨((((Tr.e).put 27 (some Tryd.f27)).put 52 (some Tryd.f52)).put 53 (some Tryd.f53)).put 57 (some Tryd.f57),
   (TabOK.put (TabOK.put (TabOK.put (TabOK.put (TabOK.e _) ⟨Tryd.func27, by decide +kernel, by decide +kernel⟩) ⟨Tryd.func52, by decide +kernel, by decide +kernel⟩) ⟨Tryd.func53, by decide +kernel, by decide +kernel⟩) ⟨Tryd.func57, by decide +kernel, by decide +kernel⟩),
   by decide +kernel⟩

set_option maxHeartbeats 4000000 in
set_option maxRecDepth 100000 in
theorem add3ZZe_tab {w : World} (m : Int) (f g : Nat) (hf : f < 18446744073709551616) (hg : g < 18446744073709551616) (Kf : fsz f = 0) (Kg : fsz g = 0) (hne : f = g) :
    Calls Tryd.prog 27 #[.int .u64 f, .int .u64 g, .int .i64 m] w fun e w' => e = .returned (.tuple #[.int .u64 ((addF m f g).1 : Nat), .int .i64 ((addF m f g).2 : Nat)]) ∧ Below w.heap.size w w' := by
  have cnf : ∀ (w : World), Calls Tryd.prog 52 #[.int .u64 f] w fun e w' => e = .returned (.bool false) ∧ Fwd w w' := fun w => (none3_any f hf).mono fun e w' gg => ⟨by rw [gg.1, show isNan f = false from isNan_le (by omega)], gg.2 ▸ Fwd.refl _⟩
  have cif : ∀ (w : World), Calls Tryd.prog 53 #[.int .u64 f] w fun e w' => e = .returned (.bool false) ∧ Fwd w w' := fun w => (endless3_any f hf).mono fun e w' gg => ⟨by rw [gg.1, show decide (fsz f = 9218868437227405312) = false from decide_eq_false (by omega)], gg.2 ▸ Fwd.refl _⟩
  have czf : ∀ (w : World), Calls Tryd.prog 57 #[.int .u64 f] w fun e w' => e = .returned (.bool true) ∧ Fwd w w' := fun w => (nought3_any f hf).mono fun e w' gg => ⟨by rw [gg.1, show decide (fsz f = 0) = true from decide_eq_true (by omega)], gg.2 ▸ Fwd.refl _⟩
  have cng : ∀ (w : World), Calls Tryd.prog 52 #[.int .u64 g] w fun e w' => e = .returned (.bool false) ∧ Fwd w w' := fun w => (none3_any g hg).mono fun e w' gg => ⟨by rw [gg.1, show isNan g = false from isNan_le (by omega)], gg.2 ▸ Fwd.refl _⟩
  have cig : ∀ (w : World), Calls Tryd.prog 53 #[.int .u64 g] w fun e w' => e = .returned (.bool false) ∧ Fwd w w' := fun w => (endless3_any g hg).mono fun e w' gg => ⟨by rw [gg.1, show decide (fsz g = 9218868437227405312) = false from decide_eq_false (by omega)], gg.2 ▸ Fwd.refl _⟩
  have czg : ∀ (w : World), Calls Tryd.prog 57 #[.int .u64 g] w fun e w' => e = .returned (.bool true) ∧ Fwd w w' := fun w => (nought3_any g hg).mono fun e w' gg => ⟨by rw [gg.1, show decide (fsz g = 0) = true from decide_eq_true (by omega)], gg.2 ▸ Fwd.refl _⟩
  have hval : addF m f g = _ := (addF_nought m hf hg Kf Kg).trans (if_pos hne)
  rw [hval]
  obtain ⟨t, ht, hr⟩ := add3ZZeTold
  obtain ⟨dl, n', he⟩ := isAV_ok (hr)
  let ν : Nat → Rat := nuL [fvQ f, fvQ g] []
  let σ : SymD := symL [.u f, .u g, .i m]
  have hcx : CxOK (DomQ true ν σ (fun _ => none)) w.heap.size ⟨Tryd.prog, true, t.get, orcD (add3ZZeD ), (opH (bigHook Tryd.prog true) (opH (symHook Tryd.prog add3ZZeN (fun _ _ _ => none)) (tabHook (add3ZZeL ) add3ZZeM)))⟩ := cxS_ok (M := (DomQ true ν σ (fun _ => none))) ht ⟨[
      orcT 52 [
        { args := [.one (.atom (.sym 0))], ans := .v (.one (.lit (.bool false))), ok := by
            intro B ρ w S vs hS hr
            match vs, hr with
            | [u0], ⟨z0, _⟩ =>
              obtain ⟨rfl, _⟩ : u0 = _ ∧ _ := z0
              refine (cnf _).mono ?_
              rintro e w' ⟨rfl, hf⟩
              exact ⟨_, rfl, ⟨rfl, rfl⟩, hf⟩ },
        { args := [.one (.atom (.sym 1))], ans := .v (.one (.lit (.bool false))), ok := by
            intro B ρ w S vs hS hr
            match vs, hr with
            | [u0], ⟨z0, _⟩ =>
              obtain ⟨rfl, _⟩ : u0 = _ ∧ _ := z0
              refine (cng _).mono ?_
              rintro e w' ⟨rfl, hf⟩
              exact ⟨_, rfl, ⟨rfl, rfl⟩, hf⟩ }],
      orcT 53 [
        { args := [.one (.atom (.sym 0))], ans := .v (.one (.lit (.bool false))), ok := by
            intro B ρ w S vs hS hr
            match vs, hr with
            | [u0], ⟨z0, _⟩ =>
              obtain ⟨rfl, _⟩ : u0 = _ ∧ _ := z0
              refine (cif _).mono ?_
              rintro e w' ⟨rfl, hf⟩
              exact ⟨_, rfl, ⟨rfl, rfl⟩, hf⟩ },
        { args := [.one (.atom (.sym 1))], ans := .v (.one (.lit (.bool false))), ok := by
            intro B ρ w S vs hS hr
            match vs, hr with
            | [u0], ⟨z0, _⟩ =>
              obtain ⟨rfl, _⟩ : u0 = _ ∧ _ := z0
              refine (cig _).mono ?_
              rintro e w' ⟨rfl, hf⟩
              exact ⟨_, rfl, ⟨rfl, rfl⟩, hf⟩ }],
      orcT 57 [
        { args := [.one (.atom (.sym 0))], ans := .v (.one (.lit (.bool true))), ok := by
            intro B ρ w S vs hS hr
            match vs, hr with
            | [u0], ⟨z0, _⟩ =>
              obtain ⟨rfl, _⟩ : u0 = _ ∧ _ := z0
              refine (czf _).mono ?_
              rintro e w' ⟨rfl, hf⟩
              exact ⟨_, rfl, ⟨rfl, rfl⟩, hf⟩ },
        { args := [.one (.atom (.sym 1))], ans := .v (.one (.lit (.bool true))), ok := by
            intro B ρ w S vs hS hr
            match vs, hr with
            | [u0], ⟨z0, _⟩ =>
              obtain ⟨rfl, _⟩ : u0 = _ ∧ _ := z0
              refine (czg _).mono ?_
              rintro e w' ⟨rfl, hf⟩
              exact ⟨_, rfl, ⟨rfl, rfl⟩, hf⟩ }]], rfl⟩
    (opH_le (bigHook_le _ _) (opH_le (symHook_le _ _ _) (tabHook_le _ _)))
    (opH_ok (bigHook_ok _) (opH_ok (symHook_ok _ (fun h => by cases h) (fun h => by cases h)) (tabHook_ok _ (all_cons (BOk.mk rfl rfl rfl (fun _ _ _ => trivial) rfl rfl (bo_neq (by simp; omega))) (all_cons (BOk.mk rfl rfl rfl (fun _ _ _ => trivial) rfl rfl (bo_eql (by simp; omega))) all_nil)) all_nil)))
  refine (told_call (M := (DomQ true ν σ (fun _ => none))) (cx := ⟨Tryd.prog, true, t.get, orcD (add3ZZeD ), (opH (bigHook Tryd.prog true) (opH (symHook Tryd.prog add3ZZeN (fun _ _ _ => none)) (tabHook (add3ZZeL ) add3ZZeM)))⟩) (xs := [.one (.atom (.sym 0)), .one (.atom (.sym 1)), .one (.atom (.sym 2))]) (vs := [.int .u64 f, .int .u64 g, .int .i64 m]) Tryd.checked.mixed hcx (fun hg => by cases hg) ⟨⟨rfl, fun _ => trivial⟩, ⟨rfl, fun _ => trivial⟩, ⟨rfl, fun _ => trivial⟩, trivial⟩ he).mono ?_
  rintro e w' ⟨v, ρ', rfl, hv, hbel⟩
  obtain ⟨us, rfl, hu⟩ := hv
  match us, hu with
  | [c0, c1], ⟨r0, r1, _⟩ =>
    obtain ⟨rfl, _⟩ : c0 = _ ∧ _ := r0
    obtain ⟨rfl, _⟩ : c1 = _ ∧ _ := r1
    exact ⟨rfl, hbel⟩

def add3ZFD : List (FuncId × Ans) :=
  [(52, ansT [([.one (.atom (.sym 0))], .v (.one (.lit (.bool false)))), ([.one (.atom (.sym 1))], .v (.one (.lit (.bool false))))]),
   (53, ansT [([.one (.atom (.sym 0))], .v (.one (.lit (.bool false)))), ([.one (.atom (.sym 1))], .v (.one (.lit (.bool false))))]),
   (57, ansT [([.one (.atom (.sym 0))], .v (.one (.lit (.bool true)))), ([.one (.atom (.sym 1))], .v (.one (.lit (.bool false))))]),
   (71, ansT [([.one (.atom (.sym 0))], .v (avQ (.v 0))), ([.one (.atom (.sym 1))], .v (avQ (.v 1)))]),
   (70, ansT [([avQ (.v 0), avQ (.v 1), .one (.atom (.sym 2))], .tup [.one (.atom (.sym 3)), .one (.atom (.sym 4))])])]
def add3ZFL : BT := []
def add3ZFM : BT := []
def add3ZFN : At → Option Nat
  | _ => none

set_option maxRecDepth 1000000 in
theorem add3ZFTold : ∃ t : Tr Func, TabOK Tryd.prog t ∧ (isAV (.tup [.one (.atom (.sym 3)), .one (.atom (.sym 4))]) (evalCall ⟨Tryd.prog, true, t.get, orcD (add3ZFD ), (opH (bigHook Tryd.prog true) (opH (symHook Tryd.prog add3ZFN (fun _ _ _ => none)) (tabHook (add3ZFL ) add3ZFM)))⟩ 1000 27 [.one (.atom (.sym 0)), .one (.atom (.sym 1)), .one (.atom (.sym 2))] .e 0) = true) :=
  ⟨((((((Tr.e).put 27 (some Tryd.f27)).put 52 (some Tryd.f52)).put 53 (some Tryd.f53)).put 57 (some Tryd.f57)).put 71 (some Tryd.f71)).put 70 (some Tryd.f70),
   (TabOK.put (TabOK.put (TabOK.put (TabOK.put (TabOK.put (TabOK.put (TabOK.e _) ⟨Tryd.func27, by decide +kernel, by decide +kernel⟩) ⟨Tryd.func52, by decide +kernel, by decide +kernel⟩) ⟨Tryd.func53, by decide +kernel, by decide +kernel⟩) ⟨Tryd.func57, by decide +kernel, by decide +kernel⟩) ⟨Tryd.func71, by decide +kernel, by decide +kernel⟩) ⟨Tryd.func70, by decide +kernel, by decide +kernel⟩),
   by decide +kernel⟩

set_option maxHeartbeats 4000000 in
set_option maxRecDepth 100000 in
theorem add3ZF_tab {w : World} (m : Int) (f g : Nat) (hf : f < 18446744073709551616) (hg : g < 18446744073709551616) (Kf : fsz f = 0) (Kg : fsz g ≠ 0) (Lg : fsz g < 9218868437227405312) :
    Calls Tryd.prog 27 #[.int .u64 f, .int .u64 g, .int .i64 m] w fun e w' => e = .returned (.tuple #[.int .u64 ((addF m f g).1 : Nat), .int .i64 ((addF m f g).2 : Nat)]) ∧ Below w.heap.size w w' := by
  have cnf : ∀ (w : World), Calls Tryd.prog 52 #[.int .u64 f] w fun e w' => e = .returned (.bool false) ∧ Fwd w w' := fun w => (none3_any f hf).mono fun e w' gg => ⟨by rw [gg.1, show isNan f = false from isNan_le (by omega)], gg.2 ▸ Fwd.refl _⟩
  have cif : ∀ (w : World), Calls Tryd.prog 53 #[.int .u64 f] w fun e w' => e = .returned (.bool false) ∧ Fwd w w' := fun w => (endless3_any f hf).mono fun e w' gg => ⟨by rw [gg.1, show decide (fsz f = 9218868437227405312) = false from decide_eq_false (by omega)], gg.2 ▸ Fwd.refl _⟩
  have czf : ∀ (w : World), Calls Tryd.prog 57 #[.int .u64 f] w fun e w' => e = .returned (.bool true) ∧ Fwd w w' := fun w => (nought3_any f hf).mono fun e w' gg => ⟨by rw [gg.1, show decide (fsz f = 0) = true from decide_eq_true (by omega)], gg.2 ▸ Fwd.refl _⟩
  have cng : ∀ (w : World), Calls Tryd.prog 52 #[.int .u64 g] w fun e w' => e = .returned (.bool false) ∧ Fwd w w' := fun w => (none3_any g hg).mono fun e w' gg => ⟨by rw [gg.1, show isNan g = false from isNan_le (by omega)], gg.2 ▸ Fwd.refl _⟩
  have cig : ∀ (w : World), Calls Tryd.prog 53 #[.int .u64 g] w fun e w' => e = .returned (.bool false) ∧ Fwd w w' := fun w => (endless3_any g hg).mono fun e w' gg => ⟨by rw [gg.1, show decide (fsz g = 9218868437227405312) = false from decide_eq_false (by omega)], gg.2 ▸ Fwd.refl _⟩
  have czg : ∀ (w : World), Calls Tryd.prog 57 #[.int .u64 g] w fun e w' => e = .returned (.bool false) ∧ Fwd w w' := fun w => (nought3_any g hg).mono fun e w' gg => ⟨by rw [gg.1, show decide (fsz g = 0) = false from decide_eq_false (by omega)], gg.2 ▸ Fwd.refl _⟩
  have b1 := nr_fvQ (f := f) (by omega)
  have b2 := nr_fvQ (f := g) (by omega)
  have b3 := nr_add (fvQ f) (fvQ g)
  have hval : addF m f g = _ := addF_fin m (by omega) (by omega) (by omega)
  rw [hval]
  obtain ⟨t, ht, hr⟩ := add3ZFTold
  obtain ⟨dl, n', he⟩ := isAV_ok (hr)
  let ν : Nat → Rat := nuL [fvQ f, fvQ g] []
  let σ : SymD := symL [.u f, .u g, .i m, .u (sumN m (fvQ f + fvQ g)).1, .i ((sumN m (fvQ f + fvQ g)).2 : Int)]
  have hcx : CxOK (DomQ true ν σ (fun _ => none)) w.heap.size ⟨Tryd.prog, true, t.get, orcD (add3ZFD ), (opH (bigHook Tryd.prog true) (opH (symHook Tryd.prog add3ZFN (fun _ _ _ => none)) (tabHook (add3ZFL ) add3ZFM)))⟩ := cxS_ok (M := (DomQ true ν σ (fun _ => none))) ht ⟨[
      orcT 52 [
        { args := [.one (.atom (.sym 0))], ans := .v (.one (.lit (.bool false))), ok := by
            intro B ρ w S vs hS hr
            match vs, hr with
            | [u0], ⟨z0, _⟩ =>
              obtain ⟨rfl, _⟩ : u0 = _ ∧ _ := z0
              refine (cnf _).mono ?_
              rintro e w' ⟨rfl, hf⟩
              exact ⟨_, rfl, ⟨rfl, rfl⟩, hf⟩ },
        { args := [.one (.atom (.sym 1))], ans := .v (.one (.lit (.bool false))), ok := by
            intro B ρ w S vs hS hr
            match vs, hr with
            | [u0], ⟨z0, _⟩ =>
              obtain ⟨rfl, _⟩ : u0 = _ ∧ _ := z0
              refine (cng _).mono ?_
              rintro e w' ⟨rfl, hf⟩
              exact ⟨_, rfl, ⟨rfl, rfl⟩, hf⟩ }],
      orcT 53 [
        { args := [.one (.atom (.sym 0))], ans := .v (.one (.lit (.bool false))), ok := by
            intro B ρ w S vs hS hr
            match vs, hr with
            | [u0], ⟨z0, _⟩ =>
              obtain ⟨rfl, _⟩ : u0 = _ ∧ _ := z0
              refine (cif _).mono ?_
              rintro e w' ⟨rfl, hf⟩
              exact ⟨_, rfl, ⟨rfl, rfl⟩, hf⟩ },
        { args := [.one (.atom (.sym 1))], ans := .v (.one (.lit (.bool false))), ok := by
            intro B ρ w S vs hS hr
            match vs, hr with
            | [u0], ⟨z0, _⟩ =>
              obtain ⟨rfl, _⟩ : u0 = _ ∧ _ := z0
              refine (cig _).mono ?_
              rintro e w' ⟨rfl, hf⟩
              exact ⟨_, rfl, ⟨rfl, rfl⟩, hf⟩ }],
      orcT 57 [
        { args := [.one (.atom (.sym 0))], ans := .v (.one (.lit (.bool true))), ok := by
            intro B ρ w S vs hS hr
            match vs, hr with
            | [u0], ⟨z0, _⟩ =>
              obtain ⟨rfl, _⟩ : u0 = _ ∧ _ := z0
              refine (czf _).mono ?_
              rintro e w' ⟨rfl, hf⟩
              exact ⟨_, rfl, ⟨rfl, rfl⟩, hf⟩ },
        { args := [.one (.atom (.sym 1))], ans := .v (.one (.lit (.bool false))), ok := by
            intro B ρ w S vs hS hr
            match vs, hr with
            | [u0], ⟨z0, _⟩ =>
              obtain ⟨rfl, _⟩ : u0 = _ ∧ _ := z0
              refine (czg _).mono ?_
              rintro e w' ⟨rfl, hf⟩
              exact ⟨_, rfl, ⟨rfl, rfl⟩, hf⟩ }],
      orcT 71 [
        { args := [.one (.atom (.sym 0))], ans := .v (avQ (.v 0)), ok := by
            intro B ρ w S vs hS hr
            match vs, hr with
            | [u0], ⟨z0, _⟩ =>
              obtain ⟨rfl, _⟩ : u0 = _ ∧ _ := z0
              refine (exact3_any f hf (by omega)).mono ?_
              rintro e w' ⟨x, rfl, g0, hf⟩
              exact ⟨_, rfl, (avQ_rel g0), hf⟩ },
        { args := [.one (.atom (.sym 1))], ans := .v (avQ (.v 1)), ok := by
            intro B ρ w S vs hS hr
            match vs, hr with
            | [u0], ⟨z0, _⟩ =>
              obtain ⟨rfl, _⟩ : u0 = _ ∧ _ := z0
              refine (exact3_any g hg (by omega)).mono ?_
              rintro e w' ⟨x, rfl, g0, hf⟩
              exact ⟨_, rfl, (avQ_rel g0), hf⟩ }],
      orcT 70 [
        { args := [avQ (.v 0), avQ (.v 1), .one (.atom (.sym 2))], ans := .tup [.one (.atom (.sym 3)), .one (.atom (.sym 4))], ok := by
            intro B ρ w S vs hS hr
            match vs, hr with
            | [u0, u1, u2], ⟨z0, z1, z2, _⟩ =>
              have k0 := avQ_rv z0
              have k1 := avQ_rv z1
              obtain ⟨rfl, _⟩ : u2 = _ ∧ _ := z2
              refine (sum3_any (p := fvQ f) (q := fvQ g) m k0 k1 (by omega) (by omega) (by omega)).mono ?_
              rintro e w' ⟨rfl, hf⟩
              exact ⟨_, rfl, ⟨[_, _], rfl, ⟨rfl, fun _ => trivial⟩, ⟨rfl, fun _ => trivial⟩, trivial⟩, hf⟩ }]], rfl⟩
    (opH_le (bigHook_le _ _) (opH_le (symHook_le _ _ _) (tabHook_le _ _)))
    (opH_ok (bigHook_ok _) (opH_ok (symHook_ok _ (fun h => by cases h) (fun h => by cases h)) (tabHook_ok _ all_nil all_nil)))
  refine (told_call (M := (DomQ true ν σ (fun _ => none))) (cx := ⟨Tryd.prog, true, t.get, orcD (add3ZFD ), (opH (bigHook Tryd.prog true) (opH (symHook Tryd.prog add3ZFN (fun _ _ _ => none)) (tabHook (add3ZFL ) add3ZFM)))⟩) (xs := [.one (.atom (.sym 0)), .one (.atom (.sym 1)), .one (.atom (.sym 2))]) (vs := [.int .u64 f, .int .u64 g, .int .i64 m]) Tryd.checked.mixed hcx (fun hg => by cases hg) ⟨⟨rfl, fun _ => trivial⟩, ⟨rfl, fun _ => trivial⟩, ⟨rfl, fun _ => trivial⟩, trivial⟩ he).mono ?_
  rintro e w' ⟨v, ρ', rfl, hv, hbel⟩
  obtain ⟨us, rfl, hu⟩ := hv
  match us, hu with
  | [c0, c1], ⟨r0, r1, _⟩ =>
    obtain ⟨rfl, _⟩ : c0 = _ ∧ _ := r0
    obtain ⟨rfl, _⟩ : c1 = _ ∧ _ := r1
    exact ⟨rfl, hbel⟩

def add3FID : List (FuncId × Ans) :=
  [(52, ansT [([.one (.atom (.sym 0))], .v (.one (.lit (.bool false)))), ([.one (.atom (.sym 1))], .v (.one (.lit (.bool false))))]),
   (53, ansT [([.one (.atom (.sym 0))], .v (.one (.lit (.bool false)))), ([.one (.atom (.sym 1))], .v (.one (.lit (.bool true))))]),
   (57, ansT [([.one (.atom (.sym 0))], .v (.one (.lit (.bool false)))), ([.one (.atom (.sym 1))], .v (.one (.lit (.bool false))))])]
def add3FIL : BT := []
def add3FIM : BT := []
def add3FIN : At → Option Nat
  | _ => none

set_option maxRecDepth 1000000 in
theorem add3FITold : ∃ t : Tr Func, TabOK Tryd.prog t ∧ (isAV (.tup [.one (.atom (.sym 1)), .one (.lit (.int .i64 (0)))]) (evalCall ⟨Tryd.prog, true, t.get, orcD (add3FID ), (opH (bigHook Tryd.prog true) (opH (symHook Tryd.prog add3FIN (fun _ _ _ => none)) (tabHook (add3FIL ) add3FIM)))⟩ 1000 27 [.one (.atom (.sym 0)), .one (.atom (.sym 1)), .one (.atom (.sym 2))] .e 0) = true) :=
  ⟨((((Tr.e).put 27 (some Tryd.f27)).put 52 (some Tryd.f52)).put 53 (some Tryd.f53)).put 57 (some Tryd.f57),
   (TabOK.put (TabOK.put (TabOK.put (TabOK.put (TabOK.e _) ⟨Tryd.func27, by decide +kernel, by decide +kernel⟩) ⟨Tryd.func52, by decide +kernel, by decide +kernel⟩) ⟨Tryd.func53, by decide +kernel, by decide +kernel⟩) ⟨Tryd.func57, by decide +kernel, by decide +kernel⟩),
   by decide +kernel⟩

set_option maxHeartbeats 4000000 in
set_option maxRecDepth 100000 in
theorem add3FI_tab {w : World} (m : Int) (f g : Nat) (hf : f < 18446744073709551616) (hg : g < 18446744073709551616) (Kf : fsz f ≠ 0) (Lf : fsz f < 9218868437227405312) (Kg : fsz g = 9218868437227405312) :
    Calls Tryd.prog 27 #[.int .u64 f, .int .u64 g, .int .i64 m] w fun e w' => e = .returned (.tuple #[.int .u64 ((addF m f g).1 : Nat), .int .i64 ((addF m f g).2 : Nat)]) ∧ Below w.heap.size w w' := by
  have cnf : ∀ (w : World), Calls Tryd.prog 52 #[.int .u64 f] w fun e w' => e = .returned (.bool false) ∧ Fwd w w' := fun w => (none3_any f hf).mono fun e w' gg => ⟨by rw [gg.1, show isNan f = false from isNan_le (by omega)], gg.2 ▸ Fwd.refl _⟩
  have cif : ∀ (w : World), Calls Tryd.prog 53 #[.int .u64 f] w fun e w' => e = .returned (.bool false) ∧ Fwd w w' := fun w => (endless3_any f hf).mono fun e w' gg => ⟨by rw [gg.1, show decide (fsz f = 9218868437227405312) = false from decide_eq_false (by omega)], gg.2 ▸ Fwd.refl _⟩
  have czf : ∀ (w : World), Calls Tryd.prog 57 #[.int .u64 f] w fun e w' => e = .returned (.bool false) ∧ Fwd w w' := fun w => (nought3_any f hf).mono fun e w' gg => ⟨by rw [gg.1, show decide (fsz f = 0) = false from decide_eq_false (by omega)], gg.2 ▸ Fwd.refl _⟩
  have cng : ∀ (w : World), Calls Tryd.prog 52 #[.int .u64 g] w fun e w' => e = .returned (.bool false) ∧ Fwd w w' := fun w => (none3_any g hg).mono fun e w' gg => ⟨by rw [gg.1, show isNan g = false from isNan_le (by omega)], gg.2 ▸ Fwd.refl _⟩
  have cig : ∀ (w : World), Calls Tryd.prog 53 #[.int .u64 g] w fun e w' => e = .returned (.bool true) ∧ Fwd w w' := fun w => (endless3_any g hg).mono fun e w' gg => ⟨by rw [gg.1, show decide (fsz g = 9218868437227405312) = true from decide_eq_true (by omega)], gg.2 ▸ Fwd.refl _⟩
  have czg : ∀ (w : World), Calls Tryd.prog 57 #[.int .u64 g] w fun e w' => e = .returned (.bool false) ∧ Fwd w w' := fun w => (nought3_any g hg).mono fun e w' gg => ⟨by rw [gg.1, show decide (fsz g = 0) = false from decide_eq_false (by omega)], gg.2 ▸ Fwd.refl _⟩
  have hval : addF m f g = _ := (addF_comm m f g).trans (addF_inf hg hf Kg (by omega) (by rintro ⟨a, b⟩; omega))
  rw [hval]
  obtain ⟨t, ht, hr⟩ := add3FITold
  obtain ⟨dl, n', he⟩ := isAV_ok (hr)
  let ν : Nat → Rat := nuL [fvQ f, fvQ g] []
  let σ : SymD := symL [.u f, .u g, .i m]
  have hcx : CxOK (DomQ true ν σ (fun _ => none)) w.heap.size ⟨Tryd.prog, true, t.get, orcD (add3FID ), (opH (bigHook Tryd.prog true) (opH (symHook Tryd.prog add3FIN (fun _ _ _ => none)) (tabHook (add3FIL ) add3FIM)))⟩ := cxS_ok (M := (DomQ true ν σ (fun _ => none))) ht ⟨[
      orcT 52 [
        { args := [.one (.atom (.sym 0))], ans := .v (.one (.lit (.bool false))), ok := by
            intro B ρ w S vs hS hr
            match vs, hr with
            | [u0], ⟨z0, _⟩ =>
              obtain ⟨rfl, _⟩ : u0 = _ ∧ _ := z0
              refine (cnf _).mono ?_
              rintro e w' ⟨rfl, hf⟩
              exact ⟨_, rfl, ⟨rfl, rfl⟩, hf⟩ },
        { args := [.one (.atom (.sym 1))], ans := .v (.one (.lit (.bool false))), ok := by
            intro B ρ w S vs hS hr
            match vs, hr with
            | [u0], ⟨z0, _⟩ =>
              obtain ⟨rfl, _⟩ : u0 = _ ∧ _ := z0
              refine (cng _).mono ?_
              rintro e w' ⟨rfl, hf⟩
              exact ⟨_, rfl, ⟨rfl, rfl⟩, hf⟩ }],
      orcT 53 [
        { args := [.one (.atom (.sym 0))], ans := .v (.one (.lit (.bool false))), ok := by
            intro B ρ w S vs hS hr
            match vs, hr with
            | [u0], ⟨z0, _⟩ =>
              obtain ⟨rfl, _⟩ : u0 = _ ∧ _ := z0
              refine (cif _).mono ?_
              rintro e w' ⟨rfl, hf⟩
              exact ⟨_, rfl, ⟨rfl, rfl⟩, hf⟩ },
        { args := [.one (.atom (.sym 1))], ans := .v (.one (.lit (.bool true))), ok := by
            intro B ρ w S vs hS hr
            match vs, hr with
            | [u0], ⟨z0, _⟩ =>
              obtain ⟨rfl, _⟩ : u0 = _ ∧ _ := z0
              refine (cig _).mono ?_
              rintro e w' ⟨rfl, hf⟩
              exact ⟨_, rfl, ⟨rfl, rfl⟩, hf⟩ }],
      orcT 57 [
        { args := [.one (.atom (.sym 0))], ans := .v (.one (.lit (.bool false))), ok := by
            intro B ρ w S vs hS hr
            match vs, hr with
            | [u0], ⟨z0, _⟩ =>
              obtain ⟨rfl, _⟩ : u0 = _ ∧ _ := z0
              refine (czf _).mono ?_
              rintro e w' ⟨rfl, hf⟩
              exact ⟨_, rfl, ⟨rfl, rfl⟩, hf⟩ },
        { args := [.one (.atom (.sym 1))], ans := .v (.one (.lit (.bool false))), ok := by
            intro B ρ w S vs hS hr
            match vs, hr with
            | [u0], ⟨z0, _⟩ =>
              obtain ⟨rfl, _⟩ : u0 = _ ∧ _ := z0
              refine (czg _).mono ?_
              rintro e w' ⟨rfl, hf⟩
              exact ⟨_, rfl, ⟨rfl, rfl⟩, hf⟩ }]], rfl⟩
    (opH_le (bigHook_le _ _) (opH_le (symHook_le _ _ _) (tabHook_le _ _)))
    (opH_ok (bigHook_ok _) (opH_ok (symHook_ok _ (fun h => by cases h) (fun h => by cases h)) (tabHook_ok _ all_nil all_nil)))
  refine (told_call (M := (DomQ true ν σ (fun _ => none))) (cx := ⟨Tryd.prog, true, t.get, orcD (add3FID ), (opH (bigHook Tryd.prog true) (opH (symHook Tryd.prog add3FIN (fun _ _ _ => none)) (tabHook (add3FIL ) add3FIM)))⟩) (xs := [.one (.atom (.sym 0)), .one (.atom (.sym 1)), .one (.atom (.sym 2))]) (vs := [.int .u64 f, .int .u64 g, .int .i64 m]) Tryd.checked.mixed hcx (fun hg => by cases hg) ⟨⟨rfl, fun _ => trivial⟩, ⟨rfl, fun _ => trivial⟩, ⟨rfl, fun _ => trivial⟩, trivial⟩ he).mono ?_
  rintro e w' ⟨v, ρ', rfl, hv, hbel⟩
  obtain ⟨us, rfl, hu⟩ := hv
  match us, hu with
  | [c0, c1], ⟨r0, r1, _⟩ =>
    obtain ⟨rfl, _⟩ : c0 = _ ∧ _ := r0
    obtain ⟨rfl, _⟩ : c1 = _ ∧ _ := r1
    exact ⟨rfl, hbel⟩

def add3FZD : List (FuncId × Ans) :=
  [(52, ansT [([.one (.atom (.sym 0))], .v (.one (.lit (.bool false)))), ([.one (.atom (.sym 1))], .v (.one (.lit (.bool false))))]),
   (53, ansT [([.one (.atom (.sym 0))], .v (.one (.lit (.bool false)))), ([.one (.atom (.sym 1))], .v (.one (.lit (.bool false))))]),
   (57, ansT [([.one (.atom (.sym 0))], .v (.one (.lit (.bool false)))), ([.one (.atom (.sym 1))], .v (.one (.lit (.bool true))))]),
   (71, ansT [([.one (.atom (.sym 0))], .v (avQ (.v 0))), ([.one (.atom (.sym 1))], .v (avQ (.v 1)))]),
   (70, ansT [([avQ (.v 0), avQ (.v 1), .one (.atom (.sym 2))], .tup [.one (.atom (.sym 3)), .one (.atom (.sym 4))])])]
def add3FZL : BT := []
def add3FZM : BT := []
def add3FZN : At → Option Nat
  | _ => none

set_option maxRecDepth 1000000 in
theorem add3FZTold : ∃ t : Tr Func, TabOK Tryd.prog t ∧ (isAV (.tup [.one (.atom (.sym 3)), .one (.atom (.sym 4))]) (evalCall ⟨Tryd.prog, true, t.get, orcD (add3FZD ), (opH (bigHook Tryd.prog true) (opH (symHook Tryd.prog add3FZN (fun _ _ _ => none)) (tabHook (add3FZL ) add3FZM)))⟩ 1000 27 [.one (.atom (.sym 0)), .one (.atom (.sym 1)), .one (.atom (.sym 2))] .e 0) = true) :=
  ⟨((((((Tr.e).put 27 (some Tryd.f27)).put 52 (some Tryd.f52)).put 53 (some Tryd.f53)).put 57 (some Tryd.f57)).put 71 (some Tryd.f71)).put 70 (some Tryd.f70),
   (TabOK.put (TabOK.put (TabOK.put (TabOK.put (TabOK.put (TabOK.put (TabOK.e _) ⟨Tryd.func27, by decide +kernel, by decide +kernel⟩) ⟨Tryd.func52, by decide +kernel, by decide +kernel⟩) ⟨Tryd.func53, by decide +kernel, by decide +kernel⟩) ⟨Tryd.func57, by decide +kernel, by decide +kernel⟩) ⟨Tryd.func71, by decide +kernel, by decide +kernel⟩) ⟨Tryd.func70, by decide +kernel, by decide +kernel⟩),
   by decide +kernel⟩

set_option maxHeartbeats 4000000 in
set_option maxRecDepth 100000 in
theorem add3FZ_tab {w : World} (m : Int) (f g : Nat) (hf : f < 18446744073709551616) (hg : g < 18446744073709551616) (Kf : fsz f ≠ 0) (Lf : fsz f < 9218868437227405312) (Kg : fsz g = 0) :
    Calls Tryd.prog 27 #[.int .u64 f, .int .u64 g, .int .i64 m] w fun e w' => e = .returned (.tuple #[.int .u64 ((addF m f g).1 : Nat), .int .i64 ((addF m f g).2 : Nat)]) ∧ Below w.heap.size w w' := by
  have cnf : ∀ (w : World), Calls Tryd.prog 52 #[.int .u64 f] w fun e w' => e = .returned (.bool false) ∧ Fwd w w' := fun w => (none3_any f hf).mono fun e w' gg => ⟨by rw [gg.1, show isNan f = false from isNan_le (by omega)], gg.2 ▸ Fwd.refl _⟩
  have cif : ∀ (w : World), Calls Tryd.prog 53 #[.int .u64 f] w fun e w' => e = .returned (.bool false) ∧ Fwd w w' := fun w => (endless3_any f hf).mono fun e w' gg => ⟨by rw [gg.1, show decide (fsz f = 9218868437227405312) = false from decide_eq_false (by omega)], gg.2 ▸ Fwd.refl _⟩
  have czf : ∀ (w : World), Calls Tryd.prog 57 #[.int .u64 f] w fun e w' => e = .returned (.bool false) ∧ Fwd w w' := fun w => (nought3_any f hf).mono fun e w' gg => ⟨by rw [gg.1, show decide (fsz f = 0) = false from decide_eq_false (by omega)], gg.2 ▸ Fwd.refl _⟩
  have cng : ∀ (w : World), Calls Tryd.prog 52 #[.int .u64 g] w fun e w' => e = .returned (.bool false) ∧ Fwd w w' := fun w => (none3_any g hg).mono fun e w' gg => ⟨by rw [gg.1, show isNan g = false from isNan_le (by omega)], gg.2 ▸ Fwd.refl _⟩
  have cig : ∀ (w : World), Calls Tryd.prog 53 #[.int .u64 g] w fun e w' => e = .returned (.bool false) ∧ Fwd w w' := fun w => (endless3_any g hg).mono fun e w' gg => ⟨by rw [gg.1, show decide (fsz g = 9218868437227405312) = false from decide_eq_false (by omega)], gg.2 ▸ Fwd.refl _⟩
  have czg : ∀ (w : World), Calls Tryd.prog 57 #[.int .u64 g] w fun e w' => e = .returned (.bool true) ∧ Fwd w w' := fun w => (nought3_any g hg).mono fun e w' gg => ⟨by rw [gg.1, show decide (fsz g = 0) = true from decide_eq_true (by omega)], gg.2 ▸ Fwd.refl _⟩
  have b1 := nr_fvQ (f := f) (by omega)
  have b2 := nr_fvQ (f := g) (by omega)
  have b3 := nr_add (fvQ f) (fvQ g)
  have hval : addF m f g = _ := addF_fin m (by omega) (by omega) (by omega)
  rw [hval]
  obtain ⟨t, ht, hr⟩ := add3FZTold
  obtain ⟨dl, n', he⟩ := isAV_ok (hr)
  let ν : Nat → Rat := nuL [fvQ f, fvQ g] []
  let σ : SymD := symL [.u f, .u g, .i m, .u (sumN m (fvQ f + fvQ g)).1, .i ((sumN m (fvQ f + fvQ g)).2 : Int)]
  have hcx : CxOK (DomQ true ν σ (fun _ => none)) w.heap.size ⟨Tryd.prog, true, t.get, orcD (add3FZD ), (opH (bigHook Tryd.prog true) (opH (symHook Tryd.prog add3FZN (fun _ _ _ => none)) (tabHook (add3FZL ) add3FZM)))⟩ := cxS_ok (M := (DomQ true ν σ (fun _ => none))) ht ⟨[
      orcT 52 [
        { args := [.one (.atom (.sym 0))], ans := .v (.one (.lit (.bool false))), ok := by
            intro B ρ w S vs hS hr
            match vs, hr with
            | [u0], ⟨z0, _⟩ =>
              obtain ⟨rfl, _⟩ : u0 = _ ∧ _ := z0
              refine (cnf _).mono ?_
              rintro e w' ⟨rfl, hf⟩
              exact ⟨_, rfl, ⟨rfl, rfl⟩, hf⟩ },
        { args := [.one (.atom (.sym 1))], ans := .v (.one (.lit (.bool false))), ok := by
            intro B ρ w S vs hS hr
            match vs, hr with
            | [u0], ⟨z0, _⟩ =>
              obtain ⟨rfl, _⟩ : u0 = _ ∧ _ := z0
              refine (cng _).mono ?_
              rintro e w' ⟨rfl, hf⟩
              exact ⟨_, rfl, ⟨rfl, rfl⟩, hf⟩ }],
      orcT 53 [
        { args := [.one (.atom (.sym 0))], ans := .v (.one (.lit (.bool false))), ok := by
            intro B ρ w S vs hS hr
            match vs, hr with
            | [u0], ⟨z0, _⟩ =>
              obtain ⟨rfl, _⟩ : u0 = _ ∧ _ := z0
              refine (cif _).mono ?_
              rintro e w' ⟨rfl, hf⟩
              exact ⟨_, rfl, ⟨rfl, rfl⟩, hf⟩ },
        { args := [.one (.atom (.sym 1))], ans := .v (.one (.lit (.bool false))), ok := by
            intro B ρ w S vs hS hr
            match vs, hr with
            | [u0], ⟨z0, _⟩ =>
              obtain ⟨rfl, _⟩ : u0 = _ ∧ _ := z0
              refine (cig _).mono ?_
              rintro e w' ⟨rfl, hf⟩
              exact ⟨_, rfl, ⟨rfl, rfl⟩, hf⟩ }],
      orcT 57 [
        { args := [.one (.atom (.sym 0))], ans := .v (.one (.lit (.bool false))), ok := by
            intro B ρ w S vs hS hr
            match vs, hr with
            | [u0], ⟨z0, _⟩ =>
              obtain ⟨rfl, _⟩ : u0 = _ ∧ _ := z0
              refine (czf _).mono ?_
              rintro e w' ⟨rfl, hf⟩
              exact ⟨_, rfl, ⟨rfl, rfl⟩, hf⟩ },
        { args := [.one (.atom (.sym 1))], ans := .v (.one (.lit (.bool true))), ok := by
            intro B ρ w S vs hS hr
            match vs, hr with
            | [u0], ⟨z0, _⟩ =>
              obtain ⟨rfl, _⟩ : u0 = _ ∧ _ := z0
              refine (czg _).mono ?_
              rintro e w' ⟨rfl, hf⟩
              exact ⟨_, rfl, ⟨rfl, rfl⟩, hf⟩ }],
      orcT 71 [
        { args := [.one (.atom (.sym 0))], ans := .v (avQ (.v 0)), ok := by
            intro B ρ w S vs hS hr
            match vs, hr with
            | [u0], ⟨z0, _⟩ =>
              obtain ⟨rfl, _⟩ : u0 = _ ∧ _ := z0
              refine (exact3_any f hf (by omega)).mono ?_
              rintro e w' ⟨x, rfl, g0, hf⟩
              exact ⟨_, rfl, (avQ_rel g0), hf⟩ },
        { args := [.one (.atom (.sym 1))], ans := .v (avQ (.v 1)), ok := by
            intro B ρ w S vs hS hr
            match vs, hr with
            | [u0], ⟨z0, _⟩ =>
              obtain ⟨rfl, _⟩ : u0 = _ ∧ _ := z0
              refine (exact3_any g hg (by omega)).mono ?_
              rintro e w' ⟨x, rfl, g0, hf⟩
              exact ⟨_, rfl, (avQ_rel g0), hf⟩ }],
      orcT 70 [
        { args := [avQ (.v 0), avQ (.v 1), .one (.atom (.sym 2))], ans := .tup [.one (.atom (.sym 3)), .one (.atom (.sym 4))], ok := by
            intro B ρ w S vs hS hr
            match vs, hr with
            | [u0, u1, u2], ⟨z0, z1, z2, _⟩ =>
              have k0 := avQ_rv z0
              have k1 := avQ_rv z1
              obtain ⟨rfl, _⟩ : u2 = _ ∧ _ := z2
              refine (sum3_any (p := fvQ f) (q := fvQ g) m k0 k1 (by omega) (by omega) (by omega)).mono ?_
              rintro e w' ⟨rfl, hf⟩
              exact ⟨_, rfl, ⟨[_, _], rfl, ⟨rfl, fun _ => trivial⟩, ⟨rfl, fun _ => trivial⟩, trivial⟩, hf⟩ }]], rfl⟩
    (opH_le (bigHook_le _ _) (opH_le (symHook_le _ _ _) (tabHook_le _ _)))
    (opH_ok (bigHook_ok _) (opH_ok (symHook_ok _ (fun h => by cases h) (fun h => by cases h)) (tabHook_ok _ all_nil all_nil)))
  refine (told_call (M := (DomQ true ν σ (fun _ => none))) (cx := ⟨Tryd.prog, true, t.get, orcD (add3FZD ), (opH (bigHook Tryd.prog true) (opH (symHook Tryd.prog add3FZN (fun _ _ _ => none)) (tabHook (add3FZL ) add3FZM)))⟩) (xs := [.one (.atom (.sym 0)), .one (.atom (.sym 1)), .one (.atom (.sym 2))]) (vs := [.int .u64 f, .int .u64 g, .int .i64 m]) Tryd.checked.mixed hcx (fun hg => by cases hg) ⟨⟨rfl, fun _ => trivial⟩, ⟨rfl, fun _ => trivial⟩, ⟨rfl, fun _ => trivial⟩, trivial⟩ he).mono ?_
  rintro e w' ⟨v, ρ', rfl, hv, hbel⟩
  obtain ⟨us, rfl, hu⟩ := hv
  match us, hu with
  | [c0, c1], ⟨r0, r1, _⟩ =>
    obtain ⟨rfl, _⟩ : c0 = _ ∧ _ := r0
    obtain ⟨rfl, _⟩ : c1 = _ ∧ _ := r1
    exact ⟨rfl, hbel⟩

def add3FFD : List (FuncId × Ans) :=
  [(52, ansT [([.one (.atom (.sym 0))], .v (.one (.lit (.bool false)))), ([.one (.atom (.sym 1))], .v (.one (.lit (.bool false))))]),
   (53, ansT [([.one (.atom (.sym 0))], .v (.one (.lit (.bool false)))), ([.one (.atom (.sym 1))], .v (.one (.lit (.bool false))))]),
   (57, ansT [([.one (.atom (.sym 0))], .v (.one (.lit (.bool false)))), ([.one (.atom (.sym 1))], .v (.one (.lit (.bool false))))]),
   (71, ansT [([.one (.atom (.sym 0))], .v (avQ (.v 0))), ([.one (.atom (.sym 1))], .v (avQ (.v 1)))]),
   (70, ansT [([avQ (.v 0), avQ (.v 1), .one (.atom (.sym 2))], .tup [.one (.atom (.sym 3)), .one (.atom (.sym 4))])])]
def add3FFL : BT := []
def add3FFM : BT := []
def add3FFN : At → Option Nat
  | _ => none

set_option maxRecDepth 1000000 in
theorem add3FFTold : ∃ t : Tr Func, TabOK Tryd.prog t ∧ (isAV (.tup [.one (.atom (.sym 3)), .one (.atom (.sym 4))]) (evalCall ⟨Tryd.prog, true, t.get, orcD (add3FFD ), (opH (bigHook Tryd.prog true) (opH (symHook Tryd.prog add3FFN (fun _ _ _ => none)) (tabHook (add3FFL ) add3FFM)))⟩ 1000 27 [.one (.atom (.sym 0)), .one (.atom (.sym 1)), .one (.atom (.sym 2))] .e 0) = true) :=
  ⟨((((((Tr.e).put 27 (some Tryd.f27)).put 52 (some Tryd.f52)).put 53 (some Tryd.f53)).put 57 (some Tryd.f57)).put 71 (some Tryd.f71)).put 70 (some Tryd.f70),
   (TabOK.put (TabOK.put (TabOK.put (TabOK.put (TabOK.put (TabOK.put (TabOK.e _) ⟨Tryd.func27, by decide +kernel, by decide +kernel⟩) ⟨Tryd.func52, by decide +kernel, by decide +kernel⟩) ⟨Tryd.func53, by decide +kernel, by decide +kernel⟩) ⟨Tryd.func57, by decide +kernel, by decide +kernel⟩) ⟨Tryd.func71, by decide +kernel, by decide +kernel⟩) ⟨Tryd.func70, by decide +kernel, by decide +kernel⟩),
   by decide +kernel⟩

set_option maxHeartbeats 4000000 in
set_option maxRecDepth 100000 in
theorem add3FF_tab {w : World} (m : Int) (f g : Nat) (hf : f < 18446744073709551616) (hg : g < 18446744073709551616) (Kf : fsz f ≠ 0) (Lf : fsz f < 9218868437227405312) (Kg : fsz g ≠ 0) (Lg : fsz g < 9218868437227405312) :
    Calls Tryd.prog 27 #[.int .u64 f, .int .u64 g, .int .i64 m] w fun e w' => e = .returned (.tuple #[.int .u64 ((addF m f g).1 : Nat), .int .i64 ((addF m f g).2 : Nat)]) ∧ Below w.heap.size w w' := by
  have cnf : ∀ (w : World), Calls Tryd.prog 52 #[.int .u64 f] w fun e w' => e = .returned (.bool false) ∧ Fwd w w' := fun w => (none3_any f hf).mono fun e w' gg => ⟨by rw [gg.1, show isNan f = false from isNan_le (by omega)], gg.2 ▸ Fwd.refl _⟩
  have cif : ∀ (w : World), Calls Tryd.prog 53 #[.int .u64 f] w fun e w' => e = .returned (.bool false) ∧ Fwd w w' := fun w => (endless3_any f hf).mono fun e w' gg => ⟨by rw [gg.1, show decide (fsz f = 9218868437227405312) = false from decide_eq_false (by omega)], gg.2 ▸ Fwd.refl _⟩
  have czf : ∀ (w : World), Calls Tryd.prog 57 #[.int .u64 f] w fun e w' => e = .returned (.bool false) ∧ Fwd w w' := fun w => (nought3_any f hf).mono fun e w' gg => ⟨by rw [gg.1, show decide (fsz f = 0) = false from decide_eq_false (by omega)], gg.2 ▸ Fwd.refl _⟩
  have cng : ∀ (w : World), Calls Tryd.prog 52 #[.int .u64 g] w fun e w' => e = .returned (.bool false) ∧ Fwd w w' := fun w => (none3_any g hg).mono fun e w' gg => ⟨by rw [gg.1, show isNan g = false from isNan_le (by omega)], gg.2 ▸ Fwd.refl _⟩
  have cig : ∀ (w : World), Calls Tryd.prog 53 #[.int .u64 g] w fun e w' => e = .returned (.bool false) ∧ Fwd w w' := fun w => (endless3_any g hg).mono fun e w' gg => ⟨by rw [gg.1, show decide (fsz g = 9218868437227405312) = false from decide_eq_false (by omega)], gg.2 ▸ Fwd.refl _⟩
  have czg : ∀ (w : World), Calls Tryd.prog 57 #[.int .u64 g] w fun e w' => e = .returned (.bool false) ∧ Fwd w w' := fun w => (nought3_any g hg).mono fun e w' gg => ⟨by rw [gg.1, show decide (fsz g = 0) = false from decide_eq_false (by omega)], gg.2 ▸ Fwd.refl _⟩
  have b1 := nr_fvQ (f := f) (by omega)
  have b2 := nr_fvQ (f := g) (by omega)
  have b3 := nr_add (fvQ f) (fvQ g)
  have hval : addF m f g = _ := addF_fin m (by omega) (by omega) (by omega)
  rw [hval]
  obtain ⟨t, ht, hr⟩ := add3FFTold
  obtain ⟨dl, n', he⟩ := isAV_ok (hr)
  let ν : Nat → Rat := nuL [fvQ f, fvQ g] []
  let σ : SymD := symL [.u f, .u g, .i m, .u (sumN m (fvQ f + fvQ g)).1, .i ((sumN m (fvQ f + fvQ g)).2 : Int)]
  have hcx : CxOK (DomQ true ν σ (fun _ => none)) w.heap.size ⟨Tryd.prog, true, t.get, orcD (add3FFD ), (opH (bigHook Tryd.prog true) (opH (symHook Tryd.prog add3FFN (fun _ _ _ => none)) (tabHook (add3FFL ) add3FFM)))⟩ := cxS_ok (M := (DomQ true ν σ (fun _ => none))) ht ⟨[
      orcT 52 [
        { args := [.one (.atom (.sym 0))], ans := .v (.one (.lit (.bool false))), ok := by
            intro B ρ w S vs hS hr
            match vs, hr with
            | [u0], ⟨z0, _⟩ =>
              obtain ⟨rfl, _⟩ : u0 = _ ∧ _ := z0
              refine (cnf _).mono ?_
              rintro e w' ⟨rfl, hf⟩
              exact ⟨_, rfl, ⟨rfl, rfl⟩, hf⟩ },
        { args := [.one (.atom (.sym 1))], ans := .v (.one (.lit (.bool false))), ok := by
            intro B ρ w S vs hS hr
            match vs, hr with
            | [u0], ⟨z0, _⟩ =>
              obtain ⟨rfl, _⟩ : u0 = _ ∧ _ := z0
              refine (cng _).mono ?_
              rintro e w' ⟨rfl, hf⟩
              exact ⟨_, rfl, ⟨rfl, rfl⟩, hf⟩ }],
      orcT 53 [
        { args := [.one (.atom (.sym 0))], ans := .v (.one (.lit (.bool false))), ok := by
            intro B ρ w S vs hS hr
            match vs, hr with
            | [u0], ⟨z0, _⟩ =>
              obtain ⟨rfl, _⟩ : u0 = _ ∧ _ := z0
              refine (cif _).mono ?_
              rintro e w' ⟨rfl, hf⟩
              exact ⟨_, rfl, ⟨rfl, rfl⟩, hf⟩ },
        { args := [.one (.atom (.sym 1))], ans := .v (.one (.lit (.bool false))), ok := by
            intro B ρ w S vs hS hr
            match vs, hr with
            | [u0], ⟨z0, _⟩ =>
              obtain ⟨rfl, _⟩ : u0 = _ ∧ _ := z0
              refine (cig _).mono ?_
              rintro e w' ⟨rfl, hf⟩
              exact ⟨_, rfl, ⟨rfl, rfl⟩, hf⟩ }],
      orcT 57 [
        { args := [.one (.atom (.sym 0))], ans := .v (.one (.lit (.bool false))), ok := by
            intro B ρ w S vs hS hr
            match vs, hr with
            | [u0], ⟨z0, _⟩ =>
              obtain ⟨rfl, _⟩ : u0 = _ ∧ _ := z0
              refine (czf _).mono ?_
              rintro e w' ⟨rfl, hf⟩
              exact ⟨_, rfl, ⟨rfl, rfl⟩, hf⟩ },
        { args := [.one (.atom (.sym 1))], ans := .v (.one (.lit (.bool false))), ok := by
            intro B ρ w S vs hS hr
            match vs, hr with
            | [u0], ⟨z0, _⟩ =>
              obtain ⟨rfl, _⟩ : u0 = _ ∧ _ := z0
              refine (czg _).mono ?_
              rintro e w' ⟨rfl, hf⟩
              exact ⟨_, rfl, ⟨rfl, rfl⟩, hf⟩ }],
      orcT 71 [
        { args := [.one (.atom (.sym 0))], ans := .v (avQ (.v 0)), ok := by
            intro B ρ w S vs hS hr
            match vs, hr with
            | [u0], ⟨z0, _⟩ =>
              obtain ⟨rfl, _⟩ : u0 = _ ∧ _ := z0
              refine (exact3_any f hf (by omega)).mono ?_
              rintro e w' ⟨x, rfl, g0, hf⟩
              exact ⟨_, rfl, (avQ_rel g0), hf⟩ },
        { args := [.one (.atom (.sym 1))], ans := .v (avQ (.v 1)), ok := by
            intro B ρ w S vs hS hr
            match vs, hr with
            | [u0], ⟨z0, _⟩ =>
              obtain ⟨rfl, _⟩ : u0 = _ ∧ _ := z0
              refine (exact3_any g hg (by omega)).mono ?_
              rintro e w' ⟨x, rfl, g0, hf⟩
              exact ⟨_, rfl, (avQ_rel g0), hf⟩ }],
      orcT 70 [
        { args := [avQ (.v 0), avQ (.v 1), .one (.atom (.sym 2))], ans := .tup [.one (.atom (.sym 3)), .one (.atom (.sym 4))], ok := by
            intro B ρ w S vs hS hr
            match vs, hr with
            | [u0, u1, u2], ⟨z0, z1, z2, _⟩ =>
              have k0 := avQ_rv z0
              have k1 := avQ_rv z1
              obtain ⟨rfl, _⟩ : u2 = _ ∧ _ := z2
              refine (sum3_any (p := fvQ f) (q := fvQ g) m k0 k1 (by omega) (by omega) (by omega)).mono ?_
              rintro e w' ⟨rfl, hf⟩
              exact ⟨_, rfl, ⟨[_, _], rfl, ⟨rfl, fun _ => trivial⟩, ⟨rfl, fun _ => trivial⟩, trivial⟩, hf⟩ }]], rfl⟩
    (opH_le (bigHook_le _ _) (opH_le (symHook_le _ _ _) (tabHook_le _ _)))
    (opH_ok (bigHook_ok _) (opH_ok (symHook_ok _ (fun h => by cases h) (fun h => by cases h)) (tabHook_ok _ all_nil all_nil)))
  refine (told_call (M := (DomQ true ν σ (fun _ => none))) (cx := ⟨Tryd.prog, true, t.get, orcD (add3FFD ), (opH (bigHook Tryd.prog true) (opH (symHook Tryd.prog add3FFN (fun _ _ _ => none)) (tabHook (add3FFL ) add3FFM)))⟩) (xs := [.one (.atom (.sym 0)), .one (.atom (.sym 1)), .one (.atom (.sym 2))]) (vs := [.int .u64 f, .int .u64 g, .int .i64 m]) Tryd.checked.mixed hcx (fun hg => by cases hg) ⟨⟨rfl, fun _ => trivial⟩, ⟨rfl, fun _ => trivial⟩, ⟨rfl, fun _ => trivial⟩, trivial⟩ he).mono ?_
  rintro e w' ⟨v, ρ', rfl, hv, hbel⟩
  obtain ⟨us, rfl, hu⟩ := hv
  match us, hu with
  | [c0, c1], ⟨r0, r1, _⟩ =>
    obtain ⟨rfl, _⟩ : c0 = _ ∧ _ := r0
    obtain ⟨rfl, _⟩ : c1 = _ ∧ _ := r1
    exact ⟨rfl, hbel⟩

def mul3NQD (sa : Bool) (sb : Bool) : List (FuncId × Ans) :=
  [(52, ansT [([.one (.atom (.sym 0))], .v (.one (.lit (.bool true))))]),
   (56, ansT [([.one (.atom (.sym 0))], .v (.one (.lit (.bool sa)))), ([.one (.atom (.sym 1))], .v (.one (.lit (.bool sb))))])]
def mul3NQL (sa : Bool) (sb : Bool) : BT := []
def mul3NQM : BT := []
def mul3NQN : At → Option Nat
  | _ => none

set_option maxRecDepth 1000000 in
theorem mul3NQTold : ∃ t : Tr Func, TabOK Tryd.prog t ∧ (∀ (sa : Bool) (sb : Bool), isAV (.tup [.one (.lit (.int .u64 9221120237041090560)), .one (.lit (.int .i64 (0)))]) (evalCall ⟨Tryd.prog, true, t.get, orcD (mul3NQD sa sb), (opH (bigHook Tryd.prog true) (opH (symHook Tryd.prog mul3NQN (fun _ _ _ => none)) (tabHook (mul3NQL sa sb) mul3NQM)))⟩ 1000 31 [.one (.atom (.sym 0)), .one (.atom (.sym 1)), .one (.atom (.sym 2))] .e 0) = true) :=
  ⟨(((Tr.e).put 31 (some Tryd.f31)).put 52 (some Tryd.f52)).put 56 (some Tryd.f56),
   (TabOK.put (TabOK.put (TabOK.put (TabOK.e _) ⟨Tryd.func31, by decide +kernel, by decide +kernel⟩) ⟨Tryd.func52, by decide +kernel, by decide +kernel⟩) ⟨Tryd.func56, by decide +kernel, by decide +kernel⟩),
   by decide +kernel⟩

set_option maxHeartbeats 4000000 in
set_option maxRecDepth 100000 in
theorem mul3NQ_tab {w : World} (m : Int) (f g : Nat) (hf : f < 18446744073709551616) (hg : g < 18446744073709551616) (Kf : isNan f = true)  {sa sb : Bool} (hsa : fneg f = sa) (hsb : fneg g = sb) :
    Calls Tryd.prog 31 #[.int .u64 f, .int .u64 g, .int .i64 m] w fun e w' => e = .returned (.tuple #[.int .u64 ((mulF m f g).1 : Nat), .int .i64 ((mulF m f g).2 : Nat)]) ∧ Below w.heap.size w w' := by
  have cnf : ∀ (w : World), Calls Tryd.prog 52 #[.int .u64 f] w fun e w' => e = .returned (.bool true) ∧ Fwd w w' := fun w => (none3_any f hf).mono fun e w' gg => ⟨by rw [gg.1, show isNan f = true from Kf], gg.2 ▸ Fwd.refl _⟩
  have cmf : ∀ (w : World), Calls Tryd.prog 56 #[.int .u64 f] w fun e w' => e = .returned (.bool sa) ∧ Fwd w w' := fun w => (minus3_any f hf).mono fun e w' gg => ⟨by rw [gg.1, hsa], gg.2 ▸ Fwd.refl _⟩
  have cmg : ∀ (w : World), Calls Tryd.prog 56 #[.int .u64 g] w fun e w' => e = .returned (.bool sb) ∧ Fwd w w' := fun w => (minus3_any g hg).mono fun e w' gg => ⟨by rw [gg.1, hsb], gg.2 ▸ Fwd.refl _⟩
  have hval : mulF m f g = _ := mulF_nan (Or.inl Kf)
  rw [hval]
  obtain ⟨t, ht, hr⟩ := mul3NQTold
  obtain ⟨dl, n', he⟩ := isAV_ok (hr sa sb)
  let ν : Nat → Rat := nuL [fvQ f, fvQ g] []
  let σ : SymD := symL [.u f, .u g, .i m]
  have hcx : CxOK (DomQ true ν σ (fun _ => none)) w.heap.size ⟨Tryd.prog, true, t.get, orcD (mul3NQD sa sb), (opH (bigHook Tryd.prog true) (opH (symHook Tryd.prog mul3NQN (fun _ _ _ => none)) (tabHook (mul3NQL sa sb) mul3NQM)))⟩ := cxS_ok (M := (DomQ true ν σ (fun _ => none))) ht ⟨[
      orcT 52 [
        { args := [.one (.atom (.sym 0))], ans := .v (.one (.lit (.bool true))), ok := by
            intro B ρ w S vs hS hr
            match vs, hr with
            | [u0], ⟨z0, _⟩ =>
              obtain ⟨rfl, _⟩ : u0 = _ ∧ _ := z0
              refine (cnf _).mono ?_
              rintro e w' ⟨rfl, hf⟩
              exact ⟨_, rfl, ⟨rfl, rfl⟩, hf⟩ }],
      orcT 56 [
        { args := [.one (.atom (.sym 0))], ans := .v (.one (.lit (.bool sa))), ok := by
            intro B ρ w S vs hS hr
            match vs, hr with
            | [u0], ⟨z0, _⟩ =>
              obtain ⟨rfl, _⟩ : u0 = _ ∧ _ := z0
              refine (cmf _).mono ?_
              rintro e w' ⟨rfl, hf⟩
              exact ⟨_, rfl, ⟨rfl, rfl⟩, hf⟩ },
        { args := [.one (.atom (.sym 1))], ans := .v (.one (.lit (.bool sb))), ok := by
            intro B ρ w S vs hS hr
            match vs, hr with
            | [u0], ⟨z0, _⟩ =>
              obtain ⟨rfl, _⟩ : u0 = _ ∧ _ := z0
              refine (cmg _).mono ?_
              rintro e w' ⟨rfl, hf⟩
              exact ⟨_, rfl, ⟨rfl, rfl⟩, hf⟩ }]], rfl⟩
    (opH_le (bigHook_le _ _) (opH_le (symHook_le _ _ _) (tabHook_le _ _)))
    (opH_ok (bigHook_ok _) (opH_ok (symHook_ok _ (fun h => by cases h) (fun h => by cases h)) (tabHook_ok _ all_nil all_nil)))
  refine (told_call (M := (DomQ true ν σ (fun _ => none))) (cx := ⟨Tryd.prog, true, t.get, orcD (mul3NQD sa sb), (opH (bigHook Tryd.prog true) (opH (symHook Tryd.prog mul3NQN (fun _ _ _ => none)) (tabHook (mul3NQL sa sb) mul3NQM)))⟩) (xs := [.one (.atom (.sym 0)), .one (.atom (.sym 1)), .one (.atom (.sym 2))]) (vs := [.int .u64 f, .int .u64 g, .int .i64 m]) Tryd.checked.mixed hcx (fun hg => by cases hg) ⟨⟨rfl, fun _ => trivial⟩, ⟨rfl, fun _ => trivial⟩, ⟨rfl, fun _ => trivial⟩, trivial⟩ he).mono ?_
  rintro e w' ⟨v, ρ', rfl, hv, hbel⟩
  obtain ⟨us, rfl, hu⟩ := hv
  match us, hu with
  | [c0, c1], ⟨r0, r1, _⟩ =>
    obtain ⟨rfl, _⟩ : c0 = _ ∧ _ := r0
    obtain ⟨rfl, _⟩ : c1 = _ ∧ _ := r1
    exact ⟨rfl, hbel⟩

def mul3AND (sa : Bool) (sb : Bool) : List (FuncId × Ans) :=
  [(52, ansT [([.one (.atom (.sym 0))], .v (.one (.lit (.bool false)))), ([.one (.atom (.sym 1))], .v (.one (.lit (.bool true))))]),
   (56, ansT [([.one (.atom (.sym 0))], .v (.one (.lit (.bool sa)))), ([.one (.atom (.sym 1))], .v (.one (.lit (.bool sb))))])]
def mul3ANL (sa : Bool) (sb : Bool) : BT := []
def mul3ANM : BT := []
def mul3ANN : At → Option Nat
  | _ => none

set_option maxRecDepth 1000000 in
theorem mul3ANTold : ∃ t : Tr Func, TabOK Tryd.prog t ∧ (∀ (sa : Bool) (sb : Bool), isAV (.tup [.one (.lit (.int .u64 9221120237041090560)), .one (.lit (.int .i64 (0)))]) (evalCall ⟨Tryd.prog, true, t.get, orcD (mul3AND sa sb), (opH (bigHook Tryd.prog true) (opH (symHook Tryd.prog mul3ANN (fun _ _ _ => none)) (tabHook (mul3ANL sa sb) mul3ANM)))⟩ 1000 31 [.one (.atom (.sym 0)), .one (.atom (.sym 1)), .one (.atom (.sym 2))] .e 0) = true) :=
  ⟨(((Tr.e).put 31 (some Tryd.f31)).put 52 (some Tryd.f52)).put 56 (some Tryd.f56),
   (TabOK.put (TabOK.put (TabOK.put (TabOK.e _) ⟨Tryd.func31, by decide +kernel, by decide +kernel⟩) ⟨Tryd.func52, by decide +kernel, by decide +kernel⟩) ⟨Tryd.func56, by decide +kernel, by decide +kernel⟩),
   by decide +kernel⟩

set_option maxHeartbeats 4000000 in
set_option maxRecDepth 100000 in
theorem mul3AN_tab {w : World} (m : Int) (f g : Nat) (hf : f < 18446744073709551616) (hg : g < 18446744073709551616) (Kf : isNan f = false) (Kg : isNan g = true) {sa sb : Bool} (hsa : fneg f = sa) (hsb : fneg g = sb) :
    Calls Tryd.prog 31 #[.int .u64 f, .int .u64 g, .int .i64 m] w fun e w' => e = .returned (.tuple #[.int .u64 ((mulF m f g).1 : Nat), .int .i64 ((mulF m f g).2 : Nat)]) ∧ Below w.heap.size w w' := by
  have cnf : ∀ (w : World), Calls Tryd.prog 52 #[.int .u64 f] w fun e w' => e = .returned (.bool false) ∧ Fwd w w' := fun w => (none3_any f hf).mono fun e w' gg => ⟨by rw [gg.1, show isNan f = false from Kf], gg.2 ▸ Fwd.refl _⟩
  have cng : ∀ (w : World), Calls Tryd.prog 52 #[.int .u64 g] w fun e w' => e = .returned (.bool true) ∧ Fwd w w' := fun w => (none3_any g hg).mono fun e w' gg => ⟨by rw [gg.1, show isNan g = true from Kg], gg.2 ▸ Fwd.refl _⟩
  have cmf : ∀ (w : World), Calls Tryd.prog 56 #[.int .u64 f] w fun e w' => e = .returned (.bool sa) ∧ Fwd w w' := fun w => (minus3_any f hf).mono fun e w' gg => ⟨by rw [gg.1, hsa], gg.2 ▸ Fwd.refl _⟩
  have cmg : ∀ (w : World), Calls Tryd.prog 56 #[.int .u64 g] w fun e w' => e = .returned (.bool sb) ∧ Fwd w w' := fun w => (minus3_any g hg).mono fun e w' gg => ⟨by rw [gg.1, hsb], gg.2 ▸ Fwd.refl _⟩
  have hval : mulF m f g = _ := mulF_nan (Or.inr Kg)
  rw [hval]
  obtain ⟨t, ht, hr⟩ := mul3ANTold
  obtain ⟨dl, n', he⟩ := isAV_ok (hr sa sb)
  let ν : Nat → Rat := nuL [fvQ f, fvQ g] []
  let σ : SymD := symL [.u f, .u g, .i m]
  have hcx : CxOK (DomQ true ν σ (fun _ => none)) w.heap.size ⟨Tryd.prog, true, t.get, orcD (mul3AND sa sb), (opH (bigHook Tryd.prog true) (opH (symHook Tryd.prog mul3ANN (fun _ _ _ => none)) (tabHook (mul3ANL sa sb) mul3ANM)))⟩ := cxS_ok (M := (DomQ true ν σ (fun _ => none))) ht ⟨[
      orcT 52 [
        { args := [.one (.atom (.sym 0))], ans := .v (.one (.lit (.bool false))), ok := by
            intro B ρ w S vs hS hr
            match vs, hr with
            | [u0], ⟨z0, _⟩ =>
              obtain ⟨rfl, _⟩ : u0 = _ ∧ _ := z0
              refine (cnf _).mono ?_
              rintro e w' ⟨rfl, hf⟩
              exact ⟨_, rfl, ⟨rfl, rfl⟩, hf⟩ },
        { args := [.one (.atom (.sym 1))], ans := .v (.one (.lit (.bool true))), ok := by
            intro B ρ w S vs hS hr
            match vs, hr with
            | [u0], ⟨z0, _⟩ =>
              obtain ⟨rfl, _⟩ : u0 = _ ∧ _ := z0
              refine (cng _).mono ?_
              rintro e w' ⟨rfl, hf⟩
              exact ⟨_, rfl, ⟨rfl, rfl⟩, hf⟩ }],
      orcT 56 [
        { args := [.one (.atom (.sym 0))], ans := .v (.one (.lit (.bool sa))), ok := by
            intro B ρ w S vs hS hr
            match vs, hr with
            | [u0], ⟨z0, _⟩ =>
              obtain ⟨rfl, _⟩ : u0 = _ ∧ _ := z0
              refine (cmf _).mono ?_
              rintro e w' ⟨rfl, hf⟩
              exact ⟨_, rfl, ⟨rfl, rfl⟩, hf⟩ },
        { args := [.one (.atom (.sym 1))], ans := .v (.one (.lit (.bool sb))), ok := by
            intro B ρ w S vs hS hr
            match vs, hr with
            | [u0], ⟨z0, _⟩ =>
              obtain ⟨rfl, _⟩ : u0 = _ ∧ _ := z0
              refine (cmg _).mono ?_
              rintro e w' ⟨rfl, hf⟩
              exact ⟨_, rfl, ⟨rfl, rfl⟩, hf⟩ }]], rfl⟩
    (opH_le (bigHook_le _ _) (opH_le (symHook_le _ _ _) (tabHook_le _ _)))
    (opH_ok (bigHook_ok _) (opH_ok (symHook_ok _ (fun h => by cases h) (fun h => by cases h)) (tabHook_ok _ all_nil all_nil)))
  refine (told_call (M := (DomQ true ν σ (fun _ => none))) (cx := ⟨Tryd.prog, true, t.get, orcD (mul3AND sa sb), (opH (bigHook Tryd.prog true) (opH (symHook Tryd.prog mul3ANN (fun _ _ _ => none)) (tabHook (mul3ANL sa sb) mul3ANM)))⟩) (xs := [.one (.atom (.sym 0)), .one (.atom (.sym 1)), .one (.atom (.sym 2))]) (vs := [.int .u64 f, .int .u64 g, .int .i64 m]) Tryd.checked.mixed hcx (fun hg => by cases hg) ⟨⟨rfl, fun _ => trivial⟩, ⟨rfl, fun _ => trivial⟩, ⟨rfl, fun _ => trivial⟩, trivial⟩ he).mono ?_
  rintro e w' ⟨v, ρ', rfl, hv, hbel⟩
  obtain ⟨us, rfl, hu⟩ := hv
  match us, hu with
  | [c0, c1], ⟨r0, r1, _⟩ =>
    obtain ⟨rfl, _⟩ : c0 = _ ∧ _ := r0
    obtain ⟨rfl, _⟩ : c1 = _ ∧ _ := r1
    exact ⟨rfl, hbel⟩

def mul3IID (sa : Bool) (sb : Bool) : List (FuncId × Ans) :=
  [(52, ansT [([.one (.atom (.sym 0))], .v (.one (.lit (.bool false)))), ([.one (.atom (.sym 1))], .v (.one (.lit (.bool false))))]),
   (53, ansT [([.one (.atom (.sym 0))], .v (.one (.lit (.bool true)))), ([.one (.atom (.sym 1))], .v (.one (.lit (.bool true))))]),
   (57, ansT [([.one (.atom (.sym 0))], .v (.one (.lit (.bool false)))), ([.one (.atom (.sym 1))], .v (.one (.lit (.bool false))))]),
   (58, ansT [([.one (.lit (.bool (sa != sb))), .one (.lit (.int .u64 9218868437227405312))], .v (.one (.atom (.sym 3))))]),
   (56, ansT [([.one (.atom (.sym 0))], .v (.one (.lit (.bool sa)))), ([.one (.atom (.sym 1))], .v (.one (.lit (.bool sb))))])]
def mul3IIL (sa : Bool) (sb : Bool) : BT := []
def mul3IIM : BT := []
def mul3IIN : At → Option Nat
  | _ => none

set_option maxRecDepth 1000000 in
theorem mul3IITold : ∃ t : Tr Func, TabOK Tryd.prog t ∧ (∀ (sa : Bool) (sb : Bool), isAV (.tup [.one (.atom (.sym 3)), .one (.lit (.int .i64 (0)))]) (evalCall ⟨Tryd.prog, true, t.get, orcD (mul3IID sa sb), (opH (bigHook Tryd.prog true) (opH (symHook Tryd.prog mul3IIN (fun _ _ _ => none)) (tabHook (mul3IIL sa sb) mul3IIM)))⟩ 1000 31 [.one (.atom (.sym 0)), .one (.atom (.sym 1)), .one (.atom (.sym 2))] .e 0) = true) :=
  ⟨((((((Tr.e).put 31 (some Tryd.f31)).put 52 (some Tryd.f52)).put 53 (some Tryd.f53)).put 57 (some Tryd.f57)).put 58 (some Tryd.f58)).put 56 (some Tryd.f56),
   (TabOK.put (TabOK.put (TabOK.put (TabOK.put (TabOK.put (TabOK.put (TabOK.e _) ⟨Tryd.func31, by decide +kernel, by decide +kernel⟩) ⟨Tryd.func52, by decide +kernel, by decide +kernel⟩) ⟨Tryd.func53, by decide +kernel, by decide +kernel⟩) ⟨Tryd.func57, by decide +kernel, by decide +kernel⟩) ⟨Tryd.func58, by decide +kernel, by decide +kernel⟩) ⟨Tryd.func56, by decide +kernel, by decide +kernel⟩),
   by decide +kernel⟩

set_option maxHeartbeats 4000000 in
set_option maxRecDepth 100000 in
theorem mul3II_tab {w : World} (m : Int) (f g : Nat) (hf : f < 18446744073709551616) (hg : g < 18446744073709551616) (Kf : fsz f = 9218868437227405312) (Kg : fsz g = 9218868437227405312) {sa sb : Bool} (hsa : fneg f = sa) (hsb : fneg g = sb) :
    Calls Tryd.prog 31 #[.int .u64 f, .int .u64 g, .int .i64 m] w fun e w' => e = .returned (.tuple #[.int .u64 ((mulF m f g).1 : Nat), .int .i64 ((mulF m f g).2 : Nat)]) ∧ Below w.heap.size w w' := by
  have cnf : ∀ (w : World), Calls Tryd.prog 52 #[.int .u64 f] w fun e w' => e = .returned (.bool false) ∧ Fwd w w' := fun w => (none3_any f hf).mono fun e w' gg => ⟨by rw [gg.1, show isNan f = false from isNan_le (by omega)], gg.2 ▸ Fwd.refl _⟩
  have cif : ∀ (w : World), Calls Tryd.prog 53 #[.int .u64 f] w fun e w' => e = .returned (.bool true) ∧ Fwd w w' := fun w => (endless3_any f hf).mono fun e w' gg => ⟨by rw [gg.1, show decide (fsz f = 9218868437227405312) = true from decide_eq_true (by omega)], gg.2 ▸ Fwd.refl _⟩
  have czf : ∀ (w : World), Calls Tryd.prog 57 #[.int .u64 f] w fun e w' => e = .returned (.bool false) ∧ Fwd w w' := fun w => (nought3_any f hf).mono fun e w' gg => ⟨by rw [gg.1, show decide (fsz f = 0) = false from decide_eq_false (by omega)], gg.2 ▸ Fwd.refl _⟩
  have cng : ∀ (w : World), Calls Tryd.prog 52 #[.int .u64 g] w fun e w' => e = .returned (.bool false) ∧ Fwd w w' := fun w => (none3_any g hg).mono fun e w' gg => ⟨by rw [gg.1, show isNan g = false from isNan_le (by omega)], gg.2 ▸ Fwd.refl _⟩
  have cig : ∀ (w : World), Calls Tryd.prog 53 #[.int .u64 g] w fun e w' => e = .returned (.bool true) ∧ Fwd w w' := fun w => (endless3_any g hg).mono fun e w' gg => ⟨by rw [gg.1, show decide (fsz g = 9218868437227405312) = true from decide_eq_true (by omega)], gg.2 ▸ Fwd.refl _⟩
  have czg : ∀ (w : World), Calls Tryd.prog 57 #[.int .u64 g] w fun e w' => e = .returned (.bool false) ∧ Fwd w w' := fun w => (nought3_any g hg).mono fun e w' gg => ⟨by rw [gg.1, show decide (fsz g = 0) = false from decide_eq_false (by omega)], gg.2 ▸ Fwd.refl _⟩
  have cS : ∀ (w : World), Calls Tryd.prog 58 #[.bool (sa != sb), .int .u64 9218868437227405312] w fun e w' => e = .returned (.int .u64 ((sgn (sa != sb) + 9218868437227405312 : Nat) : Int)) ∧ Fwd w w' := fun w => (signed3_any (sa != sb) 9218868437227405312 (by omega)).mono fun e w' gg => ⟨gg.1, gg.2 ▸ Fwd.refl _⟩
  have cmf : ∀ (w : World), Calls Tryd.prog 56 #[.int .u64 f] w fun e w' => e = .returned (.bool sa) ∧ Fwd w w' := fun w => (minus3_any f hf).mono fun e w' gg => ⟨by rw [gg.1, hsa], gg.2 ▸ Fwd.refl _⟩
  have cmg : ∀ (w : World), Calls Tryd.prog 56 #[.int .u64 g] w fun e w' => e = .returned (.bool sb) ∧ Fwd w w' := fun w => (minus3_any g hg).mono fun e w' gg => ⟨by rw [gg.1, hsb], gg.2 ▸ Fwd.refl _⟩
  have hval : mulF m f g = (sgn (sa != sb) + 9218868437227405312, 0) := by rw [mulF_val (by omega) (by omega), mulV_inf (by omega), withMul_some, rdV_inf, hsa, hsb]
  rw [hval]
  obtain ⟨t, ht, hr⟩ := mul3IITold
  obtain ⟨dl, n', he⟩ := isAV_ok (hr sa sb)
  let ν : Nat → Rat := nuL [fvQ f, fvQ g] []
  let σ : SymD := symL [.u f, .u g, .i m, .u (sgn (sa != sb) + 9218868437227405312)]
  have hcx : CxOK (DomQ true ν σ (fun _ => none)) w.heap.size ⟨Tryd.prog, true, t.get, orcD (mul3IID sa sb), (opH (bigHook Tryd.prog true) (opH (symHook Tryd.prog mul3IIN (fun _ _ _ => none)) (tabHook (mul3IIL sa sb) mul3IIM)))⟩ := cxS_ok (M := (DomQ true ν σ (fun _ => none))) ht ⟨[
      orcT 52 [
        { args := [.one (.atom (.sym 0))], ans := .v (.one (.lit (.bool false))), ok := by
            intro B ρ w S vs hS hr
            match vs, hr with
            | [u0], ⟨z0, _⟩ =>
              obtain ⟨rfl, _⟩ : u0 = _ ∧ _ := z0
              refine (cnf _).mono ?_
              rintro e w' ⟨rfl, hf⟩
              exact ⟨_, rfl, ⟨rfl, rfl⟩, hf⟩ },
        { args := [.one (.atom (.sym 1))], ans := .v (.one (.lit (.bool false))), ok := by
            intro B ρ w S vs hS hr
            match vs, hr with
            | [u0], ⟨z0, _⟩ =>
              obtain ⟨rfl, _⟩ : u0 = _ ∧ _ := z0
              refine (cng _).mono ?_
              rintro e w' ⟨rfl, hf⟩
              exact ⟨_, rfl, ⟨rfl, rfl⟩, hf⟩ }],
      orcT 53 [
        { args := [.one (.atom (.sym 0))], ans := .v (.one (.lit (.bool true))), ok := by
            intro B ρ w S vs hS hr
            match vs, hr with
            | [u0], ⟨z0, _⟩ =>
              obtain ⟨rfl, _⟩ : u0 = _ ∧ _ := z0
              refine (cif _).mono ?_
              rintro e w' ⟨rfl, hf⟩
              exact ⟨_, rfl, ⟨rfl, rfl⟩, hf⟩ },
        { args := [.one (.atom (.sym 1))], ans := .v (.one (.lit (.bool true))), ok := by
            intro B ρ w S vs hS hr
            match vs, hr with
            | [u0], ⟨z0, _⟩ =>
              obtain ⟨rfl, _⟩ : u0 = _ ∧ _ := z0
              refine (cig _).mono ?_
              rintro e w' ⟨rfl, hf⟩
              exact ⟨_, rfl, ⟨rfl, rfl⟩, hf⟩ }],
      orcT 57 [
        { args := [.one (.atom (.sym 0))], ans := .v (.one (.lit (.bool false))), ok := by
            intro B ρ w S vs hS hr
            match vs, hr with
            | [u0], ⟨z0, _⟩ =>
              obtain ⟨rfl, _⟩ : u0 = _ ∧ _ := z0
              refine (czf _).mono ?_
              rintro e w' ⟨rfl, hf⟩
              exact ⟨_, rfl, ⟨rfl, rfl⟩, hf⟩ },
        { args := [.one (.atom (.sym 1))], ans := .v (.one (.lit (.bool false))), ok := by
            intro B ρ w S vs hS hr
            match vs, hr with
            | [u0], ⟨z0, _⟩ =>
              obtain ⟨rfl, _⟩ : u0 = _ ∧ _ := z0
              refine (czg _).mono ?_
              rintro e w' ⟨rfl, hf⟩
              exact ⟨_, rfl, ⟨rfl, rfl⟩, hf⟩ }],
      orcT 58 [
        { args := [.one (.lit (.bool (sa != sb))), .one (.lit (.int .u64 9218868437227405312))], ans := .v (.one (.atom (.sym 3))), ok := by
            intro B ρ w S vs hS hr
            match vs, hr with
            | [u0, u1], ⟨z0, z1, _⟩ =>
              obtain ⟨rfl, _⟩ : u0 = _ ∧ _ := z0
              obtain ⟨rfl, _⟩ : u1 = _ ∧ _ := z1
              refine (cS _).mono ?_
              rintro e w' ⟨rfl, hf⟩
              exact ⟨_, rfl, ⟨rfl, fun _ => trivial⟩, hf⟩ }],
      orcT 56 [
        { args := [.one (.atom (.sym 0))], ans := .v (.one (.lit (.bool sa))), ok := by
            intro B ρ w S vs hS hr
            match vs, hr with
            | [u0], ⟨z0, _⟩ =>
              obtain ⟨rfl, _⟩ : u0 = _ ∧ _ := z0
              refine (cmf _).mono ?_
              rintro e w' ⟨rfl, hf⟩
              exact ⟨_, rfl, ⟨rfl, rfl⟩, hf⟩ },
        { args := [.one (.atom (.sym 1))], ans := .v (.one (.lit (.bool sb))), ok := by
            intro B ρ w S vs hS hr
            match vs, hr with
            | [u0], ⟨z0, _⟩ =>
              obtain ⟨rfl, _⟩ : u0 = _ ∧ _ := z0
              refine (cmg _).mono ?_
              rintro e w' ⟨rfl, hf⟩
              exact ⟨_, rfl, ⟨rfl, rfl⟩, hf⟩ }]], rfl⟩
    (opH_le (bigHook_le _ _) (opH_le (symHook_le _ _ _) (tabHook_le _ _)))
    (opH_ok (bigHook_ok _) (opH_ok (symHook_ok _ (fun h => by cases h) (fun h => by cases h)) (tabHook_ok _ all_nil all_nil)))
  refine (told_call (M := (DomQ true ν σ (fun _ => none))) (cx := ⟨Tryd.prog, true, t.get, orcD (mul3IID sa sb), (opH (bigHook Tryd.prog true) (opH (symHook Tryd.prog mul3IIN (fun _ _ _ => none)) (tabHook (mul3IIL sa sb) mul3IIM)))⟩) (xs := [.one (.atom (.sym 0)), .one (.atom (.sym 1)), .one (.atom (.sym 2))]) (vs := [.int .u64 f, .int .u64 g, .int .i64 m]) Tryd.checked.mixed hcx (fun hg => by cases hg) ⟨⟨rfl, fun _ => trivial⟩, ⟨rfl, fun _ => trivial⟩, ⟨rfl, fun _ => trivial⟩, trivial⟩ he).mono ?_
  rintro e w' ⟨v, ρ', rfl, hv, hbel⟩
  obtain ⟨us, rfl, hu⟩ := hv
  match us, hu with
  | [c0, c1], ⟨r0, r1, _⟩ =>
    obtain ⟨rfl, _⟩ : c0 = _ ∧ _ := r0
    obtain ⟨rfl, _⟩ : c1 = _ ∧ _ := r1
    exact ⟨rfl, hbel⟩

def mul3IZD (sa : Bool) (sb : Bool) : List (FuncId × Ans) :=
  [(52, ansT [([.one (.atom (.sym 0))], .v (.one (.lit (.bool false)))), ([.one (.atom (.sym 1))], .v (.one (.lit (.bool false))))]),
   (53, ansT [([.one (.atom (.sym 0))], .v (.one (.lit (.bool true)))), ([.one (.atom (.sym 1))], .v (.one (.lit (.bool false))))]),
   (57, ansT [([.one (.atom (.sym 0))], .v (.one (.lit (.bool false)))), ([.one (.atom (.sym 1))], .v (.one (.lit (.bool true))))]),
   (56, ansT [([.one (.atom (.sym 0))], .v (.one (.lit (.bool sa)))), ([.one (.atom (.sym 1))], .v (.one (.lit (.bool sb))))])]
def mul3IZL (sa : Bool) (sb : Bool) : BT := []
def mul3IZM : BT := []
def mul3IZN : At → Option Nat
  | _ => none

set_option maxRecDepth 1000000 in
theorem mul3IZTold : ∃ t : Tr Func, TabOK Tryd.prog t ∧ (∀ (sa : Bool) (sb : Bool), isAV (.tup [.one (.lit (.int .u64 9221120237041090560)), .one (.lit (.int .i64 (16)))]) (evalCall ⟨Tryd.prog, true, t.get, orcD (mul3IZD sa sb), (opH (bigHook Tryd.prog true) (opH (symHook Tryd.prog mul3IZN (fun _ _ _ => none)) (tabHook (mul3IZL sa sb) mul3IZM)))⟩ 1000 31 [.one (.atom (.sym 0)), .one (.atom (.sym 1)), .one (.atom (.sym 2))] .e 0) = true) :=
  ⟨(((((Tr.e).put 31 (some Tryd.f31)).put 52 (some Tryd.f52)).put 53 (some Tryd.f53)).put 57 (some Tryd.f57)).put 56 (some Tryd.f56),
   (TabOK.put (TabOK.put (TabOK.put (TabOK.put (TabOK.put (TabOK.e _) ⟨Tryd.func31, by decide +kernel, by decide +kernel⟩) ⟨Tryd.func52, by decide +kernel, by decide +kernel⟩) ⟨Tryd.func53, by decide +kernel, by decide +kernel⟩) ⟨Tryd.func57, by decide +kernel, by decide +kernel⟩) ⟨Tryd.func56, by decide +kernel, by decide +kernel⟩),
   by decide +kernel⟩

set_option maxHeartbeats 4000000 in
set_option maxRecDepth 100000 in
theorem mul3IZ_tab {w : World} (m : Int) (f g : Nat) (hf : f < 18446744073709551616) (hg : g < 18446744073709551616) (Kf : fsz f = 9218868437227405312) (Kg : fsz g = 0) {sa sb : Bool} (hsa : fneg f = sa) (hsb : fneg g = sb) :
    Calls Tryd.prog 31 #[.int .u64 f, .int .u64 g, .int .i64 m] w fun e w' => e = .returned (.tuple #[.int .u64 ((mulF m f g).1 : Nat), .int .i64 ((mulF m f g).2 : Nat)]) ∧ Below w.heap.size w w' := by
  have cnf : ∀ (w : World), Calls Tryd.prog 52 #[.int .u64 f] w fun e w' => e = .returned (.bool false) ∧ Fwd w w' := fun w => (none3_any f hf).mono fun e w' gg => ⟨by rw [gg.1, show isNan f = false from isNan_le (by omega)], gg.2 ▸ Fwd.refl _⟩
  have cif : ∀ (w : World), Calls Tryd.prog 53 #[.int .u64 f] w fun e w' => e = .returned (.bool true) ∧ Fwd w w' := fun w => (endless3_any f hf).mono fun e w' gg => ⟨by rw [gg.1, show decide (fsz f = 9218868437227405312) = true from decide_eq_true (by omega)], gg.2 ▸ Fwd.refl _⟩
  have czf : ∀ (w : World), Calls Tryd.prog 57 #[.int .u64 f] w fun e w' => e = .returned (.bool false) ∧ Fwd w w' := fun w => (nought3_any f hf).mono fun e w' gg => ⟨by rw [gg.1, show decide (fsz f = 0) = false from decide_eq_false (by omega)], gg.2 ▸ Fwd.refl _⟩
  have cng : ∀ (w : World), Calls Tryd.prog 52 #[.int .u64 g] w fun e w' => e = .returned (.bool false) ∧ Fwd w w' := fun w => (none3_any g hg).mono fun e w' gg => ⟨by rw [gg.1, show isNan g = false from isNan_le (by omega)], gg.2 ▸ Fwd.refl _⟩
  have cig : ∀ (w : World), Calls Tryd.prog 53 #[.int .u64 g] w fun e w' => e = .returned (.bool false) ∧ Fwd w w' := fun w => (endless3_any g hg).mono fun e w' gg => ⟨by rw [gg.1, show decide (fsz g = 9218868437227405312) = false from decide_eq_false (by omega)], gg.2 ▸ Fwd.refl _⟩
  have czg : ∀ (w : World), Calls Tryd.prog 57 #[.int .u64 g] w fun e w' => e = .returned (.bool true) ∧ Fwd w w' := fun w => (nought3_any g hg).mono fun e w' gg => ⟨by rw [gg.1, show decide (fsz g = 0) = true from decide_eq_true (by omega)], gg.2 ▸ Fwd.refl _⟩
  have cmf : ∀ (w : World), Calls Tryd.prog 56 #[.int .u64 f] w fun e w' => e = .returned (.bool sa) ∧ Fwd w w' := fun w => (minus3_any f hf).mono fun e w' gg => ⟨by rw [gg.1, hsa], gg.2 ▸ Fwd.refl _⟩
  have cmg : ∀ (w : World), Calls Tryd.prog 56 #[.int .u64 g] w fun e w' => e = .returned (.bool sb) ∧ Fwd w w' := fun w => (minus3_any g hg).mono fun e w' gg => ⟨by rw [gg.1, hsb], gg.2 ▸ Fwd.refl _⟩
  have hval : mulF m f g = (9221120237041090560, 16) := by rw [mulF_val (by omega) (by omega), mulV_bad (by omega)]; rfl
  rw [hval]
  obtain ⟨t, ht, hr⟩ := mul3IZTold
  obtain ⟨dl, n', he⟩ := isAV_ok (hr sa sb)
  let ν : Nat → Rat := nuL [fvQ f, fvQ g] []
  let σ : SymD := symL [.u f, .u g, .i m]
  have hcx : CxOK (DomQ true ν σ (fun _ => none)) w.heap.size ⟨Tryd.prog, true, t.get, orcD (mul3IZD sa sb), (opH (bigHook Tryd.prog true) (opH (symHook Tryd.prog mul3IZN (fun _ _ _ => none)) (tabHook (mul3IZL sa sb) mul3IZM)))⟩ := cxS_ok (M := (DomQ true ν σ (fun _ => none))) ht ⟨[
      orcT 52 [
        { args := [.one (.atom (.sym 0))], ans := .v (.one (.lit (.bool false))), ok := by
            intro B ρ w S vs hS hr
            match vs, hr with
            | [u0], ⟨z0, _⟩ =>
              obtain ⟨rfl, _⟩ : u0 = _ ∧ _ := z0
              refine (cnf _).mono ?_
              rintro e w' ⟨rfl, hf⟩
              exact ⟨_, rfl, ⟨rfl, rfl⟩, hf⟩ },
        { args := [.one (.atom (.sym 1))], ans := .v (.one (.lit (.bool false))), ok := by
            intro B ρ w S vs hS hr
            match vs, hr with
            | [u0], ⟨z0, _⟩ =>
              obtain ⟨rfl, _⟩ : u0 = _ ∧ _ := z0
              refine (cng _).mono ?_
              rintro e w' ⟨rfl, hf⟩
              exact ⟨_, rfl, ⟨rfl, rfl⟩, hf⟩ }],
      orcT 53 [
        { args := [.one (.atom (.sym 0))], ans := .v (.one (.lit (.bool true))), ok := by
            intro B ρ w S vs hS hr
            match vs, hr with
            | [u0], ⟨z0, _⟩ =>
              obtain ⟨rfl, _⟩ : u0 = _ ∧ _ := z0
              refine (cif _).mono ?_
              rintro e w' ⟨rfl, hf⟩
              exact ⟨_, rfl, ⟨rfl, rfl⟩, hf⟩ },
        { args := [.one (.atom (.sym 1))], ans := .v (.one (.lit (.bool false))), ok := by
            intro B ρ w S vs hS hr
            match vs, hr with
            | [u0], ⟨z0, _⟩ =>
              obtain ⟨rfl, _⟩ : u0 = _ ∧ _ := z0
              refine (cig _).mono ?_
              rintro e w' ⟨rfl, hf⟩
              exact ⟨_, rfl, ⟨rfl, rfl⟩, hf⟩ }],
      orcT 57 [
        { args := [.one (.atom (.sym 0))], ans := .v (.one (.lit (.bool false))), ok := by
            intro B ρ w S vs hS hr
            match vs, hr with
            | [u0], ⟨z0, _⟩ =>
              obtain ⟨rfl, _⟩ : u0 = _ ∧ _ := z0
              refine (czf _).mono ?_
              rintro e w' ⟨rfl, hf⟩
              exact ⟨_, rfl, ⟨rfl, rfl⟩, hf⟩ },
        { args := [.one (.atom (.sym 1))], ans := .v (.one (.lit (.bool true))), ok := by
            intro B ρ w S vs hS hr
            match vs, hr with
            | [u0], ⟨z0, _⟩ =>
              obtain ⟨rfl, _⟩ : u0 = _ ∧ _ := z0
              refine (czg _).mono ?_
              rintro e w' ⟨rfl, hf⟩
              exact ⟨_, rfl, ⟨rfl, rfl⟩, hf⟩ }],
      orcT 56 [
        { args := [.one (.atom (.sym 0))], ans := .v (.one (.lit (.bool sa))), ok := by
            intro B ρ w S vs hS hr
            match vs, hr with
            | [u0], ⟨z0, _⟩ =>
              obtain ⟨rfl, _⟩ : u0 = _ ∧ _ := z0
              refine (cmf _).mono ?_
              rintro e w' ⟨rfl, hf⟩
              exact ⟨_, rfl, ⟨rfl, rfl⟩, hf⟩ },
        { args := [.one (.atom (.sym 1))], ans := .v (.one (.lit (.bool sb))), ok := by
            intro B ρ w S vs hS hr
            match vs, hr with
            | [u0], ⟨z0, _⟩ =>
              obtain ⟨rfl, _⟩ : u0 = _ ∧ _ := z0
              refine (cmg _).mono ?_
              rintro e w' ⟨rfl, hf⟩
              exact ⟨_, rfl, ⟨rfl, rfl⟩, hf⟩ }]], rfl⟩
    (opH_le (bigHook_le _ _) (opH_le (symHook_le _ _ _) (tabHook_le _ _)))
    (opH_ok (bigHook_ok _) (opH_ok (symHook_ok _ (fun h => by cases h) (fun h => by cases h)) (tabHook_ok _ all_nil all_nil)))
  refine (told_call (M := (DomQ true ν σ (fun _ => none))) (cx := ⟨Tryd.prog, true, t.get, orcD (mul3IZD sa sb), (opH (bigHook Tryd.prog true) (opH (symHook Tryd.prog mul3IZN (fun _ _ _ => none)) (tabHook (mul3IZL sa sb) mul3IZM)))⟩) (xs := [.one (.atom (.sym 0)), .one (.atom (.sym 1)), .one (.atom (.sym 2))]) (vs := [.int .u64 f, .int .u64 g, .int .i64 m]) Tryd.checked.mixed hcx (fun hg => by cases hg) ⟨⟨rfl, fun _ => trivial⟩, ⟨rfl, fun _ => trivial⟩, ⟨rfl, fun _ => trivial⟩, trivial⟩ he).mono ?_
  rintro e w' ⟨v, ρ', rfl, hv, hbel⟩
  obtain ⟨us, rfl, hu⟩ := hv
  match us, hu with
  | [c0, c1], ⟨r0, r1, _⟩ =>
    obtain ⟨rfl, _⟩ : c0 = _ ∧ _ := r0
    obtain ⟨rfl, _⟩ : c1 = _ ∧ _ := r1
    exact ⟨rfl, hbel⟩

def mul3IFD (sa : Bool) (sb : Bool) : List (FuncId × Ans) :=
  [(52, ansT [([.one (.atom (.sym 0))], .v (.one (.lit (.bool false)))), ([.one (.atom (.sym 1))], .v (.one (.lit (.bool false))))]),
   (53, ansT [([.one (.atom (.sym 0))], .v (.one (.lit (.bool true)))), ([.one (.atom (.sym 1))], .v (.one (.lit (.bool false))))]),
   (57, ansT [([.one (.atom (.sym 0))], .v (.one (.lit (.bool false)))), ([.one (.atom (.sym 1))], .v (.one (.lit (.bool false))))]),
   (58, ansT [([.one (.lit (.bool (sa != sb))), .one (.lit (.int .u64 9218868437227405312))], .v (.one (.atom (.sym 3))))]),
   (56, ansT [([.one (.atom (.sym 0))], .v (.one (.lit (.bool sa)))), ([.one (.atom (.sym 1))], .v (.one (.lit (.bool sb))))])]
def mul3IFL (sa : Bool) (sb : Bool) : BT := []
def mul3IFM : BT := []
def mul3IFN : At → Option Nat
  | _ => none

set_option maxRecDepth 1000000 in
theorem mul3IFTold : ∃ t : Tr Func, TabOK Tryd.prog t ∧ (∀ (sa : Bool) (sb : Bool), isAV (.tup [.one (.atom (.sym 3)), .one (.lit (.int .i64 (0)))]) (evalCall ⟨Tryd.prog, true, t.get, orcD (mul3IFD sa sb), (opH (bigHook Tryd.prog true) (opH (symHook Tryd.prog mul3IFN (fun _ _ _ => none)) (tabHook (mul3IFL sa sb) mul3IFM)))⟩ 1000 31 [.one (.atom (.sym 0)), .one (.atom (.sym 1)), .one (.atom (.sym 2))] .e 0) = true) :=
  ⟨((((((Tr.e).put 31 (some Tryd.f31)).put 52 (some Tryd.f52)).put 53 (some Tryd.f53)).put 57 (some Tryd.f57)).put 58 (some Tryd.f58)).put 56 (some Tryd.f56),
   (TabOK.put (TabOK.put (TabOK.put (TabOK.put (TabOK.put (TabOK.put (TabOK.e _) ⟨Tryd.func31, by decide +kernel, by decide +kernel⟩) ⟨Tryd.func52, by decide +kernel, by decide +kernel⟩) ⟨Tryd.func53, by decide +kernel, by decide +kernel⟩) ⟨Tryd.func57, by decide +kernel, by decide +kernel⟩) ⟨Tryd.func58, by decide +kernel, by decide +kernel⟩) ⟨Tryd.func56, by decide +kernel, by decide +kernel⟩),
   by decide +kernel⟩

set_option maxHeartbeats 4000000 in
set_option maxRecDepth 100000 in
theorem mul3IF_tab {w : World} (m : Int) (f g : Nat) (hf : f < 18446744073709551616) (hg : g < 18446744073709551616) (Kf : fsz f = 9218868437227405312) (Kg : fsz g ≠ 0) (Lg : fsz g < 9218868437227405312) {sa sb : Bool} (hsa : fneg f = sa) (hsb : fneg g = sb) :
    Calls Tryd.prog 31 #[.int .u64 f, .int .u64 g, .int .i64 m] w fun e w' => e = .returned (.tuple #[.int .u64 ((mulF m f g).1 : Nat), .int .i64 ((mulF m f g).2 : Nat)]) ∧ Below w.heap.size w w' := by
  have cnf : ∀ (w : World), Calls Tryd.prog 52 #[.int .u64 f] w fun e w' => e = .returned (.bool false) ∧ Fwd w w' := fun w => (none3_any f hf).mono fun e w' gg => ⟨by rw [gg.1, show isNan f = false from isNan_le (by omega)], gg.2 ▸ Fwd.refl _⟩
  have cif : ∀ (w : World), Calls Tryd.prog 53 #[.int .u64 f] w fun e w' => e = .returned (.bool true) ∧ Fwd w w' := fun w => (endless3_any f hf).mono fun e w' gg => ⟨by rw [gg.1, show decide (fsz f = 9218868437227405312) = true from decide_eq_true (by omega)], gg.2 ▸ Fwd.refl _⟩
  have czf : ∀ (w : World), Calls Tryd.prog 57 #[.int .u64 f] w fun e w' => e = .returned (.bool false) ∧ Fwd w w' := fun w => (nought3_any f hf).mono fun e w' gg => ⟨by rw [gg.1, show decide (fsz f = 0) = false from decide_eq_false (by omega)], gg.2 ▸ Fwd.refl _⟩
  have cng : ∀ (w : World), Calls Tryd.prog 52 #[.int .u64 g] w fun e w' => e = .returned (.bool false) ∧ Fwd w w' := fun w => (none3_any g hg).mono fun e w' gg => ⟨by rw [gg.1, show isNan g = false from isNan_le (by omega)], gg.2 ▸ Fwd.refl _⟩
  have cig : ∀ (w : World), Calls Tryd.prog 53 #[.int .u64 g] w fun e w' => e = .returned (.bool false) ∧ Fwd w w' := fun w => (endless3_any g hg).mono fun e w' gg => ⟨by rw [gg.1, show decide (fsz g = 9218868437227405312) = false from decide_eq_false (by omega)], gg.2 ▸ Fwd.refl _⟩
  have czg : ∀ (w : World), Calls Tryd.prog 57 #[.int .u64 g] w fun e w' => e = .returned (.bool false) ∧ Fwd w w' := fun w => (nought3_any g hg).mono fun e w' gg => ⟨by rw [gg.1, show decide (fsz g = 0) = false from decide_eq_false (by omega)], gg.2 ▸ Fwd.refl _⟩
  have cS : ∀ (w : World), Calls Tryd.prog 58 #[.bool (sa != sb), .int .u64 9218868437227405312] w fun e w' => e = .returned (.int .u64 ((sgn (sa != sb) + 9218868437227405312 : Nat) : Int)) ∧ Fwd w w' := fun w => (signed3_any (sa != sb) 9218868437227405312 (by omega)).mono fun e w' gg => ⟨gg.1, gg.2 ▸ Fwd.refl _⟩
  have cmf : ∀ (w : World), Calls Tryd.prog 56 #[.int .u64 f] w fun e w' => e = .returned (.bool sa) ∧ Fwd w w' := fun w => (minus3_any f hf).mono fun e w' gg => ⟨by rw [gg.1, hsa], gg.2 ▸ Fwd.refl _⟩
  have cmg : ∀ (w : World), Calls Tryd.prog 56 #[.int .u64 g] w fun e w' => e = .returned (.bool sb) ∧ Fwd w w' := fun w => (minus3_any g hg).mono fun e w' gg => ⟨by rw [gg.1, hsb], gg.2 ▸ Fwd.refl _⟩
  have hval : mulF m f g = (sgn (sa != sb) + 9218868437227405312, 0) := by rw [mulF_val (by omega) (by omega), mulV_inf (by omega), withMul_some, rdV_inf, hsa, hsb]
  rw [hval]
  obtain ⟨t, ht, hr⟩ := mul3IFTold
  obtain ⟨dl, n', he⟩ := isAV_ok (hr sa sb)
  let ν : Nat → Rat := nuL [fvQ f, fvQ g] []
  let σ : SymD := symL [.u f, .u g, .i m, .u (sgn (sa != sb) + 9218868437227405312)]
  have hcx : CxOK (DomQ true ν σ (fun _ => none)) w.heap.size ⟨Tryd.prog, true, t.get, orcD (mul3IFD sa sb), (opH (bigHook Tryd.prog true) (opH (symHook Tryd.prog mul3IFN (fun _ _ _ => none)) (tabHook (mul3IFL sa sb) mul3IFM)))⟩ := cxS_ok (M := (DomQ true ν σ (fun _ => none))) ht ⟨[
      orcT 52 [
        { args := [.one (.atom (.sym 0))], ans := .v (.one (.lit (.bool false))), ok := by
            intro B ρ w S vs hS hr
            match vs, hr with
            | [u0], ⟨z0, _⟩ =>
              obtain ⟨rfl, _⟩ : u0 = _ ∧ _ := z0
              refine (cnf _).mono ?_
              rintro e w' ⟨rfl, hf⟩
              exact ⟨_, rfl, ⟨rfl, rfl⟩, hf⟩ },
        { args := [.one (.atom (.sym 1))], ans := .v (.one (.lit (.bool false))), ok := by
            intro B ρ w S vs hS hr
            match vs, hr with
            | [u0], ⟨z0, _⟩ =>
              obtain ⟨rfl, _⟩ : u0 = _ ∧ _ := z0
              refine (cng _).mono ?_
              rintro e w' ⟨rfl, hf⟩
              exact ⟨_, rfl, ⟨rfl, rfl⟩, hf⟩ }],
      orcT 53 [
        { args := [.one (.atom (.sym 0))], ans := .v (.one (.lit (.bool true))), ok := by
            intro B ρ w S vs hS hr
            match vs, hr with
            | [u0], ⟨z0, _⟩ =>
              obtain ⟨rfl, _⟩ : u0 = _ ∧ _ := z0
              refine (cif _).mono ?_
              rintro e w' ⟨rfl, hf⟩
              exact ⟨_, rfl, ⟨rfl, rfl⟩, hf⟩ },
        { args := [.one (.atom (.sym 1))], ans := .v (.one (.lit (.bool false))), ok := by
            intro B ρ w S vs hS hr
            match vs, hr with
            | [u0], ⟨z0, _⟩ =>
              obtain ⟨rfl, _⟩ : u0 = _ ∧ _ := z0
              refine (cig _).mono ?_
              rintro e w' ⟨rfl, hf⟩
              exact ⟨_, rfl, ⟨rfl, rfl⟩, hf⟩ }],
      orcT 57 [
        { args := [.one (.atom (.sym 0))], ans := .v (.one (.lit (.bool false))), ok := by
            intro B ρ w S vs hS hr
            match vs, hr with
            | [u0], ⟨z0, _⟩ =>
              obtain ⟨rfl, _⟩ : u0 = _ ∧ _ := z0
              refine (czf _).mono ?_
              rintro e w' ⟨rfl, hf⟩
              exact ⟨_, rfl, ⟨rfl, rfl⟩, hf⟩ },
        { args := [.one (.atom (.sym 1))], ans := .v (.one (.lit (.bool false))), ok := by
            intro B ρ w S vs hS hr
            match vs, hr with
            | [u0], ⟨z0, _⟩ =>
              obtain ⟨rfl, _⟩ : u0 = _ ∧ _ := z0
              refine (czg _).mono ?_
              rintro e w' ⟨rfl, hf⟩
              exact ⟨_, rfl, ⟨rfl, rfl⟩, hf⟩ }],
      orcT 58 [
        { args := [.one (.lit (.bool (sa != sb))), .one (.lit (.int .u64 9218868437227405312))], ans := .v (.one (.atom (.sym 3))), ok := by
            intro B ρ w S vs hS hr
            match vs, hr with
            | [u0, u1], ⟨z0, z1, _⟩ =>
              obtain ⟨rfl, _⟩ : u0 = _ ∧ _ := z0
              obtain ⟨rfl, _⟩ : u1 = _ ∧ _ := z1
              refine (cS _).mono ?_
              rintro e w' ⟨rfl, hf⟩
              exact ⟨_, rfl, ⟨rfl, fun _ => trivial⟩, hf⟩ }],
      orcT 56 [
        { args := [.one (.atom (.sym 0))], ans := .v (.one (.lit (.bool sa))), ok := by
            intro B ρ w S vs hS hr
            match vs, hr with
            | [u0], ⟨z0, _⟩ =>
              obtain ⟨rfl, _⟩ : u0 = _ ∧ _ := z0
              refine (cmf _).mono ?_
              rintro e w' ⟨rfl, hf⟩
              exact ⟨_, rfl, ⟨rfl, rfl⟩, hf⟩ },
        { args := [.one (.atom (.sym 1))], ans := .v (.one (.lit (.bool sb))), ok := by
            intro B ρ w S vs hS hr
            match vs, hr with
            | [u0], ⟨z0, _⟩ =>
              obtain ⟨rfl, _⟩ : u0 = _ ∧ _ := z0
              refine (cmg _).mono ?_
              rintro e w' ⟨rfl, hf⟩
              exact ⟨_, rfl, ⟨rfl, rfl⟩, hf⟩ }]], rfl⟩
    (opH_le (bigHook_le _ _) (opH_le (symHook_le _ _ _) (tabHook_le _ _)))
    (opH_ok (bigHook_ok _) (opH_ok (symHook_ok _ (fun h => by cases h) (fun h => by cases h)) (tabHook_ok _ all_nil all_nil)))
  refine (told_call (M := (DomQ true ν σ (fun _ => none))) (cx := ⟨Tryd.prog, true, t.get, orcD (mul3IFD sa sb), (opH (bigHook Tryd.prog true) (opH (symHook Tryd.prog mul3IFN (fun _ _ _ => none)) (tabHook (mul3IFL sa sb) mul3IFM)))⟩) (xs := [.one (.atom (.sym 0)), .one (.atom (.sym 1)), .one (.atom (.sym 2))]) (vs := [.int .u64 f, .int .u64 g, .int .i64 m]) Tryd.checked.mixed hcx (fun hg => by cases hg) ⟨⟨rfl, fun _ => trivial⟩, ⟨rfl, fun _ => trivial⟩, ⟨rfl, fun _ => trivial⟩, trivial⟩ he).mono ?_
  rintro e w' ⟨v, ρ', rfl, hv, hbel⟩
  obtain ⟨us, rfl, hu⟩ := hv
  match us, hu with
  | [c0, c1], ⟨r0, r1, _⟩ =>
    obtain ⟨rfl, _⟩ : c0 = _ ∧ _ := r0
    obtain ⟨rfl, _⟩ : c1 = _ ∧ _ := r1
    exact ⟨rfl, hbel⟩

def mul3ZID (sa : Bool) (sb : Bool) : List (FuncId × Ans) :=
  [(52, ansT [([.one (.atom (.sym 0))], .v (.one (.lit (.bool false)))), ([.one (.atom (.sym 1))], .v (.one (.lit (.bool false))))]),
   (53, ansT [([.one (.atom (.sym 0))], .v (.one (.lit (.bool false)))), ([.one (.atom (.sym 1))], .v (.one (.lit (.bool true))))]),
   (57, ansT [([.one (.atom (.sym 0))], .v (.one (.lit (.bool true)))), ([.one (.atom (.sym 1))], .v (.one (.lit (.bool false))))]),
   (56, ansT [([.one (.atom (.sym 0))], .v (.one (.lit (.bool sa)))), ([.one (.atom (.sym 1))], .v (.one (.lit (.bool sb))))])]
def mul3ZIL (sa : Bool) (sb : Bool) : BT := []
def mul3ZIM : BT := []
def mul3ZIN : At → Option Nat
  | _ => none

set_option maxRecDepth 1000000 in
theorem mul3ZITold : ∃ t : Tr Func, TabOK Tryd.prog t ∧ (∀ (sa : Bool) (sb : Bool), isAV (.tup [.one (.lit (.int .u64 9221120237041090560)), .one (.lit (.int .i64 (16)))]) (evalCall ⟨Tryd.prog, true, t.get, orcD (mul3ZID sa sb), (opH (bigHook Tryd.prog true) (opH (symHook Tryd.prog mul3ZIN (fun _ _ _ => none)) (tabHook (mul3ZIL sa sb) mul3ZIM)))⟩ 1000 31 [.one (.atom (.sym 0)), .one (.atom (.sym 1)), .one (.atom (.sym 2))] .e 0) = true) :=
  ⟨(((((Tr.e).put 31 (some Tryd.f31)).put 52 (some Tryd.f52)).put 53 (some Tryd.f53)).put 57 (some Tryd.f57)).put 56 (some Tryd.f56),
   (TabOK.put (TabOK.put (TabOK.put (TabOK.put (TabOK.put (TabOK.e _) ⟨Tryd.func31, by decide +kernel, by decide +kernel⟩) ⟨Tryd.func52, by decide +kernel, by decide +kernel⟩) ⟨Tryd.func53, by decide +kernel, by decide +kernel⟩) ⟨Tryd.func57, by decide +kernel, by decide +kernel⟩) ⟨Tryd.func56, by decide +kernel, by decide +kernel⟩),
   by decide +kernel⟩

set_option maxHeartbeats 4000000 in
set_option maxRecDepth 100000 in
theorem mul3ZI_tab {w : World} (m : Int) (f g : Nat) (hf : f < 18446744073709551616) (hg : g < 18446744073709551616) (Kf : fsz f = 0) (Kg : fsz g = 9218868437227405312) {sa sb : Bool} (hsa : fneg f = sa) (hsb : fneg g = sb) :
    Calls Tryd.prog 31 #[.int .u64 f, .int .u64 g, .int .i64 m] w fun e w' => e = .returned (.tuple #[.int .u64 ((mulF m f g).1 : Nat), .int .i64 ((mulF m f g).2 : Nat)]) ∧ Below w.heap.size w w' := by
  have cnf : ∀ (w : World), Calls Tryd.prog 52 #[.int .u64 f] w fun e w' => e = .returned (.bool false) ∧ Fwd w w' := fun w => (none3_any f hf).mono fun e w' gg => ⟨by rw [gg.1, show isNan f = false from isNan_le (by omega)], gg.2 ▸ Fwd.refl _⟩
  have cif : ∀ (w : World), Calls Tryd.prog 53 #[.int .u64 f] w fun e w' => e = .returned (.bool false) ∧ Fwd w w' := fun w => (endless3_any f hf).mono fun e w' gg => ⟨by rw [gg.1, show decide (fsz f = 9218868437227405312) = false from decide_eq_false (by omega)], gg.2 ▸ Fwd.refl _⟩
  have czf : ∀ (w : World), Calls Tryd.prog 57 #[.int .u64 f] w fun e w' => e = .returned (.bool true) ∧ Fwd w w' := fun w => (nought3_any f hf).mono fun e w' gg => ⟨by rw [gg.1, show decide (fsz f = 0) = true from decide_eq_true (by omega)], gg.2 ▸ Fwd.refl _⟩
  have cng : ∀ (w : World), Calls Tryd.prog 52 #[.int .u64 g] w fun e w' => e = .returned (.bool false) ∧ Fwd w w' := fun w => (none3_any g hg).mono fun e w' gg => ⟨by rw [gg.1, show isNan g = false from isNan_le (by omega)], gg.2 ▸ Fwd.refl _⟩
  have cig : ∀ (w : World), Calls Tryd.prog 53 #[.int .u64 g] w fun e w' => e = .returned (.bool true) ∧ Fwd w w' := fun w => (endless3_any g hg).mono fun e w' gg => ⟨by rw [gg.1, show decide (fsz g = 9218868437227405312) = true from decide_eq_true (by omega)], gg.2 ▸ Fwd.refl _⟩
  have czg : ∀ (w : World), Calls Tryd.prog 57 #[.int .u64 g] w fun e w' => e = .returned (.bool false) ∧ Fwd w w' := fun w => (nought3_any g hg).mono fun e w' gg => ⟨by rw [gg.1, show decide (fsz g = 0) = false from decide_eq_false (by omega)], gg.2 ▸ Fwd.refl _⟩
  have cmf : ∀ (w : World), Calls Tryd.prog 56 #[.int .u64 f] w fun e w' => e = .returned (.bool sa) ∧ Fwd w w' := fun w => (minus3_any f hf).mono fun e w' gg => ⟨by rw [gg.1, hsa], gg.2 ▸ Fwd.refl _⟩
  have cmg : ∀ (w : World), Calls Tryd.prog 56 #[.int .u64 g] w fun e w' => e = .returned (.bool sb) ∧ Fwd w w' := fun w => (minus3_any g hg).mono fun e w' gg => ⟨by rw [gg.1, hsb], gg.2 ▸ Fwd.refl _⟩
  have hval : mulF m f g = (9221120237041090560, 16) := by rw [mulF_val (by omega) (by omega), mulV_bad (by omega)]; rfl
  rw [hval]
  obtain ⟨t, ht, hr⟩ := mul3ZITold
  obtain ⟨dl, n', he⟩ := isAV_ok (hr sa sb)
  let ν : Nat → Rat := nuL [fvQ f, fvQ g] []
  let σ : SymD := symL [.u f, .u g, .i m]
  have hcx : CxOK (DomQ true ν σ (fun _ => none)) w.heap.size ⟨Tryd.prog, true, t.get, orcD (mul3ZID sa sb), (opH (bigHook Tryd.prog true) (opH (symHook Tryd.prog mul3ZIN (fun _ _ _ => none)) (tabHook (mul3ZIL sa sb) mul3ZIM)))⟩ := cxS_ok (M := (DomQ true ν σ (fun _ => none))) ht ⟨[
      orcT 52 [
        { args := [.one (.atom (.sym 0))], ans := .v (.one (.lit (.bool false))), ok := by
            intro B ρ w S vs hS hr
            match vs, hr with
            | [u0], ⟨z0, _⟩ =>
              obtain ⟨rfl, _⟩ : u0 = _ ∧ _ := z0
              refine (cnf _).mono ?_
              rintro e w' ⟨rfl, hf⟩
              exact ⟨_, rfl, ⟨rfl, rfl⟩, hf⟩ },
        { args := [.one (.atom (.sym 1))], ans := .v (.one (.lit (.bool false))), ok := by
            intro B ρ w S vs hS hr
            match vs, hr with
            | [u0], ⟨z0, _⟩ =>
              obtain ⟨rfl, _⟩ : u0 = _ ∧ _ := z0
              refine (cng _).mono ?_
              rintro e w' ⟨rfl, hf⟩
              exact ⟨_, rfl, ⟨rfl, rfl⟩, hf⟩ }],
      orcT 53 [
        { args := [.one (.atom (.sym 0))], ans := .v (.one (.lit (.bool false))), ok := by
            intro B ρ w S vs hS hr
            match vs, hr with
            | [u0], ⟨z0, _⟩ =>
              obtain ⟨rfl, _⟩ : u0 = _ ∧ _ := z0
              refine (cif _).mono ?_
              rintro e w' ⟨rfl, hf⟩
              exact ⟨_, rfl, ⟨rfl, rfl⟩, hf⟩ },
        { args := [.one (.atom (.sym 1))], ans := .v (.one (.lit (.bool true))), ok := by
            intro B ρ w S vs hS hr
            match vs, hr with
            | [u0], ⟨z0, _⟩ =>
              obtain ⟨rfl, _⟩ : u0 = _ ∧ _ := z0
              refine (cig _).mono ?_
              rintro e w' ⟨rfl, hf⟩
              exact ⟨_, rfl, ⟨rfl, rfl⟩, hf⟩ }],
      orcT 57 [
        { args := [.one (.atom (.sym 0))], ans := .v (.one (.lit (.bool true))), ok := by
            intro B ρ w S vs hS hr
            match vs, hr with
            | [u0], ⟨z0, _⟩ =>
              obtain ⟨rfl, _⟩ : u0 = _ ∧ _ := z0
              refine (czf _).mono ?_
              rintro e w' ⟨rfl, hf⟩
              exact ⟨_, rfl, ⟨rfl, rfl⟩, hf⟩ },
        { args := [.one (.atom (.sym 1))], ans := .v (.one (.lit (.bool false))), ok := by
            intro B ρ w S vs hS hr
            match vs, hr with
            | [u0], ⟨z0, _⟩ =>
              obtain ⟨rfl, _⟩ : u0 = _ ∧ _ := z0
              refine (czg _).mono ?_
              rintro e w' ⟨rfl, hf⟩
              exact ⟨_, rfl, ⟨rfl, rfl⟩, hf⟩ }],
      orcT 56 [
        { args := [.one (.atom (.sym 0))], ans := .v (.one (.lit (.bool sa))), ok := by
            intro B ρ w S vs hS hr
            match vs, hr with
            | [u0], ⟨z0, _⟩ =>
              obtain ⟨rfl, _⟩ : u0 = _ ∧ _ := z0
              refine (cmf _).mono ?_
              rintro e w' ⟨rfl, hf⟩
              exact ⟨_, rfl, ⟨rfl, rfl⟩, hf⟩ },
        { args := [.one (.atom (.sym 1))], ans := .v (.one (.lit (.bool sb))), ok := by
            intro B ρ w S vs hS hr
            match vs, hr with
            | [u0], ⟨z0, _⟩ =>
              obtain ⟨rfl, _⟩ : u0 = _ ∧ _ := z0
              refine (cmg _).mono ?_
              rintro e w' ⟨rfl, hf⟩
              exact ⟨_, rfl, ⟨rfl, rfl⟩, hf⟩ }]], rfl⟩
    (opH_le (bigHook_le _ _) (opH_le (symHook_le _ _ _) (tabHook_le _ _)))
    (opH_ok (bigHook_ok _) (opH_ok (symHook_ok _ (fun h => by cases h) (fun h => by cases h)) (tabHook_ok _ all_nil all_nil)))
  refine (told_call (M := (DomQ true ν σ (fun _ => none))) (cx := ⟨Tryd.prog, true, t.get, orcD (mul3ZID sa sb), (opH (bigHook Tryd.prog true) (opH (symHook Tryd.prog mul3ZIN (fun _ _ _ => none)) (tabHook (mul3ZIL sa sb) mul3ZIM)))⟩) (xs := [.one (.atom (.sym 0)), .one (.atom (.sym 1)), .one (.atom (.sym 2))]) (vs := [.int .u64 f, .int .u64 g, .int .i64 m]) Tryd.checked.mixed hcx (fun hg => by cases hg) ⟨⟨rfl, fun _ => trivial⟩, ⟨rfl, fun _ => trivial⟩, ⟨rfl, fun _ => trivial⟩, trivial⟩ he).mono ?_
  rintro e w' ⟨v, ρ', rfl, hv, hbel⟩
  obtain ⟨us, rfl, hu⟩ := hv
  match us, hu with
  | [c0, c1], ⟨r0, r1, _⟩ =>
    obtain ⟨rfl, _⟩ : c0 = _ ∧ _ := r0
    obtain ⟨rfl, _⟩ : c1 = _ ∧ _ := r1
    exact ⟨rfl, hbel⟩

def mul3ZZD (sa : Bool) (sb : Bool) : List (FuncId × Ans) :=
  [(52, ansT [([.one (.atom (.sym 0))], .v (.one (.lit (.bool false)))), ([.one (.atom (.sym 1))], .v (.one (.lit (.bool false))))]),
   (53, ansT [([.one (.atom (.sym 0))], .v (.one (.lit (.bool false)))), ([.one (.atom (.sym 1))], .v (.one (.lit (.bool false))))]),
   (57, ansT [([.one (.atom (.sym 0))], .v (.one (.lit (.bool true)))), ([.one (.atom (.sym 1))], .v (.one (.lit (.bool true))))]),
   (58, ansT [([.one (.lit (.bool (sa != sb))), .one (.lit (.int .u64 0))], .v (.one (.atom (.sym 3))))]),
   (56, ansT [([.one (.atom (.sym 0))], .v (.one (.lit (.bool sa)))), ([.one (.atom (.sym 1))], .v (.one (.lit (.bool sb))))])]
def mul3ZZL (sa : Bool) (sb : Bool) : BT := []
def mul3ZZM : BT := []
def mul3ZZN : At → Option Nat
  | _ => none

set_option maxRecDepth 1000000 in
theorem mul3ZZTold : ∃ t : Tr Func, TabOK Tryd.prog t ∧ (∀ (sa : Bool) (sb : Bool), isAV (.tup [.one (.atom (.sym 3)), .one (.lit (.int .i64 (0)))]) (evalCall ⟨Tryd.prog, true, t.get, orcD (mul3ZZD sa sb), (opH (bigHook Tryd.prog true) (opH (symHook Tryd.prog mul3ZZN (fun _ _ _ => none)) (tabHook (mul3ZZL sa sb) mul3ZZM)))⟩ 1000 31 [.one (.atom (.sym 0)), .one (.atom (.sym 1)), .one (.atom (.sym 2))] .e 0) = true) :=
  ⟨((((((Tr.e).put 31 (some Tryd.f31)).put 52 (some Tryd.f52)).put 53 (some Tryd.f53)).put 57 (some Tryd.f57)).put 58 (some Tryd.f58)).put 56 (some Tryd.f56),
   (TabOK.put (TabOK.put (TabOK.put (TabOK.put (TabOK.put (TabOK.put (TabOK.e _) ⟨Tryd.func31, by decide +kernel, by decide +kernel⟩) ⟨Tryd.func52, by decide +kernel, by decide +kernel⟩) ⟨Tryd.func53, by decide +kernel, by decide +kernel⟩) ⟨Tryd.func57, by decide +kernel, by decide +kernel⟩) ⟨Tryd.func58, by decide +kernel, by decide +kernel⟩) ⟨Tryd.func56, by decide +kernel, by decide +kernel⟩),
   by decide +kernel⟩

set_option maxHeartbeats 4000000 in
set_option maxRecDepth 100000 in
theorem mul3ZZ_tab {w : World} (m : Int) (f g : Nat) (hf : f < 18446744073709551616) (hg : g < 18446744073709551616) (Kf : fsz f = 0) (Kg : fsz g = 0) {sa sb : Bool} (hsa : fneg f = sa) (hsb : fneg g = sb) :
    Calls Tryd.prog 31 #[.int .u64 f, .int .u64 g, .int .i64 m] w fun e w' => e = .returned (.tuple #[.int .u64 ((mulF m f g).1 : Nat), .int .i64 ((mulF m f g).2 : Nat)]) ∧ Below w.heap.size w w' := by
  have cnf : ∀ (w : World), Calls Tryd.prog 52 #[.int .u64 f] w fun e w' => e = .returned (.bool false) ∧ Fwd w w' := fun w => (none3_any f hf).mono fun e w' gg => ⟨by rw [gg.1, show isNan f = false from isNan_le (by omega)], gg.2 ▸ Fwd.refl _⟩
  have cif : ∀ (w : World), Calls Tryd.prog 53 #[.int .u64 f] w fun e w' => e = .returned (.bool false) ∧ Fwd w w' := fun w => (endless3_any f hf).mono fun e w' gg => ⟨by rw [gg.1, show decide (fsz f = 9218868437227405312) = false from decide_eq_false (by omega)], gg.2 ▸ Fwd.refl _⟩
  have czf : ∀ (w : World), Calls Tryd.prog 57 #[.int .u64 f] w fun e w' => e = .returned (.bool true) ∧ Fwd w w' := fun w => (nought3_any f hf).mono fun e w' gg => ⟨by rw [gg.1, show decide (fsz f = 0) = true from decide_eq_true (by omega)], gg.2 ▸ Fwd.refl _⟩
  have cng : ∀ (w : World), Calls Tryd.prog 52 #[.int .u64 g] w fun e w' => e = .returned (.bool false) ∧ Fwd w w' := fun w => (none3_any g hg).mono fun e w' gg => ⟨by rw [gg.1, show isNan g = false from isNan_le (by omega)], gg.2 ▸ Fwd.refl _⟩
  have cig : ∀ (w : World), Calls Tryd.prog 53 #[.int .u64 g] w fun e w' => e = .returned (.bool false) ∧ Fwd w w' := fun w => (endless3_any g hg).mono fun e w' gg => ⟨by rw [gg.1, show decide (fsz g = 9218868437227405312) = false from decide_eq_false (by omega)], gg.2 ▸ Fwd.refl _⟩
  have czg : ∀ (w : World), Calls Tryd.prog 57 #[.int .u64 g] w fun e w' => e = .returned (.bool true) ∧ Fwd w w' := fun w => (nought3_any g hg).mono fun e w' gg => ⟨by rw [gg.1, show decide (fsz g = 0) = true from decide_eq_true (by omega)], gg.2 ▸ Fwd.refl _⟩
  have cS : ∀ (w : World), Calls Tryd.prog 58 #[.bool (sa != sb), .int .u64 0] w fun e w' => e = .returned (.int .u64 ((sgn (sa != sb) + 0 : Nat) : Int)) ∧ Fwd w w' := fun w => (signed3_any (sa != sb) 0 (by omega)).mono fun e w' gg => ⟨gg.1, gg.2 ▸ Fwd.refl _⟩
  have cmf : ∀ (w : World), Calls Tryd.prog 56 #[.int .u64 f] w fun e w' => e = .returned (.bool sa) ∧ Fwd w w' := fun w => (minus3_any f hf).mono fun e w' gg => ⟨by rw [gg.1, hsa], gg.2 ▸ Fwd.refl _⟩
  have cmg : ∀ (w : World), Calls Tryd.prog 56 #[.int .u64 g] w fun e w' => e = .returned (.bool sb) ∧ Fwd w w' := fun w => (minus3_any g hg).mono fun e w' gg => ⟨by rw [gg.1, hsb], gg.2 ▸ Fwd.refl _⟩
  have hval : mulF m f g = (sgn (sa != sb), 0) := by rw [mulF_val (by omega) (by omega), mulV_fin (by omega) (by omega), withMul_some, show vsz f * vsz g = 0 from by rw [vsz_zero Kf, Nat.zero_mul], rdV_nought, hsa, hsb]
  rw [hval]
  obtain ⟨t, ht, hr⟩ := mul3ZZTold
  obtain ⟨dl, n', he⟩ := isAV_ok (hr sa sb)
  let ν : Nat → Rat := nuL [fvQ f, fvQ g] []
  let σ : SymD := symL [.u f, .u g, .i m, .u (sgn (sa != sb) + 0)]
  have hcx : CxOK (DomQ true ν σ (fun _ => none)) w.heap.size ⟨Tryd.prog, true, t.get, orcD (mul3ZZD sa sb), (opH (bigHook Tryd.prog true) (opH (symHook Tryd.prog mul3ZZN (fun _ _ _ => none)) (tabHook (mul3ZZL sa sb) mul3ZZM)))⟩ := cxS_ok (M := (DomQ true ν σ (fun _ => none))) ht ⟨[
      orcT 52 [
        { args := [.one (.atom (.sym 0))], ans := .v (.one (.lit (.bool false))), ok := by
            intro B ρ w S vs hS hr
            match vs, hr with
            | [u0], ⟨z0, _⟩ =>
              obtain ⟨rfl, _⟩ : u0 = _ ∧ _ := z0
              refine (cnf _).mono ?_
              rintro e w' ⟨rfl, hf⟩
              exact ⟨_, rfl, ⟨rfl, rfl⟩, hf⟩ },
        { args := [.one (.atom (.sym 1))], ans := .v (.one (.lit (.bool false))), ok := by
            intro B ρ w S vs hS hr
            match vs, hr with
            | [u0], ⟨z0, _⟩ =>
              obtain ⟨rfl, _⟩ : u0 = _ ∧ _ := z0
              refine (cng _).mono ?_
              rintro e w' ⟨rfl, hf⟩
              exact ⟨_, rfl, ⟨rfl, rfl⟩, hf⟩ }],
      orcT 53 [
        { args := [.one (.atom (.sym 0))], ans := .v (.one (.lit (.bool false))), ok := by
            intro B ρ w S vs hS hr
            match vs, hr with
            | [u0], ⟨z0, _⟩ =>
              obtain ⟨rfl, _⟩ : u0 = _ ∧ _ := z0
              refine (cif _).mono ?_
              rintro e w' ⟨rfl, hf⟩
              exact ⟨_, rfl, ⟨rfl, rfl⟩, hf⟩ },
        { args := [.one (.atom (.sym 1))], ans := .v (.one (.lit (.bool false))), ok := by
            intro B ρ w S vs hS hr
            match vs, hr with
            | [u0], ⟨z0, _⟩ =>
              obtain ⟨rfl, _⟩ : u0 = _ ∧ _ := z0
              refine (cig _).mono ?_
              rintro e w' ⟨rfl, hf⟩
              exact ⟨_, rfl, ⟨rfl, rfl⟩, hf⟩ }],
      orcT 57 [
        { args := [.one (.atom (.sym 0))], ans := .v (.one (.lit (.bool true))), ok := by
            intro B ρ w S vs hS hr
            match vs, hr with
            | [u0], ⟨z0, _⟩ =>
              obtain ⟨rfl, _⟩ : u0 = _ ∧ _ := z0
              refine (czf _).mono ?_
              rintro e w' ⟨rfl, hf⟩
              exact ⟨_, rfl, ⟨rfl, rfl⟩, hf⟩ },
        { args := [.one (.atom (.sym 1))], ans := .v (.one (.lit (.bool true))), ok := by
            intro B ρ w S vs hS hr
            match vs, hr with
            | [u0], ⟨z0, _⟩ =>
              obtain ⟨rfl, _⟩ : u0 = _ ∧ _ := z0
              refine (czg _).mono ?_
              rintro e w' ⟨rfl, hf⟩
              exact ⟨_, rfl, ⟨rfl, rfl⟩, hf⟩ }],
      orcT 58 [
        { args := [.one (.lit (.bool (sa != sb))), .one (.lit (.int .u64 0))], ans := .v (.one (.atom (.sym 3))), ok := by
            intro B ρ w S vs hS hr
            match vs, hr with
            | [u0, u1], ⟨z0, z1, _⟩ =>
              obtain ⟨rfl, _⟩ : u0 = _ ∧ _ := z0
              obtain ⟨rfl, _⟩ : u1 = _ ∧ _ := z1
              refine (cS _).mono ?_
              rintro e w' ⟨rfl, hf⟩
              exact ⟨_, rfl, ⟨rfl, fun _ => trivial⟩, hf⟩ }],
      orcT 56 [
        { args := [.one (.atom (.sym 0))], ans := .v (.one (.lit (.bool sa))), ok := by
            intro B ρ w S vs hS hr
            match vs, hr with
            | [u0], ⟨z0, _⟩ =>
              obtain ⟨rfl, _⟩ : u0 = _ ∧ _ := z0
              refine (cmf _).mono ?_
              rintro e w' ⟨rfl, hf⟩
              exact ⟨_, rfl, ⟨rfl, rfl⟩, hf⟩ },
        { args := [.one (.atom (.sym 1))], ans := .v (.one (.lit (.bool sb))), ok := by
            intro B ρ w S vs hS hr
            match vs, hr with
            | [u0], ⟨z0, _⟩ =>
              obtain ⟨rfl, _⟩ : u0 = _ ∧ _ := z0
              refine (cmg _).mono ?_
              rintro e w' ⟨rfl, hf⟩
              exact ⟨_, rfl, ⟨rfl, rfl⟩, hf⟩ }]], rfl⟩
    (opH_le (bigHook_le _ _) (opH_le (symHook_le _ _ _) (tabHook_le _ _)))
    (opH_ok (bigHook_ok _) (opH_ok (symHook_ok _ (fun h => by cases h) (fun h => by cases h)) (tabHook_ok _ all_nil all_nil)))
  refine (told_call (M := (DomQ true ν σ (fun _ => none))) (cx := ⟨Tryd.prog, true, t.get, orcD (mul3ZZD sa sb), (opH (bigHook Tryd.prog true) (opH (symHook Tryd.prog mul3ZZN (fun _ _ _ => none)) (tabHook (mul3ZZL sa sb) mul3ZZM)))⟩) (xs := [.one (.atom (.sym 0)), .one (.atom (.sym 1)), .one (.atom (.sym 2))]) (vs := [.int .u64 f, .int .u64 g, .int .i64 m]) Tryd.checked.mixed hcx (fun hg => by cases hg) ⟨⟨rfl, fun _ => trivial⟩, ⟨rfl, fun _ => trivial⟩, ⟨rfl, fun _ => trivial⟩, trivial⟩ he).mono ?_
  rintro e w' ⟨v, ρ', rfl, hv, hbel⟩
  obtain ⟨us, rfl, hu⟩ := hv
  match us, hu with
  | [c0, c1], ⟨r0, r1, _⟩ =>
    obtain ⟨rfl, _⟩ : c0 = _ ∧ _ := r0
    obtain ⟨rfl, _⟩ : c1 = _ ∧ _ := r1
    exact ⟨rfl, hbel⟩

def mul3ZFD (sa : Bool) (sb : Bool) : List (FuncId × Ans) :=
  [(52, ansT [([.one (.atom (.sym 0))], .v (.one (.lit (.bool false)))), ([.one (.atom (.sym 1))], .v (.one (.lit (.bool false))))]),
   (53, ansT [([.one (.atom (.sym 0))], .v (.one (.lit (.bool false)))), ([.one (.atom (.sym 1))], .v (.one (.lit (.bool false))))]),
   (57, ansT [([.one (.atom (.sym 0))], .v (.one (.lit (.bool true)))), ([.one (.atom (.sym 1))], .v (.one (.lit (.bool false))))]),
   (58, ansT [([.one (.lit (.bool (sa != sb))), .one (.lit (.int .u64 0))], .v (.one (.atom (.sym 3))))]),
   (56, ansT [([.one (.atom (.sym 0))], .v (.one (.lit (.bool sa)))), ([.one (.atom (.sym 1))], .v (.one (.lit (.bool sb))))])]
def mul3ZFL (sa : Bool) (sb : Bool) : BT := []
def mul3ZFM : BT := []
def mul3ZFN : At → Option Nat
  | _ => none

set_option maxRecDepth 1000000 in
theorem mul3ZFTold : ∃ t : Tr Func, TabOK Tryd.prog t ∧ (∀ (sa : Bool) (sb : Bool), isAV (.tup [.one (.atom (.sym 3)), .one (.lit (.int .i64 (0)))]) (evalCall ⟨Tryd.prog, true, t.get, orcD (mul3ZFD sa sb), (opH (bigHook Tryd.prog true) (opH (symHook Tryd.prog mul3ZFN (fun _ _ _ => none)) (tabHook (mul3ZFL sa sb) mul3ZFM)))⟩ 1000 31 [.one (.atom (.sym 0)), .one (.atom (.sym 1)), .one (.atom (.sym 2))] .e 0) = true) :=
  ⟨((((((Tr.e).put 31 (some Tryd.f31)).put 52 (some Tryd.f52)).put 53 (some Tryd.f53)).put 57 (some Tryd.f57)).put 58 (some Tryd.f58)).put 56 (some Tryd.f56),
   (TabOK.put (TabOK.put (TabOK.put (TabOK.put (TabOK.put (TabOK.put (TabOK.e _) ⟨Tryd.func31, by decide +kernel, by decide +kernel⟩) ⟨Tryd.func52, by decide +kernel, by decide +kernel⟩) ⟨Tryd.func53, by decide +kernel, by decide +kernel⟩) ⟨Tryd.func57, by decide +kernel, by decide +kernel⟩) ⟨Tryd.func58, by decide +kernel, by decide +kernel⟩) ⟨Tryd.func56, by decide +kernel, by decide +kernel⟩),
   by decide +kernel⟩

set_option maxHeartbeats 4000000 in
set_option maxRecDepth 100000 in
theorem mul3ZF_tab {w : World} (m : Int) (f g : Nat) (hf : f < 18446744073709551616) (hg : g < 18446744073709551616) (Kf : fsz f = 0) (Kg : fsz g ≠ 0) (Lg : fsz g < 9218868437227405312) {sa sb : Bool} (hsa : fneg f = sa) (hsb : fneg g = sb) :
    Calls Tryd.prog 31 #[.int .u64 f, .int .u64 g, .int .i64 m] w fun e w' => e = .returned (.tuple #[.int .u64 ((mulF m f g).1 : Nat), .int .i64 ((mulF m f g).2 : Nat)]) ∧ Below w.heap.size w w' := by
  have cnf : ∀ (w : World), Calls Tryd.prog 52 #[.int .u64 f] w fun e w' => e = .returned (.bool false) ∧ Fwd w w' := fun w => (none3_any f hf).mono fun e w' gg => ⟨by rw [gg.1, show isNan f = false from isNan_le (by omega)], gg.2 ▸ Fwd.refl _⟩
  have cif : ∀ (w : World), Calls Tryd.prog 53 #[.int .u64 f] w fun e w' => e = .returned (.bool false) ∧ Fwd w w' := fun w => (endless3_any f hf).mono fun e w' gg => ⟨by rw [gg.1, show decide (fsz f = 9218868437227405312) = false from decide_eq_false (by omega)], gg.2 ▸ Fwd.refl _⟩
  have czf : ∀ (w : World), Calls Tryd.prog 57 #[.int .u64 f] w fun e w' => e = .returned (.bool true) ∧ Fwd w w' := fun w => (nought3_any f hf).mono fun e w' gg => ⟨by rw [gg.1, show decide (fsz f = 0) = true from decide_eq_true (by omega)], gg.2 ▸ Fwd.refl _⟩
  have cng : ∀ (w : World), Calls Tryd.prog 52 #[.int .u64 g] w fun e w' => e = .returned (.bool false) ∧ Fwd w w' := fun w => (none3_any g hg).mono fun e w' gg => ⟨by rw [gg.1, show isNan g = false from isNan_le (by omega)], gg.2 ▸ Fwd.refl _⟩
  have cig : ∀ (w : World), Calls Tryd.prog 53 #[.int .u64 g] w fun e w' => e = .returned (.bool false) ∧ Fwd w w' := fun w => (endless3_any g hg).mono fun e w' gg => ⟨by rw [gg.1, show decide (fsz g = 9218868437227405312) = false from decide_eq_false (by omega)], gg.2 ▸ Fwd.refl _⟩
  have czg : ∀ (w : World), Calls Tryd.prog 57 #[.int .u64 g] w fun e w' => e = .returned (.bool false) ∧ Fwd w w' := fun w => (nought3_any g hg).mono fun e w' gg => ⟨by rw [gg.1, show decide (fsz g = 0) = false from decide_eq_false (by omega)], gg.2 ▸ Fwd.refl _⟩
  have cS : ∀ (w : World), Calls Tryd.prog 58 #[.bool (sa != sb), .int .u64 0] w fun e w' => e = .returned (.int .u64 ((sgn (sa != sb) + 0 : Nat) : Int)) ∧ Fwd w w' := fun w => (signed3_any (sa != sb) 0 (by omega)).mono fun e w' gg => ⟨gg.1, gg.2 ▸ Fwd.refl _⟩
  have cmf : ∀ (w : World), Calls Tryd.prog 56 #[.int .u64 f] w fun e w' => e = .returned (.bool sa) ∧ Fwd w w' := fun w => (minus3_any f hf).mono fun e w' gg => ⟨by rw [gg.1, hsa], gg.2 ▸ Fwd.refl _⟩
  have cmg : ∀ (w : World), Calls Tryd.prog 56 #[.int .u64 g] w fun e w' => e = .returned (.bool sb) ∧ Fwd w w' := fun w => (minus3_any g hg).mono fun e w' gg => ⟨by rw [gg.1, hsb], gg.2 ▸ Fwd.refl _⟩
  have hval : mulF m f g = (sgn (sa != sb), 0) := by rw [mulF_val (by omega) (by omega), mulV_fin (by omega) (by omega), withMul_some, show vsz f * vsz g = 0 from by rw [vsz_zero Kf, Nat.zero_mul], rdV_nought, hsa, hsb]
  rw [hval]
  obtain ⟨t, ht, hr⟩ := mul3ZFTold
  obtain ⟨dl, n', he⟩ := isAV_ok (hr sa sb)
  let ν : Nat → Rat := nuL [fvQ f, fvQ g] []
  let σ : SymD := symL [.u f, .u g, .i m, .u (sgn (sa != sb) + 0)]
  have hcx : CxOK (DomQ true ν σ (fun _ => none)) w.heap.size ⟨Tryd.prog, true, t.get, orcD (mul3ZFD sa sb), (opH (bigHook Tryd.prog true) (opH (symHook Tryd.prog mul3ZFN (fun _ _ _ => none)) (tabHook (mul3ZFL sa sb) mul3ZFM)))⟩ := cxS_ok (M := (DomQ true ν σ (fun _ => none))) ht ⟨[
      orcT 52 [
        { args := [.one (.atom (.sym 0))], ans := .v (.one (.lit (.bool false))), ok := by
            intro B ρ w S vs hS hr
            match vs, hr with
            | [u0], ⟨z0, _⟩ =>
              obtain ⟨rfl, _⟩ : u0 = _ ∧ _ := z0
              refine (cnf _).mono ?_
              rintro e w' ⟨rfl, hf⟩
              exact ⟨_, rfl, ⟨rfl, rfl⟩, hf⟩ },
        { args := [.one (.atom (.sym 1))], ans := .v (.one (.lit (.bool false))), ok := by
            intro B ρ w S vs hS hr
            match vs, hr with
            | [u0], ⟨z0, _⟩ =>
              obtain ⟨rfl, _⟩ : u0 = _ ∧ _ := z0
              refine (cng _).mono ?_
              rintro e w' ⟨rfl, hf⟩
              exact ⟨_, rfl, ⟨rfl, rfl⟩, hf⟩ }],
      orcT 53 [
        { args := [.one (.atom (.sym 0))], ans := .v (.one (.lit (.bool false))), ok := by
            intro B ρ w S vs hS hr
            match vs, hr with
            | [u0], ⟨z0, _⟩ =>
              obtain ⟨rfl, _⟩ : u0 = _ ∧ _ := z0
              refine (cif _).mono ?_
              rintro e w' ⟨rfl, hf⟩
              exact ⟨_, rfl, ⟨rfl, rfl⟩, hf⟩ },
        { args := [.one (.atom (.sym 1))], ans := .v (.one (.lit (.bool false))), ok := by
            intro B ρ w S vs hS hr
            match vs, hr with
            | [u0], ⟨z0, _⟩ =>
              obtain ⟨rfl, _⟩ : u0 = _ ∧ _ := z0
              refine (cig _).mono ?_
              rintro e w' ⟨rfl, hf⟩
              exact ⟨_, rfl, ⟨rfl, rfl⟩, hf⟩ }],
      orcT 57 [
        { args := [.one (.atom (.sym 0))], ans := .v (.one (.lit (.bool true))), ok := by
            intro B ρ w S vs hS hr
            match vs, hr with
            | [u0], ⟨z0, _⟩ =>
              obtain ⟨rfl, _⟩ : u0 = _ ∧ _ := z0
              refine (czf _).mono ?_
              rintro e w' ⟨rfl, hf⟩
              exact ⟨_, rfl, ⟨rfl, rfl⟩, hf⟩ },
        { args := [.one (.atom (.sym 1))], ans := .v (.one (.lit (.bool false))), ok := by
            intro B ρ w S vs hS hr
            match vs, hr with
            | [u0], ⟨z0, _⟩ =>
              obtain ⟨rfl, _⟩ : u0 = _ ∧ _ := z0
              refine (czg _).mono ?_
              rintro e w' ⟨rfl, hf⟩
              exact ⟨_, rfl, ⟨rfl, rfl⟩, hf⟩ }],
      orcT 58 [
        { args := [.one (.lit (.bool (sa != sb))), .one (.lit (.int .u64 0))], ans := .v (.one (.atom (.sym 3))), ok := by
            intro B ρ w S vs hS hr
            match vs, hr with
            | [u0, u1], ⟨z0, z1, _⟩ =>
              obtain ⟨rfl, _⟩ : u0 = _ ∧ _ := z0
              obtain ⟨rfl, _⟩ : u1 = _ ∧ _ := z1
              refine (cS _).mono ?_
              rintro e w' ⟨rfl, hf⟩
              exact ⟨_, rfl, ⟨rfl, fun _ => trivial⟩, hf⟩ }],
      orcT 56 [
        { args := [.one (.atom (.sym 0))], ans := .v (.one (.lit (.bool sa))), ok := by
            intro B ρ w S vs hS hr
            match vs, hr with
            | [u0], ⟨z0, _⟩ =>
              obtain ⟨rfl, _⟩ : u0 = _ ∧ _ := z0
              refine (cmf _).mono ?_
              rintro e w' ⟨rfl, hf⟩
              exact ⟨_, rfl, ⟨rfl, rfl⟩, hf⟩ },
        { args := [.one (.atom (.sym 1))], ans := .v (.one (.lit (.bool sb))), ok := by
            intro B ρ w S vs hS hr
            match vs, hr with
            | [u0], ⟨z0, _⟩ =>
              obtain ⟨rfl, _⟩ : u0 = _ ∧ _ := z0
              refine (cmg _).mono ?_
              rintro e w' ⟨rfl, hf⟩
              exact ⟨_, rfl, ⟨rfl, rfl⟩, hf⟩ }]], rfl⟩
    (opH_le (bigHook_le _ _) (opH_le (symHook_le _ _ _) (tabHook_le _ _)))
    (opH_ok (bigHook_ok _) (opH_ok (symHook_ok _ (fun h => by cases h) (fun h => by cases h)) (tabHook_ok _ all_nil all_nil)))
  refine (told_call (M := (DomQ true ν σ (fun _ => none))) (cx := ⟨Tryd.prog, true, t.get, orcD (mul3ZFD sa sb), (opH (bigHook Tryd.prog true) (opH (symHook Tryd.prog mul3ZFN (fun _ _ _ => none)) (tabHook (mul3ZFL sa sb) mul3ZFM)))⟩) (xs := [.one (.atom (.sym 0)), .one (.atom (.sym 1)), .one (.atom (.sym 2))]) (vs := [.int .u64 f, .int .u64 g, .int .i64 m]) Tryd.checked.mixed hcx (fun hg => by cases hg) ⟨⟨rfl, fun _ => trivial⟩, ⟨rfl, fun _ => trivial⟩, ⟨rfl, fun _ => trivial⟩, trivial⟩ he).mono ?_
  rintro e w' ⟨v, ρ', rfl, hv, hbel⟩
  obtain ⟨us, rfl, hu⟩ := hv
  match us, hu with
  | [c0, c1], ⟨r0, r1, _⟩ =>
    obtain ⟨rfl, _⟩ : c0 = _ ∧ _ := r0
    obtain ⟨rfl, _⟩ : c1 = _ ∧ _ := r1
    exact ⟨rfl, hbel⟩

def mul3FID (sa : Bool) (sb : Bool) : List (FuncId × Ans) :=
  [(52, ansT [([.one (.atom (.sym 0))], .v (.one (.lit (.bool false)))), ([.one (.atom (.sym 1))], .v (.one (.lit (.bool false))))]),
   (53, ansT [([.one (.atom (.sym 0))], .v (.one (.lit (.bool false)))), ([.one (.atom (.sym 1))], .v (.one (.lit (.bool true))))]),
   (57, ansT [([.one (.atom (.sym 0))], .v (.one (.lit (.bool false)))), ([.one (.atom (.sym 1))], .v (.one (.lit (.bool false))))]),
   (58, ansT [([.one (.lit (.bool (sa != sb))), .one (.lit (.int .u64 9218868437227405312))], .v (.one (.atom (.sym 3))))]),
   (56, ansT [([.one (.atom (.sym 0))], .v (.one (.lit (.bool sa)))), ([.one (.atom (.sym 1))], .v (.one (.lit (.bool sb))))])]
def mul3FIL (sa : Bool) (sb : Bool) : BT := []
def mul3FIM : BT := []
def mul3FIN : At → Option Nat
  | _ => none

set_option maxRecDepth 1000000 in
theorem mul3FITold : ∃ t : Tr Func, TabOK Tryd.prog t ∧ (∀ (sa : Bool) (sb : Bool), isAV (.tup [.one (.atom (.sym 3)), .one (.lit (.int .i64 (0)))]) (evalCall ⟨Tryd.prog, true, t.get, orcD (mul3FID sa sb), (opH (bigHook Tryd.prog true) (opH (symHook Tryd.prog mul3FIN (fun _ _ _ => none)) (tabHook (mul3FIL sa sb) mul3FIM)))⟩ 1000 31 [.one (.atom (.sym 0)), .one (.atom (.sym 1)), .one (.atom (.sym 2))] .e 0) = true) :=
  ⟨((((((Tr.e).put 31 (some Tryd.f31)).put 52 (some Tryd.f52)).put 53 (some Tryd.f53)).put 57 (some Tryd.f57)).put 58 (some Tryd.f58)).put 56 (some Tryd.f56),
   (TabOK.put (TabOK.put (TabOK.put (TabOK.put (TabOK.put (TabOK.put (TabOK.e _) ⟨Tryd.func31, by decide +kernel, by decide +kernel⟩) ⟨Tryd.func52, by decide +kernel, by decide +kernel⟩) ⟨Tryd.func53, by decide +kernel, by decide +kernel⟩) ⟨Tryd.func57, by decide +kernel, by decide +kernel⟩) ⟨Tryd.func58, by decide +kernel, by decide +kernel⟩) ⟨Tryd.func56, by decide +kernel, by decide +kernel⟩),
   by decide +kernel⟩

set_option maxHeartbeats 4000000 in
set_option maxRecDepth 100000 in
theorem mul3FI_tab {w : World} (m : Int) (f g : Nat) (hf : f < 18446744073709551616) (hg : g < 18446744073709551616) (Kf : fsz f ≠ 0) (Lf : fsz f < 9218868437227405312) (Kg : fsz g = 9218868437227405312) {sa sb : Bool} (hsa : fneg f = sa) (hsb : fneg g = sb) :
    Calls Tryd.prog 31 #[.int .u64 f, .int .u64 g, .int .i64 m] w fun e w' => e = .returned (.tuple #[.int .u64 ((mulF m f g).1 : Nat), .int .i64 ((mulF m f g).2 : Nat)]) ∧ Below w.heap.size w w' := by
  have cnf : ∀ (w : World), Calls Tryd.prog 52 #[.int .u64 f] w fun e w' => e = .returned (.bool false) ∧ Fwd w w' := fun w => (none3_any f hf).mono fun e w' gg => ⟨by rw [gg.1, show isNan f = false from isNan_le (by omega)], gg.2 ▸ Fwd.refl _⟩
  have cif : ∀ (w : World), Calls Tryd.prog 53 #[.int .u64 f] w fun e w' => e = .returned (.bool false) ∧ Fwd w w' := fun w => (endless3_any f hf).mono fun e w' gg => ⟨by rw [gg.1, show decide (fsz f = 9218868437227405312) = false from decide_eq_false (by omega)], gg.2 ▸ Fwd.refl _⟩
  have czf : ∀ (w : World), Calls Tryd.prog 57 #[.int .u64 f] w fun e w' => e = .returned (.bool false) ∧ Fwd w w' := fun w => (nought3_any f hf).mono fun e w' gg => ⟨by rw [gg.1, show decide (fsz f = 0) = false from decide_eq_false (by omega)], gg.2 ▸ Fwd.refl _⟩
  have cng : ∀ (w : World), Calls Tryd.prog 52 #[.int .u64 g] w fun e w' => e = .returned (.bool false) ∧ Fwd w w' := fun w => (none3_any g hg).mono fun e w' gg => ⟨by rw [gg.1, show isNan g = false from isNan_le (by omega)], gg.2 ▸ Fwd.refl _⟩
  have cig : ∀ (w : World), Calls Tryd.prog 53 #[.int .u64 g] w fun e w' => e = .returned (.bool true) ∧ Fwd w w' := fun w => (endless3_any g hg).mono fun e w' gg => ⟨by rw [gg.1, show decide (fsz g = 9218868437227405312) = true from decide_eq_true (by omega)], gg.2 ▸ Fwd.refl _⟩
  have czg : ∀ (w : World), Calls Tryd.prog 57 #[.int .u64 g] w fun e w' => e = .returned (.bool false) ∧ Fwd w w' := fun w => (nought3_any g hg).mono fun e w' gg => ⟨by rw [gg.1, show decide (fsz g = 0) = false from decide_eq_false (by omega)], gg.2 ▸ Fwd.refl _⟩
  have cS : ∀ (w : World), Calls Tryd.prog 58 #[.bool (sa != sb), .int .u64 9218868437227405312] w fun e w' => e = .returned (.int .u64 ((sgn (sa != sb) + 9218868437227405312 : Nat) : Int)) ∧ Fwd w w' := fun w => (signed3_any (sa != sb) 9218868437227405312 (by omega)).mono fun e w' gg => ⟨gg.1, gg.2 ▸ Fwd.refl _⟩
  have cmf : ∀ (w : World), Calls Tryd.prog 56 #[.int .u64 f] w fun e w' => e = .returned (.bool sa) ∧ Fwd w w' := fun w => (minus3_any f hf).mono fun e w' gg => ⟨by rw [gg.1, hsa], gg.2 ▸ Fwd.refl _⟩
  have cmg : ∀ (w : World), Calls Tryd.prog 56 #[.int .u64 g] w fun e w' => e = .returned (.bool sb) ∧ Fwd w w' := fun w => (minus3_any g hg).mono fun e w' gg => ⟨by rw [gg.1, hsb], gg.2 ▸ Fwd.refl _⟩
  have hval : mulF m f g = (sgn (sa != sb) + 9218868437227405312, 0) := by rw [mulF_val (by omega) (by omega), mulV_inf (by omega), withMul_some, rdV_inf, hsa, hsb]
  rw [hval]
  obtain ⟨t, ht, hr⟩ := mul3FITold
  obtain ⟨dl, n', he⟩ := isAV_ok (hr sa sb)
  let ν : Nat → Rat := nuL [fvQ f, fvQ g] []
  let σ : SymD := symL [.u f, .u g, .i m, .u (sgn (sa != sb) + 9218868437227405312)]
  have hcx : CxOK (DomQ true ν σ (fun _ => none)) w.heap.size ⟨Tryd.prog, true, t.get, orcD (mul3FID sa sb), (opH (bigHook Tryd.prog true) (opH (symHook Tryd.prog mul3FIN (fun _ _ _ => none)) (tabHook (mul3FIL sa sb) mul3FIM)))⟩ := cxS_ok (M := (DomQ true ν σ (fun _ => none))) ht ⟨[
      orcT 52 [
        { args := [.one (.atom (.sym 0))], ans := .v (.one (.lit (.bool false))), ok := by
            intro B ρ w S vs hS hr
            match vs, hr with
            | [u0], ⟨z0, _⟩ =>
              obtain ⟨rfl, _⟩ : u0 = _ ∧ _ := z0
              refine (cnf _).mono ?_
              rintro e w' ⟨rfl, hf⟩
              exact ⟨_, rfl, ⟨rfl, rfl⟩, hf⟩ },
        { args := [.one (.atom (.sym 1))], ans := .v (.one (.lit (.bool false))), ok := by
            intro B ρ w S vs hS hr
            match vs, hr with
            | [u0], ⟨z0, _⟩ =>
              obtain ⟨rfl, _⟩ : u0 = _ ∧ _ := z0
              refine (cng _).mono ?_
              rintro e w' ⟨rfl, hf⟩
              exact ⟨_, rfl, ⟨rfl, rfl⟩, hf⟩ }],
      orcT 53 [
        { args := [.one (.atom (.sym 0))], ans := .v (.one (.lit (.bool false))), ok := by
            intro B ρ w S vs hS hr
            match vs, hr with
            | [u0], ⟨z0, _⟩ =>
              obtain ⟨rfl, _⟩ : u0 = _ ∧ _ := z0
              refine (cif _).mono ?_
              rintro e w' ⟨rfl, hf⟩
              exact ⟨_, rfl, ⟨rfl, rfl⟩, hf⟩ },
        { args := [.one (.atom (.sym 1))], ans := .v (.one (.lit (.bool true))), ok := by
            intro B ρ w S vs hS hr
            match vs, hr with
            | [u0], ⟨z0, _⟩ =>
              obtain ⟨rfl, _⟩ : u0 = _ ∧ _ := z0
              refine (cig _).mono ?_
              rintro e w' ⟨rfl, hf⟩
              exact ⟨_, rfl, ⟨rfl, rfl⟩, hf⟩ }],
      orcT 57 [
        { args := [.one (.atom (.sym 0))], ans := .v (.one (.lit (.bool false))), ok := by
            intro B ρ w S vs hS hr
            match vs, hr with
            | [u0], ⟨z0, _⟩ =>
              obtain ⟨rfl, _⟩ : u0 = _ ∧ _ := z0
              refine (czf _).mono ?_
              rintro e w' ⟨rfl, hf⟩
              exact ⟨_, rfl, ⟨rfl, rfl⟩, hf⟩ },
        { args := [.one (.atom (.sym 1))], ans := .v (.one (.lit (.bool false))), ok := by
            intro B ρ w S vs hS hr
            match vs, hr with
            | [u0], ⟨z0, _⟩ =>
              obtain ⟨rfl, _⟩ : u0 = _ ∧ _ := z0
              refine (czg _).mono ?_
              rintro e w' ⟨rfl, hf⟩
              exact ⟨_, rfl, ⟨rfl, rfl⟩, hf⟩ }],
      orcT 58 [
        { args := [.one (.lit (.bool (sa != sb))), .one (.lit (.int .u64 9218868437227405312))], ans := .v (.one (.atom (.sym 3))), ok := by
            intro B ρ w S vs hS hr
            match vs, hr with
            | [u0, u1], ⟨z0, z1, _⟩ =>
              obtain ⟨rfl, _⟩ : u0 = _ ∧ _ := z0
              obtain ⟨rfl, _⟩ : u1 = _ ∧ _ := z1
              refine (cS _).mono ?_
              rintro e w' ⟨rfl, hf⟩
              exact ⟨_, rfl, ⟨rfl, fun _ => trivial⟩, hf⟩ }],
      orcT 56 [
        { args := [.one (.atom (.sym 0))], ans := .v (.one (.lit (.bool sa))), ok := by
            intro B ρ w S vs hS hr
            match vs, hr with
            | [u0], ⟨z0, _⟩ =>
              obtain ⟨rfl, _⟩ : u0 = _ ∧ _ := z0
              refine (cmf _).mono ?_
              rintro e w' ⟨rfl, hf⟩
              exact ⟨_, rfl, ⟨rfl, rfl⟩, hf⟩ },
        { args := [.one (.atom (.sym 1))], ans := .v (.one (.lit (.bool sb))), ok := by
            intro B ρ w S vs hS hr
            match vs, hr with
            | [u0], ⟨z0, _⟩ =>
              obtain ⟨rfl, _⟩ : u0 = _ ∧ _ := z0
              refine (cmg _).mono ?_
              rintro e w' ⟨rfl, hf⟩
              exact ⟨_, rfl, ⟨rfl, rfl⟩, hf⟩ }]], rfl⟩
    (opH_le (bigHook_le _ _) (opH_le (symHook_le _ _ _) (tabHook_le _ _)))
    (opH_ok (bigHook_ok _) (opH_ok (symHook_ok _ (fun h => by cases h) (fun h => by cases h)) (tabHook_ok _ all_nil all_nil)))
  refine (told_call (M := (DomQ true ν σ (fun _ => none))) (cx := ⟨Tryd.prog, true, t.get, orcD (mul3FID sa sb), (opH (bigHook Tryd.prog true) (opH (symHook Tryd.prog mul3FIN (fun _ _ _ => none)) (tabHook (mul3FIL sa sb) mul3FIM)))⟩) (xs := [.one (.atom (.sym 0)), .one (.atom (.sym 1)), .one (.atom (.sym 2))]) (vs := [.int .u64 f, .int .u64 g, .int .i64 m]) Tryd.checked.mixed hcx (fun hg => by cases hg) ⟨⟨rfl, fun _ => trivial⟩, ⟨rfl, fun _ => trivial⟩, ⟨rfl, fun _ => trivial⟩, trivial⟩ he).mono ?_
  rintro e w' ⟨v, ρ', rfl, hv, hbel⟩
  obtain ⟨us, rfl, hu⟩ := hv
  match us, hu with
  | [c0, c1], ⟨r0, r1, _⟩ =>
    obtain ⟨rfl, _⟩ : c0 = _ ∧ _ := r0
    obtain ⟨rfl, _⟩ : c1 = _ ∧ _ := r1
    exact ⟨rfl, hbel⟩

def mul3FZD (sa : Bool) (sb : Bool) : List (FuncId × Ans) :=
  [(52, ansT [([.one (.atom (.sym 0))], .v (.one (.lit (.bool false)))), ([.one (.atom (.sym 1))], .v (.one (.lit (.bool false))))]),
   (53, ansT [([.one (.atom (.sym 0))], .v (.one (.lit (.bool false)))), ([.one (.atom (.sym 1))], .v (.one (.lit (.bool false))))]),
   (57, ansT [([.one (.atom (.sym 0))], .v (.one (.lit (.bool false)))), ([.one (.atom (.sym 1))], .v (.one (.lit (.bool true))))]),
   (58, ansT [([.one (.lit (.bool (sa != sb))), .one (.lit (.int .u64 0))], .v (.one (.atom (.sym 3))))]),
   (56, ansT [([.one (.atom (.sym 0))], .v (.one (.lit (.bool sa)))), ([.one (.atom (.sym 1))], .v (.one (.lit (.bool sb))))])]
def mul3FZL (sa : Bool) (sb : Bool) : BT := []
def mul3FZM : BT := []
def mul3FZN : At → Option Nat
  | _ => none

set_option maxRecDepth 1000000 in
theorem mul3FZTold : ∃ t : Tr Func, TabOK Tryd.prog t ∧ (∀ (sa : Bool) (sb : Bool), isAV (.tup [.one (.atom (.sym 3)), .one (.lit (.int .i64 (0)))]) (evalCall ⟨Tryd.prog, true, t.get, orcD (mul3FZD sa sb), (opH (bigHook Tryd.prog true) (opH (symHook Tryd.prog mul3FZN (fun _ _ _ => none)) (tabHook (mul3FZL sa sb) mul3FZM)))⟩ 1000 31 [.one (.atom (.sym 0)), .one (.atom (.sym 1)), .one (.atom (.sym 2))] .e 0) = true) :=
  ⟨((((((Tr.e).put 31 (some Tryd.f31)).put 52 (some Tryd.f52)).put 53 (some Tryd.f53)).put 57 (some Tryd.f57)).put 58 (some Tryd.f58)).put 56 (some Tryd.f56),
   (TabOK.put (TabOK.put (TabOK.put (TabOK.put (TabOK.put (TabOK.put (TabOK.e _) ⟨Tryd.func31, by decide +kernel, by decide +kernel⟩) ⟨Tryd.func52, by decide +kernel, by decide +kernel⟩) ⟨Tryd.func53, by decide +kernel, by decide +kernel⟩) ⟨Tryd.func57, by decide +kernel, by decide +kernel⟩) ⟨Tryd.func58, by decide +kernel, by decide +kernel⟩) ⟨Tryd.func56, by decide +kernel, by decide +kernel⟩),
   by decide +kernel⟩

set_option maxHeartbeats 4000000 in
set_option maxRecDepth 100000 in
theorem mul3FZ_tab {w : World} (m : Int) (f g : Nat) (hf : f < 18446744073709551616) (hg : g < 18446744073709551616) (Kf : fsz f ≠ 0) (Lf : fsz f < 9218868437227405312) (Kg : fsz g = 0) {sa sb : Bool} (hsa : fneg f = sa) (hsb : fneg g = sb) :
    Calls Tryd.prog 31 #[.int .u64 f, .int .u64 g, .int .i64 m] w fun e w' => e = .returned (.tuple #[.int .u64 ((mulF m f g).1 : Nat), .int .i64 ((mulF m f g).2 : Nat)]) ∧ Below w.heap.size w w' := by
  have cnf : ∀ (w : World), Calls Tryd.prog 52 #[.int .u64 f] w fun e w' => e = .returned (.bool false) ∧ Fwd w w' := fun w => (none3_any f hf).mono fun e w' gg => ⟨by rw [gg.1, show isNan f = false from isNan_le (by omega)], gg.2 ▸ Fwd.refl _⟩
  have cif : ∀ (w : World), Calls Tryd.prog 53 #[.int .u64 f] w fun e w' => e = .returned (.bool false) ∧ Fwd w w' := fun w => (endless3_any f hf).mono fun e w' gg => ⟨by rw [gg.1, show decide (fsz f = 9218868437227405312) = false from decide_eq_false (by omega)], gg.2 ▸ Fwd.refl _⟩
  have czf : ∀ (w : World), Calls Tryd.prog 57 #[.int .u64 f] w fun e w' => e = .returned (.bool false) ∧ Fwd w w' := fun w => (nought3_any f hf).mono fun e w' gg => ⟨by rw [gg.1, show decide (fsz f = 0) = false from decide_eq_false (by omega)], gg.2 ▸ Fwd.refl _⟩
  have cng : ∀ (w : World), Calls Tryd.prog 52 #[.int .u64 g] w fun e w' => e = .returned (.bool false) ∧ Fwd w w' := fun w => (none3_any g hg).mono fun e w' gg => ⟨by rw [gg.1, show isNan g = false from isNan_le (by omega)], gg.2 ▸ Fwd.refl _⟩
  have cig : ∀ (w : World), Calls Tryd.prog 53 #[.int .u64 g] w fun e w' => e = .returned (.bool false) ∧ Fwd w w' := fun w => (endless3_any g hg).mono fun e w' gg => ⟨by rw [gg.1, show decide (fsz g = 9218868437227405312) = false from decide_eq_false (by omega)], gg.2 ▸ Fwd.refl _⟩
  have czg : ∀ (w : World), Calls Tryd.prog 57 #[.int .u64 g] w fun e w' => e = .returned (.bool true) ∧ Fwd w w' := fun w => (nought3_any g hg).mono fun e w' gg => ⟨by rw [gg.1, show decide (fsz g = 0) = true from decide_eq_true (by omega)], gg.2 ▸ Fwd.refl _⟩
  have cS : ∀ (w : World), Calls Tryd.prog 58 #[.bool (sa != sb), .int .u64 0] w fun e w' => e = .returned (.int .u64 ((sgn (sa != sb) + 0 : Nat) : Int)) ∧ Fwd w w' := fun w => (signed3_any (sa != sb) 0 (by omega)).mono fun e w' gg => ⟨gg.1, gg.2 ▸ Fwd.refl _⟩
  have cmf : ∀ (w : World), Calls Tryd.prog 56 #[.int .u64 f] w fun e w' => e = .returned (.bool sa) ∧ Fwd w w' := fun w => (minus3_any f hf).mono fun e w' gg => ⟨by rw [gg.1, hsa], gg.2 ▸ Fwd.refl _⟩
  have cmg : ∀ (w : World), Calls Tryd.prog 56 #[.int .u64 g] w fun e w' => e = .returned (.bool sb) ∧ Fwd w w' := fun w => (minus3_any g hg).mono fun e w' gg => ⟨by rw [gg.1, hsb], gg.2 ▸ Fwd.refl _⟩
  have hval : mulF m f g = (sgn (sa != sb), 0) := by rw [mulF_val (by omega) (by omega), mulV_fin (by omega) (by omega), withMul_some, show vsz f * vsz g = 0 from by rw [vsz_zero Kg, Nat.mul_zero], rdV_nought, hsa, hsb]
  rw [hval]
  obtain ⟨t, ht, hr⟩ := mul3FZTold
  obtain ⟨dl, n', he⟩ := isAV_ok (hr sa sb)
  let ν : Nat → Rat := nuL [fvQ f, fvQ g] []
  let σ : SymD := symL [.u f, .u g, .i m, .u (sgn (sa != sb) + 0)]
  have hcx : CxOK (DomQ true ν σ (fun _ => none)) w.heap.size ⟨Tryd.prog, true, t.get, orcD (mul3FZD sa sb), (opH (bigHook Tryd.prog true) (opH (symHook Tryd.prog mul3FZN (fun _ _ _ => none)) (tabHook (mul3FZL sa sb) mul3FZM)))⟩ := cxS_ok (M := (DomQ true ν σ (fun _ => none))) ht ⟨[
      orcT 52 [
        { args := [.one (.atom (.sym 0))], ans := .v (.one (.lit (.bool false))), ok := by
            intro B ρ w S vs hS hr
            match vs, hr with
            | [u0], ⟨z0, _⟩ =>
              obtain ⟨rfl, _⟩ : u0 = _ ∧ _ := z0
              refine (cnf _).mono ?_
              rintro e w' ⟨rfl, hf⟩
              exact ⟨_, rfl, ⟨rfl, rfl⟩, hf⟩ },
        { args := [.one (.atom (.sym 1))], ans := .v (.one (.lit (.bool false))), ok := by
            intro B ρ w S vs hS hr
            match vs, hr with
            | [u0], ⟨z0, _⟩ =>
              obtain ⟨rfl, _⟩ : u0 = _ ∧ _ := z0
              refine (cng _).mono ?_
              rintro e w' ⟨rfl, hf⟩
              exact ⟨_, rfl, ⟨rfl, rfl⟩, hf⟩ }],
      orcT 53 [
        { args := [.one (.atom (.sym 0))], ans := .v (.one (.lit (.bool false))), ok := by
            intro B ρ w S vs hS hr
            match vs, hr with
            | [u0], ⟨z0, _⟩ =>
              obtain ⟨rfl, _⟩ : u0 = _ ∧ _ := z0
              refine (cif _).mono ?_
              rintro e w' ⟨rfl, hf⟩
              exact ⟨_, rfl, ⟨rfl, rfl⟩, hf⟩ },
        { args := [.one (.atom (.sym 1))], ans := .v (.one (.lit (.bool false))), ok := by
            intro B ρ w S vs hS hr
            match vs, hr with
            | [u0], ⟨z0, _⟩ =>
              obtain ⟨rfl, _⟩ : u0 = _ ∧ _ := z0
              refine (cig _).mono ?_
              rintro e w' ⟨rfl, hf⟩
              exact ⟨_, rfl, ⟨rfl, rfl⟩, hf⟩ }],
      orcT 57 [
        { args := [.one (.atom (.sym 0))], ans := .v (.one (.lit (.bool false))), ok := by
            intro B ρ w S vs hS hr
            match vs, hr with
            | [u0], ⟨z0, _⟩ =>
              obtain ⟨rfl, _⟩ : u0 = _ ∧ _ := z0
              refine (czf _).mono ?_
              rintro e w' ⟨rfl, hf⟩
              exact ⟨_, rfl, ⟨rfl, rfl⟩, hf⟩ },
        { args := [.one (.atom (.sym 1))], ans := .v (.one (.lit (.bool true))), ok := by
            intro B ρ w S vs hS hr
            match vs, hr with
            | [u0], ⟨z0, _⟩ =>
              obtain ⟨rfl, _⟩ : u0 = _ ∧ _ := z0
              refine (czg _).mono ?_
              rintro e w' ⟨rfl, hf⟩
              exact ⟨_, rfl, ⟨rfl, rfl⟩, hf⟩ }],
      orcT 58 [
        { args := [.one (.lit (.bool (sa != sb))), .one (.lit (.int .u64 0))], ans := .v (.one (.atom (.sym 3))), ok := by
            intro B ρ w S vs hS hr
            match vs, hr with
            | [u0, u1], ⟨z0, z1, _⟩ =>
              obtain ⟨rfl, _⟩ : u0 = _ ∧ _ := z0
              obtain ⟨rfl, _⟩ : u1 = _ ∧ _ := z1
              refine (cS _).mono ?_
              rintro e w' ⟨rfl, hf⟩
              exact ⟨_, rfl, ⟨rfl, fun _ => trivial⟩, hf⟩ }],
      orcT 56 [
        { args := [.one (.atom (.sym 0))], ans := .v (.one (.lit (.bool sa))), ok := by
            intro B ρ w S vs hS hr
            match vs, hr with
            | [u0], ⟨z0, _⟩ =>
              obtain ⟨rfl, _⟩ : u0 = _ ∧ _ := z0
              refine (cmf _).mono ?_
              rintro e w' ⟨rfl, hf⟩
              exact ⟨_, rfl, ⟨rfl, rfl⟩, hf⟩ },
        { args := [.one (.atom (.sym 1))], ans := .v (.one (.lit (.bool sb))), ok := by
            intro B ρ w S vs hS hr
            match vs, hr with
            | [u0], ⟨z0, _⟩ =>
              obtain ⟨rfl, _⟩ : u0 = _ ∧ _ := z0
              refine (cmg _).mono ?_
              rintro e w' ⟨rfl, hf⟩
              exact ⟨_, rfl, ⟨rfl, rfl⟩, hf⟩ }]], rfl⟩
    (opH_le (bigHook_le _ _) (opH_le (symHook_le _ _ _) (tabHook_le _ _)))
    (opH_ok (bigHook_ok _) (opH_ok (symHook_ok _ (fun h => by cases h) (fun h => by cases h)) (tabHook_ok _ all_nil all_nil)))
  refine (told_call (M := (DomQ true ν σ (fun _ => none))) (cx := ⟨Tryd.prog, true, t.get, orcD (mul3FZD sa sb), (opH (bigHook Tryd.prog true) (opH (symHook Tryd.prog mul3FZN (fun _ _ _ => none)) (tabHook (mul3FZL sa sb) mul3FZM)))⟩) (xs := [.one (.atom (.sym 0)), .one (.atom (.sym 1)), .one (.atom (.sym 2))]) (vs := [.int .u64 f, .int .u64 g, .int .i64 m]) Tryd.checked.mixed hcx (fun hg => by cases hg) ⟨⟨rfl, fun _ => trivial⟩, ⟨rfl, fun _ => trivial⟩, ⟨rfl, fun _ => trivial⟩, trivial⟩ he).mono ?_
  rintro e w' ⟨v, ρ', rfl, hv, hbel⟩
  obtain ⟨us, rfl, hu⟩ := hv
  match us, hu with
  | [c0, c1], ⟨r0, r1, _⟩ =>
    obtain ⟨rfl, _⟩ : c0 = _ ∧ _ := r0
    obtain ⟨rfl, _⟩ : c1 = _ ∧ _ := r1
    exact ⟨rfl, hbel⟩

def mul3FFD (sa : Bool) (sb : Bool) : List (FuncId × Ans) :=
  [(52, ansT [([.one (.atom (.sym 0))], .v (.one (.lit (.bool false)))), ([.one (.atom (.sym 1))], .v (.one (.lit (.bool false))))]),
   (53, ansT [([.one (.atom (.sym 0))], .v (.one (.lit (.bool false)))), ([.one (.atom (.sym 1))], .v (.one (.lit (.bool false))))]),
   (57, ansT [([.one (.atom (.sym 0))], .v (.one (.lit (.bool false)))), ([.one (.atom (.sym 1))], .v (.one (.lit (.bool false))))]),
   (71, ansT [([.one (.atom (.sym 0))], .v (avQ (.v 0))), ([.one (.atom (.sym 1))], .v (avQ (.v 1)))]),
   (14, ansT [([avQ (.v 0), avQ (.v 1)], .v (avQ (.v 2)))]),
   (24, ansT [([avQ (.v 2), .one (.atom (.sym 2))], .tup [.one (.atom (.sym 3)), .one (.atom (.sym 4))])]),
   (56, ansT [([.one (.atom (.sym 0))], .v (.one (.lit (.bool sa)))), ([.one (.atom (.sym 1))], .v (.one (.lit (.bool sb))))])]
def mul3FFL (sa : Bool) (sb : Bool) : BT := []
def mul3FFM : BT := []
def mul3FFN : At → Option Nat
  | _ => none

set_option maxRecDepth 1000000 in
theorem mul3FFTold : ∃ t : Tr Func, TabOK Tryd.prog t ∧ (∀ (sa : Bool) (sb : Bool), isAV (.tup [.one (.atom (.sym 3)), .one (.atom (.sym 4))]) (evalCall ⟨Tryd.prog, true, t.get, orcD (mul3FFD sa sb), (opH (bigHook Tryd.prog true) (opH (symHook Tryd.prog mul3FFN (fun _ _ _ => none)) (tabHook (mul3FFL sa sb) mul3FFM)))⟩ 1000 31 [.one (.atom (.sym 0)), .one (.atom (.sym 1)), .one (.atom (.sym 2))] .e 0) = true) :=
  ⟨((((((((Tr.e).put 31 (some Tryd.f31)).put 52 (some Tryd.f52)).put 53 (some Tryd.f53)).put 57 (some Tryd.f57)).put 71 (some Tryd.f71)).put 14 (some Tryd.f14)).put 24 (some Tryd.f24)).put 56 (some Tryd.f56),
   (TabOK.put (TabOK.put (TabOK.put (TabOK.put (TabOK.put (TabOK.put (TabOK.put (TabOK.put (TabOK.e _) ⟨Tryd.func31, by decide +kernel, by decide +kernel⟩) ⟨Tryd.func52, by decide +kernel, by decide +kernel⟩) ⟨Tryd.func53, by decide +kernel, by decide +kernel⟩) ⟨Tryd.func57, by decide +kernel, by decide +kernel⟩) ⟨Tryd.func71, by decide +kernel, by decide +kernel⟩) ⟨Tryd.func14, by decide +kernel, by decide +kernel⟩) ⟨Tryd.func24, by decide +kernel, by decide +kernel⟩) ⟨Tryd.func56, by decide +kernel, by decide +kernel⟩),
   by decide +kernel⟩

set_option maxHeartbeats 4000000 in
set_option maxRecDepth 100000 in
theorem mul3FF_tab {w : World} (m : Int) (f g : Nat) (hf : f < 18446744073709551616) (hg : g < 18446744073709551616) (Kf : fsz f ≠ 0) (Lf : fsz f < 9218868437227405312) (Kg : fsz g ≠ 0) (Lg : fsz g < 9218868437227405312) {sa sb : Bool} (hsa : fneg f = sa) (hsb : fneg g = sb) :
    Calls Tryd.prog 31 #[.int .u64 f, .int .u64 g, .int .i64 m] w fun e w' => e = .returned (.tuple #[.int .u64 ((mulF m f g).1 : Nat), .int .i64 ((mulF m f g).2 : Nat)]) ∧ Below w.heap.size w w' := by
  have cnf : ∀ (w : World), Calls Tryd.prog 52 #[.int .u64 f] w fun e w' => e = .returned (.bool false) ∧ Fwd w w' := fun w => (none3_any f hf).mono fun e w' gg => ⟨by rw [gg.1, show isNan f = false from isNan_le (by omega)], gg.2 ▸ Fwd.refl _⟩
  have cif : ∀ (w : World), Calls Tryd.prog 53 #[.int .u64 f] w fun e w' => e = .returned (.bool false) ∧ Fwd w w' := fun w => (endless3_any f hf).mono fun e w' gg => ⟨by rw [gg.1, show decide (fsz f = 9218868437227405312) = false from decide_eq_false (by omega)], gg.2 ▸ Fwd.refl _⟩
  have czf : ∀ (w : World), Calls Tryd.prog 57 #[.int .u64 f] w fun e w' => e = .returned (.bool false) ∧ Fwd w w' := fun w => (nought3_any f hf).mono fun e w' gg => ⟨by rw [gg.1, show decide (fsz f = 0) = false from decide_eq_false (by omega)], gg.2 ▸ Fwd.refl _⟩
  have cng : ∀ (w : World), Calls Tryd.prog 52 #[.int .u64 g] w fun e w' => e = .returned (.bool false) ∧ Fwd w w' := fun w => (none3_any g hg).mono fun e w' gg => ⟨by rw [gg.1, show isNan g = false from isNan_le (by omega)], gg.2 ▸ Fwd.refl _⟩
  have cig : ∀ (w : World), Calls Tryd.prog 53 #[.int .u64 g] w fun e w' => e = .returned (.bool false) ∧ Fwd w w' := fun w => (endless3_any g hg).mono fun e w' gg => ⟨by rw [gg.1, show decide (fsz g = 9218868437227405312) = false from decide_eq_false (by omega)], gg.2 ▸ Fwd.refl _⟩
  have czg : ∀ (w : World), Calls Tryd.prog 57 #[.int .u64 g] w fun e w' => e = .returned (.bool false) ∧ Fwd w w' := fun w => (nought3_any g hg).mono fun e w' gg => ⟨by rw [gg.1, show decide (fsz g = 0) = false from decide_eq_false (by omega)], gg.2 ▸ Fwd.refl _⟩
  have b1 := nr_fvQ (f := f) (by omega)
  have b2 := nr_fvQ (f := g) (by omega)
  have hg0 := fvQ_ne Kg
  have b3 := nr_mul (fvQ f) (fvQ g)
  have cmf : ∀ (w : World), Calls Tryd.prog 56 #[.int .u64 f] w fun e w' => e = .returned (.bool sa) ∧ Fwd w w' := fun w => (minus3_any f hf).mono fun e w' gg => ⟨by rw [gg.1, hsa], gg.2 ▸ Fwd.refl _⟩
  have cmg : ∀ (w : World), Calls Tryd.prog 56 #[.int .u64 g] w fun e w' => e = .returned (.bool sb) ∧ Fwd w w' := fun w => (minus3_any g hg).mono fun e w' gg => ⟨by rw [gg.1, hsb], gg.2 ▸ Fwd.refl _⟩
  have hval : mulF m f g = _ := mulF_fin m (by omega) (by omega) (by omega) (by omega)
  rw [hval]
  obtain ⟨t, ht, hr⟩ := mul3FFTold
  obtain ⟨dl, n', he⟩ := isAV_ok (hr sa sb)
  let ν : Nat → Rat := nuL [fvQ f, fvQ g, fvQ f * fvQ g] []
  let σ : SymD := symL [.u f, .u g, .i m, .u (ofN m (fvQ f * fvQ g)).1, .i ((ofN m (fvQ f * fvQ g)).2 : Int)]
  have hcx : CxOK (DomQ true ν σ (fun _ => none)) w.heap.size ⟨Tryd.prog, true, t.get, orcD (mul3FFD sa sb), (opH (bigHook Tryd.prog true) (opH (symHook Tryd.prog mul3FFN (fun _ _ _ => none)) (tabHook (mul3FFL sa sb) mul3FFM)))⟩ := cxS_ok (M := (DomQ true ν σ (fun _ => none))) ht ⟨[
      orcT 52 [
        { args := [.one (.atom (.sym 0))], ans := .v (.one (.lit (.bool false))), ok := by
            intro B ρ w S vs hS hr
            match vs, hr with
            | [u0], ⟨z0, _⟩ =>
              obtain ⟨rfl, _⟩ : u0 = _ ∧ _ := z0
              refine (cnf _).mono ?_
              rintro e w' ⟨rfl, hf⟩
              exact ⟨_, rfl, ⟨rfl, rfl⟩, hf⟩ },
        { args := [.one (.atom (.sym 1))], ans := .v (.one (.lit (.bool false))), ok := by
            intro B ρ w S vs hS hr
            match vs, hr with
            | [u0], ⟨z0, _⟩ =>
              obtain ⟨rfl, _⟩ : u0 = _ ∧ _ := z0
              refine (cng _).mono ?_
              rintro e w' ⟨rfl, hf⟩
              exact ⟨_, rfl, ⟨rfl, rfl⟩, hf⟩ }],
      orcT 53 [
        { args := [.one (.atom (.sym 0))], ans := .v (.one (.lit (.bool false))), ok := by
            intro B ρ w S vs hS hr
            match vs, hr with
            | [u0], ⟨z0, _⟩ =>
              obtain ⟨rfl, _⟩ : u0 = _ ∧ _ := z0
              refine (cif _).mono ?_
              rintro e w' ⟨rfl, hf⟩
              exact ⟨_, rfl, ⟨rfl, rfl⟩, hf⟩ },
        { args := [.one (.atom (.sym 1))], ans := .v (.one (.lit (.bool false))), ok := by
            intro B ρ w S vs hS hr
            match vs, hr with
            | [u0], ⟨z0, _⟩ =>
              obtain ⟨rfl, _⟩ : u0 = _ ∧ _ := z0
              refine (cig _).mono ?_
              rintro e w' ⟨rfl, hf⟩
              exact ⟨_, rfl, ⟨rfl, rfl⟩, hf⟩ }],
      orcT 57 [
        { args := [.one (.atom (.sym 0))], ans := .v (.one (.lit (.bool false))), ok := by
            intro B ρ w S vs hS hr
            match vs, hr with
            | [u0], ⟨z0, _⟩ =>
              obtain ⟨rfl, _⟩ : u0 = _ ∧ _ := z0
              refine (czf _).mono ?_
              rintro e w' ⟨rfl, hf⟩
              exact ⟨_, rfl, ⟨rfl, rfl⟩, hf⟩ },
        { args := [.one (.atom (.sym 1))], ans := .v (.one (.lit (.bool false))), ok := by
            intro B ρ w S vs hS hr
            match vs, hr with
            | [u0], ⟨z0, _⟩ =>
              obtain ⟨rfl, _⟩ : u0 = _ ∧ _ := z0
              refine (czg _).mono ?_
              rintro e w' ⟨rfl, hf⟩
              exact ⟨_, rfl, ⟨rfl, rfl⟩, hf⟩ }],
      orcT 71 [
        { args := [.one (.atom (.sym 0))], ans := .v (avQ (.v 0)), ok := by
            intro B ρ w S vs hS hr
            match vs, hr with
            | [u0], ⟨z0, _⟩ =>
              obtain ⟨rfl, _⟩ : u0 = _ ∧ _ := z0
              refine (exact3_any f hf (by omega)).mono ?_
              rintro e w' ⟨x, rfl, g0, hf⟩
              exact ⟨_, rfl, (avQ_rel g0), hf⟩ },
        { args := [.one (.atom (.sym 1))], ans := .v (avQ (.v 1)), ok := by
            intro B ρ w S vs hS hr
            match vs, hr with
            | [u0], ⟨z0, _⟩ =>
              obtain ⟨rfl, _⟩ : u0 = _ ∧ _ := z0
              refine (exact3_any g hg (by omega)).mono ?_
              rintro e w' ⟨x, rfl, g0, hf⟩
              exact ⟨_, rfl, (avQ_rel g0), hf⟩ }],
      orcT 14 [
        { args := [avQ (.v 0), avQ (.v 1)], ans := .v (avQ (.v 2)), ok := by
            intro B ρ w S vs hS hr
            match vs, hr with
            | [u0, u1], ⟨z0, z1, _⟩ =>
              have k0 := avQ_rv z0
              have k1 := avQ_rv z1
              refine (mul2_any (p := fvQ f) (q := fvQ g) k0 k1 (by omega) (by omega)).mono ?_
              rintro e w' ⟨x, rfl, g0, hf⟩
              exact ⟨_, rfl, (avQ_rel g0), hf⟩ }],
      orcT 24 [
        { args := [avQ (.v 2), .one (.atom (.sym 2))], ans := .tup [.one (.atom (.sym 3)), .one (.atom (.sym 4))], ok := by
            intro B ρ w S vs hS hr
            match vs, hr with
            | [u0, u1], ⟨z0, z1, _⟩ =>
              have k0 := avQ_rv z0
              obtain ⟨rfl, _⟩ : u1 = _ ∧ _ := z1
              refine (of3_any (q := fvQ f * fvQ g) m k0 (by omega)).mono ?_
              rintro e w' ⟨rfl, hf⟩
              exact ⟨_, rfl, ⟨[_, _], rfl, ⟨rfl, fun _ => trivial⟩, ⟨rfl, fun _ => trivial⟩, trivial⟩, hf⟩ }],
      orcT 56 [
        { args := [.one (.atom (.sym 0))], ans := .v (.one (.lit (.bool sa))), ok := by
            intro B ρ w S vs hS hr
            match vs, hr with
            | [u0], ⟨z0, _⟩ =>
              obtain ⟨rfl, _⟩ : u0 = _ ∧ _ := z0
              refine (cmf _).mono ?_
              rintro e w' ⟨rfl, hf⟩
              exact ⟨_, rfl, ⟨rfl, rfl⟩, hf⟩ },
        { args := [.one (.atom (.sym 1))], ans := .v (.one (.lit (.bool sb))), ok := by
            intro B ρ w S vs hS hr
            match vs, hr with
            | [u0], ⟨z0, _⟩ =>
              obtain ⟨rfl, _⟩ : u0 = _ ∧ _ := z0
              refine (cmg _).mono ?_
              rintro e w' ⟨rfl, hf⟩
              exact ⟨_, rfl, ⟨rfl, rfl⟩, hf⟩ }]], rfl⟩
    (opH_le (bigHook_le _ _) (opH_le (symHook_le _ _ _) (tabHook_le _ _)))
    (opH_ok (bigHook_ok _) (opH_ok (symHook_ok _ (fun h => by cases h) (fun h => by cases h)) (tabHook_ok _ all_nil all_nil)))
  refine (told_call (M := (DomQ true ν σ (fun _ => none))) (cx := ⟨Tryd.prog, true, t.get, orcD (mul3FFD sa sb), (opH (bigHook Tryd.prog true) (opH (symHook Tryd.prog mul3FFN (fun _ _ _ => none)) (tabHook (mul3FFL sa sb) mul3FFM)))⟩) (xs := [.one (.atom (.sym 0)), .one (.atom (.sym 1)), .one (.atom (.sym 2))]) (vs := [.int .u64 f, .int .u64 g, .int .i64 m]) Tryd.checked.mixed hcx (fun hg => by cases hg) ⟨⟨rfl, fun _ => trivial⟩, ⟨rfl, fun _ => trivial⟩, ⟨rfl, fun _ => trivial⟩, trivial⟩ he).mono ?_
  rintro e w' ⟨v, ρ', rfl, hv, hbel⟩
  obtain ⟨us, rfl, hu⟩ := hv
  match us, hu with
  | [c0, c1], ⟨r0, r1, _⟩ =>
    obtain ⟨rfl, _⟩ : c0 = _ ∧ _ := r0
    obtain ⟨rfl, _⟩ : c1 = _ ∧ _ := r1
    exact ⟨rfl, hbel⟩

def div3NQD (sa : Bool) (sb : Bool) : List (FuncId × Ans) :=
  [(52, ansT [([.one (.atom (.sym 0))], .v (.one (.lit (.bool true))))]),
   (56, ansT [([.one (.atom (.sym 0))], .v (.one (.lit (.bool sa)))), ([.one (.atom (.sym 1))], .v (.one (.lit (.bool sb))))])]
def div3NQL (sa : Bool) (sb : Bool) : BT := []
def div3NQM : BT := []
def div3NQN : At → Option Nat
  | _ => none

set_option maxRecDepth 1000000 in
theorem div3NQTold : ∃ t : Tr Func, TabOK Tryd.prog t ∧ (∀ (sa : Bool) (sb : Bool), isAV (.tup [.one (.lit (.int .u64 9221120237041090560)), .one (.lit (.int .i64 (0)))]) (evalCall ⟨Tryd.prog, true, t.get, orcD (div3NQD sa sb), (opH (bigHook Tryd.prog true) (opH (symHook Tryd.prog div3NQN (fun _ _ _ => none)) (tabHook (div3NQL sa sb) div3NQM)))⟩ 1000 33 [.one (.atom (.sym 0)), .one (.atom (.sym 1)), .one (.atom (.sym 2))] .e 0) = true) :=
  ⟨(((Tr.e).put 33 (some Tryd.f33)).put 52 (some Tryd.f52)).put 56 (some Tryd.f56),
   (TabOK.put (TabOK.put (TabOK.put (TabOK.e _) ⟨Tryd.func33, by decide +kernel, by decide +kernel⟩) ⟨Tryd.func52, by decide +kernel, by decide +kernel⟩) ⟨Tryd.func56, by decide +kernel, by decide +kernel⟩),
   by decide +kernel⟩

set_option maxHeartbeats 4000000 in
set_option maxRecDepth 100000 in
theorem div3NQ_tab {w : World} (m : Int) (f g : Nat) (hf : f < 18446744073709551616) (hg : g < 18446744073709551616) (Kf : isNan f = true)  {sa sb : Bool} (hsa : fneg f = sa) (hsb : fneg g = sb) :
    Calls Tryd.prog 33 #[.int .u64 f, .int .u64 g, .int .i64 m] w fun e w' => e = .returned (.tuple #[.int .u64 ((divG m f g).1 : Nat), .int .i64 ((divG m f g).2 : Nat)]) ∧ Below w.heap.size w w' := by
  have cnf : ∀ (w : World), Calls Tryd.prog 52 #[.int .u64 f] w fun e w' => e = .returned (.bool true) ∧ Fwd w w' := fun w => (none3_any f hf).mono fun e w' gg => ⟨by rw [gg.1, show isNan f = true from Kf], gg.2 ▸ Fwd.refl _⟩
  have cmf : ∀ (w : World), Calls Tryd.prog 56 #[.int .u64 f] w fun e w' => e = .returned (.bool sa) ∧ Fwd w w' := fun w => (minus3_any f hf).mono fun e w' gg => ⟨by rw [gg.1, hsa], gg.2 ▸ Fwd.refl _⟩
  have cmg : ∀ (w : World), Calls Tryd.prog 56 #[.int .u64 g] w fun e w' => e = .returned (.bool sb) ∧ Fwd w w' := fun w => (minus3_any g hg).mono fun e w' gg => ⟨by rw [gg.1, hsb], gg.2 ▸ Fwd.refl _⟩
  have hval : divG m f g = _ := divG_nan (Or.inl Kf)
  rw [hval]
  obtain ⟨t, ht, hr⟩ := div3NQTold
  obtain ⟨dl, n', he⟩ := isAV_ok (hr sa sb)
  let ν : Nat → Rat := nuL [fvQ f, fvQ g] []
  let σ : SymD := symL [.u f, .u g, .i m]
  have hcx : CxOK (DomQ true ν σ (fun _ => none)) w.heap.size ⟨Tryd.prog, true, t.get, orcD (div3NQD sa sb), (opH (bigHook Tryd.prog true) (opH (symHook Tryd.prog div3NQN (fun _ _ _ => none)) (tabHook (div3NQL sa sb) div3NQM)))⟩ := cxS_ok (M := (DomQ true ν σ (fun _ => none))) ht ⟨[
      orcT 52 [
        { args := [.one (.atom (.sym 0))], ans := .v (.one (.lit (.bool true))), ok := by
            intro B ρ w S vs hS hr
            match vs, hr with
            | [u0], ⟨z0, _⟩ =>
              obtain ⟨rfl, _⟩ : u0 = _ ∧ _ := z0
              refine (cnf _).mono ?_
              rintro e w' ⟨rfl, hf⟩
              exact ⟨_, rfl, ⟨rfl, rfl⟩, hf⟩ }],
      orcT 56 [
        { args := [.one (.atom (.sym 0))], ans := .v (.one (.lit (.bool sa))), ok := by
            intro B ρ w S vs hS hr
            match vs, hr with
            | [u0], ⟨z0, _⟩ =>
              obtain ⟨rfl, _⟩ : u0 = _ ∧ _ := z0
              refine (cmf _).mono ?_
              rintro e w' ⟨rfl, hf⟩
              exact ⟨_, rfl, ⟨rfl, rfl⟩, hf⟩ },
        { args := [.one (.atom (.sym 1))], ans := .v (.one (.lit (.bool sb))), ok := by
            intro B ρ w S vs hS hr
            match vs, hr with
            | [u0], ⟨z0, _⟩ =>
              obtain ⟨rfl, _⟩ : u0 = _ ∧ _ := z0
              refine (cmg _).mono ?_
              rintro e w' ⟨rfl, hf⟩
              exact ⟨_, rfl, ⟨rfl, rfl⟩, hf⟩ }]], rfl⟩
    (opH_le (bigHook_le _ _) (opH_le (symHook_le _ _ _) (tabHook_le _ _)))
    (opH_ok (bigHook_ok _) (opH_ok (symHook_ok _ (fun h => by cases h) (fun h => by cases h)) (tabHook_ok _ all_nil all_nil)))
  refine (told_call (M := (DomQ true ν σ (fun _ => none))) (cx := ⟨Tryd.prog, true, t.get, orcD (div3NQD sa sb), (opH (bigHook Tryd.prog true) (opH (symHook Tryd.prog div3NQN (fun _ _ _ => none)) (tabHook (div3NQL sa sb) div3NQM)))⟩) (xs := [.one (.atom (.sym 0)), .one (.atom (.sym 1)), .one (.atom (.sym 2))]) (vs := [.int .u64 f, .int .u64 g, .int .i64 m]) Tryd.checked.mixed hcx (fun hg => by cases hg) ⟨⟨rfl, fun _ => trivial⟩, ⟨rfl, fun _ => trivial⟩, ⟨rfl, fun _ => trivial⟩, trivial⟩ he).mono ?_
  rintro e w' ⟨v, ρ', rfl, hv, hbel⟩
  obtain ⟨us, rfl, hu⟩ := hv
  match us, hu with
  | [c0, c1], ⟨r0, r1, _⟩ =>
    obtain ⟨rfl, _⟩ : c0 = _ ∧ _ := r0
    obtain ⟨rfl, _⟩ : c1 = _ ∧ _ := r1
    exact ⟨rfl, hbel⟩

def div3AND (sa : Bool) (sb : Bool) : List (FuncId × Ans) :=
  [(52, ansT [([.one (.atom (.sym 0))], .v (.one (.lit (.bool false)))), ([.one (.atom (.sym 1))], .v (.one (.lit (.bool true))))]),
   (56, ansT [([.one (.atom (.sym 0))], .v (.one (.lit (.bool sa)))), ([.one (.atom (.sym 1))], .v (.one (.lit (.bool sb))))])]
def div3ANL (sa : Bool) (sb : Bool) : BT := []
def div3ANM : BT := []
def div3ANN : At → Option Nat
  | _ => none

set_option maxRecDepth 1000000 in
theorem div3ANTold : ∃ t : Tr Func, TabOK Tryd.prog t ∧ (∀ (sa : Bool) (sb : Bool), isAV (.tup [.one (.lit (.int .u64 9221120237041090560)), .one (.lit (.int .i64 (0)))]) (evalCall ⟨Tryd.prog, true, t.get, orcD (div3AND sa sb), (opH (bigHook Tryd.prog true) (opH (symHook Tryd.prog div3ANN (fun _ _ _ => none)) (tabHook (div3ANL sa sb) div3ANM)))⟩ 1000 33 [.one (.atom (.sym 0)), .one (.atom (.sym 1)), .one (.atom (.sym 2))] .e 0) = true) :=
  ⟨(((Tr.e).put 33 (some Tryd.f33)).put 52 (some Tryd.f52)).put 56 (some Tryd.f56),
   (TabOK.put (TabOK.put (TabOK.put (TabOK.e _) ⟨Tryd.func33, by decide +kernel, by decide +kernel⟩) ⟨Tryd.func52, by decide +kernel, by decide +kernel⟩) ⟨Tryd.func56, by decide +kernel, by decide +kernel⟩),
   by decide +kernel⟩

set_option maxHeartbeats 4000000 in
set_option maxRecDepth 100000 in
theorem div3AN_tab {w : World} (m : Int) (f g : Nat) (hf : f < 18446744073709551616) (hg : g < 18446744073709551616) (Kf : isNan f = false) (Kg : isNan g = true) {sa sb : Bool} (hsa : fneg f = sa) (hsb : fneg g = sb) :
    Calls Tryd.prog 33 #[.int .u64 f, .int .u64 g, .int .i64 m] w fun e w' => e = .returned (.tuple #[.int .u64 ((divG m f g).1 : Nat), .int .i64 ((divG m f g).2 : Nat)]) ∧ Below w.heap.size w w' := by
  have cnf : ∀ (w : World), Calls Tryd.prog 52 #[.int .u64 f] w fun e w' => e = .returned (.bool false) ∧ Fwd w w' := fun w => (none3_any f hf).mono fun e w' gg => ⟨by rw [gg.1, show isNan f = false from Kf], gg.2 ▸ Fwd.refl _⟩
  have cng : ∀ (w : World), Calls Tryd.prog 52 #[.int .u64 g] w fun e w' => e = .returned (.bool true) ∧ Fwd w w' := fun w => (none3_any g hg).mono fun e w' gg => ⟨by rw [gg.1, show isNan g = true from Kg], gg.2 ▸ Fwd.refl _⟩
  have cmf : ∀ (w : World), Calls Tryd.prog 56 #[.int .u64 f] w fun e w' => e = .returned (.bool sa) ∧ Fwd w w' := fun w => (minus3_any f hf).mono fun e w' gg => ⟨by rw [gg.1, hsa], gg.2 ▸ Fwd.refl _⟩
  have cmg : ∀ (w : World), Calls Tryd.prog 56 #[.int .u64 g] w fun e w' => e = .returned (.bool sb) ∧ Fwd w w' := fun w => (minus3_any g hg).mono fun e w' gg => ⟨by rw [gg.1, hsb], gg.2 ▸ Fwd.refl _⟩
  have hval : divG m f g = _ := divG_nan (Or.inr Kg)
  rw [hval]
  obtain ⟨t, ht, hr⟩ := div3ANTold
  obtain ⟨dl, n', he⟩ := isAV_ok (hr sa sb)
  let ν : Nat → Rat := nuL [fvQ f, fvQ g] []
  let σ : SymD := symL [.u f, .u g, .i m]
  have hcx : CxOK (DomQ true ν σ (fun _ => none)) w.heap.size ⟨Tryd.prog, true, t.get, orcD (div3AND sa sb), (opH (bigHook Tryd.prog true) (opH (symHook Tryd.prog div3ANN (fun _ _ _ => none)) (tabHook (div3ANL sa sb) div3ANM)))⟩ := cxS_ok (M := (DomQ true ν σ (fun _ => none))) ht ⟨[
      orcT 52 [
        { args := [.one (.atom (.sym 0))], ans := .v (.one (.lit (.bool false))), ok := by
            intro B ρ w S vs hS hr
            match vs, hr with
            | [u0], ⟨z0, _⟩ =>
              obtain ⟨rfl, _⟩ : u0 = _ ∧ _ := z0
              refine (cnf _).mono ?_
              rintro e w' ⟨rfl, hf⟩
              exact ⟨_, rfl, ⟨rfl, rfl⟩, hf⟩ },
        { args := [.one (.atom (.sym 1))], ans := .v (.one (.lit (.bool true))), ok := by
            intro B ρ w S vs hS hr
            match vs, hr with
            | [u0], ⟨z0, _⟩ =>
              obtain ⟨rfl, _⟩ : u0 = _ ∧ _ := z0
              refine (cng _).mono ?_
              rintro e w' ⟨rfl, hf⟩
              exact ⟨_, rfl, ⟨rfl, rfl⟩, hf⟩ }],
      orcT 56 [
        { args := [.one (.atom (.sym 0))], ans := .v (.one (.lit (.bool sa))), ok := by
            intro B ρ w S vs hS hr
            match vs, hr with
            | [u0], ⟨z0, _⟩ =>
              obtain ⟨rfl, _⟩ : u0 = _ ∧ _ := z0
              refine (cmf _).mono ?_
              rintro e w' ⟨rfl, hf⟩
              exact ⟨_, rfl, ⟨rfl, rfl⟩, hf⟩ },
        { args := [.one (.atom (.sym 1))], ans := .v (.one (.lit (.bool sb))), ok := by
            intro B ρ w S vs hS hr
            match vs, hr with
            | [u0], ⟨z0, _⟩ =>
              obtain ⟨rfl, _⟩ : u0 = _ ∧ _ := z0
              refine (cmg _).mono ?_
              rintro e w' ⟨rfl, hf⟩
              exact ⟨_, rfl, ⟨rfl, rfl⟩, hf⟩ }]], rfl⟩
    (opH_le (bigHook_le _ _) (opH_le (symHook_le _ _ _) (tabHook_le _ _)))
    (opH_ok (bigHook_ok _) (opH_ok (symHook_ok _ (fun h => by cases h) (fun h => by cases h)) (tabHook_ok _ all_nil all_nil)))
  refine (told_call (M := (DomQ true ν σ (fun _ => none))) (cx := ⟨Tryd.prog, true, t.get, orcD (div3AND sa sb), (opH (bigHook Tryd.prog true) (opH (symHook Tryd.prog div3ANN (fun _ _ _ => none)) (tabHook (div3ANL sa sb) div3ANM)))⟩) (xs := [.one (.atom (.sym 0)), .one (.atom (.sym 1)), .one (.atom (.sym 2))]) (vs := [.int .u64 f, .int .u64 g, .int .i64 m]) Tryd.checked.mixed hcx (fun hg => by cases hg) ⟨⟨rfl, fun _ => trivial⟩, ⟨rfl, fun _ => trivial⟩, ⟨rfl, fun _ => trivial⟩, trivial⟩ he).mono ?_
  rintro e w' ⟨v, ρ', rfl, hv, hbel⟩
  obtain ⟨us, rfl, hu⟩ := hv
  match us, hu with
  | [c0, c1], ⟨r0, r1, _⟩ =>
    obtain ⟨rfl, _⟩ : c0 = _ ∧ _ := r0
    obtain ⟨rfl, _⟩ : c1 = _ ∧ _ := r1
    exact ⟨rfl, hbel⟩

def div3IID (sa : Bool) (sb : Bool) : List (FuncId × Ans) :=
  [(52, ansT [([.one (.atom (.sym 0))], .v (.one (.lit (.bool false)))), ([.one (.atom (.sym 1))], .v (.one (.lit (.bool false))))]),
   (53, ansT [([.one (.atom (.sym 0))], .v (.one (.lit (.bool true)))), ([.one (.atom (.sym 1))], .v (.one (.lit (.bool true))))]),
   (57, ansT [([.one (.atom (.sym 0))], .v (.one (.lit (.bool false)))), ([.one (.atom (.sym 1))], .v (.one (.lit (.bool false))))]),
   (56, ansT [([.one (.atom (.sym 0))], .v (.one (.lit (.bool sa)))), ([.one (.atom (.sym 1))], .v (.one (.lit (.bool sb))))])]
def div3IIL (sa : Bool) (sb : Bool) : BT := []
def div3IIM : BT := []
def div3IIN : At → Option Nat
  | _ => none

set_option maxRecDepth 1000000 in
theorem div3IITold : ∃ t : Tr Func, TabOK Tryd.prog t ∧ (∀ (sa : Bool) (sb : Bool), isAV (.tup [.one (.lit (.int .u64 9221120237041090560)), .one (.lit (.int .i64 (16)))]) (evalCall ⟨Tryd.prog, true, t.get, orcD (div3IID sa sb), (opH (bigHook Tryd.prog true) (opH (symHook Tryd.prog div3IIN (fun _ _ _ => none)) (tabHook (div3IIL sa sb) div3IIM)))⟩ 1000 33 [.one (.atom (.sym 0)), .one (.atom (.sym 1)), .one (.atom (.sym 2))] .e 0) = true) :=
  ⟨(((((Tr.e).put 33 (some Tryd.f33)).put 52 (some Tryd.f52)).put 53 (some Tryd.f53)).put 57 (some Tryd.f57)).put 56 (some Tryd.f56),
   (TabOK.put (TabOK.put (TabOK.put (TabOK.put (TabOK.put (TabOK.e _) ⟨Tryd.func33, by decide +kernel, by decide +kernel⟩) ⟨Tryd.func52, by decide +kernel, by decide +kernel⟩) ⟨Tryd.func53, by decide +kernel, by decide +kernel⟩) ⟨Tryd.func57, by decide +kernel, by decide +kernel⟩) ⟨Tryd.func56, by decide +kernel, by decide +kernel⟩),
   by decide +kernel⟩

set_option maxHeartbeats 4000000 in
set_option maxRecDepth 100000 in
theorem div3II_tab {w : World} (m : Int) (f g : Nat) (hf : f < 18446744073709551616) (hg : g < 18446744073709551616) (Kf : fsz f = 9218868437227405312) (Kg : fsz g = 9218868437227405312) {sa sb : Bool} (hsa : fneg f = sa) (hsb : fneg g = sb) :
    Calls Tryd.prog 33 #[.int .u64 f, .int .u64 g, .int .i64 m] w fun e w' => e = .returned (.tuple #[.int .u64 ((divG m f g).1 : Nat), .int .i64 ((divG m f g).2 : Nat)]) ∧ Below w.heap.size w w' := by
  have cnf : ∀ (w : World), Calls Tryd.prog 52 #[.int .u64 f] w fun e w' => e = .returned (.bool false) ∧ Fwd w w' := fun w => (none3_any f hf).mono fun e w' gg => ⟨by rw [gg.1, show isNan f = false from isNan_le (by omega)], gg.2 ▸ Fwd.refl _⟩
  have cif : ∀ (w : World), Calls Tryd.prog 53 #[.int .u64 f] w fun e w' => e = .returned (.bool true) ∧ Fwd w w' := fun w => (endless3_any f hf).mono fun e w' gg => ⟨by rw [gg.1, show decide (fsz f = 9218868437227405312) = true from decide_eq_true (by omega)], gg.2 ▸ Fwd.refl _⟩
  have czf : ∀ (w : World), Calls Tryd.prog 57 #[.int .u64 f] w fun e w' => e = .returned (.bool false) ∧ Fwd w w' := fun w => (nought3_any f hf).mono fun e w' gg => ⟨by rw [gg.1, show decide (fsz f = 0) = false from decide_eq_false (by omega)], gg.2 ▸ Fwd.refl _⟩
  have cng : ∀ (w : World), Calls Tryd.prog 52 #[.int .u64 g] w fun e w' => e = .returned (.bool false) ∧ Fwd w w' := fun w => (none3_any g hg).mono fun e w' gg => ⟨by rw [gg.1, show isNan g = false from isNan_le (by omega)], gg.2 ▸ Fwd.refl _⟩
  have cig : ∀ (w : World), Calls Tryd.prog 53 #[.int .u64 g] w fun e w' => e = .returned (.bool true) ∧ Fwd w w' := fun w => (endless3_any g hg).mono fun e w' gg => ⟨by rw [gg.1, show decide (fsz g = 9218868437227405312) = true from decide_eq_true (by omega)], gg.2 ▸ Fwd.refl _⟩
  have czg : ∀ (w : World), Calls Tryd.prog 57 #[.int .u64 g] w fun e w' => e = .returned (.bool false) ∧ Fwd w w' := fun w => (nought3_any g hg).mono fun e w' gg => ⟨by rw [gg.1, show decide (fsz g = 0) = false from decide_eq_false (by omega)], gg.2 ▸ Fwd.refl _⟩
  have cmf : ∀ (w : World), Calls Tryd.prog 56 #[.int .u64 f] w fun e w' => e = .returned (.bool sa) ∧ Fwd w w' := fun w => (minus3_any f hf).mono fun e w' gg => ⟨by rw [gg.1, hsa], gg.2 ▸ Fwd.refl _⟩
  have cmg : ∀ (w : World), Calls Tryd.prog 56 #[.int .u64 g] w fun e w' => e = .returned (.bool sb) ∧ Fwd w w' := fun w => (minus3_any g hg).mono fun e w' gg => ⟨by rw [gg.1, hsb], gg.2 ▸ Fwd.refl _⟩
  have hval : divG m f g = _ := divG_bad (by omega)
  rw [hval]
  obtain ⟨t, ht, hr⟩ := div3IITold
  obtain ⟨dl, n', he⟩ := isAV_ok (hr sa sb)
  let ν : Nat → Rat := nuL [fvQ f, fvQ g] []
  let σ : SymD := symL [.u f, .u g, .i m]
  have hcx : CxOK (DomQ true ν σ (fun _ => none)) w.heap.size ⟨Tryd.prog, true, t.get, orcD (div3IID sa sb), (opH (bigHook Tryd.prog true) (opH (symHook Tryd.prog div3IIN (fun _ _ _ => none)) (tabHook (div3IIL sa sb) div3IIM)))⟩ := cxS_ok (M := (DomQ true ν σ (fun _ => none))) ht ⟨[
      orcT 52 [
        { args := [.one (.atom (.sym 0))], ans := .v (.one (.lit (.bool false))), ok := by
            intro B ρ w S vs hS hr
            match vs, hr with
            | [u0], ⟨z0, _⟩ =>
              obtain ⟨rfl, _⟩ : u0 = _ ∧ _ := z0
              refine (cnf _).mono ?_
              rintro e w' ⟨rfl, hf⟩
              exact ⟨_, rfl, ⟨rfl, rfl⟩, hf⟩ },
        { args := [.one (.atom (.sym 1))], ans := .v (.one (.lit (.bool false))), ok := by
            intro B ρ w S vs hS hr
            match vs, hr with
            | [u0], ⟨z0, _⟩ =>
              obtain ⟨rfl, _⟩ : u0 = _ ∧ _ := z0
              refine (cng _).mono ?_
              rintro e w' ⟨rfl, hf⟩
              exact ⟨_, rfl, ⟨rfl, rfl⟩, hf⟩ }],
      orcT 53 [
        { args := [.one (.atom (.sym 0))], ans := .v (.one (.lit (.bool true))), ok := by
            intro B ρ w S vs hS hr
            match vs, hr with
            | [u0], ⟨z0, _⟩ =>
              obtain ⟨rfl, _⟩ : u0 = _ ∧ _ := z0
              refine (cif _).mono ?_
              rintro e w' ⟨rfl, hf⟩
              exact ⟨_, rfl, ⟨rfl, rfl⟩, hf⟩ },
        { args := [.one (.atom (.sym 1))], ans := .v (.one (.lit (.bool true))), ok := by
            intro B ρ w S vs hS hr
            match vs, hr with
            | [u0], ⟨z0, _⟩ =>
              obtain ⟨rfl, _⟩ : u0 = _ ∧ _ := z0
              refine (cig _).mono ?_
              rintro e w' ⟨rfl, hf⟩
              exact ⟨_, rfl, ⟨rfl, rfl⟩, hf⟩ }],
      orcT 57 [
        { args := [.one (.atom (.sym 0))], ans := .v (.one (.lit (.bool false))), ok := by
            intro B ρ w S vs hS hr
            match vs, hr with
            | [u0], ⟨z0, _⟩ =>
              obtain ⟨rfl, _⟩ : u0 = _ ∧ _ := z0
              refine (czf _).mono ?_
              rintro e w' ⟨rfl, hf⟩
              exact ⟨_, rfl, ⟨rfl, rfl⟩, hf⟩ },
        { args := [.one (.atom (.sym 1))], ans := .v (.one (.lit (.bool false))), ok := by
            intro B ρ w S vs hS hr
            match vs, hr with
            | [u0], ⟨z0, _⟩ =>
              obtain ⟨rfl, _⟩ : u0 = _ ∧ _ := z0
              refine (czg _).mono ?_
              rintro e w' ⟨rfl, hf⟩
              exact ⟨_, rfl, ⟨rfl, rfl⟩, hf⟩ }],
      orcT 56 [
        { args := [.one (.atom (.sym 0))], ans := .v (.one (.lit (.bool sa))), ok := by
            intro B ρ w S vs hS hr
            match vs, hr with
            | [u0], ⟨z0, _⟩ =>
              obtain ⟨rfl, _⟩ : u0 = _ ∧ _ := z0
              refine (cmf _).mono ?_
              rintro e w' ⟨rfl, hf⟩
              exact ⟨_, rfl, ⟨rfl, rfl⟩, hf⟩ },
        { args := [.one (.atom (.sym 1))], ans := .v (.one (.lit (.bool sb))), ok := by
            intro B ρ w S vs hS hr
            match vs, hr with
            | [u0], ⟨z0, _⟩ =>
              obtain ⟨rfl, _⟩ : u0 = _ ∧ _ := z0
              refine (cmg _).mono ?_
              rintro e w' ⟨rfl, hf⟩
              exact ⟨_, rfl, ⟨rfl, rfl⟩, hf⟩ }]], rfl⟩
    (opH_le (bigHook_le _ _) (opH_le (symHook_le _ _ _) (tabHook_le _ _)))
    (opH_ok (bigHook_ok _) (opH_ok (symHook_ok _ (fun h => by cases h) (fun h => by cases h)) (tabHook_ok _ all_nil all_nil)))
  refine (told_call (M := (DomQ true ν σ (fun _ => none))) (cx := ⟨Tryd.prog, true, t.get, orcD (div3IID sa sb), (opH (bigHook Tryd.prog true) (opH (symHook Tryd.prog div3IIN (fun _ _ _ => none)) (tabHook (div3IIL sa sb) div3IIM)))⟩) (xs := [.one (.atom (.sym 0)), .one (.atom (.sym 1)), .one (.atom (.sym 2))]) (vs := [.int .u64 f, .int .u64 g, .int .i64 m]) Tryd.checked.mixed hcx (fun hg => by cases hg) ⟨⟨rfl, fun _ => trivial⟩, ⟨rfl, fun _ => trivial⟩, ⟨rfl, fun _ => trivial⟩, trivial⟩ he).mono ?_
  rintro e w' ⟨v, ρ', rfl, hv, hbel⟩
  obtain ⟨us, rfl, hu⟩ := hv
  match us, hu with
  | [c0, c1], ⟨r0, r1, _⟩ =>
    obtain ⟨rfl, _⟩ : c0 = _ ∧ _ := r0
    obtain ⟨rfl, _⟩ : c1 = _ ∧ _ := r1
    exact ⟨rfl, hbel⟩

def div3IZD (sa : Bool) (sb : Bool) : List (FuncId × Ans) :=
  [(52, ansT [([.one (.atom (.sym 0))], .v (.one (.lit (.bool false)))), ([.one (.atom (.sym 1))], .v (.one (.lit (.bool false))))]),
   (53, ansT [([.one (.atom (.sym 0))], .v (.one (.lit (.bool true)))), ([.one (.atom (.sym 1))], .v (.one (.lit (.bool false))))]),
   (57, ansT [([.one (.atom (.sym 0))], .v (.one (.lit (.bool false)))), ([.one (.atom (.sym 1))], .v (.one (.lit (.bool true))))]),
   (58, ansT [([.one (.lit (.bool (sa != sb))), .one (.lit (.int .u64 9218868437227405312))], .v (.one (.atom (.sym 3))))]),
   (56, ansT [([.one (.atom (.sym 0))], .v (.one (.lit (.bool sa)))), ([.one (.atom (.sym 1))], .v (.one (.lit (.bool sb))))])]
def div3IZL (sa : Bool) (sb : Bool) : BT := []
def div3IZM : BT := []
def div3IZN : At → Option Nat
  | _ => none

set_option maxRecDepth 1000000 in
theorem div3IZTold : ∃ t : Tr Func, TabOK Tryd.prog t ∧ (∀ (sa : Bool) (sb : Bool), isAV (.tup [.one (.atom (.sym 3)), .one (.lit (.int .i64 (0)))]) (evalCall ⟨Tryd.prog, true, t.get, orcD (div3IZD sa sb), (opH (bigHook Tryd.prog true) (opH (symHook Tryd.prog div3IZN (fun _ _ _ => none)) (tabHook (div3IZL sa sb) div3IZM)))⟩ 1000 33 [.one (.atom (.sym 0)), .one (.atom (.sym 1)), .one (.atom (.sym 2))] .e 0) = true) :=
  ⟨((((((Tr.e).put 33 (some Tryd.f33)).put 52 (some Tryd.f52)).put 53 (some Tryd.f53)).put 57 (some Tryd.f57)).put 58 (some Tryd.f58)).put 56 (some Tryd.f56),
   (TabOK.put (TabOK.put (TabOK.put (TabOK.put (TabOK.put (TabOK.put (TabOK.e _) ⟨Tryd.func33, by decide +kernel, by decide +kernel⟩) ⟨Tryd.func52, by decide +kernel, by decide +kernel⟩) ⟨Tryd.func53, by decide +kernel, by decide +kernel⟩) ⟨Tryd.func57, by decide +kernel, by decide +kernel⟩) ⟨Tryd.func58, by decide +kernel, by decide +kernel⟩) ⟨Tryd.func56, by decide +kernel, by decide +kernel⟩),
   by decide +kernel⟩

set_option maxHeartbeats 4000000 in
set_option maxRecDepth 100000 in
theorem div3IZ_tab {w : World} (m : Int) (f g : Nat) (hf : f < 18446744073709551616) (hg : g < 18446744073709551616) (Kf : fsz f = 9218868437227405312) (Kg : fsz g = 0) {sa sb : Bool} (hsa : fneg f = sa) (hsb : fneg g = sb) :
    Calls Tryd.prog 33 #[.int .u64 f, .int .u64 g, .int .i64 m] w fun e w' => e = .returned (.tuple #[.int .u64 ((divG m f g).1 : Nat), .int .i64 ((divG m f g).2 : Nat)]) ∧ Below w.heap.size w w' := by
  have cnf : ∀ (w : World), Calls Tryd.prog 52 #[.int .u64 f] w fun e w' => e = .returned (.bool false) ∧ Fwd w w' := fun w => (none3_any f hf).mono fun e w' gg => ⟨by rw [gg.1, show isNan f = false from isNan_le (by omega)], gg.2 ▸ Fwd.refl _⟩
  have cif : ∀ (w : World), Calls Tryd.prog 53 #[.int .u64 f] w fun e w' => e = .returned (.bool true) ∧ Fwd w w' := fun w => (endless3_any f hf).mono fun e w' gg => ⟨by rw [gg.1, show decide (fsz f = 9218868437227405312) = true from decide_eq_true (by omega)], gg.2 ▸ Fwd.refl _⟩
  have czf : ∀ (w : World), Calls Tryd.prog 57 #[.int .u64 f] w fun e w' => e = .returned (.bool false) ∧ Fwd w w' := fun w => (nought3_any f hf).mono fun e w' gg => ⟨by rw [gg.1, show decide (fsz f = 0) = false from decide_eq_false (by omega)], gg.2 ▸ Fwd.refl _⟩
  have cng : ∀ (w : World), Calls Tryd.prog 52 #[.int .u64 g] w fun e w' => e = .returned (.bool false) ∧ Fwd w w' := fun w => (none3_any g hg).mono fun e w' gg => ⟨by rw [gg.1, show isNan g = false from isNan_le (by omega)], gg.2 ▸ Fwd.refl _⟩
  have cig : ∀ (w : World), Calls Tryd.prog 53 #[.int .u64 g] w fun e w' => e = .returned (.bool false) ∧ Fwd w w' := fun w => (endless3_any g hg).mono fun e w' gg => ⟨by rw [gg.1, show decide (fsz g = 9218868437227405312) = false from decide_eq_false (by omega)], gg.2 ▸ Fwd.refl _⟩
  have czg : ∀ (w : World), Calls Tryd.prog 57 #[.int .u64 g] w fun e w' => e = .returned (.bool true) ∧ Fwd w w' := fun w => (nought3_any g hg).mono fun e w' gg => ⟨by rw [gg.1, show decide (fsz g = 0) = true from decide_eq_true (by omega)], gg.2 ▸ Fwd.refl _⟩
  have cS : ∀ (w : World), Calls Tryd.prog 58 #[.bool (sa != sb), .int .u64 9218868437227405312] w fun e w' => e = .returned (.int .u64 ((sgn (sa != sb) + 9218868437227405312 : Nat) : Int)) ∧ Fwd w w' := fun w => (signed3_any (sa != sb) 9218868437227405312 (by omega)).mono fun e w' gg => ⟨gg.1, gg.2 ▸ Fwd.refl _⟩
  have cmf : ∀ (w : World), Calls Tryd.prog 56 #[.int .u64 f] w fun e w' => e = .returned (.bool sa) ∧ Fwd w w' := fun w => (minus3_any f hf).mono fun e w' gg => ⟨by rw [gg.1, hsa], gg.2 ▸ Fwd.refl _⟩
  have cmg : ∀ (w : World), Calls Tryd.prog 56 #[.int .u64 g] w fun e w' => e = .returned (.bool sb) ∧ Fwd w w' := fun w => (minus3_any g hg).mono fun e w' gg => ⟨by rw [gg.1, hsb], gg.2 ▸ Fwd.refl _⟩
  have hval : divG m f g = (sgn (sa != sb) + 9218868437227405312, 0) := by rw [divG_inf (by omega) (by omega), hsa, hsb]
  rw [hval]
  obtain ⟨t, ht, hr⟩ := div3IZTold
  obtain ⟨dl, n', he⟩ := isAV_ok (hr sa sb)
  let ν : Nat → Rat := nuL [fvQ f, fvQ g] []
  let σ : SymD := symL [.u f, .u g, .i m, .u (sgn (sa != sb) + 9218868437227405312)]
  have hcx : CxOK (DomQ true ν σ (fun _ => none)) w.heap.size ⟨Tryd.prog, true, t.get, orcD (div3IZD sa sb), (opH (bigHook Tryd.prog true) (opH (symHook Tryd.prog div3IZN (fun _ _ _ => none)) (tabHook (div3IZL sa sb) div3IZM)))⟩ := cxS_ok (M := (DomQ true ν σ (fun _ => none))) ht ⟨[
      orcT 52 [
        { args := [.one (.atom (.sym 0))], ans := .v (.one (.lit (.bool false))), ok := by
            intro B ρ w S vs hS hr
            match vs, hr with
            | [u0], ⟨z0, _⟩ =>
              obtain ⟨rfl, _⟩ : u0 = _ ∧ _ := z0
              refine (cnf _).mono ?_
              rintro e w' ⟨rfl, hf⟩
              exact ⟨_, rfl, ⟨rfl, rfl⟩, hf⟩ },
        { args := [.one (.atom (.sym 1))], ans := .v (.one (.lit (.bool false))), ok := by
            intro B ρ w S vs hS hr
            match vs, hr with
            | [u0], ⟨z0, _⟩ =>
              obtain ⟨rfl, _⟩ : u0 = _ ∧ _ := z0
              refine (cng _).mono ?_
              rintro e w' ⟨rfl, hf⟩
              exact ⟨_, rfl, ⟨rfl, rfl⟩, hf⟩ }],
      orcT 53 [
        { args := [.one (.atom (.sym 0))], ans := .v (.one (.lit (.bool true))), ok := by
            intro B ρ w S vs hS hr
            match vs, hr with
            | [u0], ⟨z0, _⟩ =>
              obtain ⟨rfl, _⟩ : u0 = _ ∧ _ := z0
              refine (cif _).mono ?_
              rintro e w' ⟨rfl, hf⟩
              exact ⟨_, rfl, ⟨rfl, rfl⟩, hf⟩ },
        { args := [.one (.atom (.sym 1))], ans := .v (.one (.lit (.bool false))), ok := by
            intro B ρ w S vs hS hr
            match vs, hr with
            | [u0], ⟨z0, _⟩ =>
              obtain ⟨rfl, _⟩ : u0 = _ ∧ _ := z0
              refine (cig _).mono ?_
              rintro e w' ⟨rfl, hf⟩
              exact ⟨_, rfl, ⟨rfl, rfl⟩, hf⟩ }],
      orcT 57 [
        { args := [.one (.atom (.sym 0))], ans := .v (.one (.lit (.bool false))), ok := by
            intro B ρ w S vs hS hr
            match vs, hr with
            | [u0], ⟨z0, _⟩ =>
              obtain ⟨rfl, _⟩ : u0 = _ ∧ _ := z0
              refine (czf _).mono ?_
              rintro e w' ⟨rfl, hf⟩
              exact ⟨_, rfl, ⟨rfl, rfl⟩, hf⟩ },
        { args := [.one (.atom (.sym 1))], ans := .v (.one (.lit (.bool true))), ok := by
            intro B ρ w S vs hS hr
            match vs, hr with
            | [u0], ⟨z0, _⟩ =>
              obtain ⟨rfl, _⟩ : u0 = _ ∧ _ := z0
              refine (czg _).mono ?_
              rintro e w' ⟨rfl, hf⟩
              exact ⟨_, rfl, ⟨rfl, rfl⟩, hf⟩ }],
      orcT 58 [
        { args := [.one (.lit (.bool (sa != sb))), .one (.lit (.int .u64 9218868437227405312))], ans := .v (.one (.atom (.sym 3))), ok := by
            intro B ρ w S vs hS hr
            match vs, hr with
            | [u0, u1], ⟨z0, z1, _⟩ =>
              obtain ⟨rfl, _⟩ : u0 = _ ∧ _ := z0
              obtain ⟨rfl, _⟩ : u1 = _ ∧ _ := z1
              refine (cS _).mono ?_
              rintro e w' ⟨rfl, hf⟩
              exact ⟨_, rfl, ⟨rfl, fun _ => trivial⟩, hf⟩ }],
      orcT 56 [
        { args := [.one (.atom (.sym 0))], ans := .v (.one (.lit (.bool sa))), ok := by
            intro B ρ w S vs hS hr
            match vs, hr with
            | [u0], ⟨z0, _⟩ =>
              obtain ⟨rfl, _⟩ : u0 = _ ∧ _ := z0
              refine (cmf _).mono ?_
              rintro e w' ⟨rfl, hf⟩
              exact ⟨_, rfl, ⟨rfl, rfl⟩, hf⟩ },
        { args := [.one (.atom (.sym 1))], ans := .v (.one (.lit (.bool sb))), ok := by
            intro B ρ w S vs hS hr
            match vs, hr with
            | [u0], ⟨z0, _⟩ =>
              obtain ⟨rfl, _⟩ : u0 = _ ∧ _ := z0
              refine (cmg _).mono ?_
              rintro e w' ⟨rfl, hf⟩
              exact ⟨_, rfl, ⟨rfl, rfl⟩, hf⟩ }]], rfl⟩
    (opH_le (bigHook_le _ _) (opH_le (symHook_le _ _ _) (tabHook_le _ _)))
    (opH_ok (bigHook_ok _) (opH_ok (symHook_ok _ (fun h => by cases h) (fun h => by cases h)) (tabHook_ok _ all_nil all_nil)))
  refine (told_call (M := (DomQ true ν σ (fun _ => none))) (cx := ⟨Tryd.prog, true, t.get, orcD (div3IZD sa sb), (opH (bigHook Tryd.prog true) (opH (symHook Tryd.prog div3IZN (fun _ _ _ => none)) (tabHook (div3IZL sa sb) div3IZM)))⟩) (xs := [.one (.atom (.sym 0)), .one (.atom (.sym 1)), .one (.atom (.sym 2))]) (vs := [.int .u64 f, .int .u64 g, .int .i64 m]) Tryd.checked.mixed hcx (fun hg => by cases hg) ⟨⟨rfl, fun _ => trivial⟩, ⟨rfl, fun _ => trivial⟩, ⟨rfl, fun _ => trivial⟩, trivial⟩ he).mono ?_
  rintro e w' ⟨v, ρ', rfl, hv, hbel⟩
  obtain ⟨us, rfl, hu⟩ := hv
  match us, hu with
  | [c0, c1], ⟨r0, r1, _⟩ =>
    obtain ⟨rfl, _⟩ : c0 = _ ∧ _ := r0
    obtain ⟨rfl, _⟩ : c1 = _ ∧ _ := r1
    exact ⟨rfl, hbel⟩

def div3IFD (sa : Bool) (sb : Bool) : List (FuncId × Ans) :=
  [(52, ansT [([.one (.atom (.sym 0))], .v (.one (.lit (.bool false)))), ([.one (.atom (.sym 1))], .v (.one (.lit (.bool false))))]),
   (53, ansT [([.one (.atom (.sym 0))], .v (.one (.lit (.bool true)))), ([.one (.atom (.sym 1))], .v (.one (.lit (.bool false))))]),
   (57, ansT [([.one (.atom (.sym 0))], .v (.one (.lit (.bool false)))), ([.one (.atom (.sym 1))], .v (.one (.lit (.bool false))))]),
   (58, ansT [([.one (.lit (.bool (sa != sb))), .one (.lit (.int .u64 9218868437227405312))], .v (.one (.atom (.sym 3))))]),
   (56, ansT [([.one (.atom (.sym 0))], .v (.one (.lit (.bool sa)))), ([.one (.atom (.sym 1))], .v (.one (.lit (.bool sb))))])]
def div3IFL (sa : Bool) (sb : Bool) : BT := []
def div3IFM : BT := []
def div3IFN : At → Option Nat
  | _ => none

set_option maxRecDepth 1000000 in
theorem div3IFTold : ∃ t : Tr Func, TabOK Tryd.prog t ∧ (∀ (sa : Bool) (sb : Bool), isAV (.tup [.one (.atom (.sym 3)), .one (.lit (.int .i64 (0)))]) (evalCall ⟨Tryd.prog, true, t.get, orcD (div3IFD sa sb), (opH (bigHook Tryd.prog true) (opH (symHook Tryd.prog div3IFN (fun _ _ _ => none)) (tabHook (div3IFL sa sb) div3IFM)))⟩ 1000 33 [.one (.atom (.sym 0)), .one (.atom (.sym 1)), .one (.atom (.sym 2))] .e 0) = true) :=
  ⟨((((((Tr.e).put 33 (some Tryd.f33)).put 52 (some Tryd.f52)).put 53 (some Tryd.f53)).put 57 (some Tryd.f57)).put 58 (some Tryd.f58)).put 56 (some Tryd.f56),
   (TabOK.put (TabOK.put (TabOK.put (TabOK.put (TabOK.put (TabOK.put (TabOK.e _) ⟨Tryd.func33, by decide +kernel, by decide +kernel⟩) ⟨Tryd.func52, by decide +kernel, by decide +kernel⟩) ⟨Tryd.func53, by decide +kernel, by decide +kernel⟩) ⟨Tryd.func57, by decide +kernel, by decide +kernel⟩) ⟨Tryd.func58, by decide +kernel, by decide +kernel⟩) ⟨Tryd.func56, by decide +kernel, by decide +kernel⟩),
   by decide +kernel⟩

set_option maxHeartbeats 4000000 in
set_option maxRecDepth 100000 in
theorem div3IF_tab {w : World} (m : Int) (f g : Nat) (hf : f < 18446744073709551616) (hg : g < 18446744073709551616) (Kf : fsz f = 9218868437227405312) (Kg : fsz g ≠ 0) (Lg : fsz g < 9218868437227405312) {sa sb : Bool} (hsa : fneg f = sa) (hsb : fneg g = sb) :
    Calls Tryd.prog 33 #[.int .u64 f, .int .u64 g, .int .i64 m] w fun e w' => e = .returned (.tuple #[.int .u64 ((divG m f g).1 : Nat), .int .i64 ((divG m f g).2 : Nat)]) ∧ Below w.heap.size w w' := by
  have cnf : ∀ (w : World), Calls Tryd.prog 52 #[.int .u64 f] w fun e w' => e = .returned (.bool false) ∧ Fwd w w' := fun w => (none3_any f hf).mono fun e w' gg => ⟨by rw [gg.1, show isNan f = false from isNan_le (by omega)], gg.2 ▸ Fwd.refl _⟩
  have cif : ∀ (w : World), Calls Tryd.prog 53 #[.int .u64 f] w fun e w' => e = .returned (.bool true) ∧ Fwd w w' := fun w => (endless3_any f hf).mono fun e w' gg => ⟨by rw [gg.1, show decide (fsz f = 9218868437227405312) = true from decide_eq_true (by omega)], gg.2 ▸ Fwd.refl _⟩
  have czf : ∀ (w : World), Calls Tryd.prog 57 #[.int .u64 f] w fun e w' => e = .returned (.bool false) ∧ Fwd w w' := fun w => (nought3_any f hf).mono fun e w' gg => ⟨by rw [gg.1, show decide (fsz f = 0) = false from decide_eq_false (by omega)], gg.2 ▸ Fwd.refl _⟩
  have cng : ∀ (w : World), Calls Tryd.prog 52 #[.int .u64 g] w fun e w' => e = .returned (.bool false) ∧ Fwd w w' := fun w => (none3_any g hg).mono fun e w' gg => ⟨by rw [gg.1, show isNan g = false from isNan_le (by omega)], gg.2 ▸ Fwd.refl _⟩
  have cig : ∀ (w : World), Calls Tryd.prog 53 #[.int .u64 g] w fun e w' => e = .returned (.bool false) ∧ Fwd w w' := fun w => (endless3_any g hg).mono fun e w' gg => ⟨by rw [gg.1, show decide (fsz g = 9218868437227405312) = false from decide_eq_false (by omega)], gg.2 ▸ Fwd.refl _⟩
  have czg : ∀ (w : World), Calls Tryd.prog 57 #[.int .u64 g] w fun e w' => e = .returned (.bool false) ∧ Fwd w w' := fun w => (nought3_any g hg).mono fun e w' gg => ⟨by rw [gg.1, show decide (fsz g = 0) = false from decide_eq_false (by omega)], gg.2 ▸ Fwd.refl _⟩
  have cS : ∀ (w : World), Calls Tryd.prog 58 #[.bool (sa != sb), .int .u64 9218868437227405312] w fun e w' => e = .returned (.int .u64 ((sgn (sa != sb) + 9218868437227405312 : Nat) : Int)) ∧ Fwd w w' := fun w => (signed3_any (sa != sb) 9218868437227405312 (by omega)).mono fun e w' gg => ⟨gg.1, gg.2 ▸ Fwd.refl _⟩
  have cmf : ∀ (w : World), Calls Tryd.prog 56 #[.int .u64 f] w fun e w' => e = .returned (.bool sa) ∧ Fwd w w' := fun w => (minus3_any f hf).mono fun e w' gg => ⟨by rw [gg.1, hsa], gg.2 ▸ Fwd.refl _⟩
  have cmg : ∀ (w : World), Calls Tryd.prog 56 #[.int .u64 g] w fun e w' => e = .returned (.bool sb) ∧ Fwd w w' := fun w => (minus3_any g hg).mono fun e w' gg => ⟨by rw [gg.1, hsb], gg.2 ▸ Fwd.refl _⟩
  have hval : divG m f g = (sgn (sa != sb) + 9218868437227405312, 0) := by rw [divG_inf (by omega) (by omega), hsa, hsb]
  rw [hval]
  obtain ⟨t, ht, hr⟩ := div3IFTold
  obtain ⟨dl, n', he⟩ := isAV_ok (hr sa sb)
  let ν : Nat → Rat := nuL [fvQ f, fvQ g] []
  let σ : SymD := symL [.u f, .u g, .i m, .u (sgn (sa != sb) + 9218868437227405312)]
  have hcx : CxOK (DomQ true ν σ (fun _ => none)) w.heap.size ⟨Tryd.prog, true, t.get, orcD (div3IFD sa sb), (opH (bigHook Tryd.prog true) (opH (symHook Tryd.prog div3IFN (fun _ _ _ => none)) (tabHook (div3IFL sa sb) div3IFM)))⟩ := cxS_ok (M := (DomQ true ν σ (fun _ => none))) ht ⟨[
      orcT 52 [
        { args := [.one (.atom (.sym 0))], ans := .v (.one (.lit (.bool false))), ok := by
            intro B ρ w S vs hS hr
            match vs, hr with
            | [u0], ⟨z0, _⟩ =>
              obtain ⟨rfl, _⟩ : u0 = _ ∧ _ := z0
              refine (cnf _).mono ?_
              rintro e w' ⟨rfl, hf⟩
              exact ⟨_, rfl, ⟨rfl, rfl⟩, hf⟩ },
        { args := [.one (.atom (.sym 1))], ans := .v (.one (.lit (.bool false))), ok := by
            intro B ρ w S vs hS hr
            match vs, hr with
            | [u0], ⟨z0, _⟩ =>
              obtain ⟨rfl, _⟩ : u0 = _ ∧ _ := z0
              refine (cng _).mono ?_
              rintro e w' ⟨rfl, hf⟩
              exact ⟨_, rfl, ⟨rfl, rfl⟩, hf⟩ }],
      orcT 53 [
        { args := [.one (.atom (.sym 0))], ans := .v (.one (.lit (.bool true))), ok := by
            intro B ρ w S vs hS hr
            match vs, hr with
            | [u0], ⟨z0, _⟩ =>
              obtain ⟨rfl, _⟩ : u0 = _ ∧ _ := z0
              refine (cif _).mono ?_
              rintro e w' ⟨rfl, hf⟩
              exact ⟨_, rfl, ⟨rfl, rfl⟩, hf⟩ },
        { args := [.one (.atom (.sym 1))], ans := .v (.one (.lit (.bool false))), ok := by
            intro B ρ w S vs hS hr
            match vs, hr with
            | [u0], ⟨z0, _⟩ =>
              obtain ⟨rfl, _⟩ : u0 = _ ∧ _ := z0
              refine (cig _).mono ?_
              rintro e w' ⟨rfl, hf⟩
              exact ⟨_, rfl, ⟨rfl, rfl⟩, hf⟩ }],
      orcT 57 [
        { args := [.one (.atom (.sym 0))], ans := .v (.one (.lit (.bool false))), ok := by
            intro B ρ w S vs hS hr
            match vs, hr with
            | [u0], ⟨z0, _⟩ =>
              obtain ⟨rfl, _⟩ : u0 = _ ∧ _ := z0
              refine (czf _).mono ?_
              rintro e w' ⟨rfl, hf⟩
              exact ⟨_, rfl, ⟨rfl, rfl⟩, hf⟩ },
        { args := [.one (.atom (.sym 1))], ans := .v (.one (.lit (.bool false))), ok := by
            intro B ρ w S vs hS hr
            match vs, hr with
            | [u0], ⟨z0, _⟩ =>
              obtain ⟨rfl, _⟩ : u0 = _ ∧ _ := z0
              refine (czg _).mono ?_
              rintro e w' ⟨rfl, hf⟩
              exact ⟨_, rfl, ⟨rfl, rfl⟩, hf⟩ }],
      orcT 58 [
        { args := [.one (.lit (.bool (sa != sb))), .one (.lit (.int .u64 9218868437227405312))], ans := .v (.one (.atom (.sym 3))), ok := by
            intro B ρ w S vs hS hr
            match vs, hr with
            | [u0, u1], ⟨z0, z1, _⟩ =>
              obtain ⟨rfl, _⟩ : u0 = _ ∧ _ := z0
              obtain ⟨rfl, _⟩ : u1 = _ ∧ _ := z1
              refine (cS _).mono ?_
              rintro e w' ⟨rfl, hf⟩
              exact ⟨_, rfl, ⟨rfl, fun _ => trivial⟩, hf⟩ }],
      orcT 56 [
        { args := [.one (.atom (.sym 0))], ans := .v (.one (.lit (.bool sa))), ok := by
            intro B ρ w S vs hS hr
            match vs, hr with
            | [u0], ⟨z0, _⟩ =>
              obtain ⟨rfl, _⟩ : u0 = _ ∧ _ := z0
              refine (cmf _).mono ?_
              rintro e w' ⟨rfl, hf⟩
              exact ⟨_, rfl, ⟨rfl, rfl⟩, hf⟩ },
        { args := [.one (.atom (.sym 1))], ans := .v (.one (.lit (.bool sb))), ok := by
            intro B ρ w S vs hS hr
            match vs, hr with
            | [u0], ⟨z0, _⟩ =>
              obtain ⟨rfl, _⟩ : u0 = _ ∧ _ := z0
              refine (cmg _).mono ?_
              rintro e w' ⟨rfl, hf⟩
              exact ⟨_, rfl, ⟨rfl, rfl⟩, hf⟩ }]], rfl⟩
    (opH_le (bigHook_le _ _) (opH_le (symHook_le _ _ _) (tabHook_le _ _)))
    (opH_ok (bigHook_ok _) (opH_ok (symHook_ok _ (fun h => by cases h) (fun h => by cases h)) (tabHook_ok _ all_nil all_nil)))
  refine (told_call (M := (DomQ true ν σ (fun _ => none))) (cx := ⟨Tryd.prog, true, t.get, orcD (div3IFD sa sb), (opH (bigHook Tryd.prog true) (opH (symHook Tryd.prog div3IFN (fun _ _ _ => none)) (tabHook (div3IFL sa sb) div3IFM)))⟩) (xs := [.one (.atom (.sym 0)), .one (.atom (.sym 1)), .one (.atom (.sym 2))]) (vs := [.int .u64 f, .int .u64 g, .int .i64 m]) Tryd.checked.mixed hcx (fun hg => by cases hg) ⟨⟨rfl, fun _ => trivial⟩, ⟨rfl, fun _ => trivial⟩, ⟨rfl, fun _ => trivial⟩, trivial⟩ he).mono ?_
  rintro e w' ⟨v, ρ', rfl, hv, hbel⟩
  obtain ⟨us, rfl, hu⟩ := hv
  match us, hu with
  | [c0, c1], ⟨r0, r1, _⟩ =>
    obtain ⟨rfl, _⟩ : c0 = _ ∧ _ := r0
    obtain ⟨rfl, _⟩ : c1 = _ ∧ _ := r1
    exact ⟨rfl, hbel⟩

def div3ZID (sa : Bool) (sb : Bool) : List (FuncId × Ans) :=
  [(52, ansT [([.one (.atom (.sym 0))], .v (.one (.lit (.bool false)))), ([.one (.atom (.sym 1))], .v (.one (.lit (.bool false))))]),
   (53, ansT [([.one (.atom (.sym 0))], .v (.one (.lit (.bool false)))), ([.one (.atom (.sym 1))], .v (.one (.lit (.bool true))))]),
   (57, ansT [([.one (.atom (.sym 0))], .v (.one (.lit (.bool true)))), ([.one (.atom (.sym 1))], .v (.one (.lit (.bool false))))]),
   (58, ansT [([.one (.lit (.bool (sa != sb))), .one (.lit (.int .u64 0))], .v (.one (.atom (.sym 3))))]),
   (56, ansT [([.one (.atom (.sym 0))], .v (.one (.lit (.bool sa)))), ([.one (.atom (.sym 1))], .v (.one (.lit (.bool sb))))])]
def div3ZIL (sa : Bool) (sb : Bool) : BT := []
def div3ZIM : BT := []
def div3ZIN : At → Option Nat
  | _ => none

set_option maxRecDepth 1000000 in
theorem div3ZITold : ∃ t : Tr Func, TabOK Tryd.prog t ∧ (∀ (sa : Bool) (sb : Bool), isAV (.tup [.one (.atom (.sym 3)), .one (.lit (.int .i64 (0)))]) (evalCall ⟨Tryd.prog, true, t.get, orcD (div3ZID sa sb), (opH (bigHook Tryd.prog true) (opH (symHook Tryd.prog div3ZIN (fun _ _ _ => none)) (tabHook (div3ZIL sa sb) div3ZIM)))⟩ 1000 33 [.one (.atom (.sym 0)), .one (.atom (.sym 1)), .one (.atom (.sym 2))] .e 0) = true) :=
  ⟨((((((Tr.e).put 33 (some Tryd.f33)).put 52 (some Tryd.f52)).put 53 (some Tryd.f53)).put 57 (some Tryd.f57)).put 58 (some Tryd.f58)).put 56 (some Tryd.f56),
   (TabOK.put (TabOK.put (TabOK.put (TabOK.put (TabOK.put (TabOK.put (TabOK.e _) ⟨Tryd.func33, by decide +kernel, by decide +kernel⟩) ⟨Tryd.func52, by decide +kernel, by decide +kernel⟩) ⟨Tryd.func53, by decide +kernel, by decide +kernel⟩) ⟨Tryd.func57, by decide +kernel, by decide +kernel⟩) ⟨Tryd.func58, by decide +kernel, by decide +kernel⟩) ⟨Tryd.func56, by decide +kernel, by decide +kernel⟩),
   by decide +kernel⟩

set_option maxHeartbeats 4000000 in
set_option maxRecDepth 100000 in
theorem div3ZI_tab {w : World} (m : Int) (f g : Nat) (hf : f < 18446744073709551616) (hg : g < 18446744073709551616) (Kf : fsz f = 0) (Kg : fsz g = 9218868437227405312) {sa sb : Bool} (hsa : fneg f = sa) (hsb : fneg g = sb) :
    Calls Tryd.prog 33 #[.int .u64 f, .int .u64 g, .int .i64 m] w fun e w' => e = .returned (.tuple #[.int .u64 ((divG m f g).1 : Nat), .int .i64 ((divG m f g).2 : Nat)]) ∧ Below w.heap.size w w' := by
  have cnf : ∀ (w : World), Calls Tryd.prog 52 #[.int .u64 f] w fun e w' => e = .returned (.bool false) ∧ Fwd w w' := fun w => (none3_any f hf).mono fun e w' gg => ⟨by rw [gg.1, show isNan f = false from isNan_le (by omega)], gg.2 ▸ Fwd.refl _⟩
  have cif : ∀ (w : World), Calls Tryd.prog 53 #[.int .u64 f] w fun e w' => e = .returned (.bool false) ∧ Fwd w w' := fun w => (endless3_any f hf).mono fun e w' gg => ⟨by rw [gg.1, show decide (fsz f = 9218868437227405312) = false from decide_eq_false (by omega)], gg.2 ▸ Fwd.refl _⟩
  have czf : ∀ (w : World), Calls Tryd.prog 57 #[.int .u64 f] w fun e w' => e = .returned (.bool true) ∧ Fwd w w' := fun w => (nought3_any f hf).mono fun e w' gg => ⟨by rw [gg.1, show decide (fsz f = 0) = true from decide_eq_true (by omega)], gg.2 ▸ Fwd.refl _⟩
  have cng : ∀ (w : World), Calls Tryd.prog 52 #[.int .u64 g] w fun e w' => e = .returned (.bool false) ∧ Fwd w w' := fun w => (none3_any g hg).mono fun e w' gg => ⟨by rw [gg.1, show isNan g = false from isNan_le (by omega)], gg.2 ▸ Fwd.refl _⟩
  have cig : ∀ (w : World), Calls Tryd.prog 53 #[.int .u64 g] w fun e w' => e = .returned (.bool true) ∧ Fwd w w' := fun w => (endless3_any g hg).mono fun e w' gg => ⟨by rw [gg.1, show decide (fsz g = 9218868437227405312) = true from decide_eq_true (by omega)], gg.2 ▸ Fwd.refl _⟩
  have czg : ∀ (w : World), Calls Tryd.prog 57 #[.int .u64 g] w fun e w' => e = .returned (.bool false) ∧ Fwd w w' := fun w => (nought3_any g hg).mono fun e w' gg => ⟨by rw [gg.1, show decide (fsz g = 0) = false from decide_eq_false (by omega)], gg.2 ▸ Fwd.refl _⟩
  have cS : ∀ (w : World), Calls Tryd.prog 58 #[.bool (sa != sb), .int .u64 0] w fun e w' => e = .returned (.int .u64 ((sgn (sa != sb) + 0 : Nat) : Int)) ∧ Fwd w w' := fun w => (signed3_any (sa != sb) 0 (by omega)).mono fun e w' gg => ⟨gg.1, gg.2 ▸ Fwd.refl _⟩
  have cmf : ∀ (w : World), Calls Tryd.prog 56 #[.int .u64 f] w fun e w' => e = .returned (.bool sa) ∧ Fwd w w' := fun w => (minus3_any f hf).mono fun e w' gg => ⟨by rw [gg.1, hsa], gg.2 ▸ Fwd.refl _⟩
  have cmg : ∀ (w : World), Calls Tryd.prog 56 #[.int .u64 g] w fun e w' => e = .returned (.bool sb) ∧ Fwd w w' := fun w => (minus3_any g hg).mono fun e w' gg => ⟨by rw [gg.1, hsb], gg.2 ▸ Fwd.refl _⟩
  have hval : divG m f g = (sgn (sa != sb), 0) := by rw [divG_small (by omega), hsa, hsb]
  rw [hval]
  obtain ⟨t, ht, hr⟩ := div3ZITold
  obtain ⟨dl, n', he⟩ := isAV_ok (hr sa sb)
  let ν : Nat → Rat := nuL [fvQ f, fvQ g] []
  let σ : SymD := symL [.u f, .u g, .i m, .u (sgn (sa != sb) + 0)]
  have hcx : CxOK (DomQ true ν σ (fun _ => none)) w.heap.size ⟨Tryd.prog, true, t.get, orcD (div3ZID sa sb), (opH (bigHook Tryd.prog true) (opH (symHook Tryd.prog div3ZIN (fun _ _ _ => none)) (tabHook (div3ZIL sa sb) div3ZIM)))⟩ := cxS_ok (M := (DomQ true ν σ (fun _ => none))) ht ⟨[
      orcT 52 [
        { args := [.one (.atom (.sym 0))], ans := .v (.one (.lit (.bool false))), ok := by
            intro B ρ w S vs hS hr
            match vs, hr with
            | [u0], ⟨z0, _⟩ =>
              obtain ⟨rfl, _⟩ : u0 = _ ∧ _ := z0
              refine (cnf _).mono ?_
              rintro e w' ⟨rfl, hf⟩
              exact ⟨_, rfl, ⟨rfl, rfl⟩, hf⟩ },
        { args := [.one (.atom (.sym 1))], ans := .v (.one (.lit (.bool false))), ok := by
            intro B ρ w S vs hS hr
            match vs, hr with
            | [u0], ⟨z0, _⟩ =>
              obtain ⟨rfl, _⟩ : u0 = _ ∧ _ := z0
              refine (cng _).mono ?_
              rintro e w' ⟨rfl, hf⟩
              exact ⟨_, rfl, ⟨rfl, rfl⟩, hf⟩ }],
      orcT 53 [
        { args := [.one (.atom (.sym 0))], ans := .v (.one (.lit (.bool false))), ok := by
            intro B ρ w S vs hS hr
            match vs, hr with
            | [u0], ⟨z0, _⟩ =>
              obtain ⟨rfl, _⟩ : u0 = _ ∧ _ := z0
              refine (cif _).mono ?_
              rintro e w' ⟨rfl, hf⟩
              exact ⟨_, rfl, ⟨rfl, rfl⟩, hf⟩ },
        { args := [.one (.atom (.sym 1))], ans := .v (.one (.lit (.bool true))), ok := by
            intro B ρ w S vs hS hr
            match vs, hr with
            | [u0], ⟨z0, _⟩ =>
              obtain ⟨rfl, _⟩ : u0 = _ ∧ _ := z0
              refine (cig _).mono ?_
              rintro e w' ⟨rfl, hf⟩
              exact ⟨_, rfl, ⟨rfl, rfl⟩, hf⟩ }],
      orcT 57 [
        { args := [.one (.atom (.sym 0))], ans := .v (.one (.lit (.bool true))), ok := by
            intro B ρ w S vs hS hr
            match vs, hr with
            | [u0], ⟨z0, _⟩ =>
              obtain ⟨rfl, _⟩ : u0 = _ ∧ _ := z0
              refine (czf _).mono ?_
              rintro e w' ⟨rfl, hf⟩
              exact ⟨_, rfl, ⟨rfl, rfl⟩, hf⟩ },
        { args := [.one (.atom (.sym 1))], ans := .v (.one (.lit (.bool false))), ok := by
            intro B ρ w S vs hS hr
            match vs, hr with
            | [u0], ⟨z0, _⟩ =>
              obtain ⟨rfl, _⟩ : u0 = _ ∧ _ := z0
              refine (czg _).mono ?_
              rintro e w' ⟨rfl, hf⟩
              exact ⟨_, rfl, ⟨rfl, rfl⟩, hf⟩ }],
      orcT 58 [
        { args := [.one (.lit (.bool (sa != sb))), .one (.lit (.int .u64 0))], ans := .v (.one (.atom (.sym 3))), ok := by
            intro B ρ w S vs hS hr
            match vs, hr with
            | [u0, u1], ⟨z0, z1, _⟩ =>
              obtain ⟨rfl, _⟩ : u0 = _ ∧ _ := z0
              obtain ⟨rfl, _⟩ : u1 = _ ∧ _ := z1
              refine (cS _).mono ?_
              rintro e w' ⟨rfl, hf⟩
              exact ⟨_, rfl, ⟨rfl, fun _ => trivial⟩, hf⟩ }],
      orcT 56 [
        { args := [.one (.atom (.sym 0))], ans := .v (.one (.lit (.bool sa))), ok := by
            intro B ρ w S vs hS hr
            match vs, hr with
            | [u0], ⟨z0, _⟩ =>
              obtain ⟨rfl, _⟩ : u0 = _ ∧ _ := z0
              refine (cmf _).mono ?_
              rintro e w' ⟨rfl, hf⟩
              exact ⟨_, rfl, ⟨rfl, rfl⟩, hf⟩ },
        { args := [.one (.atom (.sym 1))], ans := .v (.one (.lit (.bool sb))), ok := by
            intro B ρ w S vs hS hr
            match vs, hr with
            | [u0], ⟨z0, _⟩ =>
              obtain ⟨rfl, _⟩ : u0 = _ ∧ _ := z0
              refine (cmg _).mono ?_
              rintro e w' ⟨rfl, hf⟩
              exact ⟨_, rfl, ⟨rfl, rfl⟩, hf⟩ }]], rfl⟩
    (opH_le (bigHook_le _ _) (opH_le (symHook_le _ _ _) (tabHook_le _ _)))
    (opH_ok (bigHook_ok _) (opH_ok (symHook_ok _ (fun h => by cases h) (fun h => by cases h)) (tabHook_ok _ all_nil all_nil)))
  refine (told_call (M := (DomQ true ν σ (fun _ => none))) (cx := ⟨Tryd.prog, true, t.get, orcD (div3ZID sa sb), (opH (bigHook Tryd.prog true) (opH (symHook Tryd.prog div3ZIN (fun _ _ _ => none)) (tabHook (div3ZIL sa sb) div3ZIM)))⟩) (xs := [.one (.atom (.sym 0)), .one (.atom (.sym 1)), .one (.atom (.sym 2))]) (vs := [.int .u64 f, .int .u64 g, .int .i64 m]) Tryd.checked.mixed hcx (fun hg => by cases hg) ⟨⟨rfl, fun _ => trivial⟩, ⟨rfl, fun _ => trivial⟩, ⟨rfl, fun _ => trivial⟩, trivial⟩ he).mono ?_
  rintro e w' ⟨v, ρ', rfl, hv, hbel⟩
  obtain ⟨us, rfl, hu⟩ := hv
  match us, hu with
  | [c0, c1], ⟨r0, r1, _⟩ =>
    obtain ⟨rfl, _⟩ : c0 = _ ∧ _ := r0
    obtain ⟨rfl, _⟩ : c1 = _ ∧ _ := r1
    exact ⟨rfl, hbel⟩

def div3ZZD (sa : Bool) (sb : Bool) : List (FuncId × Ans) :=
  [(52, ansT [([.one (.atom (.sym 0))], .v (.one (.lit (.bool false)))), ([.one (.atom (.sym 1))], .v (.one (.lit (.bool false))))]),
   (53, ansT [([.one (.atom (.sym 0))], .v (.one (.lit (.bool false)))), ([.one (.atom (.sym 1))], .v (.one (.lit (.bool false))))]),
   (57, ansT [([.one (.atom (.sym 0))], .v (.one (.lit (.bool true)))), ([.one (.atom (.sym 1))], .v (.one (.lit (.bool true))))]),
   (56, ansT [([.one (.atom (.sym 0))], .v (.one (.lit (.bool sa)))), ([.one (.atom (.sym 1))], .v (.one (.lit (.bool sb))))])]
def div3ZZL (sa : Bool) (sb : Bool) : BT := []
def div3ZZM : BT := []
def div3ZZN : At → Option Nat
  | _ => none

set_option maxRecDepth 1000000 in
theorem div3ZZTold : ∃ t : Tr Func, TabOK Tryd.prog t ∧ (∀ (sa : Bool) (sb : Bool), isAV (.tup [.one (.lit (.int .u64 9221120237041090560)), .one (.lit (.int .i64 (16)))]) (evalCall ⟨Tryd.prog, true, t.get, orcD (div3ZZD sa sb), (opH (bigHook Tryd.prog true) (opH (symHook Tryd.prog div3ZZN (fun _ _ _ => none)) (tabHook (div3ZZL sa sb) div3ZZM)))⟩ 1000 33 [.one (.atom (.sym 0)), .one (.atom (.sym 1)), .one (.atom (.sym 2))] .e 0) = true) :=
  ⟨(((((Tr.e).put 33 (some Tryd.f33)).put 52 (some Tryd.f52)).put 53 (some Tryd.f53)).put 57 (some Tryd.f57)).put 56 (some Tryd.f56),
   (TabOK.put (TabOK.put (TabOK.put (TabOK.put (TabOK.put (TabOK.e _) ⟨Tryd.func33, by decide +kernel, by decide +kernel⟩) ⟨Tryd.func52, by decide +kernel, by decide +kernel⟩) ⟨Tryd.func53, by decide +kernel, by decide +kernel⟩) ⟨Tryd.func57, by decide +kernel, by decide +kernel⟩) ⟨Tryd.func56, by decide +kernel, by decide +kernel⟩),
   by decide +kernel⟩

set_option maxHeartbeats 4000000 in
set_option maxRecDepth 100000 in
theorem div3ZZ_tab {w : World} (m : Int) (f g : Nat) (hf : f < 18446744073709551616) (hg : g < 18446744073709551616) (Kf : fsz f = 0) (Kg : fsz g = 0) {sa sb : Bool} (hsa : fneg f = sa) (hsb : fneg g = sb) :
    Calls Tryd.prog 33 #[.int .u64 f, .int .u64 g, .int .i64 m] w fun e w' => e = .returned (.tuple #[.int .u64 ((divG m f g).1 : Nat), .int .i64 ((divG m f g).2 : Nat)]) ∧ Below w.heap.size w w' := by
  have cnf : ∀ (w : World), Calls Tryd.prog 52 #[.int .u64 f] w fun e w' => e = .returned (.bool false) ∧ Fwd w w' := fun w => (none3_any f hf).mono fun e w' gg => ⟨by rw [gg.1, show isNan f = false from isNan_le (by omega)], gg.2 ▸ Fwd.refl _⟩
  have cif : ∀ (w : World), Calls Tryd.prog 53 #[.int .u64 f] w fun e w' => e = .returned (.bool false) ∧ Fwd w w' := fun w => (endless3_any f hf).mono fun e w' gg => ⟨by rw [gg.1, show decide (fsz f = 9218868437227405312) = false from decide_eq_false (by omega)], gg.2 ▸ Fwd.refl _⟩
  have czf : ∀ (w : World), Calls Tryd.prog 57 #[.int .u64 f] w fun e w' => e = .returned (.bool true) ∧ Fwd w w' := fun w => (nought3_any f hf).mono fun e w' gg => ⟨by rw [gg.1, show decide (fsz f = 0) = true from decide_eq_true (by omega)], gg.2 ▸ Fwd.refl _⟩
  have cng : ∀ (w : World), Calls Tryd.prog 52 #[.int .u64 g] w fun e w' => e = .returned (.bool false) ∧ Fwd w w' := fun w => (none3_any g hg).mono fun e w' gg => ⟨by rw [gg.1, show isNan g = false from isNan_le (by omega)], gg.2 ▸ Fwd.refl _⟩
  have cig : ∀ (w : World), Calls Tryd.prog 53 #[.int .u64 g] w fun e w' => e = .returned (.bool false) ∧ Fwd w w' := fun w => (endless3_any g hg).mono fun e w' gg => ⟨by rw [gg.1, show decide (fsz g = 9218868437227405312) = false from decide_eq_false (by omega)], gg.2 ▸ Fwd.refl _⟩
  have czg : ∀ (w : World), Calls Tryd.prog 57 #[.int .u64 g] w fun e w' => e = .returned (.bool true) ∧ Fwd w w' := fun w => (nought3_any g hg).mono fun e w' gg => ⟨by rw [gg.1, show decide (fsz g = 0) = true from decide_eq_true (by omega)], gg.2 ▸ Fwd.refl _⟩
  have cmf : ∀ (w : World), Calls Tryd.prog 56 #[.int .u64 f] w fun e w' => e = .returned (.bool sa) ∧ Fwd w w' := fun w => (minus3_any f hf).mono fun e w' gg => ⟨by rw [gg.1, hsa], gg.2 ▸ Fwd.refl _⟩
  have cmg : ∀ (w : World), Calls Tryd.prog 56 #[.int .u64 g] w fun e w' => e = .returned (.bool sb) ∧ Fwd w w' := fun w => (minus3_any g hg).mono fun e w' gg => ⟨by rw [gg.1, hsb], gg.2 ▸ Fwd.refl _⟩
  have hval : divG m f g = _ := divG_bad (by omega)
  rw [hval]
  obtain ⟨t, ht, hr⟩ := div3ZZTold
  obtain ⟨dl, n', he⟩ := isAV_ok (hr sa sb)
  let ν : Nat → Rat := nuL [fvQ f, fvQ g] []
  let σ : SymD := symL [.u f, .u g, .i m]
  have hcx : CxOK (DomQ true ν σ (fun _ => none)) w.heap.size ⟨Tryd.prog, true, t.get, orcD (div3ZZD sa sb), (opH (bigHook Tryd.prog true) (opH (symHook Tryd.prog div3ZZN (fun _ _ _ => none)) (tabHook (div3ZZL sa sb) div3ZZM)))⟩ := cxS_ok (M := (DomQ true ν σ (fun _ => none))) ht ⟨[
      orcT 52 [
        { args := [.one (.atom (.sym 0))], ans := .v (.one (.lit (.bool false))), ok := by
            intro B ρ w S vs hS hr
            match vs, hr with
            | [u0], ⟨z0, _⟩ =>
              obtain ⟨rfl, _⟩ : u0 = _ ∧ _ := z0
              refine (cnf _).mono ?_
              rintro e w' ⟨rfl, hf⟩
              exact ⟨_, rfl, ⟨rfl, rfl⟩, hf⟩ },
        { args := [.one (.atom (.sym 1))], ans := .v (.one (.lit (.bool false))), ok := by
            intro B ρ w S vs hS hr
            match vs, hr with
            | [u0], ⟨z0, _⟩ =>
              obtain ⟨rfl, _⟩ : u0 = _ ∧ _ := z0
              refine (cng _).mono ?_
              rintro e w' ⟨rfl, hf⟩
              exact ⟨_, rfl, ⟨rfl, rfl⟩, hf⟩ }],
      orcT 53 [
        { args := [.one (.atom (.sym 0))], ans := .v (.one (.lit (.bool false))), ok := by
            intro B ρ w S vs hS hr
            match vs, hr with
            | [u0], ⟨z0, _⟩ =>
              obtain ⟨rfl, _⟩ : u0 = _ ∧ _ := z0
              refine (cif _).mono ?_
              rintro e w' ⟨rfl, hf⟩
              exact ⟨_, rfl, ⟨rfl, rfl⟩, hf⟩ },
        { args := [.one (.atom (.sym 1))], ans := .v (.one (.lit (.bool false))), ok := by
            intro B ρ w S vs hS hr
            match vs, hr with
            | [u0], ⟨z0, _⟩ =>
              obtain ⟨rfl, _⟩ : u0 = _ ∧ _ := z0
              refine (cig _).mono ?_
              rintro e w' ⟨rfl, hf⟩
              exact ⟨_, rfl, ⟨rfl, rfl⟩, hf⟩ }],
      orcT 57 [
        { args := [.one (.atom (.sym 0))], ans := .v (.one (.lit (.bool true))), ok := by
            intro B ρ w S vs hS hr
            match vs, hr with
            | [u0], ⟨z0, _⟩ =>
              obtain ⟨rfl, _⟩ : u0 = _ ∧ _ := z0
              refine (czf _).mono ?_
              rintro e w' ⟨rfl, hf⟩
              exact ⟨_, rfl, ⟨rfl, rfl⟩, hf⟩ },
        { args := [.one (.atom (.sym 1))], ans := .v (.one (.lit (.bool true))), ok := by
            intro B ρ w S vs hS hr
            match vs, hr with
            | [u0], ⟨z0, _⟩ =>
              obtain ⟨rfl, _⟩ : u0 = _ ∧ _ := z0
              refine (czg _).mono ?_
              rintro e w' ⟨rfl, hf⟩
              exact ⟨_, rfl, ⟨rfl, rfl⟩, hf⟩ }],
      orcT 56 [
        { args := [.one (.atom (.sym 0))], ans := .v (.one (.lit (.bool sa))), ok := by
            intro B ρ w S vs hS hr
            match vs, hr with
            | [u0], ⟨z0, _⟩ =>
              obtain ⟨rfl, _⟩ : u0 = _ ∧ _ := z0
              refine (cmf _).mono ?_
              rintro e w' ⟨rfl, hf⟩
              exact ⟨_, rfl, ⟨rfl, rfl⟩, hf⟩ },
        { args := [.one (.atom (.sym 1))], ans := .v (.one (.lit (.bool sb))), ok := by
            intro B ρ w S vs hS hr
            match vs, hr with
            | [u0], ⟨z0, _⟩ =>
              obtain ⟨rfl, _⟩ : u0 = _ ∧ _ := z0
              refine (cmg _).mono ?_
              rintro e w' ⟨rfl, hf⟩
              exact ⟨_, rfl, ⟨rfl, rfl⟩, hf⟩ }]], rfl⟩
    (opH_le (bigHook_le _ _) (opH_le (symHook_le _ _ _) (tabHook_le _ _)))
    (opH_ok (bigHook_ok _) (opH_ok (symHook_ok _ (fun h => by cases h) (fun h => by cases h)) (tabHook_ok _ all_nil all_nil)))
  refine (told_call (M := (DomQ true ν σ (fun _ => none))) (cx := ⟨Tryd.prog, true, t.get, orcD (div3ZZD sa sb), (opH (bigHook Tryd.prog true) (opH (symHook Tryd.prog div3ZZN (fun _ _ _ => none)) (tabHook (div3ZZL sa sb) div3ZZM)))⟩) (xs := [.one (.atom (.sym 0)), .one (.atom (.sym 1)), .one (.atom (.sym 2))]) (vs := [.int .u64 f, .int .u64 g, .int .i64 m]) Tryd.checked.mixed hcx (fun hg => by cases hg) ⟨⟨rfl, fun _ => trivial⟩, ⟨rfl, fun _ => trivial⟩, ⟨rfl, fun _ => trivial⟩, trivial⟩ he).mono ?_
  rintro e w' ⟨v, ρ', rfl, hv, hbel⟩
  obtain ⟨us, rfl, hu⟩ := hv
  match us, hu with
  | [c0, c1], ⟨r0, r1, _⟩ =>
    obtain ⟨rfl, _⟩ : c0 = _ ∧ _ := r0
    obtain ⟨rfl, _⟩ : c1 = _ ∧ _ := r1
    exact ⟨rfl, hbel⟩

def div3ZFD (sa : Bool) (sb : Bool) : List (FuncId × Ans) :=
  [(52, ansT [([.one (.atom (.sym 0))], .v (.one (.lit (.bool false)))), ([.one (.atom (.sym 1))], .v (.one (.lit (.bool false))))]),
   (53, ansT [([.one (.atom (.sym 0))], .v (.one (.lit (.bool false)))), ([.one (.atom (.sym 1))], .v (.one (.lit (.bool false))))]),
   (57, ansT [([.one (.atom (.sym 0))], .v (.one (.lit (.bool true)))), ([.one (.atom (.sym 1))], .v (.one (.lit (.bool false))))]),
   (58, ansT [([.one (.lit (.bool (sa != sb))), .one (.lit (.int .u64 0))], .v (.one (.atom (.sym 3))))]),
   (56, ansT [([.one (.atom (.sym 0))], .v (.one (.lit (.bool sa)))), ([.one (.atom (.sym 1))], .v (.one (.lit (.bool sb))))])]
def div3ZFL (sa : Bool) (sb : Bool) : BT := []
def div3ZFM : BT := []
def div3ZFN : At → Option Nat
  | _ => none

set_option maxRecDepth 1000000 in
theorem div3ZFTold : ∃ t : Tr Func, TabOK Tryd.prog t ∧ (∀ (sa : Bool) (sb : Bool), isAV (.tup [.one (.atom (.sym 3)), .one (.lit (.int .i64 (0)))]) (evalCall ⟨Tryd.prog, true, t.get, orcD (div3ZFD sa sb), (opH (bigHook Tryd.prog true) (opH (symHook Tryd.prog div3ZFN (fun _ _ _ => none)) (tabHook (div3ZFL sa sb) div3ZFM)))⟩ 1000 33 [.one (.atom (.sym 0)), .one (.atom (.sym 1)), .one (.atom (.sym 2))] .e 0) = true) :=
  ⟨((((((Tr.e).put 33 (some Tryd.f33)).put 52 (some Tryd.f52)).put 53 (some Tryd.f53)).put 57 (some Tryd.f57)).put 58 (some Tryd.f58)).put 56 (some Tryd.f56),
   (TabOK.put (TabOK.put (TabOK.put (TabOK.put (TabOK.put (TabOK.put (TabOK.e _) ⟨Tryd.func33, by decide +kernel, by decide +kernel⟩) ⟨Tryd.func52, by decide +kernel, by decide +kernel⟩) ⟨Tryd.func53, by decide +kernel, by decide +kernel⟩) ⟨Tryd.func57, by decide +kernel, by decide +kernel⟩) ⟨Tryd.func58, by decide +kernel, by decide +kernel⟩) ⟨Tryd.func56, by decide +kernel, by decide +kernel⟩),
   by decide +kernel⟩

set_option maxHeartbeats 4000000 in
set_option maxRecDepth 100000 in
theorem div3ZF_tab {w : World} (m : Int) (f g : Nat) (hf : f < 18446744073709551616) (hg : g < 18446744073709551616) (Kf : fsz f = 0) (Kg : fsz g ≠ 0) (Lg : fsz g < 9218868437227405312) {sa sb : Bool} (hsa : fneg f = sa) (hsb : fneg g = sb) :
    Calls Tryd.prog 33 #[.int .u64 f, .int .u64 g, .int .i64 m] w fun e w' => e = .returned (.tuple #[.int .u64 ((divG m f g).1 : Nat), .int .i64 ((divG m f g).2 : Nat)]) ∧ Below w.heap.size w w' := by
  have cnf : ∀ (w : World), Calls Tryd.prog 52 #[.int .u64 f] w fun e w' => e = .returned (.bool false) ∧ Fwd w w' := fun w => (none3_any f hf).mono fun e w' gg => ⟨by rw [gg.1, show isNan f = false from isNan_le (by omega)], gg.2 ▸ Fwd.refl _⟩
  have cif : ∀ (w : World), Calls Tryd.prog 53 #[.int .u64 f] w fun e w' => e = .returned (.bool false) ∧ Fwd w w' := fun w => (endless3_any f hf).mono fun e w' gg => ⟨by rw [gg.1, show decide (fsz f = 9218868437227405312) = false from decide_eq_false (by omega)], gg.2 ▸ Fwd.refl _⟩
  have czf : ∀ (w : World), Calls Tryd.prog 57 #[.int .u64 f] w fun e w' => e = .returned (.bool true) ∧ Fwd w w' := fun w => (nought3_any f hf).mono fun e w' gg => ⟨by rw [gg.1, show decide (fsz f = 0) = true from decide_eq_true (by omega)], gg.2 ▸ Fwd.refl _⟩
  have cng : ∀ (w : World), Calls Tryd.prog 52 #[.int .u64 g] w fun e w' => e = .returned (.bool false) ∧ Fwd w w' := fun w => (none3_any g hg).mono fun e w' gg => ⟨by rw [gg.1, show isNan g = false from isNan_le (by omega)], gg.2 ▸ Fwd.refl _⟩
  have cig : ∀ (w : World), Calls Tryd.prog 53 #[.int .u64 g] w fun e w' => e = .returned (.bool false) ∧ Fwd w w' := fun w => (endless3_any g hg).mono fun e w' gg => ⟨by rw [gg.1, show decide (fsz g = 9218868437227405312) = false from decide_eq_false (by omega)], gg.2 ▸ Fwd.refl _⟩
  have czg : ∀ (w : World), Calls Tryd.prog 57 #[.int .u64 g] w fun e w' => e = .returned (.bool false) ∧ Fwd w w' := fun w => (nought3_any g hg).mono fun e w' gg => ⟨by rw [gg.1, show decide (fsz g = 0) = false from decide_eq_false (by omega)], gg.2 ▸ Fwd.refl _⟩
  have cS : ∀ (w : World), Calls Tryd.prog 58 #[.bool (sa != sb), .int .u64 0] w fun e w' => e = .returned (.int .u64 ((sgn (sa != sb) + 0 : Nat) : Int)) ∧ Fwd w w' := fun w => (signed3_any (sa != sb) 0 (by omega)).mono fun e w' gg => ⟨gg.1, gg.2 ▸ Fwd.refl _⟩
  have cmf : ∀ (w : World), Calls Tryd.prog 56 #[.int .u64 f] w fun e w' => e = .returned (.bool sa) ∧ Fwd w w' := fun w => (minus3_any f hf).mono fun e w' gg => ⟨by rw [gg.1, hsa], gg.2 ▸ Fwd.refl _⟩
  have cmg : ∀ (w : World), Calls Tryd.prog 56 #[.int .u64 g] w fun e w' => e = .returned (.bool sb) ∧ Fwd w w' := fun w => (minus3_any g hg).mono fun e w' gg => ⟨by rw [gg.1, hsb], gg.2 ▸ Fwd.refl _⟩
  have hval : divG m f g = (sgn (sa != sb), 0) := by rw [divG_small (by omega), hsa, hsb]
  rw [hval]
  obtain ⟨t, ht, hr⟩ := div3ZFTold
  obtain ⟨dl, n', he⟩ := isAV_ok (hr sa sb)
  let ν : Nat → Rat := nuL [fvQ f, fvQ g] []
  let σ : SymD := symL [.u f, .u g, .i m, .u (sgn (sa != sb) + 0)]
  have hcx : CxOK (DomQ true ν σ (fun _ => none)) w.heap.size ⟨Tryd.prog, true, t.get, orcD (div3ZFD sa sb), (opH (bigHook Tryd.prog true) (opH (symHook Tryd.prog div3ZFN (fun _ _ _ => none)) (tabHook (div3ZFL sa sb) div3ZFM)))⟩ := cxS_ok (M := (DomQ true ν σ (fun _ => none))) ht ⟨[
      orcT 52 [
        { args := [.one (.atom (.sym 0))], ans := .v (.one (.lit (.bool false))), ok := by
            intro B ρ w S vs hS hr
            match vs, hr with
            | [u0], ⟨z0, _⟩ =>
              obtain ⟨rfl, _⟩ : u0 = _ ∧ _ := z0
              refine (cnf _).mono ?_
              rintro e w' ⟨rfl, hf⟩
              exact ⟨_, rfl, ⟨rfl, rfl⟩, hf⟩ },
        { args := [.one (.atom (.sym 1))], ans := .v (.one (.lit (.bool false))), ok := by
            intro B ρ w S vs hS hr
            match vs, hr with
            | [u0], ⟨z0, _⟩ =>
              obtain ⟨rfl, _⟩ : u0 = _ ∧ _ := z0
              refine (cng _).mono ?_
              rintro e w' ⟨rfl, hf⟩
              exact ⟨_, rfl, ⟨rfl, rfl⟩, hf⟩ }],
      orcT 53 [
        { args := [.one (.atom (.sym 0))], ans := .v (.one (.lit (.bool false))), ok := by
            intro B ρ w S vs hS hr
            match vs, hr with
            | [u0], ⟨z0, _⟩ =>
              obtain ⟨rfl, _⟩ : u0 = _ ∧ _ := z0
              refine (cif _).mono ?_
              rintro e w' ⟨rfl, hf⟩
              exact ⟨_, rfl, ⟨rfl, rfl⟩, hf⟩ },
        { args := [.one (.atom (.sym 1))], ans := .v (.one (.lit (.bool false))), ok := by
            intro B ρ w S vs hS hr
            match vs, hr with
            | [u0], ⟨z0, _⟩ =>
              obtain ⟨rfl, _⟩ : u0 = _ ∧ _ := z0
              refine (cig _).mono ?_
              rintro e w' ⟨rfl, hf⟩
              exact ⟨_, rfl, ⟨rfl, rfl⟩, hf⟩ }],
      orcT 57 [
        { args := [.one (.atom (.sym 0))], ans := .v (.one (.lit (.bool true))), ok := by
            intro B ρ w S vs hS hr
            match vs, hr with
            | [u0], ⟨z0, _⟩ =>
              obtain ⟨rfl, _⟩ : u0 = _ ∧ _ := z0
              refine (czf _).mono ?_
              rintro e w' ⟨rfl, hf⟩
              exact ⟨_, rfl, ⟨rfl, rfl⟩, hf⟩ },
        { args := [.one (.atom (.sym 1))], ans := .v (.one (.lit (.bool false))), ok := by
            intro B ρ w S vs hS hr
            match vs, hr with
            | [u0], ⟨z0, _⟩ =>
              obtain ⟨rfl, _⟩ : u0 = _ ∧ _ := z0
              refine (czg _).mono ?_
              rintro e w' ⟨rfl, hf⟩
              exact ⟨_, rfl, ⟨rfl, rfl⟩, hf⟩ }],
      orcT 58 [
        { args := [.one (.lit (.bool (sa != sb))), .one (.lit (.int .u64 0))], ans := .v (.one (.atom (.sym 3))), ok := by
            intro B ρ w S vs hS hr
            match vs, hr with
            | [u0, u1], ⟨z0, z1, _⟩ =>
              obtain ⟨rfl, _⟩ : u0 = _ ∧ _ := z0
              obtain ⟨rfl, _⟩ : u1 = _ ∧ _ := z1
              refine (cS _).mono ?_
              rintro e w' ⟨rfl, hf⟩
              exact ⟨_, rfl, ⟨rfl, fun _ => trivial⟩, hf⟩ }],
      orcT 56 [
        { args := [.one (.atom (.sym 0))], ans := .v (.one (.lit (.bool sa))), ok := by
            intro B ρ w S vs hS hr
            match vs, hr with
            | [u0], ⟨z0, _⟩ =>
              obtain ⟨rfl, _⟩ : u0 = _ ∧ _ := z0
              refine (cmf _).mono ?_
              rintro e w' ⟨rfl, hf⟩
              exact ⟨_, rfl, ⟨rfl, rfl⟩, hf⟩ },
        { args := [.one (.atom (.sym 1))], ans := .v (.one (.lit (.bool sb))), ok := by
            intro B ρ w S vs hS hr
            match vs, hr with
            | [u0], ⟨z0, _⟩ =>
              obtain ⟨rfl, _⟩ : u0 = _ ∧ _ := z0
              refine (cmg _).mono ?_
              rintro e w' ⟨rfl, hf⟩
              exact ⟨_, rfl, ⟨rfl, rfl⟩, hf⟩ }]], rfl⟩
    (opH_le (bigHook_le _ _) (opH_le (symHook_le _ _ _) (tabHook_le _ _)))
    (opH_ok (bigHook_ok _) (opH_ok (symHook_ok _ (fun h => by cases h) (fun h => by cases h)) (tabHook_ok _ all_nil all_nil)))
  refine (told_call (M := (DomQ true ν σ (fun _ => none))) (cx := ⟨Tryd.prog, true, t.get, orcD (div3ZFD sa sb), (opH (bigHook Tryd.prog true) (opH (symHook Tryd.prog div3ZFN (fun _ _ _ => none)) (tabHook (div3ZFL sa sb) div3ZFM)))⟩) (xs := [.one (.atom (.sym 0)), .one (.atom (.sym 1)), .one (.atom (.sym 2))]) (vs := [.int .u64 f, .int .u64 g, .int .i64 m]) Tryd.checked.mixed hcx (fun hg => by cases hg) ⟨⟨rfl, fun _ => trivial⟩, ⟨rfl, fun _ => trivial⟩, ⟨rfl, fun _ => trivial⟩, trivial⟩ he).mono ?_
  rintro e w' ⟨v, ρ', rfl, hv, hbel⟩
  obtain ⟨us, rfl, hu⟩ := hv
  match us, hu with
  | [c0, c1], ⟨r0, r1, _⟩ =>
    obtain ⟨rfl, _⟩ : c0 = _ ∧ _ := r0
    obtain ⟨rfl, _⟩ : c1 = _ ∧ _ := r1
    exact ⟨rfl, hbel⟩

def div3FID (sa : Bool) (sb : Bool) : List (FuncId × Ans) :=
  [(52, ansT [([.one (.atom (.sym 0))], .v (.one (.lit (.bool false)))), ([.one (.atom (.sym 1))], .v (.one (.lit (.bool false))))]),
   (53, ansT [([.one (.atom (.sym 0))], .v (.one (.lit (.bool false)))), ([.one (.atom (.sym 1))], .v (.one (.lit (.bool true))))]),
   (57, ansT [([.one (.atom (.sym 0))], .v (.one (.lit (.bool false)))), ([.one (.atom (.sym 1))], .v (.one (.lit (.bool false))))]),
   (58, ansT [([.one (.lit (.bool (sa != sb))), .one (.lit (.int .u64 0))], .v (.one (.atom (.sym 3))))]),
   (56, ansT [([.one (.atom (.sym 0))], .v (.one (.lit (.bool sa)))), ([.one (.atom (.sym 1))], .v (.one (.lit (.bool sb))))])]
def div3FIL (sa : Bool) (sb : Bool) : BT := []
def div3FIM : BT := []
def div3FIN : At → Option Nat
  | _ => none

set_option maxRecDepth 1000000 in
theorem div3FITold : ∃ t : Tr Func, TabOK Tryd.prog t ∧ (∀ (sa : Bool) (sb : Bool), isAV (.tup [.one (.atom (.sym 3)), .one (.lit (.int .i64 (0)))]) (evalCall ⟨Tryd.prog, true, t.get, orcD (div3FID sa sb), (opH (bigHook Tryd.prog true) (opH (symHook Tryd.prog div3FIN (fun _ _ _ => none)) (tabHook (div3FIL sa sb) div3FIM)))⟩ 1000 33 [.one (.atom (.sym 0)), .one (.atom (.sym 1)), .one (.atom (.sym 2))] .e 0) = true) :=
  ⟨((((((Tr.e).put 33 (some Tryd.f33)).put 52 (some Tryd.f52)).put 53 (some Tryd.f53)).put 57 (some Tryd.f57)).put 58 (some Tryd.f58)).put 56 (some Tryd.f56),
   (TabOK.put (TabOK.put (TabOK.put (TabOK.put (TabOK.put (TabOK.put (TabOK.e _) ⟨Tryd.func33, by decide +kernel, by decide +kernel⟩) ⟨Tryd.func52, by decide +kernel, by decide +kernel⟩) ⟨Tryd.func53, by decide +kernel, by decide +kernel⟩) ⟨Tryd.func57, by decide +kernel, by decide +kernel⟩) ⟨Tryd.func58, by decide +kernel, by decide +kernel⟩) ⟨Tryd.func56, by decide +kernel, by decide +kernel⟩),
   by decide +kernel⟩

set_option maxHeartbeats 4000000 in
set_option maxRecDepth 100000 in
theorem div3FI_tab {w : World} (m : Int) (f g : Nat) (hf : f < 18446744073709551616) (hg : g < 18446744073709551616) (Kf : fsz f ≠ 0) (Lf : fsz f < 9218868437227405312) (Kg : fsz g = 9218868437227405312) {sa sb : Bool} (hsa : fneg f = sa) (hsb : fneg g = sb) :
    Calls Tryd.prog 33 #[.int .u64 f, .int .u64 g, .int .i64 m] w fun e w' => e = .returned (.tuple #[.int .u64 ((divG m f g).1 : Nat), .int .i64 ((divG m f g).2 : Nat)]) ∧ Below w.heap.size w w' := by
  have cnf : ∀ (w : World), Calls Tryd.prog 52 #[.int .u64 f] w fun e w' => e = .returned (.bool false) ∧ Fwd w w' := fun w => (none3_any f hf).mono fun e w' gg => ⟨by rw [gg.1, show isNan f = false from isNan_le (by omega)], gg.2 ▸ Fwd.refl _⟩
  have cif : ∀ (w : World), Calls Tryd.prog 53 #[.int .u64 f] w fun e w' => e = .returned (.bool false) ∧ Fwd w w' := fun w => (endless3_any f hf).mono fun e w' gg => ⟨by rw [gg.1, show decide (fsz f = 9218868437227405312) = false from decide_eq_false (by omega)], gg.2 ▸ Fwd.refl _⟩
  have czf : ∀ (w : World), Calls Tryd.prog 57 #[.int .u64 f] w fun e w' => e = .returned (.bool false) ∧ Fwd w w' := fun w => (nought3_any f hf).mono fun e w' gg => ⟨by rw [gg.1, show decide (fsz f = 0) = false from decide_eq_false (by omega)], gg.2 ▸ Fwd.refl _⟩
  have cng : ∀ (w : World), Calls Tryd.prog 52 #[.int .u64 g] w fun e w' => e = .returned (.bool false) ∧ Fwd w w' := fun w => (none3_any g hg).mono fun e w' gg => ⟨by rw [gg.1, show isNan g = false from isNan_le (by omega)], gg.2 ▸ Fwd.refl _⟩
  have cig : ∀ (w : World), Calls Tryd.prog 53 #[.int .u64 g] w fun e w' => e = .returned (.bool true) ∧ Fwd w w' := fun w => (endless3_any g hg).mono fun e w' gg => ⟨by rw [gg.1, show decide (fsz g = 9218868437227405312) = true from decide_eq_true (by omega)], gg.2 ▸ Fwd.refl _⟩
  have czg : ∀ (w : World), Calls Tryd.prog 57 #[.int .u64 g] w fun e w' => e = .returned (.bool false) ∧ Fwd w w' := fun w => (nought3_any g hg).mono fun e w' gg => ⟨by rw [gg.1, show decide (fsz g = 0) = false from decide_eq_false (by omega)], gg.2 ▸ Fwd.refl _⟩
  have cS : ∀ (w : World), Calls Tryd.prog 58 #[.bool (sa != sb), .int .u64 0] w fun e w' => e = .returned (.int .u64 ((sgn (sa != sb) + 0 : Nat) : Int)) ∧ Fwd w w' := fun w => (signed3_any (sa != sb) 0 (by omega)).mono fun e w' gg => ⟨gg.1, gg.2 ▸ Fwd.refl _⟩
  have cmf : ∀ (w : World), Calls Tryd.prog 56 #[.int .u64 f] w fun e w' => e = .returned (.bool sa) ∧ Fwd w w' := fun w => (minus3_any f hf).mono fun e w' gg => ⟨by rw [gg.1, hsa], gg.2 ▸ Fwd.refl _⟩
  have cmg : ∀ (w : World), Calls Tryd.prog 56 #[.int .u64 g] w fun e w' => e = .returned (.bool sb) ∧ Fwd w w' := fun w => (minus3_any g hg).mono fun e w' gg => ⟨by rw [gg.1, hsb], gg.2 ▸ Fwd.refl _⟩
  have hval : divG m f g = (sgn (sa != sb), 0) := by rw [divG_small (by omega), hsa, hsb]
  rw [hval]
  obtain ⟨t, ht, hr⟩ := div3FITold
  obtain ⟨dl, n', he⟩ := isAV_ok (hr sa sb)
  let ν : Nat → Rat := nuL [fvQ f, fvQ g] []
  let σ : SymD := symL [.u f, .u g, .i m, .u (sgn (sa != sb) + 0)]
  have hcx : CxOK (DomQ true ν σ (fun _ => none)) w.heap.size ⟨Tryd.prog, true, t.get, orcD (div3FID sa sb), (opH (bigHook Tryd.prog true) (opH (symHook Tryd.prog div3FIN (fun _ _ _ => none)) (tabHook (div3FIL sa sb) div3FIM)))⟩ := cxS_ok (M := (DomQ true ν σ (fun _ => none))) ht ⟨[
      orcT 52 [
        { args := [.one (.atom (.sym 0))], ans := .v (.one (.lit (.bool false))), ok := by
            intro B ρ w S vs hS hr
            match vs, hr with
            | [u0], ⟨z0, _⟩ =>
              obtain ⟨rfl, _⟩ : u0 = _ ∧ _ := z0
              refine (cnf _).mono ?_
              rintro e w' ⟨rfl, hf⟩
              exact ⟨_, rfl, ⟨rfl, rfl⟩, hf⟩ },
        { args := [.one (.atom (.sym 1))], ans := .v (.one (.lit (.bool false))), ok := by
            intro B ρ w S vs hS hr
            match vs, hr with
            | [u0], ⟨z0, _⟩ =>
              obtain ⟨rfl, _⟩ : u0 = _ ∧ _ := z0
              refine (cng _).mono ?_
              rintro e w' ⟨rfl, hf⟩
              exact ⟨_, rfl, ⟨rfl, rfl⟩, hf⟩ }],
      orcT 53 [
        { args := [.one (.atom (.sym 0))], ans := .v (.one (.lit (.bool false))), ok := by
            intro B ρ w S vs hS hr
            match vs, hr with
            | [u0], ⟨z0, _⟩ =>
              obtain ⟨rfl, _⟩ : u0 = _ ∧ _ := z0
              refine (cif _).mono ?_
              rintro e w' ⟨rfl, hf⟩
              exact ⟨_, rfl, ⟨rfl, rfl⟩, hf⟩ },
        { args := [.one (.atom (.sym 1))], ans := .v (.one (.lit (.bool true))), ok := by
            intro B ρ w S vs hS hr
            match vs, hr with
            | [u0], ⟨z0, _⟩ =>
              obtain ⟨rfl, _⟩ : u0 = _ ∧ _ := z0
              refine (cig _).mono ?_
              rintro e w' ⟨rfl, hf⟩
              exact ⟨_, rfl, ⟨rfl, rfl⟩, hf⟩ }],
      orcT 57 [
        { args := [.one (.atom (.sym 0))], ans := .v (.one (.lit (.bool false))), ok := by
            intro B ρ w S vs hS hr
            match vs, hr with
            | [u0], ⟨z0, _⟩ =>
              obtain ⟨rfl, _⟩ : u0 = _ ∧ _ := z0
              refine (czf _).mono ?_
              rintro e w' ⟨rfl, hf⟩
              exact ⟨_, rfl, ⟨rfl, rfl⟩, hf⟩ },
        { args := [.one (.atom (.sym 1))], ans := .v (.one (.lit (.bool false))), ok := by
            intro B ρ w S vs hS hr
            match vs, hr with
            | [u0], ⟨z0, _⟩ =>
              obtain ⟨rfl, _⟩ : u0 = _ ∧ _ := z0
              refine (czg _).mono ?_
              rintro e w' ⟨rfl, hf⟩
              exact ⟨_, rfl, ⟨rfl, rfl⟩, hf⟩ }],
      orcT 58 [
        { args := [.one (.lit (.bool (sa != sb))), .one (.lit (.int .u64 0))], ans := .v (.one (.atom (.sym 3))), ok := by
            intro B ρ w S vs hS hr
            match vs, hr with
            | [u0, u1], ⟨z0, z1, _⟩ =>
              obtain ⟨rfl, _⟩ : u0 = _ ∧ _ := z0
              obtain ⟨rfl, _⟩ : u1 = _ ∧ _ := z1
              refine (cS _).mono ?_
              rintro e w' ⟨rfl, hf⟩
              exact ⟨_, rfl, ⟨rfl, fun _ => trivial⟩, hf⟩ }],
      orcT 56 [
        { args := [.one (.atom (.sym 0))], ans := .v (.one (.lit (.bool sa))), ok := by
            intro B ρ w S vs hS hr
            match vs, hr with
            | [u0], ⟨z0, _⟩ =>
              obtain ⟨rfl, _⟩ : u0 = _ ∧ _ := z0
              refine (cmf _).mono ?_
              rintro e w' ⟨rfl, hf⟩
              exact ⟨_, rfl, ⟨rfl, rfl⟩, hf⟩ },
        { args := [.one (.atom (.sym 1))], ans := .v (.one (.lit (.bool sb))), ok := by
            intro B ρ w S vs hS hr
            match vs, hr with
            | [u0], ⟨z0, _⟩ =>
              obtain ⟨rfl, _⟩ : u0 = _ ∧ _ := z0
              refine (cmg _).mono ?_
              rintro e w' ⟨rfl, hf⟩
              exact ⟨_, rfl, ⟨rfl, rfl⟩, hf⟩ }]], rfl⟩
    (opH_le (bigHook_le _ _) (opH_le (symHook_le _ _ _) (tabHook_le _ _)))
    (opH_ok (bigHook_ok _) (opH_ok (symHook_ok _ (fun h => by cases h) (fun h => by cases h)) (tabHook_ok _ all_nil all_nil)))
  refine (told_call (M := (DomQ true ν σ (fun _ => none))) (cx := ⟨Tryd.prog, true, t.get, orcD (div3FID sa sb), (opH (bigHook Tryd.prog true) (opH (symHook Tryd.prog div3FIN (fun _ _ _ => none)) (tabHook (div3FIL sa sb) div3FIM)))⟩) (xs := [.one (.atom (.sym 0)), .one (.atom (.sym 1)), .one (.atom (.sym 2))]) (vs := [.int .u64 f, .int .u64 g, .int .i64 m]) Tryd.checked.mixed hcx (fun hg => by cases hg) ⟨⟨rfl, fun _ => trivial⟩, ⟨rfl, fun _ => trivial⟩, ⟨rfl, fun _ => trivial⟩, trivial⟩ he).mono ?_
  rintro e w' ⟨v, ρ', rfl, hv, hbel⟩
  obtain ⟨us, rfl, hu⟩ := hv
  match us, hu with
  | [c0, c1], ⟨r0, r1, _⟩ =>
    obtain ⟨rfl, _⟩ : c0 = _ ∧ _ := r0
    obtain ⟨rfl, _⟩ : c1 = _ ∧ _ := r1
    exact ⟨rfl, hbel⟩

def div3FZD (sa : Bool) (sb : Bool) : List (FuncId × Ans) :=
  [(52, ansT [([.one (.atom (.sym 0))], .v (.one (.lit (.bool false)))), ([.one (.atom (.sym 1))], .v (.one (.lit (.bool false))))]),
   (53, ansT [([.one (.atom (.sym 0))], .v (.one (.lit (.bool false)))), ([.one (.atom (.sym 1))], .v (.one (.lit (.bool false))))]),
   (57, ansT [([.one (.atom (.sym 0))], .v (.one (.lit (.bool false)))), ([.one (.atom (.sym 1))], .v (.one (.lit (.bool true))))]),
   (58, ansT [([.one (.lit (.bool (sa != sb))), .one (.lit (.int .u64 9218868437227405312))], .v (.one (.atom (.sym 3))))]),
   (56, ansT [([.one (.atom (.sym 0))], .v (.one (.lit (.bool sa)))), ([.one (.atom (.sym 1))], .v (.one (.lit (.bool sb))))])]
def div3FZL (sa : Bool) (sb : Bool) : BT := []
def div3FZM : BT := []
def div3FZN : At → Option Nat
  | _ => none

set_option maxRecDepth 1000000 in
theorem div3FZTold : ∃ t : Tr Func, TabOK Tryd.prog t ∧ (∀ (sa : Bool) (sb : Bool), isAV (.tup [.one (.atom (.sym 3)), .one (.lit (.int .i64 (8)))]) (evalCall ⟨Tryd.prog, true, t.get, orcD (div3FZD sa sb), (opH (bigHook Tryd.prog true) (opH (symHook Tryd.prog div3FZN (fun _ _ _ => none)) (tabHook (div3FZL sa sb) div3FZM)))⟩ 1000 33 [.one (.atom (.sym 0)), .one (.atom (.sym 1)), .one (.atom (.sym 2))] .e 0) = true) :=
  ⟨((((((Tr.e).put 33 (some Tryd.f33)).put 52 (some Tryd.f52)).put 53 (some Tryd.f53)).put 57 (some Tryd.f57)).put 58 (some Tryd.f58)).put 56 (some Tryd.f56),
   (TabOK.put (TabOK.put (TabOK.put (TabOK.put (TabOK.put (TabOK.put (TabOK.e _) ⟨Tryd.func33, by decide +kernel, by decide +kernel⟩) ⟨Tryd.func52, by decide +kernel, by decide +kernel⟩) ⟨Tryd.func53, by decide +kernel, by decide +kernel⟩) ⟨Tryd.func57, by decide +kernel, by decide +kernel⟩) ⟨Tryd.func58, by decide +kernel, by decide +kernel⟩) ⟨Tryd.func56, by decide +kernel, by decide +kernel⟩),
   by decide +kernel⟩

set_option maxHeartbeats 4000000 in
set_option maxRecDepth 100000 in
theorem div3FZ_tab {w : World} (m : Int) (f g : Nat) (hf : f < 18446744073709551616) (hg : g < 18446744073709551616) (Kf : fsz f ≠ 0) (Lf : fsz f < 9218868437227405312) (Kg : fsz g = 0) {sa sb : Bool} (hsa : fneg f = sa) (hsb : fneg g = sb) :
    Calls Tryd.prog 33 #[.int .u64 f, .int .u64 g, .int .i64 m] w fun e w' => e = .returned (.tuple #[.int .u64 ((divG m f g).1 : Nat), .int .i64 ((divG m f g).2 : Nat)]) ∧ Below w.heap.size w w' := by
  have cnf : ∀ (w : World), Calls Tryd.prog 52 #[.int .u64 f] w fun e w' => e = .returned (.bool false) ∧ Fwd w w' := fun w => (none3_any f hf).mono fun e w' gg => ⟨by rw [gg.1, show isNan f = false from isNan_le (by omega)], gg.2 ▸ Fwd.refl _⟩
  have cif : ∀ (w : World), Calls Tryd.prog 53 #[.int .u64 f] w fun e w' => e = .returned (.bool false) ∧ Fwd w w' := fun w => (endless3_any f hf).mono fun e w' gg => ⟨by rw [gg.1, show decide (fsz f = 9218868437227405312) = false from decide_eq_false (by omega)], gg.2 ▸ Fwd.refl _⟩
  have czf : ∀ (w : World), Calls Tryd.prog 57 #[.int .u64 f] w fun e w' => e = .returned (.bool false) ∧ Fwd w w' := fun w => (nought3_any f hf).mono fun e w' gg => ⟨by rw [gg.1, show decide (fsz f = 0) = false from decide_eq_false (by omega)], gg.2 ▸ Fwd.refl _⟩
  have cng : ∀ (w : World), Calls Tryd.prog 52 #[.int .u64 g] w fun e w' => e = .returned (.bool false) ∧ Fwd w w' := fun w => (none3_any g hg).mono fun e w' gg => ⟨by rw [gg.1, show isNan g = false from isNan_le (by omega)], gg.2 ▸ Fwd.refl _⟩
  have cig : ∀ (w : World), Calls Tryd.prog 53 #[.int .u64 g] w fun e w' => e = .returned (.bool false) ∧ Fwd w w' := fun w => (endless3_any g hg).mono fun e w' gg => ⟨by rw [gg.1, show decide (fsz g = 9218868437227405312) = false from decide_eq_false (by omega)], gg.2 ▸ Fwd.refl _⟩
  have czg : ∀ (w : World), Calls Tryd.prog 57 #[.int .u64 g] w fun e w' => e = .returned (.bool true) ∧ Fwd w w' := fun w => (nought3_any g hg).mono fun e w' gg => ⟨by rw [gg.1, show decide (fsz g = 0) = true from decide_eq_true (by omega)], gg.2 ▸ Fwd.refl _⟩
  have cS : ∀ (w : World), Calls Tryd.prog 58 #[.bool (sa != sb), .int .u64 9218868437227405312] w fun e w' => e = .returned (.int .u64 ((sgn (sa != sb) + 9218868437227405312 : Nat) : Int)) ∧ Fwd w w' := fun w => (signed3_any (sa != sb) 9218868437227405312 (by omega)).mono fun e w' gg => ⟨gg.1, gg.2 ▸ Fwd.refl _⟩
  have cmf : ∀ (w : World), Calls Tryd.prog 56 #[.int .u64 f] w fun e w' => e = .returned (.bool sa) ∧ Fwd w w' := fun w => (minus3_any f hf).mono fun e w' gg => ⟨by rw [gg.1, hsa], gg.2 ▸ Fwd.refl _⟩
  have cmg : ∀ (w : World), Calls Tryd.prog 56 #[.int .u64 g] w fun e w' => e = .returned (.bool sb) ∧ Fwd w w' := fun w => (minus3_any g hg).mono fun e w' gg => ⟨by rw [gg.1, hsb], gg.2 ▸ Fwd.refl _⟩
  have hval : divG m f g = (sgn (sa != sb) + 9218868437227405312, 8) := by rw [divG_by (by omega) (by omega) (by omega), hsa, hsb]
  rw [hval]
  obtain ⟨t, ht, hr⟩ := div3FZTold
  obtain ⟨dl, n', he⟩ := isAV_ok (hr sa sb)
  let ν : Nat → Rat := nuL [fvQ f, fvQ g] []
  let σ : SymD := symL [.u f, .u g, .i m, .u (sgn (sa != sb) + 9218868437227405312)]
  have hcx : CxOK (DomQ true ν σ (fun _ => none)) w.heap.size ⟨Tryd.prog, true, t.get, orcD (div3FZD sa sb), (opH (bigHook Tryd.prog true) (opH (symHook Tryd.prog div3FZN (fun _ _ _ => none)) (tabHook (div3FZL sa sb) div3FZM)))⟩ := cxS_ok (M := (DomQ true ν σ (fun _ => none))) ht ⟨[
      orcT 52 [
        { args := [.one (.atom (.sym 0))], ans := .v (.one (.lit (.bool false))), ok := by
            intro B ρ w S vs hS hr
            match vs, hr with
            | [u0], ⟨z0, _⟩ =>
              obtain ⟨rfl, _⟩ : u0 = _ ∧ _ := z0
              refine (cnf _).mono ?_
              rintro e w' ⟨rfl, hf⟩
              exact ⟨_, rfl, ⟨rfl, rfl⟩, hf⟩ },
        { args := [.one (.atom (.sym 1))], ans := .v (.one (.lit (.bool false))), ok := by
            intro B ρ w S vs hS hr
            match vs, hr with
            | [u0], ⟨z0, _⟩ =>
              obtain ⟨rfl, _⟩ : u0 = _ ∧ _ := z0
              refine (cng _).mono ?_
              rintro e w' ⟨rfl, hf⟩
              exact ⟨_, rfl, ⟨rfl, rfl⟩, hf⟩ }],
      orcT 53 [
        { args := [.one (.atom (.sym 0))], ans := .v (.one (.lit (.bool false))), ok := by
            intro B ρ w S vs hS hr
            match vs, hr with
            | [u0], ⟨z0, _⟩ =>
              obtain ⟨rfl, _⟩ : u0 = _ ∧ _ := z0
              refine (cif _).mono ?_
              rintro e w' ⟨rfl, hf⟩
              exact ⟨_, rfl, ⟨rfl, rfl⟩, hf⟩ },
        { args := [.one (.atom (.sym 1))], ans := .v (.one (.lit (.bool false))), ok := by
            intro B ρ w S vs hS hr
            match vs, hr with
            | [u0], ⟨z0, _⟩ =>
              obtain ⟨rfl, _⟩ : u0 = _ ∧ _ := z0
              refine (cig _).mono ?_
              rintro e w' ⟨rfl, hf⟩
              exact ⟨_, rfl, ⟨rfl, rfl⟩, hf⟩ }],
      orcT 57 [
        { args := [.one (.atom (.sym 0))], ans := .v (.one (.lit (.bool false))), ok := by
            intro B ρ w S vs hS hr
            match vs, hr with
            | [u0], ⟨z0, _⟩ =>
              obtain ⟨rfl, _⟩ : u0 = _ ∧ _ := z0
              refine (czf _).mono ?_
              rintro e w' ⟨rfl, hf⟩
              exact ⟨_, rfl, ⟨rfl, rfl⟩, hf⟩ },
        { args := [.one (.atom (.sym 1))], ans := .v (.one (.lit (.bool true))), ok := by
            intro B ρ w S vs hS hr
            match vs, hr with
            | [u0], ⟨z0, _⟩ =>
              obtain ⟨rfl, _⟩ : u0 = _ ∧ _ := z0
              refine (czg _).mono ?_
              rintro e w' ⟨rfl, hf⟩
              exact ⟨_, rfl, ⟨rfl, rfl⟩, hf⟩ }],
      orcT 58 [
        { args := [.one (.lit (.bool (sa != sb))), .one (.lit (.int .u64 9218868437227405312))], ans := .v (.one (.atom (.sym 3))), ok := by
            intro B ρ w S vs hS hr
            match vs, hr with
            | [u0, u1], ⟨z0, z1, _⟩ =>
              obtain ⟨rfl, _⟩ : u0 = _ ∧ _ := z0
              obtain ⟨rfl, _⟩ : u1 = _ ∧ _ := z1
              refine (cS _).mono ?_
              rintro e w' ⟨rfl, hf⟩
              exact ⟨_, rfl, ⟨rfl, fun _ => trivial⟩, hf⟩ }],
      orcT 56 [
        { args := [.one (.atom (.sym 0))], ans := .v (.one (.lit (.bool sa))), ok := by
            intro B ρ w S vs hS hr
            match vs, hr with
            | [u0], ⟨z0, _⟩ =>
              obtain ⟨rfl, _⟩ : u0 = _ ∧ _ := z0
              refine (cmf _).mono ?_
              rintro e w' ⟨rfl, hf⟩
              exact ⟨_, rfl, ⟨rfl, rfl⟩, hf⟩ },
        { args := [.one (.atom (.sym 1))], ans := .v (.one (.lit (.bool sb))), ok := by
            intro B ρ w S vs hS hr
            match vs, hr with
            | [u0], ⟨z0, _⟩ =>
              obtain ⟨rfl, _⟩ : u0 = _ ∧ _ := z0
              refine (cmg _).mono ?_
              rintro e w' ⟨rfl, hf⟩
              exact ⟨_, rfl, ⟨rfl, rfl⟩, hf⟩ }]], rfl⟩
    (opH_le (bigHook_le _ _) (opH_le (symHook_le _ _ _) (tabHook_le _ _)))
    (opH_ok (bigHook_ok _) (opH_ok (symHook_ok _ (fun h => by cases h) (fun h => by cases h)) (tabHook_ok _ all_nil all_nil)))
  refine (told_call (M := (DomQ true ν σ (fun _ => none))) (cx := ⟨Tryd.prog, true, t.get, orcD (div3FZD sa sb), (opH (bigHook Tryd.prog true) (opH (symHook Tryd.prog div3FZN (fun _ _ _ => none)) (tabHook (div3FZL sa sb) div3FZM)))⟩) (xs := [.one (.atom (.sym 0)), .one (.atom (.sym 1)), .one (.atom (.sym 2))]) (vs := [.int .u64 f, .int .u64 g, .int .i64 m]) Tryd.checked.mixed hcx (fun hg => by cases hg) ⟨⟨rfl, fun _ => trivial⟩, ⟨rfl, fun _ => trivial⟩, ⟨rfl, fun _ => trivial⟩, trivial⟩ he).mono ?_
  rintro e w' ⟨v, ρ', rfl, hv, hbel⟩
  obtain ⟨us, rfl, hu⟩ := hv
  match us, hu with
  | [c0, c1], ⟨r0, r1, _⟩ =>
    obtain ⟨rfl, _⟩ : c0 = _ ∧ _ := r0
    obtain ⟨rfl, _⟩ : c1 = _ ∧ _ := r1
    exact ⟨rfl, hbel⟩

def div3FFD (sa : Bool) (sb : Bool) : List (FuncId × Ans) :=
  [(52, ansT [([.one (.atom (.sym 0))], .v (.one (.lit (.bool false)))), ([.one (.atom (.sym 1))], .v (.one (.lit (.bool false))))]),
   (53, ansT [([.one (.atom (.sym 0))], .v (.one (.lit (.bool false)))), ([.one (.atom (.sym 1))], .v (.one (.lit (.bool false))))]),
   (57, ansT [([.one (.atom (.sym 0))], .v (.one (.lit (.bool false)))), ([.one (.atom (.sym 1))], .v (.one (.lit (.bool false))))]),
   (71, ansT [([.one (.atom (.sym 0))], .v (avQ (.v 0))), ([.one (.atom (.sym 1))], .v (avQ (.v 1)))]),
   (48, ansT [([avQ (.v 0), avQ (.v 1)], .tup [avQ (.v 2), .one (.lit (.int .i64 (0)))])]),
   (24, ansT [([avQ (.v 2), .one (.atom (.sym 2))], .tup [.one (.atom (.sym 3)), .one (.atom (.sym 4))])]),
   (56, ansT [([.one (.atom (.sym 0))], .v (.one (.lit (.bool sa)))), ([.one (.atom (.sym 1))], .v (.one (.lit (.bool sb))))])]
def div3FFL (sa : Bool) (sb : Bool) : BT := []
def div3FFM : BT := []
def div3FFN : At → Option Nat
  | _ => none

set_option maxRecDepth 1000000 in
theorem div3FFTold : ∃ t : Tr Func, TabOK Tryd.prog t ∧ (∀ (sa : Bool) (sb : Bool), isAV (.tup [.one (.atom (.sym 3)), .one (.atom (.sym 4))]) (evalCall ⟨Tryd.prog, true, t.get, orcD (div3FFD sa sb), (opH (bigHook Tryd.prog true) (opH (symHook Tryd.prog div3FFN (fun _ _ _ => none)) (tabHook (div3FFL sa sb) div3FFM)))⟩ 1000 33 [.one (.atom (.sym 0)), .one (.atom (.sym 1)), .one (.atom (.sym 2))] .e 0) = true) :=
  ⟨(((((((((Tr.e).put 33 (some Tryd.f33)).put 15 (some Tryd.f15)).put 52 (some Tryd.f52)).put 53 (some Tryd.f53)).put 57 (some Tryd.f57)).put 71 (some Tryd.f71)).put 48 (some Tryd.f48)).put 24 (some Tryd.f24)).put 56 (some Tryd.f56),
   (TabOK.put (TabOK.put (TabOK.put (TabOK.put (TabOK.put (TabOK.put (TabOK.put (TabOK.put (TabOK.put (TabOK.e _) ⟨Tryd.func33, by decide +kernel, by decide +kernel⟩) ⟨Tryd.func15, by decide +kernel, by decide +kernel⟩) ⟨Tryd.func52, by decide +kernel, by decide +kernel⟩) ⟨Tryd.func53, by decide +kernel, by decide +kernel⟩) ⟨Tryd.func57, by decide +kernel, by decide +kernel⟩) ⟨Tryd.func71, by decide +kernel, by decide +kernel⟩) ⟨Tryd.func48, by decide +kernel, by decide +kernel⟩) ⟨Tryd.func24, by decide +kernel, by decide +kernel⟩) ⟨Tryd.func56, by decide +kernel, by decide +kernel⟩),
   by decide +kernel⟩

set_option maxHeartbeats 4000000 in
set_option maxRecDepth 100000 in
theorem div3FF_tab {w : World} (m : Int) (f g : Nat) (hf : f < 18446744073709551616) (hg : g < 18446744073709551616) (Kf : fsz f ≠ 0) (Lf : fsz f < 9218868437227405312) (Kg : fsz g ≠ 0) (Lg : fsz g < 9218868437227405312) {sa sb : Bool} (hsa : fneg f = sa) (hsb : fneg g = sb) :
    Calls Tryd.prog 33 #[.int .u64 f, .int .u64 g, .int .i64 m] w fun e w' => e = .returned (.tuple #[.int .u64 ((divG m f g).1 : Nat), .int .i64 ((divG m f g).2 : Nat)]) ∧ Below w.heap.size w w' := by
  have cnf : ∀ (w : World), Calls Tryd.prog 52 #[.int .u64 f] w fun e w' => e = .returned (.bool false) ∧ Fwd w w' := fun w => (none3_any f hf).mono fun e w' gg => ⟨by rw [gg.1, show isNan f = false from isNan_le (by omega)], gg.2 ▸ Fwd.refl _⟩
  have cif : ∀ (w : World), Calls Tryd.prog 53 #[.int .u64 f] w fun e w' => e = .returned (.bool false) ∧ Fwd w w' := fun w => (endless3_any f hf).mono fun e w' gg => ⟨by rw [gg.1, show decide (fsz f = 9218868437227405312) = false from decide_eq_false (by omega)], gg.2 ▸ Fwd.refl _⟩
  have czf : ∀ (w : World), Calls Tryd.prog 57 #[.int .u64 f] w fun e w' => e = .returned (.bool false) ∧ Fwd w w' := fun w => (nought3_any f hf).mono fun e w' gg => ⟨by rw [gg.1, show decide (fsz f = 0) = false from decide_eq_false (by omega)], gg.2 ▸ Fwd.refl _⟩
  have cng : ∀ (w : World), Calls Tryd.prog 52 #[.int .u64 g] w fun e w' => e = .returned (.bool false) ∧ Fwd w w' := fun w => (none3_any g hg).mono fun e w' gg => ⟨by rw [gg.1, show isNan g = false from isNan_le (by omega)], gg.2 ▸ Fwd.refl _⟩
  have cig : ∀ (w : World), Calls Tryd.prog 53 #[.int .u64 g] w fun e w' => e = .returned (.bool false) ∧ Fwd w w' := fun w => (endless3_any g hg).mono fun e w' gg => ⟨by rw [gg.1, show decide (fsz g = 9218868437227405312) = false from decide_eq_false (by omega)], gg.2 ▸ Fwd.refl _⟩
  have czg : ∀ (w : World), Calls Tryd.prog 57 #[.int .u64 g] w fun e w' => e = .returned (.bool false) ∧ Fwd w w' := fun w => (nought3_any g hg).mono fun e w' gg => ⟨by rw [gg.1, show decide (fsz g = 0) = false from decide_eq_false (by omega)], gg.2 ▸ Fwd.refl _⟩
  have b1 := nr_fvQ (f := f) (by omega)
  have b2 := nr_fvQ (f := g) (by omega)
  have hg0 := fvQ_ne Kg
  have b3 := nr_div (a := fvQ f) hg0
  have cmf : ∀ (w : World), Calls Tryd.prog 56 #[.int .u64 f] w fun e w' => e = .returned (.bool sa) ∧ Fwd w w' := fun w => (minus3_any f hf).mono fun e w' gg => ⟨by rw [gg.1, hsa], gg.2 ▸ Fwd.refl _⟩
  have cmg : ∀ (w : World), Calls Tryd.prog 56 #[.int .u64 g] w fun e w' => e = .returned (.bool sb) ∧ Fwd w w' := fun w => (minus3_any g hg).mono fun e w' gg => ⟨by rw [gg.1, hsb], gg.2 ▸ Fwd.refl _⟩
  have hval : divG m f g = _ := divG_fin m (by omega) (by omega) (by omega) (by omega)
  rw [hval]
  obtain ⟨t, ht, hr⟩ := div3FFTold
  obtain ⟨dl, n', he⟩ := isAV_ok (hr sa sb)
  let ν : Nat → Rat := nuL [fvQ f, fvQ g, fvQ f / fvQ g] []
  let σ : SymD := symL [.u f, .u g, .i m, .u (ofN m (fvQ f / fvQ g)).1, .i ((ofN m (fvQ f / fvQ g)).2 : Int)]
  have hcx : CxOK (DomQ true ν σ (fun _ => none)) w.heap.size ⟨Tryd.prog, true, t.get, orcD (div3FFD sa sb), (opH (bigHook Tryd.prog true) (opH (symHook Tryd.prog div3FFN (fun _ _ _ => none)) (tabHook (div3FFL sa sb) div3FFM)))⟩ := cxS_ok (M := (DomQ true ν σ (fun _ => none))) ht ⟨[
      orcT 52 [
        { args := [.one (.atom (.sym 0))], ans := .v (.one (.lit (.bool false))), ok := by
            intro B ρ w S vs hS hr
            match vs, hr with
            | [u0], ⟨z0, _⟩ =>
              obtain ⟨rfl, _⟩ : u0 = _ ∧ _ := z0
              refine (cnf _).mono ?_
              rintro e w' ⟨rfl, hf⟩
              exact ⟨_, rfl, ⟨rfl, rfl⟩, hf⟩ },
        { args := [.one (.atom (.sym 1))], ans := .v (.one (.lit (.bool false))), ok := by
            intro B ρ w S vs hS hr
            match vs, hr with
            | [u0], ⟨z0, _⟩ =>
              obtain ⟨rfl, _⟩ : u0 = _ ∧ _ := z0
              refine (cng _).mono ?_
              rintro e w' ⟨rfl, hf⟩
              exact ⟨_, rfl, ⟨rfl, rfl⟩, hf⟩ }],
      orcT 53 [
        { args := [.one (.atom (.sym 0))], ans := .v (.one (.lit (.bool false))), ok := by
            intro B ρ w S vs hS hr
            match vs, hr with
            | [u0], ⟨z0, _⟩ =>
              obtain ⟨rfl, _⟩ : u0 = _ ∧ _ := z0
              refine (cif _).mono ?_
              rintro e w' ⟨rfl, hf⟩
              exact ⟨_, rfl, ⟨rfl, rfl⟩, hf⟩ },
        { args := [.one (.atom (.sym 1))], ans := .v (.one (.lit (.bool false))), ok := by
            intro B ρ w S vs hS hr
            match vs, hr with
            | [u0], ⟨z0, _⟩ =>
              obtain ⟨rfl, _⟩ : u0 = _ ∧ _ := z0
              refine (cig _).mono ?_
              rintro e w' ⟨rfl, hf⟩
              exact ⟨_, rfl, ⟨rfl, rfl⟩, hf⟩ }],
      orcT 57 [
        { args := [.one (.atom (.sym 0))], ans := .v (.one (.lit (.bool false))), ok := by
            intro B ρ w S vs hS hr
            match vs, hr with
            | [u0], ⟨z0, _⟩ =>
              obtain ⟨rfl, _⟩ : u0 = _ ∧ _ := z0
              refine (czf _).mono ?_
              rintro e w' ⟨rfl, hf⟩
              exact ⟨_, rfl, ⟨rfl, rfl⟩, hf⟩ },
        { args := [.one (.atom (.sym 1))], ans := .v (.one (.lit (.bool false))), ok := by
            intro B ρ w S vs hS hr
            match vs, hr with
            | [u0], ⟨z0, _⟩ =>
              obtain ⟨rfl, _⟩ : u0 = _ ∧ _ := z0
              refine (czg _).mono ?_
              rintro e w' ⟨rfl, hf⟩
              exact ⟨_, rfl, ⟨rfl, rfl⟩, hf⟩ }],
      orcT 71 [
        { args := [.one (.atom (.sym 0))], ans := .v (avQ (.v 0)), ok := by
            intro B ρ w S vs hS hr
            match vs, hr with
            | [u0], ⟨z0, _⟩ =>
              obtain ⟨rfl, _⟩ : u0 = _ ∧ _ := z0
              refine (exact3_any f hf (by omega)).mono ?_
              rintro e w' ⟨x, rfl, g0, hf⟩
              exact ⟨_, rfl, (avQ_rel g0), hf⟩ },
        { args := [.one (.atom (.sym 1))], ans := .v (avQ (.v 1)), ok := by
            intro B ρ w S vs hS hr
            match vs, hr with
            | [u0], ⟨z0, _⟩ =>
              obtain ⟨rfl, _⟩ : u0 = _ ∧ _ := z0
              refine (exact3_any g hg (by omega)).mono ?_
              rintro e w' ⟨x, rfl, g0, hf⟩
              exact ⟨_, rfl, (avQ_rel g0), hf⟩ }],
      orcT 48 [
        { args := [avQ (.v 0), avQ (.v 1)], ans := .tup [avQ (.v 2), .one (.lit (.int .i64 (0)))], ok := by
            intro B ρ w S vs hS hr
            match vs, hr with
            | [u0, u1], ⟨z0, z1, _⟩ =>
              have k0 := avQ_rv z0
              have k1 := avQ_rv z1
              refine (quo2_any (p := fvQ f) (q := fvQ g) k0 k1 (by omega) (by omega) hg0).mono ?_
              rintro e w' ⟨x, rfl, g0, hf⟩
              exact ⟨_, rfl, ⟨[_, _], rfl, (avQ_rel g0), ⟨rfl, rfl⟩, trivial⟩, hf⟩ }],
      orcT 24 [
        { args := [avQ (.v 2), .one (.atom (.sym 2))], ans := .tup [.one (.atom (.sym 3)), .one (.atom (.sym 4))], ok := by
            intro B ρ w S vs hS hr
            match vs, hr with
            | [u0, u1], ⟨z0, z1, _⟩ =>
              have k0 := avQ_rv z0
              obtain ⟨rfl, _⟩ : u1 = _ ∧ _ := z1
              refine (of3_any (q := fvQ f / fvQ g) m k0 (by omega)).mono ?_
              rintro e w' ⟨rfl, hf⟩
              exact ⟨_, rfl, ⟨[_, _], rfl, ⟨rfl, fun _ => trivial⟩, ⟨rfl, fun _ => trivial⟩, trivial⟩, hf⟩ }],
      orcT 56 [
        { args := [.one (.atom (.sym 0))], ans := .v (.one (.lit (.bool sa))), ok := by
            intro B ρ w S vs hS hr
            match vs, hr with
            | [u0], ⟨z0, _⟩ =>
              obtain ⟨rfl, _⟩ : u0 = _ ∧ _ := z0
              refine (cmf _).mono ?_
              rintro e w' ⟨rfl, hf⟩
              exact ⟨_, rfl, ⟨rfl, rfl⟩, hf⟩ },
        { args := [.one (.atom (.sym 1))], ans := .v (.one (.lit (.bool sb))), ok := by
            intro B ρ w S vs hS hr
            match vs, hr with
            | [u0], ⟨z0, _⟩ =>
              obtain ⟨rfl, _⟩ : u0 = _ ∧ _ := z0
              refine (cmg _).mono ?_
              rintro e w' ⟨rfl, hf⟩
              exact ⟨_, rfl, ⟨rfl, rfl⟩, hf⟩ }]], rfl⟩
    (opH_le (bigHook_le _ _) (opH_le (symHook_le _ _ _) (tabHook_le _ _)))
    (opH_ok (bigHook_ok _) (opH_ok (symHook_ok _ (fun h => by cases h) (fun h => by cases h)) (tabHook_ok _ all_nil all_nil)))
  refine (told_call (M := (DomQ true ν σ (fun _ => none))) (cx := ⟨Tryd.prog, true, t.get, orcD (div3FFD sa sb), (opH (bigHook Tryd.prog true) (opH (symHook Tryd.prog div3FFN (fun _ _ _ => none)) (tabHook (div3FFL sa sb) div3FFM)))⟩) (xs := [.one (.atom (.sym 0)), .one (.atom (.sym 1)), .one (.atom (.sym 2))]) (vs := [.int .u64 f, .int .u64 g, .int .i64 m]) Tryd.checked.mixed hcx (fun hg => by cases hg) ⟨⟨rfl, fun _ => trivial⟩, ⟨rfl, fun _ => trivial⟩, ⟨rfl, fun _ => trivial⟩, trivial⟩ he).mono ?_
  rintro e w' ⟨v, ρ', rfl, hv, hbel⟩
  obtain ⟨us, rfl, hu⟩ := hv
  match us, hu with
  | [c0, c1], ⟨r0, r1, _⟩ =>
    obtain ⟨rfl, _⟩ : c0 = _ ∧ _ := r0
    obtain ⟨rfl, _⟩ : c1 = _ ∧ _ := r1
    exact ⟨rfl, hbel⟩


theorem kinds (f : Nat) : isNan f = true ∨ fsz f = 9218868437227405312 ∨ fsz f = 0 ∨ (fsz f ≠ 0 ∧ fsz f < 9218868437227405312) := by
  by_cases c : 9218868437227405312 < fsz f
  · exact Or.inl (decide_eq_true c)
  · omega
theorem nanB (f : Nat) : isNan f = true ∨ isNan f = false := by cases isNan f <;> simp

theorem add3_any {w : World} (m : Int) (f g : Nat) (hf : f < 18446744073709551616) (hg : g < 18446744073709551616) :
    Calls Tryd.prog 27 #[.int .u64 f, .int .u64 g, .int .i64 m] w fun e w' => e = .returned (.tuple #[.int .u64 ((addF m f g).1 : Nat), .int .i64 ((addF m f g).2 : Nat)]) ∧ Fwd w w' := by
  rcases kinds f with a | a | a | ⟨a, a'⟩
  · exact add3NQ_tab m f g hf hg a
  · rcases kinds g with b | b | b | ⟨b, b'⟩
    · exact add3AN_tab m f g hf hg (isNan_le (by omega)) b
    · by_cases c : f = g
      · exact add3IIe_tab m f g hf hg a b c
      · exact add3IId_tab m f g hf hg a b c
    · exact add3IZ_tab m f g hf hg a b
    · exact add3IF_tab m f g hf hg a b b'
  · rcases kinds g with b | b | b | ⟨b, b'⟩
    · exact add3AN_tab m f g hf hg (isNan_le (by omega)) b
    · exact add3ZI_tab m f g hf hg a b
    · by_cases c : f = g
      · exact add3ZZe_tab m f g hf hg a b c
      · exact add3ZZd_tab m f g hf hg a b c
    · exact add3ZF_tab m f g hf hg a b b'
  · rcases kinds g with b | b | b | ⟨b, b'⟩
    · exact add3AN_tab m f g hf hg (isNan_le (by omega)) b
    · exact add3FI_tab m f g hf hg a a' b
    · exact add3FZ_tab m f g hf hg a a' b
    · exact add3FF_tab m f g hf hg a a' b b'

theorem mul3_any {w : World} (m : Int) (f g : Nat) (hf : f < 18446744073709551616) (hg : g < 18446744073709551616) :
    Calls Tryd.prog 31 #[.int .u64 f, .int .u64 g, .int .i64 m] w fun e w' => e = .returned (.tuple #[.int .u64 ((mulF m f g).1 : Nat), .int .i64 ((mulF m f g).2 : Nat)]) ∧ Fwd w w' := by
  rcases kinds f with a | a | a | ⟨a, a'⟩
  · exact mul3NQ_tab m f g hf hg a rfl rfl
  · rcases kinds g with b | b | b | ⟨b, b'⟩
    · exact mul3AN_tab m f g hf hg (isNan_le (by omega)) b rfl rfl
    · exact mul3II_tab m f g hf hg a b rfl rfl
    · exact mul3IZ_tab m f g hf hg a b rfl rfl
    · exact mul3IF_tab m f g hf hg a b b' rfl rfl
  · rcases kinds g with b | b | b | ⟨b, b'⟩
    · exact mul3AN_tab m f g hf hg (isNan_le (by omega)) b rfl rfl
    · exact mul3ZI_tab m f g hf hg a b rfl rfl
    · exact mul3ZZ_tab m f g hf hg a b rfl rfl
    · exact mul3ZF_tab m f g hf hg a b b' rfl rfl
  · rcases kinds g with b | b | b | ⟨b, b'⟩
    · exact mul3AN_tab m f g hf hg (isNan_le (by omega)) b rfl rfl
    · exact mul3FI_tab m f g hf hg a a' b rfl rfl
    · exact mul3FZ_tab m f g hf hg a a' b rfl rfl
    · exact mul3FF_tab m f g hf hg a a' b b' rfl rfl

theorem div3_any {w : World} (m : Int) (f g : Nat) (hf : f < 18446744073709551616) (hg : g < 18446744073709551616) :
    Calls Tryd.prog 33 #[.int .u64 f, .int .u64 g, .int .i64 m] w fun e w' => e = .returned (.tuple #[.int .u64 ((divG m f g).1 : Nat), .int .i64 ((divG m f g).2 : Nat)]) ∧ Fwd w w' := by
  rcases kinds f with a | a | a | ⟨a, a'⟩
  · exact div3NQ_tab m f g hf hg a rfl rfl
  · rcases kinds g with b | b | b | ⟨b, b'⟩
    · exact div3AN_tab m f g hf hg (isNan_le (by omega)) b rfl rfl
    · exact div3II_tab m f g hf hg a b rfl rfl
    · exact div3IZ_tab m f g hf hg a b rfl rfl
    · exact div3IF_tab m f g hf hg a b b' rfl rfl
  · rcases kinds g with b | b | b | ⟨b, b'⟩
    · exact div3AN_tab m f g hf hg (isNan_le (by omega)) b rfl rfl
    · exact div3ZI_tab m f g hf hg a b rfl rfl
    · exact div3ZZ_tab m f g hf hg a b rfl rfl
    · exact div3ZF_tab m f g hf hg a b b' rfl rfl
  · rcases kinds g with b | b | b | ⟨b, b'⟩
    · exact div3AN_tab m f g hf hg (isNan_le (by omega)) b rfl rfl
    · exact div3FI_tab m f g hf hg a a' b rfl rfl
    · exact div3FZ_tab m f g hf hg a a' b rfl rfl
    · exact div3FF_tab m f g hf hg a a' b b' rfl rfl

end Go.Proofs.YtcfhajnboamnnaaDoor
