/- The laws of enclosures: End, Make, with answers that hang on no world. -/
import Derived.Test.YtcfhajnboamnnabGreatDoorYXP11
import Derived.Test.YtcfhajnboamnnabGreatDoorYXEVG
import Derived.Test.YtcfhajnboamnnabGreatDoorYXF19
import Derived.Test.YtcfhajnboamnnabGreatDoorYXEVS
namespace Go.Proofs.YtcfhajnboamnnabGreatDoor
open Go.RowKit Go.Ev
set_option linter.unusedVariables false
set_option linter.unusedSimpArgs false

theorem bo_and' {a c : Nat} {b : Int} (h : bits .and .u64 (a : Int) b = (c : Int)) (t : TypeId) : binOp .and t (.int .u64 (a : Int)) (.int .u64 b) = pure (.int .u64 (c : Int)) := by
  rw [binOp_and, ← h]; rfl
set_option maxHeartbeats 1000000 in
/-- within: what is left by 7. -/
theorem within4_7 (w : World) (a : Int) (ha1 : -9223372036854775808 ≤ a) (ha2 : a ≤ 9223372036854775807) :
    Calls Tryz.prog 44 #[.int .i64 a, .int .i64 7] w fun e w' => e = .returned (.int .i64 (a % 7)) ∧ w = w' := by
  by_cases h0 : 0 ≤ a
  · have h1 : a % 7 < 7 := Int.emod_lt_of_pos _ (by omega)
    have h2 : 0 ≤ a % 7 := Int.emod_nonneg _ (by omega)
    go_enter Tryz.func44, Tryz.ntmps44
    go_wp2
    go_ret
    exact ⟨rfl, rfl⟩
  · have hb : ∃ b : Int, a = -b ∧ 0 < b := ⟨-a, by omega, by omega⟩
    obtain ⟨b, hb, hb0⟩ := hb
    have h3 : a.tmod 7 = -(b % 7) := by rw [hb, Int.neg_tmod, Int.tmod_eq_emod_of_nonneg (by omega)]
    have h1 : b % 7 < 7 := Int.emod_lt_of_pos _ (by omega)
    have h2 : 0 ≤ b % 7 := Int.emod_nonneg _ (by omega)
    obtain ⟨t, ht⟩ : ∃ t, t = b % 7 := ⟨_, rfl⟩
    obtain ⟨r, hr⟩ : ∃ r, r = a % 7 := ⟨_, rfl⟩
    have h5 : r = if t = 0 then 0 else 7 - t := by split <;> omega
    rw [← hr]
    rw [← ht] at h1 h2 h3
    clear ht hb hr
    by_cases ht0 : t = 0
    · have h4 : ¬ (-t < 0) := by omega
      rw [if_pos ht0] at h5
      subst h5
      have HT := hid ht0
      subst ht0
      simp only [Int.neg_zero] at h3
      go_enter Tryz.func44, Tryz.ntmps44
      go_wp2
      go_ret
      exact ⟨rfl, rfl⟩
    · have h4 : -t < 0 := by omega
      rw [if_neg ht0] at h5
      subst h5
      go_enter Tryz.func44, Tryz.ntmps44
      go_wp2
      go_ret
      refine ⟨?_, rfl⟩
      have e : -t + 7 = 7 - t := by omega
      simp only [e]
      rfl

def en4FD : List (FuncId × Ans) :=
  [(13, ansT [([.one (.atom (.sym 0)), .one (.atom (.sym 1))], .v (.one (.atom (.sym 2))))]),
   (36, ansT [([.one (.atom (.sym 2))], .tup [avQ (.v 0), .one (.lit (.int .i64 (0)))])])]
def en4FL : BT := []
def en4FM : BT := []
def en4FN : At → Option Nat
  | _ => none

set_option maxRecDepth 1000000 in
theorem en4FTold : ∃ t : Tr Func, TabOK Tryz.prog t ∧ (isAV (.v (.one (.atom (.sym 2)))) (evalCall ⟨Tryz.prog, true, t.get, orcD (en4FD ), (opH (bigHook Tryz.prog true) (opH (symHook Tryz.prog en4FN (fun _ _ _ => none)) (tabHook (en4FL ) en4FM)))⟩ 1000 43 [.one (.atom (.sym 0)), .one (.atom (.sym 1))] .e 0) = true) :=
  ⟨(((Tr.e).put 43 (some Tryz.f43)).put 13 (some Tryz.f13)).put 36 (some Tryz.f36),
   (TabOK.put (TabOK.put (TabOK.put (TabOK.e _) ⟨Tryz.func43, by decide +kernel, by decide +kernel⟩) ⟨Tryz.func13, by decide +kernel, by decide +kernel⟩) ⟨Tryz.func36, by decide +kernel, by decide +kernel⟩),
   by decide +kernel⟩

set_option maxHeartbeats 4000000 in
set_option maxRecDepth 100000 in
theorem en4F_tab {w : World} (f x : Nat) (n : Int) (hf : f < 18446744073709551616) (hx : x < 18446744073709551616)
    (cx : ∀ w : World, Calls Tryz.prog 13 #[.int .u64 f, .int .i64 n] w fun e w' => e = .returned (.int .u64 x) ∧ Fwd w w') (h1 : fsz x < 9218868437227405312) :
    Calls Tryz.prog 43 #[.int .u64 f, .int .i64 n] w fun e w' => e = .returned (.int .u64 (x : Nat)) ∧ Below w.heap.size w w' := by
  obtain ⟨t, ht, hr⟩ := en4FTold
  obtain ⟨dl, n', he⟩ := isAV_ok (hr)
  let ν : Nat → Rat := nuL [(mkQ (fneg x) (ratA x) (ratB x))] []
  let σ : SymD := symL [.u f, .i n, .u x, .u (f % 1152921504606846976)]
  have hcx : CxOK (DomQ true ν σ (fun _ => none)) w.heap.size ⟨Tryz.prog, true, t.get, orcD (en4FD ), (opH (bigHook Tryz.prog true) (opH (symHook Tryz.prog en4FN (fun _ _ _ => none)) (tabHook (en4FL ) en4FM)))⟩ := cxS_ok (M := (DomQ true ν σ (fun _ => none))) ht ⟨[
      orcT 13 [
        { args := [.one (.atom (.sym 0)), .one (.atom (.sym 1))], ans := .v (.one (.atom (.sym 2))), ok := by
            intro B ρ w S vs hS hr
            match vs, hr with
            | [u0, u1], ⟨z0, z1, _⟩ =>
              obtain ⟨rfl, _⟩ : u0 = _ ∧ _ := z0
              obtain ⟨rfl, _⟩ : u1 = _ ∧ _ := z1
              refine (cx _).mono ?_
              rintro e w' ⟨rfl, hf⟩
              exact ⟨_, rfl, ⟨rfl, fun _ => trivial⟩, hf⟩ }],
      orcT 36 [
        { args := [.one (.atom (.sym 2))], ans := .tup [avQ (.v 0), .one (.lit (.int .i64 (0)))], ok := by
            intro B ρ w S vs hS hr
            match vs, hr with
            | [u0], ⟨z0, _⟩ =>
              obtain ⟨rfl, _⟩ : u0 = _ ∧ _ := z0
              refine (refRat_any x hx h1).mono ?_
              rintro e w' ⟨v, rfl, g0, hf⟩
              exact ⟨_, rfl, ⟨[_, _], rfl, (avQ_rel g0), ⟨rfl, rfl⟩, trivial⟩, hf⟩ }]], rfl⟩
    (opH_le (bigHook_le _ _) (opH_le (symHook_le _ _ _) (tabHook_le _ _)))
    (opH_ok (bigHook_ok _) (opH_ok (symHook_ok _ (fun h => by cases h) (fun h => by cases h)) (tabHook_ok _ all_nil all_nil)))
  refine (told_call (M := (DomQ true ν σ (fun _ => none))) (cx := ⟨Tryz.prog, true, t.get, orcD (en4FD ), (opH (bigHook Tryz.prog true) (opH (symHook Tryz.prog en4FN (fun _ _ _ => none)) (tabHook (en4FL ) en4FM)))⟩) (xs := [.one (.atom (.sym 0)), .one (.atom (.sym 1))]) (vs := [.int .u64 f, .int .i64 n]) Tryz.checked.mixed hcx (fun hg => by cases hg) ⟨⟨rfl, fun _ => trivial⟩, ⟨rfl, fun _ => trivial⟩, trivial⟩ he).mono ?_
  rintro e w' ⟨v, ρ', rfl, hv, hbel⟩
  obtain ⟨rfl, _⟩ : v = _ ∧ _ := hv
  exact ⟨rfl, hbel⟩

def en4ID : List (FuncId × Ans) :=
  [(13, ansT [([.one (.atom (.sym 0)), .one (.atom (.sym 1))], .v (.one (.atom (.sym 2))))]),
   (36, ansT [([.one (.atom (.sym 2))], .tup [.agg [.lit (.bool false), .lit (.slice none 0 0), .lit (.slice none 0 0)], .one (.lit (.int .i64 (10)))])])]
def en4IL : BT := [(.and, .atom (.sym 0), .lit (.int .u64 1152921504606846975), .atom (.sym 3))]
def en4IM : BT := []
def en4IN : At → Option Nat
  | _ => none

set_option maxRecDepth 1000000 in
theorem en4ITold : ∃ t : Tr Func, TabOK Tryz.prog t ∧ (isAV (.v (.one (.atom (.sym 3)))) (evalCall ⟨Tryz.prog, true, t.get, orcD (en4ID ), (opH (bigHook Tryz.prog true) (opH (symHook Tryz.prog en4IN (fun _ _ _ => none)) (tabHook (en4IL ) en4IM)))⟩ 1000 43 [.one (.atom (.sym 0)), .one (.atom (.sym 1))] .e 0) = true) :=
  ⟨(((Tr.e).put 43 (some Tryz.f43)).put 13 (some Tryz.f13)).put 36 (some Tryz.f36),
   (TabOK.put (TabOK.put (TabOK.put (TabOK.e _) ⟨Tryz.func43, by decide +kernel, by decide +kernel⟩) ⟨Tryz.func13, by decide +kernel, by decide +kernel⟩) ⟨Tryz.func36, by decide +kernel, by decide +kernel⟩),
   by decide +kernel⟩

set_option maxHeartbeats 4000000 in
set_option maxRecDepth 100000 in
theorem en4I_tab {w : World} (f x : Nat) (n : Int) (hf : f < 18446744073709551616) (hx : x < 18446744073709551616)
    (cx : ∀ w : World, Calls Tryz.prog 13 #[.int .u64 f, .int .i64 n] w fun e w' => e = .returned (.int .u64 x) ∧ Fwd w w') (h1 : 9218868437227405312 ≤ fsz x) :
    Calls Tryz.prog 43 #[.int .u64 f, .int .i64 n] w fun e w' => e = .returned (.int .u64 (f % 1152921504606846976 : Nat)) ∧ Below w.heap.size w w' := by
  obtain ⟨t, ht, hr⟩ := en4ITold
  obtain ⟨dl, n', he⟩ := isAV_ok (hr)
  let ν : Nat → Rat := nuL [] []
  let σ : SymD := symL [.u f, .i n, .u x, .u (f % 1152921504606846976)]
  have hcx : CxOK (DomQ true ν σ (fun _ => none)) w.heap.size ⟨Tryz.prog, true, t.get, orcD (en4ID ), (opH (bigHook Tryz.prog true) (opH (symHook Tryz.prog en4IN (fun _ _ _ => none)) (tabHook (en4IL ) en4IM)))⟩ := cxS_ok (M := (DomQ true ν σ (fun _ => none))) ht ⟨[
      orcT 13 [
        { args := [.one (.atom (.sym 0)), .one (.atom (.sym 1))], ans := .v (.one (.atom (.sym 2))), ok := by
            intro B ρ w S vs hS hr
            match vs, hr with
            | [u0, u1], ⟨z0, z1, _⟩ =>
              obtain ⟨rfl, _⟩ : u0 = _ ∧ _ := z0
              obtain ⟨rfl, _⟩ : u1 = _ ∧ _ := z1
              refine (cx _).mono ?_
              rintro e w' ⟨rfl, hf⟩
              exact ⟨_, rfl, ⟨rfl, fun _ => trivial⟩, hf⟩ }],
      orcT 36 [
        { args := [.one (.atom (.sym 2))], ans := .tup [.agg [.lit (.bool false), .lit (.slice none 0 0), .lit (.slice none 0 0)], .one (.lit (.int .i64 (10)))], ok := by
            intro B ρ w S vs hS hr
            match vs, hr with
            | [u0], ⟨z0, _⟩ =>
              obtain ⟨rfl, _⟩ : u0 = _ ∧ _ := z0
              refine (refRat_range x hx h1).mono ?_
              rintro e w' ⟨rfl, hf⟩
              exact ⟨_, rfl, ⟨[_, _], rfl, ⟨[_, _, _], rfl, ⟨rfl, rfl⟩, ⟨rfl, rfl⟩, ⟨rfl, rfl⟩, trivial⟩, ⟨rfl, rfl⟩, trivial⟩, hf⟩ }]], rfl⟩
    (opH_le (bigHook_le _ _) (opH_le (symHook_le _ _ _) (tabHook_le _ _)))
    (opH_ok (bigHook_ok _) (opH_ok (symHook_ok _ (fun h => by cases h) (fun h => by cases h)) (tabHook_ok _ (all_cons (BOk.mk rfl rfl rfl (fun _ _ _ => trivial) rfl rfl (bo_and' (and60 f hf))) all_nil) all_nil)))
  refine (told_call (M := (DomQ true ν σ (fun _ => none))) (cx := ⟨Tryz.prog, true, t.get, orcD (en4ID ), (opH (bigHook Tryz.prog true) (opH (symHook Tryz.prog en4IN (fun _ _ _ => none)) (tabHook (en4IL ) en4IM)))⟩) (xs := [.one (.atom (.sym 0)), .one (.atom (.sym 1))]) (vs := [.int .u64 f, .int .i64 n]) Tryz.checked.mixed hcx (fun hg => by cases hg) ⟨⟨rfl, fun _ => trivial⟩, ⟨rfl, fun _ => trivial⟩, trivial⟩ he).mono ?_
  rintro e w' ⟨v, ρ', rfl, hv, hbel⟩
  obtain ⟨rfl, _⟩ : v = _ ∧ _ := hv
  exact ⟨rfl, hbel⟩

theorem end4_fix (f : Nat) (n : Int) (hf : f < 18446744073709551616) (n1 : -9223372036854775808 ≤ n) (n2 : n ≤ 9223372036854775807) :
    ∃ y : Nat, y < 18446744073709551616 ∧ fsz y < 9218868437227405312 ∧ ∀ w : World, Calls Tryz.prog 43 #[.int .u64 f, .int .i64 n] w fun e w' => e = .returned (.int .u64 y) ∧ Fwd w w' := by
  obtain ⟨x, hx, cx⟩ := make3_fix f n hf n1 n2
  by_cases h : fsz x < 9218868437227405312
  · exact ⟨x, hx, h, fun w => en4F_tab f x n hf hx cx h⟩
  · have hm : f % 1152921504606846976 < 1152921504606846976 := Nat.mod_lt _ (by omega)
    exact ⟨f % 1152921504606846976, by omega, by unfold fsz; omega, fun w => en4I_tab f x n hf hx cx (by omega)⟩

theorem bo_quo12 (k : Int) (k1 : -9223372036854775808 ≤ k) (k2 : k ≤ 9223372036854775807) (t : TypeId) : binOp .quo t (.int .i64 k) (.int .i64 12) = pure (.int .i64 (k.tdiv 12)) := by
  rw [binOp_quo]
  have h : -9223372036854775808 ≤ k.tdiv 12 ∧ k.tdiv 12 ≤ 9223372036854775807 := by
    by_cases c : 0 ≤ k
    · rw [Int.tdiv_eq_ediv_of_nonneg c]; omega
    · have e : k.tdiv 12 = -((-k) / 12) := by rw [← Int.neg_neg k, Int.neg_tdiv, Int.tdiv_eq_ediv_of_nonneg (by omega), Int.neg_neg]
      omega
  have e2 : IntKind.i64.wrap (k.tdiv 12) = k.tdiv 12 := wr64 h.1 h.2
  simp [Op.intDiv, e2]
theorem isNan_le4 {f : Nat} (h : fsz f ≤ 9218868437227405312) : isNan f = false := decide_eq_false (by omega)
def mk4D (z : Bool) (sw : Bool) : List (FuncId × Ans) :=
  [(43, ansT [([.one (.atom (.sym 0)), .one (.atom (.sym 2))], .v (.one (.atom (.sym 3)))), ([.one (.atom (.sym 1)), .one (.atom (.sym 4))], .v (.one (.atom (.sym 5))))]),
   (44, ansT [([.one (.atom (.sym 2)), .one (.lit (.int .i64 (7)))], .v (.one (.atom (.sym 6))))]),
   (37, ansT [([.one (.atom (.sym 3)), .one (.atom (.sym 5))], .tup [.one (.atom (.sym 7)), .one (.atom (.sym 8))]), ([.one (.atom (.sym 3)), .one (.atom (.sym 3))], .tup [.one (.atom (.sym 9)), .one (.atom (.sym 10))])])]
def mk4L (z : Bool) (sw : Bool) : BT := [(.quo, .atom (.sym 2), .lit (.int .i64 (12)), .atom (.sym 4)), (.eql, .atom (.sym 6), .lit (.int .i64 (0)), .lit (.bool z)), (.gtr, .atom (.sym 7), .lit (.int .i64 (0)), .lit (.bool sw)), (.gtr, .atom (.sym 9), .lit (.int .i64 (0)), .lit (.bool false))]
def mk4M : BT := []
def mk4N : At → Option Nat
  | _ => none

set_option maxRecDepth 1000000 in
theorem mk4Told : ∃ t : Tr Func, TabOK Tryz.prog t ∧ (∀ (z : Bool) (sw : Bool), isAV (.v (.agg [.atom (.sym (bif z then 3 else bif sw then 5 else 3)), .atom (.sym (bif z then 3 else bif sw then 3 else 5))])) (evalCall ⟨Tryz.prog, true, t.get, orcD (mk4D z sw), (opH (bigHook Tryz.prog true) (opH (symHook Tryz.prog mk4N (fun _ _ _ => none)) (tabHook (mk4L z sw) mk4M)))⟩ 1000 9 [.agg [.atom (.sym 0), .atom (.sym 1)], .one (.atom (.sym 2))] .e 0) = true) :=
  ⟨((((Tr.e).put 9 (some Tryz.f9)).put 43 (some Tryz.f43)).put 44 (some Tryz.f44)).put 37 (some Tryz.f37),
   (TabOK.put (TabOK.put (TabOK.put (TabOK.put (TabOK.e _) ⟨Tryz.func9, by decide +kernel, by decide +kernel⟩) ⟨Tryz.func43, by decide +kernel, by decide +kernel⟩) ⟨Tryz.func44, by decide +kernel, by decide +kernel⟩) ⟨Tryz.func37, by decide +kernel, by decide +kernel⟩),
   by decide +kernel⟩

set_option maxHeartbeats 4000000 in
set_option maxRecDepth 100000 in
theorem mk4_tab {w : World} (f g a b : Nat) (n : Int) {z sw : Bool} (hf : f < 18446744073709551616) (hg : g < 18446744073709551616) (n1 : -9223372036854775808 ≤ n) (n2 : n ≤ 9223372036854775807) (ha : a < 18446744073709551616) (hb : b < 18446744073709551616) (a1 : fsz a < 9218868437227405312) (b1 : fsz b < 9218868437227405312)
    (ca : ∀ w : World, Calls Tryz.prog 43 #[.int .u64 f, .int .i64 n] w fun e w' => e = .returned (.int .u64 a) ∧ Fwd w w') (cb : ∀ w : World, Calls Tryz.prog 43 #[.int .u64 g, .int .i64 (n.tdiv 12)] w fun e w' => e = .returned (.int .u64 b) ∧ Fwd w w')
    (hz : decide (n % 7 = 0) = z) (hsw : decide (0 < (cmpF a b).1) = sw) :
    Calls Tryz.prog 9 #[.agg #[.int .u64 f, .int .u64 g], .int .i64 n] w fun e w' => e = .returned (.agg #[.int .u64 ((if z = true then a else if sw = true then b else a : Nat) : Int), .int .u64 ((if z = true then a else if sw = true then a else b : Nat) : Int)]) ∧ Below w.heap.size w w' := by
  have hq : binOp .quo 0 (.int .i64 n) (.int .i64 12) = pure (.int .i64 (n.tdiv 12)) := bo_quo12 n n1 n2 0
  have haa : decide (0 < (cmpF a a).1) = false := by rw [cmpF_self (by omega)]; rfl
  obtain ⟨t, ht, hr⟩ := mk4Told
  obtain ⟨dl, n', he⟩ := isAV_ok (hr z sw)
  let ν : Nat → Rat := nuL [] []
  let σ : SymD := symL [.u f, .u g, .i n, .u a, .i (n.tdiv 12), .u b, .i (n % 7), .i (cmpF a b).1, .b (cmpF a b).2, .i (cmpF a a).1, .b (cmpF a a).2]
  have hcx : CxOK (DomQ true ν σ (fun _ => none)) w.heap.size ⟨Tryz.prog, true, t.get, orcD (mk4D z sw), (opH (bigHook Tryz.prog true) (opH (symHook Tryz.prog mk4N (fun _ _ _ => none)) (tabHook (mk4L z sw) mk4M)))⟩ := cxS_ok (M := (DomQ true ν σ (fun _ => none))) ht ⟨[
      orcT 43 [
        { args := [.one (.atom (.sym 0)), .one (.atom (.sym 2))], ans := .v (.one (.atom (.sym 3))), ok := by
            intro B ρ w S vs hS hr
            match vs, hr with
            | [u0, u1], ⟨z0, z1, _⟩ =>
              obtain ⟨rfl, _⟩ : u0 = _ ∧ _ := z0
              obtain ⟨rfl, _⟩ : u1 = _ ∧ _ := z1
              refine (ca _).mono ?_
              rintro e w' ⟨rfl, hf⟩
              exact ⟨_, rfl, ⟨rfl, fun _ => trivial⟩, hf⟩ },
        { args := [.one (.atom (.sym 1)), .one (.atom (.sym 4))], ans := .v (.one (.atom (.sym 5))), ok := by
            intro B ρ w S vs hS hr
            match vs, hr with
            | [u0, u1], ⟨z0, z1, _⟩ =>
              obtain ⟨rfl, _⟩ : u0 = _ ∧ _ := z0
              obtain ⟨rfl, _⟩ : u1 = _ ∧ _ := z1
              refine (cb _).mono ?_
              rintro e w' ⟨rfl, hf⟩
              exact ⟨_, rfl, ⟨rfl, fun _ => trivial⟩, hf⟩ }],
      orcT 44 [
        { args := [.one (.atom (.sym 2)), .one (.lit (.int .i64 (7)))], ans := .v (.one (.atom (.sym 6))), ok := by
            intro B ρ w S vs hS hr
            match vs, hr with
            | [u0, u1], ⟨z0, z1, _⟩ =>
              obtain ⟨rfl, _⟩ : u0 = _ ∧ _ := z0
              obtain ⟨rfl, _⟩ : u1 = _ ∧ _ := z1
              refine ((within4_7 w n n1 n2).mono (R' := fun e w' => e = .returned (.int .i64 (n % 7)) ∧ Fwd w w') (fun e w' gg => ⟨gg.1, gg.2 ▸ Fwd.refl _⟩)).mono ?_
              rintro e w' ⟨rfl, hf⟩
              exact ⟨_, rfl, ⟨rfl, fun _ => trivial⟩, hf⟩ }],
      orcT 37 [
        { args := [.one (.atom (.sym 3)), .one (.atom (.sym 5))], ans := .tup [.one (.atom (.sym 7)), .one (.atom (.sym 8))], ok := by
            intro B ρ w S vs hS hr
            match vs, hr with
            | [u0, u1], ⟨z0, z1, _⟩ =>
              obtain ⟨rfl, _⟩ : u0 = _ ∧ _ := z0
              obtain ⟨rfl, _⟩ : u1 = _ ∧ _ := z1
              refine ((cmp3_any (w := w) a b ha hb).mono (R' := fun e w' => e = .returned (.tuple #[.int .i64 (cmpF a b).1, .bool (cmpF a b).2]) ∧ Fwd w w') (fun e w' gg => ⟨gg.1, gg.2 ▸ Fwd.refl _⟩)).mono ?_
              rintro e w' ⟨rfl, hf⟩
              exact ⟨_, rfl, ⟨[_, _], rfl, ⟨rfl, fun _ => trivial⟩, ⟨rfl, fun _ => trivial⟩, trivial⟩, hf⟩ },
        { args := [.one (.atom (.sym 3)), .one (.atom (.sym 3))], ans := .tup [.one (.atom (.sym 9)), .one (.atom (.sym 10))], ok := by
            intro B ρ w S vs hS hr
            match vs, hr with
            | [u0, u1], ⟨z0, z1, _⟩ =>
              obtain ⟨rfl, _⟩ : u0 = _ ∧ _ := z0
              obtain ⟨rfl, _⟩ : u1 = _ ∧ _ := z1
              refine ((cmp3_any (w := w) a a ha ha).mono (R' := fun e w' => e = .returned (.tuple #[.int .i64 (cmpF a a).1, .bool (cmpF a a).2]) ∧ Fwd w w') (fun e w' gg => ⟨gg.1, gg.2 ▸ Fwd.refl _⟩)).mono ?_
              rintro e w' ⟨rfl, hf⟩
              exact ⟨_, rfl, ⟨[_, _], rfl, ⟨rfl, fun _ => trivial⟩, ⟨rfl, fun _ => trivial⟩, trivial⟩, hf⟩ }]], rfl⟩
    (opH_le (bigHook_le _ _) (opH_le (symHook_le _ _ _) (tabHook_le _ _)))
    (opH_ok (bigHook_ok _) (opH_ok (symHook_ok _ (fun h => by cases h) (fun h => by cases h)) (tabHook_ok _ (all_cons (BOk.mk rfl rfl rfl (fun _ _ _ => trivial) rfl rfl (bo_quo12 n n1 n2)) (all_cons (BOk.mk rfl rfl rfl (fun _ _ _ => trivial) rfl rfl (bo_eql hz)) (all_cons (BOk.mk rfl rfl rfl (fun _ _ _ => trivial) rfl rfl (bo_gtr hsw)) (all_cons (BOk.mk rfl rfl rfl (fun _ _ _ => trivial) rfl rfl (bo_gtr haa)) all_nil)))) all_nil)))
  refine (told_call (M := (DomQ true ν σ (fun _ => none))) (cx := ⟨Tryz.prog, true, t.get, orcD (mk4D z sw), (opH (bigHook Tryz.prog true) (opH (symHook Tryz.prog mk4N (fun _ _ _ => none)) (tabHook (mk4L z sw) mk4M)))⟩) (xs := [.agg [.atom (.sym 0), .atom (.sym 1)], .one (.atom (.sym 2))]) (vs := [.agg #[.int .u64 f, .int .u64 g], .int .i64 n]) Tryz.checked.mixed hcx (fun hg => by cases hg) ⟨⟨[_, _], rfl, ⟨rfl, fun _ => trivial⟩, ⟨rfl, fun _ => trivial⟩, trivial⟩, ⟨rfl, fun _ => trivial⟩, trivial⟩ he).mono ?_
  rintro e w' ⟨v, ρ', rfl, hv, hbel⟩
  cases z <;> cases sw
  all_goals
    obtain ⟨us, rfl, hu⟩ := hv
    match us, hu with
    | [c0, c1], ⟨r0, r1, _⟩ =>
      obtain ⟨rfl, _⟩ : c0 = _ ∧ _ := r0
      obtain ⟨rfl, _⟩ : c1 = _ ∧ _ := r1
      exact ⟨rfl, hbel⟩

/-- An enclosure that is made: finite ends, in order. -/
theorem make4_fix (f g : Nat) (n : Int) (hf : f < 18446744073709551616) (hg : g < 18446744073709551616) (n1 : -9223372036854775808 ≤ n) (n2 : n ≤ 9223372036854775807) :
    ∃ x y : Nat, x < 18446744073709551616 ∧ y < 18446744073709551616 ∧ fsz x < 9218868437227405312 ∧ fsz y < 9218868437227405312 ∧ (cmpF x y).1 ≤ 0 ∧
      ∀ w : World, Calls Tryz.prog 9 #[.agg #[.int .u64 f, .int .u64 g], .int .i64 n] w fun e w' => e = .returned (.agg #[.int .u64 x, .int .u64 y]) ∧ Fwd w w' := by
  have h : -9223372036854775808 ≤ n.tdiv 12 ∧ n.tdiv 12 ≤ 9223372036854775807 := by
    by_cases c : 0 ≤ n
    · rw [Int.tdiv_eq_ediv_of_nonneg c]; omega
    · have e : n.tdiv 12 = -((-n) / 12) := by rw [← Int.neg_neg n, Int.neg_tdiv, Int.tdiv_eq_ediv_of_nonneg (by omega), Int.neg_neg]
      omega
  obtain ⟨a, ha, a1, ca⟩ := end4_fix f n hf n1 n2
  obtain ⟨b, hb, b1, cb⟩ := end4_fix g (n.tdiv 12) hg h.1 h.2
  have key := fun w => mk4_tab (w := w) f g a b n hf hg n1 n2 ha hb a1 b1 ca cb rfl rfl
  by_cases z : n % 7 = 0
  · rw [decide_eq_true z] at key
    exact ⟨a, a, ha, ha, a1, a1, by rw [cmpF_self (by omega)]; exact Int.le_refl _, key⟩
  · rw [decide_eq_false z] at key
    by_cases s : 0 < (cmpF a b).1
    · rw [decide_eq_true s] at key
      refine ⟨b, a, hb, ha, b1, a1, ?_, key⟩
      revert s
      unfold cmpF cmpI
      rw [isNan_le4 (by omega), isNan_le4 (by omega)]
      simp only [Bool.or_self, Bool.false_eq_true, if_false]
      intro s
      repeat' split
      all_goals (repeat' split at s)
      all_goals omega
    · rw [decide_eq_false s] at key
      exact ⟨a, b, ha, hb, a1, b1, by omega, key⟩
end Go.Proofs.YtcfhajnboamnnabGreatDoor
