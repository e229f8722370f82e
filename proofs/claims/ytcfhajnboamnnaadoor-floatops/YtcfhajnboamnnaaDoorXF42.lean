/- The second telling of floats: Sqrt, by the reader upon letters. -/
import Derived.Test.YtcfhajnboamnnaaDoorXF40
import Derived.Test.YtcfhajnboamnnaaDoorYXF41
import Derived.Test.YtcfhajnboamnnaaDoorXF36
namespace Go.Proofs.YtcfhajnboamnnaaDoor
open Go.RowKit Go.Ev
set_option linter.unusedVariables false
set_option linter.unusedSimpArgs false

theorem bo_mulI (k : Int) (k1 : -4611686018427387904 ≤ k) (k2 : k ≤ 4611686018427387903) (t : TypeId) : binOp .mul t (.int .i64 2) (.int .i64 k) = pure (.int .i64 (2 * k)) :=
  bo_mul (wr64 (by omega) (by omega)) t

def sq3ND : List (FuncId × Ans) :=
  [(52, ansT [([.one (.atom (.sym 0))], .v (.one (.lit (.bool true))))])]
def sq3NL : BT := []
def sq3NM : BT := []
def sq3NN : At → Option Nat
  | _ => none

set_option maxRecDepth 1000000 in
theorem sq3NTold : ∃ t : Tr Func, TabOK Tryd.prog t ∧ (isAV (.tup [.one (.lit (.int .u64 9221120237041090560)), .one (.lit (.int .i64 (0)))]) (evalCall ⟨Tryd.prog, true, t.get, orcD (sq3ND ), (opH (bigHook Tryd.prog true) (opH (symHook Tryd.prog sq3NN (fun _ _ _ => none)) (tabHook (sq3NL ) sq3NM)))⟩ 1000 35 [.one (.atom (.sym 0)), .one (.atom (.sym 1))] .e 0) = true) :=
  ⟨((Tr.e).put 35 (some Tryd.f35)).put 52 (some Tryd.f52),
   (TabOK.put (TabOK.put (TabOK.e _) ⟨Tryd.func35, by decide +kernel, by decide +kernel⟩) ⟨Tryd.func52, by decide +kernel, by decide +kernel⟩),
   by decide +kernel⟩

set_option maxHeartbeats 4000000 in
set_option maxRecDepth 100000 in
theorem sq3N_tab {w : World} (m : Int) (f : Nat) (hf : f < 18446744073709551616) (K : isNan f = true) :
    Calls Tryd.prog 35 #[.int .u64 f, .int .i64 m] w fun e w' => e = .returned (.tuple #[.int .u64 ((sqrtF m f).1 : Nat), .int .i64 ((sqrtF m f).2 : Nat)]) ∧ Below w.heap.size w w' := by
  have cn : ∀ (w : World), Calls Tryd.prog 52 #[.int .u64 f] w fun e w' => e = .returned (.bool true) ∧ Fwd w w' := fun w => (none3_any f hf).mono fun e w' gg => ⟨by rw [gg.1, show isNan f = true from K], gg.2 ▸ Fwd.refl _⟩
  have hval : sqrtF m f = (9221120237041090560, 0) := by unfold sqrtF; rw [K]; exact if_pos rfl
  rw [hval]
  obtain ⟨t, ht, hr⟩ := sq3NTold
  obtain ⟨dl, n', he⟩ := isAV_ok (hr)
  let ν : Nat → Rat := nuL [] []
  let σ : SymD := symL [.u f, .i m]
  have hcx : CxOK (DomQ true ν σ (fun _ => none)) w.heap.size ⟨Tryd.prog, true, t.get, orcD (sq3ND ), (opH (bigHook Tryd.prog true) (opH (symHook Tryd.prog sq3NN (fun _ _ _ => none)) (tabHook (sq3NL ) sq3NM)))⟩ := cxS_ok (M := (DomQ true ν σ (fun _ => none))) ht ⟨[
      orcT 52 [
        { args := [.one (.atom (.sym 0))], ans := .v (.one (.lit (.bool true))), ok := by
            intro B ρ w S vs hS hr
            match vs, hr with
            | [u0], ⟨z0, _⟩ =>
              obtain ⟨rfl, _⟩ : u0 = _ ∧ _ := z0
              refine (cn _).mono ?_
              rintro e w' ⟨rfl, hf⟩
              exact ⟨_, rfl, ⟨rfl, rfl⟩, hf⟩ }]], rfl⟩
    (opH_le (bigHook_le _ _) (opH_le (symHook_le _ _ _) (tabHook_le _ _)))
    (opH_ok (bigHook_ok _) (opH_ok (symHook_ok _ (fun h => by cases h) (fun h => by cases h)) (tabHook_ok _ all_nil all_nil)))
  refine (told_call (M := (DomQ true ν σ (fun _ => none))) (cx := ⟨Tryd.prog, true, t.get, orcD (sq3ND ), (opH (bigHook Tryd.prog true) (opH (symHook Tryd.prog sq3NN (fun _ _ _ => none)) (tabHook (sq3NL ) sq3NM)))⟩) (xs := [.one (.atom (.sym 0)), .one (.atom (.sym 1))]) (vs := [.int .u64 f, .int .i64 m]) Tryd.checked.mixed hcx (fun hg => by cases hg) ⟨⟨rfl, fun _ => trivial⟩, ⟨rfl, fun _ => trivial⟩, trivial⟩ he).mono ?_
  rintro e w' ⟨v, ρ', rfl, hv, hbel⟩
  obtain ⟨us, rfl, hu⟩ := hv
  match us, hu with
  | [c0, c1], ⟨r0, r1, _⟩ =>
    obtain ⟨rfl, _⟩ : c0 = _ ∧ _ := r0
    obtain ⟨rfl, _⟩ : c1 = _ ∧ _ := r1
    exact ⟨rfl, hbel⟩

def sq3ZD : List (FuncId × Ans) :=
  [(52, ansT [([.one (.atom (.sym 0))], .v (.one (.lit (.bool false))))]),
   (57, ansT [([.one (.atom (.sym 0))], .v (.one (.lit (.bool true))))])]
def sq3ZL : BT := []
def sq3ZM : BT := []
def sq3ZN : At → Option Nat
  | _ => none

set_option maxRecDepth 1000000 in
theorem sq3ZTold : ∃ t : Tr Func, TabOK Tryd.prog t ∧ (isAV (.tup [.one (.atom (.sym 0)), .one (.lit (.int .i64 (0)))]) (evalCall ⟨Tryd.prog, true, t.get, orcD (sq3ZD ), (opH (bigHook Tryd.prog true) (opH (symHook Tryd.prog sq3ZN (fun _ _ _ => none)) (tabHook (sq3ZL ) sq3ZM)))⟩ 1000 35 [.one (.atom (.sym 0)), .one (.atom (.sym 1))] .e 0) = true) :=
  ⟨(((Tr.e).put 35 (some Tryd.f35)).put 52 (some Tryd.f52)).put 57 (some Tryd.f57),
   (TabOK.put (TabOK.put (TabOK.put (TabOK.e _) ⟨Tryd.func35, by decide +kernel, by decide +kernel⟩) ⟨Tryd.func52, by decide +kernel, by decide +kernel⟩) ⟨Tryd.func57, by decide +kernel, by decide +kernel⟩),
   by decide +kernel⟩

set_option maxHeartbeats 4000000 in
set_option maxRecDepth 100000 in
theorem sq3Z_tab {w : World} (m : Int) (f : Nat) (hf : f < 18446744073709551616) (K : fsz f = 0) :
    Calls Tryd.prog 35 #[.int .u64 f, .int .i64 m] w fun e w' => e = .returned (.tuple #[.int .u64 ((sqrtF m f).1 : Nat), .int .i64 ((sqrtF m f).2 : Nat)]) ∧ Below w.heap.size w w' := by
  have cn : ∀ (w : World), Calls Tryd.prog 52 #[.int .u64 f] w fun e w' => e = .returned (.bool false) ∧ Fwd w w' := fun w => (none3_any f hf).mono fun e w' gg => ⟨by rw [gg.1, show isNan f = false from isNan_le (by omega)], gg.2 ▸ Fwd.refl _⟩
  have cz : ∀ (w : World), Calls Tryd.prog 57 #[.int .u64 f] w fun e w' => e = .returned (.bool true) ∧ Fwd w w' := fun w => (nought3_any f hf).mono fun e w' gg => ⟨by rw [gg.1, show decide (fsz f = 0) = true from decide_eq_true (by omega)], gg.2 ▸ Fwd.refl _⟩
  have hval : sqrtF m f = (f, 0) := by unfold sqrtF; rw [isNan_le (by omega), if_neg (by simp), if_pos K]
  rw [hval]
  obtain ⟨t, ht, hr⟩ := sq3ZTold
  obtain ⟨dl, n', he⟩ := isAV_ok (hr)
  let ν : Nat → Rat := nuL [] []
  let σ : SymD := symL [.u f, .i m]
  have hcx : CxOK (DomQ true ν σ (fun _ => none)) w.heap.size ⟨Tryd.prog, true, t.get, orcD (sq3ZD ), (opH (bigHook Tryd.prog true) (opH (symHook Tryd.prog sq3ZN (fun _ _ _ => none)) (tabHook (sq3ZL ) sq3ZM)))⟩ := cxS_ok (M := (DomQ true ν σ (fun _ => none))) ht ⟨[
      orcT 52 [
        { args := [.one (.atom (.sym 0))], ans := .v (.one (.lit (.bool false))), ok := by
            intro B ρ w S vs hS hr
            match vs, hr with
            | [u0], ⟨z0, _⟩ =>
              obtain ⟨rfl, _⟩ : u0 = _ ∧ _ := z0
              refine (cn _).mono ?_
              rintro e w' ⟨rfl, hf⟩
              exact ⟨_, rfl, ⟨rfl, rfl⟩, hf⟩ }],
      orcT 57 [
        { args := [.one (.atom (.sym 0))], ans := .v (.one (.lit (.bool true))), ok := by
            intro B ρ w S vs hS hr
            match vs, hr with
            | [u0], ⟨z0, _⟩ =>
              obtain ⟨rfl, _⟩ : u0 = _ ∧ _ := z0
              refine (cz _).mono ?_
              rintro e w' ⟨rfl, hf⟩
              exact ⟨_, rfl, ⟨rfl, rfl⟩, hf⟩ }]], rfl⟩
    (opH_le (bigHook_le _ _) (opH_le (symHook_le _ _ _) (tabHook_le _ _)))
    (opH_ok (bigHook_ok _) (opH_ok (symHook_ok _ (fun h => by cases h) (fun h => by cases h)) (tabHook_ok _ all_nil all_nil)))
  refine (told_call (M := (DomQ true ν σ (fun _ => none))) (cx := ⟨Tryd.prog, true, t.get, orcD (sq3ZD ), (opH (bigHook Tryd.prog true) (opH (symHook Tryd.prog sq3ZN (fun _ _ _ => none)) (tabHook (sq3ZL ) sq3ZM)))⟩) (xs := [.one (.atom (.sym 0)), .one (.atom (.sym 1))]) (vs := [.int .u64 f, .int .i64 m]) Tryd.checked.mixed hcx (fun hg => by cases hg) ⟨⟨rfl, fun _ => trivial⟩, ⟨rfl, fun _ => trivial⟩, trivial⟩ he).mono ?_
  rintro e w' ⟨v, ρ', rfl, hv, hbel⟩
  obtain ⟨us, rfl, hu⟩ := hv
  match us, hu with
  | [c0, c1], ⟨r0, r1, _⟩ =>
    obtain ⟨rfl, _⟩ : c0 = _ ∧ _ := r0
    obtain ⟨rfl, _⟩ : c1 = _ ∧ _ := r1
    exact ⟨rfl, hbel⟩

def sq3MD : List (FuncId × Ans) :=
  [(52, ansT [([.one (.atom (.sym 0))], .v (.one (.lit (.bool false))))]),
   (57, ansT [([.one (.atom (.sym 0))], .v (.one (.lit (.bool false))))]),
   (56, ansT [([.one (.atom (.sym 0))], .v (.one (.lit (.bool true))))])]
def sq3ML : BT := []
def sq3MM : BT := []
def sq3MN : At → Option Nat
  | _ => none

set_option maxRecDepth 1000000 in
theorem sq3MTold : ∃ t : Tr Func, TabOK Tryd.prog t ∧ (isAV (.tup [.one (.lit (.int .u64 9221120237041090560)), .one (.lit (.int .i64 (16)))]) (evalCall ⟨Tryd.prog, true, t.get, orcD (sq3MD ), (opH (bigHook Tryd.prog true) (opH (symHook Tryd.prog sq3MN (fun _ _ _ => none)) (tabHook (sq3ML ) sq3MM)))⟩ 1000 35 [.one (.atom (.sym 0)), .one (.atom (.sym 1))] .e 0) = true) :=
  ⟨((((Tr.e).put 35 (some Tryd.f35)).put 52 (some Tryd.f52)).put 57 (some Tryd.f57)).put 56 (some Tryd.f56),
   (TabOK.put (TabOK.put (TabOK.put (TabOK.put (TabOK.e _) ⟨Tryd.func35, by decide +kernel, by decide +kernel⟩) ⟨Tryd.func52, by decide +kernel, by decide +kernel⟩) ⟨Tryd.func57, by decide +kernel, by decide +kernel⟩) ⟨Tryd.func56, by decide +kernel, by decide +kernel⟩),
   by decide +kernel⟩

set_option maxHeartbeats 4000000 in
set_option maxRecDepth 100000 in
theorem sq3M_tab {w : World} (m : Int) (f : Nat) (hf : f < 18446744073709551616) (K : fsz f ≠ 0) (L : fsz f ≤ 9218868437227405312) (hs : fneg f = true) :
    Calls Tryd.prog 35 #[.int .u64 f, .int .i64 m] w fun e w' => e = .returned (.tuple #[.int .u64 ((sqrtF m f).1 : Nat), .int .i64 ((sqrtF m f).2 : Nat)]) ∧ Below w.heap.size w w' := by
  have cn : ∀ (w : World), Calls Tryd.prog 52 #[.int .u64 f] w fun e w' => e = .returned (.bool false) ∧ Fwd w w' := fun w => (none3_any f hf).mono fun e w' gg => ⟨by rw [gg.1, show isNan f = false from isNan_le (by omega)], gg.2 ▸ Fwd.refl _⟩
  have cz : ∀ (w : World), Calls Tryd.prog 57 #[.int .u64 f] w fun e w' => e = .returned (.bool false) ∧ Fwd w w' := fun w => (nought3_any f hf).mono fun e w' gg => ⟨by rw [gg.1, show decide (fsz f = 0) = false from decide_eq_false (by omega)], gg.2 ▸ Fwd.refl _⟩
  have cm : ∀ (w : World), Calls Tryd.prog 56 #[.int .u64 f] w fun e w' => e = .returned (.bool true) ∧ Fwd w w' := fun w => (minus3_any f hf).mono fun e w' gg => ⟨by rw [gg.1, hs], gg.2 ▸ Fwd.refl _⟩
  have hval : sqrtF m f = (9221120237041090560, 16) := by unfold sqrtF; rw [isNan_le (by omega), if_neg (by simp), if_neg K, hs, if_pos rfl]
  rw [hval]
  obtain ⟨t, ht, hr⟩ := sq3MTold
  obtain ⟨dl, n', he⟩ := isAV_ok (hr)
  let ν : Nat → Rat := nuL [] []
  let σ : SymD := symL [.u f, .i m]
  have hcx : CxOK (DomQ true ν σ (fun _ => none)) w.heap.size ⟨Tryd.prog, true, t.get, orcD (sq3MD ), (opH (bigHook Tryd.prog true) (opH (symHook Tryd.prog sq3MN (fun _ _ _ => none)) (tabHook (sq3ML ) sq3MM)))⟩ := cxS_ok (M := (DomQ true ν σ (fun _ => none))) ht ⟨[
      orcT 52 [
        { args := [.one (.atom (.sym 0))], ans := .v (.one (.lit (.bool false))), ok := by
            intro B ρ w S vs hS hr
            match vs, hr with
            | [u0], ⟨z0, _⟩ =>
              obtain ⟨rfl, _⟩ : u0 = _ ∧ _ := z0
              refine (cn _).mono ?_
              rintro e w' ⟨rfl, hf⟩
              exact ⟨_, rfl, ⟨rfl, rfl⟩, hf⟩ }],
      orcT 57 [
        { args := [.one (.atom (.sym 0))], ans := .v (.one (.lit (.bool false))), ok := by
            intro B ρ w S vs hS hr
            match vs, hr with
            | [u0], ⟨z0, _⟩ =>
              obtain ⟨rfl, _⟩ : u0 = _ ∧ _ := z0
              refine (cz _).mono ?_
              rintro e w' ⟨rfl, hf⟩
              exact ⟨_, rfl, ⟨rfl, rfl⟩, hf⟩ }],
      orcT 56 [
        { args := [.one (.atom (.sym 0))], ans := .v (.one (.lit (.bool true))), ok := by
            intro B ρ w S vs hS hr
            match vs, hr with
            | [u0], ⟨z0, _⟩ =>
              obtain ⟨rfl, _⟩ : u0 = _ ∧ _ := z0
              refine (cm _).mono ?_
              rintro e w' ⟨rfl, hf⟩
              exact ⟨_, rfl, ⟨rfl, rfl⟩, hf⟩ }]], rfl⟩
    (opH_le (bigHook_le _ _) (opH_le (symHook_le _ _ _) (tabHook_le _ _)))
    (opH_ok (bigHook_ok _) (opH_ok (symHook_ok _ (fun h => by cases h) (fun h => by cases h)) (tabHook_ok _ all_nil all_nil)))
  refine (told_call (M := (DomQ true ν σ (fun _ => none))) (cx := ⟨Tryd.prog, true, t.get, orcD (sq3MD ), (opH (bigHook Tryd.prog true) (opH (symHook Tryd.prog sq3MN (fun _ _ _ => none)) (tabHook (sq3ML ) sq3MM)))⟩) (xs := [.one (.atom (.sym 0)), .one (.atom (.sym 1))]) (vs := [.int .u64 f, .int .i64 m]) Tryd.checked.mixed hcx (fun hg => by cases hg) ⟨⟨rfl, fun _ => trivial⟩, ⟨rfl, fun _ => trivial⟩, trivial⟩ he).mono ?_
  rintro e w' ⟨v, ρ', rfl, hv, hbel⟩
  obtain ⟨us, rfl, hu⟩ := hv
  match us, hu with
  | [c0, c1], ⟨r0, r1, _⟩ =>
    obtain ⟨rfl, _⟩ : c0 = _ ∧ _ := r0
    obtain ⟨rfl, _⟩ : c1 = _ ∧ _ := r1
    exact ⟨rfl, hbel⟩

def sq3ID : List (FuncId × Ans) :=
  [(52, ansT [([.one (.atom (.sym 0))], .v (.one (.lit (.bool false))))]),
   (57, ansT [([.one (.atom (.sym 0))], .v (.one (.lit (.bool false))))]),
   (56, ansT [([.one (.atom (.sym 0))], .v (.one (.lit (.bool false))))]),
   (53, ansT [([.one (.atom (.sym 0))], .v (.one (.lit (.bool true))))])]
def sq3IL : BT := []
def sq3IM : BT := []
def sq3IN : At → Option Nat
  | _ => none

set_option maxRecDepth 1000000 in
theorem sq3ITold : ∃ t : Tr Func, TabOK Tryd.prog t ∧ (isAV (.tup [.one (.atom (.sym 0)), .one (.lit (.int .i64 (0)))]) (evalCall ⟨Tryd.prog, true, t.get, orcD (sq3ID ), (opH (bigHook Tryd.prog true) (opH (symHook Tryd.prog sq3IN (fun _ _ _ => none)) (tabHook (sq3IL ) sq3IM)))⟩ 1000 35 [.one (.atom (.sym 0)), .one (.atom (.sym 1))] .e 0) = true) :=
  ⟨(((((Tr.e).put 35 (some Tryd.f35)).put 52 (some Tryd.f52)).put 57 (some Tryd.f57)).put 56 (some Tryd.f56)).put 53 (some Tryd.f53),
   (TabOK.put (TabOK.put (TabOK.put (TabOK.put (TabOK.put (TabOK.e _) ⟨Tryd.func35, by decide +kernel, by decide +kernel⟩) ⟨Tryd.func52, by decide +kernel, by decide +kernel⟩) ⟨Tryd.func57, by decide +kernel, by decide +kernel⟩) ⟨Tryd.func56, by decide +kernel, by decide +kernel⟩) ⟨Tryd.func53, by decide +kernel, by decide +kernel⟩),
   by decide +kernel⟩

set_option maxHeartbeats 4000000 in
set_option maxRecDepth 100000 in
theorem sq3I_tab {w : World} (m : Int) (f : Nat) (hf : f < 18446744073709551616) (K : fsz f = 9218868437227405312) (hs : fneg f = false) :
    Calls Tryd.prog 35 #[.int .u64 f, .int .i64 m] w fun e w' => e = .returned (.tuple #[.int .u64 ((sqrtF m f).1 : Nat), .int .i64 ((sqrtF m f).2 : Nat)]) ∧ Below w.heap.size w w' := by
  have cn : ∀ (w : World), Calls Tryd.prog 52 #[.int .u64 f] w fun e w' => e = .returned (.bool false) ∧ Fwd w w' := fun w => (none3_any f hf).mono fun e w' gg => ⟨by rw [gg.1, show isNan f = false from isNan_le (by omega)], gg.2 ▸ Fwd.refl _⟩
  have cz : ∀ (w : World), Calls Tryd.prog 57 #[.int .u64 f] w fun e w' => e = .returned (.bool false) ∧ Fwd w w' := fun w => (nought3_any f hf).mono fun e w' gg => ⟨by rw [gg.1, show decide (fsz f = 0) = false from decide_eq_false (by omega)], gg.2 ▸ Fwd.refl _⟩
  have cm : ∀ (w : World), Calls Tryd.prog 56 #[.int .u64 f] w fun e w' => e = .returned (.bool false) ∧ Fwd w w' := fun w => (minus3_any f hf).mono fun e w' gg => ⟨by rw [gg.1, hs], gg.2 ▸ Fwd.refl _⟩
  have ci : ∀ (w : World), Calls Tryd.prog 53 #[.int .u64 f] w fun e w' => e = .returned (.bool true) ∧ Fwd w w' := fun w => (endless3_any f hf).mono fun e w' gg => ⟨by rw [gg.1, show decide (fsz f = 9218868437227405312) = true from decide_eq_true (by omega)], gg.2 ▸ Fwd.refl _⟩
  have hval : sqrtF m f = (f, 0) := by unfold sqrtF; rw [isNan_le (by omega), if_neg (by simp), if_neg (by omega), hs, if_neg (by simp), if_pos K]
  rw [hval]
  obtain ⟨t, ht, hr⟩ := sq3ITold
  obtain ⟨dl, n', he⟩ := isAV_ok (hr)
  let ν : Nat → Rat := nuL [] []
  let σ : SymD := symL [.u f, .i m]
  have hcx : CxOK (DomQ true ν σ (fun _ => none)) w.heap.size ⟨Tryd.prog, true, t.get, orcD (sq3ID ), (opH (bigHook Tryd.prog true) (opH (symHook Tryd.prog sq3IN (fun _ _ _ => none)) (tabHook (sq3IL ) sq3IM)))⟩ := cxS_ok (M := (DomQ true ν σ (fun _ => none))) ht ⟨[
      orcT 52 [
        { args := [.one (.atom (.sym 0))], ans := .v (.one (.lit (.bool false))), ok := by
            intro B ρ w S vs hS hr
            match vs, hr with
            | [u0], ⟨z0, _⟩ =>
              obtain ⟨rfl, _⟩ : u0 = _ ∧ _ := z0
              refine (cn _).mono ?_
              rintro e w' ⟨rfl, hf⟩
              exact ⟨_, rfl, ⟨rfl, rfl⟩, hf⟩ }],
      orcT 57 [
        { args := [.one (.atom (.sym 0))], ans := .v (.one (.lit (.bool false))), ok := by
            intro B ρ w S vs hS hr
            match vs, hr with
            | [u0], ⟨z0, _⟩ =>
              obtain ⟨rfl, _⟩ : u0 = _ ∧ _ := z0
              refine (cz _).mono ?_
              rintro e w' ⟨rfl, hf⟩
              exact ⟨_, rfl, ⟨rfl, rfl⟩, hf⟩ }],
      orcT 56 [
        { args := [.one (.atom (.sym 0))], ans := .v (.one (.lit (.bool false))), ok := by
            intro B ρ w S vs hS hr
            match vs, hr with
            | [u0], ⟨z0, _⟩ =>
              obtain ⟨rfl, _⟩ : u0 = _ ∧ _ := z0
              refine (cm _).mono ?_
              rintro e w' ⟨rfl, hf⟩
              exact ⟨_, rfl, ⟨rfl, rfl⟩, hf⟩ }],
      orcT 53 [
        { args := [.one (.atom (.sym 0))], ans := .v (.one (.lit (.bool true))), ok := by
            intro B ρ w S vs hS hr
            match vs, hr with
            | [u0], ⟨z0, _⟩ =>
              obtain ⟨rfl, _⟩ : u0 = _ ∧ _ := z0
              refine (ci _).mono ?_
              rintro e w' ⟨rfl, hf⟩
              exact ⟨_, rfl, ⟨rfl, rfl⟩, hf⟩ }]], rfl⟩
    (opH_le (bigHook_le _ _) (opH_le (symHook_le _ _ _) (tabHook_le _ _)))
    (opH_ok (bigHook_ok _) (opH_ok (symHook_ok _ (fun h => by cases h) (fun h => by cases h)) (tabHook_ok _ all_nil all_nil)))
  refine (told_call (M := (DomQ true ν σ (fun _ => none))) (cx := ⟨Tryd.prog, true, t.get, orcD (sq3ID ), (opH (bigHook Tryd.prog true) (opH (symHook Tryd.prog sq3IN (fun _ _ _ => none)) (tabHook (sq3IL ) sq3IM)))⟩) (xs := [.one (.atom (.sym 0)), .one (.atom (.sym 1))]) (vs := [.int .u64 f, .int .i64 m]) Tryd.checked.mixed hcx (fun hg => by cases hg) ⟨⟨rfl, fun _ => trivial⟩, ⟨rfl, fun _ => trivial⟩, trivial⟩ he).mono ?_
  rintro e w' ⟨v, ρ', rfl, hv, hbel⟩
  obtain ⟨us, rfl, hu⟩ := hv
  match us, hu with
  | [c0, c1], ⟨r0, r1, _⟩ =>
    obtain ⟨rfl, _⟩ : c0 = _ ∧ _ := r0
    obtain ⟨rfl, _⟩ : c1 = _ ∧ _ := r1
    exact ⟨rfl, hbel⟩

def sq3oD (ex : Bool) (upb : Bool) : List (FuncId × Ans) :=
  [(52, ansT [([.one (.atom (.sym 0))], .v (.one (.lit (.bool false))))]),
   (57, ansT [([.one (.atom (.sym 0))], .v (.one (.lit (.bool false))))]),
   (56, ansT [([.one (.atom (.sym 0))], .v (.one (.lit (.bool false))))]),
   (53, ansT [([.one (.atom (.sym 0))], .v (.one (.lit (.bool false))))]),
   (54, ansT [([.one (.atom (.sym 0))], .tup [.one (.atom (.sym 2)), .one (.atom (.sym 3))])]),
   (11, ansT [([.one (.atom (.sym 2))], .v (.one (.atom (.num (.v 10))))), ([.one (.lit (.int .u64 1))], .v (.one (.atom (.num (.v 15)))))]),
   (62, ansT [([.one (.atom (.num (.v 10)))], .v (.one (.atom (.sym 4))))]),
   (10, ansT [([.one (.atom (.num (.v 10))), .one (.atom (.sym 12))], .v (.one (.atom (.num (.v 11))))), ([.one (.atom (.num (.v 12))), .one (.lit (.int .i64 (1)))], .v (.one (.atom (.num (.v 14))))), ([.one (.atom (.num (.v 11))), .one (.lit (.int .i64 (2)))], .v (.one (.atom (.num (.v 17)))))]),
   (75, ansT [([.one (.atom (.num (.v 11)))], .v (.one (.atom (.num (.v 12)))))]),
   (63, ansT [([.one (.atom (.num (.v 12)))], .tup [.one (.atom (.sym 13)), .one (.lit (.bool true))])]),
   (47, ansT [([.one (.atom (.num (.v 12))), .one (.atom (.num (.v 12)))], .v (.one (.atom (.num (.v 13))))), ([.one (.atom (.num (.v 16))), .one (.atom (.num (.v 16)))], .v (.one (.atom (.num (.v 18)))))]),
   (40, ansT [([.one (.atom (.num (.v 13))), .one (.atom (.num (.v 11)))], .v (.one (.atom (.sym 14)))), ([.one (.atom (.num (.v 17))), .one (.atom (.num (.v 18)))], .v (.one (.atom (.sym 15))))]),
   (66, ansT [([.one (.atom (.num (.v 14))), .one (.atom (.num (.v 15)))], .v (.one (.atom (.num (.v 16)))))]),
   (64, ansT [([.one (.lit (.bool false)), .one (.atom (.sym 15)), .one (.atom (.sym 17)), .one (.atom (.sym 1))], .v (.one (.lit (.bool upb))))]),
   (65, ansT [([.one (.lit (.bool false)), .one (.atom (.sym 13)), .one (.atom (.sym 10)), .one (.atom (.sym 1)), .one (.lit (.int .i64 (0)))], .tup [.one (.atom (.sym 19)), .one (.atom (.sym 20))]), ([.one (.lit (.bool false)), .one (.atom (.sym 13)), .one (.atom (.sym 10)), .one (.atom (.sym 1)), .one (.lit (.int .i64 (1)))], .tup [.one (.atom (.sym 21)), .one (.atom (.sym 22))]), ([.one (.lit (.bool false)), .one (.atom (.sym 18)), .one (.atom (.sym 10)), .one (.atom (.sym 1)), .one (.lit (.int .i64 (1)))], .tup [.one (.atom (.sym 23)), .one (.atom (.sym 24))])])]
def sq3oL (ex : Bool) (upb : Bool) : BT := [(.sub, .atom (.sym 4), .lit (.int .i64 (1)), .atom (.sym 5)), (.add, .atom (.sym 5), .atom (.sym 3), .atom (.sym 6)), (.rem, .atom (.sym 6), .lit (.int .i64 (2)), .atom (.sym 7)), (.neq, .atom (.sym 7), .lit (.int .i64 (0)), .lit (.bool true)), (.sub, .atom (.sym 6), .lit (.int .i64 (1)), .atom (.sym 8)), (.quo, .atom (.sym 8), .lit (.int .i64 (2)), .atom (.sym 9)), (.sub, .atom (.sym 9), .lit (.int .i64 (52)), .atom (.sym 10)), (.mul, .lit (.int .i64 (2)), .atom (.sym 10), .atom (.sym 11)), (.sub, .atom (.sym 3), .atom (.sym 11), .atom (.sym 12)), (.neq, .atom (.sym 14), .lit (.int .i64 (0)), .lit (.bool (!ex))), (.rem, .atom (.sym 13), .lit (.int .u64 2), .atom (.sym 16)), (.eql, .atom (.sym 16), .lit (.int .u64 1), .atom (.sym 17)), (.add, .atom (.sym 13), .lit (.int .u64 1), .atom (.sym 18))]
def sq3oM : BT := []
def sq3oN : At → Option Nat
  | _ => none

set_option maxRecDepth 1000000 in
theorem sq3oTold : ∃ t : Tr Func, TabOK Tryd.prog t ∧ (∀ (ex : Bool) (upb : Bool), isAV (.tup [.one (.atom (.sym (bif ex then 19 else bif upb then 23 else 21))), .one (.atom (.sym (bif ex then 20 else bif upb then 24 else 22)))]) (evalCall ⟨Tryd.prog, true, t.get, orcD (sq3oD ex upb), (opH (bigHook Tryd.prog true) (opH (symHook Tryd.prog sq3oN (fun _ _ _ => none)) (tabHook (sq3oL ex upb) sq3oM)))⟩ 1000 35 [.one (.atom (.sym 0)), .one (.atom (.sym 1))] .e 0) = true) :=
  ⟨((((((((((((((((Tr.e).put 35 (some Tryd.f35)).put 52 (some Tryd.f52)).put 57 (some Tryd.f57)).put 56 (some Tryd.f56)).put 53 (some Tryd.f53)).put 54 (some Tryd.f54)).put 11 (some Tryd.f11)).put 62 (some Tryd.f62)).put 10 (some Tryd.f10)).put 75 (some Tryd.f75)).put 63 (some Tryd.f63)).put 47 (some Tryd.f47)).put 40 (some Tryd.f40)).put 66 (some Tryd.f66)).put 64 (some Tryd.f64)).put 65 (some Tryd.f65),
   (TabOK.put (TabOK.put (TabOK.put (TabOK.put (TabOK.put (TabOK.put (TabOK.put (TabOK.put (TabOK.put (TabOK.put (TabOK.put (TabOK.put (TabOK.put (TabOK.put (TabOK.put (TabOK.put (TabOK.e _) ⟨Tryd.func35, by decide +kernel, by decide +kernel⟩) ⟨Tryd.func52, by decide +kernel, by decide +kernel⟩) ⟨Tryd.func57, by decide +kernel, by decide +kernel⟩) ⟨Tryd.func56, by decide +kernel, by decide +kernel⟩) ⟨Tryd.func53, by decide +kernel, by decide +kernel⟩) ⟨Tryd.func54, by decide +kernel, by decide +kernel⟩) ⟨Tryd.func11, by decide +kernel, by decide +kernel⟩) ⟨Tryd.func62, by decide +kernel, by decide +kernel⟩) ⟨Tryd.func10, by decide +kernel, by decide +kernel⟩) ⟨Tryd.func75, by decide +kernel, by decide +kernel⟩) ⟨Tryd.func63, by decide +kernel, by decide +kernel⟩) ⟨Tryd.func47, by decide +kernel, by decide +kernel⟩) ⟨Tryd.func40, by decide +kernel, by decide +kernel⟩) ⟨Tryd.func66, by decide +kernel, by decide +kernel⟩) ⟨Tryd.func64, by decide +kernel, by decide +kernel⟩) ⟨Tryd.func65, by decide +kernel, by decide +kernel⟩),
   by decide +kernel⟩

set_option maxHeartbeats 4000000 in
set_option maxRecDepth 100000 in
theorem sq3o_tab {w : World} (m : Int) (f : Nat) (hf : f < 18446744073709551616) (K : fsz f ≠ 0) (L : fsz f < 9218868437227405312) (hs : fneg f = false) {ex upb : Bool} (hpar : ((blen (vsz f) : Int) - 1 + vex f) % 2 = 1)
    (hex : decide (sqN (rN (vsz f) (vex f)) * sqN (rN (vsz f) (vex f)) = rN (vsz f) (vex f)) = ex)
    (hup : upR m false (cmpW ((rN (vsz f) (vex f) * 4 : Nat) : Int) (((2 * sqN (rN (vsz f) (vex f)) + 1) * (2 * sqN (rN (vsz f) (vex f)) + 1) : Nat) : Int)) (decide (sqN (rN (vsz f) (vex f)) % 2 = 1)) = upb) :
    Calls Tryd.prog 35 #[.int .u64 f, .int .i64 m] w fun e w' => e = .returned (.tuple #[.int .u64 ((sqrtF m f).1 : Nat), .int .i64 ((sqrtF m f).2 : Nat)]) ∧ Below w.heap.size w w' := by
  have cn : ∀ (w : World), Calls Tryd.prog 52 #[.int .u64 f] w fun e w' => e = .returned (.bool false) ∧ Fwd w w' := fun w => (none3_any f hf).mono fun e w' gg => ⟨by rw [gg.1, show isNan f = false from isNan_le (by omega)], gg.2 ▸ Fwd.refl _⟩
  have cz : ∀ (w : World), Calls Tryd.prog 57 #[.int .u64 f] w fun e w' => e = .returned (.bool false) ∧ Fwd w w' := fun w => (nought3_any f hf).mono fun e w' gg => ⟨by rw [gg.1, show decide (fsz f = 0) = false from decide_eq_false (by omega)], gg.2 ▸ Fwd.refl _⟩
  have cm : ∀ (w : World), Calls Tryd.prog 56 #[.int .u64 f] w fun e w' => e = .returned (.bool false) ∧ Fwd w w' := fun w => (minus3_any f hf).mono fun e w' gg => ⟨by rw [gg.1, hs], gg.2 ▸ Fwd.refl _⟩
  have ci : ∀ (w : World), Calls Tryd.prog 53 #[.int .u64 f] w fun e w' => e = .returned (.bool false) ∧ Fwd w w' := fun w => (endless3_any f hf).mono fun e w' gg => ⟨by rw [gg.1, show decide (fsz f = 9218868437227405312) = false from decide_eq_false (by omega)], gg.2 ▸ Fwd.refl _⟩
  have hn0 : vsz f ≠ 0 := vsz_ne K
  have hb := vsz_lt f
  have x1 := vex_ge f
  have x2 := vex_le L
  obtain ⟨hsq, hq1, hq2⟩ := sqrt_eq m hn0 hb x1
  have hval : sqrtF m f = packR m false (sqN (rN (vsz f) (vex f)) + (if ex = true then 0 else if upb = true then 1 else 0)) (rU (vsz f) (vex f)) (if ex = true then 0 else 1) := by
    unfold sqrtF
    rw [isNan_le (by omega), if_neg (by simp), if_neg K, hs, if_neg (by simp), if_neg (by omega), hsq]
    unfold sqUp sqFl
    rw [hup]
    subst hex
    simp only [decide_eq_true_eq]
  rw [hval]
  clear hval hsq
  have hp := blen_pos hn0
  have hbl : blen (vsz f) ≤ 53 := blen_of_lt hb
  have hU : rU (vsz f) (vex f) = ((blen (vsz f) : Int) - 1 + vex f) / 2 - 52 := rfl
  have hN : rN (vsz f) (vex f) = vsz f * 2 ^ (vex f - 2 * rU (vsz f) (vex f)).toNat := rfl
  obtain ⟨n, hn⟩ : ∃ n, n = vsz f := ⟨_, rfl⟩
  obtain ⟨x, hx⟩ : ∃ x, x = vex f := ⟨_, rfl⟩
  rw [← hn] at hn0 hb hp hbl
  rw [← hx] at x1 x2
  rw [← hn, ← hx] at hq1 hq2 hU hN hex hup hpar ⊢
  obtain ⟨U, hU'⟩ : ∃ U, U = rU n x := ⟨_, rfl⟩
  rw [← hU'] at hU hN ⊢
  obtain ⟨N, hN'⟩ : ∃ N, N = rN n x := ⟨_, rfl⟩
  rw [← hN'] at hN hq1 hq2 hex hup ⊢
  obtain ⟨k, hk⟩ : ∃ k : Nat, (k : Int) = x - 2 * U := ⟨(x - 2 * U).toNat, by omega⟩
  have hk2 : (x - 2 * U).toNat = k := by omega
  rw [hk2] at hN
  have kb : k ≤ 110 := by omega
  have bn : nl n ≤ 2 := nl_two' hb
  have bN : nl N ≤ 10 := by have := nl_shl n k; rw [← hN] at this; omega
  obtain ⟨q, hq⟩ : ∃ q, q = sqN N := ⟨_, rfl⟩
  rw [← hq] at hq1 hq2 hex hup ⊢
  have bq : nl q ≤ 2 := nl_two' hq1
  have bqq : nl (q * q) ≤ 10 := by have := nl_mul q q; omega
  have b1 : nl 1 ≤ 2 := nl_two' (by decide)
  have bq2 : nl (q * 2) ≤ 10 := by have := nl_mul q 2; have := nl_two' (n := 2) (by decide); omega
  have bh : nl (2 * q + 1) ≤ 2 := (nl_le_iff _ _).2 (Nat.lt_of_lt_of_le (m := 18014398509481984) (by omega) (by decide))
  have bhh : nl ((2 * q + 1) * (2 * q + 1)) ≤ 10 := by have := nl_mul (2 * q + 1) (2 * q + 1); omega
  have bN4 : nl (N * 4) ≤ 20 := by have := nl_mul N 4; have := nl_two' (n := 4) (by decide); omega
  have hfw : ∀ {w w' : World}, w' = w → Fwd w w' := fun h => h ▸ Fwd.refl _
  have cPa : ∀ (w : World), Calls Tryd.prog 54 #[.int .u64 f] w fun e w' => e = .returned (.tuple #[.int .u64 (n : Nat), .int .i64 x]) ∧ Fwd w w' := fun w =>
    (parts3_any f hf).mono fun e w' g => ⟨by rw [hn, hx]; exact g.1, hfw g.2⟩
  have cB : ∀ (w : World) (u : Value), Num w u n → Calls Tryd.prog 62 #[u] w fun e w' => e = .returned (.int .i64 (blen n : Int)) ∧ Fwd w w' := fun w u h =>
    (refBits_any h (by omega)).mono fun e w' g => ⟨g.1, hfw g.2.symm⟩
  have cS1 : ∀ (w : World) (u : Value), Num w u n → Calls Tryd.prog 10 #[u, .int .i64 (x - 2 * U)] w fun e w' => ∃ y, e = .returned y ∧ Num w' y N ∧ Fwd w w' := fun w u h => by
    have := refShl_any k h (by omega) (by omega)
    rwa [hk, ← hN] at this
  have cR : ∀ (w : World) (u : Value), Num w u N → Calls Tryd.prog 75 #[u] w fun e w' => ∃ y, e = .returned y ∧ Num w' y q ∧ Fwd w w' := fun w u h => by
    have := root3_any h (by omega)
    rwa [← hq] at this
  have cSm : ∀ (w : World) (u : Value), Num w u q → Calls Tryd.prog 63 #[u] w fun e w' => e = .returned (.tuple #[.int .u64 ((q : Nat) : Int), .bool true]) ∧ Fwd w w' := fun w u h => by
    have := refSmall_any h (by omega)
    unfold smallV at this
    rwa [if_pos (by omega)] at this
  have cS2 : ∀ (w : World) (u : Value), Num w u q → Calls Tryd.prog 10 #[u, .int .i64 1] w fun e w' => ∃ y, e = .returned y ∧ Num w' y (q * 2) ∧ Fwd w w' := fun w u h => by
    have := refShl_any 1 h (by omega) (by omega)
    rwa [Nat.pow_one] at this
  have cS3 : ∀ (w : World) (u : Value), Num w u N → Calls Tryd.prog 10 #[u, .int .i64 2] w fun e w' => ∃ y, e = .returned y ∧ Num w' y (N * 4) ∧ Fwd w w' := fun w u h =>
    refShl_any 2 h (by omega) (by omega)
  have cA : ∀ (w : World) (u u' : Value), Num w u (q * 2) → Num w u' 1 → Calls Tryd.prog 66 #[u, u'] w fun e w' => ∃ y, e = .returned y ∧ Num w' y (2 * q + 1) ∧ Fwd w w' := fun w u u' h h' => by
    have := refAdd_any h h' (by omega) (by omega)
    rwa [Nat.mul_comm q 2] at this
  have cC1 : ∀ (w : World) (u u' : Value), Num w u (q * q) → Num w u' N → Calls Tryd.prog 40 #[u, u'] w fun e w' => e = .returned (.int .i64 (cmpW ((q * q : Nat) : Int) (N : Int))) ∧ Fwd w w' := fun w u u' h h' => refCmp_any h h' (by omega) (by omega)
  have cC2 : ∀ (w : World) (u u' : Value), Num w u (N * 4) → Num w u' ((2 * q + 1) * (2 * q + 1)) → Calls Tryd.prog 40 #[u, u'] w fun e w' => e = .returned (.int .i64 (cmpW ((N * 4 : Nat) : Int) (((2 * q + 1) * (2 * q + 1) : Nat) : Int))) ∧ Fwd w w' := fun w u u' h h' => refCmp_any h h' (by omega) (by omega)
  have cUp : ∀ (w : World), Calls Tryd.prog 64 #[.bool false, .int .i64 (cmpW ((N * 4 : Nat) : Int) (((2 * q + 1) * (2 * q + 1) : Nat) : Int)), .bool (decide (q % 2 = 1)), .int .i64 m] w fun e w' => e = .returned (.bool upb) ∧ Fwd w w' := fun w =>
    (up3_any false _ _ m).mono fun e w' g => ⟨by rw [← hup]; exact g.1, hfw g.2⟩
  have cPk : ∀ (w : World) (y fl : Nat), y ≤ 9007199254740992 → Calls Tryd.prog 65 #[.bool false, .int .u64 y, .int .i64 U, .int .i64 m, .int .i64 fl] w fun e w' => e = .returned (.tuple #[.int .u64 ((packR m false y U fl).1 : Nat), .int .i64 ((packR m false y U fl).2 : Nat)]) ∧ Fwd w w' := fun w y fl h =>
    (pack3_any false y U m fl h (by omega) (by omega)).mono fun e w' g => ⟨g.1, hfw g.2⟩
  have hv1 : IntKind.u64.wrap ((q : Int) + 1) = ((q + 1 : Nat) : Int) := wrU1 _ (by omega)
  have hcx1 : decide (cmpW ((q * q : Nat) : Int) (N : Int) = 0) = !(!ex) := by
    rw [Bool.not_not, ← hex]
    unfold cmpW
    congr 1
    refine propext ⟨fun h => ?_, fun h => ?_⟩
    · split at h
      · omega
      · split at h
        · omega
        · omega
    · rw [if_neg (by omega), if_neg (by omega)]
  obtain ⟨p, hpp⟩ : ∃ p, p = (blen n : Int) - 1 + x := ⟨_, rfl⟩
  rw [← hpp] at hU hpar
  clear hup hex
  obtain ⟨t, ht, hr⟩ := sq3oTold
  obtain ⟨dl, n', he⟩ := isAV_ok (hr ex upb)
  let ν : Nat → Rat := nuL [] [n, N, q, q * q, q * 2, 1, 2 * q + 1, N * 4, (2 * q + 1) * (2 * q + 1)]
  let σ : SymD := symL [.u f, .i m, .u n, .i x, .i (blen n : Int), .i ((blen n : Int) - 1), .i p, .i (p.tmod 2), .i (p - 1), .i ((p - 1) / 2), .i U, .i (2 * U), .i (x - 2 * U), .u q, .i (cmpW ((q * q : Nat) : Int) (N : Int)), .i (cmpW ((N * 4 : Nat) : Int) (((2 * q + 1) * (2 * q + 1) : Nat) : Int)), .u (q % 2), .b (decide (q % 2 = 1)), .u (q + 1), .u (packR m false (q + 0) U 0).1, .i ((packR m false (q + 0) U 0).2 : Int), .u (packR m false (q + 0) U 1).1, .i ((packR m false (q + 0) U 1).2 : Int), .u (packR m false (q + 1) U 1).1, .i ((packR m false (q + 1) U 1).2 : Int)]
  have hcx : CxOK (DomQ true ν σ (fun _ => none)) w.heap.size ⟨Tryd.prog, true, t.get, orcD (sq3oD ex upb), (opH (bigHook Tryd.prog true) (opH (symHook Tryd.prog sq3oN (fun _ _ _ => none)) (tabHook (sq3oL ex upb) sq3oM)))⟩ := cxS_ok (M := (DomQ true ν σ (fun _ => none))) ht ⟨[
      orcT 52 [
        { args := [.one (.atom (.sym 0))], ans := .v (.one (.lit (.bool false))), ok := by
            intro B ρ w S vs hS hr
            match vs, hr with
            | [u0], ⟨z0, _⟩ =>
              obtain ⟨rfl, _⟩ : u0 = _ ∧ _ := z0
              refine (cn _).mono ?_
              rintro e w' ⟨rfl, hf⟩
              exact ⟨_, rfl, ⟨rfl, rfl⟩, hf⟩ }],
      orcT 57 [
        { args := [.one (.atom (.sym 0))], ans := .v (.one (.lit (.bool false))), ok := by
            intro B ρ w S vs hS hr
            match vs, hr with
            | [u0], ⟨z0, _⟩ =>
              obtain ⟨rfl, _⟩ : u0 = _ ∧ _ := z0
              refine (cz _).mono ?_
              rintro e w' ⟨rfl, hf⟩
              exact ⟨_, rfl, ⟨rfl, rfl⟩, hf⟩ }],
      orcT 56 [
        { args := [.one (.atom (.sym 0))], ans := .v (.one (.lit (.bool false))), ok := by
            intro B ρ w S vs hS hr
            match vs, hr with
            | [u0], ⟨z0, _⟩ =>
              obtain ⟨rfl, _⟩ : u0 = _ ∧ _ := z0
              refine (cm _).mono ?_
              rintro e w' ⟨rfl, hf⟩
              exact ⟨_, rfl, ⟨rfl, rfl⟩, hf⟩ }],
      orcT 53 [
        { args := [.one (.atom (.sym 0))], ans := .v (.one (.lit (.bool false))), ok := by
            intro B ρ w S vs hS hr
            match vs, hr with
            | [u0], ⟨z0, _⟩ =>
              obtain ⟨rfl, _⟩ : u0 = _ ∧ _ := z0
              refine (ci _).mono ?_
              rintro e w' ⟨rfl, hf⟩
              exact ⟨_, rfl, ⟨rfl, rfl⟩, hf⟩ }],
      orcT 54 [
        { args := [.one (.atom (.sym 0))], ans := .tup [.one (.atom (.sym 2)), .one (.atom (.sym 3))], ok := by
            intro B ρ w S vs hS hr
            match vs, hr with
            | [u0], ⟨z0, _⟩ =>
              obtain ⟨rfl, _⟩ : u0 = _ ∧ _ := z0
              refine (cPa _).mono ?_
              rintro e w' ⟨rfl, hf⟩
              exact ⟨_, rfl, ⟨[_, _], rfl, ⟨rfl, fun _ => trivial⟩, ⟨rfl, fun _ => trivial⟩, trivial⟩, hf⟩ }],
      orcT 11 [
        { args := [.one (.atom (.sym 2))], ans := .v (.one (.atom (.num (.v 10)))), ok := by
            intro B ρ w S vs hS hr
            match vs, hr with
            | [u0], ⟨z0, _⟩ =>
              obtain ⟨rfl, _⟩ : u0 = _ ∧ _ := z0
              refine (refOf_any _ n (by omega)).mono ?_
              rintro e w' ⟨y, rfl, g0, hf⟩
              exact ⟨_, rfl, ⟨rfl, g0⟩, hf⟩ },
        { args := [.one (.lit (.int .u64 1))], ans := .v (.one (.atom (.num (.v 15)))), ok := by
            intro B ρ w S vs hS hr
            match vs, hr with
            | [u0], ⟨z0, _⟩ =>
              obtain ⟨rfl, _⟩ : u0 = _ ∧ _ := z0
              refine (refOf_any _ 1 (by decide)).mono ?_
              rintro e w' ⟨y, rfl, g0, hf⟩
              exact ⟨_, rfl, ⟨rfl, g0⟩, hf⟩ }],
      orcT 62 [
        { args := [.one (.atom (.num (.v 10)))], ans := .v (.one (.atom (.sym 4))), ok := by
            intro B ρ w S vs hS hr
            match vs, hr with
            | [u0], ⟨z0, _⟩ =>
              have k0 : Num w u0 _ := z0.2
              refine (cB _ _ k0).mono ?_
              rintro e w' ⟨rfl, hf⟩
              exact ⟨_, rfl, ⟨rfl, fun _ => trivial⟩, hf⟩ }],
      orcT 10 [
        { args := [.one (.atom (.num (.v 10))), .one (.atom (.sym 12))], ans := .v (.one (.atom (.num (.v 11)))), ok := by
            intro B ρ w S vs hS hr
            match vs, hr with
            | [u0, u1], ⟨z0, z1, _⟩ =>
              have k0 : Num w u0 _ := z0.2
              obtain ⟨rfl, _⟩ : u1 = _ ∧ _ := z1
              refine (cS1 _ _ k0).mono ?_
              rintro e w' ⟨y, rfl, g0, hf⟩
              exact ⟨_, rfl, ⟨rfl, g0⟩, hf⟩ },
        { args := [.one (.atom (.num (.v 12))), .one (.lit (.int .i64 (1)))], ans := .v (.one (.atom (.num (.v 14)))), ok := by
            intro B ρ w S vs hS hr
            match vs, hr with
            | [u0, u1], ⟨z0, z1, _⟩ =>
              have k0 : Num w u0 _ := z0.2
              obtain ⟨rfl, _⟩ : u1 = _ ∧ _ := z1
              refine (cS2 _ _ k0).mono ?_
              rintro e w' ⟨y, rfl, g0, hf⟩
              exact ⟨_, rfl, ⟨rfl, g0⟩, hf⟩ },
        { args := [.one (.atom (.num (.v 11))), .one (.lit (.int .i64 (2)))], ans := .v (.one (.atom (.num (.v 17)))), ok := by
            intro B ρ w S vs hS hr
            match vs, hr with
            | [u0, u1], ⟨z0, z1, _⟩ =>
              have k0 : Num w u0 _ := z0.2
              obtain ⟨rfl, _⟩ : u1 = _ ∧ _ := z1
              refine (cS3 _ _ k0).mono ?_
              rintro e w' ⟨y, rfl, g0, hf⟩
              exact ⟨_, rfl, ⟨rfl, g0⟩, hf⟩ }],
      orcT 75 [
        { args := [.one (.atom (.num (.v 11)))], ans := .v (.one (.atom (.num (.v 12)))), ok := by
            intro B ρ w S vs hS hr
            match vs, hr with
            | [u0], ⟨z0, _⟩ =>
              have k0 : Num w u0 _ := z0.2
              refine (cR _ _ k0).mono ?_
              rintro e w' ⟨y, rfl, g0, hf⟩
              exact ⟨_, rfl, ⟨rfl, g0⟩, hf⟩ }],
      orcT 63 [
        { args := [.one (.atom (.num (.v 12)))], ans := .tup [.one (.atom (.sym 13)), .one (.lit (.bool true))], ok := by
            intro B ρ w S vs hS hr
            match vs, hr with
            | [u0], ⟨z0, _⟩ =>
              have k0 : Num w u0 _ := z0.2
              refine (cSm _ _ k0).mono ?_
              rintro e w' ⟨rfl, hf⟩
              exact ⟨_, rfl, ⟨[_, _], rfl, ⟨rfl, fun _ => trivial⟩, ⟨rfl, rfl⟩, trivial⟩, hf⟩ }],
      orcT 47 [
        { args := [.one (.atom (.num (.v 12))), .one (.atom (.num (.v 12)))], ans := .v (.one (.atom (.num (.v 13)))), ok := by
            intro B ρ w S vs hS hr
            match vs, hr with
            | [u0, u1], ⟨z0, z1, _⟩ =>
              have k0 : Num w u0 _ := z0.2
              have k1 : Num w u1 _ := z1.2
              refine (refMul_any (m := q) (n := q) k0 k1 (by omega) (by omega)).mono ?_
              rintro e w' ⟨y, rfl, g0, hf⟩
              exact ⟨_, rfl, ⟨rfl, g0⟩, hf⟩ },
        { args := [.one (.atom (.num (.v 16))), .one (.atom (.num (.v 16)))], ans := .v (.one (.atom (.num (.v 18)))), ok := by
            intro B ρ w S vs hS hr
            match vs, hr with
            | [u0, u1], ⟨z0, z1, _⟩ =>
              have k0 : Num w u0 _ := z0.2
              have k1 : Num w u1 _ := z1.2
              refine (refMul_any (m := 2 * q + 1) (n := 2 * q + 1) k0 k1 (by omega) (by omega)).mono ?_
              rintro e w' ⟨y, rfl, g0, hf⟩
              exact ⟨_, rfl, ⟨rfl, g0⟩, hf⟩ }],
      orcT 40 [
        { args := [.one (.atom (.num (.v 13))), .one (.atom (.num (.v 11)))], ans := .v (.one (.atom (.sym 14))), ok := by
            intro B ρ w S vs hS hr
            match vs, hr with
            | [u0, u1], ⟨z0, z1, _⟩ =>
              have k0 : Num w u0 _ := z0.2
              have k1 : Num w u1 _ := z1.2
              refine (cC1 _ _ _ k0 k1).mono ?_
              rintro e w' ⟨rfl, hf⟩
              exact ⟨_, rfl, ⟨rfl, fun _ => trivial⟩, hf⟩ },
        { args := [.one (.atom (.num (.v 17))), .one (.atom (.num (.v 18)))], ans := .v (.one (.atom (.sym 15))), ok := by
            intro B ρ w S vs hS hr
            match vs, hr with
            | [u0, u1], ⟨z0, z1, _⟩ =>
              have k0 : Num w u0 _ := z0.2
              have k1 : Num w u1 _ := z1.2
              refine (cC2 _ _ _ k0 k1).mono ?_
              rintro e w' ⟨rfl, hf⟩
              exact ⟨_, rfl, ⟨rfl, fun _ => trivial⟩, hf⟩ }],
      orcT 66 [
        { args := [.one (.atom (.num (.v 14))), .one (.atom (.num (.v 15)))], ans := .v (.one (.atom (.num (.v 16)))), ok := by
            intro B ρ w S vs hS hr
            match vs, hr with
            | [u0, u1], ⟨z0, z1, _⟩ =>
              have k0 : Num w u0 _ := z0.2
              have k1 : Num w u1 _ := z1.2
              refine (cA _ _ _ k0 k1).mono ?_
              rintro e w' ⟨y, rfl, g0, hf⟩
              exact ⟨_, rfl, ⟨rfl, g0⟩, hf⟩ }],
      orcT 64 [
        { args := [.one (.lit (.bool false)), .one (.atom (.sym 15)), .one (.atom (.sym 17)), .one (.atom (.sym 1))], ans := .v (.one (.lit (.bool upb))), ok := by
            intro B ρ w S vs hS hr
            match vs, hr with
            | [u0, u1, u2, u3], ⟨z0, z1, z2, z3, _⟩ =>
              obtain ⟨rfl, _⟩ : u0 = _ ∧ _ := z0
              obtain ⟨rfl, _⟩ : u1 = _ ∧ _ := z1
              obtain ⟨rfl, _⟩ : u2 = _ ∧ _ := z2
              obtain ⟨rfl, _⟩ : u3 = _ ∧ _ := z3
              refine (cUp _).mono ?_
              rintro e w' ⟨rfl, hf⟩
              exact ⟨_, rfl, ⟨rfl, rfl⟩, hf⟩ }],
      orcT 65 [
        { args := [.one (.lit (.bool false)), .one (.atom (.sym 13)), .one (.atom (.sym 10)), .one (.atom (.sym 1)), .one (.lit (.int .i64 (0)))], ans := .tup [.one (.atom (.sym 19)), .one (.atom (.sym 20))], ok := by
            intro B ρ w S vs hS hr
            match vs, hr with
            | [u0, u1, u2, u3, u4], ⟨z0, z1, z2, z3, z4, _⟩ =>
              obtain ⟨rfl, _⟩ : u0 = _ ∧ _ := z0
              obtain ⟨rfl, _⟩ : u1 = _ ∧ _ := z1
              obtain ⟨rfl, _⟩ : u2 = _ ∧ _ := z2
              obtain ⟨rfl, _⟩ : u3 = _ ∧ _ := z3
              obtain ⟨rfl, _⟩ : u4 = _ ∧ _ := z4
              refine (cPk _ (q + 0) 0 (by omega)).mono ?_
              rintro e w' ⟨rfl, hf⟩
              exact ⟨_, rfl, ⟨[_, _], rfl, ⟨rfl, fun _ => trivial⟩, ⟨rfl, fun _ => trivial⟩, trivial⟩, hf⟩ },
        { args := [.one (.lit (.bool false)), .one (.atom (.sym 13)), .one (.atom (.sym 10)), .one (.atom (.sym 1)), .one (.lit (.int .i64 (1)))], ans := .tup [.one (.atom (.sym 21)), .one (.atom (.sym 22))], ok := by
            intro B ρ w S vs hS hr
            match vs, hr with
            | [u0, u1, u2, u3, u4], ⟨z0, z1, z2, z3, z4, _⟩ =>
              obtain ⟨rfl, _⟩ : u0 = _ ∧ _ := z0
              obtain ⟨rfl, _⟩ : u1 = _ ∧ _ := z1
              obtain ⟨rfl, _⟩ : u2 = _ ∧ _ := z2
              obtain ⟨rfl, _⟩ : u3 = _ ∧ _ := z3
              obtain ⟨rfl, _⟩ : u4 = _ ∧ _ := z4
              refine (cPk _ (q + 0) 1 (by omega)).mono ?_
              rintro e w' ⟨rfl, hf⟩
              exact ⟨_, rfl, ⟨[_, _], rfl, ⟨rfl, fun _ => trivial⟩, ⟨rfl, fun _ => trivial⟩, trivial⟩, hf⟩ },
        { args := [.one (.lit (.bool false)), .one (.atom (.sym 18)), .one (.atom (.sym 10)), .one (.atom (.sym 1)), .one (.lit (.int .i64 (1)))], ans := .tup [.one (.atom (.sym 23)), .one (.atom (.sym 24))], ok := by
            intro B ρ w S vs hS hr
            match vs, hr with
            | [u0, u1, u2, u3, u4], ⟨z0, z1, z2, z3, z4, _⟩ =>
              obtain ⟨rfl, _⟩ : u0 = _ ∧ _ := z0
              obtain ⟨rfl, _⟩ : u1 = _ ∧ _ := z1
              obtain ⟨rfl, _⟩ : u2 = _ ∧ _ := z2
              obtain ⟨rfl, _⟩ : u3 = _ ∧ _ := z3
              obtain ⟨rfl, _⟩ : u4 = _ ∧ _ := z4
              refine (cPk _ (q + 1) 1 (by omega)).mono ?_
              rintro e w' ⟨rfl, hf⟩
              exact ⟨_, rfl, ⟨[_, _], rfl, ⟨rfl, fun _ => trivial⟩, ⟨rfl, fun _ => trivial⟩, trivial⟩, hf⟩ }]], rfl⟩
    (opH_le (bigHook_le _ _) (opH_le (symHook_le _ _ _) (tabHook_le _ _)))
    (opH_ok (bigHook_ok _) (opH_ok (symHook_ok _ (fun h => by cases h) (fun h => by cases h)) (tabHook_ok _ (all_cons (BOk.mk rfl rfl rfl (fun _ _ _ => trivial) rfl rfl (bo_sub (wr64 (by omega) (by omega)))) (all_cons (BOk.mk rfl rfl rfl (fun _ _ _ => trivial) rfl rfl (bo_add (by rw [hpp]; exact wr64 (by omega) (by omega)))) (all_cons (BOk.mk rfl rfl rfl (fun _ _ _ => trivial) rfl rfl (bo_remI p (by omega) (by omega))) (all_cons (BOk.mk rfl rfl rfl (fun _ _ _ => trivial) rfl rfl (bo_neq (by rw [tmod_two]; simp; omega))) (all_cons (BOk.mk rfl rfl rfl (fun _ _ _ => trivial) rfl rfl (bo_sub (wr64 (by omega) (by omega)))) (all_cons (BOk.mk rfl rfl rfl (fun _ _ _ => trivial) rfl rfl (bo_quoI (p - 1) (by omega) (by omega) (by omega))) (all_cons (BOk.mk rfl rfl rfl (fun _ _ _ => trivial) rfl rfl (bo_sub (by rw [wr64 (by omega) (by omega)]; omega))) (all_cons (BOk.mk rfl rfl rfl (fun _ _ _ => trivial) rfl rfl (bo_mulI U (by omega) (by omega))) (all_cons (BOk.mk rfl rfl rfl (fun _ _ _ => trivial) rfl rfl (bo_sub (wr64 (by omega) (by omega)))) (all_cons (BOk.mk rfl rfl rfl (fun _ _ _ => trivial) rfl rfl (bo_neq hcx1)) (all_cons (BOk.mk rfl rfl rfl (fun _ _ _ => trivial) rfl rfl (bo_rem2 _ (by omega))) (all_cons (BOk.mk rfl rfl rfl (fun _ _ _ => trivial) rfl rfl (bo_eql (by congr 1; exact propext ⟨fun h => by omega, fun h => by omega⟩))) (all_cons (BOk.mk rfl rfl rfl (fun _ _ _ => trivial) rfl rfl (bo_add hv1)) all_nil))))))))))))) all_nil)))
  refine (told_call (M := (DomQ true ν σ (fun _ => none))) (cx := ⟨Tryd.prog, true, t.get, orcD (sq3oD ex upb), (opH (bigHook Tryd.prog true) (opH (symHook Tryd.prog sq3oN (fun _ _ _ => none)) (tabHook (sq3oL ex upb) sq3oM)))⟩) (xs := [.one (.atom (.sym 0)), .one (.atom (.sym 1))]) (vs := [.int .u64 f, .int .i64 m]) Tryd.checked.mixed hcx (fun hg => by cases hg) ⟨⟨rfl, fun _ => trivial⟩, ⟨rfl, fun _ => trivial⟩, trivial⟩ he).mono ?_
  rintro e w' ⟨v, ρ', rfl, hv, hbel⟩
  cases ex <;> cases upb
  all_goals
    obtain ⟨us, rfl, hu⟩ := hv
    match us, hu with
    | [c0, c1], ⟨r0, r1, _⟩ =>
      obtain ⟨rfl, _⟩ : c0 = _ ∧ _ := r0
      obtain ⟨rfl, _⟩ : c1 = _ ∧ _ := r1
      exact ⟨rfl, hbel⟩

def sq3eD (ex : Bool) (upb : Bool) : List (FuncId × Ans) :=
  [(52, ansT [([.one (.atom (.sym 0))], .v (.one (.lit (.bool false))))]),
   (57, ansT [([.one (.atom (.sym 0))], .v (.one (.lit (.bool false))))]),
   (56, ansT [([.one (.atom (.sym 0))], .v (.one (.lit (.bool false))))]),
   (53, ansT [([.one (.atom (.sym 0))], .v (.one (.lit (.bool false))))]),
   (54, ansT [([.one (.atom (.sym 0))], .tup [.one (.atom (.sym 2)), .one (.atom (.sym 3))])]),
   (11, ansT [([.one (.atom (.sym 2))], .v (.one (.atom (.num (.v 10))))), ([.one (.lit (.int .u64 1))], .v (.one (.atom (.num (.v 15)))))]),
   (62, ansT [([.one (.atom (.num (.v 10)))], .v (.one (.atom (.sym 4))))]),
   (10, ansT [([.one (.atom (.num (.v 10))), .one (.atom (.sym 12))], .v (.one (.atom (.num (.v 11))))), ([.one (.atom (.num (.v 12))), .one (.lit (.int .i64 (1)))], .v (.one (.atom (.num (.v 14))))), ([.one (.atom (.num (.v 11))), .one (.lit (.int .i64 (2)))], .v (.one (.atom (.num (.v 17)))))]),
   (75, ansT [([.one (.atom (.num (.v 11)))], .v (.one (.atom (.num (.v 12)))))]),
   (63, ansT [([.one (.atom (.num (.v 12)))], .tup [.one (.atom (.sym 13)), .one (.lit (.bool true))])]),
   (47, ansT [([.one (.atom (.num (.v 12))), .one (.atom (.num (.v 12)))], .v (.one (.atom (.num (.v 13))))), ([.one (.atom (.num (.v 16))), .one (.atom (.num (.v 16)))], .v (.one (.atom (.num (.v 18)))))]),
   (40, ansT [([.one (.atom (.num (.v 13))), .one (.atom (.num (.v 11)))], .v (.one (.atom (.sym 14)))), ([.one (.atom (.num (.v 17))), .one (.atom (.num (.v 18)))], .v (.one (.atom (.sym 15))))]),
   (66, ansT [([.one (.atom (.num (.v 14))), .one (.atom (.num (.v 15)))], .v (.one (.atom (.num (.v 16)))))]),
   (64, ansT [([.one (.lit (.bool false)), .one (.atom (.sym 15)), .one (.atom (.sym 17)), .one (.atom (.sym 1))], .v (.one (.lit (.bool upb))))]),
   (65, ansT [([.one (.lit (.bool false)), .one (.atom (.sym 13)), .one (.atom (.sym 10)), .one (.atom (.sym 1)), .one (.lit (.int .i64 (0)))], .tup [.one (.atom (.sym 19)), .one (.atom (.sym 20))]), ([.one (.lit (.bool false)), .one (.atom (.sym 13)), .one (.atom (.sym 10)), .one (.atom (.sym 1)), .one (.lit (.int .i64 (1)))], .tup [.one (.atom (.sym 21)), .one (.atom (.sym 22))]), ([.one (.lit (.bool false)), .one (.atom (.sym 18)), .one (.atom (.sym 10)), .one (.atom (.sym 1)), .one (.lit (.int .i64 (1)))], .tup [.one (.atom (.sym 23)), .one (.atom (.sym 24))])])]
def sq3eL (ex : Bool) (upb : Bool) : BT := [(.sub, .atom (.sym 4), .lit (.int .i64 (1)), .atom (.sym 5)), (.add, .atom (.sym 5), .atom (.sym 3), .atom (.sym 6)), (.rem, .atom (.sym 6), .lit (.int .i64 (2)), .atom (.sym 7)), (.neq, .atom (.sym 7), .lit (.int .i64 (0)), .lit (.bool false)), (.quo, .atom (.sym 6), .lit (.int .i64 (2)), .atom (.sym 9)), (.sub, .atom (.sym 9), .lit (.int .i64 (52)), .atom (.sym 10)), (.mul, .lit (.int .i64 (2)), .atom (.sym 10), .atom (.sym 11)), (.sub, .atom (.sym 3), .atom (.sym 11), .atom (.sym 12)), (.neq, .atom (.sym 14), .lit (.int .i64 (0)), .lit (.bool (!ex))), (.rem, .atom (.sym 13), .lit (.int .u64 2), .atom (.sym 16)), (.eql, .atom (.sym 16), .lit (.int .u64 1), .atom (.sym 17)), (.add, .atom (.sym 13), .lit (.int .u64 1), .atom (.sym 18))]
def sq3eM : BT := []
def sq3eN : At → Option Nat
  | _ => none

set_option maxRecDepth 1000000 in
theorem sq3eTold : ∃ t : Tr Func, TabOK Tryd.prog t ∧ (∀ (ex : Bool) (upb : Bool), isAV (.tup [.one (.atom (.sym (bif ex then 19 else bif upb then 23 else 21))), .one (.atom (.sym (bif ex then 20 else bif upb then 24 else 22)))]) (evalCall ⟨Tryd.prog, true, t.get, orcD (sq3eD ex upb), (opH (bigHook Tryd.prog true) (opH (symHook Tryd.prog sq3eN (fun _ _ _ => none)) (tabHook (sq3eL ex upb) sq3eM)))⟩ 1000 35 [.one (.atom (.sym 0)), .one (.atom (.sym 1))] .e 0) = true) :=
  ⟨((((((((((((((((Tr.e).put 35 (some Tryd.f35)).put 52 (some Tryd.f52)).put 57 (some Tryd.f57)).put 56 (some Tryd.f56)).put 53 (some Tryd.f53)).put 54 (some Tryd.f54)).put 11 (some Tryd.f11)).put 62 (some Tryd.f62)).put 10 (some Tryd.f10)).put 75 (some Tryd.f75)).put 63 (some Tryd.f63)).put 47 (some Tryd.f47)).put 40 (some Tryd.f40)).put 66 (some Tryd.f66)).put 64 (some Tryd.f64)).put 65 (some Tryd.f65),
   (TabOK.put (TabOK.put (TabOK.put (TabOK.put (TabOK.put (TabOK.put (TabOK.put (TabOK.put (TabOK.put (TabOK.put (TabOK.put (TabOK.put (TabOK.put (TabOK.put (TabOK.put (TabOK.put (TabOK.e _) ⟨Tryd.func35, by decide +kernel, by decide +kernel⟩) ⟨Tryd.func52, by decide +kernel, by decide +kernel⟩) ⟨Tryd.func57, by decide +kernel, by decide +kernel⟩) ⟨Tryd.func56, by decide +kernel, by decide +kernel⟩) ⟨Tryd.func53, by decide +kernel, by decide +kernel⟩) ⟨Tryd.func54, by decide +kernel, by decide +kernel⟩) ⟨Tryd.func11, by decide +kernel, by decide +kernel⟩) ⟨Tryd.func62, by decide +kernel, by decide +kernel⟩) ⟨Tryd.func10, by decide +kernel, by decide +kernel⟩) ⟨Tryd.func75, by decide +kernel, by decide +kernel⟩) ⟨Tryd.func63, by decide +kernel, by decide +kernel⟩) ⟨Tryd.func47, by decide +kernel, by decide +kernel⟩) ⟨Tryd.func40, by decide +kernel, by decide +kernel⟩) ⟨Tryd.func66, by decide +kernel, by decide +kernel⟩) ⟨Tryd.func64, by decide +kernel, by decide +kernel⟩) ⟨Tryd.func65, by decide +kernel, by decide +kernel⟩),
   by decide +kernel⟩

set_option maxHeartbeats 4000000 in
set_option maxRecDepth 100000 in
theorem sq3e_tab {w : World} (m : Int) (f : Nat) (hf : f < 18446744073709551616) (K : fsz f ≠ 0) (L : fsz f < 9218868437227405312) (hs : fneg f = false) {ex upb : Bool} (hpar : ((blen (vsz f) : Int) - 1 + vex f) % 2 = 0)
    (hex : decide (sqN (rN (vsz f) (vex f)) * sqN (rN (vsz f) (vex f)) = rN (vsz f) (vex f)) = ex)
    (hup : upR m false (cmpW ((rN (vsz f) (vex f) * 4 : Nat) : Int) (((2 * sqN (rN (vsz f) (vex f)) + 1) * (2 * sqN (rN (vsz f) (vex f)) + 1) : Nat) : Int)) (decide (sqN (rN (vsz f) (vex f)) % 2 = 1)) = upb) :
    Calls Tryd.prog 35 #[.int .u64 f, .int .i64 m] w fun e w' => e = .returned (.tuple #[.int .u64 ((sqrtF m f).1 : Nat), .int .i64 ((sqrtF m f).2 : Nat)]) ∧ Below w.heap.size w w' := by
  have cn : ∀ (w : World), Calls Tryd.prog 52 #[.int .u64 f] w fun e w' => e = .returned (.bool false) ∧ Fwd w w' := fun w => (none3_any f hf).mono fun e w' gg => ⟨by rw [gg.1, show isNan f = false from isNan_le (by omega)], gg.2 ▸ Fwd.refl _⟩
  have cz : ∀ (w : World), Calls Tryd.prog 57 #[.int .u64 f] w fun e w' => e = .returned (.bool false) ∧ Fwd w w' := fun w => (nought3_any f hf).mono fun e w' gg => ⟨by rw [gg.1, show decide (fsz f = 0) = false from decide_eq_false (by omega)], gg.2 ▸ Fwd.refl _⟩
  have cm : ∀ (w : World), Calls Tryd.prog 56 #[.int .u64 f] w fun e w' => e = .returned (.bool false) ∧ Fwd w w' := fun w => (minus3_any f hf).mono fun e w' gg => ⟨by rw [gg.1, hs], gg.2 ▸ Fwd.refl _⟩
  have ci : ∀ (w : World), Calls Tryd.prog 53 #[.int .u64 f] w fun e w' => e = .returned (.bool false) ∧ Fwd w w' := fun w => (endless3_any f hf).mono fun e w' gg => ⟨by rw [gg.1, show decide (fsz f = 9218868437227405312) = false from decide_eq_false (by omega)], gg.2 ▸ Fwd.refl _⟩
  have hn0 : vsz f ≠ 0 := vsz_ne K
  have hb := vsz_lt f
  have x1 := vex_ge f
  have x2 := vex_le L
  obtain ⟨hsq, hq1, hq2⟩ := sqrt_eq m hn0 hb x1
  have hval : sqrtF m f = packR m false (sqN (rN (vsz f) (vex f)) + (if ex = true then 0 else if upb = true then 1 else 0)) (rU (vsz f) (vex f)) (if ex = true then 0 else 1) := by
    unfold sqrtF
    rw [isNan_le (by omega), if_neg (by simp), if_neg K, hs, if_neg (by simp), if_neg (by omega), hsq]
    unfold sqUp sqFl
    rw [hup]
    subst hex
    simp only [decide_eq_true_eq]
  rw [hval]
  clear hval hsq
  have hp := blen_pos hn0
  have hbl : blen (vsz f) ≤ 53 := blen_of_lt hb
  have hU : rU (vsz f) (vex f) = ((blen (vsz f) : Int) - 1 + vex f) / 2 - 52 := rfl
  have hN : rN (vsz f) (vex f) = vsz f * 2 ^ (vex f - 2 * rU (vsz f) (vex f)).toNat := rfl
  obtain ⟨n, hn⟩ : ∃ n, n = vsz f := ⟨_, rfl⟩
  obtain ⟨x, hx⟩ : ∃ x, x = vex f := ⟨_, rfl⟩
  rw [← hn] at hn0 hb hp hbl
  rw [← hx] at x1 x2
  rw [← hn, ← hx] at hq1 hq2 hU hN hex hup hpar ⊢
  obtain ⟨U, hU'⟩ : ∃ U, U = rU n x := ⟨_, rfl⟩
  rw [← hU'] at hU hN ⊢
  obtain ⟨N, hN'⟩ : ∃ N, N = rN n x := ⟨_, rfl⟩
  rw [← hN'] at hN hq1 hq2 hex hup ⊢
  obtain ⟨k, hk⟩ : ∃ k : Nat, (k : Int) = x - 2 * U := ⟨(x - 2 * U).toNat, by omega⟩
  have hk2 : (x - 2 * U).toNat = k := by omega
  rw [hk2] at hN
  have kb : k ≤ 110 := by omega
  have bn : nl n ≤ 2 := nl_two' hb
  have bN : nl N ≤ 10 := by have := nl_shl n k; rw [← hN] at this; omega
  obtain ⟨q, hq⟩ : ∃ q, q = sqN N := ⟨_, rfl⟩
  rw [← hq] at hq1 hq2 hex hup ⊢
  have bq : nl q ≤ 2 := nl_two' hq1
  have bqq : nl (q * q) ≤ 10 := by have := nl_mul q q; omega
  have b1 : nl 1 ≤ 2 := nl_two' (by decide)
  have bq2 : nl (q * 2) ≤ 10 := by have := nl_mul q 2; have := nl_two' (n := 2) (by decide); omega
  have bh : nl (2 * q + 1) ≤ 2 := (nl_le_iff _ _).2 (Nat.lt_of_lt_of_le (m := 18014398509481984) (by omega) (by decide))
  have bhh : nl ((2 * q + 1) * (2 * q + 1)) ≤ 10 := by have := nl_mul (2 * q + 1) (2 * q + 1); omega
  have bN4 : nl (N * 4) ≤ 20 := by have := nl_mul N 4; have := nl_two' (n := 4) (by decide); omega
  have hfw : ∀ {w w' : World}, w' = w → Fwd w w' := fun h => h ▸ Fwd.refl _
  have cPa : ∀ (w : World), Calls Tryd.prog 54 #[.int .u64 f] w fun e w' => e = .returned (.tuple #[.int .u64 (n : Nat), .int .i64 x]) ∧ Fwd w w' := fun w =>
    (parts3_any f hf).mono fun e w' g => ⟨by rw [hn, hx]; exact g.1, hfw g.2⟩
  have cB : ∀ (w : World) (u : Value), Num w u n → Calls Tryd.prog 62 #[u] w fun e w' => e = .returned (.int .i64 (blen n : Int)) ∧ Fwd w w' := fun w u h =>
    (refBits_any h (by omega)).mono fun e w' g => ⟨g.1, hfw g.2.symm⟩
  have cS1 : ∀ (w : World) (u : Value), Num w u n → Calls Tryd.prog 10 #[u, .int .i64 (x - 2 * U)] w fun e w' => ∃ y, e = .returned y ∧ Num w' y N ∧ Fwd w w' := fun w u h => by
    have := refShl_any k h (by omega) (by omega)
    rwa [hk, ← hN] at this
  have cR : ∀ (w : World) (u : Value), Num w u N → Calls Tryd.prog 75 #[u] w fun e w' => ∃ y, e = .returned y ∧ Num w' y q ∧ Fwd w w' := fun w u h => by
    have := root3_any h (by omega)
    rwa [← hq] at this
  have cSm : ∀ (w : World) (u : Value), Num w u q → Calls Tryd.prog 63 #[u] w fun e w' => e = .returned (.tuple #[.int .u64 ((q : Nat) : Int), .bool true]) ∧ Fwd w w' := fun w u h => by
    have := refSmall_any h (by omega)
    unfold smallV at this
    rwa [if_pos (by omega)] at this
  have cS2 : ∀ (w : World) (u : Value), Num w u q → Calls Tryd.prog 10 #[u, .int .i64 1] w fun e w' => ∃ y, e = .returned y ∧ Num w' y (q * 2) ∧ Fwd w w' := fun w u h => by
    have := refShl_any 1 h (by omega) (by omega)
    rwa [Nat.pow_one] at this
  have cS3 : ∀ (w : World) (u : Value), Num w u N → Calls Tryd.prog 10 #[u, .int .i64 2] w fun e w' => ∃ y, e = .returned y ∧ Num w' y (N * 4) ∧ Fwd w w' := fun w u h =>
    refShl_any 2 h (by omega) (by omega)
  have cA : ∀ (w : World) (u u' : Value), Num w u (q * 2) → Num w u' 1 → Calls Tryd.prog 66 #[u, u'] w fun e w' => ∃ y, e = .returned y ∧ Num w' y (2 * q + 1) ∧ Fwd w w' := fun w u u' h h' => by
    have := refAdd_any h h' (by omega) (by omega)
    rwa [Nat.mul_comm q 2] at this
  have cC1 : ∀ (w : World) (u u' : Value), Num w u (q * q) → Num w u' N → Calls Tryd.prog 40 #[u, u'] w fun e w' => e = .returned (.int .i64 (cmpW ((q * q : Nat) : Int) (N : Int))) ∧ Fwd w w' := fun w u u' h h' => refCmp_any h h' (by omega) (by omega)
  have cC2 : ∀ (w : World) (u u' : Value), Num w u (N * 4) → Num w u' ((2 * q + 1) * (2 * q + 1)) → Calls Tryd.prog 40 #[u, u'] w fun e w' => e = .returned (.int .i64 (cmpW ((N * 4 : Nat) : Int) (((2 * q + 1) * (2 * q + 1) : Nat) : Int))) ∧ Fwd w w' := fun w u u' h h' => refCmp_any h h' (by omega) (by omega)
  have cUp : ∀ (w : World), Calls Tryd.prog 64 #[.bool false, .int .i64 (cmpW ((N * 4 : Nat) : Int) (((2 * q + 1) * (2 * q + 1) : Nat) : Int)), .bool (decide (q % 2 = 1)), .int .i64 m] w fun e w' => e = .returned (.bool upb) ∧ Fwd w w' := fun w =>
    (up3_any false _ _ m).mono fun e w' g => ⟨by rw [← hup]; exact g.1, hfw g.2⟩
  have cPk : ∀ (w : World) (y fl : Nat), y ≤ 9007199254740992 → Calls Tryd.prog 65 #[.bool false, .int .u64 y, .int .i64 U, .int .i64 m, .int .i64 fl] w fun e w' => e = .returned (.tuple #[.int .u64 ((packR m false y U fl).1 : Nat), .int .i64 ((packR m false y U fl).2 : Nat)]) ∧ Fwd w w' := fun w y fl h =>
    (pack3_any false y U m fl h (by omega) (by omega)).mono fun e w' g => ⟨g.1, hfw g.2⟩
  have hv1 : IntKind.u64.wrap ((q : Int) + 1) = ((q + 1 : Nat) : Int) := wrU1 _ (by omega)
  have hcx1 : decide (cmpW ((q * q : Nat) : Int) (N : Int) = 0) = !(!ex) := by
    rw [Bool.not_not, ← hex]
    unfold cmpW
    congr 1
    refine propext ⟨fun h => ?_, fun h => ?_⟩
    · split at h
      · omega
      · split at h
        · omega
        · omega
    · rw [if_neg (by omega), if_neg (by omega)]
  obtain ⟨p, hpp⟩ : ∃ p, p = (blen n : Int) - 1 + x := ⟨_, rfl⟩
  rw [← hpp] at hU hpar
  clear hup hex
  obtain ⟨t, ht, hr⟩ := sq3eTold
  obtain ⟨dl, n', he⟩ := isAV_ok (hr ex upb)
  let ν : Nat → Rat := nuL [] [n, N, q, q * q, q * 2, 1, 2 * q + 1, N * 4, (2 * q + 1) * (2 * q + 1)]
  let σ : SymD := symL [.u f, .i m, .u n, .i x, .i (blen n : Int), .i ((blen n : Int) - 1), .i p, .i (p.tmod 2), .i (p - 1), .i (p / 2), .i U, .i (2 * U), .i (x - 2 * U), .u q, .i (cmpW ((q * q : Nat) : Int) (N : Int)), .i (cmpW ((N * 4 : Nat) : Int) (((2 * q + 1) * (2 * q + 1) : Nat) : Int)), .u (q % 2), .b (decide (q % 2 = 1)), .u (q + 1), .u (packR m false (q + 0) U 0).1, .i ((packR m false (q + 0) U 0).2 : Int), .u (packR m false (q + 0) U 1).1, .i ((packR m false (q + 0) U 1).2 : Int), .u (packR m false (q + 1) U 1).1, .i ((packR m false (q + 1) U 1).2 : Int)]
  have hcx : CxOK (DomQ true ν σ (fun _ => none)) w.heap.size ⟨Tryd.prog, true, t.get, orcD (sq3eD ex upb), (opH (bigHook Tryd.prog true) (opH (symHook Tryd.prog sq3eN (fun _ _ _ => none)) (tabHook (sq3eL ex upb) sq3eM)))⟩ := cxS_ok (M := (DomQ true ν σ (fun _ => none))) ht ⟨[
      orcT 52 [
        { args := [.one (.atom (.sym 0))], ans := .v (.one (.lit (.bool false))), ok := by
            intro B ρ w S vs hS hr
            match vs, hr with
            | [u0], ⟨z0, _⟩ =>
              obtain ⟨rfl, _⟩ : u0 = _ ∧ _ := z0
              refine (cn _).mono ?_
              rintro e w' ⟨rfl, hf⟩
              exact ⟨_, rfl, ⟨rfl, rfl⟩, hf⟩ }],
      orcT 57 [
        { args := [.one (.atom (.sym 0))], ans := .v (.one (.lit (.bool false))), ok := by
            intro B ρ w S vs hS hr
            match vs, hr with
            | [u0], ⟨z0, _⟩ =>
              obtain ⟨rfl, _⟩ : u0 = _ ∧ _ := z0
              refine (cz _).mono ?_
              rintro e w' ⟨rfl, hf⟩
              exact ⟨_, rfl, ⟨rfl, rfl⟩, hf⟩ }],
      orcT 56 [
        { args := [.one (.atom (.sym 0))], ans := .v (.one (.lit (.bool false))), ok := by
            intro B ρ w S vs hS hr
            match vs, hr with
            | [u0], ⟨z0, _⟩ =>
              obtain ⟨rfl, _⟩ : u0 = _ ∧ _ := z0
              refine (cm _).mono ?_
              rintro e w' ⟨rfl, hf⟩
              exact ⟨_, rfl, ⟨rfl, rfl⟩, hf⟩ }],
      orcT 53 [
        { args := [.one (.atom (.sym 0))], ans := .v (.one (.lit (.bool false))), ok := by
            intro B ρ w S vs hS hr
            match vs, hr with
            | [u0], ⟨z0, _⟩ =>
              obtain ⟨rfl, _⟩ : u0 = _ ∧ _ := z0
              refine (ci _).mono ?_
              rintro e w' ⟨rfl, hf⟩
              exact ⟨_, rfl, ⟨rfl, rfl⟩, hf⟩ }],
      orcT 54 [
        { args := [.one (.atom (.sym 0))], ans := .tup [.one (.atom (.sym 2)), .one (.atom (.sym 3))], ok := by
            intro B ρ w S vs hS hr
            match vs, hr with
            | [u0], ⟨z0, _⟩ =>
              obtain ⟨rfl, _⟩ : u0 = _ ∧ _ := z0
              refine (cPa _).mono ?_
              rintro e w' ⟨rfl, hf⟩
              exact ⟨_, rfl, ⟨[_, _], rfl, ⟨rfl, fun _ => trivial⟩, ⟨rfl, fun _ => trivial⟩, trivial⟩, hf⟩ }],
      orcT 11 [
        { args := [.one (.atom (.sym 2))], ans := .v (.one (.atom (.num (.v 10)))), ok := by
            intro B ρ w S vs hS hr
            match vs, hr with
            | [u0], ⟨z0, _⟩ =>
              obtain ⟨rfl, _⟩ : u0 = _ ∧ _ := z0
              refine (refOf_any _ n (by omega)).mono ?_
              rintro e w' ⟨y, rfl, g0, hf⟩
              exact ⟨_, rfl, ⟨rfl, g0⟩, hf⟩ },
        { args := [.one (.lit (.int .u64 1))], ans := .v (.one (.atom (.num (.v 15)))), ok := by
            intro B ρ w S vs hS hr
            match vs, hr with
            | [u0], ⟨z0, _⟩ =>
              obtain ⟨rfl, _⟩ : u0 = _ ∧ _ := z0
              refine (refOf_any _ 1 (by decide)).mono ?_
              rintro e w' ⟨y, rfl, g0, hf⟩
              exact ⟨_, rfl, ⟨rfl, g0⟩, hf⟩ }],
      orcT 62 [
        { args := [.one (.atom (.num (.v 10)))], ans := .v (.one (.atom (.sym 4))), ok := by
            intro B ρ w S vs hS hr
            match vs, hr with
            | [u0], ⟨z0, _⟩ =>
              have k0 : Num w u0 _ := z0.2
              refine (cB _ _ k0).mono ?_
              rintro e w' ⟨rfl, hf⟩
              exact ⟨_, rfl, ⟨rfl, fun _ => trivial⟩, hf⟩ }],
      orcT 10 [
        { args := [.one (.atom (.num (.v 10))), .one (.atom (.sym 12))], ans := .v (.one (.atom (.num (.v 11)))), ok := by
            intro B ρ w S vs hS hr
            match vs, hr with
            | [u0, u1], ⟨z0, z1, _⟩ =>
              have k0 : Num w u0 _ := z0.2
              obtain ⟨rfl, _⟩ : u1 = _ ∧ _ := z1
              refine (cS1 _ _ k0).mono ?_
              rintro e w' ⟨y, rfl, g0, hf⟩
              exact ⟨_, rfl, ⟨rfl, g0⟩, hf⟩ },
        { args := [.one (.atom (.num (.v 12))), .one (.lit (.int .i64 (1)))], ans := .v (.one (.atom (.num (.v 14)))), ok := by
            intro B ρ w S vs hS hr
            match vs, hr with
            | [u0, u1], ⟨z0, z1, _⟩ =>
              have k0 : Num w u0 _ := z0.2
              obtain ⟨rfl, _⟩ : u1 = _ ∧ _ := z1
              refine (cS2 _ _ k0).mono ?_
              rintro e w' ⟨y, rfl, g0, hf⟩
              exact ⟨_, rfl, ⟨rfl, g0⟩, hf⟩ },
        { args := [.one (.atom (.num (.v 11))), .one (.lit (.int .i64 (2)))], ans := .v (.one (.atom (.num (.v 17)))), ok := by
            intro B ρ w S vs hS hr
            match vs, hr with
            | [u0, u1], ⟨z0, z1, _⟩ =>
              have k0 : Num w u0 _ := z0.2
              obtain ⟨rfl, _⟩ : u1 = _ ∧ _ := z1
              refine (cS3 _ _ k0).mono ?_
              rintro e w' ⟨y, rfl, g0, hf⟩
              exact ⟨_, rfl, ⟨rfl, g0⟩, hf⟩ }],
      orcT 75 [
        { args := [.one (.atom (.num (.v 11)))], ans := .v (.one (.atom (.num (.v 12)))), ok := by
            intro B ρ w S vs hS hr
            match vs, hr with
            | [u0], ⟨z0, _⟩ =>
              have k0 : Num w u0 _ := z0.2
              refine (cR _ _ k0).mono ?_
              rintro e w' ⟨y, rfl, g0, hf⟩
              exact ⟨_, rfl, ⟨rfl, g0⟩, hf⟩ }],
      orcT 63 [
        { args := [.one (.atom (.num (.v 12)))], ans := .tup [.one (.atom (.sym 13)), .one (.lit (.bool true))], ok := by
            intro B ρ w S vs hS hr
            match vs, hr with
            | [u0], ⟨z0, _⟩ =>
              have k0 : Num w u0 _ := z0.2
              refine (cSm _ _ k0).mono ?_
              rintro e w' ⟨rfl, hf⟩
              exact ⟨_, rfl, ⟨[_, _], rfl, ⟨rfl, fun _ => trivial⟩, ⟨rfl, rfl⟩, trivial⟩, hf⟩ }],
      orcT 47 [
        { args := [.one (.atom (.num (.v 12))), .one (.atom (.num (.v 12)))], ans := .v (.one (.atom (.num (.v 13)))), ok := by
            intro B ρ w S vs hS hr
            match vs, hr with
            | [u0, u1], ⟨z0, z1, _⟩ =>
              have k0 : Num w u0 _ := z0.2
              have k1 : Num w u1 _ := z1.2
              refine (refMul_any (m := q) (n := q) k0 k1 (by omega) (by omega)).mono ?_
              rintro e w' ⟨y, rfl, g0, hf⟩
              exact ⟨_, rfl, ⟨rfl, g0⟩, hf⟩ },
        { args := [.one (.atom (.num (.v 16))), .one (.atom (.num (.v 16)))], ans := .v (.one (.atom (.num (.v 18)))), ok := by
            intro B ρ w S vs hS hr
            match vs, hr with
            | [u0, u1], ⟨z0, z1, _⟩ =>
              have k0 : Num w u0 _ := z0.2
              have k1 : Num w u1 _ := z1.2
              refine (refMul_any (m := 2 * q + 1) (n := 2 * q + 1) k0 k1 (by omega) (by omega)).mono ?_
              rintro e w' ⟨y, rfl, g0, hf⟩
              exact ⟨_, rfl, ⟨rfl, g0⟩, hf⟩ }],
      orcT 40 [
        { args := [.one (.atom (.num (.v 13))), .one (.atom (.num (.v 11)))], ans := .v (.one (.atom (.sym 14))), ok := by
            intro B ρ w S vs hS hr
            match vs, hr with
            | [u0, u1], ⟨z0, z1, _⟩ =>
              have k0 : Num w u0 _ := z0.2
              have k1 : Num w u1 _ := z1.2
              refine (cC1 _ _ _ k0 k1).mono ?_
              rintro e w' ⟨rfl, hf⟩
              exact ⟨_, rfl, ⟨rfl, fun _ => trivial⟩, hf⟩ },
        { args := [.one (.atom (.num (.v 17))), .one (.atom (.num (.v 18)))], ans := .v (.one (.atom (.sym 15))), ok := by
            intro B ρ w S vs hS hr
            match vs, hr with
            | [u0, u1], ⟨z0, z1, _⟩ =>
              have k0 : Num w u0 _ := z0.2
              have k1 : Num w u1 _ := z1.2
              refine (cC2 _ _ _ k0 k1).mono ?_
              rintro e w' ⟨rfl, hf⟩
              exact ⟨_, rfl, ⟨rfl, fun _ => trivial⟩, hf⟩ }],
      orcT 66 [
        { args := [.one (.atom (.num (.v 14))), .one (.atom (.num (.v 15)))], ans := .v (.one (.atom (.num (.v 16)))), ok := by
            intro B ρ w S vs hS hr
            match vs, hr with
            | [u0, u1], ⟨z0, z1, _⟩ =>
              have k0 : Num w u0 _ := z0.2
              have k1 : Num w u1 _ := z1.2
              refine (cA _ _ _ k0 k1).mono ?_
              rintro e w' ⟨y, rfl, g0, hf⟩
              exact ⟨_, rfl, ⟨rfl, g0⟩, hf⟩ }],
      orcT 64 [
        { args := [.one (.lit (.bool false)), .one (.atom (.sym 15)), .one (.atom (.sym 17)), .one (.atom (.sym 1))], ans := .v (.one (.lit (.bool upb))), ok := by
            intro B ρ w S vs hS hr
            match vs, hr with
            | [u0, u1, u2, u3], ⟨z0, z1, z2, z3, _⟩ =>
              obtain ⟨rfl, _⟩ : u0 = _ ∧ _ := z0
              obtain ⟨rfl, _⟩ : u1 = _ ∧ _ := z1
              obtain ⟨rfl, _⟩ : u2 = _ ∧ _ := z2
              obtain ⟨rfl, _⟩ : u3 = _ ∧ _ := z3
              refine (cUp _).mono ?_
              rintro e w' ⟨rfl, hf⟩
              exact ⟨_, rfl, ⟨rfl, rfl⟩, hf⟩ }],
      orcT 65 [
        { args := [.one (.lit (.bool false)), .one (.atom (.sym 13)), .one (.atom (.sym 10)), .one (.atom (.sym 1)), .one (.lit (.int .i64 (0)))], ans := .tup [.one (.atom (.sym 19)), .one (.atom (.sym 20))], ok := by
            intro B ρ w S vs hS hr
            match vs, hr with
            | [u0, u1, u2, u3, u4], ⟨z0, z1, z2, z3, z4, _⟩ =>
              obtain ⟨rfl, _⟩ : u0 = _ ∧ _ := z0
              obtain ⟨rfl, _⟩ : u1 = _ ∧ _ := z1
              obtain ⟨rfl, _⟩ : u2 = _ ∧ _ := z2
              obtain ⟨rfl, _⟩ : u3 = _ ∧ _ := z3
              obtain ⟨rfl, _⟩ : u4 = _ ∧ _ := z4
              refine (cPk _ (q + 0) 0 (by omega)).mono ?_
              rintro e w' ⟨rfl, hf⟩
              exact ⟨_, rfl, ⟨[_, _], rfl, ⟨rfl, fun _ => trivial⟩, ⟨rfl, fun _ => trivial⟩, trivial⟩, hf⟩ },
        { args := [.one (.lit (.bool false)), .one (.atom (.sym 13)), .one (.atom (.sym 10)), .one (.atom (.sym 1)), .one (.lit (.int .i64 (1)))], ans := .tup [.one (.atom (.sym 21)), .one (.atom (.sym 22))], ok := by
            intro B ρ w S vs hS hr
            match vs, hr with
            | [u0, u1, u2, u3, u4], ⟨z0, z1, z2, z3, z4, _⟩ =>
              obtain ⟨rfl, _⟩ : u0 = _ ∧ _ := z0
              obtain ⟨rfl, _⟩ : u1 = _ ∧ _ := z1
              obtain ⟨rfl, _⟩ : u2 = _ ∧ _ := z2
              obtain ⟨rfl, _⟩ : u3 = _ ∧ _ := z3
              obtain ⟨rfl, _⟩ : u4 = _ ∧ _ := z4
              refine (cPk _ (q + 0) 1 (by omega)).mono ?_
              rintro e w' ⟨rfl, hf⟩
              exact ⟨_, rfl, ⟨[_, _], rfl, ⟨rfl, fun _ => trivial⟩, ⟨rfl, fun _ => trivial⟩, trivial⟩, hf⟩ },
        { args := [.one (.lit (.bool false)), .one (.atom (.sym 18)), .one (.atom (.sym 10)), .one (.atom (.sym 1)), .one (.lit (.int .i64 (1)))], ans := .tup [.one (.atom (.sym 23)), .one (.atom (.sym 24))], ok := by
            intro B ρ w S vs hS hr
            match vs, hr with
            | [u0, u1, u2, u3, u4], ⟨z0, z1, z2, z3, z4, _⟩ =>
              obtain ⟨rfl, _⟩ : u0 = _ ∧ _ := z0
              obtain ⟨rfl, _⟩ : u1 = _ ∧ _ := z1
              obtain ⟨rfl, _⟩ : u2 = _ ∧ _ := z2
              obtain ⟨rfl, _⟩ : u3 = _ ∧ _ := z3
              obtain ⟨rfl, _⟩ : u4 = _ ∧ _ := z4
              refine (cPk _ (q + 1) 1 (by omega)).mono ?_
              rintro e w' ⟨rfl, hf⟩
              exact ⟨_, rfl, ⟨[_, _], rfl, ⟨rfl, fun _ => trivial⟩, ⟨rfl, fun _ => trivial⟩, trivial⟩, hf⟩ }]], rfl⟩
    (opH_le (bigHook_le _ _) (opH_le (symHook_le _ _ _) (tabHook_le _ _)))
    (opH_ok (bigHook_ok _) (opH_ok (symHook_ok _ (fun h => by cases h) (fun h => by cases h)) (tabHook_ok _ (all_cons (BOk.mk rfl rfl rfl (fun _ _ _ => trivial) rfl rfl (bo_sub (wr64 (by omega) (by omega)))) (all_cons (BOk.mk rfl rfl rfl (fun _ _ _ => trivial) rfl rfl (bo_add (by rw [hpp]; exact wr64 (by omega) (by omega)))) (all_cons (BOk.mk rfl rfl rfl (fun _ _ _ => trivial) rfl rfl (bo_remI p (by omega) (by omega))) (all_cons (BOk.mk rfl rfl rfl (fun _ _ _ => trivial) rfl rfl (bo_neq (by rw [tmod_two]; simp; omega))) (all_cons (BOk.mk rfl rfl rfl (fun _ _ _ => trivial) rfl rfl (bo_quoI p (by omega) (by omega) (by omega))) (all_cons (BOk.mk rfl rfl rfl (fun _ _ _ => trivial) rfl rfl (bo_sub (by rw [wr64 (by omega) (by omega)]; omega))) (all_cons (BOk.mk rfl rfl rfl (fun _ _ _ => trivial) rfl rfl (bo_mulI U (by omega) (by omega))) (all_cons (BOk.mk rfl rfl rfl (fun _ _ _ => trivial) rfl rfl (bo_sub (wr64 (by omega) (by omega)))) (all_cons (BOk.mk rfl rfl rfl (fun _ _ _ => trivial) rfl rfl (bo_neq hcx1)) (all_cons (BOk.mk rfl rfl rfl (fun _ _ _ => trivial) rfl rfl (bo_rem2 _ (by omega))) (all_cons (BOk.mk rfl rfl rfl (fun _ _ _ => trivial) rfl rfl (bo_eql (by congr 1; exact propext ⟨fun h => by omega, fun h => by omega⟩))) (all_cons (BOk.mk rfl rfl rfl (fun _ _ _ => trivial) rfl rfl (bo_add hv1)) all_nil)))))))))))) all_nil)))
  refine (told_call (M := (DomQ true ν σ (fun _ => none))) (cx := ⟨Tryd.prog, true, t.get, orcD (sq3eD ex upb), (opH (bigHook Tryd.prog true) (opH (symHook Tryd.prog sq3eN (fun _ _ _ => none)) (tabHook (sq3eL ex upb) sq3eM)))⟩) (xs := [.one (.atom (.sym 0)), .one (.atom (.sym 1))]) (vs := [.int .u64 f, .int .i64 m]) Tryd.checked.mixed hcx (fun hg => by cases hg) ⟨⟨rfl, fun _ => trivial⟩, ⟨rfl, fun _ => trivial⟩, trivial⟩ he).mono ?_
  rintro e w' ⟨v, ρ', rfl, hv, hbel⟩
  cases ex <;> cases upb
  all_goals
    obtain ⟨us, rfl, hu⟩ := hv
    match us, hu with
    | [c0, c1], ⟨r0, r1, _⟩ =>
      obtain ⟨rfl, _⟩ : c0 = _ ∧ _ := r0
      obtain ⟨rfl, _⟩ : c1 = _ ∧ _ := r1
      exact ⟨rfl, hbel⟩

theorem sqrt3_any {w : World} (m : Int) (f : Nat) (hf : f < 18446744073709551616) :
    Calls Tryd.prog 35 #[.int .u64 f, .int .i64 m] w fun e w' => e = .returned (.tuple #[.int .u64 ((sqrtF m f).1 : Nat), .int .i64 ((sqrtF m f).2 : Nat)]) ∧ Fwd w w' := by
  rcases kinds f with a | a | a | ⟨a, a'⟩
  · exact sq3N_tab m f hf a
  · cases hs : fneg f with
    | true => exact sq3M_tab m f hf (by omega) (by omega) hs
    | false => exact sq3I_tab m f hf a hs
  · exact sq3Z_tab m f hf a
  · cases hs : fneg f with
    | true => exact sq3M_tab m f hf a (by omega) hs
    | false =>
      by_cases c : ((blen (vsz f) : Int) - 1 + vex f) % 2 = 1
      · exact sq3o_tab m f hf a a' hs c rfl rfl
      · exact sq3e_tab m f hf a a' hs (by omega) rfl rfl
end Go.Proofs.YtcfhajnboamnnaaDoor
