/- The second telling of floats: Sub, Fma, by the reader upon letters. -/
import Derived.Test.YtcfhajnboamnnaaDoorXF36
import Derived.Test.YtcfhajnboamnnaaDoorKJ
import Derived.Test.YtcfhajnboamnnaaDoorXFB
namespace Go.Proofs.YtcfhajnboamnnaaDoor
open Go.RowKit Go.Ev
set_option linter.unusedVariables false
set_option linter.unusedSimpArgs false

theorem bo_xor {a c : Nat} {b : Int} (h : bits .xor .u64 (a : Int) b = (c : Int)) (t : TypeId) : binOp .xor t (.int .u64 (a : Int)) (.int .u64 b) = pure (.int .u64 (c : Int)) := by
  rw [binOp_xor, ← h]; rfl

theorem flipF_lt {g : Nat} (hg : g < 18446744073709551616) : flipF g < 18446744073709551616 := by unfold flipF; split <;> omega

def sub3D : List (FuncId × Ans) :=
  [(27, ansT [([.one (.atom (.sym 0)), .one (.atom (.sym 3)), .one (.atom (.sym 2))], .tup [.one (.atom (.sym 4)), .one (.atom (.sym 5))])])]
def sub3L : BT := [(.xor, .atom (.sym 1), .lit (.int .u64 9223372036854775808), .atom (.sym 3))]
def sub3M : BT := []
def sub3N : At → Option Nat
  | _ => none

set_option maxRecDepth 1000000 in
theorem sub3Told : ∃ t : Tr Func, TabOK Tryd.prog t ∧ (isAV (.tup [.one (.atom (.sym 4)), .one (.atom (.sym 5))]) (evalCall ⟨Tryd.prog, true, t.get, orcD (sub3D ), (opH (bigHook Tryd.prog true) (opH (symHook Tryd.prog sub3N (fun _ _ _ => none)) (tabHook (sub3L ) sub3M)))⟩ 1000 29 [.one (.atom (.sym 0)), .one (.atom (.sym 1)), .one (.atom (.sym 2))] .e 0) = true) :=
  ⟨((Tr.e).put 29 (some Tryd.f29)).put 27 (some Tryd.f27),
   (TabOK.put (TabOK.put (TabOK.e _) ⟨Tryd.func29, by decide +kernel, by decide +kernel⟩) ⟨Tryd.func27, by decide +kernel, by decide +kernel⟩),
   by decide +kernel⟩

set_option maxHeartbeats 4000000 in
set_option maxRecDepth 100000 in
theorem sub3_tab {w : World} (m : Int) (f g : Nat) (hf : f < 18446744073709551616) (hg : g < 18446744073709551616) :
    Calls Tryd.prog 29 #[.int .u64 f, .int .u64 g, .int .i64 m] w fun e w' => e = .returned (.tuple #[.int .u64 ((addF m f (flipF g)).1 : Nat), .int .i64 ((addF m f (flipF g)).2 : Nat)]) ∧ Below w.heap.size w w' := by
  obtain ⟨t, ht, hr⟩ := sub3Told
  obtain ⟨dl, n', he⟩ := isAV_ok (hr)
  let ν : Nat → Rat := nuL [] []
  let σ : SymD := symL [.u f, .u g, .i m, .u (flipF g), .u (addF m f (flipF g)).1, .i ((addF m f (flipF g)).2 : Int)]
  have hcx : CxOK (DomQ true ν σ (fun _ => none)) w.heap.size ⟨Tryd.prog, true, t.get, orcD (sub3D ), (opH (bigHook Tryd.prog true) (opH (symHook Tryd.prog sub3N (fun _ _ _ => none)) (tabHook (sub3L ) sub3M)))⟩ := cxS_ok (M := (DomQ true ν σ (fun _ => none))) ht ⟨[
      orcT 27 [
        { args := [.one (.atom (.sym 0)), .one (.atom (.sym 3)), .one (.atom (.sym 2))], ans := .tup [.one (.atom (.sym 4)), .one (.atom (.sym 5))], ok := by
            intro B ρ w S vs hS hr
            match vs, hr with
            | [u0, u1, u2], ⟨z0, z1, z2, _⟩ =>
              obtain ⟨rfl, _⟩ : u0 = _ ∧ _ := z0
              obtain ⟨rfl, _⟩ : u1 = _ ∧ _ := z1
              obtain ⟨rfl, _⟩ : u2 = _ ∧ _ := z2
              refine (add3_any m f (flipF g) hf (flipF_lt hg)).mono ?_
              rintro e w' ⟨rfl, hf⟩
              exact ⟨_, rfl, ⟨[_, _], rfl, ⟨rfl, fun _ => trivial⟩, ⟨rfl, fun _ => trivial⟩, trivial⟩, hf⟩ }]], rfl⟩
    (opH_le (bigHook_le _ _) (opH_le (symHook_le _ _ _) (tabHook_le _ _)))
    (opH_ok (bigHook_ok _) (opH_ok (symHook_ok _ (fun h => by cases h) (fun h => by cases h)) (tabHook_ok _ (all_cons (BOk.mk rfl rfl rfl (fun _ _ _ => trivial) rfl rfl (bo_xor (xor_sign g hg))) all_nil) all_nil)))
  refine (told_call (M := (DomQ true ν σ (fun _ => none))) (cx := ⟨Tryd.prog, true, t.get, orcD (sub3D ), (opH (bigHook Tryd.prog true) (opH (symHook Tryd.prog sub3N (fun _ _ _ => none)) (tabHook (sub3L ) sub3M)))⟩) (xs := [.one (.atom (.sym 0)), .one (.atom (.sym 1)), .one (.atom (.sym 2))]) (vs := [.int .u64 f, .int .u64 g, .int .i64 m]) Tryd.checked.mixed hcx (fun hg => by cases hg) ⟨⟨rfl, fun _ => trivial⟩, ⟨rfl, fun _ => trivial⟩, ⟨rfl, fun _ => trivial⟩, trivial⟩ he).mono ?_
  rintro e w' ⟨v, ρ', rfl, hv, hbel⟩
  obtain ⟨us, rfl, hu⟩ := hv
  match us, hu with
  | [c0, c1], ⟨r0, r1, _⟩ =>
    obtain ⟨rfl, _⟩ : c0 = _ ∧ _ := r0
    obtain ⟨rfl, _⟩ : c1 = _ ∧ _ := r1
    exact ⟨rfl, hbel⟩

theorem sub3_any {w : World} (m : Int) (f g : Nat) (hf : f < 18446744073709551616) (hg : g < 18446744073709551616) :
    Calls Tryd.prog 29 #[.int .u64 f, .int .u64 g, .int .i64 m] w fun e w' => e = .returned (.tuple #[.int .u64 ((addF m f (flipF g)).1 : Nat), .int .i64 ((addF m f (flipF g)).2 : Nat)]) ∧ Fwd w w' := sub3_tab m f g hf hg

def fma3NQQD (sa : Bool) (sb : Bool) : List (FuncId × Ans) :=
  [(52, ansT [([.one (.atom (.sym 0))], .v (.one (.lit (.bool true))))]),
   (56, ansT [([.one (.atom (.sym 0))], .v (.one (.lit (.bool sa)))), ([.one (.atom (.sym 1))], .v (.one (.lit (.bool sb))))])]
def fma3NQQL (sa : Bool) (sb : Bool) : BT := []
def fma3NQQM : BT := []
def fma3NQQN : At → Option Nat
  | _ => none

set_option maxRecDepth 1000000 in
theorem fma3NQQTold : ∃ t : Tr Func, TabOK Tryd.prog t ∧ (∀ (sa : Bool) (sb : Bool), isAV (.tup [.one (.lit (.int .u64 9221120237041090560)), .one (.lit (.int .i64 (0)))]) (evalCall ⟨Tryd.prog, true, t.get, orcD (fma3NQQD sa sb), (opH (bigHook Tryd.prog true) (opH (symHook Tryd.prog fma3NQQN (fun _ _ _ => none)) (tabHook (fma3NQQL sa sb) fma3NQQM)))⟩ 1000 37 [.one (.atom (.sym 0)), .one (.atom (.sym 1)), .one (.atom (.sym 2)), .one (.atom (.sym 3))] .e 0) = true) :=
  ⟨(((Tr.e).put 37 (some Tryd.f37)).put 52 (some Tryd.f52)).put 56 (some Tryd.f56),
   (TabOK.put (TabOK.put (TabOK.put (TabOK.e _) ⟨Tryd.func37, by decide +kernel, by decide +kernel⟩) ⟨Tryd.func52, by decide +kernel, by decide +kernel⟩) ⟨Tryd.func56, by decide +kernel, by decide +kernel⟩),
   by decide +kernel⟩

set_option maxHeartbeats 4000000 in
set_option maxRecDepth 100000 in
theorem fma3NQQ_tab {w : World} (m : Int) (f g h : Nat) (hf : f < 18446744073709551616) (hg : g < 18446744073709551616) (hh : h < 18446744073709551616) (Kf : isNan f = true)   {sa sb : Bool} (hsa : fneg f = sa) (hsb : fneg g = sb) :
    Calls Tryd.prog 37 #[.int .u64 f, .int .u64 g, .int .u64 h, .int .i64 m] w fun e w' => e = .returned (.tuple #[.int .u64 ((fmaF m f g h).1 : Nat), .int .i64 ((fmaF m f g h).2 : Nat)]) ∧ Below w.heap.size w w' := by
  have cnf : ∀ (w : World), Calls Tryd.prog 52 #[.int .u64 f] w fun e w' => e = .returned (.bool true) ∧ Fwd w w' := fun w => (none3_any f hf).mono fun e w' gg => ⟨by rw [gg.1, show isNan f = true from Kf], gg.2 ▸ Fwd.refl _⟩
  have cmf : ∀ (w : World), Calls Tryd.prog 56 #[.int .u64 f] w fun e w' => e = .returned (.bool sa) ∧ Fwd w w' := fun w => (minus3_any f hf).mono fun e w' gg => ⟨by rw [gg.1, hsa], gg.2 ▸ Fwd.refl _⟩
  have cmg : ∀ (w : World), Calls Tryd.prog 56 #[.int .u64 g] w fun e w' => e = .returned (.bool sb) ∧ Fwd w w' := fun w => (minus3_any g hg).mono fun e w' gg => ⟨by rw [gg.1, hsb], gg.2 ▸ Fwd.refl _⟩
  have hval : fmaF m f g h = _ := fmaF_nan (Or.inl Kf)
  rw [hval]
  obtain ⟨t, ht, hr⟩ := fma3NQQTold
  obtain ⟨dl, n', he⟩ := isAV_ok (hr sa sb)
  let ν : Nat → Rat := nuL [fvQ f, fvQ g, fvQ h, fvQ f * fvQ g] []
  let σ : SymD := symL [.u f, .u g, .u h, .i m]
  have hcx : CxOK (DomQ true ν σ (fun _ => none)) w.heap.size ⟨Tryd.prog, true, t.get, orcD (fma3NQQD sa sb), (opH (bigHook Tryd.prog true) (opH (symHook Tryd.prog fma3NQQN (fun _ _ _ => none)) (tabHook (fma3NQQL sa sb) fma3NQQM)))⟩ := cxS_ok (M := (DomQ true ν σ (fun _ => none))) ht ⟨[
      orcT 52 [
        { args := [.one (.atom (.sym 0))], ans := .v (.one (.lit (.bool true))), ok := by
            intro B ρ w S vs hS hr
            match vs, hr with
            | [u0], ⟨z0, _⟩ =>
              obtain ⟨rfl, _⟩ : u0 = _ ∧ _ := z0
              refine (cnf _).mono ?_
              rintro e w' ⟨rfl, hf⟩
              exact ⟨_, rfl, ⟨rfl, rfl⟩, hf⟩ }],
      orcT 56 [
        { args := [.one (.atom (.sym 0))], ans := .v (.one (.lit (.bool sa))), ok := by
            intro B ρ w S vs hS hr
            match vs, hr with
            | [u0], ⟨z0, _⟩ =>
              obtain ⟨rfl, _⟩ : u0 = _ ∧ _ := z0
              refine (cmf _).mono ?_
              rintro e w' ⟨rfl, hf⟩
              exact ⟨_, rfl, ⟨rfl, rfl⟩, hf⟩ },
        { args := [.one (.atom (.sym 1))], ans := .v (.one (.lit (.bool sb))), ok := by
            intro B ρ w S vs hS hr
            match vs, hr with
            | [u0], ⟨z0, _⟩ =>
              obtain ⟨rfl, _⟩ : u0 = _ ∧ _ := z0
              refine (cmg _).mono ?_
              rintro e w' ⟨rfl, hf⟩
              exact ⟨_, rfl, ⟨rfl, rfl⟩, hf⟩ }]], rfl⟩
    (opH_le (bigHook_le _ _) (opH_le (symHook_le _ _ _) (tabHook_le _ _)))
    (opH_ok (bigHook_ok _) (opH_ok (symHook_ok _ (fun h => by cases h) (fun h => by cases h)) (tabHook_ok _ all_nil all_nil)))
  refine (told_call (M := (DomQ true ν σ (fun _ => none))) (cx := ⟨Tryd.prog, true, t.get, orcD (fma3NQQD sa sb), (opH (bigHook Tryd.prog true) (opH (symHook Tryd.prog fma3NQQN (fun _ _ _ => none)) (tabHook (fma3NQQL sa sb) fma3NQQM)))⟩) (xs := [.one (.atom (.sym 0)), .one (.atom (.sym 1)), .one (.atom (.sym 2)), .one (.atom (.sym 3))]) (vs := [.int .u64 f, .int .u64 g, .int .u64 h, .int .i64 m]) Tryd.checked.mixed hcx (fun hg => by cases hg) ⟨⟨rfl, fun _ => trivial⟩, ⟨rfl, fun _ => trivial⟩, ⟨rfl, fun _ => trivial⟩, ⟨rfl, fun _ => trivial⟩, trivial⟩ he).mono ?_
  rintro e w' ⟨v, ρ', rfl, hv, hbel⟩
  obtain ⟨us, rfl, hu⟩ := hv
  match us, hu with
  | [c0, c1], ⟨r0, r1, _⟩ =>
    obtain ⟨rfl, _⟩ : c0 = _ ∧ _ := r0
    obtain ⟨rfl, _⟩ : c1 = _ ∧ _ := r1
    exact ⟨rfl, hbel⟩

def fma3ANQD (sa : Bool) (sb : Bool) : List (FuncId × Ans) :=
  [(52, ansT [([.one (.atom (.sym 0))], .v (.one (.lit (.bool false)))), ([.one (.atom (.sym 1))], .v (.one (.lit (.bool true))))]),
   (56, ansT [([.one (.atom (.sym 0))], .v (.one (.lit (.bool sa)))), ([.one (.atom (.sym 1))], .v (.one (.lit (.bool sb))))])]
def fma3ANQL (sa : Bool) (sb : Bool) : BT := []
def fma3ANQM : BT := []
def fma3ANQN : At → Option Nat
  | _ => none

set_option maxRecDepth 1000000 in
theorem fma3ANQTold : ∃ t : Tr Func, TabOK Tryd.prog t ∧ (∀ (sa : Bool) (sb : Bool), isAV (.tup [.one (.lit (.int .u64 9221120237041090560)), .one (.lit (.int .i64 (0)))]) (evalCall ⟨Tryd.prog, true, t.get, orcD (fma3ANQD sa sb), (opH (bigHook Tryd.prog true) (opH (symHook Tryd.prog fma3ANQN (fun _ _ _ => none)) (tabHook (fma3ANQL sa sb) fma3ANQM)))⟩ 1000 37 [.one (.atom (.sym 0)), .one (.atom (.sym 1)), .one (.atom (.sym 2)), .one (.atom (.sym 3))] .e 0) = true) :=
  ⟨(((Tr.e).put 37 (some Tryd.f37)).put 52 (some Tryd.f52)).put 56 (some Tryd.f56),
   (TabOK.put (TabOK.put (TabOK.put (TabOK.e _) ⟨Tryd.func37, by decide +kernel, by decide +kernel⟩) ⟨Tryd.func52, by decide +kernel, by decide +kernel⟩) ⟨Tryd.func56, by decide +kernel, by decide +kernel⟩),
   by decide +kernel⟩

set_option maxHeartbeats 4000000 in
set_option maxRecDepth 100000 in
theorem fma3ANQ_tab {w : World} (m : Int) (f g h : Nat) (hf : f < 18446744073709551616) (hg : g < 18446744073709551616) (hh : h < 18446744073709551616) (Kf : isNan f = false) (Kg : isNan g = true)  {sa sb : Bool} (hsa : fneg f = sa) (hsb : fneg g = sb) :
    Calls Tryd.prog 37 #[.int .u64 f, .int .u64 g, .int .u64 h, .int .i64 m] w fun e w' => e = .returned (.tuple #[.int .u64 ((fmaF m f g h).1 : Nat), .int .i64 ((fmaF m f g h).2 : Nat)]) ∧ Below w.heap.size w w' := by
  have cnf : ∀ (w : World), Calls Tryd.prog 52 #[.int .u64 f] w fun e w' => e = .returned (.bool false) ∧ Fwd w w' := fun w => (none3_any f hf).mono fun e w' gg => ⟨by rw [gg.1, show isNan f = false from Kf], gg.2 ▸ Fwd.refl _⟩
  have cng : ∀ (w : World), Calls Tryd.prog 52 #[.int .u64 g] w fun e w' => e = .returned (.bool true) ∧ Fwd w w' := fun w => (none3_any g hg).mono fun e w' gg => ⟨by rw [gg.1, show isNan g = true from Kg], gg.2 ▸ Fwd.refl _⟩
  have cmf : ∀ (w : World), Calls Tryd.prog 56 #[.int .u64 f] w fun e w' => e = .returned (.bool sa) ∧ Fwd w w' := fun w => (minus3_any f hf).mono fun e w' gg => ⟨by rw [gg.1, hsa], gg.2 ▸ Fwd.refl _⟩
  have cmg : ∀ (w : World), Calls Tryd.prog 56 #[.int .u64 g] w fun e w' => e = .returned (.bool sb) ∧ Fwd w w' := fun w => (minus3_any g hg).mono fun e w' gg => ⟨by rw [gg.1, hsb], gg.2 ▸ Fwd.refl _⟩
  have hval : fmaF m f g h = _ := fmaF_nan (Or.inr (Or.inl Kg))
  rw [hval]
  obtain ⟨t, ht, hr⟩ := fma3ANQTold
  obtain ⟨dl, n', he⟩ := isAV_ok (hr sa sb)
  let ν : Nat → Rat := nuL [fvQ f, fvQ g, fvQ h, fvQ f * fvQ g] []
  let σ : SymD := symL [.u f, .u g, .u h, .i m]
  have hcx : CxOK (DomQ true ν σ (fun _ => none)) w.heap.size ⟨Tryd.prog, true, t.get, orcD (fma3ANQD sa sb), (opH (bigHook Tryd.prog true) (opH (symHook Tryd.prog fma3ANQN (fun _ _ _ => none)) (tabHook (fma3ANQL sa sb) fma3ANQM)))⟩ := cxS_ok (M := (DomQ true ν σ (fun _ => none))) ht ⟨[
      orcT 52 [
        { args := [.one (.atom (.sym 0))], ans := .v (.one (.lit (.bool false))), ok := by
            intro B ρ w S vs hS hr
            match vs, hr with
            | [u0], ⟨z0, _⟩ =>
              obtain ⟨rfl, _⟩ : u0 = _ ∧ _ := z0
              refine (cnf _).mono ?_
              rintro e w' ⟨rfl, hf⟩
              exact ⟨_, rfl, ⟨rfl, rfl⟩, hf⟩ },
        { args := [.one (.atom (.sym 1))], ans := .v (.one (.lit (.bool true))), ok := by
            intro B ρ w S vs hS hr
            match vs, hr with
            | [u0], ⟨z0, _⟩ =>
              obtain ⟨rfl, _⟩ : u0 = _ ∧ _ := z0
              refine (cng _).mono ?_
              rintro e w' ⟨rfl, hf⟩
              exact ⟨_, rfl, ⟨rfl, rfl⟩, hf⟩ }],
      orcT 56 [
        { args := [.one (.atom (.sym 0))], ans := .v (.one (.lit (.bool sa))), ok := by
            intro B ρ w S vs hS hr
            match vs, hr with
            | [u0], ⟨z0, _⟩ =>
              obtain ⟨rfl, _⟩ : u0 = _ ∧ _ := z0
              refine (cmf _).mono ?_
              rintro e w' ⟨rfl, hf⟩
              exact ⟨_, rfl, ⟨rfl, rfl⟩, hf⟩ },
        { args := [.one (.atom (.sym 1))], ans := .v (.one (.lit (.bool sb))), ok := by
            intro B ρ w S vs hS hr
            match vs, hr with
            | [u0], ⟨z0, _⟩ =>
              obtain ⟨rfl, _⟩ : u0 = _ ∧ _ := z0
              refine (cmg _).mono ?_
              rintro e w' ⟨rfl, hf⟩
              exact ⟨_, rfl, ⟨rfl, rfl⟩, hf⟩ }]], rfl⟩
    (opH_le (bigHook_le _ _) (opH_le (symHook_le _ _ _) (tabHook_le _ _)))
    (opH_ok (bigHook_ok _) (opH_ok (symHook_ok _ (fun h => by cases h) (fun h => by cases h)) (tabHook_ok _ all_nil all_nil)))
  refine (told_call (M := (DomQ true ν σ (fun _ => none))) (cx := ⟨Tryd.prog, true, t.get, orcD (fma3ANQD sa sb), (opH (bigHook Tryd.prog true) (opH (symHook Tryd.prog fma3ANQN (fun _ _ _ => none)) (tabHook (fma3ANQL sa sb) fma3ANQM)))⟩) (xs := [.one (.atom (.sym 0)), .one (.atom (.sym 1)), .one (.atom (.sym 2)), .one (.atom (.sym 3))]) (vs := [.int .u64 f, .int .u64 g, .int .u64 h, .int .i64 m]) Tryd.checked.mixed hcx (fun hg => by cases hg) ⟨⟨rfl, fun _ => trivial⟩, ⟨rfl, fun _ => trivial⟩, ⟨rfl, fun _ => trivial⟩, ⟨rfl, fun _ => trivial⟩, trivial⟩ he).mono ?_
  rintro e w' ⟨v, ρ', rfl, hv, hbel⟩
  obtain ⟨us, rfl, hu⟩ := hv
  match us, hu with
  | [c0, c1], ⟨r0, r1, _⟩ =>
    obtain ⟨rfl, _⟩ : c0 = _ ∧ _ := r0
    obtain ⟨rfl, _⟩ : c1 = _ ∧ _ := r1
    exact ⟨rfl, hbel⟩

def fma3AAND (sa : Bool) (sb : Bool) : List (FuncId × Ans) :=
  [(52, ansT [([.one (.atom (.sym 0))], .v (.one (.lit (.bool false)))), ([.one (.atom (.sym 1))], .v (.one (.lit (.bool false)))), ([.one (.atom (.sym 2))], .v (.one (.lit (.bool true))))]),
   (56, ansT [([.one (.atom (.sym 0))], .v (.one (.lit (.bool sa)))), ([.one (.atom (.sym 1))], .v (.one (.lit (.bool sb))))])]
def fma3AANL (sa : Bool) (sb : Bool) : BT := []
def fma3AANM : BT := []
def fma3AANN : At → Option Nat
  | _ => none

set_option maxRecDepth 1000000 in
theorem fma3AANTold : ∃ t : Tr Func, TabOK Tryd.prog t ∧ (∀ (sa : Bool) (sb : Bool), isAV (.tup [.one (.lit (.int .u64 9221120237041090560)), .one (.lit (.int .i64 (0)))]) (evalCall ⟨Tryd.prog, true, t.get, orcD (fma3AAND sa sb), (opH (bigHook Tryd.prog true) (opH (symHook Tryd.prog fma3AANN (fun _ _ _ => none)) (tabHook (fma3AANL sa sb) fma3AANM)))⟩ 1000 37 [.one (.atom (.sym 0)), .one (.atom (.sym 1)), .one (.atom (.sym 2)), .one (.atom (.sym 3))] .e 0) = true) :=
  ⟨(((Tr.e).put 37 (some Tryd.f37)).put 52 (some Tryd.f52)).put 56 (some Tryd.f56),
   (TabOK.put (TabOK.put (TabOK.put (TabOK.e _) ⟨Tryd.func37, by decide +kernel, by decide +kernel⟩) ⟨Tryd.func52, by decide +kernel, by decide +kernel⟩) ⟨Tryd.func56, by decide +kernel, by decide +kernel⟩),
   by decide +kernel⟩

set_option maxHeartbeats 4000000 in
set_option maxRecDepth 100000 in
theorem fma3AAN_tab {w : World} (m : Int) (f g h : Nat) (hf : f < 18446744073709551616) (hg : g < 18446744073709551616) (hh : h < 18446744073709551616) (Kf : isNan f = false) (Kg : isNan g = false) (Kh : isNan h = true) {sa sb : Bool} (hsa : fneg f = sa) (hsb : fneg g = sb) :
    Calls Tryd.prog 37 #[.int .u64 f, .int .u64 g, .int .u64 h, .int .i64 m] w fun e w' => e = .returned (.tuple #[.int .u64 ((fmaF m f g h).1 : Nat), .int .i64 ((fmaF m f g h).2 : Nat)]) ∧ Below w.heap.size w w' := by
  have cnf : ∀ (w : World), Calls Tryd.prog 52 #[.int .u64 f] w fun e w' => e = .returned (.bool false) ∧ Fwd w w' := fun w => (none3_any f hf).mono fun e w' gg => ⟨by rw [gg.1, show isNan f = false from Kf], gg.2 ▸ Fwd.refl _⟩
  have cng : ∀ (w : World), Calls Tryd.prog 52 #[.int .u64 g] w fun e w' => e = .returned (.bool false) ∧ Fwd w w' := fun w => (none3_any g hg).mono fun e w' gg => ⟨by rw [gg.1, show isNan g = false from Kg], gg.2 ▸ Fwd.refl _⟩
  have cnh : ∀ (w : World), Calls Tryd.prog 52 #[.int .u64 h] w fun e w' => e = .returned (.bool true) ∧ Fwd w w' := fun w => (none3_any h hh).mono fun e w' gg => ⟨by rw [gg.1, show isNan h = true from Kh], gg.2 ▸ Fwd.refl _⟩
  have cmf : ∀ (w : World), Calls Tryd.prog 56 #[.int .u64 f] w fun e w' => e = .returned (.bool sa) ∧ Fwd w w' := fun w => (minus3_any f hf).mono fun e w' gg => ⟨by rw [gg.1, hsa], gg.2 ▸ Fwd.refl _⟩
  have cmg : ∀ (w : World), Calls Tryd.prog 56 #[.int .u64 g] w fun e w' => e = .returned (.bool sb) ∧ Fwd w w' := fun w => (minus3_any g hg).mono fun e w' gg => ⟨by rw [gg.1, hsb], gg.2 ▸ Fwd.refl _⟩
  have hval : fmaF m f g h = _ := fmaF_nan (Or.inr (Or.inr Kh))
  rw [hval]
  obtain ⟨t, ht, hr⟩ := fma3AANTold
  obtain ⟨dl, n', he⟩ := isAV_ok (hr sa sb)
  let ν : Nat → Rat := nuL [fvQ f, fvQ g, fvQ h, fvQ f * fvQ g] []
  let σ : SymD := symL [.u f, .u g, .u h, .i m]
  have hcx : CxOK (DomQ true ν σ (fun _ => none)) w.heap.size ⟨Tryd.prog, true, t.get, orcD (fma3AAND sa sb), (opH (bigHook Tryd.prog true) (opH (symHook Tryd.prog fma3AANN (fun _ _ _ => none)) (tabHook (fma3AANL sa sb) fma3AANM)))⟩ := cxS_ok (M := (DomQ true ν σ (fun _ => none))) ht ⟨[
      orcT 52 [
        { args := [.one (.atom (.sym 0))], ans := .v (.one (.lit (.bool false))), ok := by
            intro B ρ w S vs hS hr
            match vs, hr with
            | [u0], ⟨z0, _⟩ =>
              obtain ⟨rfl, _⟩ : u0 = _ ∧ _ := z0
              refine (cnf _).mono ?_
              rintro e w' ⟨rfl, hf⟩
              exact ⟨_, rfl, ⟨rfl, rfl⟩, hf⟩ },
        { args := [.one (.atom (.sym 1))], ans := .v (.one (.lit (.bool false))), ok := by
            intro B ρ w S vs hS hr
            match vs, hr with
            | [u0], ⟨z0, _⟩ =>
              obtain ⟨rfl, _⟩ : u0 = _ ∧ _ := z0
              refine (cng _).mono ?_
              rintro e w' ⟨rfl, hf⟩
              exact ⟨_, rfl, ⟨rfl, rfl⟩, hf⟩ },
        { args := [.one (.atom (.sym 2))], ans := .v (.one (.lit (.bool true))), ok := by
            intro B ρ w S vs hS hr
            match vs, hr with
            | [u0], ⟨z0, _⟩ =>
              obtain ⟨rfl, _⟩ : u0 = _ ∧ _ := z0
              refine (cnh _).mono ?_
              rintro e w' ⟨rfl, hf⟩
              exact ⟨_, rfl, ⟨rfl, rfl⟩, hf⟩ }],
      orcT 56 [
        { args := [.one (.atom (.sym 0))], ans := .v (.one (.lit (.bool sa))), ok := by
            intro B ρ w S vs hS hr
            match vs, hr with
            | [u0], ⟨z0, _⟩ =>
              obtain ⟨rfl, _⟩ : u0 = _ ∧ _ := z0
              refine (cmf _).mono ?_
              rintro e w' ⟨rfl, hf⟩
              exact ⟨_, rfl, ⟨rfl, rfl⟩, hf⟩ },
        { args := [.one (.atom (.sym 1))], ans := .v (.one (.lit (.bool sb))), ok := by
            intro B ρ w S vs hS hr
            match vs, hr with
            | [u0], ⟨z0, _⟩ =>
              obtain ⟨rfl, _⟩ : u0 = _ ∧ _ := z0
              refine (cmg _).mono ?_
              rintro e w' ⟨rfl, hf⟩
              exact ⟨_, rfl, ⟨rfl, rfl⟩, hf⟩ }]], rfl⟩
    (opH_le (bigHook_le _ _) (opH_le (symHook_le _ _ _) (tabHook_le _ _)))
    (opH_ok (bigHook_ok _) (opH_ok (symHook_ok _ (fun h => by cases h) (fun h => by cases h)) (tabHook_ok _ all_nil all_nil)))
  refine (told_call (M := (DomQ true ν σ (fun _ => none))) (cx := ⟨Tryd.prog, true, t.get, orcD (fma3AAND sa sb), (opH (bigHook Tryd.prog true) (opH (symHook Tryd.prog fma3AANN (fun _ _ _ => none)) (tabHook (fma3AANL sa sb) fma3AANM)))⟩) (xs := [.one (.atom (.sym 0)), .one (.atom (.sym 1)), .one (.atom (.sym 2)), .one (.atom (.sym 3))]) (vs := [.int .u64 f, .int .u64 g, .int .u64 h, .int .i64 m]) Tryd.checked.mixed hcx (fun hg => by cases hg) ⟨⟨rfl, fun _ => trivial⟩, ⟨rfl, fun _ => trivial⟩, ⟨rfl, fun _ => trivial⟩, ⟨rfl, fun _ => trivial⟩, trivial⟩ he).mono ?_
  rintro e w' ⟨v, ρ', rfl, hv, hbel⟩
  obtain ⟨us, rfl, hu⟩ := hv
  match us, hu with
  | [c0, c1], ⟨r0, r1, _⟩ =>
    obtain ⟨rfl, _⟩ : c0 = _ ∧ _ := r0
    obtain ⟨rfl, _⟩ : c1 = _ ∧ _ := r1
    exact ⟨rfl, hbel⟩

def fma3IIAD (sa : Bool) (sb : Bool) : List (FuncId × Ans) :=
  [(52, ansT [([.one (.atom (.sym 0))], .v (.one (.lit (.bool false)))), ([.one (.atom (.sym 1))], .v (.one (.lit (.bool false)))), ([.one (.atom (.sym 2))], .v (.one (.lit (.bool false))))]),
   (53, ansT [([.one (.atom (.sym 0))], .v (.one (.lit (.bool true)))), ([.one (.atom (.sym 1))], .v (.one (.lit (.bool true))))]),
   (57, ansT [([.one (.atom (.sym 0))], .v (.one (.lit (.bool false)))), ([.one (.atom (.sym 1))], .v (.one (.lit (.bool false))))]),
   (58, ansT [([.one (.lit (.bool (sa != sb))), .one (.lit (.int .u64 9218868437227405312))], .v (.one (.atom (.sym 4))))]),
   (27, ansT [([.one (.atom (.sym 4)), .one (.atom (.sym 2)), .one (.atom (.sym 3))], .tup [.one (.atom (.sym 5)), .one (.atom (.sym 6))])]),
   (56, ansT [([.one (.atom (.sym 0))], .v (.one (.lit (.bool sa)))), ([.one (.atom (.sym 1))], .v (.one (.lit (.bool sb))))])]
def fma3IIAL (sa : Bool) (sb : Bool) : BT := []
def fma3IIAM : BT := []
def fma3IIAN : At → Option Nat
  | _ => none

set_option maxRecDepth 1000000 in
theorem fma3IIATold : ∃ t : Tr Func, TabOK Tryd.prog t ∧ (∀ (sa : Bool) (sb : Bool), isAV (.tup [.one (.atom (.sym 5)), .one (.atom (.sym 6))]) (evalCall ⟨Tryd.prog, true, t.get, orcD (fma3IIAD sa sb), (opH (bigHook Tryd.prog true) (opH (symHook Tryd.prog fma3IIAN (fun _ _ _ => none)) (tabHook (fma3IIAL sa sb) fma3IIAM)))⟩ 1000 37 [.one (.atom (.sym 0)), .one (.atom (.sym 1)), .one (.atom (.sym 2)), .one (.atom (.sym 3))] .e 0) = true) :=
  ⟨(((((((Tr.e).put 37 (some Tryd.f37)).put 52 (some Tryd.f52)).put 53 (some Tryd.f53)).put 57 (some Tryd.f57)).put 58 (some Tryd.f58)).put 27 (some Tryd.f27)).put 56 (some Tryd.f56),
   (TabOK.put (TabOK.put (TabOK.put (TabOK.put (TabOK.put (TabOK.put (TabOK.put (TabOK.e _) ⟨Tryd.func37, by decide +kernel, by decide +kernel⟩) ⟨Tryd.func52, by decide +kernel, by decide +kernel⟩) ⟨Tryd.func53, by decide +kernel, by decide +kernel⟩) ⟨Tryd.func57, by decide +kernel, by decide +kernel⟩) ⟨Tryd.func58, by decide +kernel, by decide +kernel⟩) ⟨Tryd.func27, by decide +kernel, by decide +kernel⟩) ⟨Tryd.func56, by decide +kernel, by decide +kernel⟩),
   by decide +kernel⟩

set_option maxHeartbeats 4000000 in
set_option maxRecDepth 100000 in
theorem fma3IIA_tab {w : World} (m : Int) (f g h : Nat) (hf : f < 18446744073709551616) (hg : g < 18446744073709551616) (hh : h < 18446744073709551616) (Kf : fsz f = 9218868437227405312) (Kg : fsz g = 9218868437227405312) (Kh : isNan h = false) {sa sb : Bool} (hsa : fneg f = sa) (hsb : fneg g = sb) :
    Calls Tryd.prog 37 #[.int .u64 f, .int .u64 g, .int .u64 h, .int .i64 m] w fun e w' => e = .returned (.tuple #[.int .u64 ((fmaF m f g h).1 : Nat), .int .i64 ((fmaF m f g h).2 : Nat)]) ∧ Below w.heap.size w w' := by
  have cnf : ∀ (w : World), Calls Tryd.prog 52 #[.int .u64 f] w fun e w' => e = .returned (.bool false) ∧ Fwd w w' := fun w => (none3_any f hf).mono fun e w' gg => ⟨by rw [gg.1, show isNan f = false from isNan_le (by omega)], gg.2 ▸ Fwd.refl _⟩
  have cif : ∀ (w : World), Calls Tryd.prog 53 #[.int .u64 f] w fun e w' => e = .returned (.bool true) ∧ Fwd w w' := fun w => (endless3_any f hf).mono fun e w' gg => ⟨by rw [gg.1, show decide (fsz f = 9218868437227405312) = true from decide_eq_true (by omega)], gg.2 ▸ Fwd.refl _⟩
  have czf : ∀ (w : World), Calls Tryd.prog 57 #[.int .u64 f] w fun e w' => e = .returned (.bool false) ∧ Fwd w w' := fun w => (nought3_any f hf).mono fun e w' gg => ⟨by rw [gg.1, show decide (fsz f = 0) = false from decide_eq_false (by omega)], gg.2 ▸ Fwd.refl _⟩
  have cng : ∀ (w : World), Calls Tryd.prog 52 #[.int .u64 g] w fun e w' => e = .returned (.bool false) ∧ Fwd w w' := fun w => (none3_any g hg).mono fun e w' gg => ⟨by rw [gg.1, show isNan g = false from isNan_le (by omega)], gg.2 ▸ Fwd.refl _⟩
  have cig : ∀ (w : World), Calls Tryd.prog 53 #[.int .u64 g] w fun e w' => e = .returned (.bool true) ∧ Fwd w w' := fun w => (endless3_any g hg).mono fun e w' gg => ⟨by rw [gg.1, show decide (fsz g = 9218868437227405312) = true from decide_eq_true (by omega)], gg.2 ▸ Fwd.refl _⟩
  have czg : ∀ (w : World), Calls Tryd.prog 57 #[.int .u64 g] w fun e w' => e = .returned (.bool false) ∧ Fwd w w' := fun w => (nought3_any g hg).mono fun e w' gg => ⟨by rw [gg.1, show decide (fsz g = 0) = false from decide_eq_false (by omega)], gg.2 ▸ Fwd.refl _⟩
  have cnh : ∀ (w : World), Calls Tryd.prog 52 #[.int .u64 h] w fun e w' => e = .returned (.bool false) ∧ Fwd w w' := fun w => (none3_any h hh).mono fun e w' gg => ⟨by rw [gg.1, show isNan h = false from Kh], gg.2 ▸ Fwd.refl _⟩
  have hcl : fsz h ≤ 9218868437227405312 := by unfold isNan at Kh; have := of_decide_eq_false Kh; omega
  have cS : ∀ (w : World), Calls Tryd.prog 58 #[.bool (sa != sb), .int .u64 9218868437227405312] w fun e w' => e = .returned (.int .u64 ((sgn (sa != sb) + 9218868437227405312 : Nat) : Int)) ∧ Fwd w w' := fun w => (signed3_any (sa != sb) 9218868437227405312 (by omega)).mono fun e w' gg => ⟨gg.1, gg.2 ▸ Fwd.refl _⟩
  have hsl : sgn (sa != sb) + 9218868437227405312 < 18446744073709551616 := by have := sgn_le (sa != sb); omega
  have cmf : ∀ (w : World), Calls Tryd.prog 56 #[.int .u64 f] w fun e w' => e = .returned (.bool sa) ∧ Fwd w w' := fun w => (minus3_any f hf).mono fun e w' gg => ⟨by rw [gg.1, hsa], gg.2 ▸ Fwd.refl _⟩
  have cmg : ∀ (w : World), Calls Tryd.prog 56 #[.int .u64 g] w fun e w' => e = .returned (.bool sb) ∧ Fwd w w' := fun w => (minus3_any g hg).mono fun e w' gg => ⟨by rw [gg.1, hsb], gg.2 ▸ Fwd.refl _⟩
  have hval : fmaF m f g h = addF m (sgn (sa != sb) + 9218868437227405312) h := by rw [← hsa, ← hsb]; exact fmaF_inf (by omega) hcl
  rw [hval]
  obtain ⟨t, ht, hr⟩ := fma3IIATold
  obtain ⟨dl, n', he⟩ := isAV_ok (hr sa sb)
  let ν : Nat → Rat := nuL [fvQ f, fvQ g, fvQ h, fvQ f * fvQ g] []
  let σ : SymD := symL [.u f, .u g, .u h, .i m, .u (sgn (sa != sb) + 9218868437227405312), .u (addF m (sgn (sa != sb) + 9218868437227405312) h).1, .i ((addF m (sgn (sa != sb) + 9218868437227405312) h).2 : Int)]
  have hcx : CxOK (DomQ true ν σ (fun _ => none)) w.heap.size ⟨Tryd.prog, true, t.get, orcD (fma3IIAD sa sb), (opH (bigHook Tryd.prog true) (opH (symHook Tryd.prog fma3IIAN (fun _ _ _ => none)) (tabHook (fma3IIAL sa sb) fma3IIAM)))⟩ := cxS_ok (M := (DomQ true ν σ (fun _ => none))) ht ⟨[
      orcT 52 [
        { args := [.one (.atom (.sym 0))], ans := .v (.one (.lit (.bool false))), ok := by
            intro B ρ w S vs hS hr
            match vs, hr with
            | [u0], ⟨z0, _⟩ =>
              obtain ⟨rfl, _⟩ : u0 = _ ∧ _ := z0
              refine (cnf _).mono ?_
              rintro e w' ⟨rfl, hf⟩
              exact ⟨_, rfl, ⟨rfl, rfl⟩, hf⟩ },
        { args := [.one (.atom (.sym 1))], ans := .v (.one (.lit (.bool false))), ok := by
            intro B ρ w S vs hS hr
            match vs, hr with
            | [u0], ⟨z0, _⟩ =>
              obtain ⟨rfl, _⟩ : u0 = _ ∧ _ := z0
              refine (cng _).mono ?_
              rintro e w' ⟨rfl, hf⟩
              exact ⟨_, rfl, ⟨rfl, rfl⟩, hf⟩ },
        { args := [.one (.atom (.sym 2))], ans := .v (.one (.lit (.bool false))), ok := by
            intro B ρ w S vs hS hr
            match vs, hr with
            | [u0], ⟨z0, _⟩ =>
              obtain ⟨rfl, _⟩ : u0 = _ ∧ _ := z0
              refine (cnh _).mono ?_
              rintro e w' ⟨rfl, hf⟩
              exact ⟨_, rfl, ⟨rfl, rfl⟩, hf⟩ }],
      orcT 53 [
        { args := [.one (.atom (.sym 0))], ans := .v (.one (.lit (.bool true))), ok := by
            intro B ρ w S vs hS hr
            match vs, hr with
            | [u0], ⟨z0, _⟩ =>
              obtain ⟨rfl, _⟩ : u0 = _ ∧ _ := z0
              refine (cif _).mono ?_
              rintro e w' ⟨rfl, hf⟩
              exact ⟨_, rfl, ⟨rfl, rfl⟩, hf⟩ },
        { args := [.one (.atom (.sym 1))], ans := .v (.one (.lit (.bool true))), ok := by
            intro B ρ w S vs hS hr
            match vs, hr with
            | [u0], ⟨z0, _⟩ =>
              obtain ⟨rfl, _⟩ : u0 = _ ∧ _ := z0
              refine (cig _).mono ?_
              rintro e w' ⟨rfl, hf⟩
              exact ⟨_, rfl, ⟨rfl, rfl⟩, hf⟩ }],
      orcT 57 [
        { args := [.one (.atom (.sym 0))], ans := .v (.one (.lit (.bool false))), ok := by
            intro B ρ w S vs hS hr
            match vs, hr with
            | [u0], ⟨z0, _⟩ =>
              obtain ⟨rfl, _⟩ : u0 = _ ∧ _ := z0
              refine (czf _).mono ?_
              rintro e w' ⟨rfl, hf⟩
              exact ⟨_, rfl, ⟨rfl, rfl⟩, hf⟩ },
        { args := [.one (.atom (.sym 1))], ans := .v (.one (.lit (.bool false))), ok := by
            intro B ρ w S vs hS hr
            match vs, hr with
            | [u0], ⟨z0, _⟩ =>
              obtain ⟨rfl, _⟩ : u0 = _ ∧ _ := z0
              refine (czg _).mono ?_
              rintro e w' ⟨rfl, hf⟩
              exact ⟨_, rfl, ⟨rfl, rfl⟩, hf⟩ }],
      orcT 58 [
        { args := [.one (.lit (.bool (sa != sb))), .one (.lit (.int .u64 9218868437227405312))], ans := .v (.one (.atom (.sym 4))), ok := by
            intro B ρ w S vs hS hr
            match vs, hr with
            | [u0, u1], ⟨z0, z1, _⟩ =>
              obtain ⟨rfl, _⟩ : u0 = _ ∧ _ := z0
              obtain ⟨rfl, _⟩ : u1 = _ ∧ _ := z1
              refine (cS _).mono ?_
              rintro e w' ⟨rfl, hf⟩
              exact ⟨_, rfl, ⟨rfl, fun _ => trivial⟩, hf⟩ }],
      orcT 27 [
        { args := [.one (.atom (.sym 4)), .one (.atom (.sym 2)), .one (.atom (.sym 3))], ans := .tup [.one (.atom (.sym 5)), .one (.atom (.sym 6))], ok := by
            intro B ρ w S vs hS hr
            match vs, hr with
            | [u0, u1, u2], ⟨z0, z1, z2, _⟩ =>
              obtain ⟨rfl, _⟩ : u0 = _ ∧ _ := z0
              obtain ⟨rfl, _⟩ : u1 = _ ∧ _ := z1
              obtain ⟨rfl, _⟩ : u2 = _ ∧ _ := z2
              refine (add3_any m _ h hsl hh).mono ?_
              rintro e w' ⟨rfl, hf⟩
              exact ⟨_, rfl, ⟨[_, _], rfl, ⟨rfl, fun _ => trivial⟩, ⟨rfl, fun _ => trivial⟩, trivial⟩, hf⟩ }],
      orcT 56 [
        { args := [.one (.atom (.sym 0))], ans := .v (.one (.lit (.bool sa))), ok := by
            intro B ρ w S vs hS hr
            match vs, hr with
            | [u0], ⟨z0, _⟩ =>
              obtain ⟨rfl, _⟩ : u0 = _ ∧ _ := z0
              refine (cmf _).mono ?_
              rintro e w' ⟨rfl, hf⟩
              exact ⟨_, rfl, ⟨rfl, rfl⟩, hf⟩ },
        { args := [.one (.atom (.sym 1))], ans := .v (.one (.lit (.bool sb))), ok := by
            intro B ρ w S vs hS hr
            match vs, hr with
            | [u0], ⟨z0, _⟩ =>
              obtain ⟨rfl, _⟩ : u0 = _ ∧ _ := z0
              refine (cmg _).mono ?_
              rintro e w' ⟨rfl, hf⟩
              exact ⟨_, rfl, ⟨rfl, rfl⟩, hf⟩ }]], rfl⟩
    (opH_le (bigHook_le _ _) (opH_le (symHook_le _ _ _) (tabHook_le _ _)))
    (opH_ok (bigHook_ok _) (opH_ok (symHook_ok _ (fun h => by cases h) (fun h => by cases h)) (tabHook_ok _ all_nil all_nil)))
  refine (told_call (M := (DomQ true ν σ (fun _ => none))) (cx := ⟨Tryd.prog, true, t.get, orcD (fma3IIAD sa sb), (opH (bigHook Tryd.prog true) (opH (symHook Tryd.prog fma3IIAN (fun _ _ _ => none)) (tabHook (fma3IIAL sa sb) fma3IIAM)))⟩) (xs := [.one (.atom (.sym 0)), .one (.atom (.sym 1)), .one (.atom (.sym 2)), .one (.atom (.sym 3))]) (vs := [.int .u64 f, .int .u64 g, .int .u64 h, .int .i64 m]) Tryd.checked.mixed hcx (fun hg => by cases hg) ⟨⟨rfl, fun _ => trivial⟩, ⟨rfl, fun _ => trivial⟩, ⟨rfl, fun _ => trivial⟩, ⟨rfl, fun _ => trivial⟩, trivial⟩ he).mono ?_
  rintro e w' ⟨v, ρ', rfl, hv, hbel⟩
  obtain ⟨us, rfl, hu⟩ := hv
  match us, hu with
  | [c0, c1], ⟨r0, r1, _⟩ =>
    obtain ⟨rfl, _⟩ : c0 = _ ∧ _ := r0
    obtain ⟨rfl, _⟩ : c1 = _ ∧ _ := r1
    exact ⟨rfl, hbel⟩

def fma3IZAD (sa : Bool) (sb : Bool) : List (FuncId × Ans) :=
  [(52, ansT [([.one (.atom (.sym 0))], .v (.one (.lit (.bool false)))), ([.one (.atom (.sym 1))], .v (.one (.lit (.bool false)))), ([.one (.atom (.sym 2))], .v (.one (.lit (.bool false))))]),
   (53, ansT [([.one (.atom (.sym 0))], .v (.one (.lit (.bool true)))), ([.one (.atom (.sym 1))], .v (.one (.lit (.bool false))))]),
   (57, ansT [([.one (.atom (.sym 0))], .v (.one (.lit (.bool false)))), ([.one (.atom (.sym 1))], .v (.one (.lit (.bool true))))]),
   (56, ansT [([.one (.atom (.sym 0))], .v (.one (.lit (.bool sa)))), ([.one (.atom (.sym 1))], .v (.one (.lit (.bool sb))))])]
def fma3IZAL (sa : Bool) (sb : Bool) : BT := []
def fma3IZAM : BT := []
def fma3IZAN : At → Option Nat
  | _ => none

set_option maxRecDepth 1000000 in
theorem fma3IZATold : ∃ t : Tr Func, TabOK Tryd.prog t ∧ (∀ (sa : Bool) (sb : Bool), isAV (.tup [.one (.lit (.int .u64 9221120237041090560)), .one (.lit (.int .i64 (16)))]) (evalCall ⟨Tryd.prog, true, t.get, orcD (fma3IZAD sa sb), (opH (bigHook Tryd.prog true) (opH (symHook Tryd.prog fma3IZAN (fun _ _ _ => none)) (tabHook (fma3IZAL sa sb) fma3IZAM)))⟩ 1000 37 [.one (.atom (.sym 0)), .one (.atom (.sym 1)), .one (.atom (.sym 2)), .one (.atom (.sym 3))] .e 0) = true) :=
  ⟨(((((Tr.e).put 37 (some Tryd.f37)).put 52 (some Tryd.f52)).put 53 (some Tryd.f53)).put 57 (some Tryd.f57)).put 56 (some Tryd.f56),
   (TabOK.put (TabOK.put (TabOK.put (TabOK.put (TabOK.put (TabOK.e _) ⟨Tryd.func37, by decide +kernel, by decide +kernel⟩) ⟨Tryd.func52, by decide +kernel, by decide +kernel⟩) ⟨Tryd.func53, by decide +kernel, by decide +kernel⟩) ⟨Tryd.func57, by decide +kernel, by decide +kernel⟩) ⟨Tryd.func56, by decide +kernel, by decide +kernel⟩),
   by decide +kernel⟩

set_option maxHeartbeats 4000000 in
set_option maxRecDepth 100000 in
theorem fma3IZA_tab {w : World} (m : Int) (f g h : Nat) (hf : f < 18446744073709551616) (hg : g < 18446744073709551616) (hh : h < 18446744073709551616) (Kf : fsz f = 9218868437227405312) (Kg : fsz g = 0) (Kh : isNan h = false) {sa sb : Bool} (hsa : fneg f = sa) (hsb : fneg g = sb) :
    Calls Tryd.prog 37 #[.int .u64 f, .int .u64 g, .int .u64 h, .int .i64 m] w fun e w' => e = .returned (.tuple #[.int .u64 ((fmaF m f g h).1 : Nat), .int .i64 ((fmaF m f g h).2 : Nat)]) ∧ Below w.heap.size w w' := by
  have cnf : ∀ (w : World), Calls Tryd.prog 52 #[.int .u64 f] w fun e w' => e = .returned (.bool false) ∧ Fwd w w' := fun w => (none3_any f hf).mono fun e w' gg => ⟨by rw [gg.1, show isNan f = false from isNan_le (by omega)], gg.2 ▸ Fwd.refl _⟩
  have cif : ∀ (w : World), Calls Tryd.prog 53 #[.int .u64 f] w fun e w' => e = .returned (.bool true) ∧ Fwd w w' := fun w => (endless3_any f hf).mono fun e w' gg => ⟨by rw [gg.1, show decide (fsz f = 9218868437227405312) = true from decide_eq_true (by omega)], gg.2 ▸ Fwd.refl _⟩
  have czf : ∀ (w : World), Calls Tryd.prog 57 #[.int .u64 f] w fun e w' => e = .returned (.bool false) ∧ Fwd w w' := fun w => (nought3_any f hf).mono fun e w' gg => ⟨by rw [gg.1, show decide (fsz f = 0) = false from decide_eq_false (by omega)], gg.2 ▸ Fwd.refl _⟩
  have cng : ∀ (w : World), Calls Tryd.prog 52 #[.int .u64 g] w fun e w' => e = .returned (.bool false) ∧ Fwd w w' := fun w => (none3_any g hg).mono fun e w' gg => ⟨by rw [gg.1, show isNan g = false from isNan_le (by omega)], gg.2 ▸ Fwd.refl _⟩
  have cig : ∀ (w : World), Calls Tryd.prog 53 #[.int .u64 g] w fun e w' => e = .returned (.bool false) ∧ Fwd w w' := fun w => (endless3_any g hg).mono fun e w' gg => ⟨by rw [gg.1, show decide (fsz g = 9218868437227405312) = false from decide_eq_false (by omega)], gg.2 ▸ Fwd.refl _⟩
  have czg : ∀ (w : World), Calls Tryd.prog 57 #[.int .u64 g] w fun e w' => e = .returned (.bool true) ∧ Fwd w w' := fun w => (nought3_any g hg).mono fun e w' gg => ⟨by rw [gg.1, show decide (fsz g = 0) = true from decide_eq_true (by omega)], gg.2 ▸ Fwd.refl _⟩
  have cnh : ∀ (w : World), Calls Tryd.prog 52 #[.int .u64 h] w fun e w' => e = .returned (.bool false) ∧ Fwd w w' := fun w => (none3_any h hh).mono fun e w' gg => ⟨by rw [gg.1, show isNan h = false from Kh], gg.2 ▸ Fwd.refl _⟩
  have hcl : fsz h ≤ 9218868437227405312 := by unfold isNan at Kh; have := of_decide_eq_false Kh; omega
  have cmf : ∀ (w : World), Calls Tryd.prog 56 #[.int .u64 f] w fun e w' => e = .returned (.bool sa) ∧ Fwd w w' := fun w => (minus3_any f hf).mono fun e w' gg => ⟨by rw [gg.1, hsa], gg.2 ▸ Fwd.refl _⟩
  have cmg : ∀ (w : World), Calls Tryd.prog 56 #[.int .u64 g] w fun e w' => e = .returned (.bool sb) ∧ Fwd w w' := fun w => (minus3_any g hg).mono fun e w' gg => ⟨by rw [gg.1, hsb], gg.2 ▸ Fwd.refl _⟩
  have hval : fmaF m f g h = (9221120237041090560, 16) := by rw [fmaF_val (by omega) (by omega) hcl, mulV_bad (by omega)]; rfl
  rw [hval]
  obtain ⟨t, ht, hr⟩ := fma3IZATold
  obtain ⟨dl, n', he⟩ := isAV_ok (hr sa sb)
  let ν : Nat → Rat := nuL [fvQ f, fvQ g, fvQ h, fvQ f * fvQ g] []
  let σ : SymD := symL [.u f, .u g, .u h, .i m]
  have hcx : CxOK (DomQ true ν σ (fun _ => none)) w.heap.size ⟨Tryd.prog, true, t.get, orcD (fma3IZAD sa sb), (opH (bigHook Tryd.prog true) (opH (symHook Tryd.prog fma3IZAN (fun _ _ _ => none)) (tabHook (fma3IZAL sa sb) fma3IZAM)))⟩ := cxS_ok (M := (DomQ true ν σ (fun _ => none))) ht ⟨[
      orcT 52 [
        { args := [.one (.atom (.sym 0))], ans := .v (.one (.lit (.bool false))), ok := by
            intro B ρ w S vs hS hr
            match vs, hr with
            | [u0], ⟨z0, _⟩ =>
              obtain ⟨rfl, _⟩ : u0 = _ ∧ _ := z0
              refine (cnf _).mono ?_
              rintro e w' ⟨rfl, hf⟩
              exact ⟨_, rfl, ⟨rfl, rfl⟩, hf⟩ },
        { args := [.one (.atom (.sym 1))], ans := .v (.one (.lit (.bool false))), ok := by
            intro B ρ w S vs hS hr
            match vs, hr with
            | [u0], ⟨z0, _⟩ =>
              obtain ⟨rfl, _⟩ : u0 = _ ∧ _ := z0
              refine (cng _).mono ?_
              rintro e w' ⟨rfl, hf⟩
              exact ⟨_, rfl, ⟨rfl, rfl⟩, hf⟩ },
        { args := [.one (.atom (.sym 2))], ans := .v (.one (.lit (.bool false))), ok := by
            intro B ρ w S vs hS hr
            match vs, hr with
            | [u0], ⟨z0, _⟩ =>
              obtain ⟨rfl, _⟩ : u0 = _ ∧ _ := z0
              refine (cnh _).mono ?_
              rintro e w' ⟨rfl, hf⟩
              exact ⟨_, rfl, ⟨rfl, rfl⟩, hf⟩ }],
      orcT 53 [
        { args := [.one (.atom (.sym 0))], ans := .v (.one (.lit (.bool true))), ok := by
            intro B ρ w S vs hS hr
            match vs, hr with
            | [u0], ⟨z0, _⟩ =>
              obtain ⟨rfl, _⟩ : u0 = _ ∧ _ := z0
              refine (cif _).mono ?_
              rintro e w' ⟨rfl, hf⟩
              exact ⟨_, rfl, ⟨rfl, rfl⟩, hf⟩ },
        { args := [.one (.atom (.sym 1))], ans := .v (.one (.lit (.bool false))), ok := by
            intro B ρ w S vs hS hr
            match vs, hr with
            | [u0], ⟨z0, _⟩ =>
              obtain ⟨rfl, _⟩ : u0 = _ ∧ _ := z0
              refine (cig _).mono ?_
              rintro e w' ⟨rfl, hf⟩
              exact ⟨_, rfl, ⟨rfl, rfl⟩, hf⟩ }],
      orcT 57 [
        { args := [.one (.atom (.sym 0))], ans := .v (.one (.lit (.bool false))), ok := by
            intro B ρ w S vs hS hr
            match vs, hr with
            | [u0], ⟨z0, _⟩ =>
              obtain ⟨rfl, _⟩ : u0 = _ ∧ _ := z0
              refine (czf _).mono ?_
              rintro e w' ⟨rfl, hf⟩
              exact ⟨_, rfl, ⟨rfl, rfl⟩, hf⟩ },
        { args := [.one (.atom (.sym 1))], ans := .v (.one (.lit (.bool true))), ok := by
            intro B ρ w S vs hS hr
            match vs, hr with
            | [u0], ⟨z0, _⟩ =>
              obtain ⟨rfl, _⟩ : u0 = _ ∧ _ := z0
              refine (czg _).mono ?_
              rintro e w' ⟨rfl, hf⟩
              exact ⟨_, rfl, ⟨rfl, rfl⟩, hf⟩ }],
      orcT 56 [
        { args := [.one (.atom (.sym 0))], ans := .v (.one (.lit (.bool sa))), ok := by
            intro B ρ w S vs hS hr
            match vs, hr with
            | [u0], ⟨z0, _⟩ =>
              obtain ⟨rfl, _⟩ : u0 = _ ∧ _ := z0
              refine (cmf _).mono ?_
              rintro e w' ⟨rfl, hf⟩
              exact ⟨_, rfl, ⟨rfl, rfl⟩, hf⟩ },
        { args := [.one (.atom (.sym 1))], ans := .v (.one (.lit (.bool sb))), ok := by
            intro B ρ w S vs hS hr
            match vs, hr with
            | [u0], ⟨z0, _⟩ =>
              obtain ⟨rfl, _⟩ : u0 = _ ∧ _ := z0
              refine (cmg _).mono ?_
              rintro e w' ⟨rfl, hf⟩
              exact ⟨_, rfl, ⟨rfl, rfl⟩, hf⟩ }]], rfl⟩
    (opH_le (bigHook_le _ _) (opH_le (symHook_le _ _ _) (tabHook_le _ _)))
    (opH_ok (bigHook_ok _) (opH_ok (symHook_ok _ (fun h => by cases h) (fun h => by cases h)) (tabHook_ok _ all_nil all_nil)))
  refine (told_call (M := (DomQ true ν σ (fun _ => none))) (cx := ⟨Tryd.prog, true, t.get, orcD (fma3IZAD sa sb), (opH (bigHook Tryd.prog true) (opH (symHook Tryd.prog fma3IZAN (fun _ _ _ => none)) (tabHook (fma3IZAL sa sb) fma3IZAM)))⟩) (xs := [.one (.atom (.sym 0)), .one (.atom (.sym 1)), .one (.atom (.sym 2)), .one (.atom (.sym 3))]) (vs := [.int .u64 f, .int .u64 g, .int .u64 h, .int .i64 m]) Tryd.checked.mixed hcx (fun hg => by cases hg) ⟨⟨rfl, fun _ => trivial⟩, ⟨rfl, fun _ => trivial⟩, ⟨rfl, fun _ => trivial⟩, ⟨rfl, fun _ => trivial⟩, trivial⟩ he).mono ?_
  rintro e w' ⟨v, ρ', rfl, hv, hbel⟩
  obtain ⟨us, rfl, hu⟩ := hv
  match us, hu with
  | [c0, c1], ⟨r0, r1, _⟩ =>
    obtain ⟨rfl, _⟩ : c0 = _ ∧ _ := r0
    obtain ⟨rfl, _⟩ : c1 = _ ∧ _ := r1
    exact ⟨rfl, hbel⟩

def fma3IFAD (sa : Bool) (sb : Bool) : List (FuncId × Ans) :=
  [(52, ansT [([.one (.atom (.sym 0))], .v (.one (.lit (.bool false)))), ([.one (.atom (.sym 1))], .v (.one (.lit (.bool false)))), ([.one (.atom (.sym 2))], .v (.one (.lit (.bool false))))]),
   (53, ansT [([.one (.atom (.sym 0))], .v (.one (.lit (.bool true)))), ([.one (.atom (.sym 1))], .v (.one (.lit (.bool false))))]),
   (57, ansT [([.one (.atom (.sym 0))], .v (.one (.lit (.bool false)))), ([.one (.atom (.sym 1))], .v (.one (.lit (.bool false))))]),
   (58, ansT [([.one (.lit (.bool (sa != sb))), .one (.lit (.int .u64 9218868437227405312))], .v (.one (.atom (.sym 4))))]),
   (27, ansT [([.one (.atom (.sym 4)), .one (.atom (.sym 2)), .one (.atom (.sym 3))], .tup [.one (.atom (.sym 5)), .one (.atom (.sym 6))])]),
   (56, ansT [([.one (.atom (.sym 0))], .v (.one (.lit (.bool sa)))), ([.one (.atom (.sym 1))], .v (.one (.lit (.bool sb))))])]
def fma3IFAL (sa : Bool) (sb : Bool) : BT := []
def fma3IFAM : BT := []
def fma3IFAN : At → Option Nat
  | _ => none

set_option maxRecDepth 1000000 in
theorem fma3IFATold : ∃ t : Tr Func, TabOK Tryd.prog t ∧ (∀ (sa : Bool) (sb : Bool), isAV (.tup [.one (.atom (.sym 5)), .one (.atom (.sym 6))]) (evalCall ⟨Tryd.prog, true, t.get, orcD (fma3IFAD sa sb), (opH (bigHook Tryd.prog true) (opH (symHook Tryd.prog fma3IFAN (fun _ _ _ => none)) (tabHook (fma3IFAL sa sb) fma3IFAM)))⟩ 1000 37 [.one (.atom (.sym 0)), .one (.atom (.sym 1)), .one (.atom (.sym 2)), .one (.atom (.sym 3))] .e 0) = true) :=
  ⟨(((((((Tr.e).put 37 (some Tryd.f37)).put 52 (some Tryd.f52)).put 53 (some Tryd.f53)).put 57 (some Tryd.f57)).put 58 (some Tryd.f58)).put 27 (some Tryd.f27)).put 56 (some Tryd.f56),
   (TabOK.put (TabOK.put (TabOK.put (TabOK.put (TabOK.put (TabOK.put (TabOK.put (TabOK.e _) ⟨Tryd.func37, by decide +kernel, by decide +kernel⟩) ⟨Tryd.func52, by decide +kernel, by decide +kernel⟩) ⟨Tryd.func53, by decide +kernel, by decide +kernel⟩) ⟨Tryd.func57, by decide +kernel, by decide +kernel⟩) ⟨Tryd.func58, by decide +kernel, by decide +kernel⟩) ⟨Tryd.func27, by decide +kernel, by decide +kernel⟩) ⟨Tryd.func56, by decide +kernel, by decide +kernel⟩),
   by decide +kernel⟩

set_option maxHeartbeats 4000000 in
set_option maxRecDepth 100000 in
theorem fma3IFA_tab {w : World} (m : Int) (f g h : Nat) (hf : f < 18446744073709551616) (hg : g < 18446744073709551616) (hh : h < 18446744073709551616) (Kf : fsz f = 9218868437227405312) (Kg : fsz g ≠ 0) (Lg : fsz g < 9218868437227405312) (Kh : isNan h = false) {sa sb : Bool} (hsa : fneg f = sa) (hsb : fneg g = sb) :
    Calls Tryd.prog 37 #[.int .u64 f, .int .u64 g, .int .u64 h, .int .i64 m] w fun e w' => e = .returned (.tuple #[.int .u64 ((fmaF m f g h).1 : Nat), .int .i64 ((fmaF m f g h).2 : Nat)]) ∧ Below w.heap.size w w' := by
  have cnf : ∀ (w : World), Calls Tryd.prog 52 #[.int .u64 f] w fun e w' => e = .returned (.bool false) ∧ Fwd w w' := fun w => (none3_any f hf).mono fun e w' gg => ⟨by rw [gg.1, show isNan f = false from isNan_le (by omega)], gg.2 ▸ Fwd.refl _⟩
  have cif : ∀ (w : World), Calls Tryd.prog 53 #[.int .u64 f] w fun e w' => e = .returned (.bool true) ∧ Fwd w w' := fun w => (endless3_any f hf).mono fun e w' gg => ⟨by rw [gg.1, show decide (fsz f = 9218868437227405312) = true from decide_eq_true (by omega)], gg.2 ▸ Fwd.refl _⟩
  have czf : ∀ (w : World), Calls Tryd.prog 57 #[.int .u64 f] w fun e w' => e = .returned (.bool false) ∧ Fwd w w' := fun w => (nought3_any f hf).mono fun e w' gg => ⟨by rw [gg.1, show decide (fsz f = 0) = false from decide_eq_false (by omega)], gg.2 ▸ Fwd.refl _⟩
  have cng : ∀ (w : World), Calls Tryd.prog 52 #[.int .u64 g] w fun e w' => e = .returned (.bool false) ∧ Fwd w w' := fun w => (none3_any g hg).mono fun e w' gg => ⟨by rw [gg.1, show isNan g = false from isNan_le (by omega)], gg.2 ▸ Fwd.refl _⟩
  have cig : ∀ (w : World), Calls Tryd.prog 53 #[.int .u64 g] w fun e w' => e = .returned (.bool false) ∧ Fwd w w' := fun w => (endless3_any g hg).mono fun e w' gg => ⟨by rw [gg.1, show decide (fsz g = 9218868437227405312) = false from decide_eq_false (by omega)], gg.2 ▸ Fwd.refl _⟩
  have czg : ∀ (w : World), Calls Tryd.prog 57 #[.int .u64 g] w fun e w' => e = .returned (.bool false) ∧ Fwd w w' := fun w => (nought3_any g hg).mono fun e w' gg => ⟨by rw [gg.1, show decide (fsz g = 0) = false from decide_eq_false (by omega)], gg.2 ▸ Fwd.refl _⟩
  have cnh : ∀ (w : World), Calls Tryd.prog 52 #[.int .u64 h] w fun e w' => e = .returned (.bool false) ∧ Fwd w w' := fun w => (none3_any h hh).mono fun e w' gg => ⟨by rw [gg.1, show isNan h = false from Kh], gg.2 ▸ Fwd.refl _⟩
  have hcl : fsz h ≤ 9218868437227405312 := by unfold isNan at Kh; have := of_decide_eq_false Kh; omega
  have cS : ∀ (w : World), Calls Tryd.prog 58 #[.bool (sa != sb), .int .u64 9218868437227405312] w fun e w' => e = .returned (.int .u64 ((sgn (sa != sb) + 9218868437227405312 : Nat) : Int)) ∧ Fwd w w' := fun w => (signed3_any (sa != sb) 9218868437227405312 (by omega)).mono fun e w' gg => ⟨gg.1, gg.2 ▸ Fwd.refl _⟩
  have hsl : sgn (sa != sb) + 9218868437227405312 < 18446744073709551616 := by have := sgn_le (sa != sb); omega
  have cmf : ∀ (w : World), Calls Tryd.prog 56 #[.int .u64 f] w fun e w' => e = .returned (.bool sa) ∧ Fwd w w' := fun w => (minus3_any f hf).mono fun e w' gg => ⟨by rw [gg.1, hsa], gg.2 ▸ Fwd.refl _⟩
  have cmg : ∀ (w : World), Calls Tryd.prog 56 #[.int .u64 g] w fun e w' => e = .returned (.bool sb) ∧ Fwd w w' := fun w => (minus3_any g hg).mono fun e w' gg => ⟨by rw [gg.1, hsb], gg.2 ▸ Fwd.refl _⟩
  have hval : fmaF m f g h = addF m (sgn (sa != sb) + 9218868437227405312) h := by rw [← hsa, ← hsb]; exact fmaF_inf (by omega) hcl
  rw [hval]
  obtain ⟨t, ht, hr⟩ := fma3IFATold
  obtain ⟨dl, n', he⟩ := isAV_ok (hr sa sb)
  let ν : Nat → Rat := nuL [fvQ f, fvQ g, fvQ h, fvQ f * fvQ g] []
  let σ : SymD := symL [.u f, .u g, .u h, .i m, .u (sgn (sa != sb) + 9218868437227405312), .u (addF m (sgn (sa != sb) + 9218868437227405312) h).1, .i ((addF m (sgn (sa != sb) + 9218868437227405312) h).2 : Int)]
  have hcx : CxOK (DomQ true ν σ (fun _ => none)) w.heap.size ⟨Tryd.prog, true, t.get, orcD (fma3IFAD sa sb), (opH (bigHook Tryd.prog true) (opH (symHook Tryd.prog fma3IFAN (fun _ _ _ => none)) (tabHook (fma3IFAL sa sb) fma3IFAM)))⟩ := cxS_ok (M := (DomQ true ν σ (fun _ => none))) ht ⟨[
      orcT 52 [
        { args := [.one (.atom (.sym 0))], ans := .v (.one (.lit (.bool false))), ok := by
            intro B ρ w S vs hS hr
            match vs, hr with
            | [u0], ⟨z0, _⟩ =>
              obtain ⟨rfl, _⟩ : u0 = _ ∧ _ := z0
              refine (cnf _).mono ?_
              rintro e w' ⟨rfl, hf⟩
              exact ⟨_, rfl, ⟨rfl, rfl⟩, hf⟩ },
        { args := [.one (.atom (.sym 1))], ans := .v (.one (.lit (.bool false))), ok := by
            intro B ρ w S vs hS hr
            match vs, hr with
            | [u0], ⟨z0, _⟩ =>
              obtain ⟨rfl, _⟩ : u0 = _ ∧ _ := z0
              refine (cng _).mono ?_
              rintro e w' ⟨rfl, hf⟩
              exact ⟨_, rfl, ⟨rfl, rfl⟩, hf⟩ },
        { args := [.one (.atom (.sym 2))], ans := .v (.one (.lit (.bool false))), ok := by
            intro B ρ w S vs hS hr
            match vs, hr with
            | [u0], ⟨z0, _⟩ =>
              obtain ⟨rfl, _⟩ : u0 = _ ∧ _ := z0
              refine (cnh _).mono ?_
              rintro e w' ⟨rfl, hf⟩
              exact ⟨_, rfl, ⟨rfl, rfl⟩, hf⟩ }],
      orcT 53 [
        { args := [.one (.atom (.sym 0))], ans := .v (.one (.lit (.bool true))), ok := by
            intro B ρ w S vs hS hr
            match vs, hr with
            | [u0], ⟨z0, _⟩ =>
              obtain ⟨rfl, _⟩ : u0 = _ ∧ _ := z0
              refine (cif _).mono ?_
              rintro e w' ⟨rfl, hf⟩
              exact ⟨_, rfl, ⟨rfl, rfl⟩, hf⟩ },
        { args := [.one (.atom (.sym 1))], ans := .v (.one (.lit (.bool false))), ok := by
            intro B ρ w S vs hS hr
            match vs, hr with
            | [u0], ⟨z0, _⟩ =>
              obtain ⟨rfl, _⟩ : u0 = _ ∧ _ := z0
              refine (cig _).mono ?_
              rintro e w' ⟨rfl, hf⟩
              exact ⟨_, rfl, ⟨rfl, rfl⟩, hf⟩ }],
      orcT 57 [
        { args := [.one (.atom (.sym 0))], ans := .v (.one (.lit (.bool false))), ok := by
            intro B ρ w S vs hS hr
            match vs, hr with
            | [u0], ⟨z0, _⟩ =>
              obtain ⟨rfl, _⟩ : u0 = _ ∧ _ := z0
              refine (czf _).mono ?_
              rintro e w' ⟨rfl, hf⟩
              exact ⟨_, rfl, ⟨rfl, rfl⟩, hf⟩ },
        { args := [.one (.atom (.sym 1))], ans := .v (.one (.lit (.bool false))), ok := by
            intro B ρ w S vs hS hr
            match vs, hr with
            | [u0], ⟨z0, _⟩ =>
              obtain ⟨rfl, _⟩ : u0 = _ ∧ _ := z0
              refine (czg _).mono ?_
              rintro e w' ⟨rfl, hf⟩
              exact ⟨_, rfl, ⟨rfl, rfl⟩, hf⟩ }],
      orcT 58 [
        { args := [.one (.lit (.bool (sa != sb))), .one (.lit (.int .u64 9218868437227405312))], ans := .v (.one (.atom (.sym 4))), ok := by
            intro B ρ w S vs hS hr
            match vs, hr with
            | [u0, u1], ⟨z0, z1, _⟩ =>
              obtain ⟨rfl, _⟩ : u0 = _ ∧ _ := z0
              obtain ⟨rfl, _⟩ : u1 = _ ∧ _ := z1
              refine (cS _).mono ?_
              rintro e w' ⟨rfl, hf⟩
              exact ⟨_, rfl, ⟨rfl, fun _ => trivial⟩, hf⟩ }],
      orcT 27 [
        { args := [.one (.atom (.sym 4)), .one (.atom (.sym 2)), .one (.atom (.sym 3))], ans := .tup [.one (.atom (.sym 5)), .one (.atom (.sym 6))], ok := by
            intro B ρ w S vs hS hr
            match vs, hr with
            | [u0, u1, u2], ⟨z0, z1, z2, _⟩ =>
              obtain ⟨rfl, _⟩ : u0 = _ ∧ _ := z0
              obtain ⟨rfl, _⟩ : u1 = _ ∧ _ := z1
              obtain ⟨rfl, _⟩ : u2 = _ ∧ _ := z2
              refine (add3_any m _ h hsl hh).mono ?_
              rintro e w' ⟨rfl, hf⟩
              exact ⟨_, rfl, ⟨[_, _], rfl, ⟨rfl, fun _ => trivial⟩, ⟨rfl, fun _ => trivial⟩, trivial⟩, hf⟩ }],
      orcT 56 [
        { args := [.one (.atom (.sym 0))], ans := .v (.one (.lit (.bool sa))), ok := by
            intro B ρ w S vs hS hr
            match vs, hr with
            | [u0], ⟨z0, _⟩ =>
              obtain ⟨rfl, _⟩ : u0 = _ ∧ _ := z0
              refine (cmf _).mono ?_
              rintro e w' ⟨rfl, hf⟩
              exact ⟨_, rfl, ⟨rfl, rfl⟩, hf⟩ },
        { args := [.one (.atom (.sym 1))], ans := .v (.one (.lit (.bool sb))), ok := by
            intro B ρ w S vs hS hr
            match vs, hr with
            | [u0], ⟨z0, _⟩ =>
              obtain ⟨rfl, _⟩ : u0 = _ ∧ _ := z0
              refine (cmg _).mono ?_
              rintro e w' ⟨rfl, hf⟩
              exact ⟨_, rfl, ⟨rfl, rfl⟩, hf⟩ }]], rfl⟩
    (opH_le (bigHook_le _ _) (opH_le (symHook_le _ _ _) (tabHook_le _ _)))
    (opH_ok (bigHook_ok _) (opH_ok (symHook_ok _ (fun h => by cases h) (fun h => by cases h)) (tabHook_ok _ all_nil all_nil)))
  refine (told_call (M := (DomQ true ν σ (fun _ => none))) (cx := ⟨Tryd.prog, true, t.get, orcD (fma3IFAD sa sb), (opH (bigHook Tryd.prog true) (opH (symHook Tryd.prog fma3IFAN (fun _ _ _ => none)) (tabHook (fma3IFAL sa sb) fma3IFAM)))⟩) (xs := [.one (.atom (.sym 0)), .one (.atom (.sym 1)), .one (.atom (.sym 2)), .one (.atom (.sym 3))]) (vs := [.int .u64 f, .int .u64 g, .int .u64 h, .int .i64 m]) Tryd.checked.mixed hcx (fun hg => by cases hg) ⟨⟨rfl, fun _ => trivial⟩, ⟨rfl, fun _ => trivial⟩, ⟨rfl, fun _ => trivial⟩, ⟨rfl, fun _ => trivial⟩, trivial⟩ he).mono ?_
  rintro e w' ⟨v, ρ', rfl, hv, hbel⟩
  obtain ⟨us, rfl, hu⟩ := hv
  match us, hu with
  | [c0, c1], ⟨r0, r1, _⟩ =>
    obtain ⟨rfl, _⟩ : c0 = _ ∧ _ := r0
    obtain ⟨rfl, _⟩ : c1 = _ ∧ _ := r1
    exact ⟨rfl, hbel⟩

def fma3ZIAD (sa : Bool) (sb : Bool) : List (FuncId × Ans) :=
  [(52, ansT [([.one (.atom (.sym 0))], .v (.one (.lit (.bool false)))), ([.one (.atom (.sym 1))], .v (.one (.lit (.bool false)))), ([.one (.atom (.sym 2))], .v (.one (.lit (.bool false))))]),
   (53, ansT [([.one (.atom (.sym 0))], .v (.one (.lit (.bool false)))), ([.one (.atom (.sym 1))], .v (.one (.lit (.bool true))))]),
   (57, ansT [([.one (.atom (.sym 0))], .v (.one (.lit (.bool true)))), ([.one (.atom (.sym 1))], .v (.one (.lit (.bool false))))]),
   (56, ansT [([.one (.atom (.sym 0))], .v (.one (.lit (.bool sa)))), ([.one (.atom (.sym 1))], .v (.one (.lit (.bool sb))))])]
def fma3ZIAL (sa : Bool) (sb : Bool) : BT := []
def fma3ZIAM : BT := []
def fma3ZIAN : At → Option Nat
  | _ => none

set_option maxRecDepth 1000000 in
theorem fma3ZIATold : ∃ t : Tr Func, TabOK Tryd.prog t ∧ (∀ (sa : Bool) (sb : Bool), isAV (.tup [.one (.lit (.int .u64 9221120237041090560)), .one (.lit (.int .i64 (16)))]) (evalCall ⟨Tryd.prog, true, t.get, orcD (fma3ZIAD sa sb), (opH (bigHook Tryd.prog true) (opH (symHook Tryd.prog fma3ZIAN (fun _ _ _ => none)) (tabHook (fma3ZIAL sa sb) fma3ZIAM)))⟩ 1000 37 [.one (.atom (.sym 0)), .one (.atom (.sym 1)), .one (.atom (.sym 2)), .one (.atom (.sym 3))] .e 0) = true) :=
  ⟨(((((Tr.e).put 37 (some Tryd.f37)).put 52 (some Tryd.f52)).put 53 (some Tryd.f53)).put 57 (some Tryd.f57)).put 56 (some Tryd.f56),
   (TabOK.put (TabOK.put (TabOK.put (TabOK.put (TabOK.put (TabOK.e _) ⟨Tryd.func37, by decide +kernel, by decide +kernel⟩) ⟨Tryd.func52, by decide +kernel, by decide +kernel⟩) ⟨Tryd.func53, by decide +kernel, by decide +kernel⟩) ⟨Tryd.func57, by decide +kernel, by decide +kernel⟩) ⟨Tryd.func56, by decide +kernel, by decide +kernel⟩),
   by decide +kernel⟩

set_option maxHeartbeats 4000000 in
set_option maxRecDepth 100000 in
theorem fma3ZIA_tab {w : World} (m : Int) (f g h : Nat) (hf : f < 18446744073709551616) (hg : g < 18446744073709551616) (hh : h < 18446744073709551616) (Kf : fsz f = 0) (Kg : fsz g = 9218868437227405312) (Kh : isNan h = false) {sa sb : Bool} (hsa : fneg f = sa) (hsb : fneg g = sb) :
    Calls Tryd.prog 37 #[.int .u64 f, .int .u64 g, .int .u64 h, .int .i64 m] w fun e w' => e = .returned (.tuple #[.int .u64 ((fmaF m f g h).1 : Nat), .int .i64 ((fmaF m f g h).2 : Nat)]) ∧ Below w.heap.size w w' := by
  have cnf : ∀ (w : World), Calls Tryd.prog 52 #[.int .u64 f] w fun e w' => e = .returned (.bool false) ∧ Fwd w w' := fun w => (none3_any f hf).mono fun e w' gg => ⟨by rw [gg.1, show isNan f = false from isNan_le (by omega)], gg.2 ▸ Fwd.refl _⟩
  have cif : ∀ (w : World), Calls Tryd.prog 53 #[.int .u64 f] w fun e w' => e = .returned (.bool false) ∧ Fwd w w' := fun w => (endless3_any f hf).mono fun e w' gg => ⟨by rw [gg.1, show decide (fsz f = 9218868437227405312) = false from decide_eq_false (by omega)], gg.2 ▸ Fwd.refl _⟩
  have czf : ∀ (w : World), Calls Tryd.prog 57 #[.int .u64 f] w fun e w' => e = .returned (.bool true) ∧ Fwd w w' := fun w => (nought3_any f hf).mono fun e w' gg => ⟨by rw [gg.1, show decide (fsz f = 0) = true from decide_eq_true (by omega)], gg.2 ▸ Fwd.refl _⟩
  have cng : ∀ (w : World), Calls Tryd.prog 52 #[.int .u64 g] w fun e w' => e = .returned (.bool false) ∧ Fwd w w' := fun w => (none3_any g hg).mono fun e w' gg => ⟨by rw [gg.1, show isNan g = false from isNan_le (by omega)], gg.2 ▸ Fwd.refl _⟩
  have cig : ∀ (w : World), Calls Tryd.prog 53 #[.int .u64 g] w fun e w' => e = .returned (.bool true) ∧ Fwd w w' := fun w => (endless3_any g hg).mono fun e w' gg => ⟨by rw [gg.1, show decide (fsz g = 9218868437227405312) = true from decide_eq_true (by omega)], gg.2 ▸ Fwd.refl _⟩
  have czg : ∀ (w : World), Calls Tryd.prog 57 #[.int .u64 g] w fun e w' => e = .returned (.bool false) ∧ Fwd w w' := fun w => (nought3_any g hg).mono fun e w' gg => ⟨by rw [gg.1, show decide (fsz g = 0) = false from decide_eq_false (by omega)], gg.2 ▸ Fwd.refl _⟩
  have cnh : ∀ (w : World), Calls Tryd.prog 52 #[.int .u64 h] w fun e w' => e = .returned (.bool false) ∧ Fwd w w' := fun w => (none3_any h hh).mono fun e w' gg => ⟨by rw [gg.1, show isNan h = false from Kh], gg.2 ▸ Fwd.refl _⟩
  have hcl : fsz h ≤ 9218868437227405312 := by unfold isNan at Kh; have := of_decide_eq_false Kh; omega
  have cmf : ∀ (w : World), Calls Tryd.prog 56 #[.int .u64 f] w fun e w' => e = .returned (.bool sa) ∧ Fwd w w' := fun w => (minus3_any f hf).mono fun e w' gg => ⟨by rw [gg.1, hsa], gg.2 ▸ Fwd.refl _⟩
  have cmg : ∀ (w : World), Calls Tryd.prog 56 #[.int .u64 g] w fun e w' => e = .returned (.bool sb) ∧ Fwd w w' := fun w => (minus3_any g hg).mono fun e w' gg => ⟨by rw [gg.1, hsb], gg.2 ▸ Fwd.refl _⟩
  have hval : fmaF m f g h = (9221120237041090560, 16) := by rw [fmaF_val (by omega) (by omega) hcl, mulV_bad (by omega)]; rfl
  rw [hval]
  obtain ⟨t, ht, hr⟩ := fma3ZIATold
  obtain ⟨dl, n', he⟩ := isAV_ok (hr sa sb)
  let ν : Nat → Rat := nuL [fvQ f, fvQ g, fvQ h, fvQ f * fvQ g] []
  let σ : SymD := symL [.u f, .u g, .u h, .i m]
  have hcx : CxOK (DomQ true ν σ (fun _ => none)) w.heap.size ⟨Tryd.prog, true, t.get, orcD (fma3ZIAD sa sb), (opH (bigHook Tryd.prog true) (opH (symHook Tryd.prog fma3ZIAN (fun _ _ _ => none)) (tabHook (fma3ZIAL sa sb) fma3ZIAM)))⟩ := cxS_ok (M := (DomQ true ν σ (fun _ => none))) ht ⟨[
      orcT 52 [
        { args := [.one (.atom (.sym 0))], ans := .v (.one (.lit (.bool false))), ok := by
            intro B ρ w S vs hS hr
            match vs, hr with
            | [u0], ⟨z0, _⟩ =>
              obtain ⟨rfl, _⟩ : u0 = _ ∧ _ := z0
              refine (cnf _).mono ?_
              rintro e w' ⟨rfl, hf⟩
              exact ⟨_, rfl, ⟨rfl, rfl⟩, hf⟩ },
        { args := [.one (.atom (.sym 1))], ans := .v (.one (.lit (.bool false))), ok := by
            intro B ρ w S vs hS hr
            match vs, hr with
            | [u0], ⟨z0, _⟩ =>
              obtain ⟨rfl, _⟩ : u0 = _ ∧ _ := z0
              refine (cng _).mono ?_
              rintro e w' ⟨rfl, hf⟩
              exact ⟨_, rfl, ⟨rfl, rfl⟩, hf⟩ },
        { args := [.one (.atom (.sym 2))], ans := .v (.one (.lit (.bool false))), ok := by
            intro B ρ w S vs hS hr
            match vs, hr with
            | [u0], ⟨z0, _⟩ =>
              obtain ⟨rfl, _⟩ : u0 = _ ∧ _ := z0
              refine (cnh _).mono ?_
              rintro e w' ⟨rfl, hf⟩
              exact ⟨_, rfl, ⟨rfl, rfl⟩, hf⟩ }],
      orcT 53 [
        { args := [.one (.atom (.sym 0))], ans := .v (.one (.lit (.bool false))), ok := by
            intro B ρ w S vs hS hr
            match vs, hr with
            | [u0], ⟨z0, _⟩ =>
              obtain ⟨rfl, _⟩ : u0 = _ ∧ _ := z0
              refine (cif _).mono ?_
              rintro e w' ⟨rfl, hf⟩
              exact ⟨_, rfl, ⟨rfl, rfl⟩, hf⟩ },
        { args := [.one (.atom (.sym 1))], ans := .v (.one (.lit (.bool true))), ok := by
            intro B ρ w S vs hS hr
            match vs, hr with
            | [u0], ⟨z0, _⟩ =>
              obtain ⟨rfl, _⟩ : u0 = _ ∧ _ := z0
              refine (cig _).mono ?_
              rintro e w' ⟨rfl, hf⟩
              exact ⟨_, rfl, ⟨rfl, rfl⟩, hf⟩ }],
      orcT 57 [
        { args := [.one (.atom (.sym 0))], ans := .v (.one (.lit (.bool true))), ok := by
            intro B ρ w S vs hS hr
            match vs, hr with
            | [u0], ⟨z0, _⟩ =>
              obtain ⟨rfl, _⟩ : u0 = _ ∧ _ := z0
              refine (czf _).mono ?_
              rintro e w' ⟨rfl, hf⟩
              exact ⟨_, rfl, ⟨rfl, rfl⟩, hf⟩ },
        { args := [.one (.atom (.sym 1))], ans := .v (.one (.lit (.bool false))), ok := by
            intro B ρ w S vs hS hr
            match vs, hr with
            | [u0], ⟨z0, _⟩ =>
              obtain ⟨rfl, _⟩ : u0 = _ ∧ _ := z0
              refine (czg _).mono ?_
              rintro e w' ⟨rfl, hf⟩
              exact ⟨_, rfl, ⟨rfl, rfl⟩, hf⟩ }],
      orcT 56 [
        { args := [.one (.atom (.sym 0))], ans := .v (.one (.lit (.bool sa))), ok := by
            intro B ρ w S vs hS hr
            match vs, hr with
            | [u0], ⟨z0, _⟩ =>
              obtain ⟨rfl, _⟩ : u0 = _ ∧ _ := z0
              refine (cmf _).mono ?_
              rintro e w' ⟨rfl, hf⟩
              exact ⟨_, rfl, ⟨rfl, rfl⟩, hf⟩ },
        { args := [.one (.atom (.sym 1))], ans := .v (.one (.lit (.bool sb))), ok := by
            intro B ρ w S vs hS hr
            match vs, hr with
            | [u0], ⟨z0, _⟩ =>
              obtain ⟨rfl, _⟩ : u0 = _ ∧ _ := z0
              refine (cmg _).mono ?_
              rintro e w' ⟨rfl, hf⟩
              exact ⟨_, rfl, ⟨rfl, rfl⟩, hf⟩ }]], rfl⟩
    (opH_le (bigHook_le _ _) (opH_le (symHook_le _ _ _) (tabHook_le _ _)))
    (opH_ok (bigHook_ok _) (opH_ok (symHook_ok _ (fun h => by cases h) (fun h => by cases h)) (tabHook_ok _ all_nil all_nil)))
  refine (told_call (M := (DomQ true ν σ (fun _ => none))) (cx := ⟨Tryd.prog, true, t.get, orcD (fma3ZIAD sa sb), (opH (bigHook Tryd.prog true) (opH (symHook Tryd.prog fma3ZIAN (fun _ _ _ => none)) (tabHook (fma3ZIAL sa sb) fma3ZIAM)))⟩) (xs := [.one (.atom (.sym 0)), .one (.atom (.sym 1)), .one (.atom (.sym 2)), .one (.atom (.sym 3))]) (vs := [.int .u64 f, .int .u64 g, .int .u64 h, .int .i64 m]) Tryd.checked.mixed hcx (fun hg => by cases hg) ⟨⟨rfl, fun _ => trivial⟩, ⟨rfl, fun _ => trivial⟩, ⟨rfl, fun _ => trivial⟩, ⟨rfl, fun _ => trivial⟩, trivial⟩ he).mono ?_
  rintro e w' ⟨v, ρ', rfl, hv, hbel⟩
  obtain ⟨us, rfl, hu⟩ := hv
  match us, hu with
  | [c0, c1], ⟨r0, r1, _⟩ =>
    obtain ⟨rfl, _⟩ : c0 = _ ∧ _ := r0
    obtain ⟨rfl, _⟩ : c1 = _ ∧ _ := r1
    exact ⟨rfl, hbel⟩

def fma3ZZID (sa : Bool) (sb : Bool) : List (FuncId × Ans) :=
  [(52, ansT [([.one (.atom (.sym 0))], .v (.one (.lit (.bool false)))), ([.one (.atom (.sym 1))], .v (.one (.lit (.bool false)))), ([.one (.atom (.sym 2))], .v (.one (.lit (.bool false))))]),
   (53, ansT [([.one (.atom (.sym 0))], .v (.one (.lit (.bool false)))), ([.one (.atom (.sym 1))], .v (.one (.lit (.bool false)))), ([.one (.atom (.sym 2))], .v (.one (.lit (.bool true))))]),
   (57, ansT [([.one (.atom (.sym 0))], .v (.one (.lit (.bool true)))), ([.one (.atom (.sym 1))], .v (.one (.lit (.bool true)))), ([.one (.atom (.sym 2))], .v (.one (.lit (.bool false))))]),
   (56, ansT [([.one (.atom (.sym 0))], .v (.one (.lit (.bool sa)))), ([.one (.atom (.sym 1))], .v (.one (.lit (.bool sb))))])]
def fma3ZZIL (sa : Bool) (sb : Bool) : BT := []
def fma3ZZIM : BT := []
def fma3ZZIN : At → Option Nat
  | _ => none

set_option maxRecDepth 1000000 in
theorem fma3ZZITold : ∃ t : Tr Func, TabOK Tryd.prog t ∧ (∀ (sa : Bool) (sb : Bool), isAV (.tup [.one (.atom (.sym 2)), .one (.lit (.int .i64 (0)))]) (evalCall ⟨Tryd.prog, true, t.get, orcD (fma3ZZID sa sb), (opH (bigHook Tryd.prog true) (opH (symHook Tryd.prog fma3ZZIN (fun _ _ _ => none)) (tabHook (fma3ZZIL sa sb) fma3ZZIM)))⟩ 1000 37 [.one (.atom (.sym 0)), .one (.atom (.sym 1)), .one (.atom (.sym 2)), .one (.atom (.sym 3))] .e 0) = true) :=
  ⟨(((((Tr.e).put 37 (some Tryd.f37)).put 52 (some Tryd.f52)).put 53 (some Tryd.f53)).put 57 (some Tryd.f57)).put 56 (some Tryd.f56),
   (TabOK.put (TabOK.put (TabOK.put (TabOK.put (TabOK.put (TabOK.e _) ⟨Tryd.func37, by decide +kernel, by decide +kernel⟩) ⟨Tryd.func52, by decide +kernel, by decide +kernel⟩) ⟨Tryd.func53, by decide +kernel, by decide +kernel⟩) ⟨Tryd.func57, by decide +kernel, by decide +kernel⟩) ⟨Tryd.func56, by decide +kernel, by decide +kernel⟩),
   by decide +kernel⟩

set_option maxHeartbeats 4000000 in
set_option maxRecDepth 100000 in
theorem fma3ZZI_tab {w : World} (m : Int) (f g h : Nat) (hf : f < 18446744073709551616) (hg : g < 18446744073709551616) (hh : h < 18446744073709551616) (Kf : fsz f = 0) (Kg : fsz g = 0) (Kh : fsz h = 9218868437227405312) {sa sb : Bool} (hsa : fneg f = sa) (hsb : fneg g = sb) :
    Calls Tryd.prog 37 #[.int .u64 f, .int .u64 g, .int .u64 h, .int .i64 m] w fun e w' => e = .returned (.tuple #[.int .u64 ((fmaF m f g h).1 : Nat), .int .i64 ((fmaF m f g h).2 : Nat)]) ∧ Below w.heap.size w w' := by
  have cnf : ∀ (w : World), Calls Tryd.prog 52 #[.int .u64 f] w fun e w' => e = .returned (.bool false) ∧ Fwd w w' := fun w => (none3_any f hf).mono fun e w' gg => ⟨by rw [gg.1, show isNan f = false from isNan_le (by omega)], gg.2 ▸ Fwd.refl _⟩
  have cif : ∀ (w : World), Calls Tryd.prog 53 #[.int .u64 f] w fun e w' => e = .returned (.bool false) ∧ Fwd w w' := fun w => (endless3_any f hf).mono fun e w' gg => ⟨by rw [gg.1, show decide (fsz f = 9218868437227405312) = false from decide_eq_false (by omega)], gg.2 ▸ Fwd.refl _⟩
  have czf : ∀ (w : World), Calls Tryd.prog 57 #[.int .u64 f] w fun e w' => e = .returned (.bool true) ∧ Fwd w w' := fun w => (nought3_any f hf).mono fun e w' gg => ⟨by rw [gg.1, show decide (fsz f = 0) = true from decide_eq_true (by omega)], gg.2 ▸ Fwd.refl _⟩
  have cng : ∀ (w : World), Calls Tryd.prog 52 #[.int .u64 g] w fun e w' => e = .returned (.bool false) ∧ Fwd w w' := fun w => (none3_any g hg).mono fun e w' gg => ⟨by rw [gg.1, show isNan g = false from isNan_le (by omega)], gg.2 ▸ Fwd.refl _⟩
  have cig : ∀ (w : World), Calls Tryd.prog 53 #[.int .u64 g] w fun e w' => e = .returned (.bool false) ∧ Fwd w w' := fun w => (endless3_any g hg).mono fun e w' gg => ⟨by rw [gg.1, show decide (fsz g = 9218868437227405312) = false from decide_eq_false (by omega)], gg.2 ▸ Fwd.refl _⟩
  have czg : ∀ (w : World), Calls Tryd.prog 57 #[.int .u64 g] w fun e w' => e = .returned (.bool true) ∧ Fwd w w' := fun w => (nought3_any g hg).mono fun e w' gg => ⟨by rw [gg.1, show decide (fsz g = 0) = true from decide_eq_true (by omega)], gg.2 ▸ Fwd.refl _⟩
  have cnh : ∀ (w : World), Calls Tryd.prog 52 #[.int .u64 h] w fun e w' => e = .returned (.bool false) ∧ Fwd w w' := fun w => (none3_any h hh).mono fun e w' gg => ⟨by rw [gg.1, show isNan h = false from isNan_le (by omega)], gg.2 ▸ Fwd.refl _⟩
  have cih : ∀ (w : World), Calls Tryd.prog 53 #[.int .u64 h] w fun e w' => e = .returned (.bool true) ∧ Fwd w w' := fun w => (endless3_any h hh).mono fun e w' gg => ⟨by rw [gg.1, show decide (fsz h = 9218868437227405312) = true from decide_eq_true (by omega)], gg.2 ▸ Fwd.refl _⟩
  have czh : ∀ (w : World), Calls Tryd.prog 57 #[.int .u64 h] w fun e w' => e = .returned (.bool false) ∧ Fwd w w' := fun w => (nought3_any h hh).mono fun e w' gg => ⟨by rw [gg.1, show decide (fsz h = 0) = false from decide_eq_false (by omega)], gg.2 ▸ Fwd.refl _⟩
  have cmf : ∀ (w : World), Calls Tryd.prog 56 #[.int .u64 f] w fun e w' => e = .returned (.bool sa) ∧ Fwd w w' := fun w => (minus3_any f hf).mono fun e w' gg => ⟨by rw [gg.1, hsa], gg.2 ▸ Fwd.refl _⟩
  have cmg : ∀ (w : World), Calls Tryd.prog 56 #[.int .u64 g] w fun e w' => e = .returned (.bool sb) ∧ Fwd w w' := fun w => (minus3_any g hg).mono fun e w' gg => ⟨by rw [gg.1, hsb], gg.2 ▸ Fwd.refl _⟩
  have hval : fmaF m f g h = _ := fmaF_end (by omega) (by omega) Kh hh
  rw [hval]
  obtain ⟨t, ht, hr⟩ := fma3ZZITold
  obtain ⟨dl, n', he⟩ := isAV_ok (hr sa sb)
  let ν : Nat → Rat := nuL [fvQ f, fvQ g, fvQ h, fvQ f * fvQ g] []
  let σ : SymD := symL [.u f, .u g, .u h, .i m]
  have hcx : CxOK (DomQ true ν σ (fun _ => none)) w.heap.size ⟨Tryd.prog, true, t.get, orcD (fma3ZZID sa sb), (opH (bigHook Tryd.prog true) (opH (symHook Tryd.prog fma3ZZIN (fun _ _ _ => none)) (tabHook (fma3ZZIL sa sb) fma3ZZIM)))⟩ := cxS_ok (M := (DomQ true ν σ (fun _ => none))) ht ⟨[
      orcT 52 [
        { args := [.one (.atom (.sym 0))], ans := .v (.one (.lit (.bool false))), ok := by
            intro B ρ w S vs hS hr
            match vs, hr with
            | [u0], ⟨z0, _⟩ =>
              obtain ⟨rfl, _⟩ : u0 = _ ∧ _ := z0
              refine (cnf _).mono ?_
              rintro e w' ⟨rfl, hf⟩
              exact ⟨_, rfl, ⟨rfl, rfl⟩, hf⟩ },
        { args := [.one (.atom (.sym 1))], ans := .v (.one (.lit (.bool false))), ok := by
            intro B ρ w S vs hS hr
            match vs, hr with
            | [u0], ⟨z0, _⟩ =>
              obtain ⟨rfl, _⟩ : u0 = _ ∧ _ := z0
              refine (cng _).mono ?_
              rintro e w' ⟨rfl, hf⟩
              exact ⟨_, rfl, ⟨rfl, rfl⟩, hf⟩ },
        { args := [.one (.atom (.sym 2))], ans := .v (.one (.lit (.bool false))), ok := by
            intro B ρ w S vs hS hr
            match vs, hr with
            | [u0], ⟨z0, _⟩ =>
              obtain ⟨rfl, _⟩ : u0 = _ ∧ _ := z0
              refine (cnh _).mono ?_
              rintro e w' ⟨rfl, hf⟩
              exact ⟨_, rfl, ⟨rfl, rfl⟩, hf⟩ }],
      orcT 53 [
        { args := [.one (.atom (.sym 0))], ans := .v (.one (.lit (.bool false))), ok := by
            intro B ρ w S vs hS hr
            match vs, hr with
            | [u0], ⟨z0, _⟩ =>
              obtain ⟨rfl, _⟩ : u0 = _ ∧ _ := z0
              refine (cif _).mono ?_
              rintro e w' ⟨rfl, hf⟩
              exact ⟨_, rfl, ⟨rfl, rfl⟩, hf⟩ },
        { args := [.one (.atom (.sym 1))], ans := .v (.one (.lit (.bool false))), ok := by
            intro B ρ w S vs hS hr
            match vs, hr with
            | [u0], ⟨z0, _⟩ =>
              obtain ⟨rfl, _⟩ : u0 = _ ∧ _ := z0
              refine (cig _).mono ?_
              rintro e w' ⟨rfl, hf⟩
              exact ⟨_, rfl, ⟨rfl, rfl⟩, hf⟩ },
        { args := [.one (.atom (.sym 2))], ans := .v (.one (.lit (.bool true))), ok := by
            intro B ρ w S vs hS hr
            match vs, hr with
            | [u0], ⟨z0, _⟩ =>
              obtain ⟨rfl, _⟩ : u0 = _ ∧ _ := z0
              refine (cih _).mono ?_
              rintro e w' ⟨rfl, hf⟩
              exact ⟨_, rfl, ⟨rfl, rfl⟩, hf⟩ }],
      orcT 57 [
        { args := [.one (.atom (.sym 0))], ans := .v (.one (.lit (.bool true))), ok := by
            intro B ρ w S vs hS hr
            match vs, hr with
            | [u0], ⟨z0, _⟩ =>
              obtain ⟨rfl, _⟩ : u0 = _ ∧ _ := z0
              refine (czf _).mono ?_
              rintro e w' ⟨rfl, hf⟩
              exact ⟨_, rfl, ⟨rfl, rfl⟩, hf⟩ },
        { args := [.one (.atom (.sym 1))], ans := .v (.one (.lit (.bool true))), ok := by
            intro B ρ w S vs hS hr
            match vs, hr with
            | [u0], ⟨z0, _⟩ =>
              obtain ⟨rfl, _⟩ : u0 = _ ∧ _ := z0
              refine (czg _).mono ?_
              rintro e w' ⟨rfl, hf⟩
              exact ⟨_, rfl, ⟨rfl, rfl⟩, hf⟩ },
        { args := [.one (.atom (.sym 2))], ans := .v (.one (.lit (.bool false))), ok := by
            intro B ρ w S vs hS hr
            match vs, hr with
            | [u0], ⟨z0, _⟩ =>
              obtain ⟨rfl, _⟩ : u0 = _ ∧ _ := z0
              refine (czh _).mono ?_
              rintro e w' ⟨rfl, hf⟩
              exact ⟨_, rfl, ⟨rfl, rfl⟩, hf⟩ }],
      orcT 56 [
        { args := [.one (.atom (.sym 0))], ans := .v (.one (.lit (.bool sa))), ok := by
            intro B ρ w S vs hS hr
            match vs, hr with
            | [u0], ⟨z0, _⟩ =>
              obtain ⟨rfl, _⟩ : u0 = _ ∧ _ := z0
              refine (cmf _).mono ?_
              rintro e w' ⟨rfl, hf⟩
              exact ⟨_, rfl, ⟨rfl, rfl⟩, hf⟩ },
        { args := [.one (.atom (.sym 1))], ans := .v (.one (.lit (.bool sb))), ok := by
            intro B ρ w S vs hS hr
            match vs, hr with
            | [u0], ⟨z0, _⟩ =>
              obtain ⟨rfl, _⟩ : u0 = _ ∧ _ := z0
              refine (cmg _).mono ?_
              rintro e w' ⟨rfl, hf⟩
              exact ⟨_, rfl, ⟨rfl, rfl⟩, hf⟩ }]], rfl⟩
    (opH_le (bigHook_le _ _) (opH_le (symHook_le _ _ _) (tabHook_le _ _)))
    (opH_ok (bigHook_ok _) (opH_ok (symHook_ok _ (fun h => by cases h) (fun h => by cases h)) (tabHook_ok _ all_nil all_nil)))
  refine (told_call (M := (DomQ true ν σ (fun _ => none))) (cx := ⟨Tryd.prog, true, t.get, orcD (fma3ZZID sa sb), (opH (bigHook Tryd.prog true) (opH (symHook Tryd.prog fma3ZZIN (fun _ _ _ => none)) (tabHook (fma3ZZIL sa sb) fma3ZZIM)))⟩) (xs := [.one (.atom (.sym 0)), .one (.atom (.sym 1)), .one (.atom (.sym 2)), .one (.atom (.sym 3))]) (vs := [.int .u64 f, .int .u64 g, .int .u64 h, .int .i64 m]) Tryd.checked.mixed hcx (fun hg => by cases hg) ⟨⟨rfl, fun _ => trivial⟩, ⟨rfl, fun _ => trivial⟩, ⟨rfl, fun _ => trivial⟩, ⟨rfl, fun _ => trivial⟩, trivial⟩ he).mono ?_
  rintro e w' ⟨v, ρ', rfl, hv, hbel⟩
  obtain ⟨us, rfl, hu⟩ := hv
  match us, hu with
  | [c0, c1], ⟨r0, r1, _⟩ =>
    obtain ⟨rfl, _⟩ : c0 = _ ∧ _ := r0
    obtain ⟨rfl, _⟩ : c1 = _ ∧ _ := r1
    exact ⟨rfl, hbel⟩

def fma3ZZZD (sa : Bool) (sb : Bool) : List (FuncId × Ans) :=
  [(52, ansT [([.one (.atom (.sym 0))], .v (.one (.lit (.bool false)))), ([.one (.atom (.sym 1))], .v (.one (.lit (.bool false)))), ([.one (.atom (.sym 2))], .v (.one (.lit (.bool false))))]),
   (53, ansT [([.one (.atom (.sym 0))], .v (.one (.lit (.bool false)))), ([.one (.atom (.sym 1))], .v (.one (.lit (.bool false)))), ([.one (.atom (.sym 2))], .v (.one (.lit (.bool false))))]),
   (57, ansT [([.one (.atom (.sym 0))], .v (.one (.lit (.bool true)))), ([.one (.atom (.sym 1))], .v (.one (.lit (.bool true)))), ([.one (.atom (.sym 2))], .v (.one (.lit (.bool true))))]),
   (58, ansT [([.one (.lit (.bool (sa != sb))), .one (.lit (.int .u64 0))], .v (.one (.atom (.sym 4))))]),
   (27, ansT [([.one (.atom (.sym 4)), .one (.atom (.sym 2)), .one (.atom (.sym 3))], .tup [.one (.atom (.sym 5)), .one (.atom (.sym 6))])]),
   (56, ansT [([.one (.atom (.sym 0))], .v (.one (.lit (.bool sa)))), ([.one (.atom (.sym 1))], .v (.one (.lit (.bool sb))))])]
def fma3ZZZL (sa : Bool) (sb : Bool) : BT := []
def fma3ZZZM : BT := []
def fma3ZZZN : At → Option Nat
  | _ => none

set_option maxRecDepth 1000000 in
theorem fma3ZZZTold : ∃ t : Tr Func, TabOK Tryd.prog t ∧ (∀ (sa : Bool) (sb : Bool), isAV (.tup [.one (.atom (.sym 5)), .one (.atom (.sym 6))]) (evalCall ⟨Tryd.prog, true, t.get, orcD (fma3ZZZD sa sb), (opH (bigHook Tryd.prog true) (opH (symHook Tryd.prog fma3ZZZN (fun _ _ _ => none)) (tabHook (fma3ZZZL sa sb) fma3ZZZM)))⟩ 1000 37 [.one (.atom (.sym 0)), .one (.atom (.sym 1)), .one (.atom (.sym 2)), .one (.atom (.sym 3))] .e 0) = true) :=
  ⟨(((((((Tr.e).put 37 (some Tryd.f37)).put 52 (some Tryd.f52)).put 53 (some Tryd.f53)).put 57 (some Tryd.f57)).put 58 (some Tryd.f58)).put 27 (some Tryd.f27)).put 56 (some Tryd.f56),
   (TabOK.put (TabOK.put (TabOK.put (TabOK.put (TabOK.put (TabOK.put (TabOK.put (TabOK.e _) ⟨Tryd.func37, by decide +kernel, by decide +kernel⟩) ⟨Tryd.func52, by decide +kernel, by decide +kernel⟩) ⟨Tryd.func53, by decide +kernel, by decide +kernel⟩) ⟨Tryd.func57, by decide +kernel, by decide +kernel⟩) ⟨Tryd.func58, by decide +kernel, by decide +kernel⟩) ⟨Tryd.func27, by decide +kernel, by decide +kernel⟩) ⟨Tryd.func56, by decide +kernel, by decide +kernel⟩),
   by decide +kernel⟩

set_option maxHeartbeats 4000000 in
set_option maxRecDepth 100000 in
theorem fma3ZZZ_tab {w : World} (m : Int) (f g h : Nat) (hf : f < 18446744073709551616) (hg : g < 18446744073709551616) (hh : h < 18446744073709551616) (Kf : fsz f = 0) (Kg : fsz g = 0) (Kh : fsz h = 0) {sa sb : Bool} (hsa : fneg f = sa) (hsb : fneg g = sb) :
    Calls Tryd.prog 37 #[.int .u64 f, .int .u64 g, .int .u64 h, .int .i64 m] w fun e w' => e = .returned (.tuple #[.int .u64 ((fmaF m f g h).1 : Nat), .int .i64 ((fmaF m f g h).2 : Nat)]) ∧ Below w.heap.size w w' := by
  have cnf : ∀ (w : World), Calls Tryd.prog 52 #[.int .u64 f] w fun e w' => e = .returned (.bool false) ∧ Fwd w w' := fun w => (none3_any f hf).mono fun e w' gg => ⟨by rw [gg.1, show isNan f = false from isNan_le (by omega)], gg.2 ▸ Fwd.refl _⟩
  have cif : ∀ (w : World), Calls Tryd.prog 53 #[.int .u64 f] w fun e w' => e = .returned (.bool false) ∧ Fwd w w' := fun w => (endless3_any f hf).mono fun e w' gg => ⟨by rw [gg.1, show decide (fsz f = 9218868437227405312) = false from decide_eq_false (by omega)], gg.2 ▸ Fwd.refl _⟩
  have czf : ∀ (w : World), Calls Tryd.prog 57 #[.int .u64 f] w fun e w' => e = .returned (.bool true) ∧ Fwd w w' := fun w => (nought3_any f hf).mono fun e w' gg => ⟨by rw [gg.1, show decide (fsz f = 0) = true from decide_eq_true (by omega)], gg.2 ▸ Fwd.refl _⟩
  have cng : ∀ (w : World), Calls Tryd.prog 52 #[.int .u64 g] w fun e w' => e = .returned (.bool false) ∧ Fwd w w' := fun w => (none3_any g hg).mono fun e w' gg => ⟨by rw [gg.1, show isNan g = false from isNan_le (by omega)], gg.2 ▸ Fwd.refl _⟩
  have cig : ∀ (w : World), Calls Tryd.prog 53 #[.int .u64 g] w fun e w' => e = .returned (.bool false) ∧ Fwd w w' := fun w => (endless3_any g hg).mono fun e w' gg => ⟨by rw [gg.1, show decide (fsz g = 9218868437227405312) = false from decide_eq_false (by omega)], gg.2 ▸ Fwd.refl _⟩
  have czg : ∀ (w : World), Calls Tryd.prog 57 #[.int .u64 g] w fun e w' => e = .returned (.bool true) ∧ Fwd w w' := fun w => (nought3_any g hg).mono fun e w' gg => ⟨by rw [gg.1, show decide (fsz g = 0) = true from decide_eq_true (by omega)], gg.2 ▸ Fwd.refl _⟩
  have cnh : ∀ (w : World), Calls Tryd.prog 52 #[.int .u64 h] w fun e w' => e = .returned (.bool false) ∧ Fwd w w' := fun w => (none3_any h hh).mono fun e w' gg => ⟨by rw [gg.1, show isNan h = false from isNan_le (by omega)], gg.2 ▸ Fwd.refl _⟩
  have cih : ∀ (w : World), Calls Tryd.prog 53 #[.int .u64 h] w fun e w' => e = .returned (.bool false) ∧ Fwd w w' := fun w => (endless3_any h hh).mono fun e w' gg => ⟨by rw [gg.1, show decide (fsz h = 9218868437227405312) = false from decide_eq_false (by omega)], gg.2 ▸ Fwd.refl _⟩
  have czh : ∀ (w : World), Calls Tryd.prog 57 #[.int .u64 h] w fun e w' => e = .returned (.bool true) ∧ Fwd w w' := fun w => (nought3_any h hh).mono fun e w' gg => ⟨by rw [gg.1, show decide (fsz h = 0) = true from decide_eq_true (by omega)], gg.2 ▸ Fwd.refl _⟩
  have cS : ∀ (w : World), Calls Tryd.prog 58 #[.bool (sa != sb), .int .u64 0] w fun e w' => e = .returned (.int .u64 ((sgn (sa != sb) + 0 : Nat) : Int)) ∧ Fwd w w' := fun w => (signed3_any (sa != sb) 0 (by omega)).mono fun e w' gg => ⟨gg.1, gg.2 ▸ Fwd.refl _⟩
  have hsl : sgn (sa != sb) + 0 < 18446744073709551616 := by have := sgn_le (sa != sb); omega
  have cmf : ∀ (w : World), Calls Tryd.prog 56 #[.int .u64 f] w fun e w' => e = .returned (.bool sa) ∧ Fwd w w' := fun w => (minus3_any f hf).mono fun e w' gg => ⟨by rw [gg.1, hsa], gg.2 ▸ Fwd.refl _⟩
  have cmg : ∀ (w : World), Calls Tryd.prog 56 #[.int .u64 g] w fun e w' => e = .returned (.bool sb) ∧ Fwd w w' := fun w => (minus3_any g hg).mono fun e w' gg => ⟨by rw [gg.1, hsb], gg.2 ▸ Fwd.refl _⟩
  have hval : fmaF m f g h = addF m (sgn (sa != sb) + 0) h := by rw [← hsa, ← hsb]; exact fmaF_nought (by omega) (by omega) (by omega) (by omega)
  rw [hval]
  obtain ⟨t, ht, hr⟩ := fma3ZZZTold
  obtain ⟨dl, n', he⟩ := isAV_ok (hr sa sb)
  let ν : Nat → Rat := nuL [fvQ f, fvQ g, fvQ h, fvQ f * fvQ g] []
  let σ : SymD := symL [.u f, .u g, .u h, .i m, .u (sgn (sa != sb) + 0), .u (addF m (sgn (sa != sb) + 0) h).1, .i ((addF m (sgn (sa != sb) + 0) h).2 : Int)]
  have hcx : CxOK (DomQ true ν σ (fun _ => none)) w.heap.size ⟨Tryd.prog, true, t.get, orcD (fma3ZZZD sa sb), (opH (bigHook Tryd.prog true) (opH (symHook Tryd.prog fma3ZZZN (fun _ _ _ => none)) (tabHook (fma3ZZZL sa sb) fma3ZZZM)))⟩ := cxS_ok (M := (DomQ true ν σ (fun _ => none))) ht ⟨[
      orcT 52 [
        { args := [.one (.atom (.sym 0))], ans := .v (.one (.lit (.bool false))), ok := by
            intro B ρ w S vs hS hr
            match vs, hr with
            | [u0], ⟨z0, _⟩ =>
              obtain ⟨rfl, _⟩ : u0 = _ ∧ _ := z0
              refine (cnf _).mono ?_
              rintro e w' ⟨rfl, hf⟩
              exact ⟨_, rfl, ⟨rfl, rfl⟩, hf⟩ },
        { args := [.one (.atom (.sym 1))], ans := .v (.one (.lit (.bool false))), ok := by
            intro B ρ w S vs hS hr
            match vs, hr with
            | [u0], ⟨z0, _⟩ =>
              obtain ⟨rfl, _⟩ : u0 = _ ∧ _ := z0
              refine (cng _).mono ?_
              rintro e w' ⟨rfl, hf⟩
              exact ⟨_, rfl, ⟨rfl, rfl⟩, hf⟩ },
        { args := [.one (.atom (.sym 2))], ans := .v (.one (.lit (.bool false))), ok := by
            intro B ρ w S vs hS hr
            match vs, hr with
            | [u0], ⟨z0, _⟩ =>
              obtain ⟨rfl, _⟩ : u0 = _ ∧ _ := z0
              refine (cnh _).mono ?_
              rintro e w' ⟨rfl, hf⟩
              exact ⟨_, rfl, ⟨rfl, rfl⟩, hf⟩ }],
      orcT 53 [
        { args := [.one (.atom (.sym 0))], ans := .v (.one (.lit (.bool false))), ok := by
            intro B ρ w S vs hS hr
            match vs, hr with
            | [u0], ⟨z0, _⟩ =>
              obtain ⟨rfl, _⟩ : u0 = _ ∧ _ := z0
              refine (cif _).mono ?_
              rintro e w' ⟨rfl, hf⟩
              exact ⟨_, rfl, ⟨rfl, rfl⟩, hf⟩ },
        { args := [.one (.atom (.sym 1))], ans := .v (.one (.lit (.bool false))), ok := by
            intro B ρ w S vs hS hr
            match vs, hr with
            | [u0], ⟨z0, _⟩ =>
              obtain ⟨rfl, _⟩ : u0 = _ ∧ _ := z0
              refine (cig _).mono ?_
              rintro e w' ⟨rfl, hf⟩
              exact ⟨_, rfl, ⟨rfl, rfl⟩, hf⟩ },
        { args := [.one (.atom (.sym 2))], ans := .v (.one (.lit (.bool false))), ok := by
            intro B ρ w S vs hS hr
            match vs, hr with
            | [u0], ⟨z0, _⟩ =>
              obtain ⟨rfl, _⟩ : u0 = _ ∧ _ := z0
              refine (cih _).mono ?_
              rintro e w' ⟨rfl, hf⟩
              exact ⟨_, rfl, ⟨rfl, rfl⟩, hf⟩ }],
      orcT 57 [
        { args := [.one (.atom (.sym 0))], ans := .v (.one (.lit (.bool true))), ok := by
            intro B ρ w S vs hS hr
            match vs, hr with
            | [u0], ⟨z0, _⟩ =>
              obtain ⟨rfl, _⟩ : u0 = _ ∧ _ := z0
              refine (czf _).mono ?_
              rintro e w' ⟨rfl, hf⟩
              exact ⟨_, rfl, ⟨rfl, rfl⟩, hf⟩ },
        { args := [.one (.atom (.sym 1))], ans := .v (.one (.lit (.bool true))), ok := by
            intro B ρ w S vs hS hr
            match vs, hr with
            | [u0], ⟨z0, _⟩ =>
              obtain ⟨rfl, _⟩ : u0 = _ ∧ _ := z0
              refine (czg _).mono ?_
              rintro e w' ⟨rfl, hf⟩
              exact ⟨_, rfl, ⟨rfl, rfl⟩, hf⟩ },
        { args := [.one (.atom (.sym 2))], ans := .v (.one (.lit (.bool true))), ok := by
            intro B ρ w S vs hS hr
            match vs, hr with
            | [u0], ⟨z0, _⟩ =>
              obtain ⟨rfl, _⟩ : u0 = _ ∧ _ := z0
              refine (czh _).mono ?_
              rintro e w' ⟨rfl, hf⟩
              exact ⟨_, rfl, ⟨rfl, rfl⟩, hf⟩ }],
      orcT 58 [
        { args := [.one (.lit (.bool (sa != sb))), .one (.lit (.int .u64 0))], ans := .v (.one (.atom (.sym 4))), ok := by
            intro B ρ w S vs hS hr
            match vs, hr with
            | [u0, u1], ⟨z0, z1, _⟩ =>
              obtain ⟨rfl, _⟩ : u0 = _ ∧ _ := z0
              obtain ⟨rfl, _⟩ : u1 = _ ∧ _ := z1
              refine (cS _).mono ?_
              rintro e w' ⟨rfl, hf⟩
              exact ⟨_, rfl, ⟨rfl, fun _ => trivial⟩, hf⟩ }],
      orcT 27 [
        { args := [.one (.atom (.sym 4)), .one (.atom (.sym 2)), .one (.atom (.sym 3))], ans := .tup [.one (.atom (.sym 5)), .one (.atom (.sym 6))], ok := by
            intro B ρ w S vs hS hr
            match vs, hr with
            | [u0, u1, u2], ⟨z0, z1, z2, _⟩ =>
              obtain ⟨rfl, _⟩ : u0 = _ ∧ _ := z0
              obtain ⟨rfl, _⟩ : u1 = _ ∧ _ := z1
              obtain ⟨rfl, _⟩ : u2 = _ ∧ _ := z2
              refine (add3_any m _ h hsl hh).mono ?_
              rintro e w' ⟨rfl, hf⟩
              exact ⟨_, rfl, ⟨[_, _], rfl, ⟨rfl, fun _ => trivial⟩, ⟨rfl, fun _ => trivial⟩, trivial⟩, hf⟩ }],
      orcT 56 [
        { args := [.one (.atom (.sym 0))], ans := .v (.one (.lit (.bool sa))), ok := by
            intro B ρ w S vs hS hr
            match vs, hr with
            | [u0], ⟨z0, _⟩ =>
              obtain ⟨rfl, _⟩ : u0 = _ ∧ _ := z0
              refine (cmf _).mono ?_
              rintro e w' ⟨rfl, hf⟩
              exact ⟨_, rfl, ⟨rfl, rfl⟩, hf⟩ },
        { args := [.one (.atom (.sym 1))], ans := .v (.one (.lit (.bool sb))), ok := by
            intro B ρ w S vs hS hr
            match vs, hr with
            | [u0], ⟨z0, _⟩ =>
              obtain ⟨rfl, _⟩ : u0 = _ ∧ _ := z0
              refine (cmg _).mono ?_
              rintro e w' ⟨rfl, hf⟩
              exact ⟨_, rfl, ⟨rfl, rfl⟩, hf⟩ }]], rfl⟩
    (opH_le (bigHook_le _ _) (opH_le (symHook_le _ _ _) (tabHook_le _ _)))
    (opH_ok (bigHook_ok _) (opH_ok (symHook_ok _ (fun h => by cases h) (fun h => by cases h)) (tabHook_ok _ all_nil all_nil)))
  refine (told_call (M := (DomQ true ν σ (fun _ => none))) (cx := ⟨Tryd.prog, true, t.get, orcD (fma3ZZZD sa sb), (opH (bigHook Tryd.prog true) (opH (symHook Tryd.prog fma3ZZZN (fun _ _ _ => none)) (tabHook (fma3ZZZL sa sb) fma3ZZZM)))⟩) (xs := [.one (.atom (.sym 0)), .one (.atom (.sym 1)), .one (.atom (.sym 2)), .one (.atom (.sym 3))]) (vs := [.int .u64 f, .int .u64 g, .int .u64 h, .int .i64 m]) Tryd.checked.mixed hcx (fun hg => by cases hg) ⟨⟨rfl, fun _ => trivial⟩, ⟨rfl, fun _ => trivial⟩, ⟨rfl, fun _ => trivial⟩, ⟨rfl, fun _ => trivial⟩, trivial⟩ he).mono ?_
  rintro e w' ⟨v, ρ', rfl, hv, hbel⟩
  obtain ⟨us, rfl, hu⟩ := hv
  match us, hu with
  | [c0, c1], ⟨r0, r1, _⟩ =>
    obtain ⟨rfl, _⟩ : c0 = _ ∧ _ := r0
    obtain ⟨rfl, _⟩ : c1 = _ ∧ _ := r1
    exact ⟨rfl, hbel⟩

def fma3ZZFD (sa : Bool) (sb : Bool) : List (FuncId × Ans) :=
  [(52, ansT [([.one (.atom (.sym 0))], .v (.one (.lit (.bool false)))), ([.one (.atom (.sym 1))], .v (.one (.lit (.bool false)))), ([.one (.atom (.sym 2))], .v (.one (.lit (.bool false))))]),
   (53, ansT [([.one (.atom (.sym 0))], .v (.one (.lit (.bool false)))), ([.one (.atom (.sym 1))], .v (.one (.lit (.bool false)))), ([.one (.atom (.sym 2))], .v (.one (.lit (.bool false))))]),
   (57, ansT [([.one (.atom (.sym 0))], .v (.one (.lit (.bool true)))), ([.one (.atom (.sym 1))], .v (.one (.lit (.bool true)))), ([.one (.atom (.sym 2))], .v (.one (.lit (.bool false))))]),
   (58, ansT [([.one (.lit (.bool (sa != sb))), .one (.lit (.int .u64 0))], .v (.one (.atom (.sym 4))))]),
   (27, ansT [([.one (.atom (.sym 4)), .one (.atom (.sym 2)), .one (.atom (.sym 3))], .tup [.one (.atom (.sym 5)), .one (.atom (.sym 6))])]),
   (56, ansT [([.one (.atom (.sym 0))], .v (.one (.lit (.bool sa)))), ([.one (.atom (.sym 1))], .v (.one (.lit (.bool sb))))])]
def fma3ZZFL (sa : Bool) (sb : Bool) : BT := []
def fma3ZZFM : BT := []
def fma3ZZFN : At → Option Nat
  | _ => none

set_option maxRecDepth 1000000 in
theorem fma3ZZFTold : ∃ t : Tr Func, TabOK Tryd.prog t ∧ (∀ (sa : Bool) (sb : Bool), isAV (.tup [.one (.atom (.sym 5)), .one (.atom (.sym 6))]) (evalCall ⟨Tryd.prog, true, t.get, orcD (fma3ZZFD sa sb), (opH (bigHook Tryd.prog true) (opH (symHook Tryd.prog fma3ZZFN (fun _ _ _ => none)) (tabHook (fma3ZZFL sa sb) fma3ZZFM)))⟩ 1000 37 [.one (.atom (.sym 0)), .one (.atom (.sym 1)), .one (.atom (.sym 2)), .one (.atom (.sym 3))] .e 0) = true) :=
  ⟨(((((((Tr.e).put 37 (some Tryd.f37)).put 52 (some Tryd.f52)).put 53 (some Tryd.f53)).put 57 (some Tryd.f57)).put 58 (some Tryd.f58)).put 27 (some Tryd.f27)).put 56 (some Tryd.f56),
   (TabOK.put (TabOK.put (TabOK.put (TabOK.put (TabOK.put (TabOK.put (TabOK.put (TabOK.e _) ⟨Tryd.func37, by decide +kernel, by decide +kernel⟩) ⟨Tryd.func52, by decide +kernel, by decide +kernel⟩) ⟨Tryd.func53, by decide +kernel, by decide +kernel⟩) ⟨Tryd.func57, by decide +kernel, by decide +kernel⟩) ⟨Tryd.func58, by decide +kernel, by decide +kernel⟩) ⟨Tryd.func27, by decide +kernel, by decide +kernel⟩) ⟨Tryd.func56, by decide +kernel, by decide +kernel⟩),
   by decide +kernel⟩

set_option maxHeartbeats 4000000 in
set_option maxRecDepth 100000 in
theorem fma3ZZF_tab {w : World} (m : Int) (f g h : Nat) (hf : f < 18446744073709551616) (hg : g < 18446744073709551616) (hh : h < 18446744073709551616) (Kf : fsz f = 0) (Kg : fsz g = 0) (Kh : fsz h ≠ 0) (Lh : fsz h < 9218868437227405312) {sa sb : Bool} (hsa : fneg f = sa) (hsb : fneg g = sb) :
    Calls Tryd.prog 37 #[.int .u64 f, .int .u64 g, .int .u64 h, .int .i64 m] w fun e w' => e = .returned (.tuple #[.int .u64 ((fmaF m f g h).1 : Nat), .int .i64 ((fmaF m f g h).2 : Nat)]) ∧ Below w.heap.size w w' := by
  have cnf : ∀ (w : World), Calls Tryd.prog 52 #[.int .u64 f] w fun e w' => e = .returned (.bool false) ∧ Fwd w w' := fun w => (none3_any f hf).mono fun e w' gg => ⟨by rw [gg.1, show isNan f = false from isNan_le (by omega)], gg.2 ▸ Fwd.refl _⟩
  have cif : ∀ (w : World), Calls Tryd.prog 53 #[.int .u64 f] w fun e w' => e = .returned (.bool false) ∧ Fwd w w' := fun w => (endless3_any f hf).mono fun e w' gg => ⟨by rw [gg.1, show decide (fsz f = 9218868437227405312) = false from decide_eq_false (by omega)], gg.2 ▸ Fwd.refl _⟩
  have czf : ∀ (w : World), Calls Tryd.prog 57 #[.int .u64 f] w fun e w' => e = .returned (.bool true) ∧ Fwd w w' := fun w => (nought3_any f hf).mono fun e w' gg => ⟨by rw [gg.1, show decide (fsz f = 0) = true from decide_eq_true (by omega)], gg.2 ▸ Fwd.refl _⟩
  have cng : ∀ (w : World), Calls Tryd.prog 52 #[.int .u64 g] w fun e w' => e = .returned (.bool false) ∧ Fwd w w' := fun w => (none3_any g hg).mono fun e w' gg => ⟨by rw [gg.1, show isNan g = false from isNan_le (by omega)], gg.2 ▸ Fwd.refl _⟩
  have cig : ∀ (w : World), Calls Tryd.prog 53 #[.int .u64 g] w fun e w' => e = .returned (.bool false) ∧ Fwd w w' := fun w => (endless3_any g hg).mono fun e w' gg => ⟨by rw [gg.1, show decide (fsz g = 9218868437227405312) = false from decide_eq_false (by omega)], gg.2 ▸ Fwd.refl _⟩
  have czg : ∀ (w : World), Calls Tryd.prog 57 #[.int .u64 g] w fun e w' => e = .returned (.bool true) ∧ Fwd w w' := fun w => (nought3_any g hg).mono fun e w' gg => ⟨by rw [gg.1, show decide (fsz g = 0) = true from decide_eq_true (by omega)], gg.2 ▸ Fwd.refl _⟩
  have cnh : ∀ (w : World), Calls Tryd.prog 52 #[.int .u64 h] w fun e w' => e = .returned (.bool false) ∧ Fwd w w' := fun w => (none3_any h hh).mono fun e w' gg => ⟨by rw [gg.1, show isNan h = false from isNan_le (by omega)], gg.2 ▸ Fwd.refl _⟩
  have cih : ∀ (w : World), Calls Tryd.prog 53 #[.int .u64 h] w fun e w' => e = .returned (.bool false) ∧ Fwd w w' := fun w => (endless3_any h hh).mono fun e w' gg => ⟨by rw [gg.1, show decide (fsz h = 9218868437227405312) = false from decide_eq_false (by omega)], gg.2 ▸ Fwd.refl _⟩
  have czh : ∀ (w : World), Calls Tryd.prog 57 #[.int .u64 h] w fun e w' => e = .returned (.bool false) ∧ Fwd w w' := fun w => (nought3_any h hh).mono fun e w' gg => ⟨by rw [gg.1, show decide (fsz h = 0) = false from decide_eq_false (by omega)], gg.2 ▸ Fwd.refl _⟩
  have cS : ∀ (w : World), Calls Tryd.prog 58 #[.bool (sa != sb), .int .u64 0] w fun e w' => e = .returned (.int .u64 ((sgn (sa != sb) + 0 : Nat) : Int)) ∧ Fwd w w' := fun w => (signed3_any (sa != sb) 0 (by omega)).mono fun e w' gg => ⟨gg.1, gg.2 ▸ Fwd.refl _⟩
  have hsl : sgn (sa != sb) + 0 < 18446744073709551616 := by have := sgn_le (sa != sb); omega
  have cmf : ∀ (w : World), Calls Tryd.prog 56 #[.int .u64 f] w fun e w' => e = .returned (.bool sa) ∧ Fwd w w' := fun w => (minus3_any f hf).mono fun e w' gg => ⟨by rw [gg.1, hsa], gg.2 ▸ Fwd.refl _⟩
  have cmg : ∀ (w : World), Calls Tryd.prog 56 #[.int .u64 g] w fun e w' => e = .returned (.bool sb) ∧ Fwd w w' := fun w => (minus3_any g hg).mono fun e w' gg => ⟨by rw [gg.1, hsb], gg.2 ▸ Fwd.refl _⟩
  have hval : fmaF m f g h = addF m (sgn (sa != sb) + 0) h := by rw [← hsa, ← hsb]; exact fmaF_nought (by omega) (by omega) (by omega) (by omega)
  rw [hval]
  obtain ⟨t, ht, hr⟩ := fma3ZZFTold
  obtain ⟨dl, n', he⟩ := isAV_ok (hr sa sb)
  let ν : Nat → Rat := nuL [fvQ f, fvQ g, fvQ h, fvQ f * fvQ g] []
  let σ : SymD := symL [.u f, .u g, .u h, .i m, .u (sgn (sa != sb) + 0), .u (addF m (sgn (sa != sb) + 0) h).1, .i ((addF m (sgn (sa != sb) + 0) h).2 : Int)]
  have hcx : CxOK (DomQ true ν σ (fun _ => none)) w.heap.size ⟨Tryd.prog, true, t.get, orcD (fma3ZZFD sa sb), (opH (bigHook Tryd.prog true) (opH (symHook Tryd.prog fma3ZZFN (fun _ _ _ => none)) (tabHook (fma3ZZFL sa sb) fma3ZZFM)))⟩ := cxS_ok (M := (DomQ true ν σ (fun _ => none))) ht ⟨[
      orcT 52 [
        { args := [.one (.atom (.sym 0))], ans := .v (.one (.lit (.bool false))), ok := by
            intro B ρ w S vs hS hr
            match vs, hr with
            | [u0], ⟨z0, _⟩ =>
              obtain ⟨rfl, _⟩ : u0 = _ ∧ _ := z0
              refine (cnf _).mono ?_
              rintro e w' ⟨rfl, hf⟩
              exact ⟨_, rfl, ⟨rfl, rfl⟩, hf⟩ },
        { args := [.one (.atom (.sym 1))], ans := .v (.one (.lit (.bool false))), ok := by
            intro B ρ w S vs hS hr
            match vs, hr with
            | [u0], ⟨z0, _⟩ =>
              obtain ⟨rfl, _⟩ : u0 = _ ∧ _ := z0
              refine (cng _).mono ?_
              rintro e w' ⟨rfl, hf⟩
              exact ⟨_, rfl, ⟨rfl, rfl⟩, hf⟩ },
        { args := [.one (.atom (.sym 2))], ans := .v (.one (.lit (.bool false))), ok := by
            intro B ρ w S vs hS hr
            match vs, hr with
            | [u0], ⟨z0, _⟩ =>
              obtain ⟨rfl, _⟩ : u0 = _ ∧ _ := z0
              refine (cnh _).mono ?_
              rintro e w' ⟨rfl, hf⟩
              exact ⟨_, rfl, ⟨rfl, rfl⟩, hf⟩ }],
      orcT 53 [
        { args := [.one (.atom (.sym 0))], ans := .v (.one (.lit (.bool false))), ok := by
            intro B ρ w S vs hS hr
            match vs, hr with
            | [u0], ⟨z0, _⟩ =>
              obtain ⟨rfl, _⟩ : u0 = _ ∧ _ := z0
              refine (cif _).mono ?_
              rintro e w' ⟨rfl, hf⟩
              exact ⟨_, rfl, ⟨rfl, rfl⟩, hf⟩ },
        { args := [.one (.atom (.sym 1))], ans := .v (.one (.lit (.bool false))), ok := by
            intro B ρ w S vs hS hr
            match vs, hr with
            | [u0], ⟨z0, _⟩ =>
              obtain ⟨rfl, _⟩ : u0 = _ ∧ _ := z0
              refine (cig _).mono ?_
              rintro e w' ⟨rfl, hf⟩
              exact ⟨_, rfl, ⟨rfl, rfl⟩, hf⟩ },
        { args := [.one (.atom (.sym 2))], ans := .v (.one (.lit (.bool false))), ok := by
            intro B ρ w S vs hS hr
            match vs, hr with
            | [u0], ⟨z0, _⟩ =>
              obtain ⟨rfl, _⟩ : u0 = _ ∧ _ := z0
              refine (cih _).mono ?_
              rintro e w' ⟨rfl, hf⟩
              exact ⟨_, rfl, ⟨rfl, rfl⟩, hf⟩ }],
      orcT 57 [
        { args := [.one (.atom (.sym 0))], ans := .v (.one (.lit (.bool true))), ok := by
            intro B ρ w S vs hS hr
            match vs, hr with
            | [u0], ⟨z0, _⟩ =>
              obtain ⟨rfl, _⟩ : u0 = _ ∧ _ := z0
              refine (czf _).mono ?_
              rintro e w' ⟨rfl, hf⟩
              exact ⟨_, rfl, ⟨rfl, rfl⟩, hf⟩ },
        { args := [.one (.atom (.sym 1))], ans := .v (.one (.lit (.bool true))), ok := by
            intro B ρ w S vs hS hr
            match vs, hr with
            | [u0], ⟨z0, _⟩ =>
              obtain ⟨rfl, _⟩ : u0 = _ ∧ _ := z0
              refine (czg _).mono ?_
              rintro e w' ⟨rfl, hf⟩
              exact ⟨_, rfl, ⟨rfl, rfl⟩, hf⟩ },
        { args := [.one (.atom (.sym 2))], ans := .v (.one (.lit (.bool false))), ok := by
            intro B ρ w S vs hS hr
            match vs, hr with
            | [u0], ⟨z0, _⟩ =>
              obtain ⟨rfl, _⟩ : u0 = _ ∧ _ := z0
              refine (czh _).mono ?_
              rintro e w' ⟨rfl, hf⟩
              exact ⟨_, rfl, ⟨rfl, rfl⟩, hf⟩ }],
      orcT 58 [
        { args := [.one (.lit (.bool (sa != sb))), .one (.lit (.int .u64 0))], ans := .v (.one (.atom (.sym 4))), ok := by
            intro B ρ w S vs hS hr
            match vs, hr with
            | [u0, u1], ⟨z0, z1, _⟩ =>
              obtain ⟨rfl, _⟩ : u0 = _ ∧ _ := z0
              obtain ⟨rfl, _⟩ : u1 = _ ∧ _ := z1
              refine (cS _).mono ?_
              rintro e w' ⟨rfl, hf⟩
              exact ⟨_, rfl, ⟨rfl, fun _ => trivial⟩, hf⟩ }],
      orcT 27 [
        { args := [.one (.atom (.sym 4)), .one (.atom (.sym 2)), .one (.atom (.sym 3))], ans := .tup [.one (.atom (.sym 5)), .one (.atom (.sym 6))], ok := by
            intro B ρ w S vs hS hr
            match vs, hr with
            | [u0, u1, u2], ⟨z0, z1, z2, _⟩ =>
              obtain ⟨rfl, _⟩ : u0 = _ ∧ _ := z0
              obtain ⟨rfl, _⟩ : u1 = _ ∧ _ := z1
              obtain ⟨rfl, _⟩ : u2 = _ ∧ _ := z2
              refine (add3_any m _ h hsl hh).mono ?_
              rintro e w' ⟨rfl, hf⟩
              exact ⟨_, rfl, ⟨[_, _], rfl, ⟨rfl, fun _ => trivial⟩, ⟨rfl, fun _ => trivial⟩, trivial⟩, hf⟩ }],
      orcT 56 [
        { args := [.one (.atom (.sym 0))], ans := .v (.one (.lit (.bool sa))), ok := by
            intro B ρ w S vs hS hr
            match vs, hr with
            | [u0], ⟨z0, _⟩ =>
              obtain ⟨rfl, _⟩ : u0 = _ ∧ _ := z0
              refine (cmf _).mono ?_
              rintro e w' ⟨rfl, hf⟩
              exact ⟨_, rfl, ⟨rfl, rfl⟩, hf⟩ },
        { args := [.one (.atom (.sym 1))], ans := .v (.one (.lit (.bool sb))), ok := by
            intro B ρ w S vs hS hr
            match vs, hr with
            | [u0], ⟨z0, _⟩ =>
              obtain ⟨rfl, _⟩ : u0 = _ ∧ _ := z0
              refine (cmg _).mono ?_
              rintro e w' ⟨rfl, hf⟩
              exact ⟨_, rfl, ⟨rfl, rfl⟩, hf⟩ }]], rfl⟩
    (opH_le (bigHook_le _ _) (opH_le (symHook_le _ _ _) (tabHook_le _ _)))
    (opH_ok (bigHook_ok _) (opH_ok (symHook_ok _ (fun h => by cases h) (fun h => by cases h)) (tabHook_ok _ all_nil all_nil)))
  refine (told_call (M := (DomQ true ν σ (fun _ => none))) (cx := ⟨Tryd.prog, true, t.get, orcD (fma3ZZFD sa sb), (opH (bigHook Tryd.prog true) (opH (symHook Tryd.prog fma3ZZFN (fun _ _ _ => none)) (tabHook (fma3ZZFL sa sb) fma3ZZFM)))⟩) (xs := [.one (.atom (.sym 0)), .one (.atom (.sym 1)), .one (.atom (.sym 2)), .one (.atom (.sym 3))]) (vs := [.int .u64 f, .int .u64 g, .int .u64 h, .int .i64 m]) Tryd.checked.mixed hcx (fun hg => by cases hg) ⟨⟨rfl, fun _ => trivial⟩, ⟨rfl, fun _ => trivial⟩, ⟨rfl, fun _ => trivial⟩, ⟨rfl, fun _ => trivial⟩, trivial⟩ he).mono ?_
  rintro e w' ⟨v, ρ', rfl, hv, hbel⟩
  obtain ⟨us, rfl, hu⟩ := hv
  match us, hu with
  | [c0, c1], ⟨r0, r1, _⟩ =>
    obtain ⟨rfl, _⟩ : c0 = _ ∧ _ := r0
    obtain ⟨rfl, _⟩ : c1 = _ ∧ _ := r1
    exact ⟨rfl, hbel⟩

def fma3ZFID (sa : Bool) (sb : Bool) : List (FuncId × Ans) :=
  [(52, ansT [([.one (.atom (.sym 0))], .v (.one (.lit (.bool false)))), ([.one (.atom (.sym 1))], .v (.one (.lit (.bool false)))), ([.one (.atom (.sym 2))], .v (.one (.lit (.bool false))))]),
   (53, ansT [([.one (.atom (.sym 0))], .v (.one (.lit (.bool false)))), ([.one (.atom (.sym 1))], .v (.one (.lit (.bool false)))), ([.one (.atom (.sym 2))], .v (.one (.lit (.bool true))))]),
   (57, ansT [([.one (.atom (.sym 0))], .v (.one (.lit (.bool true)))), ([.one (.atom (.sym 1))], .v (.one (.lit (.bool false)))), ([.one (.atom (.sym 2))], .v (.one (.lit (.bool false))))]),
   (56, ansT [([.one (.atom (.sym 0))], .v (.one (.lit (.bool sa)))), ([.one (.atom (.sym 1))], .v (.one (.lit (.bool sb))))])]
def fma3ZFIL (sa : Bool) (sb : Bool) : BT := []
def fma3ZFIM : BT := []
def fma3ZFIN : At → Option Nat
  | _ => none

set_option maxRecDepth 1000000 in
theorem fma3ZFITold : ∃ t : Tr Func, TabOK Tryd.prog t ∧ (∀ (sa : Bool) (sb : Bool), isAV (.tup [.one (.atom (.sym 2)), .one (.lit (.int .i64 (0)))]) (evalCall ⟨Tryd.prog, true, t.get, orcD (fma3ZFID sa sb), (opH (bigHook Tryd.prog true) (opH (symHook Tryd.prog fma3ZFIN (fun _ _ _ => none)) (tabHook (fma3ZFIL sa sb) fma3ZFIM)))⟩ 1000 37 [.one (.atom (.sym 0)), .one (.atom (.sym 1)), .one (.atom (.sym 2)), .one (.atom (.sym 3))] .e 0) = true) :=
  ⟨(((((Tr.e).put 37 (some Tryd.f37)).put 52 (some Tryd.f52)).put 53 (some Tryd.f53)).put 57 (some Tryd.f57)).put 56 (some Tryd.f56),
   (TabOK.put (TabOK.put (TabOK.put (TabOK.put (TabOK.put (TabOK.e _) ⟨Tryd.func37, by decide +kernel, by decide +kernel⟩) ⟨Tryd.func52, by decide +kernel, by decide +kernel⟩) ⟨Tryd.func53, by decide +kernel, by decide +kernel⟩) ⟨Tryd.func57, by decide +kernel, by decide +kernel⟩) ⟨Tryd.func56, by decide +kernel, by decide +kernel⟩),
   by decide +kernel⟩

set_option maxHeartbeats 4000000 in
set_option maxRecDepth 100000 in
theorem fma3ZFI_tab {w : World} (m : Int) (f g h : Nat) (hf : f < 18446744073709551616) (hg : g < 18446744073709551616) (hh : h < 18446744073709551616) (Kf : fsz f = 0) (Kg : fsz g ≠ 0) (Lg : fsz g < 9218868437227405312) (Kh : fsz h = 9218868437227405312) {sa sb : Bool} (hsa : fneg f = sa) (hsb : fneg g = sb) :
    Calls Tryd.prog 37 #[.int .u64 f, .int .u64 g, .int .u64 h, .int .i64 m] w fun e w' => e = .returned (.tuple #[.int .u64 ((fmaF m f g h).1 : Nat), .int .i64 ((fmaF m f g h).2 : Nat)]) ∧ Below w.heap.size w w' := by
  have cnf : ∀ (w : World), Calls Tryd.prog 52 #[.int .u64 f] w fun e w' => e = .returned (.bool false) ∧ Fwd w w' := fun w => (none3_any f hf).mono fun e w' gg => ⟨by rw [gg.1, show isNan f = false from isNan_le (by omega)], gg.2 ▸ Fwd.refl _⟩
  have cif : ∀ (w : World), Calls Tryd.prog 53 #[.int .u64 f] w fun e w' => e = .returned (.bool false) ∧ Fwd w w' := fun w => (endless3_any f hf).mono fun e w' gg => ⟨by rw [gg.1, show decide (fsz f = 9218868437227405312) = false from decide_eq_false (by omega)], gg.2 ▸ Fwd.refl _⟩
  have czf : ∀ (w : World), Calls Tryd.prog 57 #[.int .u64 f] w fun e w' => e = .returned (.bool true) ∧ Fwd w w' := fun w => (nought3_any f hf).mono fun e w' gg => ⟨by rw [gg.1, show decide (fsz f = 0) = true from decide_eq_true (by omega)], gg.2 ▸ Fwd.refl _⟩
  have cng : ∀ (w : World), Calls Tryd.prog 52 #[.int .u64 g] w fun e w' => e = .returned (.bool false) ∧ Fwd w w' := fun w => (none3_any g hg).mono fun e w' gg => ⟨by rw [gg.1, show isNan g = false from isNan_le (by omega)], gg.2 ▸ Fwd.refl _⟩
  have cig : ∀ (w : World), Calls Tryd.prog 53 #[.int .u64 g] w fun e w' => e = .returned (.bool false) ∧ Fwd w w' := fun w => (endless3_any g hg).mono fun e w' gg => ⟨by rw [gg.1, show decide (fsz g = 9218868437227405312) = false from decide_eq_false (by omega)], gg.2 ▸ Fwd.refl _⟩
  have czg : ∀ (w : World), Calls Tryd.prog 57 #[.int .u64 g] w fun e w' => e = .returned (.bool false) ∧ Fwd w w' := fun w => (nought3_any g hg).mono fun e w' gg => ⟨by rw [gg.1, show decide (fsz g = 0) = false from decide_eq_false (by omega)], gg.2 ▸ Fwd.refl _⟩
  have cnh : ∀ (w : World), Calls Tryd.prog 52 #[.int .u64 h] w fun e w' => e = .returned (.bool false) ∧ Fwd w w' := fun w => (none3_any h hh).mono fun e w' gg => ⟨by rw [gg.1, show isNan h = false from isNan_le (by omega)], gg.2 ▸ Fwd.refl _⟩
  have cih : ∀ (w : World), Calls Tryd.prog 53 #[.int .u64 h] w fun e w' => e = .returned (.bool true) ∧ Fwd w w' := fun w => (endless3_any h hh).mono fun e w' gg => ⟨by rw [gg.1, show decide (fsz h = 9218868437227405312) = true from decide_eq_true (by omega)], gg.2 ▸ Fwd.refl _⟩
  have czh : ∀ (w : World), Calls Tryd.prog 57 #[.int .u64 h] w fun e w' => e = .returned (.bool false) ∧ Fwd w w' := fun w => (nought3_any h hh).mono fun e w' gg => ⟨by rw [gg.1, show decide (fsz h = 0) = false from decide_eq_false (by omega)], gg.2 ▸ Fwd.refl _⟩
  have cmf : ∀ (w : World), Calls Tryd.prog 56 #[.int .u64 f] w fun e w' => e = .returned (.bool sa) ∧ Fwd w w' := fun w => (minus3_any f hf).mono fun e w' gg => ⟨by rw [gg.1, hsa], gg.2 ▸ Fwd.refl _⟩
  have cmg : ∀ (w : World), Calls Tryd.prog 56 #[.int .u64 g] w fun e w' => e = .returned (.bool sb) ∧ Fwd w w' := fun w => (minus3_any g hg).mono fun e w' gg => ⟨by rw [gg.1, hsb], gg.2 ▸ Fwd.refl _⟩
  have hval : fmaF m f g h = _ := fmaF_end (by omega) (by omega) Kh hh
  rw [hval]
  obtain ⟨t, ht, hr⟩ := fma3ZFITold
  obtain ⟨dl, n', he⟩ := isAV_ok (hr sa sb)
  let ν : Nat → Rat := nuL [fvQ f, fvQ g, fvQ h, fvQ f * fvQ g] []
  let σ : SymD := symL [.u f, .u g, .u h, .i m]
  have hcx : CxOK (DomQ true ν σ (fun _ => none)) w.heap.size ⟨Tryd.prog, true, t.get, orcD (fma3ZFID sa sb), (opH (bigHook Tryd.prog true) (opH (symHook Tryd.prog fma3ZFIN (fun _ _ _ => none)) (tabHook (fma3ZFIL sa sb) fma3ZFIM)))⟩ := cxS_ok (M := (DomQ true ν σ (fun _ => none))) ht ⟨[
      orcT 52 [
        { args := [.one (.atom (.sym 0))], ans := .v (.one (.lit (.bool false))), ok := by
            intro B ρ w S vs hS hr
            match vs, hr with
            | [u0], ⟨z0, _⟩ =>
              obtain ⟨rfl, _⟩ : u0 = _ ∧ _ := z0
              refine (cnf _).mono ?_
              rintro e w' ⟨rfl, hf⟩
              exact ⟨_, rfl, ⟨rfl, rfl⟩, hf⟩ },
        { args := [.one (.atom (.sym 1))], ans := .v (.one (.lit (.bool false))), ok := by
            intro B ρ w S vs hS hr
            match vs, hr with
            | [u0], ⟨z0, _⟩ =>
              obtain ⟨rfl, _⟩ : u0 = _ ∧ _ := z0
              refine (cng _).mono ?_
              rintro e w' ⟨rfl, hf⟩
              exact ⟨_, rfl, ⟨rfl, rfl⟩, hf⟩ },
        { args := [.one (.atom (.sym 2))], ans := .v (.one (.lit (.bool false))), ok := by
            intro B ρ w S vs hS hr
            match vs, hr with
            | [u0], ⟨z0, _⟩ =>
              obtain ⟨rfl, _⟩ : u0 = _ ∧ _ := z0
              refine (cnh _).mono ?_
              rintro e w' ⟨rfl, hf⟩
              exact ⟨_, rfl, ⟨rfl, rfl⟩, hf⟩ }],
      orcT 53 [
        { args := [.one (.atom (.sym 0))], ans := .v (.one (.lit (.bool false))), ok := by
            intro B ρ w S vs hS hr
            match vs, hr with
            | [u0], ⟨z0, _⟩ =>
              obtain ⟨rfl, _⟩ : u0 = _ ∧ _ := z0
              refine (cif _).mono ?_
              rintro e w' ⟨rfl, hf⟩
              exact ⟨_, rfl, ⟨rfl, rfl⟩, hf⟩ },
        { args := [.one (.atom (.sym 1))], ans := .v (.one (.lit (.bool false))), ok := by
            intro B ρ w S vs hS hr
            match vs, hr with
            | [u0], ⟨z0, _⟩ =>
              obtain ⟨rfl, _⟩ : u0 = _ ∧ _ := z0
              refine (cig _).mono ?_
              rintro e w' ⟨rfl, hf⟩
              exact ⟨_, rfl, ⟨rfl, rfl⟩, hf⟩ },
        { args := [.one (.atom (.sym 2))], ans := .v (.one (.lit (.bool true))), ok := by
            intro B ρ w S vs hS hr
            match vs, hr with
            | [u0], ⟨z0, _⟩ =>
              obtain ⟨rfl, _⟩ : u0 = _ ∧ _ := z0
              refine (cih _).mono ?_
              rintro e w' ⟨rfl, hf⟩
              exact ⟨_, rfl, ⟨rfl, rfl⟩, hf⟩ }],
      orcT 57 [
        { args := [.one (.atom (.sym 0))], ans := .v (.one (.lit (.bool true))), ok := by
            intro B ρ w S vs hS hr
            match vs, hr with
            | [u0], ⟨z0, _⟩ =>
              obtain ⟨rfl, _⟩ : u0 = _ ∧ _ := z0
              refine (czf _).mono ?_
              rintro e w' ⟨rfl, hf⟩
              exact ⟨_, rfl, ⟨rfl, rfl⟩, hf⟩ },
        { args := [.one (.atom (.sym 1))], ans := .v (.one (.lit (.bool false))), ok := by
            intro B ρ w S vs hS hr
            match vs, hr with
            | [u0], ⟨z0, _⟩ =>
              obtain ⟨rfl, _⟩ : u0 = _ ∧ _ := z0
              refine (czg _).mono ?_
              rintro e w' ⟨rfl, hf⟩
              exact ⟨_, rfl, ⟨rfl, rfl⟩, hf⟩ },
        { args := [.one (.atom (.sym 2))], ans := .v (.one (.lit (.bool false))), ok := by
            intro B ρ w S vs hS hr
            match vs, hr with
            | [u0], ⟨z0, _⟩ =>
              obtain ⟨rfl, _⟩ : u0 = _ ∧ _ := z0
              refine (czh _).mono ?_
              rintro e w' ⟨rfl, hf⟩
              exact ⟨_, rfl, ⟨rfl, rfl⟩, hf⟩ }],
      orcT 56 [
        { args := [.one (.atom (.sym 0))], ans := .v (.one (.lit (.bool sa))), ok := by
            intro B ρ w S vs hS hr
            match vs, hr with
            | [u0], ⟨z0, _⟩ =>
              obtain ⟨rfl, _⟩ : u0 = _ ∧ _ := z0
              refine (cmf _).mono ?_
              rintro e w' ⟨rfl, hf⟩
              exact ⟨_, rfl, ⟨rfl, rfl⟩, hf⟩ },
        { args := [.one (.atom (.sym 1))], ans := .v (.one (.lit (.bool sb))), ok := by
            intro B ρ w S vs hS hr
            match vs, hr with
            | [u0], ⟨z0, _⟩ =>
              obtain ⟨rfl, _⟩ : u0 = _ ∧ _ := z0
              refine (cmg _).mono ?_
              rintro e w' ⟨rfl, hf⟩
              exact ⟨_, rfl, ⟨rfl, rfl⟩, hf⟩ }]], rfl⟩
    (opH_le (bigHook_le _ _) (opH_le (symHook_le _ _ _) (tabHook_le _ _)))
    (opH_ok (bigHook_ok _) (opH_ok (symHook_ok _ (fun h => by cases h) (fun h => by cases h)) (tabHook_ok _ all_nil all_nil)))
  refine (told_call (M := (DomQ true ν σ (fun _ => none))) (cx := ⟨Tryd.prog, true, t.get, orcD (fma3ZFID sa sb), (opH (bigHook Tryd.prog true) (opH (symHook Tryd.prog fma3ZFIN (fun _ _ _ => none)) (tabHook (fma3ZFIL sa sb) fma3ZFIM)))⟩) (xs := [.one (.atom (.sym 0)), .one (.atom (.sym 1)), .one (.atom (.sym 2)), .one (.atom (.sym 3))]) (vs := [.int .u64 f, .int .u64 g, .int .u64 h, .int .i64 m]) Tryd.checked.mixed hcx (fun hg => by cases hg) ⟨⟨rfl, fun _ => trivial⟩, ⟨rfl, fun _ => trivial⟩, ⟨rfl, fun _ => trivial⟩, ⟨rfl, fun _ => trivial⟩, trivial⟩ he).mono ?_
  rintro e w' ⟨v, ρ', rfl, hv, hbel⟩
  obtain ⟨us, rfl, hu⟩ := hv
  match us, hu with
  | [c0, c1], ⟨r0, r1, _⟩ =>
    obtain ⟨rfl, _⟩ : c0 = _ ∧ _ := r0
    obtain ⟨rfl, _⟩ : c1 = _ ∧ _ := r1
    exact ⟨rfl, hbel⟩

def fma3ZFZD (sa : Bool) (sb : Bool) : List (FuncId × Ans) :=
  [(52, ansT [([.one (.atom (.sym 0))], .v (.one (.lit (.bool false)))), ([.one (.atom (.sym 1))], .v (.one (.lit (.bool false)))), ([.one (.atom (.sym 2))], .v (.one (.lit (.bool false))))]),
   (53, ansT [([.one (.atom (.sym 0))], .v (.one (.lit (.bool false)))), ([.one (.atom (.sym 1))], .v (.one (.lit (.bool false)))), ([.one (.atom (.sym 2))], .v (.one (.lit (.bool false))))]),
   (57, ansT [([.one (.atom (.sym 0))], .v (.one (.lit (.bool true)))), ([.one (.atom (.sym 1))], .v (.one (.lit (.bool false)))), ([.one (.atom (.sym 2))], .v (.one (.lit (.bool true))))]),
   (58, ansT [([.one (.lit (.bool (sa != sb))), .one (.lit (.int .u64 0))], .v (.one (.atom (.sym 4))))]),
   (27, ansT [([.one (.atom (.sym 4)), .one (.atom (.sym 2)), .one (.atom (.sym 3))], .tup [.one (.atom (.sym 5)), .one (.atom (.sym 6))])]),
   (56, ansT [([.one (.atom (.sym 0))], .v (.one (.lit (.bool sa)))), ([.one (.atom (.sym 1))], .v (.one (.lit (.bool sb))))])]
def fma3ZFZL (sa : Bool) (sb : Bool) : BT := []
def fma3ZFZM : BT := []
def fma3ZFZN : At → Option Nat
  | _ => none

set_option maxRecDepth 1000000 in
theorem fma3ZFZTold : ∃ t : Tr Func, TabOK Tryd.prog t ∧ (∀ (sa : Bool) (sb : Bool), isAV (.tup [.one (.atom (.sym 5)), .one (.atom (.sym 6))]) (evalCall ⟨Tryd.prog, true, t.get, orcD (fma3ZFZD sa sb), (opH (bigHook Tryd.prog true) (opH (symHook Tryd.prog fma3ZFZN (fun _ _ _ => none)) (tabHook (fma3ZFZL sa sb) fma3ZFZM)))⟩ 1000 37 [.one (.atom (.sym 0)), .one (.atom (.sym 1)), .one (.atom (.sym 2)), .one (.atom (.sym 3))] .e 0) = true) :=
  ⟨(((((((Tr.e).put 37 (some Tryd.f37)).put 52 (some Tryd.f52)).put 53 (some Tryd.f53)).put 57 (some Tryd.f57)).put 58 (some Tryd.f58)).put 27 (some Tryd.f27)).put 56 (some Tryd.f56),
   (TabOK.put (TabOK.put (TabOK.put (TabOK.put (TabOK.put (TabOK.put (TabOK.put (TabOK.e _) ⟨Tryd.func37, by decide +kernel, by decide +kernel⟩) ⟨Tryd.func52, by decide +kernel, by decide +kernel⟩) ⟨Tryd.func53, by decide +kernel, by decide +kernel⟩) ⟨Tryd.func57, by decide +kernel, by decide +kernel⟩) ⟨Tryd.func58, by decide +kernel, by decide +kernel⟩) ⟨Tryd.func27, by decide +kernel, by decide +kernel⟩) ⟨Tryd.func56, by decide +kernel, by decide +kernel⟩),
   by decide +kernel⟩

set_option maxHeartbeats 4000000 in
set_option maxRecDepth 100000 in
theorem fma3ZFZ_tab {w : World} (m : Int) (f g h : Nat) (hf : f < 18446744073709551616) (hg : g < 18446744073709551616) (hh : h < 18446744073709551616) (Kf : fsz f = 0) (Kg : fsz g ≠ 0) (Lg : fsz g < 9218868437227405312) (Kh : fsz h = 0) {sa sb : Bool} (hsa : fneg f = sa) (hsb : fneg g = sb) :
    Calls Tryd.prog 37 #[.int .u64 f, .int .u64 g, .int .u64 h, .int .i64 m] w fun e w' => e = .returned (.tuple #[.int .u64 ((fmaF m f g h).1 : Nat), .int .i64 ((fmaF m f g h).2 : Nat)]) ∧ Below w.heap.size w w' := by
  have cnf : ∀ (w : World), Calls Tryd.prog 52 #[.int .u64 f] w fun e w' => e = .returned (.bool false) ∧ Fwd w w' := fun w => (none3_any f hf).mono fun e w' gg => ⟨by rw [gg.1, show isNan f = false from isNan_le (by omega)], gg.2 ▸ Fwd.refl _⟩
  have cif : ∀ (w : World), Calls Tryd.prog 53 #[.int .u64 f] w fun e w' => e = .returned (.bool false) ∧ Fwd w w' := fun w => (endless3_any f hf).mono fun e w' gg => ⟨by rw [gg.1, show decide (fsz f = 9218868437227405312) = false from decide_eq_false (by omega)], gg.2 ▸ Fwd.refl _⟩
  have czf : ∀ (w : World), Calls Tryd.prog 57 #[.int .u64 f] w fun e w' => e = .returned (.bool true) ∧ Fwd w w' := fun w => (nought3_any f hf).mono fun e w' gg => ⟨by rw [gg.1, show decide (fsz f = 0) = true from decide_eq_true (by omega)], gg.2 ▸ Fwd.refl _⟩
  have cng : ∀ (w : World), Calls Tryd.prog 52 #[.int .u64 g] w fun e w' => e = .returned (.bool false) ∧ Fwd w w' := fun w => (none3_any g hg).mono fun e w' gg => ⟨by rw [gg.1, show isNan g = false from isNan_le (by omega)], gg.2 ▸ Fwd.refl _⟩
  have cig : ∀ (w : World), Calls Tryd.prog 53 #[.int .u64 g] w fun e w' => e = .returned (.bool false) ∧ Fwd w w' := fun w => (endless3_any g hg).mono fun e w' gg => ⟨by rw [gg.1, show decide (fsz g = 9218868437227405312) = false from decide_eq_false (by omega)], gg.2 ▸ Fwd.refl _⟩
  have czg : ∀ (w : World), Calls Tryd.prog 57 #[.int .u64 g] w fun e w' => e = .returned (.bool false) ∧ Fwd w w' := fun w => (nought3_any g hg).mono fun e w' gg => ⟨by rw [gg.1, show decide (fsz g = 0) = false from decide_eq_false (by omega)], gg.2 ▸ Fwd.refl _⟩
  have cnh : ∀ (w : World), Calls Tryd.prog 52 #[.int .u64 h] w fun e w' => e = .returned (.bool false) ∧ Fwd w w' := fun w => (none3_any h hh).mono fun e w' gg => ⟨by rw [gg.1, show isNan h = false from isNan_le (by omega)], gg.2 ▸ Fwd.refl _⟩
  have cih : ∀ (w : World), Calls Tryd.prog 53 #[.int .u64 h] w fun e w' => e = .returned (.bool false) ∧ Fwd w w' := fun w => (endless3_any h hh).mono fun e w' gg => ⟨by rw [gg.1, show decide (fsz h = 9218868437227405312) = false from decide_eq_false (by omega)], gg.2 ▸ Fwd.refl _⟩
  have czh : ∀ (w : World), Calls Tryd.prog 57 #[.int .u64 h] w fun e w' => e = .returned (.bool true) ∧ Fwd w w' := fun w => (nought3_any h hh).mono fun e w' gg => ⟨by rw [gg.1, show decide (fsz h = 0) = true from decide_eq_true (by omega)], gg.2 ▸ Fwd.refl _⟩
  have cS : ∀ (w : World), Calls Tryd.prog 58 #[.bool (sa != sb), .int .u64 0] w fun e w' => e = .returned (.int .u64 ((sgn (sa != sb) + 0 : Nat) : Int)) ∧ Fwd w w' := fun w => (signed3_any (sa != sb) 0 (by omega)).mono fun e w' gg => ⟨gg.1, gg.2 ▸ Fwd.refl _⟩
  have hsl : sgn (sa != sb) + 0 < 18446744073709551616 := by have := sgn_le (sa != sb); omega
  have cmf : ∀ (w : World), Calls Tryd.prog 56 #[.int .u64 f] w fun e w' => e = .returned (.bool sa) ∧ Fwd w w' := fun w => (minus3_any f hf).mono fun e w' gg => ⟨by rw [gg.1, hsa], gg.2 ▸ Fwd.refl _⟩
  have cmg : ∀ (w : World), Calls Tryd.prog 56 #[.int .u64 g] w fun e w' => e = .returned (.bool sb) ∧ Fwd w w' := fun w => (minus3_any g hg).mono fun e w' gg => ⟨by rw [gg.1, hsb], gg.2 ▸ Fwd.refl _⟩
  have hval : fmaF m f g h = addF m (sgn (sa != sb) + 0) h := by rw [← hsa, ← hsb]; exact fmaF_nought (by omega) (by omega) (by omega) (by omega)
  rw [hval]
  obtain ⟨t, ht, hr⟩ := fma3ZFZTold
  obtain ⟨dl, n', he⟩ := isAV_ok (hr sa sb)
  let ν : Nat → Rat := nuL [fvQ f, fvQ g, fvQ h, fvQ f * fvQ g] []
  let σ : SymD := symL [.u f, .u g, .u h, .i m, .u (sgn (sa != sb) + 0), .u (addF m (sgn (sa != sb) + 0) h).1, .i ((addF m (sgn (sa != sb) + 0) h).2 : Int)]
  have hcx : CxOK (DomQ true ν σ (fun _ => none)) w.heap.size ⟨Tryd.prog, true, t.get, orcD (fma3ZFZD sa sb), (opH (bigHook Tryd.prog true) (opH (symHook Tryd.prog fma3ZFZN (fun _ _ _ => none)) (tabHook (fma3ZFZL sa sb) fma3ZFZM)))⟩ := cxS_ok (M := (DomQ true ν σ (fun _ => none))) ht ⟨[
      orcT 52 [
        { args := [.one (.atom (.sym 0))], ans := .v (.one (.lit (.bool false))), ok := by
            intro B ρ w S vs hS hr
            match vs, hr with
            | [u0], ⟨z0, _⟩ =>
              obtain ⟨rfl, _⟩ : u0 = _ ∧ _ := z0
              refine (cnf _).mono ?_
              rintro e w' ⟨rfl, hf⟩
              exact ⟨_, rfl, ⟨rfl, rfl⟩, hf⟩ },
        { args := [.one (.atom (.sym 1))], ans := .v (.one (.lit (.bool false))), ok := by
            intro B ρ w S vs hS hr
            match vs, hr with
            | [u0], ⟨z0, _⟩ =>
              obtain ⟨rfl, _⟩ : u0 = _ ∧ _ := z0
              refine (cng _).mono ?_
              rintro e w' ⟨rfl, hf⟩
              exact ⟨_, rfl, ⟨rfl, rfl⟩, hf⟩ },
        { args := [.one (.atom (.sym 2))], ans := .v (.one (.lit (.bool false))), ok := by
            intro B ρ w S vs hS hr
            match vs, hr with
            | [u0], ⟨z0, _⟩ =>
              obtain ⟨rfl, _⟩ : u0 = _ ∧ _ := z0
              refine (cnh _).mono ?_
              rintro e w' ⟨rfl, hf⟩
              exact ⟨_, rfl, ⟨rfl, rfl⟩, hf⟩ }],
      orcT 53 [
        { args := [.one (.atom (.sym 0))], ans := .v (.one (.lit (.bool false))), ok := by
            intro B ρ w S vs hS hr
            match vs, hr with
            | [u0], ⟨z0, _⟩ =>
              obtain ⟨rfl, _⟩ : u0 = _ ∧ _ := z0
              refine (cif _).mono ?_
              rintro e w' ⟨rfl, hf⟩
              exact ⟨_, rfl, ⟨rfl, rfl⟩, hf⟩ },
        { args := [.one (.atom (.sym 1))], ans := .v (.one (.lit (.bool false))), ok := by
            intro B ρ w S vs hS hr
            match vs, hr with
            | [u0], ⟨z0, _⟩ =>
              obtain ⟨rfl, _⟩ : u0 = _ ∧ _ := z0
              refine (cig _).mono ?_
              rintro e w' ⟨rfl, hf⟩
              exact ⟨_, rfl, ⟨rfl, rfl⟩, hf⟩ },
        { args := [.one (.atom (.sym 2))], ans := .v (.one (.lit (.bool false))), ok := by
            intro B ρ w S vs hS hr
            match vs, hr with
            | [u0], ⟨z0, _⟩ =>
              obtain ⟨rfl, _⟩ : u0 = _ ∧ _ := z0
              refine (cih _).mono ?_
              rintro e w' ⟨rfl, hf⟩
              exact ⟨_, rfl, ⟨rfl, rfl⟩, hf⟩ }],
      orcT 57 [
        { args := [.one (.atom (.sym 0))], ans := .v (.one (.lit (.bool true))), ok := by
            intro B ρ w S vs hS hr
            match vs, hr with
            | [u0], ⟨z0, _⟩ =>
              obtain ⟨rfl, _⟩ : u0 = _ ∧ _ := z0
              refine (czf _).mono ?_
              rintro e w' ⟨rfl, hf⟩
              exact ⟨_, rfl, ⟨rfl, rfl⟩, hf⟩ },
        { args := [.one (.atom (.sym 1))], ans := .v (.one (.lit (.bool false))), ok := by
            intro B ρ w S vs hS hr
            match vs, hr with
            | [u0], ⟨z0, _⟩ =>
              obtain ⟨rfl, _⟩ : u0 = _ ∧ _ := z0
              refine (czg _).mono ?_
              rintro e w' ⟨rfl, hf⟩
              exact ⟨_, rfl, ⟨rfl, rfl⟩, hf⟩ },
        { args := [.one (.atom (.sym 2))], ans := .v (.one (.lit (.bool true))), ok := by
            intro B ρ w S vs hS hr
            match vs, hr with
            | [u0], ⟨z0, _⟩ =>
              obtain ⟨rfl, _⟩ : u0 = _ ∧ _ := z0
              refine (czh _).mono ?_
              rintro e w' ⟨rfl, hf⟩
              exact ⟨_, rfl, ⟨rfl, rfl⟩, hf⟩ }],
      orcT 58 [
        { args := [.one (.lit (.bool (sa != sb))), .one (.lit (.int .u64 0))], ans := .v (.one (.atom (.sym 4))), ok := by
            intro B ρ w S vs hS hr
            match vs, hr with
            | [u0, u1], ⟨z0, z1, _⟩ =>
              obtain ⟨rfl, _⟩ : u0 = _ ∧ _ := z0
              obtain ⟨rfl, _⟩ : u1 = _ ∧ _ := z1
              refine (cS _).mono ?_
              rintro e w' ⟨rfl, hf⟩
              exact ⟨_, rfl, ⟨rfl, fun _ => trivial⟩, hf⟩ }],
      orcT 27 [
        { args := [.one (.atom (.sym 4)), .one (.atom (.sym 2)), .one (.atom (.sym 3))], ans := .tup [.one (.atom (.sym 5)), .one (.atom (.sym 6))], ok := by
            intro B ρ w S vs hS hr
            match vs, hr with
            | [u0, u1, u2], ⟨z0, z1, z2, _⟩ =>
              obtain ⟨rfl, _⟩ : u0 = _ ∧ _ := z0
              obtain ⟨rfl, _⟩ : u1 = _ ∧ _ := z1
              obtain ⟨rfl, _⟩ : u2 = _ ∧ _ := z2
              refine (add3_any m _ h hsl hh).mono ?_
              rintro e w' ⟨rfl, hf⟩
              exact ⟨_, rfl, ⟨[_, _], rfl, ⟨rfl, fun _ => trivial⟩, ⟨rfl, fun _ => trivial⟩, trivial⟩, hf⟩ }],
      orcT 56 [
        { args := [.one (.atom (.sym 0))], ans := .v (.one (.lit (.bool sa))), ok := by
            intro B ρ w S vs hS hr
            match vs, hr with
            | [u0], ⟨z0, _⟩ =>
              obtain ⟨rfl, _⟩ : u0 = _ ∧ _ := z0
              refine (cmf _).mono ?_
              rintro e w' ⟨rfl, hf⟩
              exact ⟨_, rfl, ⟨rfl, rfl⟩, hf⟩ },
        { args := [.one (.atom (.sym 1))], ans := .v (.one (.lit (.bool sb))), ok := by
            intro B ρ w S vs hS hr
            match vs, hr with
            | [u0], ⟨z0, _⟩ =>
              obtain ⟨rfl, _⟩ : u0 = _ ∧ _ := z0
              refine (cmg _).mono ?_
              rintro e w' ⟨rfl, hf⟩
              exact ⟨_, rfl, ⟨rfl, rfl⟩, hf⟩ }]], rfl⟩
    (opH_le (bigHook_le _ _) (opH_le (symHook_le _ _ _) (tabHook_le _ _)))
    (opH_ok (bigHook_ok _) (opH_ok (symHook_ok _ (fun h => by cases h) (fun h => by cases h)) (tabHook_ok _ all_nil all_nil)))
  refine (told_call (M := (DomQ true ν σ (fun _ => none))) (cx := ⟨Tryd.prog, true, t.get, orcD (fma3ZFZD sa sb), (opH (bigHook Tryd.prog true) (opH (symHook Tryd.prog fma3ZFZN (fun _ _ _ => none)) (tabHook (fma3ZFZL sa sb) fma3ZFZM)))⟩) (xs := [.one (.atom (.sym 0)), .one (.atom (.sym 1)), .one (.atom (.sym 2)), .one (.atom (.sym 3))]) (vs := [.int .u64 f, .int .u64 g, .int .u64 h, .int .i64 m]) Tryd.checked.mixed hcx (fun hg => by cases hg) ⟨⟨rfl, fun _ => trivial⟩, ⟨rfl, fun _ => trivial⟩, ⟨rfl, fun _ => trivial⟩, ⟨rfl, fun _ => trivial⟩, trivial⟩ he).mono ?_
  rintro e w' ⟨v, ρ', rfl, hv, hbel⟩
  obtain ⟨us, rfl, hu⟩ := hv
  match us, hu with
  | [c0, c1], ⟨r0, r1, _⟩ =>
    obtain ⟨rfl, _⟩ : c0 = _ ∧ _ := r0
    obtain ⟨rfl, _⟩ : c1 = _ ∧ _ := r1
    exact ⟨rfl, hbel⟩

def fma3ZFFD (sa : Bool) (sb : Bool) : List (FuncId × Ans) :=
  [(52, ansT [([.one (.atom (.sym 0))], .v (.one (.lit (.bool false)))), ([.one (.atom (.sym 1))], .v (.one (.lit (.bool false)))), ([.one (.atom (.sym 2))], .v (.one (.lit (.bool false))))]),
   (53, ansT [([.one (.atom (.sym 0))], .v (.one (.lit (.bool false)))), ([.one (.atom (.sym 1))], .v (.one (.lit (.bool false)))), ([.one (.atom (.sym 2))], .v (.one (.lit (.bool false))))]),
   (57, ansT [([.one (.atom (.sym 0))], .v (.one (.lit (.bool true)))), ([.one (.atom (.sym 1))], .v (.one (.lit (.bool false)))), ([.one (.atom (.sym 2))], .v (.one (.lit (.bool false))))]),
   (58, ansT [([.one (.lit (.bool (sa != sb))), .one (.lit (.int .u64 0))], .v (.one (.atom (.sym 4))))]),
   (27, ansT [([.one (.atom (.sym 4)), .one (.atom (.sym 2)), .one (.atom (.sym 3))], .tup [.one (.atom (.sym 5)), .one (.atom (.sym 6))])]),
   (56, ansT [([.one (.atom (.sym 0))], .v (.one (.lit (.bool sa)))), ([.one (.atom (.sym 1))], .v (.one (.lit (.bool sb))))])]
def fma3ZFFL (sa : Bool) (sb : Bool) : BT := []
def fma3ZFFM : BT := []
def fma3ZFFN : At → Option Nat
  | _ => none

set_option maxRecDepth 1000000 in
theorem fma3ZFFTold : ∃ t : Tr Func, TabOK Tryd.prog t ∧ (∀ (sa : Bool) (sb : Bool), isAV (.tup [.one (.atom (.sym 5)), .one (.atom (.sym 6))]) (evalCall ⟨Tryd.prog, true, t.get, orcD (fma3ZFFD sa sb), (opH (bigHook Tryd.prog true) (opH (symHook Tryd.prog fma3ZFFN (fun _ _ _ => none)) (tabHook (fma3ZFFL sa sb) fma3ZFFM)))⟩ 1000 37 [.one (.atom (.sym 0)), .one (.atom (.sym 1)), .one (.atom (.sym 2)), .one (.atom (.sym 3))] .e 0) = true) :=
  ⟨(((((((Tr.e).put 37 (some Tryd.f37)).put 52 (some Tryd.f52)).put 53 (some Tryd.f53)).put 57 (some Tryd.f57)).put 58 (some Tryd.f58)).put 27 (some Tryd.f27)).put 56 (some Tryd.f56),
   (TabOK.put (TabOK.put (TabOK.put (TabOK.put (TabOK.put (TabOK.put (TabOK.put (TabOK.e _) ⟨Tryd.func37, by decide +kernel, by decide +kernel⟩) ⟨Tryd.func52, by decide +kernel, by decide +kernel⟩) ⟨Tryd.func53, by decide +kernel, by decide +kernel⟩) ⟨Tryd.func57, by decide +kernel, by decide +kernel⟩) ⟨Tryd.func58, by decide +kernel, by decide +kernel⟩) ⟨Tryd.func27, by decide +kernel, by decide +kernel⟩) ⟨Tryd.func56, by decide +kernel, by decide +kernel⟩),
   by decide +kernel⟩

set_option maxHeartbeats 4000000 in
set_option maxRecDepth 100000 in
theorem fma3ZFF_tab {w : World} (m : Int) (f g h : Nat) (hf : f < 18446744073709551616) (hg : g < 18446744073709551616) (hh : h < 18446744073709551616) (Kf : fsz f = 0) (Kg : fsz g ≠ 0) (Lg : fsz g < 9218868437227405312) (Kh : fsz h ≠ 0) (Lh : fsz h < 9218868437227405312) {sa sb : Bool} (hsa : fneg f = sa) (hsb : fneg g = sb) :
    Calls Tryd.prog 37 #[.int .u64 f, .int .u64 g, .int .u64 h, .int .i64 m] w fun e w' => e = .returned (.tuple #[.int .u64 ((fmaF m f g h).1 : Nat), .int .i64 ((fmaF m f g h).2 : Nat)]) ∧ Below w.heap.size w w' := by
  have cnf : ∀ (w : World), Calls Tryd.prog 52 #[.int .u64 f] w fun e w' => e = .returned (.bool false) ∧ Fwd w w' := fun w => (none3_any f hf).mono fun e w' gg => ⟨by rw [gg.1, show isNan f = false from isNan_le (by omega)], gg.2 ▸ Fwd.refl _⟩
  have cif : ∀ (w : World), Calls Tryd.prog 53 #[.int .u64 f] w fun e w' => e = .returned (.bool false) ∧ Fwd w w' := fun w => (endless3_any f hf).mono fun e w' gg => ⟨by rw [gg.1, show decide (fsz f = 9218868437227405312) = false from decide_eq_false (by omega)], gg.2 ▸ Fwd.refl _⟩
  have czf : ∀ (w : World), Calls Tryd.prog 57 #[.int .u64 f] w fun e w' => e = .returned (.bool true) ∧ Fwd w w' := fun w => (nought3_any f hf).mono fun e w' gg => ⟨by rw [gg.1, show decide (fsz f = 0) = true from decide_eq_true (by omega)], gg.2 ▸ Fwd.refl _⟩
  have cng : ∀ (w : World), Calls Tryd.prog 52 #[.int .u64 g] w fun e w' => e = .returned (.bool false) ∧ Fwd w w' := fun w => (none3_any g hg).mono fun e w' gg => ⟨by rw [gg.1, show isNan g = false from isNan_le (by omega)], gg.2 ▸ Fwd.refl _⟩
  have cig : ∀ (w : World), Calls Tryd.prog 53 #[.int .u64 g] w fun e w' => e = .returned (.bool false) ∧ Fwd w w' := fun w => (endless3_any g hg).mono fun e w' gg => ⟨by rw [gg.1, show decide (fsz g = 9218868437227405312) = false from decide_eq_false (by omega)], gg.2 ▸ Fwd.refl _⟩
  have czg : ∀ (w : World), Calls Tryd.prog 57 #[.int .u64 g] w fun e w' => e = .returned (.bool false) ∧ Fwd w w' := fun w => (nought3_any g hg).mono fun e w' gg => ⟨by rw [gg.1, show decide (fsz g = 0) = false from decide_eq_false (by omega)], gg.2 ▸ Fwd.refl _⟩
  have cnh : ∀ (w : World), Calls Tryd.prog 52 #[.int .u64 h] w fun e w' => e = .returned (.bool false) ∧ Fwd w w' := fun w => (none3_any h hh).mono fun e w' gg => ⟨by rw [gg.1, show isNan h = false from isNan_le (by omega)], gg.2 ▸ Fwd.refl _⟩
  have cih : ∀ (w : World), Calls Tryd.prog 53 #[.int .u64 h] w fun e w' => e = .returned (.bool false) ∧ Fwd w w' := fun w => (endless3_any h hh).mono fun e w' gg => ⟨by rw [gg.1, show decide (fsz h = 9218868437227405312) = false from decide_eq_false (by omega)], gg.2 ▸ Fwd.refl _⟩
  have czh : ∀ (w : World), Calls Tryd.prog 57 #[.int .u64 h] w fun e w' => e = .returned (.bool false) ∧ Fwd w w' := fun w => (nought3_any h hh).mono fun e w' gg => ⟨by rw [gg.1, show decide (fsz h = 0) = false from decide_eq_false (by omega)], gg.2 ▸ Fwd.refl _⟩
  have cS : ∀ (w : World), Calls Tryd.prog 58 #[.bool (sa != sb), .int .u64 0] w fun e w' => e = .returned (.int .u64 ((sgn (sa != sb) + 0 : Nat) : Int)) ∧ Fwd w w' := fun w => (signed3_any (sa != sb) 0 (by omega)).mono fun e w' gg => ⟨gg.1, gg.2 ▸ Fwd.refl _⟩
  have hsl : sgn (sa != sb) + 0 < 18446744073709551616 := by have := sgn_le (sa != sb); omega
  have cmf : ∀ (w : World), Calls Tryd.prog 56 #[.int .u64 f] w fun e w' => e = .returned (.bool sa) ∧ Fwd w w' := fun w => (minus3_any f hf).mono fun e w' gg => ⟨by rw [gg.1, hsa], gg.2 ▸ Fwd.refl _⟩
  have cmg : ∀ (w : World), Calls Tryd.prog 56 #[.int .u64 g] w fun e w' => e = .returned (.bool sb) ∧ Fwd w w' := fun w => (minus3_any g hg).mono fun e w' gg => ⟨by rw [gg.1, hsb], gg.2 ▸ Fwd.refl _⟩
  have hval : fmaF m f g h = addF m (sgn (sa != sb) + 0) h := by rw [← hsa, ← hsb]; exact fmaF_nought (by omega) (by omega) (by omega) (by omega)
  rw [hval]
  obtain ⟨t, ht, hr⟩ := fma3ZFFTold
  obtain ⟨dl, n', he⟩ := isAV_ok (hr sa sb)
  let ν : Nat → Rat := nuL [fvQ f, fvQ g, fvQ h, fvQ f * fvQ g] []
  let σ : SymD := symL [.u f, .u g, .u h, .i m, .u (sgn (sa != sb) + 0), .u (addF m (sgn (sa != sb) + 0) h).1, .i ((addF m (sgn (sa != sb) + 0) h).2 : Int)]
  have hcx : CxOK (DomQ true ν σ (fun _ => none)) w.heap.size ⟨Tryd.prog, true, t.get, orcD (fma3ZFFD sa sb), (opH (bigHook Tryd.prog true) (opH (symHook Tryd.prog fma3ZFFN (fun _ _ _ => none)) (tabHook (fma3ZFFL sa sb) fma3ZFFM)))⟩ := cxS_ok (M := (DomQ true ν σ (fun _ => none))) ht ⟨[
      orcT 52 [
        { args := [.one (.atom (.sym 0))], ans := .v (.one (.lit (.bool false))), ok := by
            intro B ρ w S vs hS hr
            match vs, hr with
            | [u0], ⟨z0, _⟩ =>
              obtain ⟨rfl, _⟩ : u0 = _ ∧ _ := z0
              refine (cnf _).mono ?_
              rintro e w' ⟨rfl, hf⟩
              exact ⟨_, rfl, ⟨rfl, rfl⟩, hf⟩ },
        { args := [.one (.atom (.sym 1))], ans := .v (.one (.lit (.bool false))), ok := by
            intro B ρ w S vs hS hr
            match vs, hr with
            | [u0], ⟨z0, _⟩ =>
              obtain ⟨rfl, _⟩ : u0 = _ ∧ _ := z0
              refine (cng _).mono ?_
              rintro e w' ⟨rfl, hf⟩
              exact ⟨_, rfl, ⟨rfl, rfl⟩, hf⟩ },
        { args := [.one (.atom (.sym 2))], ans := .v (.one (.lit (.bool false))), ok := by
            intro B ρ w S vs hS hr
            match vs, hr with
            | [u0], ⟨z0, _⟩ =>
              obtain ⟨rfl, _⟩ : u0 = _ ∧ _ := z0
              refine (cnh _).mono ?_
              rintro e w' ⟨rfl, hf⟩
              exact ⟨_, rfl, ⟨rfl, rfl⟩, hf⟩ }],
      orcT 53 [
        { args := [.one (.atom (.sym 0))], ans := .v (.one (.lit (.bool false))), ok := by
            intro B ρ w S vs hS hr
            match vs, hr with
            | [u0], ⟨z0, _⟩ =>
              obtain ⟨rfl, _⟩ : u0 = _ ∧ _ := z0
              refine (cif _).mono ?_
              rintro e w' ⟨rfl, hf⟩
              exact ⟨_, rfl, ⟨rfl, rfl⟩, hf⟩ },
        { args := [.one (.atom (.sym 1))], ans := .v (.one (.lit (.bool false))), ok := by
            intro B ρ w S vs hS hr
            match vs, hr with
            | [u0], ⟨z0, _⟩ =>
              obtain ⟨rfl, _⟩ : u0 = _ ∧ _ := z0
              refine (cig _).mono ?_
              rintro e w' ⟨rfl, hf⟩
              exact ⟨_, rfl, ⟨rfl, rfl⟩, hf⟩ },
        { args := [.one (.atom (.sym 2))], ans := .v (.one (.lit (.bool false))), ok := by
            intro B ρ w S vs hS hr
            match vs, hr with
            | [u0], ⟨z0, _⟩ =>
              obtain ⟨rfl, _⟩ : u0 = _ ∧ _ := z0
              refine (cih _).mono ?_
              rintro e w' ⟨rfl, hf⟩
              exact ⟨_, rfl, ⟨rfl, rfl⟩, hf⟩ }],
      orcT 57 [
        { args := [.one (.atom (.sym 0))], ans := .v (.one (.lit (.bool true))), ok := by
            intro B ρ w S vs hS hr
            match vs, hr with
            | [u0], ⟨z0, _⟩ =>
              obtain ⟨rfl, _⟩ : u0 = _ ∧ _ := z0
              refine (czf _).mono ?_
              rintro e w' ⟨rfl, hf⟩
              exact ⟨_, rfl, ⟨rfl, rfl⟩, hf⟩ },
        { args := [.one (.atom (.sym 1))], ans := .v (.one (.lit (.bool false))), ok := by
            intro B ρ w S vs hS hr
            match vs, hr with
            | [u0], ⟨z0, _⟩ =>
              obtain ⟨rfl, _⟩ : u0 = _ ∧ _ := z0
              refine (czg _).mono ?_
              rintro e w' ⟨rfl, hf⟩
              exact ⟨_, rfl, ⟨rfl, rfl⟩, hf⟩ },
        { args := [.one (.atom (.sym 2))], ans := .v (.one (.lit (.bool false))), ok := by
            intro B ρ w S vs hS hr
            match vs, hr with
            | [u0], ⟨z0, _⟩ =>
              obtain ⟨rfl, _⟩ : u0 = _ ∧ _ := z0
              refine (czh _).mono ?_
              rintro e w' ⟨rfl, hf⟩
              exact ⟨_, rfl, ⟨rfl, rfl⟩, hf⟩ }],
      orcT 58 [
        { args := [.one (.lit (.bool (sa != sb))), .one (.lit (.int .u64 0))], ans := .v (.one (.atom (.sym 4))), ok := by
            intro B ρ w S vs hS hr
            match vs, hr with
            | [u0, u1], ⟨z0, z1, _⟩ =>
              obtain ⟨rfl, _⟩ : u0 = _ ∧ _ := z0
              obtain ⟨rfl, _⟩ : u1 = _ ∧ _ := z1
              refine (cS _).mono ?_
              rintro e w' ⟨rfl, hf⟩
              exact ⟨_, rfl, ⟨rfl, fun _ => trivial⟩, hf⟩ }],
      orcT 27 [
        { args := [.one (.atom (.sym 4)), .one (.atom (.sym 2)), .one (.atom (.sym 3))], ans := .tup [.one (.atom (.sym 5)), .one (.atom (.sym 6))], ok := by
            intro B ρ w S vs hS hr
            match vs, hr with
            | [u0, u1, u2], ⟨z0, z1, z2, _⟩ =>
              obtain ⟨rfl, _⟩ : u0 = _ ∧ _ := z0
              obtain ⟨rfl, _⟩ : u1 = _ ∧ _ := z1
              obtain ⟨rfl, _⟩ : u2 = _ ∧ _ := z2
              refine (add3_any m _ h hsl hh).mono ?_
              rintro e w' ⟨rfl, hf⟩
              exact ⟨_, rfl, ⟨[_, _], rfl, ⟨rfl, fun _ => trivial⟩, ⟨rfl, fun _ => trivial⟩, trivial⟩, hf⟩ }],
      orcT 56 [
        { args := [.one (.atom (.sym 0))], ans := .v (.one (.lit (.bool sa))), ok := by
            intro B ρ w S vs hS hr
            match vs, hr with
            | [u0], ⟨z0, _⟩ =>
              obtain ⟨rfl, _⟩ : u0 = _ ∧ _ := z0
              refine (cmf _).mono ?_
              rintro e w' ⟨rfl, hf⟩
              exact ⟨_, rfl, ⟨rfl, rfl⟩, hf⟩ },
        { args := [.one (.atom (.sym 1))], ans := .v (.one (.lit (.bool sb))), ok := by
            intro B ρ w S vs hS hr
            match vs, hr with
            | [u0], ⟨z0, _⟩ =>
              obtain ⟨rfl, _⟩ : u0 = _ ∧ _ := z0
              refine (cmg _).mono ?_
              rintro e w' ⟨rfl, hf⟩
              exact ⟨_, rfl, ⟨rfl, rfl⟩, hf⟩ }]], rfl⟩
    (opH_le (bigHook_le _ _) (opH_le (symHook_le _ _ _) (tabHook_le _ _)))
    (opH_ok (bigHook_ok _) (opH_ok (symHook_ok _ (fun h => by cases h) (fun h => by cases h)) (tabHook_ok _ all_nil all_nil)))
  refine (told_call (M := (DomQ true ν σ (fun _ => none))) (cx := ⟨Tryd.prog, true, t.get, orcD (fma3ZFFD sa sb), (opH (bigHook Tryd.prog true) (opH (symHook Tryd.prog fma3ZFFN (fun _ _ _ => none)) (tabHook (fma3ZFFL sa sb) fma3ZFFM)))⟩) (xs := [.one (.atom (.sym 0)), .one (.atom (.sym 1)), .one (.atom (.sym 2)), .one (.atom (.sym 3))]) (vs := [.int .u64 f, .int .u64 g, .int .u64 h, .int .i64 m]) Tryd.checked.mixed hcx (fun hg => by cases hg) ⟨⟨rfl, fun _ => trivial⟩, ⟨rfl, fun _ => trivial⟩, ⟨rfl, fun _ => trivial⟩, ⟨rfl, fun _ => trivial⟩, trivial⟩ he).mono ?_
  rintro e w' ⟨v, ρ', rfl, hv, hbel⟩
  obtain ⟨us, rfl, hu⟩ := hv
  match us, hu with
  | [c0, c1], ⟨r0, r1, _⟩ =>
    obtain ⟨rfl, _⟩ : c0 = _ ∧ _ := r0
    obtain ⟨rfl, _⟩ : c1 = _ ∧ _ := r1
    exact ⟨rfl, hbel⟩

def fma3FIAD (sa : Bool) (sb : Bool) : List (FuncId × Ans) :=
  [(52, ansT [([.one (.atom (.sym 0))], .v (.one (.lit (.bool false)))), ([.one (.atom (.sym 1))], .v (.one (.lit (.bool false)))), ([.one (.atom (.sym 2))], .v (.one (.lit (.bool false))))]),
   (53, ansT [([.one (.atom (.sym 0))], .v (.one (.lit (.bool false)))), ([.one (.atom (.sym 1))], .v (.one (.lit (.bool true))))]),
   (57, ansT [([.one (.atom (.sym 0))], .v (.one (.lit (.bool false)))), ([.one (.atom (.sym 1))], .v (.one (.lit (.bool false))))]),
   (58, ansT [([.one (.lit (.bool (sa != sb))), .one (.lit (.int .u64 9218868437227405312))], .v (.one (.atom (.sym 4))))]),
   (27, ansT [([.one (.atom (.sym 4)), .one (.atom (.sym 2)), .one (.atom (.sym 3))], .tup [.one (.atom (.sym 5)), .one (.atom (.sym 6))])]),
   (56, ansT [([.one (.atom (.sym 0))], .v (.one (.lit (.bool sa)))), ([.one (.atom (.sym 1))], .v (.one (.lit (.bool sb))))])]
def fma3FIAL (sa : Bool) (sb : Bool) : BT := []
def fma3FIAM : BT := []
def fma3FIAN : At → Option Nat
  | _ => none

set_option maxRecDepth 1000000 in
theorem fma3FIATold : ∃ t : Tr Func, TabOK Tryd.prog t ∧ (∀ (sa : Bool) (sb : Bool), isAV (.tup [.one (.atom (.sym 5)), .one (.atom (.sym 6))]) (evalCall ⟨Tryd.prog, true, t.get, orcD (fma3FIAD sa sb), (opH (bigHook Tryd.prog true) (opH (symHook Tryd.prog fma3FIAN (fun _ _ _ => none)) (tabHook (fma3FIAL sa sb) fma3FIAM)))⟩ 1000 37 [.one (.atom (.sym 0)), .one (.atom (.sym 1)), .one (.atom (.sym 2)), .one (.atom (.sym 3))] .e 0) = true) :=
  ⟨(((((((Tr.e).put 37 (some Tryd.f37)).put 52 (some Tryd.f52)).put 53 (some Tryd.f53)).put 57 (some Tryd.f57)).put 58 (some Tryd.f58)).put 27 (some Tryd.f27)).put 56 (some Tryd.f56),
   (TabOK.put (TabOK.put (TabOK.put (TabOK.put (TabOK.put (TabOK.put (TabOK.put (TabOK.e _) ⟨Tryd.func37, by decide +kernel, by decide +kernel⟩) ⟨Tryd.func52, by decide +kernel, by decide +kernel⟩) ⟨Tryd.func53, by decide +kernel, by decide +kernel⟩) ⟨Tryd.func57, by decide +kernel, by decide +kernel⟩) ⟨Tryd.func58, by decide +kernel, by decide +kernel⟩) ⟨Tryd.func27, by decide +kernel, by decide +kernel⟩) ⟨Tryd.func56, by decide +kernel, by decide +kernel⟩),
   by decide +kernel⟩

set_option maxHeartbeats 4000000 in
set_option maxRecDepth 100000 in
theorem fma3FIA_tab {w : World} (m : Int) (f g h : Nat) (hf : f < 18446744073709551616) (hg : g < 18446744073709551616) (hh : h < 18446744073709551616) (Kf : fsz f ≠ 0) (Lf : fsz f < 9218868437227405312) (Kg : fsz g = 9218868437227405312) (Kh : isNan h = false) {sa sb : Bool} (hsa : fneg f = sa) (hsb : fneg g = sb) :
    Calls Tryd.prog 37 #[.int .u64 f, .int .u64 g, .int .u64 h, .int .i64 m] w fun e w' => e = .returned (.tuple #[.int .u64 ((fmaF m f g h).1 : Nat), .int .i64 ((fmaF m f g h).2 : Nat)]) ∧ Below w.heap.size w w' := by
  have cnf : ∀ (w : World), Calls Tryd.prog 52 #[.int .u64 f] w fun e w' => e = .returned (.bool false) ∧ Fwd w w' := fun w => (none3_any f hf).mono fun e w' gg => ⟨by rw [gg.1, show isNan f = false from isNan_le (by omega)], gg.2 ▸ Fwd.refl _⟩
  have cif : ∀ (w : World), Calls Tryd.prog 53 #[.int .u64 f] w fun e w' => e = .returned (.bool false) ∧ Fwd w w' := fun w => (endless3_any f hf).mono fun e w' gg => ⟨by rw [gg.1, show decide (fsz f = 9218868437227405312) = false from decide_eq_false (by omega)], gg.2 ▸ Fwd.refl _⟩
  have czf : ∀ (w : World), Calls Tryd.prog 57 #[.int .u64 f] w fun e w' => e = .returned (.bool false) ∧ Fwd w w' := fun w => (nought3_any f hf).mono fun e w' gg => ⟨by rw [gg.1, show decide (fsz f = 0) = false from decide_eq_false (by omega)], gg.2 ▸ Fwd.refl _⟩
  have cng : ∀ (w : World), Calls Tryd.prog 52 #[.int .u64 g] w fun e w' => e = .returned (.bool false) ∧ Fwd w w' := fun w => (none3_any g hg).mono fun e w' gg => ⟨by rw [gg.1, show isNan g = false from isNan_le (by omega)], gg.2 ▸ Fwd.refl _⟩
  have cig : ∀ (w : World), Calls Tryd.prog 53 #[.int .u64 g] w fun e w' => e = .returned (.bool true) ∧ Fwd w w' := fun w => (endless3_any g hg).mono fun e w' gg => ⟨by rw [gg.1, show decide (fsz g = 9218868437227405312) = true from decide_eq_true (by omega)], gg.2 ▸ Fwd.refl _⟩
  have czg : ∀ (w : World), Calls Tryd.prog 57 #[.int .u64 g] w fun e w' => e = .returned (.bool false) ∧ Fwd w w' := fun w => (nought3_any g hg).mono fun e w' gg => ⟨by rw [gg.1, show decide (fsz g = 0) = false from decide_eq_false (by omega)], gg.2 ▸ Fwd.refl _⟩
  have cnh : ∀ (w : World), Calls Tryd.prog 52 #[.int .u64 h] w fun e w' => e = .returned (.bool false) ∧ Fwd w w' := fun w => (none3_any h hh).mono fun e w' gg => ⟨by rw [gg.1, show isNan h = false from Kh], gg.2 ▸ Fwd.refl _⟩
  have hcl : fsz h ≤ 9218868437227405312 := by unfold isNan at Kh; have := of_decide_eq_false Kh; omega
  have cS : ∀ (w : World), Calls Tryd.prog 58 #[.bool (sa != sb), .int .u64 9218868437227405312] w fun e w' => e = .returned (.int .u64 ((sgn (sa != sb) + 9218868437227405312 : Nat) : Int)) ∧ Fwd w w' := fun w => (signed3_any (sa != sb) 9218868437227405312 (by omega)).mono fun e w' gg => ⟨gg.1, gg.2 ▸ Fwd.refl _⟩
  have hsl : sgn (sa != sb) + 9218868437227405312 < 18446744073709551616 := by have := sgn_le (sa != sb); omega
  have cmf : ∀ (w : World), Calls Tryd.prog 56 #[.int .u64 f] w fun e w' => e = .returned (.bool sa) ∧ Fwd w w' := fun w => (minus3_any f hf).mono fun e w' gg => ⟨by rw [gg.1, hsa], gg.2 ▸ Fwd.refl _⟩
  have cmg : ∀ (w : World), Calls Tryd.prog 56 #[.int .u64 g] w fun e w' => e = .returned (.bool sb) ∧ Fwd w w' := fun w => (minus3_any g hg).mono fun e w' gg => ⟨by rw [gg.1, hsb], gg.2 ▸ Fwd.refl _⟩
  have hval : fmaF m f g h = addF m (sgn (sa != sb) + 9218868437227405312) h := by rw [← hsa, ← hsb]; exact fmaF_inf (by omega) hcl
  rw [hval]
  obtain ⟨t, ht, hr⟩ := fma3FIATold
  obtain ⟨dl, n', he⟩ := isAV_ok (hr sa sb)
  let ν : Nat → Rat := nuL [fvQ f, fvQ g, fvQ h, fvQ f * fvQ g] []
  let σ : SymD := symL [.u f, .u g, .u h, .i m, .u (sgn (sa != sb) + 9218868437227405312), .u (addF m (sgn (sa != sb) + 9218868437227405312) h).1, .i ((addF m (sgn (sa != sb) + 9218868437227405312) h).2 : Int)]
  have hcx : CxOK (DomQ true ν σ (fun _ => none)) w.heap.size ⟨Tryd.prog, true, t.get, orcD (fma3FIAD sa sb), (opH (bigHook Tryd.prog true) (opH (symHook Tryd.prog fma3FIAN (fun _ _ _ => none)) (tabHook (fma3FIAL sa sb) fma3FIAM)))⟩ := cxS_ok (M := (DomQ true ν σ (fun _ => none))) ht ⟨[
      orcT 52 [
        { args := [.one (.atom (.sym 0))], ans := .v (.one (.lit (.bool false))), ok := by
            intro B ρ w S vs hS hr
            match vs, hr with
            | [u0], ⟨z0, _⟩ =>
              obtain ⟨rfl, _⟩ : u0 = _ ∧ _ := z0
              refine (cnf _).mono ?_
              rintro e w' ⟨rfl, hf⟩
              exact ⟨_, rfl, ⟨rfl, rfl⟩, hf⟩ },
        { args := [.one (.atom (.sym 1))], ans := .v (.one (.lit (.bool false))), ok := by
            intro B ρ w S vs hS hr
            match vs, hr with
            | [u0], ⟨z0, _⟩ =>
              obtain ⟨rfl, _⟩ : u0 = _ ∧ _ := z0
              refine (cng _).mono ?_
              rintro e w' ⟨rfl, hf⟩
              exact ⟨_, rfl, ⟨rfl, rfl⟩, hf⟩ },
        { args := [.one (.atom (.sym 2))], ans := .v (.one (.lit (.bool false))), ok := by
            intro B ρ w S vs hS hr
            match vs, hr with
            | [u0], ⟨z0, _⟩ =>
              obtain ⟨rfl, _⟩ : u0 = _ ∧ _ := z0
              refine (cnh _).mono ?_
              rintro e w' ⟨rfl, hf⟩
              exact ⟨_, rfl, ⟨rfl, rfl⟩, hf⟩ }],
      orcT 53 [
        { args := [.one (.atom (.sym 0))], ans := .v (.one (.lit (.bool false))), ok := by
            intro B ρ w S vs hS hr
            match vs, hr with
            | [u0], ⟨z0, _⟩ =>
              obtain ⟨rfl, _⟩ : u0 = _ ∧ _ := z0
              refine (cif _).mono ?_
              rintro e w' ⟨rfl, hf⟩
              exact ⟨_, rfl, ⟨rfl, rfl⟩, hf⟩ },
        { args := [.one (.atom (.sym 1))], ans := .v (.one (.lit (.bool true))), ok := by
            intro B ρ w S vs hS hr
            match vs, hr with
            | [u0], ⟨z0, _⟩ =>
              obtain ⟨rfl, _⟩ : u0 = _ ∧ _ := z0
              refine (cig _).mono ?_
              rintro e w' ⟨rfl, hf⟩
              exact ⟨_, rfl, ⟨rfl, rfl⟩, hf⟩ }],
      orcT 57 [
        { args := [.one (.atom (.sym 0))], ans := .v (.one (.lit (.bool false))), ok := by
            intro B ρ w S vs hS hr
            match vs, hr with
            | [u0], ⟨z0, _⟩ =>
              obtain ⟨rfl, _⟩ : u0 = _ ∧ _ := z0
              refine (czf _).mono ?_
              rintro e w' ⟨rfl, hf⟩
              exact ⟨_, rfl, ⟨rfl, rfl⟩, hf⟩ },
        { args := [.one (.atom (.sym 1))], ans := .v (.one (.lit (.bool false))), ok := by
            intro B ρ w S vs hS hr
            match vs, hr with
            | [u0], ⟨z0, _⟩ =>
              obtain ⟨rfl, _⟩ : u0 = _ ∧ _ := z0
              refine (czg _).mono ?_
              rintro e w' ⟨rfl, hf⟩
              exact ⟨_, rfl, ⟨rfl, rfl⟩, hf⟩ }],
      orcT 58 [
        { args := [.one (.lit (.bool (sa != sb))), .one (.lit (.int .u64 9218868437227405312))], ans := .v (.one (.atom (.sym 4))), ok := by
            intro B ρ w S vs hS hr
            match vs, hr with
            | [u0, u1], ⟨z0, z1, _⟩ =>
              obtain ⟨rfl, _⟩ : u0 = _ ∧ _ := z0
              obtain ⟨rfl, _⟩ : u1 = _ ∧ _ := z1
              refine (cS _).mono ?_
              rintro e w' ⟨rfl, hf⟩
              exact ⟨_, rfl, ⟨rfl, fun _ => trivial⟩, hf⟩ }],
      orcT 27 [
        { args := [.one (.atom (.sym 4)), .one (.atom (.sym 2)), .one (.atom (.sym 3))], ans := .tup [.one (.atom (.sym 5)), .one (.atom (.sym 6))], ok := by
            intro B ρ w S vs hS hr
            match vs, hr with
            | [u0, u1, u2], ⟨z0, z1, z2, _⟩ =>
              obtain ⟨rfl, _⟩ : u0 = _ ∧ _ := z0
              obtain ⟨rfl, _⟩ : u1 = _ ∧ _ := z1
              obtain ⟨rfl, _⟩ : u2 = _ ∧ _ := z2
              refine (add3_any m _ h hsl hh).mono ?_
              rintro e w' ⟨rfl, hf⟩
              exact ⟨_, rfl, ⟨[_, _], rfl, ⟨rfl, fun _ => trivial⟩, ⟨rfl, fun _ => trivial⟩, trivial⟩, hf⟩ }],
      orcT 56 [
        { args := [.one (.atom (.sym 0))], ans := .v (.one (.lit (.bool sa))), ok := by
            intro B ρ w S vs hS hr
            match vs, hr with
            | [u0], ⟨z0, _⟩ =>
              obtain ⟨rfl, _⟩ : u0 = _ ∧ _ := z0
              refine (cmf _).mono ?_
              rintro e w' ⟨rfl, hf⟩
              exact ⟨_, rfl, ⟨rfl, rfl⟩, hf⟩ },
        { args := [.one (.atom (.sym 1))], ans := .v (.one (.lit (.bool sb))), ok := by
            intro B ρ w S vs hS hr
            match vs, hr with
            | [u0], ⟨z0, _⟩ =>
              obtain ⟨rfl, _⟩ : u0 = _ ∧ _ := z0
              refine (cmg _).mono ?_
              rintro e w' ⟨rfl, hf⟩
              exact ⟨_, rfl, ⟨rfl, rfl⟩, hf⟩ }]], rfl⟩
    (opH_le (bigHook_le _ _) (opH_le (symHook_le _ _ _) (tabHook_le _ _)))
    (opH_ok (bigHook_ok _) (opH_ok (symHook_ok _ (fun h => by cases h) (fun h => by cases h)) (tabHook_ok _ all_nil all_nil)))
  refine (told_call (M := (DomQ true ν σ (fun _ => none))) (cx := ⟨Tryd.prog, true, t.get, orcD (fma3FIAD sa sb), (opH (bigHook Tryd.prog true) (opH (symHook Tryd.prog fma3FIAN (fun _ _ _ => none)) (tabHook (fma3FIAL sa sb) fma3FIAM)))⟩) (xs := [.one (.atom (.sym 0)), .one (.atom (.sym 1)), .one (.atom (.sym 2)), .one (.atom (.sym 3))]) (vs := [.int .u64 f, .int .u64 g, .int .u64 h, .int .i64 m]) Tryd.checked.mixed hcx (fun hg => by cases hg) ⟨⟨rfl, fun _ => trivial⟩, ⟨rfl, fun _ => trivial⟩, ⟨rfl, fun _ => trivial⟩, ⟨rfl, fun _ => trivial⟩, trivial⟩ he).mono ?_
  rintro e w' ⟨v, ρ', rfl, hv, hbel⟩
  obtain ⟨us, rfl, hu⟩ := hv
  match us, hu with
  | [c0, c1], ⟨r0, r1, _⟩ =>
    obtain ⟨rfl, _⟩ : c0 = _ ∧ _ := r0
    obtain ⟨rfl, _⟩ : c1 = _ ∧ _ := r1
    exact ⟨rfl, hbel⟩

def fma3FZID (sa : Bool) (sb : Bool) : List (FuncId × Ans) :=
  [(52, ansT [([.one (.atom (.sym 0))], .v (.one (.lit (.bool false)))), ([.one (.atom (.sym 1))], .v (.one (.lit (.bool false)))), ([.one (.atom (.sym 2))], .v (.one (.lit (.bool false))))]),
   (53, ansT [([.one (.atom (.sym 0))], .v (.one (.lit (.bool false)))), ([.one (.atom (.sym 1))], .v (.one (.lit (.bool false)))), ([.one (.atom (.sym 2))], .v (.one (.lit (.bool true))))]),
   (57, ansT [([.one (.atom (.sym 0))], .v (.one (.lit (.bool false)))), ([.one (.atom (.sym 1))], .v (.one (.lit (.bool true)))), ([.one (.atom (.sym 2))], .v (.one (.lit (.bool false))))]),
   (56, ansT [([.one (.atom (.sym 0))], .v (.one (.lit (.bool sa)))), ([.one (.atom (.sym 1))], .v (.one (.lit (.bool sb))))])]
def fma3FZIL (sa : Bool) (sb : Bool) : BT := []
def fma3FZIM : BT := []
def fma3FZIN : At → Option Nat
  | _ => none

set_option maxRecDepth 1000000 in
theorem fma3FZITold : ∃ t : Tr Func, TabOK Tryd.prog t ∧ (∀ (sa : Bool) (sb : Bool), isAV (.tup [.one (.atom (.sym 2)), .one (.lit (.int .i64 (0)))]) (evalCall ⟨Tryd.prog, true, t.get, orcD (fma3FZID sa sb), (opH (bigHook Tryd.prog true) (opH (symHook Tryd.prog fma3FZIN (fun _ _ _ => none)) (tabHook (fma3FZIL sa sb) fma3FZIM)))⟩ 1000 37 [.one (.atom (.sym 0)), .one (.atom (.sym 1)), .one (.atom (.sym 2)), .one (.atom (.sym 3))] .e 0) = true) :=
  ⟨(((((Tr.e).put 37 (some Tryd.f37)).put 52 (some Tryd.f52)).put 53 (some Tryd.f53)).put 57 (some Tryd.f57)).put 56 (some Tryd.f56),
   (TabOK.put (TabOK.put (TabOK.put (TabOK.put (TabOK.put (TabOK.e _) ⟨Tryd.func37, by decide +kernel, by decide +kernel⟩) ⟨Tryd.func52, by decide +kernel, by decide +kernel⟩) ⟨Tryd.func53, by decide +kernel, by decide +kernel⟩) ⟨Tryd.func57, by decide +kernel, by decide +kernel⟩) ⟨Tryd.func56, by decide +kernel, by decide +kernel⟩),
   by decide +kernel⟩

set_option maxHeartbeats 4000000 in
set_option maxRecDepth 100000 in
theorem fma3FZI_tab {w : World} (m : Int) (f g h : Nat) (hf : f < 18446744073709551616) (hg : g < 18446744073709551616) (hh : h < 18446744073709551616) (Kf : fsz f ≠ 0) (Lf : fsz f < 9218868437227405312) (Kg : fsz g = 0) (Kh : fsz h = 9218868437227405312) {sa sb : Bool} (hsa : fneg f = sa) (hsb : fneg g = sb) :
    Calls Tryd.prog 37 #[.int .u64 f, .int .u64 g, .int .u64 h, .int .i64 m] w fun e w' => e = .returned (.tuple #[.int .u64 ((fmaF m f g h).1 : Nat), .int .i64 ((fmaF m f g h).2 : Nat)]) ∧ Below w.heap.size w w' := by
  have cnf : ∀ (w : World), Calls Tryd.prog 52 #[.int .u64 f] w fun e w' => e = .returned (.bool false) ∧ Fwd w w' := fun w => (none3_any f hf).mono fun e w' gg => ⟨by rw [gg.1, show isNan f = false from isNan_le (by omega)], gg.2 ▸ Fwd.refl _⟩
  have cif : ∀ (w : World), Calls Tryd.prog 53 #[.int .u64 f] w fun e w' => e = .returned (.bool false) ∧ Fwd w w' := fun w => (endless3_any f hf).mono fun e w' gg => ⟨by rw [gg.1, show decide (fsz f = 9218868437227405312) = false from decide_eq_false (by omega)], gg.2 ▸ Fwd.refl _⟩
  have czf : ∀ (w : World), Calls Tryd.prog 57 #[.int .u64 f] w fun e w' => e = .returned (.bool false) ∧ Fwd w w' := fun w => (nought3_any f hf).mono fun e w' gg => ⟨by rw [gg.1, show decide (fsz f = 0) = false from decide_eq_false (by omega)], gg.2 ▸ Fwd.refl _⟩
  have cng : ∀ (w : World), Calls Tryd.prog 52 #[.int .u64 g] w fun e w' => e = .returned (.bool false) ∧ Fwd w w' := fun w => (none3_any g hg).mono fun e w' gg => ⟨by rw [gg.1, show isNan g = false from isNan_le (by omega)], gg.2 ▸ Fwd.refl _⟩
  have cig : ∀ (w : World), Calls Tryd.prog 53 #[.int .u64 g] w fun e w' => e = .returned (.bool false) ∧ Fwd w w' := fun w => (endless3_any g hg).mono fun e w' gg => ⟨by rw [gg.1, show decide (fsz g = 9218868437227405312) = false from decide_eq_false (by omega)], gg.2 ▸ Fwd.refl _⟩
  have czg : ∀ (w : World), Calls Tryd.prog 57 #[.int .u64 g] w fun e w' => e = .returned (.bool true) ∧ Fwd w w' := fun w => (nought3_any g hg).mono fun e w' gg => ⟨by rw [gg.1, show decide (fsz g = 0) = true from decide_eq_true (by omega)], gg.2 ▸ Fwd.refl _⟩
  have cnh : ∀ (w : World), Calls Tryd.prog 52 #[.int .u64 h] w fun e w' => e = .returned (.bool false) ∧ Fwd w w' := fun w => (none3_any h hh).mono fun e w' gg => ⟨by rw [gg.1, show isNan h = false from isNan_le (by omega)], gg.2 ▸ Fwd.refl _⟩
  have cih : ∀ (w : World), Calls Tryd.prog 53 #[.int .u64 h] w fun e w' => e = .returned (.bool true) ∧ Fwd w w' := fun w => (endless3_any h hh).mono fun e w' gg => ⟨by rw [gg.1, show decide (fsz h = 9218868437227405312) = true from decide_eq_true (by omega)], gg.2 ▸ Fwd.refl _⟩
  have czh : ∀ (w : World), Calls Tryd.prog 57 #[.int .u64 h] w fun e w' => e = .returned (.bool false) ∧ Fwd w w' := fun w => (nought3_any h hh).mono fun e w' gg => ⟨by rw [gg.1, show decide (fsz h = 0) = false from decide_eq_false (by omega)], gg.2 ▸ Fwd.refl _⟩
  have cmf : ∀ (w : World), Calls Tryd.prog 56 #[.int .u64 f] w fun e w' => e = .returned (.bool sa) ∧ Fwd w w' := fun w => (minus3_any f hf).mono fun e w' gg => ⟨by rw [gg.1, hsa], gg.2 ▸ Fwd.refl _⟩
  have cmg : ∀ (w : World), Calls Tryd.prog 56 #[.int .u64 g] w fun e w' => e = .returned (.bool sb) ∧ Fwd w w' := fun w => (minus3_any g hg).mono fun e w' gg => ⟨by rw [gg.1, hsb], gg.2 ▸ Fwd.refl _⟩
  have hval : fmaF m f g h = _ := fmaF_end (by omega) (by omega) Kh hh
  rw [hval]
  obtain ⟨t, ht, hr⟩ := fma3FZITold
  obtain ⟨dl, n', he⟩ := isAV_ok (hr sa sb)
  let ν : Nat → Rat := nuL [fvQ f, fvQ g, fvQ h, fvQ f * fvQ g] []
  let σ : SymD := symL [.u f, .u g, .u h, .i m]
  have hcx : CxOK (DomQ true ν σ (fun _ => none)) w.heap.size ⟨Tryd.prog, true, t.get, orcD (fma3FZID sa sb), (opH (bigHook Tryd.prog true) (opH (symHook Tryd.prog fma3FZIN (fun _ _ _ => none)) (tabHook (fma3FZIL sa sb) fma3FZIM)))⟩ := cxS_ok (M := (DomQ true ν σ (fun _ => none))) ht ⟨[
      orcT 52 [
        { args := [.one (.atom (.sym 0))], ans := .v (.one (.lit (.bool false))), ok := by
            intro B ρ w S vs hS hr
            match vs, hr with
            | [u0], ⟨z0, _⟩ =>
              obtain ⟨rfl, _⟩ : u0 = _ ∧ _ := z0
              refine (cnf _).mono ?_
              rintro e w' ⟨rfl, hf⟩
              exact ⟨_, rfl, ⟨rfl, rfl⟩, hf⟩ },
        { args := [.one (.atom (.sym 1))], ans := .v (.one (.lit (.bool false))), ok := by
            intro B ρ w S vs hS hr
            match vs, hr with
            | [u0], ⟨z0, _⟩ =>
              obtain ⟨rfl, _⟩ : u0 = _ ∧ _ := z0
              refine (cng _).mono ?_
              rintro e w' ⟨rfl, hf⟩
              exact ⟨_, rfl, ⟨rfl, rfl⟩, hf⟩ },
        { args := [.one (.atom (.sym 2))], ans := .v (.one (.lit (.bool false))), ok := by
            intro B ρ w S vs hS hr
            match vs, hr with
            | [u0], ⟨z0, _⟩ =>
              obtain ⟨rfl, _⟩ : u0 = _ ∧ _ := z0
              refine (cnh _).mono ?_
              rintro e w' ⟨rfl, hf⟩
              exact ⟨_, rfl, ⟨rfl, rfl⟩, hf⟩ }],
      orcT 53 [
        { args := [.one (.atom (.sym 0))], ans := .v (.one (.lit (.bool false))), ok := by
            intro B ρ w S vs hS hr
            match vs, hr with
            | [u0], ⟨z0, _⟩ =>
              obtain ⟨rfl, _⟩ : u0 = _ ∧ _ := z0
              refine (cif _).mono ?_
              rintro e w' ⟨rfl, hf⟩
              exact ⟨_, rfl, ⟨rfl, rfl⟩, hf⟩ },
        { args := [.one (.atom (.sym 1))], ans := .v (.one (.lit (.bool false))), ok := by
            intro B ρ w S vs hS hr
            match vs, hr with
            | [u0], ⟨z0, _⟩ =>
              obtain ⟨rfl, _⟩ : u0 = _ ∧ _ := z0
              refine (cig _).mono ?_
              rintro e w' ⟨rfl, hf⟩
              exact ⟨_, rfl, ⟨rfl, rfl⟩, hf⟩ },
        { args := [.one (.atom (.sym 2))], ans := .v (.one (.lit (.bool true))), ok := by
            intro B ρ w S vs hS hr
            match vs, hr with
            | [u0], ⟨z0, _⟩ =>
              obtain ⟨rfl, _⟩ : u0 = _ ∧ _ := z0
              refine (cih _).mono ?_
              rintro e w' ⟨rfl, hf⟩
              exact ⟨_, rfl, ⟨rfl, rfl⟩, hf⟩ }],
      orcT 57 [
        { args := [.one (.atom (.sym 0))], ans := .v (.one (.lit (.bool false))), ok := by
            intro B ρ w S vs hS hr
            match vs, hr with
            | [u0], ⟨z0, _⟩ =>
              obtain ⟨rfl, _⟩ : u0 = _ ∧ _ := z0
              refine (czf _).mono ?_
              rintro e w' ⟨rfl, hf⟩
              exact ⟨_, rfl, ⟨rfl, rfl⟩, hf⟩ },
        { args := [.one (.atom (.sym 1))], ans := .v (.one (.lit (.bool true))), ok := by
            intro B ρ w S vs hS hr
            match vs, hr with
            | [u0], ⟨z0, _⟩ =>
              obtain ⟨rfl, _⟩ : u0 = _ ∧ _ := z0
              refine (czg _).mono ?_
              rintro e w' ⟨rfl, hf⟩
              exact ⟨_, rfl, ⟨rfl, rfl⟩, hf⟩ },
        { args := [.one (.atom (.sym 2))], ans := .v (.one (.lit (.bool false))), ok := by
            intro B ρ w S vs hS hr
            match vs, hr with
            | [u0], ⟨z0, _⟩ =>
              obtain ⟨rfl, _⟩ : u0 = _ ∧ _ := z0
              refine (czh _).mono ?_
              rintro e w' ⟨rfl, hf⟩
              exact ⟨_, rfl, ⟨rfl, rfl⟩, hf⟩ }],
      orcT 56 [
        { args := [.one (.atom (.sym 0))], ans := .v (.one (.lit (.bool sa))), ok := by
            intro B ρ w S vs hS hr
            match vs, hr with
            | [u0], ⟨z0, _⟩ =>
              obtain ⟨rfl, _⟩ : u0 = _ ∧ _ := z0
              refine (cmf _).mono ?_
              rintro e w' ⟨rfl, hf⟩
              exact ⟨_, rfl, ⟨rfl, rfl⟩, hf⟩ },
        { args := [.one (.atom (.sym 1))], ans := .v (.one (.lit (.bool sb))), ok := by
            intro B ρ w S vs hS hr
            match vs, hr with
            | [u0], ⟨z0, _⟩ =>
              obtain ⟨rfl, _⟩ : u0 = _ ∧ _ := z0
              refine (cmg _).mono ?_
              rintro e w' ⟨rfl, hf⟩
              exact ⟨_, rfl, ⟨rfl, rfl⟩, hf⟩ }]], rfl⟩
    (opH_le (bigHook_le _ _) (opH_le (symHook_le _ _ _) (tabHook_le _ _)))
    (opH_ok (bigHook_ok _) (opH_ok (symHook_ok _ (fun h => by cases h) (fun h => by cases h)) (tabHook_ok _ all_nil all_nil)))
  refine (told_call (M := (DomQ true ν σ (fun _ => none))) (cx := ⟨Tryd.prog, true, t.get, orcD (fma3FZID sa sb), (opH (bigHook Tryd.prog true) (opH (symHook Tryd.prog fma3FZIN (fun _ _ _ => none)) (tabHook (fma3FZIL sa sb) fma3FZIM)))⟩) (xs := [.one (.atom (.sym 0)), .one (.atom (.sym 1)), .one (.atom (.sym 2)), .one (.atom (.sym 3))]) (vs := [.int .u64 f, .int .u64 g, .int .u64 h, .int .i64 m]) Tryd.checked.mixed hcx (fun hg => by cases hg) ⟨⟨rfl, fun _ => trivial⟩, ⟨rfl, fun _ => trivial⟩, ⟨rfl, fun _ => trivial⟩, ⟨rfl, fun _ => trivial⟩, trivial⟩ he).mono ?_
  rintro e w' ⟨v, ρ', rfl, hv, hbel⟩
  obtain ⟨us, rfl, hu⟩ := hv
  match us, hu with
  | [c0, c1], ⟨r0, r1, _⟩ =>
    obtain ⟨rfl, _⟩ : c0 = _ ∧ _ := r0
    obtain ⟨rfl, _⟩ : c1 = _ ∧ _ := r1
    exact ⟨rfl, hbel⟩

def fma3FZZD (sa : Bool) (sb : Bool) : List (FuncId × Ans) :=
  [(52, ansT [([.one (.atom (.sym 0))], .v (.one (.lit (.bool false)))), ([.one (.atom (.sym 1))], .v (.one (.lit (.bool false)))), ([.one (.atom (.sym 2))], .v (.one (.lit (.bool false))))]),
   (53, ansT [([.one (.atom (.sym 0))], .v (.one (.lit (.bool false)))), ([.one (.atom (.sym 1))], .v (.one (.lit (.bool false)))), ([.one (.atom (.sym 2))], .v (.one (.lit (.bool false))))]),
   (57, ansT [([.one (.atom (.sym 0))], .v (.one (.lit (.bool false)))), ([.one (.atom (.sym 1))], .v (.one (.lit (.bool true)))), ([.one (.atom (.sym 2))], .v (.one (.lit (.bool true))))]),
   (58, ansT [([.one (.lit (.bool (sa != sb))), .one (.lit (.int .u64 0))], .v (.one (.atom (.sym 4))))]),
   (27, ansT [([.one (.atom (.sym 4)), .one (.atom (.sym 2)), .one (.atom (.sym 3))], .tup [.one (.atom (.sym 5)), .one (.atom (.sym 6))])]),
   (56, ansT [([.one (.atom (.sym 0))], .v (.one (.lit (.bool sa)))), ([.one (.atom (.sym 1))], .v (.one (.lit (.bool sb))))])]
def fma3FZZL (sa : Bool) (sb : Bool) : BT := []
def fma3FZZM : BT := []
def fma3FZZN : At → Option Nat
  | _ => none

set_option maxRecDepth 1000000 in
theorem fma3FZZTold : ∃ t : Tr Func, TabOK Tryd.prog t ∧ (∀ (sa : Bool) (sb : Bool), isAV (.tup [.one (.atom (.sym 5)), .one (.atom (.sym 6))]) (evalCall ⟨Tryd.prog, true, t.get, orcD (fma3FZZD sa sb), (opH (bigHook Tryd.prog true) (opH (symHook Tryd.prog fma3FZZN (fun _ _ _ => none)) (tabHook (fma3FZZL sa sb) fma3FZZM)))⟩ 1000 37 [.one (.atom (.sym 0)), .one (.atom (.sym 1)), .one (.atom (.sym 2)), .one (.atom (.sym 3))] .e 0) = true) :=
  ⟨(((((((Tr.e).put 37 (some Tryd.f37)).put 52 (some Tryd.f52)).put 53 (some Tryd.f53)).put 57 (some Tryd.f57)).put 58 (some Tryd.f58)).put 27 (some Tryd.f27)).put 56 (some Tryd.f56),
   (TabOK.put (TabOK.put (TabOK.put (TabOK.put (TabOK.put (TabOK.put (TabOK.put (TabOK.e _) ⟨Tryd.func37, by decide +kernel, by decide +kernel⟩) ⟨Tryd.func52, by decide +kernel, by decide +kernel⟩) ⟨Tryd.func53, by decide +kernel, by decide +kernel⟩) ⟨Tryd.func57, by decide +kernel, by decide +kernel⟩) ⟨Tryd.func58, by decide +kernel, by decide +kernel⟩) ⟨Tryd.func27, by decide +kernel, by decide +kernel⟩) ⟨Tryd.func56, by decide +kernel, by decide +kernel⟩),
   by decide +kernel⟩

set_option maxHeartbeats 4000000 in
set_option maxRecDepth 100000 in
theorem fma3FZZ_tab {w : World} (m : Int) (f g h : Nat) (hf : f < 18446744073709551616) (hg : g < 18446744073709551616) (hh : h < 18446744073709551616) (Kf : fsz f ≠ 0) (Lf : fsz f < 9218868437227405312) (Kg : fsz g = 0) (Kh : fsz h = 0) {sa sb : Bool} (hsa : fneg f = sa) (hsb : fneg g = sb) :
    Calls Tryd.prog 37 #[.int .u64 f, .int .u64 g, .int .u64 h, .int .i64 m] w fun e w' => e = .returned (.tuple #[.int .u64 ((fmaF m f g h).1 : Nat), .int .i64 ((fmaF m f g h).2 : Nat)]) ∧ Below w.heap.size w w' := by
  have cnf : ∀ (w : World), Calls Tryd.prog 52 #[.int .u64 f] w fun e w' => e = .returned (.bool false) ∧ Fwd w w' := fun w => (none3_any f hf).mono fun e w' gg => ⟨by rw [gg.1, show isNan f = false from isNan_le (by omega)], gg.2 ▸ Fwd.refl _⟩
  have cif : ∀ (w : World), Calls Tryd.prog 53 #[.int .u64 f] w fun e w' => e = .returned (.bool false) ∧ Fwd w w' := fun w => (endless3_any f hf).mono fun e w' gg => ⟨by rw [gg.1, show decide (fsz f = 9218868437227405312) = false from decide_eq_false (by omega)], gg.2 ▸ Fwd.refl _⟩
  have czf : ∀ (w : World), Calls Tryd.prog 57 #[.int .u64 f] w fun e w' => e = .returned (.bool false) ∧ Fwd w w' := fun w => (nought3_any f hf).mono fun e w' gg => ⟨by rw [gg.1, show decide (fsz f = 0) = false from decide_eq_false (by omega)], gg.2 ▸ Fwd.refl _⟩
  have cng : ∀ (w : World), Calls Tryd.prog 52 #[.int .u64 g] w fun e w' => e = .returned (.bool false) ∧ Fwd w w' := fun w => (none3_any g hg).mono fun e w' gg => ⟨by rw [gg.1, show isNan g = false from isNan_le (by omega)], gg.2 ▸ Fwd.refl _⟩
  have cig : ∀ (w : World), Calls Tryd.prog 53 #[.int .u64 g] w fun e w' => e = .returned (.bool false) ∧ Fwd w w' := fun w => (endless3_any g hg).mono fun e w' gg => ⟨by rw [gg.1, show decide (fsz g = 9218868437227405312) = false from decide_eq_false (by omega)], gg.2 ▸ Fwd.refl _⟩
  have czg : ∀ (w : World), Calls Tryd.prog 57 #[.int .u64 g] w fun e w' => e = .returned (.bool true) ∧ Fwd w w' := fun w => (nought3_any g hg).mono fun e w' gg => ⟨by rw [gg.1, show decide (fsz g = 0) = true from decide_eq_true (by omega)], gg.2 ▸ Fwd.refl _⟩
  have cnh : ∀ (w : World), Calls Tryd.prog 52 #[.int .u64 h] w fun e w' => e = .returned (.bool false) ∧ Fwd w w' := fun w => (none3_any h hh).mono fun e w' gg => ⟨by rw [gg.1, show isNan h = false from isNan_le (by omega)], gg.2 ▸ Fwd.refl _⟩
  have cih : ∀ (w : World), Calls Tryd.prog 53 #[.int .u64 h] w fun e w' => e = .returned (.bool false) ∧ Fwd w w' := fun w => (endless3_any h hh).mono fun e w' gg => ⟨by rw [gg.1, show decide (fsz h = 9218868437227405312) = false from decide_eq_false (by omega)], gg.2 ▸ Fwd.refl _⟩
  have czh : ∀ (w : World), Calls Tryd.prog 57 #[.int .u64 h] w fun e w' => e = .returned (.bool true) ∧ Fwd w w' := fun w => (nought3_any h hh).mono fun e w' gg => ⟨by rw [gg.1, show decide (fsz h = 0) = true from decide_eq_true (by omega)], gg.2 ▸ Fwd.refl _⟩
  have cS : ∀ (w : World), Calls Tryd.prog 58 #[.bool (sa != sb), .int .u64 0] w fun e w' => e = .returned (.int .u64 ((sgn (sa != sb) + 0 : Nat) : Int)) ∧ Fwd w w' := fun w => (signed3_any (sa != sb) 0 (by omega)).mono fun e w' gg => ⟨gg.1, gg.2 ▸ Fwd.refl _⟩
  have hsl : sgn (sa != sb) + 0 < 18446744073709551616 := by have := sgn_le (sa != sb); omega
  have cmf : ∀ (w : World), Calls Tryd.prog 56 #[.int .u64 f] w fun e w' => e = .returned (.bool sa) ∧ Fwd w w' := fun w => (minus3_any f hf).mono fun e w' gg => ⟨by rw [gg.1, hsa], gg.2 ▸ Fwd.refl _⟩
  have cmg : ∀ (w : World), Calls Tryd.prog 56 #[.int .u64 g] w fun e w' => e = .returned (.bool sb) ∧ Fwd w w' := fun w => (minus3_any g hg).mono fun e w' gg => ⟨by rw [gg.1, hsb], gg.2 ▸ Fwd.refl _⟩
  have hval : fmaF m f g h = addF m (sgn (sa != sb) + 0) h := by rw [← hsa, ← hsb]; exact fmaF_nought (by omega) (by omega) (by omega) (by omega)
  rw [hval]
  obtain ⟨t, ht, hr⟩ := fma3FZZTold
  obtain ⟨dl, n', he⟩ := isAV_ok (hr sa sb)
  let ν : Nat → Rat := nuL [fvQ f, fvQ g, fvQ h, fvQ f * fvQ g] []
  let σ : SymD := symL [.u f, .u g, .u h, .i m, .u (sgn (sa != sb) + 0), .u (addF m (sgn (sa != sb) + 0) h).1, .i ((addF m (sgn (sa != sb) + 0) h).2 : Int)]
  have hcx : CxOK (DomQ true ν σ (fun _ => none)) w.heap.size ⟨Tryd.prog, true, t.get, orcD (fma3FZZD sa sb), (opH (bigHook Tryd.prog true) (opH (symHook Tryd.prog fma3FZZN (fun _ _ _ => none)) (tabHook (fma3FZZL sa sb) fma3FZZM)))⟩ := cxS_ok (M := (DomQ true ν σ (fun _ => none))) ht ⟨[
      orcT 52 [
        { args := [.one (.atom (.sym 0))], ans := .v (.one (.lit (.bool false))), ok := by
            intro B ρ w S vs hS hr
            match vs, hr with
            | [u0], ⟨z0, _⟩ =>
              obtain ⟨rfl, _⟩ : u0 = _ ∧ _ := z0
              refine (cnf _).mono ?_
              rintro e w' ⟨rfl, hf⟩
              exact ⟨_, rfl, ⟨rfl, rfl⟩, hf⟩ },
        { args := [.one (.atom (.sym 1))], ans := .v (.one (.lit (.bool false))), ok := by
            intro B ρ w S vs hS hr
            match vs, hr with
            | [u0], ⟨z0, _⟩ =>
              obtain ⟨rfl, _⟩ : u0 = _ ∧ _ := z0
              refine (cng _).mono ?_
              rintro e w' ⟨rfl, hf⟩
              exact ⟨_, rfl, ⟨rfl, rfl⟩, hf⟩ },
        { args := [.one (.atom (.sym 2))], ans := .v (.one (.lit (.bool false))), ok := by
            intro B ρ w S vs hS hr
            match vs, hr with
            | [u0], ⟨z0, _⟩ =>
              obtain ⟨rfl, _⟩ : u0 = _ ∧ _ := z0
              refine (cnh _).mono ?_
              rintro e w' ⟨rfl, hf⟩
              exact ⟨_, rfl, ⟨rfl, rfl⟩, hf⟩ }],
      orcT 53 [
        { args := [.one (.atom (.sym 0))], ans := .v (.one (.lit (.bool false))), ok := by
            intro B ρ w S vs hS hr
            match vs, hr with
            | [u0], ⟨z0, _⟩ =>
              obtain ⟨rfl, _⟩ : u0 = _ ∧ _ := z0
              refine (cif _).mono ?_
              rintro e w' ⟨rfl, hf⟩
              exact ⟨_, rfl, ⟨rfl, rfl⟩, hf⟩ },
        { args := [.one (.atom (.sym 1))], ans := .v (.one (.lit (.bool false))), ok := by
            intro B ρ w S vs hS hr
            match vs, hr with
            | [u0], ⟨z0, _⟩ =>
              obtain ⟨rfl, _⟩ : u0 = _ ∧ _ := z0
              refine (cig _).mono ?_
              rintro e w' ⟨rfl, hf⟩
              exact ⟨_, rfl, ⟨rfl, rfl⟩, hf⟩ },
        { args := [.one (.atom (.sym 2))], ans := .v (.one (.lit (.bool false))), ok := by
            intro B ρ w S vs hS hr
            match vs, hr with
            | [u0], ⟨z0, _⟩ =>
              obtain ⟨rfl, _⟩ : u0 = _ ∧ _ := z0
              refine (cih _).mono ?_
              rintro e w' ⟨rfl, hf⟩
              exact ⟨_, rfl, ⟨rfl, rfl⟩, hf⟩ }],
      orcT 57 [
        { args := [.one (.atom (.sym 0))], ans := .v (.one (.lit (.bool false))), ok := by
            intro B ρ w S vs hS hr
            match vs, hr with
            | [u0], ⟨z0, _⟩ =>
              obtain ⟨rfl, _⟩ : u0 = _ ∧ _ := z0
              refine (czf _).mono ?_
              rintro e w' ⟨rfl, hf⟩
              exact ⟨_, rfl, ⟨rfl, rfl⟩, hf⟩ },
        { args := [.one (.atom (.sym 1))], ans := .v (.one (.lit (.bool true))), ok := by
            intro B ρ w S vs hS hr
            match vs, hr with
            | [u0], ⟨z0, _⟩ =>
              obtain ⟨rfl, _⟩ : u0 = _ ∧ _ := z0
              refine (czg _).mono ?_
              rintro e w' ⟨rfl, hf⟩
              exact ⟨_, rfl, ⟨rfl, rfl⟩, hf⟩ },
        { args := [.one (.atom (.sym 2))], ans := .v (.one (.lit (.bool true))), ok := by
            intro B ρ w S vs hS hr
            match vs, hr with
            | [u0], ⟨z0, _⟩ =>
              obtain ⟨rfl, _⟩ : u0 = _ ∧ _ := z0
              refine (czh _).mono ?_
              rintro e w' ⟨rfl, hf⟩
              exact ⟨_, rfl, ⟨rfl, rfl⟩, hf⟩ }],
      orcT 58 [
        { args := [.one (.lit (.bool (sa != sb))), .one (.lit (.int .u64 0))], ans := .v (.one (.atom (.sym 4))), ok := by
            intro B ρ w S vs hS hr
            match vs, hr with
            | [u0, u1], ⟨z0, z1, _⟩ =>
              obtain ⟨rfl, _⟩ : u0 = _ ∧ _ := z0
              obtain ⟨rfl, _⟩ : u1 = _ ∧ _ := z1
              refine (cS _).mono ?_
              rintro e w' ⟨rfl, hf⟩
              exact ⟨_, rfl, ⟨rfl, fun _ => trivial⟩, hf⟩ }],
      orcT 27 [
        { args := [.one (.atom (.sym 4)), .one (.atom (.sym 2)), .one (.atom (.sym 3))], ans := .tup [.one (.atom (.sym 5)), .one (.atom (.sym 6))], ok := by
            intro B ρ w S vs hS hr
            match vs, hr with
            | [u0, u1, u2], ⟨z0, z1, z2, _⟩ =>
              obtain ⟨rfl, _⟩ : u0 = _ ∧ _ := z0
              obtain ⟨rfl, _⟩ : u1 = _ ∧ _ := z1
              obtain ⟨rfl, _⟩ : u2 = _ ∧ _ := z2
              refine (add3_any m _ h hsl hh).mono ?_
              rintro e w' ⟨rfl, hf⟩
              exact ⟨_, rfl, ⟨[_, _], rfl, ⟨rfl, fun _ => trivial⟩, ⟨rfl, fun _ => trivial⟩, trivial⟩, hf⟩ }],
      orcT 56 [
        { args := [.one (.atom (.sym 0))], ans := .v (.one (.lit (.bool sa))), ok := by
            intro B ρ w S vs hS hr
            match vs, hr with
            | [u0], ⟨z0, _⟩ =>
              obtain ⟨rfl, _⟩ : u0 = _ ∧ _ := z0
              refine (cmf _).mono ?_
              rintro e w' ⟨rfl, hf⟩
              exact ⟨_, rfl, ⟨rfl, rfl⟩, hf⟩ },
        { args := [.one (.atom (.sym 1))], ans := .v (.one (.lit (.bool sb))), ok := by
            intro B ρ w S vs hS hr
            match vs, hr with
            | [u0], ⟨z0, _⟩ =>
              obtain ⟨rfl, _⟩ : u0 = _ ∧ _ := z0
              refine (cmg _).mono ?_
              rintro e w' ⟨rfl, hf⟩
              exact ⟨_, rfl, ⟨rfl, rfl⟩, hf⟩ }]], rfl⟩
    (opH_le (bigHook_le _ _) (opH_le (symHook_le _ _ _) (tabHook_le _ _)))
    (opH_ok (bigHook_ok _) (opH_ok (symHook_ok _ (fun h => by cases h) (fun h => by cases h)) (tabHook_ok _ all_nil all_nil)))
  refine (told_call (M := (DomQ true ν σ (fun _ => none))) (cx := ⟨Tryd.prog, true, t.get, orcD (fma3FZZD sa sb), (opH (bigHook Tryd.prog true) (opH (symHook Tryd.prog fma3FZZN (fun _ _ _ => none)) (tabHook (fma3FZZL sa sb) fma3FZZM)))⟩) (xs := [.one (.atom (.sym 0)), .one (.atom (.sym 1)), .one (.atom (.sym 2)), .one (.atom (.sym 3))]) (vs := [.int .u64 f, .int .u64 g, .int .u64 h, .int .i64 m]) Tryd.checked.mixed hcx (fun hg => by cases hg) ⟨⟨rfl, fun _ => trivial⟩, ⟨rfl, fun _ => trivial⟩, ⟨rfl, fun _ => trivial⟩, ⟨rfl, fun _ => trivial⟩, trivial⟩ he).mono ?_
  rintro e w' ⟨v, ρ', rfl, hv, hbel⟩
  obtain ⟨us, rfl, hu⟩ := hv
  match us, hu with
  | [c0, c1], ⟨r0, r1, _⟩ =>
    obtain ⟨rfl, _⟩ : c0 = _ ∧ _ := r0
    obtain ⟨rfl, _⟩ : c1 = _ ∧ _ := r1
    exact ⟨rfl, hbel⟩

def fma3FZFD (sa : Bool) (sb : Bool) : List (FuncId × Ans) :=
  [(52, ansT [([.one (.atom (.sym 0))], .v (.one (.lit (.bool false)))), ([.one (.atom (.sym 1))], .v (.one (.lit (.bool false)))), ([.one (.atom (.sym 2))], .v (.one (.lit (.bool false))))]),
   (53, ansT [([.one (.atom (.sym 0))], .v (.one (.lit (.bool false)))), ([.one (.atom (.sym 1))], .v (.one (.lit (.bool false)))), ([.one (.atom (.sym 2))], .v (.one (.lit (.bool false))))]),
   (57, ansT [([.one (.atom (.sym 0))], .v (.one (.lit (.bool false)))), ([.one (.atom (.sym 1))], .v (.one (.lit (.bool true)))), ([.one (.atom (.sym 2))], .v (.one (.lit (.bool false))))]),
   (58, ansT [([.one (.lit (.bool (sa != sb))), .one (.lit (.int .u64 0))], .v (.one (.atom (.sym 4))))]),
   (27, ansT [([.one (.atom (.sym 4)), .one (.atom (.sym 2)), .one (.atom (.sym 3))], .tup [.one (.atom (.sym 5)), .one (.atom (.sym 6))])]),
   (56, ansT [([.one (.atom (.sym 0))], .v (.one (.lit (.bool sa)))), ([.one (.atom (.sym 1))], .v (.one (.lit (.bool sb))))])]
def fma3FZFL (sa : Bool) (sb : Bool) : BT := []
def fma3FZFM : BT := []
def fma3FZFN : At → Option Nat
  | _ => none

set_option maxRecDepth 1000000 in
theorem fma3FZFTold : ∃ t : Tr Func, TabOK Tryd.prog t ∧ (∀ (sa : Bool) (sb : Bool), isAV (.tup [.one (.atom (.sym 5)), .one (.atom (.sym 6))]) (evalCall ⟨Tryd.prog, true, t.get, orcD (fma3FZFD sa sb), (opH (bigHook Tryd.prog true) (opH (symHook Tryd.prog fma3FZFN (fun _ _ _ => none)) (tabHook (fma3FZFL sa sb) fma3FZFM)))⟩ 1000 37 [.one (.atom (.sym 0)), .one (.atom (.sym 1)), .one (.atom (.sym 2)), .one (.atom (.sym 3))] .e 0) = true) :=
  ⟨(((((((Tr.e).put 37 (some Tryd.f37)).put 52 (some Tryd.f52)).put 53 (some Tryd.f53)).put 57 (some Tryd.f57)).put 58 (some Tryd.f58)).put 27 (some Tryd.f27)).put 56 (some Tryd.f56),
   (TabOK.put (TabOK.put (TabOK.put (TabOK.put (TabOK.put (TabOK.put (TabOK.put (TabOK.e _) ⟨Tryd.func37, by decide +kernel, by decide +kernel⟩) ⟨Tryd.func52, by decide +kernel, by decide +kernel⟩) ⟨Tryd.func53, by decide +kernel, by decide +kernel⟩) ⟨Tryd.func57, by decide +kernel, by decide +kernel⟩) ⟨Tryd.func58, by decide +kernel, by decide +kernel⟩) ⟨Tryd.func27, by decide +kernel, by decide +kernel⟩) ⟨Tryd.func56, by decide +kernel, by decide +kernel⟩),
   by decide +kernel⟩

set_option maxHeartbeats 4000000 in
set_option maxRecDepth 100000 in
theorem fma3FZF_tab {w : World} (m : Int) (f g h : Nat) (hf : f < 18446744073709551616) (hg : g < 18446744073709551616) (hh : h < 18446744073709551616) (Kf : fsz f ≠ 0) (Lf : fsz f < 9218868437227405312) (Kg : fsz g = 0) (Kh : fsz h ≠ 0) (Lh : fsz h < 9218868437227405312) {sa sb : Bool} (hsa : fneg f = sa) (hsb : fneg g = sb) :
    Calls Tryd.prog 37 #[.int .u64 f, .int .u64 g, .int .u64 h, .int .i64 m] w fun e w' => e = .returned (.tuple #[.int .u64 ((fmaF m f g h).1 : Nat), .int .i64 ((fmaF m f g h).2 : Nat)]) ∧ Below w.heap.size w w' := by
  have cnf : ∀ (w : World), Calls Tryd.prog 52 #[.int .u64 f] w fun e w' => e = .returned (.bool false) ∧ Fwd w w' := fun w => (none3_any f hf).mono fun e w' gg => ⟨by rw [gg.1, show isNan f = false from isNan_le (by omega)], gg.2 ▸ Fwd.refl _⟩
  have cif : ∀ (w : World), Calls Tryd.prog 53 #[.int .u64 f] w fun e w' => e = .returned (.bool false) ∧ Fwd w w' := fun w => (endless3_any f hf).mono fun e w' gg => ⟨by rw [gg.1, show decide (fsz f = 9218868437227405312) = false from decide_eq_false (by omega)], gg.2 ▸ Fwd.refl _⟩
  have czf : ∀ (w : World), Calls Tryd.prog 57 #[.int .u64 f] w fun e w' => e = .returned (.bool false) ∧ Fwd w w' := fun w => (nought3_any f hf).mono fun e w' gg => ⟨by rw [gg.1, show decide (fsz f = 0) = false from decide_eq_false (by omega)], gg.2 ▸ Fwd.refl _⟩
  have cng : ∀ (w : World), Calls Tryd.prog 52 #[.int .u64 g] w fun e w' => e = .returned (.bool false) ∧ Fwd w w' := fun w => (none3_any g hg).mono fun e w' gg => ⟨by rw [gg.1, show isNan g = false from isNan_le (by omega)], gg.2 ▸ Fwd.refl _⟩
  have cig : ∀ (w : World), Calls Tryd.prog 53 #[.int .u64 g] w fun e w' => e = .returned (.bool false) ∧ Fwd w w' := fun w => (endless3_any g hg).mono fun e w' gg => ⟨by rw [gg.1, show decide (fsz g = 9218868437227405312) = false from decide_eq_false (by omega)], gg.2 ▸ Fwd.refl _⟩
  have czg : ∀ (w : World), Calls Tryd.prog 57 #[.int .u64 g] w fun e w' => e = .returned (.bool true) ∧ Fwd w w' := fun w => (nought3_any g hg).mono fun e w' gg => ⟨by rw [gg.1, show decide (fsz g = 0) = true from decide_eq_true (by omega)], gg.2 ▸ Fwd.refl _⟩
  have cnh : ∀ (w : World), Calls Tryd.prog 52 #[.int .u64 h] w fun e w' => e = .returned (.bool false) ∧ Fwd w w' := fun w => (none3_any h hh).mono fun e w' gg => ⟨by rw [gg.1, show isNan h = false from isNan_le (by omega)], gg.2 ▸ Fwd.refl _⟩
  have cih : ∀ (w : World), Calls Tryd.prog 53 #[.int .u64 h] w fun e w' => e = .returned (.bool false) ∧ Fwd w w' := fun w => (endless3_any h hh).mono fun e w' gg => ⟨by rw [gg.1, show decide (fsz h = 9218868437227405312) = false from decide_eq_false (by omega)], gg.2 ▸ Fwd.refl _⟩
  have czh : ∀ (w : World), Calls Tryd.prog 57 #[.int .u64 h] w fun e w' => e = .returned (.bool false) ∧ Fwd w w' := fun w => (nought3_any h hh).mono fun e w' gg => ⟨by rw [gg.1, show decide (fsz h = 0) = false from decide_eq_false (by omega)], gg.2 ▸ Fwd.refl _⟩
  have cS : ∀ (w : World), Calls Tryd.prog 58 #[.bool (sa != sb), .int .u64 0] w fun e w' => e = .returned (.int .u64 ((sgn (sa != sb) + 0 : Nat) : Int)) ∧ Fwd w w' := fun w => (signed3_any (sa != sb) 0 (by omega)).mono fun e w' gg => ⟨gg.1, gg.2 ▸ Fwd.refl _⟩
  have hsl : sgn (sa != sb) + 0 < 18446744073709551616 := by have := sgn_le (sa != sb); omega
  have cmf : ∀ (w : World), Calls Tryd.prog 56 #[.int .u64 f] w fun e w' => e = .returned (.bool sa) ∧ Fwd w w' := fun w => (minus3_any f hf).mono fun e w' gg => ⟨by rw [gg.1, hsa], gg.2 ▸ Fwd.refl _⟩
  have cmg : ∀ (w : World), Calls Tryd.prog 56 #[.int .u64 g] w fun e w' => e = .returned (.bool sb) ∧ Fwd w w' := fun w => (minus3_any g hg).mono fun e w' gg => ⟨by rw [gg.1, hsb], gg.2 ▸ Fwd.refl _⟩
  have hval : fmaF m f g h = addF m (sgn (sa != sb) + 0) h := by rw [← hsa, ← hsb]; exact fmaF_nought (by omega) (by omega) (by omega) (by omega)
  rw [hval]
  obtain ⟨t, ht, hr⟩ := fma3FZFTold
  obtain ⟨dl, n', he⟩ := isAV_ok (hr sa sb)
  let ν : Nat → Rat := nuL [fvQ f, fvQ g, fvQ h, fvQ f * fvQ g] []
  let σ : SymD := symL [.u f, .u g, .u h, .i m, .u (sgn (sa != sb) + 0), .u (addF m (sgn (sa != sb) + 0) h).1, .i ((addF m (sgn (sa != sb) + 0) h).2 : Int)]
  have hcx : CxOK (DomQ true ν σ (fun _ => none)) w.heap.size ⟨Tryd.prog, true, t.get, orcD (fma3FZFD sa sb), (opH (bigHook Tryd.prog true) (opH (symHook Tryd.prog fma3FZFN (fun _ _ _ => none)) (tabHook (fma3FZFL sa sb) fma3FZFM)))⟩ := cxS_ok (M := (DomQ true ν σ (fun _ => none))) ht ⟨[
      orcT 52 [
        { args := [.one (.atom (.sym 0))], ans := .v (.one (.lit (.bool false))), ok := by
            intro B ρ w S vs hS hr
            match vs, hr with
            | [u0], ⟨z0, _⟩ =>
              obtain ⟨rfl, _⟩ : u0 = _ ∧ _ := z0
              refine (cnf _).mono ?_
              rintro e w' ⟨rfl, hf⟩
              exact ⟨_, rfl, ⟨rfl, rfl⟩, hf⟩ },
        { args := [.one (.atom (.sym 1))], ans := .v (.one (.lit (.bool false))), ok := by
            intro B ρ w S vs hS hr
            match vs, hr with
            | [u0], ⟨z0, _⟩ =>
              obtain ⟨rfl, _⟩ : u0 = _ ∧ _ := z0
              refine (cng _).mono ?_
              rintro e w' ⟨rfl, hf⟩
              exact ⟨_, rfl, ⟨rfl, rfl⟩, hf⟩ },
        { args := [.one (.atom (.sym 2))], ans := .v (.one (.lit (.bool false))), ok := by
            intro B ρ w S vs hS hr
            match vs, hr with
            | [u0], ⟨z0, _⟩ =>
              obtain ⟨rfl, _⟩ : u0 = _ ∧ _ := z0
              refine (cnh _).mono ?_
              rintro e w' ⟨rfl, hf⟩
              exact ⟨_, rfl, ⟨rfl, rfl⟩, hf⟩ }],
      orcT 53 [
        { args := [.one (.atom (.sym 0))], ans := .v (.one (.lit (.bool false))), ok := by
            intro B ρ w S vs hS hr
            match vs, hr with
            | [u0], ⟨z0, _⟩ =>
              obtain ⟨rfl, _⟩ : u0 = _ ∧ _ := z0
              refine (cif _).mono ?_
              rintro e w' ⟨rfl, hf⟩
              exact ⟨_, rfl, ⟨rfl, rfl⟩, hf⟩ },
        { args := [.one (.atom (.sym 1))], ans := .v (.one (.lit (.bool false))), ok := by
            intro B ρ w S vs hS hr
            match vs, hr with
            | [u0], ⟨z0, _⟩ =>
              obtain ⟨rfl, _⟩ : u0 = _ ∧ _ := z0
              refine (cig _).mono ?_
              rintro e w' ⟨rfl, hf⟩
              exact ⟨_, rfl, ⟨rfl, rfl⟩, hf⟩ },
        { args := [.one (.atom (.sym 2))], ans := .v (.one (.lit (.bool false))), ok := by
            intro B ρ w S vs hS hr
            match vs, hr with
            | [u0], ⟨z0, _⟩ =>
              obtain ⟨rfl, _⟩ : u0 = _ ∧ _ := z0
              refine (cih _).mono ?_
              rintro e w' ⟨rfl, hf⟩
              exact ⟨_, rfl, ⟨rfl, rfl⟩, hf⟩ }],
      orcT 57 [
        { args := [.one (.atom (.sym 0))], ans := .v (.one (.lit (.bool false))), ok := by
            intro B ρ w S vs hS hr
            match vs, hr with
            | [u0], ⟨z0, _⟩ =>
              obtain ⟨rfl, _⟩ : u0 = _ ∧ _ := z0
              refine (czf _).mono ?_
              rintro e w' ⟨rfl, hf⟩
              exact ⟨_, rfl, ⟨rfl, rfl⟩, hf⟩ },
        { args := [.one (.atom (.sym 1))], ans := .v (.one (.lit (.bool true))), ok := by
            intro B ρ w S vs hS hr
            match vs, hr with
            | [u0], ⟨z0, _⟩ =>
              obtain ⟨rfl, _⟩ : u0 = _ ∧ _ := z0
              refine (czg _).mono ?_
              rintro e w' ⟨rfl, hf⟩
              exact ⟨_, rfl, ⟨rfl, rfl⟩, hf⟩ },
        { args := [.one (.atom (.sym 2))], ans := .v (.one (.lit (.bool false))), ok := by
            intro B ρ w S vs hS hr
            match vs, hr with
            | [u0], ⟨z0, _⟩ =>
              obtain ⟨rfl, _⟩ : u0 = _ ∧ _ := z0
              refine (czh _).mono ?_
              rintro e w' ⟨rfl, hf⟩
              exact ⟨_, rfl, ⟨rfl, rfl⟩, hf⟩ }],
      orcT 58 [
        { args := [.one (.lit (.bool (sa != sb))), .one (.lit (.int .u64 0))], ans := .v (.one (.atom (.sym 4))), ok := by
            intro B ρ w S vs hS hr
            match vs, hr with
            | [u0, u1], ⟨z0, z1, _⟩ =>
              obtain ⟨rfl, _⟩ : u0 = _ ∧ _ := z0
              obtain ⟨rfl, _⟩ : u1 = _ ∧ _ := z1
              refine (cS _).mono ?_
              rintro e w' ⟨rfl, hf⟩
              exact ⟨_, rfl, ⟨rfl, fun _ => trivial⟩, hf⟩ }],
      orcT 27 [
        { args := [.one (.atom (.sym 4)), .one (.atom (.sym 2)), .one (.atom (.sym 3))], ans := .tup [.one (.atom (.sym 5)), .one (.atom (.sym 6))], ok := by
            intro B ρ w S vs hS hr
            match vs, hr with
            | [u0, u1, u2], ⟨z0, z1, z2, _⟩ =>
              obtain ⟨rfl, _⟩ : u0 = _ ∧ _ := z0
              obtain ⟨rfl, _⟩ : u1 = _ ∧ _ := z1
              obtain ⟨rfl, _⟩ : u2 = _ ∧ _ := z2
              refine (add3_any m _ h hsl hh).mono ?_
              rintro e w' ⟨rfl, hf⟩
              exact ⟨_, rfl, ⟨[_, _], rfl, ⟨rfl, fun _ => trivial⟩, ⟨rfl, fun _ => trivial⟩, trivial⟩, hf⟩ }],
      orcT 56 [
        { args := [.one (.atom (.sym 0))], ans := .v (.one (.lit (.bool sa))), ok := by
            intro B ρ w S vs hS hr
            match vs, hr with
            | [u0], ⟨z0, _⟩ =>
              obtain ⟨rfl, _⟩ : u0 = _ ∧ _ := z0
              refine (cmf _).mono ?_
              rintro e w' ⟨rfl, hf⟩
              exact ⟨_, rfl, ⟨rfl, rfl⟩, hf⟩ },
        { args := [.one (.atom (.sym 1))], ans := .v (.one (.lit (.bool sb))), ok := by
            intro B ρ w S vs hS hr
            match vs, hr with
            | [u0], ⟨z0, _⟩ =>
              obtain ⟨rfl, _⟩ : u0 = _ ∧ _ := z0
              refine (cmg _).mono ?_
              rintro e w' ⟨rfl, hf⟩
              exact ⟨_, rfl, ⟨rfl, rfl⟩, hf⟩ }]], rfl⟩
    (opH_le (bigHook_le _ _) (opH_le (symHook_le _ _ _) (tabHook_le _ _)))
    (opH_ok (bigHook_ok _) (opH_ok (symHook_ok _ (fun h => by cases h) (fun h => by cases h)) (tabHook_ok _ all_nil all_nil)))
  refine (told_call (M := (DomQ true ν σ (fun _ => none))) (cx := ⟨Tryd.prog, true, t.get, orcD (fma3FZFD sa sb), (opH (bigHook Tryd.prog true) (opH (symHook Tryd.prog fma3FZFN (fun _ _ _ => none)) (tabHook (fma3FZFL sa sb) fma3FZFM)))⟩) (xs := [.one (.atom (.sym 0)), .one (.atom (.sym 1)), .one (.atom (.sym 2)), .one (.atom (.sym 3))]) (vs := [.int .u64 f, .int .u64 g, .int .u64 h, .int .i64 m]) Tryd.checked.mixed hcx (fun hg => by cases hg) ⟨⟨rfl, fun _ => trivial⟩, ⟨rfl, fun _ => trivial⟩, ⟨rfl, fun _ => trivial⟩, ⟨rfl, fun _ => trivial⟩, trivial⟩ he).mono ?_
  rintro e w' ⟨v, ρ', rfl, hv, hbel⟩
  obtain ⟨us, rfl, hu⟩ := hv
  match us, hu with
  | [c0, c1], ⟨r0, r1, _⟩ =>
    obtain ⟨rfl, _⟩ : c0 = _ ∧ _ := r0
    obtain ⟨rfl, _⟩ : c1 = _ ∧ _ := r1
    exact ⟨rfl, hbel⟩

def fma3FFID (sa : Bool) (sb : Bool) : List (FuncId × Ans) :=
  [(52, ansT [([.one (.atom (.sym 0))], .v (.one (.lit (.bool false)))), ([.one (.atom (.sym 1))], .v (.one (.lit (.bool false)))), ([.one (.atom (.sym 2))], .v (.one (.lit (.bool false))))]),
   (53, ansT [([.one (.atom (.sym 0))], .v (.one (.lit (.bool false)))), ([.one (.atom (.sym 1))], .v (.one (.lit (.bool false)))), ([.one (.atom (.sym 2))], .v (.one (.lit (.bool true))))]),
   (57, ansT [([.one (.atom (.sym 0))], .v (.one (.lit (.bool false)))), ([.one (.atom (.sym 1))], .v (.one (.lit (.bool false)))), ([.one (.atom (.sym 2))], .v (.one (.lit (.bool false))))]),
   (56, ansT [([.one (.atom (.sym 0))], .v (.one (.lit (.bool sa)))), ([.one (.atom (.sym 1))], .v (.one (.lit (.bool sb))))])]
def fma3FFIL (sa : Bool) (sb : Bool) : BT := []
def fma3FFIM : BT := []
def fma3FFIN : At → Option Nat
  | _ => none

set_option maxRecDepth 1000000 in
theorem fma3FFITold : ∃ t : Tr Func, TabOK Tryd.prog t ∧ (∀ (sa : Bool) (sb : Bool), isAV (.tup [.one (.atom (.sym 2)), .one (.lit (.int .i64 (0)))]) (evalCall ⟨Tryd.prog, true, t.get, orcD (fma3FFID sa sb), (opH (bigHook Tryd.prog true) (opH (symHook Tryd.prog fma3FFIN (fun _ _ _ => none)) (tabHook (fma3FFIL sa sb) fma3FFIM)))⟩ 1000 37 [.one (.atom (.sym 0)), .one (.atom (.sym 1)), .one (.atom (.sym 2)), .one (.atom (.sym 3))] .e 0) = true) :=
  ⟨(((((Tr.e).put 37 (some Tryd.f37)).put 52 (some Tryd.f52)).put 53 (some Tryd.f53)).put 57 (some Tryd.f57)).put 56 (some Tryd.f56),
   (TabOK.put (TabOK.put (TabOK.put (TabOK.put (TabOK.put (TabOK.e _) ⟨Tryd.func37, by decide +kernel, by decide +kernel⟩) ⟨Tryd.func52, by decide +kernel, by decide +kernel⟩) ⟨Tryd.func53, by decide +kernel, by decide +kernel⟩) ⟨Tryd.func57, by decide +kernel, by decide +kernel⟩) ⟨Tryd.func56, by decide +kernel, by decide +kernel⟩),
   by decide +kernel⟩

set_option maxHeartbeats 4000000 in
set_option maxRecDepth 100000 in
theorem fma3FFI_tab {w : World} (m : Int) (f g h : Nat) (hf : f < 18446744073709551616) (hg : g < 18446744073709551616) (hh : h < 18446744073709551616) (Kf : fsz f ≠ 0) (Lf : fsz f < 9218868437227405312) (Kg : fsz g ≠ 0) (Lg : fsz g < 9218868437227405312) (Kh : fsz h = 9218868437227405312) {sa sb : Bool} (hsa : fneg f = sa) (hsb : fneg g = sb) :
    Calls Tryd.prog 37 #[.int .u64 f, .int .u64 g, .int .u64 h, .int .i64 m] w fun e w' => e = .returned (.tuple #[.int .u64 ((fmaF m f g h).1 : Nat), .int .i64 ((fmaF m f g h).2 : Nat)]) ∧ Below w.heap.size w w' := by
  have cnf : ∀ (w : World), Calls Tryd.prog 52 #[.int .u64 f] w fun e w' => e = .returned (.bool false) ∧ Fwd w w' := fun w => (none3_any f hf).mono fun e w' gg => ⟨by rw [gg.1, show isNan f = false from isNan_le (by omega)], gg.2 ▸ Fwd.refl _⟩
  have cif : ∀ (w : World), Calls Tryd.prog 53 #[.int .u64 f] w fun e w' => e = .returned (.bool false) ∧ Fwd w w' := fun w => (endless3_any f hf).mono fun e w' gg => ⟨by rw [gg.1, show decide (fsz f = 9218868437227405312) = false from decide_eq_false (by omega)], gg.2 ▸ Fwd.refl _⟩
  have czf : ∀ (w : World), Calls Tryd.prog 57 #[.int .u64 f] w fun e w' => e = .returned (.bool false) ∧ Fwd w w' := fun w => (nought3_any f hf).mono fun e w' gg => ⟨by rw [gg.1, show decide (fsz f = 0) = false from decide_eq_false (by omega)], gg.2 ▸ Fwd.refl _⟩
  have cng : ∀ (w : World), Calls Tryd.prog 52 #[.int .u64 g] w fun e w' => e = .returned (.bool false) ∧ Fwd w w' := fun w => (none3_any g hg).mono fun e w' gg => ⟨by rw [gg.1, show isNan g = false from isNan_le (by omega)], gg.2 ▸ Fwd.refl _⟩
  have cig : ∀ (w : World), Calls Tryd.prog 53 #[.int .u64 g] w fun e w' => e = .returned (.bool false) ∧ Fwd w w' := fun w => (endless3_any g hg).mono fun e w' gg => ⟨by rw [gg.1, show decide (fsz g = 9218868437227405312) = false from decide_eq_false (by omega)], gg.2 ▸ Fwd.refl _⟩
  have czg : ∀ (w : World), Calls Tryd.prog 57 #[.int .u64 g] w fun e w' => e = .returned (.bool false) ∧ Fwd w w' := fun w => (nought3_any g hg).mono fun e w' gg => ⟨by rw [gg.1, show decide (fsz g = 0) = false from decide_eq_false (by omega)], gg.2 ▸ Fwd.refl _⟩
  have cnh : ∀ (w : World), Calls Tryd.prog 52 #[.int .u64 h] w fun e w' => e = .returned (.bool false) ∧ Fwd w w' := fun w => (none3_any h hh).mono fun e w' gg => ⟨by rw [gg.1, show isNan h = false from isNan_le (by omega)], gg.2 ▸ Fwd.refl _⟩
  have cih : ∀ (w : World), Calls Tryd.prog 53 #[.int .u64 h] w fun e w' => e = .returned (.bool true) ∧ Fwd w w' := fun w => (endless3_any h hh).mono fun e w' gg => ⟨by rw [gg.1, show decide (fsz h = 9218868437227405312) = true from decide_eq_true (by omega)], gg.2 ▸ Fwd.refl _⟩
  have czh : ∀ (w : World), Calls Tryd.prog 57 #[.int .u64 h] w fun e w' => e = .returned (.bool false) ∧ Fwd w w' := fun w => (nought3_any h hh).mono fun e w' gg => ⟨by rw [gg.1, show decide (fsz h = 0) = false from decide_eq_false (by omega)], gg.2 ▸ Fwd.refl _⟩
  have cmf : ∀ (w : World), Calls Tryd.prog 56 #[.int .u64 f] w fun e w' => e = .returned (.bool sa) ∧ Fwd w w' := fun w => (minus3_any f hf).mono fun e w' gg => ⟨by rw [gg.1, hsa], gg.2 ▸ Fwd.refl _⟩
  have cmg : ∀ (w : World), Calls Tryd.prog 56 #[.int .u64 g] w fun e w' => e = .returned (.bool sb) ∧ Fwd w w' := fun w => (minus3_any g hg).mono fun e w' gg => ⟨by rw [gg.1, hsb], gg.2 ▸ Fwd.refl _⟩
  have hval : fmaF m f g h = _ := fmaF_end (by omega) (by omega) Kh hh
  rw [hval]
  obtain ⟨t, ht, hr⟩ := fma3FFITold
  obtain ⟨dl, n', he⟩ := isAV_ok (hr sa sb)
  let ν : Nat → Rat := nuL [fvQ f, fvQ g, fvQ h, fvQ f * fvQ g] []
  let σ : SymD := symL [.u f, .u g, .u h, .i m]
  have hcx : CxOK (DomQ true ν σ (fun _ => none)) w.heap.size ⟨Tryd.prog, true, t.get, orcD (fma3FFID sa sb), (opH (bigHook Tryd.prog true) (opH (symHook Tryd.prog fma3FFIN (fun _ _ _ => none)) (tabHook (fma3FFIL sa sb) fma3FFIM)))⟩ := cxS_ok (M := (DomQ true ν σ (fun _ => none))) ht ⟨[
      orcT 52 [
        { args := [.one (.atom (.sym 0))], ans := .v (.one (.lit (.bool false))), ok := by
            intro B ρ w S vs hS hr
            match vs, hr with
            | [u0], ⟨z0, _⟩ =>
              obtain ⟨rfl, _⟩ : u0 = _ ∧ _ := z0
              refine (cnf _).mono ?_
              rintro e w' ⟨rfl, hf⟩
              exact ⟨_, rfl, ⟨rfl, rfl⟩, hf⟩ },
        { args := [.one (.atom (.sym 1))], ans := .v (.one (.lit (.bool false))), ok := by
            intro B ρ w S vs hS hr
            match vs, hr with
            | [u0], ⟨z0, _⟩ =>
              obtain ⟨rfl, _⟩ : u0 = _ ∧ _ := z0
              refine (cng _).mono ?_
              rintro e w' ⟨rfl, hf⟩
              exact ⟨_, rfl, ⟨rfl, rfl⟩, hf⟩ },
        { args := [.one (.atom (.sym 2))], ans := .v (.one (.lit (.bool false))), ok := by
            intro B ρ w S vs hS hr
            match vs, hr with
            | [u0], ⟨z0, _⟩ =>
              obtain ⟨rfl, _⟩ : u0 = _ ∧ _ := z0
              refine (cnh _).mono ?_
              rintro e w' ⟨rfl, hf⟩
              exact ⟨_, rfl, ⟨rfl, rfl⟩, hf⟩ }],
      orcT 53 [
        { args := [.one (.atom (.sym 0))], ans := .v (.one (.lit (.bool false))), ok := by
            intro B ρ w S vs hS hr
            match vs, hr with
            | [u0], ⟨z0, _⟩ =>
              obtain ⟨rfl, _⟩ : u0 = _ ∧ _ := z0
              refine (cif _).mono ?_
              rintro e w' ⟨rfl, hf⟩
              exact ⟨_, rfl, ⟨rfl, rfl⟩, hf⟩ },
        { args := [.one (.atom (.sym 1))], ans := .v (.one (.lit (.bool false))), ok := by
            intro B ρ w S vs hS hr
            match vs, hr with
            | [u0], ⟨z0, _⟩ =>
              obtain ⟨rfl, _⟩ : u0 = _ ∧ _ := z0
              refine (cig _).mono ?_
              rintro e w' ⟨rfl, hf⟩
              exact ⟨_, rfl, ⟨rfl, rfl⟩, hf⟩ },
        { args := [.one (.atom (.sym 2))], ans := .v (.one (.lit (.bool true))), ok := by
            intro B ρ w S vs hS hr
            match vs, hr with
            | [u0], ⟨z0, _⟩ =>
              obtain ⟨rfl, _⟩ : u0 = _ ∧ _ := z0
              refine (cih _).mono ?_
              rintro e w' ⟨rfl, hf⟩
              exact ⟨_, rfl, ⟨rfl, rfl⟩, hf⟩ }],
      orcT 57 [
        { args := [.one (.atom (.sym 0))], ans := .v (.one (.lit (.bool false))), ok := by
            intro B ρ w S vs hS hr
            match vs, hr with
            | [u0], ⟨z0, _⟩ =>
              obtain ⟨rfl, _⟩ : u0 = _ ∧ _ := z0
              refine (czf _).mono ?_
              rintro e w' ⟨rfl, hf⟩
              exact ⟨_, rfl, ⟨rfl, rfl⟩, hf⟩ },
        { args := [.one (.atom (.sym 1))], ans := .v (.one (.lit (.bool false))), ok := by
            intro B ρ w S vs hS hr
            match vs, hr with
            | [u0], ⟨z0, _⟩ =>
              obtain ⟨rfl, _⟩ : u0 = _ ∧ _ := z0
              refine (czg _).mono ?_
              rintro e w' ⟨rfl, hf⟩
              exact ⟨_, rfl, ⟨rfl, rfl⟩, hf⟩ },
        { args := [.one (.atom (.sym 2))], ans := .v (.one (.lit (.bool false))), ok := by
            intro B ρ w S vs hS hr
            match vs, hr with
            | [u0], ⟨z0, _⟩ =>
              obtain ⟨rfl, _⟩ : u0 = _ ∧ _ := z0
              refine (czh _).mono ?_
              rintro e w' ⟨rfl, hf⟩
              exact ⟨_, rfl, ⟨rfl, rfl⟩, hf⟩ }],
      orcT 56 [
        { args := [.one (.atom (.sym 0))], ans := .v (.one (.lit (.bool sa))), ok := by
            intro B ρ w S vs hS hr
            match vs, hr with
            | [u0], ⟨z0, _⟩ =>
              obtain ⟨rfl, _⟩ : u0 = _ ∧ _ := z0
              refine (cmf _).mono ?_
              rintro e w' ⟨rfl, hf⟩
              exact ⟨_, rfl, ⟨rfl, rfl⟩, hf⟩ },
        { args := [.one (.atom (.sym 1))], ans := .v (.one (.lit (.bool sb))), ok := by
            intro B ρ w S vs hS hr
            match vs, hr with
            | [u0], ⟨z0, _⟩ =>
              obtain ⟨rfl, _⟩ : u0 = _ ∧ _ := z0
              refine (cmg _).mono ?_
              rintro e w' ⟨rfl, hf⟩
              exact ⟨_, rfl, ⟨rfl, rfl⟩, hf⟩ }]], rfl⟩
    (opH_le (bigHook_le _ _) (opH_le (symHook_le _ _ _) (tabHook_le _ _)))
    (opH_ok (bigHook_ok _) (opH_ok (symHook_ok _ (fun h => by cases h) (fun h => by cases h)) (tabHook_ok _ all_nil all_nil)))
  refine (told_call (M := (DomQ true ν σ (fun _ => none))) (cx := ⟨Tryd.prog, true, t.get, orcD (fma3FFID sa sb), (opH (bigHook Tryd.prog true) (opH (symHook Tryd.prog fma3FFIN (fun _ _ _ => none)) (tabHook (fma3FFIL sa sb) fma3FFIM)))⟩) (xs := [.one (.atom (.sym 0)), .one (.atom (.sym 1)), .one (.atom (.sym 2)), .one (.atom (.sym 3))]) (vs := [.int .u64 f, .int .u64 g, .int .u64 h, .int .i64 m]) Tryd.checked.mixed hcx (fun hg => by cases hg) ⟨⟨rfl, fun _ => trivial⟩, ⟨rfl, fun _ => trivial⟩, ⟨rfl, fun _ => trivial⟩, ⟨rfl, fun _ => trivial⟩, trivial⟩ he).mono ?_
  rintro e w' ⟨v, ρ', rfl, hv, hbel⟩
  obtain ⟨us, rfl, hu⟩ := hv
  match us, hu with
  | [c0, c1], ⟨r0, r1, _⟩ =>
    obtain ⟨rfl, _⟩ : c0 = _ ∧ _ := r0
    obtain ⟨rfl, _⟩ : c1 = _ ∧ _ := r1
    exact ⟨rfl, hbel⟩

def fma3FFZD (sa : Bool) (sb : Bool) : List (FuncId × Ans) :=
  [(52, ansT [([.one (.atom (.sym 0))], .v (.one (.lit (.bool false)))), ([.one (.atom (.sym 1))], .v (.one (.lit (.bool false)))), ([.one (.atom (.sym 2))], .v (.one (.lit (.bool false))))]),
   (53, ansT [([.one (.atom (.sym 0))], .v (.one (.lit (.bool false)))), ([.one (.atom (.sym 1))], .v (.one (.lit (.bool false)))), ([.one (.atom (.sym 2))], .v (.one (.lit (.bool false))))]),
   (57, ansT [([.one (.atom (.sym 0))], .v (.one (.lit (.bool false)))), ([.one (.atom (.sym 1))], .v (.one (.lit (.bool false)))), ([.one (.atom (.sym 2))], .v (.one (.lit (.bool true))))]),
   (71, ansT [([.one (.atom (.sym 0))], .v (avQ (.v 0))), ([.one (.atom (.sym 1))], .v (avQ (.v 1))), ([.one (.atom (.sym 2))], .v (avQ (.v 2)))]),
   (14, ansT [([avQ (.v 0), avQ (.v 1)], .v (avQ (.v 3)))]),
   (24, ansT [([avQ (.v 3), .one (.atom (.sym 3))], .tup [.one (.atom (.sym 4)), .one (.atom (.sym 5))])]),
   (56, ansT [([.one (.atom (.sym 0))], .v (.one (.lit (.bool sa)))), ([.one (.atom (.sym 1))], .v (.one (.lit (.bool sb))))])]
def fma3FFZL (sa : Bool) (sb : Bool) : BT := []
def fma3FFZM : BT := []
def fma3FFZN : At → Option Nat
  | _ => none

set_option maxRecDepth 1000000 in
theorem fma3FFZTold : ∃ t : Tr Func, TabOK Tryd.prog t ∧ (∀ (sa : Bool) (sb : Bool), isAV (.tup [.one (.atom (.sym 4)), .one (.atom (.sym 5))]) (evalCall ⟨Tryd.prog, true, t.get, orcD (fma3FFZD sa sb), (opH (bigHook Tryd.prog true) (opH (symHook Tryd.prog fma3FFZN (fun _ _ _ => none)) (tabHook (fma3FFZL sa sb) fma3FFZM)))⟩ 1000 37 [.one (.atom (.sym 0)), .one (.atom (.sym 1)), .one (.atom (.sym 2)), .one (.atom (.sym 3))] .e 0) = true) :=
  ⟨((((((((Tr.e).put 37 (some Tryd.f37)).put 52 (some Tryd.f52)).put 53 (some Tryd.f53)).put 57 (some Tryd.f57)).put 71 (some Tryd.f71)).put 14 (some Tryd.f14)).put 24 (some Tryd.f24)).put 56 (some Tryd.f56),
   (TabOK.put (TabOK.put (TabOK.put (TabOK.put (TabOK.put (TabOK.put (TabOK.put (TabOK.put (TabOK.e _) ⟨Tryd.func37, by decide +kernel, by decide +kernel⟩) ⟨Tryd.func52, by decide +kernel, by decide +kernel⟩) ⟨Tryd.func53, by decide +kernel, by decide +kernel⟩) ⟨Tryd.func57, by decide +kernel, by decide +kernel⟩) ⟨Tryd.func71, by decide +kernel, by decide +kernel⟩) ⟨Tryd.func14, by decide +kernel, by decide +kernel⟩) ⟨Tryd.func24, by decide +kernel, by decide +kernel⟩) ⟨Tryd.func56, by decide +kernel, by decide +kernel⟩),
   by decide +kernel⟩

set_option maxHeartbeats 4000000 in
set_option maxRecDepth 100000 in
theorem fma3FFZ_tab {w : World} (m : Int) (f g h : Nat) (hf : f < 18446744073709551616) (hg : g < 18446744073709551616) (hh : h < 18446744073709551616) (Kf : fsz f ≠ 0) (Lf : fsz f < 9218868437227405312) (Kg : fsz g ≠ 0) (Lg : fsz g < 9218868437227405312) (Kh : fsz h = 0) {sa sb : Bool} (hsa : fneg f = sa) (hsb : fneg g = sb) :
    Calls Tryd.prog 37 #[.int .u64 f, .int .u64 g, .int .u64 h, .int .i64 m] w fun e w' => e = .returned (.tuple #[.int .u64 ((fmaF m f g h).1 : Nat), .int .i64 ((fmaF m f g h).2 : Nat)]) ∧ Below w.heap.size w w' := by
  have cnf : ∀ (w : World), Calls Tryd.prog 52 #[.int .u64 f] w fun e w' => e = .returned (.bool false) ∧ Fwd w w' := fun w => (none3_any f hf).mono fun e w' gg => ⟨by rw [gg.1, show isNan f = false from isNan_le (by omega)], gg.2 ▸ Fwd.refl _⟩
  have cif : ∀ (w : World), Calls Tryd.prog 53 #[.int .u64 f] w fun e w' => e = .returned (.bool false) ∧ Fwd w w' := fun w => (endless3_any f hf).mono fun e w' gg => ⟨by rw [gg.1, show decide (fsz f = 9218868437227405312) = false from decide_eq_false (by omega)], gg.2 ▸ Fwd.refl _⟩
  have czf : ∀ (w : World), Calls Tryd.prog 57 #[.int .u64 f] w fun e w' => e = .returned (.bool false) ∧ Fwd w w' := fun w => (nought3_any f hf).mono fun e w' gg => ⟨by rw [gg.1, show decide (fsz f = 0) = false from decide_eq_false (by omega)], gg.2 ▸ Fwd.refl _⟩
  have cng : ∀ (w : World), Calls Tryd.prog 52 #[.int .u64 g] w fun e w' => e = .returned (.bool false) ∧ Fwd w w' := fun w => (none3_any g hg).mono fun e w' gg => ⟨by rw [gg.1, show isNan g = false from isNan_le (by omega)], gg.2 ▸ Fwd.refl _⟩
  have cig : ∀ (w : World), Calls Tryd.prog 53 #[.int .u64 g] w fun e w' => e = .returned (.bool false) ∧ Fwd w w' := fun w => (endless3_any g hg).mono fun e w' gg => ⟨by rw [gg.1, show decide (fsz g = 9218868437227405312) = false from decide_eq_false (by omega)], gg.2 ▸ Fwd.refl _⟩
  have czg : ∀ (w : World), Calls Tryd.prog 57 #[.int .u64 g] w fun e w' => e = .returned (.bool false) ∧ Fwd w w' := fun w => (nought3_any g hg).mono fun e w' gg => ⟨by rw [gg.1, show decide (fsz g = 0) = false from decide_eq_false (by omega)], gg.2 ▸ Fwd.refl _⟩
  have cnh : ∀ (w : World), Calls Tryd.prog 52 #[.int .u64 h] w fun e w' => e = .returned (.bool false) ∧ Fwd w w' := fun w => (none3_any h hh).mono fun e w' gg => ⟨by rw [gg.1, show isNan h = false from isNan_le (by omega)], gg.2 ▸ Fwd.refl _⟩
  have cih : ∀ (w : World), Calls Tryd.prog 53 #[.int .u64 h] w fun e w' => e = .returned (.bool false) ∧ Fwd w w' := fun w => (endless3_any h hh).mono fun e w' gg => ⟨by rw [gg.1, show decide (fsz h = 9218868437227405312) = false from decide_eq_false (by omega)], gg.2 ▸ Fwd.refl _⟩
  have czh : ∀ (w : World), Calls Tryd.prog 57 #[.int .u64 h] w fun e w' => e = .returned (.bool true) ∧ Fwd w w' := fun w => (nought3_any h hh).mono fun e w' gg => ⟨by rw [gg.1, show decide (fsz h = 0) = true from decide_eq_true (by omega)], gg.2 ▸ Fwd.refl _⟩
  have b1 := nr_fvQ (f := f) (by omega)
  have b2 := nr_fvQ (f := g) (by omega)
  have b4 := nr_fvQ (f := h) (by omega)
  have b3 := nr_mul (fvQ f) (fvQ g)
  have b5 := nr_add (fvQ f * fvQ g) (fvQ h)
  have cmf : ∀ (w : World), Calls Tryd.prog 56 #[.int .u64 f] w fun e w' => e = .returned (.bool sa) ∧ Fwd w w' := fun w => (minus3_any f hf).mono fun e w' gg => ⟨by rw [gg.1, hsa], gg.2 ▸ Fwd.refl _⟩
  have cmg : ∀ (w : World), Calls Tryd.prog 56 #[.int .u64 g] w fun e w' => e = .returned (.bool sb) ∧ Fwd w w' := fun w => (minus3_any g hg).mono fun e w' gg => ⟨by rw [gg.1, hsb], gg.2 ▸ Fwd.refl _⟩
  have hval : fmaF m f g h = _ := fmaF_prod m (by omega) (by omega) Kh Kf Kg
  rw [hval]
  obtain ⟨t, ht, hr⟩ := fma3FFZTold
  obtain ⟨dl, n', he⟩ := isAV_ok (hr sa sb)
  let ν : Nat → Rat := nuL [fvQ f, fvQ g, fvQ h, fvQ f * fvQ g] []
  let σ : SymD := symL [.u f, .u g, .u h, .i m, .u (ofN m (fvQ f * fvQ g)).1, .i ((ofN m (fvQ f * fvQ g)).2 : Int)]
  have hcx : CxOK (DomQ true ν σ (fun _ => none)) w.heap.size ⟨Tryd.prog, true, t.get, orcD (fma3FFZD sa sb), (opH (bigHook Tryd.prog true) (opH (symHook Tryd.prog fma3FFZN (fun _ _ _ => none)) (tabHook (fma3FFZL sa sb) fma3FFZM)))⟩ := cxS_ok (M := (DomQ true ν σ (fun _ => none))) ht ⟨[
      orcT 52 [
        { args := [.one (.atom (.sym 0))], ans := .v (.one (.lit (.bool false))), ok := by
            intro B ρ w S vs hS hr
            match vs, hr with
            | [u0], ⟨z0, _⟩ =>
              obtain ⟨rfl, _⟩ : u0 = _ ∧ _ := z0
              refine (cnf _).mono ?_
              rintro e w' ⟨rfl, hf⟩
              exact ⟨_, rfl, ⟨rfl, rfl⟩, hf⟩ },
        { args := [.one (.atom (.sym 1))], ans := .v (.one (.lit (.bool false))), ok := by
            intro B ρ w S vs hS hr
            match vs, hr with
            | [u0], ⟨z0, _⟩ =>
              obtain ⟨rfl, _⟩ : u0 = _ ∧ _ := z0
              refine (cng _).mono ?_
              rintro e w' ⟨rfl, hf⟩
              exact ⟨_, rfl, ⟨rfl, rfl⟩, hf⟩ },
        { args := [.one (.atom (.sym 2))], ans := .v (.one (.lit (.bool false))), ok := by
            intro B ρ w S vs hS hr
            match vs, hr with
            | [u0], ⟨z0, _⟩ =>
              obtain ⟨rfl, _⟩ : u0 = _ ∧ _ := z0
              refine (cnh _).mono ?_
              rintro e w' ⟨rfl, hf⟩
              exact ⟨_, rfl, ⟨rfl, rfl⟩, hf⟩ }],
      orcT 53 [
        { args := [.one (.atom (.sym 0))], ans := .v (.one (.lit (.bool false))), ok := by
            intro B ρ w S vs hS hr
            match vs, hr with
            | [u0], ⟨z0, _⟩ =>
              obtain ⟨rfl, _⟩ : u0 = _ ∧ _ := z0
              refine (cif _).mono ?_
              rintro e w' ⟨rfl, hf⟩
              exact ⟨_, rfl, ⟨rfl, rfl⟩, hf⟩ },
        { args := [.one (.atom (.sym 1))], ans := .v (.one (.lit (.bool false))), ok := by
            intro B ρ w S vs hS hr
            match vs, hr with
            | [u0], ⟨z0, _⟩ =>
              obtain ⟨rfl, _⟩ : u0 = _ ∧ _ := z0
              refine (cig _).mono ?_
              rintro e w' ⟨rfl, hf⟩
              exact ⟨_, rfl, ⟨rfl, rfl⟩, hf⟩ },
        { args := [.one (.atom (.sym 2))], ans := .v (.one (.lit (.bool false))), ok := by
            intro B ρ w S vs hS hr
            match vs, hr with
            | [u0], ⟨z0, _⟩ =>
              obtain ⟨rfl, _⟩ : u0 = _ ∧ _ := z0
              refine (cih _).mono ?_
              rintro e w' ⟨rfl, hf⟩
              exact ⟨_, rfl, ⟨rfl, rfl⟩, hf⟩ }],
      orcT 57 [
        { args := [.one (.atom (.sym 0))], ans := .v (.one (.lit (.bool false))), ok := by
            intro B ρ w S vs hS hr
            match vs, hr with
            | [u0], ⟨z0, _⟩ =>
              obtain ⟨rfl, _⟩ : u0 = _ ∧ _ := z0
              refine (czf _).mono ?_
              rintro e w' ⟨rfl, hf⟩
              exact ⟨_, rfl, ⟨rfl, rfl⟩, hf⟩ },
        { args := [.one (.atom (.sym 1))], ans := .v (.one (.lit (.bool false))), ok := by
            intro B ρ w S vs hS hr
            match vs, hr with
            | [u0], ⟨z0, _⟩ =>
              obtain ⟨rfl, _⟩ : u0 = _ ∧ _ := z0
              refine (czg _).mono ?_
              rintro e w' ⟨rfl, hf⟩
              exact ⟨_, rfl, ⟨rfl, rfl⟩, hf⟩ },
        { args := [.one (.atom (.sym 2))], ans := .v (.one (.lit (.bool true))), ok := by
            intro B ρ w S vs hS hr
            match vs, hr with
            | [u0], ⟨z0, _⟩ =>
              obtain ⟨rfl, _⟩ : u0 = _ ∧ _ := z0
              refine (czh _).mono ?_
              rintro e w' ⟨rfl, hf⟩
              exact ⟨_, rfl, ⟨rfl, rfl⟩, hf⟩ }],
      orcT 71 [
        { args := [.one (.atom (.sym 0))], ans := .v (avQ (.v 0)), ok := by
            intro B ρ w S vs hS hr
            match vs, hr with
            | [u0], ⟨z0, _⟩ =>
              obtain ⟨rfl, _⟩ : u0 = _ ∧ _ := z0
              refine (exact3_any f hf (by omega)).mono ?_
              rintro e w' ⟨x, rfl, g0, hf⟩
              exact ⟨_, rfl, (avQ_rel g0), hf⟩ },
        { args := [.one (.atom (.sym 1))], ans := .v (avQ (.v 1)), ok := by
            intro B ρ w S vs hS hr
            match vs, hr with
            | [u0], ⟨z0, _⟩ =>
              obtain ⟨rfl, _⟩ : u0 = _ ∧ _ := z0
              refine (exact3_any g hg (by omega)).mono ?_
              rintro e w' ⟨x, rfl, g0, hf⟩
              exact ⟨_, rfl, (avQ_rel g0), hf⟩ },
        { args := [.one (.atom (.sym 2))], ans := .v (avQ (.v 2)), ok := by
            intro B ρ w S vs hS hr
            match vs, hr with
            | [u0], ⟨z0, _⟩ =>
              obtain ⟨rfl, _⟩ : u0 = _ ∧ _ := z0
              refine (exact3_any h hh (by omega)).mono ?_
              rintro e w' ⟨x, rfl, g0, hf⟩
              exact ⟨_, rfl, (avQ_rel g0), hf⟩ }],
      orcT 14 [
        { args := [avQ (.v 0), avQ (.v 1)], ans := .v (avQ (.v 3)), ok := by
            intro B ρ w S vs hS hr
            match vs, hr with
            | [u0, u1], ⟨z0, z1, _⟩ =>
              have k0 := avQ_rv z0
              have k1 := avQ_rv z1
              refine (mul2_any (p := fvQ f) (q := fvQ g) k0 k1 (by omega) (by omega)).mono ?_
              rintro e w' ⟨x, rfl, g0, hf⟩
              exact ⟨_, rfl, (avQ_rel g0), hf⟩ }],
      orcT 24 [
        { args := [avQ (.v 3), .one (.atom (.sym 3))], ans := .tup [.one (.atom (.sym 4)), .one (.atom (.sym 5))], ok := by
            intro B ρ w S vs hS hr
            match vs, hr with
            | [u0, u1], ⟨z0, z1, _⟩ =>
              have k0 := avQ_rv z0
              obtain ⟨rfl, _⟩ : u1 = _ ∧ _ := z1
              refine (of3_any (q := fvQ f * fvQ g) m k0 (by omega)).mono ?_
              rintro e w' ⟨rfl, hf⟩
              exact ⟨_, rfl, ⟨[_, _], rfl, ⟨rfl, fun _ => trivial⟩, ⟨rfl, fun _ => trivial⟩, trivial⟩, hf⟩ }],
      orcT 56 [
        { args := [.one (.atom (.sym 0))], ans := .v (.one (.lit (.bool sa))), ok := by
            intro B ρ w S vs hS hr
            match vs, hr with
            | [u0], ⟨z0, _⟩ =>
              obtain ⟨rfl, _⟩ : u0 = _ ∧ _ := z0
              refine (cmf _).mono ?_
              rintro e w' ⟨rfl, hf⟩
              exact ⟨_, rfl, ⟨rfl, rfl⟩, hf⟩ },
        { args := [.one (.atom (.sym 1))], ans := .v (.one (.lit (.bool sb))), ok := by
            intro B ρ w S vs hS hr
            match vs, hr with
            | [u0], ⟨z0, _⟩ =>
              obtain ⟨rfl, _⟩ : u0 = _ ∧ _ := z0
              refine (cmg _).mono ?_
              rintro e w' ⟨rfl, hf⟩
              exact ⟨_, rfl, ⟨rfl, rfl⟩, hf⟩ }]], rfl⟩
    (opH_le (bigHook_le _ _) (opH_le (symHook_le _ _ _) (tabHook_le _ _)))
    (opH_ok (bigHook_ok _) (opH_ok (symHook_ok _ (fun h => by cases h) (fun h => by cases h)) (tabHook_ok _ all_nil all_nil)))
  refine (told_call (M := (DomQ true ν σ (fun _ => none))) (cx := ⟨Tryd.prog, true, t.get, orcD (fma3FFZD sa sb), (opH (bigHook Tryd.prog true) (opH (symHook Tryd.prog fma3FFZN (fun _ _ _ => none)) (tabHook (fma3FFZL sa sb) fma3FFZM)))⟩) (xs := [.one (.atom (.sym 0)), .one (.atom (.sym 1)), .one (.atom (.sym 2)), .one (.atom (.sym 3))]) (vs := [.int .u64 f, .int .u64 g, .int .u64 h, .int .i64 m]) Tryd.checked.mixed hcx (fun hg => by cases hg) ⟨⟨rfl, fun _ => trivial⟩, ⟨rfl, fun _ => trivial⟩, ⟨rfl, fun _ => trivial⟩, ⟨rfl, fun _ => trivial⟩, trivial⟩ he).mono ?_
  rintro e w' ⟨v, ρ', rfl, hv, hbel⟩
  obtain ⟨us, rfl, hu⟩ := hv
  match us, hu with
  | [c0, c1], ⟨r0, r1, _⟩ =>
    obtain ⟨rfl, _⟩ : c0 = _ ∧ _ := r0
    obtain ⟨rfl, _⟩ : c1 = _ ∧ _ := r1
    exact ⟨rfl, hbel⟩

def fma3FFFD (sa : Bool) (sb : Bool) : List (FuncId × Ans) :=
  [(52, ansT [([.one (.atom (.sym 0))], .v (.one (.lit (.bool false)))), ([.one (.atom (.sym 1))], .v (.one (.lit (.bool false)))), ([.one (.atom (.sym 2))], .v (.one (.lit (.bool false))))]),
   (53, ansT [([.one (.atom (.sym 0))], .v (.one (.lit (.bool false)))), ([.one (.atom (.sym 1))], .v (.one (.lit (.bool false)))), ([.one (.atom (.sym 2))], .v (.one (.lit (.bool false))))]),
   (57, ansT [([.one (.atom (.sym 0))], .v (.one (.lit (.bool false)))), ([.one (.atom (.sym 1))], .v (.one (.lit (.bool false)))), ([.one (.atom (.sym 2))], .v (.one (.lit (.bool false))))]),
   (71, ansT [([.one (.atom (.sym 0))], .v (avQ (.v 0))), ([.one (.atom (.sym 1))], .v (avQ (.v 1))), ([.one (.atom (.sym 2))], .v (avQ (.v 2)))]),
   (14, ansT [([avQ (.v 0), avQ (.v 1)], .v (avQ (.v 3)))]),
   (70, ansT [([avQ (.v 3), avQ (.v 2), .one (.atom (.sym 3))], .tup [.one (.atom (.sym 4)), .one (.atom (.sym 5))])]),
   (56, ansT [([.one (.atom (.sym 0))], .v (.one (.lit (.bool sa)))), ([.one (.atom (.sym 1))], .v (.one (.lit (.bool sb))))])]
def fma3FFFL (sa : Bool) (sb : Bool) : BT := []
def fma3FFFM : BT := []
def fma3FFFN : At → Option Nat
  | _ => none

set_option maxRecDepth 1000000 in
theorem fma3FFFTold : ∃ t : Tr Func, TabOK Tryd.prog t ∧ (∀ (sa : Bool) (sb : Bool), isAV (.tup [.one (.atom (.sym 4)), .one (.atom (.sym 5))]) (evalCall ⟨Tryd.prog, true, t.get, orcD (fma3FFFD sa sb), (opH (bigHook Tryd.prog true) (opH (symHook Tryd.prog fma3FFFN (fun _ _ _ => none)) (tabHook (fma3FFFL sa sb) fma3FFFM)))⟩ 1000 37 [.one (.atom (.sym 0)), .one (.atom (.sym 1)), .one (.atom (.sym 2)), .one (.atom (.sym 3))] .e 0) = true) :=
  ⟨((((((((Tr.e).put 37 (some Tryd.f37)).put 52 (some Tryd.f52)).put 53 (some Tryd.f53)).put 57 (some Tryd.f57)).put 71 (some Tryd.f71)).put 14 (some Tryd.f14)).put 70 (some Tryd.f70)).put 56 (some Tryd.f56),
   (TabOK.put (TabOK.put (TabOK.put (TabOK.put (TabOK.put (TabOK.put (TabOK.put (TabOK.put (TabOK.e _) ⟨Tryd.func37, by decide +kernel, by decide +kernel⟩) ⟨Tryd.func52, by decide +kernel, by decide +kernel⟩) ⟨Tryd.func53, by decide +kernel, by decide +kernel⟩) ⟨Tryd.func57, by decide +kernel, by decide +kernel⟩) ⟨Tryd.func71, by decide +kernel, by decide +kernel⟩) ⟨Tryd.func14, by decide +kernel, by decide +kernel⟩) ⟨Tryd.func70, by decide +kernel, by decide +kernel⟩) ⟨Tryd.func56, by decide +kernel, by decide +kernel⟩),
   by decide +kernel⟩

set_option maxHeartbeats 4000000 in
set_option maxRecDepth 100000 in
theorem fma3FFF_tab {w : World} (m : Int) (f g h : Nat) (hf : f < 18446744073709551616) (hg : g < 18446744073709551616) (hh : h < 18446744073709551616) (Kf : fsz f ≠ 0) (Lf : fsz f < 9218868437227405312) (Kg : fsz g ≠ 0) (Lg : fsz g < 9218868437227405312) (Kh : fsz h ≠ 0) (Lh : fsz h < 9218868437227405312) {sa sb : Bool} (hsa : fneg f = sa) (hsb : fneg g = sb) :
    Calls Tryd.prog 37 #[.int .u64 f, .int .u64 g, .int .u64 h, .int .i64 m] w fun e w' => e = .returned (.tuple #[.int .u64 ((fmaF m f g h).1 : Nat), .int .i64 ((fmaF m f g h).2 : Nat)]) ∧ Below w.heap.size w w' := by
  have cnf : ∀ (w : World), Calls Tryd.prog 52 #[.int .u64 f] w fun e w' => e = .returned (.bool false) ∧ Fwd w w' := fun w => (none3_any f hf).mono fun e w' gg => ⟨by rw [gg.1, show isNan f = false from isNan_le (by omega)], gg.2 ▸ Fwd.refl _⟩
  have cif : ∀ (w : World), Calls Tryd.prog 53 #[.int .u64 f] w fun e w' => e = .returned (.bool false) ∧ Fwd w w' := fun w => (endless3_any f hf).mono fun e w' gg => ⟨by rw [gg.1, show decide (fsz f = 9218868437227405312) = false from decide_eq_false (by omega)], gg.2 ▸ Fwd.refl _⟩
  have czf : ∀ (w : World), Calls Tryd.prog 57 #[.int .u64 f] w fun e w' => e = .returned (.bool false) ∧ Fwd w w' := fun w => (nought3_any f hf).mono fun e w' gg => ⟨by rw [gg.1, show decide (fsz f = 0) = false from decide_eq_false (by omega)], gg.2 ▸ Fwd.refl _⟩
  have cng : ∀ (w : World), Calls Tryd.prog 52 #[.int .u64 g] w fun e w' => e = .returned (.bool false) ∧ Fwd w w' := fun w => (none3_any g hg).mono fun e w' gg => ⟨by rw [gg.1, show isNan g = false from isNan_le (by omega)], gg.2 ▸ Fwd.refl _⟩
  have cig : ∀ (w : World), Calls Tryd.prog 53 #[.int .u64 g] w fun e w' => e = .returned (.bool false) ∧ Fwd w w' := fun w => (endless3_any g hg).mono fun e w' gg => ⟨by rw [gg.1, show decide (fsz g = 9218868437227405312) = false from decide_eq_false (by omega)], gg.2 ▸ Fwd.refl _⟩
  have czg : ∀ (w : World), Calls Tryd.prog 57 #[.int .u64 g] w fun e w' => e = .returned (.bool false) ∧ Fwd w w' := fun w => (nought3_any g hg).mono fun e w' gg => ⟨by rw [gg.1, show decide (fsz g = 0) = false from decide_eq_false (by omega)], gg.2 ▸ Fwd.refl _⟩
  have cnh : ∀ (w : World), Calls Tryd.prog 52 #[.int .u64 h] w fun e w' => e = .returned (.bool false) ∧ Fwd w w' := fun w => (none3_any h hh).mono fun e w' gg => ⟨by rw [gg.1, show isNan h = false from isNan_le (by omega)], gg.2 ▸ Fwd.refl _⟩
  have cih : ∀ (w : World), Calls Tryd.prog 53 #[.int .u64 h] w fun e w' => e = .returned (.bool false) ∧ Fwd w w' := fun w => (endless3_any h hh).mono fun e w' gg => ⟨by rw [gg.1, show decide (fsz h = 9218868437227405312) = false from decide_eq_false (by omega)], gg.2 ▸ Fwd.refl _⟩
  have czh : ∀ (w : World), Calls Tryd.prog 57 #[.int .u64 h] w fun e w' => e = .returned (.bool false) ∧ Fwd w w' := fun w => (nought3_any h hh).mono fun e w' gg => ⟨by rw [gg.1, show decide (fsz h = 0) = false from decide_eq_false (by omega)], gg.2 ▸ Fwd.refl _⟩
  have b1 := nr_fvQ (f := f) (by omega)
  have b2 := nr_fvQ (f := g) (by omega)
  have b4 := nr_fvQ (f := h) (by omega)
  have b3 := nr_mul (fvQ f) (fvQ g)
  have b5 := nr_add (fvQ f * fvQ g) (fvQ h)
  have cmf : ∀ (w : World), Calls Tryd.prog 56 #[.int .u64 f] w fun e w' => e = .returned (.bool sa) ∧ Fwd w w' := fun w => (minus3_any f hf).mono fun e w' gg => ⟨by rw [gg.1, hsa], gg.2 ▸ Fwd.refl _⟩
  have cmg : ∀ (w : World), Calls Tryd.prog 56 #[.int .u64 g] w fun e w' => e = .returned (.bool sb) ∧ Fwd w w' := fun w => (minus3_any g hg).mono fun e w' gg => ⟨by rw [gg.1, hsb], gg.2 ▸ Fwd.refl _⟩
  have hval : fmaF m f g h = _ := fmaF_fin m (by omega) (by omega) (by omega) Kf Kg
  rw [hval]
  obtain ⟨t, ht, hr⟩ := fma3FFFTold
  obtain ⟨dl, n', he⟩ := isAV_ok (hr sa sb)
  let ν : Nat → Rat := nuL [fvQ f, fvQ g, fvQ h, fvQ f * fvQ g] []
  let σ : SymD := symL [.u f, .u g, .u h, .i m, .u (sumN m (fvQ f * fvQ g + fvQ h)).1, .i ((sumN m (fvQ f * fvQ g + fvQ h)).2 : Int)]
  have hcx : CxOK (DomQ true ν σ (fun _ => none)) w.heap.size ⟨Tryd.prog, true, t.get, orcD (fma3FFFD sa sb), (opH (bigHook Tryd.prog true) (opH (symHook Tryd.prog fma3FFFN (fun _ _ _ => none)) (tabHook (fma3FFFL sa sb) fma3FFFM)))⟩ := cxS_ok (M := (DomQ true ν σ (fun _ => none))) ht ⟨[
      orcT 52 [
        { args := [.one (.atom (.sym 0))], ans := .v (.one (.lit (.bool false))), ok := by
            intro B ρ w S vs hS hr
            match vs, hr with
            | [u0], ⟨z0, _⟩ =>
              obtain ⟨rfl, _⟩ : u0 = _ ∧ _ := z0
              refine (cnf _).mono ?_
              rintro e w' ⟨rfl, hf⟩
              exact ⟨_, rfl, ⟨rfl, rfl⟩, hf⟩ },
        { args := [.one (.atom (.sym 1))], ans := .v (.one (.lit (.bool false))), ok := by
            intro B ρ w S vs hS hr
            match vs, hr with
            | [u0], ⟨z0, _⟩ =>
              obtain ⟨rfl, _⟩ : u0 = _ ∧ _ := z0
              refine (cng _).mono ?_
              rintro e w' ⟨rfl, hf⟩
              exact ⟨_, rfl, ⟨rfl, rfl⟩, hf⟩ },
        { args := [.one (.atom (.sym 2))], ans := .v (.one (.lit (.bool false))), ok := by
            intro B ρ w S vs hS hr
            match vs, hr with
            | [u0], ⟨z0, _⟩ =>
              obtain ⟨rfl, _⟩ : u0 = _ ∧ _ := z0
              refine (cnh _).mono ?_
              rintro e w' ⟨rfl, hf⟩
              exact ⟨_, rfl, ⟨rfl, rfl⟩, hf⟩ }],
      orcT 53 [
        { args := [.one (.atom (.sym 0))], ans := .v (.one (.lit (.bool false))), ok := by
            intro B ρ w S vs hS hr
            match vs, hr with
            | [u0], ⟨z0, _⟩ =>
              obtain ⟨rfl, _⟩ : u0 = _ ∧ _ := z0
              refine (cif _).mono ?_
              rintro e w' ⟨rfl, hf⟩
              exact ⟨_, rfl, ⟨rfl, rfl⟩, hf⟩ },
        { args := [.one (.atom (.sym 1))], ans := .v (.one (.lit (.bool false))), ok := by
            intro B ρ w S vs hS hr
            match vs, hr with
            | [u0], ⟨z0, _⟩ =>
              obtain ⟨rfl, _⟩ : u0 = _ ∧ _ := z0
              refine (cig _).mono ?_
              rintro e w' ⟨rfl, hf⟩
              exact ⟨_, rfl, ⟨rfl, rfl⟩, hf⟩ },
        { args := [.one (.atom (.sym 2))], ans := .v (.one (.lit (.bool false))), ok := by
            intro B ρ w S vs hS hr
            match vs, hr with
            | [u0], ⟨z0, _⟩ =>
              obtain ⟨rfl, _⟩ : u0 = _ ∧ _ := z0
              refine (cih _).mono ?_
              rintro e w' ⟨rfl, hf⟩
              exact ⟨_, rfl, ⟨rfl, rfl⟩, hf⟩ }],
      orcT 57 [
        { args := [.one (.atom (.sym 0))], ans := .v (.one (.lit (.bool false))), ok := by
            intro B ρ w S vs hS hr
            match vs, hr with
            | [u0], ⟨z0, _⟩ =>
              obtain ⟨rfl, _⟩ : u0 = _ ∧ _ := z0
              refine (czf _).mono ?_
              rintro e w' ⟨rfl, hf⟩
              exact ⟨_, rfl, ⟨rfl, rfl⟩, hf⟩ },
        { args := [.one (.atom (.sym 1))], ans := .v (.one (.lit (.bool false))), ok := by
            intro B ρ w S vs hS hr
            match vs, hr with
            | [u0], ⟨z0, _⟩ =>
              obtain ⟨rfl, _⟩ : u0 = _ ∧ _ := z0
              refine (czg _).mono ?_
              rintro e w' ⟨rfl, hf⟩
              exact ⟨_, rfl, ⟨rfl, rfl⟩, hf⟩ },
        { args := [.one (.atom (.sym 2))], ans := .v (.one (.lit (.bool false))), ok := by
            intro B ρ w S vs hS hr
            match vs, hr with
            | [u0], ⟨z0, _⟩ =>
              obtain ⟨rfl, _⟩ : u0 = _ ∧ _ := z0
              refine (czh _).mono ?_
              rintro e w' ⟨rfl, hf⟩
              exact ⟨_, rfl, ⟨rfl, rfl⟩, hf⟩ }],
      orcT 71 [
        { args := [.one (.atom (.sym 0))], ans := .v (avQ (.v 0)), ok := by
            intro B ρ w S vs hS hr
            match vs, hr with
            | [u0], ⟨z0, _⟩ =>
              obtain ⟨rfl, _⟩ : u0 = _ ∧ _ := z0
              refine (exact3_any f hf (by omega)).mono ?_
              rintro e w' ⟨x, rfl, g0, hf⟩
              exact ⟨_, rfl, (avQ_rel g0), hf⟩ },
        { args := [.one (.atom (.sym 1))], ans := .v (avQ (.v 1)), ok := by
            intro B ρ w S vs hS hr
            match vs, hr with
            | [u0], ⟨z0, _⟩ =>
              obtain ⟨rfl, _⟩ : u0 = _ ∧ _ := z0
              refine (exact3_any g hg (by omega)).mono ?_
              rintro e w' ⟨x, rfl, g0, hf⟩
              exact ⟨_, rfl, (avQ_rel g0), hf⟩ },
        { args := [.one (.atom (.sym 2))], ans := .v (avQ (.v 2)), ok := by
            intro B ρ w S vs hS hr
            match vs, hr with
            | [u0], ⟨z0, _⟩ =>
              obtain ⟨rfl, _⟩ : u0 = _ ∧ _ := z0
              refine (exact3_any h hh (by omega)).mono ?_
              rintro e w' ⟨x, rfl, g0, hf⟩
              exact ⟨_, rfl, (avQ_rel g0), hf⟩ }],
      orcT 14 [
        { args := [avQ (.v 0), avQ (.v 1)], ans := .v (avQ (.v 3)), ok := by
            intro B ρ w S vs hS hr
            match vs, hr with
            | [u0, u1], ⟨z0, z1, _⟩ =>
              have k0 := avQ_rv z0
              have k1 := avQ_rv z1
              refine (mul2_any (p := fvQ f) (q := fvQ g) k0 k1 (by omega) (by omega)).mono ?_
              rintro e w' ⟨x, rfl, g0, hf⟩
              exact ⟨_, rfl, (avQ_rel g0), hf⟩ }],
      orcT 70 [
        { args := [avQ (.v 3), avQ (.v 2), .one (.atom (.sym 3))], ans := .tup [.one (.atom (.sym 4)), .one (.atom (.sym 5))], ok := by
            intro B ρ w S vs hS hr
            match vs, hr with
            | [u0, u1, u2], ⟨z0, z1, z2, _⟩ =>
              have k0 := avQ_rv z0
              have k1 := avQ_rv z1
              obtain ⟨rfl, _⟩ : u2 = _ ∧ _ := z2
              refine (sum3_any (p := fvQ f * fvQ g) (q := fvQ h) m k0 k1 (by omega) (by omega) (by omega)).mono ?_
              rintro e w' ⟨rfl, hf⟩
              exact ⟨_, rfl, ⟨[_, _], rfl, ⟨rfl, fun _ => trivial⟩, ⟨rfl, fun _ => trivial⟩, trivial⟩, hf⟩ }],
      orcT 56 [
        { args := [.one (.atom (.sym 0))], ans := .v (.one (.lit (.bool sa))), ok := by
            intro B ρ w S vs hS hr
            match vs, hr with
            | [u0], ⟨z0, _⟩ =>
              obtain ⟨rfl, _⟩ : u0 = _ ∧ _ := z0
              refine (cmf _).mono ?_
              rintro e w' ⟨rfl, hf⟩
              exact ⟨_, rfl, ⟨rfl, rfl⟩, hf⟩ },
        { args := [.one (.atom (.sym 1))], ans := .v (.one (.lit (.bool sb))), ok := by
            intro B ρ w S vs hS hr
            match vs, hr with
            | [u0], ⟨z0, _⟩ =>
              obtain ⟨rfl, _⟩ : u0 = _ ∧ _ := z0
              refine (cmg _).mono ?_
              rintro e w' ⟨rfl, hf⟩
              exact ⟨_, rfl, ⟨rfl, rfl⟩, hf⟩ }]], rfl⟩
    (opH_le (bigHook_le _ _) (opH_le (symHook_le _ _ _) (tabHook_le _ _)))
    (opH_ok (bigHook_ok _) (opH_ok (symHook_ok _ (fun h => by cases h) (fun h => by cases h)) (tabHook_ok _ all_nil all_nil)))
  refine (told_call (M := (DomQ true ν σ (fun _ => none))) (cx := ⟨Tryd.prog, true, t.get, orcD (fma3FFFD sa sb), (opH (bigHook Tryd.prog true) (opH (symHook Tryd.prog fma3FFFN (fun _ _ _ => none)) (tabHook (fma3FFFL sa sb) fma3FFFM)))⟩) (xs := [.one (.atom (.sym 0)), .one (.atom (.sym 1)), .one (.atom (.sym 2)), .one (.atom (.sym 3))]) (vs := [.int .u64 f, .int .u64 g, .int .u64 h, .int .i64 m]) Tryd.checked.mixed hcx (fun hg => by cases hg) ⟨⟨rfl, fun _ => trivial⟩, ⟨rfl, fun _ => trivial⟩, ⟨rfl, fun _ => trivial⟩, ⟨rfl, fun _ => trivial⟩, trivial⟩ he).mono ?_
  rintro e w' ⟨v, ρ', rfl, hv, hbel⟩
  obtain ⟨us, rfl, hu⟩ := hv
  match us, hu with
  | [c0, c1], ⟨r0, r1, _⟩ =>
    obtain ⟨rfl, _⟩ : c0 = _ ∧ _ := r0
    obtain ⟨rfl, _⟩ : c1 = _ ∧ _ := r1
    exact ⟨rfl, hbel⟩

theorem fma3_any {w : World} (m : Int) (f g h : Nat) (hf : f < 18446744073709551616) (hg : g < 18446744073709551616) (hh : h < 18446744073709551616) :
    Calls Tryd.prog 37 #[.int .u64 f, .int .u64 g, .int .u64 h, .int .i64 m] w fun e w' => e = .returned (.tuple #[.int .u64 ((fmaF m f g h).1 : Nat), .int .i64 ((fmaF m f g h).2 : Nat)]) ∧ Fwd w w' := by
  rcases kinds f with a | a | a | ⟨a, a'⟩
  · exact fma3NQQ_tab m f g h hf hg hh a rfl rfl
  · rcases kinds g with b | b | b | ⟨b, b'⟩
    · exact fma3ANQ_tab m f g h hf hg hh (isNan_le (by omega)) b rfl rfl
    · rcases kinds h with c | c | c | ⟨c, c'⟩
      · exact fma3AAN_tab m f g h hf hg hh (isNan_le (by omega)) (isNan_le (by omega)) c rfl rfl
      · exact fma3IIA_tab m f g h hf hg hh a b (isNan_le (by omega)) rfl rfl
      · exact fma3IIA_tab m f g h hf hg hh a b (isNan_le (by omega)) rfl rfl
      · exact fma3IIA_tab m f g h hf hg hh a b (isNan_le (by omega)) rfl rfl
    · rcases kinds h with c | c | c | ⟨c, c'⟩
      · exact fma3AAN_tab m f g h hf hg hh (isNan_le (by omega)) (isNan_le (by omega)) c rfl rfl
      · exact fma3IZA_tab m f g h hf hg hh a b (isNan_le (by omega)) rfl rfl
      · exact fma3IZA_tab m f g h hf hg hh a b (isNan_le (by omega)) rfl rfl
      · exact fma3IZA_tab m f g h hf hg hh a b (isNan_le (by omega)) rfl rfl
    · rcases kinds h with c | c | c | ⟨c, c'⟩
      · exact fma3AAN_tab m f g h hf hg hh (isNan_le (by omega)) (isNan_le (by omega)) c rfl rfl
      · exact fma3IFA_tab m f g h hf hg hh a b b' (isNan_le (by omega)) rfl rfl
      · exact fma3IFA_tab m f g h hf hg hh a b b' (isNan_le (by omega)) rfl rfl
      · exact fma3IFA_tab m f g h hf hg hh a b b' (isNan_le (by omega)) rfl rfl
  · rcases kinds g with b | b | b | ⟨b, b'⟩
    · exact fma3ANQ_tab m f g h hf hg hh (isNan_le (by omega)) b rfl rfl
    · rcases kinds h with c | c | c | ⟨c, c'⟩
      · exact fma3AAN_tab m f g h hf hg hh (isNan_le (by omega)) (isNan_le (by omega)) c rfl rfl
      · exact fma3ZIA_tab m f g h hf hg hh a b (isNan_le (by omega)) rfl rfl
      · exact fma3ZIA_tab m f g h hf hg hh a b (isNan_le (by omega)) rfl rfl
      · exact fma3ZIA_tab m f g h hf hg hh a b (isNan_le (by omega)) rfl rfl
    · rcases kinds h with c | c | c | ⟨c, c'⟩
      · exact fma3AAN_tab m f g h hf hg hh (isNan_le (by omega)) (isNan_le (by omega)) c rfl rfl
      · exact fma3ZZI_tab m f g h hf hg hh a b c rfl rfl
      · exact fma3ZZZ_tab m f g h hf hg hh a b c rfl rfl
      · exact fma3ZZF_tab m f g h hf hg hh a b c c' rfl rfl
    · rcases kinds h with c | c | c | ⟨c, c'⟩
      · exact fma3AAN_tab m f g h hf hg hh (isNan_le (by omega)) (isNan_le (by omega)) c rfl rfl
      · exact fma3ZFI_tab m f g h hf hg hh a b b' c rfl rfl
      · exact fma3ZFZ_tab m f g h hf hg hh a b b' c rfl rfl
      · exact fma3ZFF_tab m f g h hf hg hh a b b' c c' rfl rfl
  · rcases kinds g with b | b | b | ⟨b, b'⟩
    · exact fma3ANQ_tab m f g h hf hg hh (isNan_le (by omega)) b rfl rfl
    · rcases kinds h with c | c | c | ⟨c, c'⟩
      · exact fma3AAN_tab m f g h hf hg hh (isNan_le (by omega)) (isNan_le (by omega)) c rfl rfl
      · exact fma3FIA_tab m f g h hf hg hh a a' b (isNan_le (by omega)) rfl rfl
      · exact fma3FIA_tab m f g h hf hg hh a a' b (isNan_le (by omega)) rfl rfl
      · exact fma3FIA_tab m f g h hf hg hh a a' b (isNan_le (by omega)) rfl rfl
    · rcases kinds h with c | c | c | ⟨c, c'⟩
      · exact fma3AAN_tab m f g h hf hg hh (isNan_le (by omega)) (isNan_le (by omega)) c rfl rfl
      · exact fma3FZI_tab m f g h hf hg hh a a' b c rfl rfl
      · exact fma3FZZ_tab m f g h hf hg hh a a' b c rfl rfl
      · exact fma3FZF_tab m f g h hf hg hh a a' b c c' rfl rfl
    · rcases kinds h with c | c | c | ⟨c, c'⟩
      · exact fma3AAN_tab m f g h hf hg hh (isNan_le (by omega)) (isNan_le (by omega)) c rfl rfl
      · exact fma3FFI_tab m f g h hf hg hh a a' b b' c rfl rfl
      · exact fma3FFZ_tab m f g h hf hg hh a a' b b' c rfl rfl
      · exact fma3FFF_tab m f g h hf hg hh a a' b b' c c' rfl rfl
end Go.Proofs.YtcfhajnboamnnaaDoor
