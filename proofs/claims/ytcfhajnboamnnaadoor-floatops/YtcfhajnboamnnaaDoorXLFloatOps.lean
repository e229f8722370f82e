/- FloatOps: of any two floats, by any mode, the sum, the difference, the product, the quotient and the root, rounded once, and their flags are the document's: the law's walk, by the reader upon letters. -/
import Derived.Test.YtcfhajnboamnnaaDoorXF37
import Derived.Test.YtcfhajnboamnnaaDoorYXF17
import Derived.Test.YtcfhajnboamnnaaDoorXF42
import Derived.Test.YtcfhajnboamnnaaDoorYXF26
import Derived.OpenShut
namespace Go.Proofs.YtcfhajnboamnnaaDoor
open Go.RowKit Go.Ev
set_option linter.unusedVariables false
set_option linter.unusedSimpArgs false

def lfpD : List (FuncId × Ans) :=
  [(8, ansT [([], .v (.one (.lit (.bool true))))]),
   (21, ansT [([.one (.atom (.sym 0)), .one (.atom (.sym 2))], .v (.one (.atom (.sym 5)))), ([.one (.atom (.sym 1)), .one (.atom (.sym 3))], .v (.one (.atom (.sym 6))))]),
   (12, ansT [([.one (.atom (.sym 4)), .one (.lit (.int .i64 (5)))], .v (.one (.atom (.sym 7))))]),
   (26, ansT [([.one (.atom (.sym 5)), .one (.atom (.sym 6)), .one (.atom (.sym 4))], .tup [.one (.atom (.sym 8)), .one (.atom (.sym 9))]), ([.one (.atom (.sym 5)), .one (.atom (.sym 6)), .one (.atom (.sym 7))], .tup [.one (.atom (.sym 18)), .one (.atom (.sym 19))])]),
   (27, ansT [([.one (.atom (.sym 5)), .one (.atom (.sym 6)), .one (.atom (.sym 4))], .tup [.one (.atom (.sym 8)), .one (.atom (.sym 9))]), ([.one (.atom (.sym 5)), .one (.atom (.sym 6)), .one (.atom (.sym 7))], .tup [.one (.atom (.sym 18)), .one (.atom (.sym 19))])]),
   (28, ansT [([.one (.atom (.sym 5)), .one (.atom (.sym 6)), .one (.atom (.sym 4))], .tup [.one (.atom (.sym 10)), .one (.atom (.sym 11))]), ([.one (.atom (.sym 5)), .one (.atom (.sym 6)), .one (.atom (.sym 7))], .tup [.one (.atom (.sym 20)), .one (.atom (.sym 21))])]),
   (29, ansT [([.one (.atom (.sym 5)), .one (.atom (.sym 6)), .one (.atom (.sym 4))], .tup [.one (.atom (.sym 10)), .one (.atom (.sym 11))]), ([.one (.atom (.sym 5)), .one (.atom (.sym 6)), .one (.atom (.sym 7))], .tup [.one (.atom (.sym 20)), .one (.atom (.sym 21))])]),
   (30, ansT [([.one (.atom (.sym 5)), .one (.atom (.sym 6)), .one (.atom (.sym 4))], .tup [.one (.atom (.sym 12)), .one (.atom (.sym 13))]), ([.one (.atom (.sym 5)), .one (.atom (.sym 6)), .one (.atom (.sym 7))], .tup [.one (.atom (.sym 22)), .one (.atom (.sym 23))])]),
   (31, ansT [([.one (.atom (.sym 5)), .one (.atom (.sym 6)), .one (.atom (.sym 4))], .tup [.one (.atom (.sym 12)), .one (.atom (.sym 13))]), ([.one (.atom (.sym 5)), .one (.atom (.sym 6)), .one (.atom (.sym 7))], .tup [.one (.atom (.sym 22)), .one (.atom (.sym 23))])]),
   (32, ansT [([.one (.atom (.sym 5)), .one (.atom (.sym 6)), .one (.atom (.sym 4))], .tup [.one (.atom (.sym 14)), .one (.atom (.sym 15))]), ([.one (.atom (.sym 5)), .one (.atom (.sym 6)), .one (.atom (.sym 7))], .tup [.one (.atom (.sym 24)), .one (.atom (.sym 25))])]),
   (33, ansT [([.one (.atom (.sym 5)), .one (.atom (.sym 6)), .one (.atom (.sym 4))], .tup [.one (.atom (.sym 14)), .one (.atom (.sym 15))]), ([.one (.atom (.sym 5)), .one (.atom (.sym 6)), .one (.atom (.sym 7))], .tup [.one (.atom (.sym 24)), .one (.atom (.sym 25))])]),
   (34, ansT [([.one (.atom (.sym 5)), .one (.atom (.sym 4))], .tup [.one (.atom (.sym 16)), .one (.atom (.sym 17))]), ([.one (.atom (.sym 5)), .one (.atom (.sym 7))], .tup [.one (.atom (.sym 26)), .one (.atom (.sym 27))])]),
   (35, ansT [([.one (.atom (.sym 5)), .one (.atom (.sym 4))], .tup [.one (.atom (.sym 16)), .one (.atom (.sym 17))]), ([.one (.atom (.sym 5)), .one (.atom (.sym 7))], .tup [.one (.atom (.sym 26)), .one (.atom (.sym 27))])])]
def lfpL : BT := [(.neq, .atom (.sym 8), .atom (.sym 8), .lit (.bool false)), (.neq, .atom (.sym 9), .atom (.sym 9), .lit (.bool false)), (.neq, .atom (.sym 10), .atom (.sym 10), .lit (.bool false)), (.neq, .atom (.sym 11), .atom (.sym 11), .lit (.bool false)), (.neq, .atom (.sym 12), .atom (.sym 12), .lit (.bool false)), (.neq, .atom (.sym 13), .atom (.sym 13), .lit (.bool false)), (.neq, .atom (.sym 14), .atom (.sym 14), .lit (.bool false)), (.neq, .atom (.sym 15), .atom (.sym 15), .lit (.bool false)), (.neq, .atom (.sym 16), .atom (.sym 16), .lit (.bool false)), (.neq, .atom (.sym 17), .atom (.sym 17), .lit (.bool false)), (.neq, .atom (.sym 18), .atom (.sym 18), .lit (.bool false)), (.neq, .atom (.sym 19), .atom (.sym 19), .lit (.bool false)), (.neq, .atom (.sym 20), .atom (.sym 20), .lit (.bool false)), (.neq, .atom (.sym 21), .atom (.sym 21), .lit (.bool false)), (.neq, .atom (.sym 22), .atom (.sym 22), .lit (.bool false)), (.neq, .atom (.sym 23), .atom (.sym 23), .lit (.bool false)), (.neq, .atom (.sym 24), .atom (.sym 24), .lit (.bool false)), (.neq, .atom (.sym 25), .atom (.sym 25), .lit (.bool false)), (.neq, .atom (.sym 26), .atom (.sym 26), .lit (.bool false)), (.neq, .atom (.sym 27), .atom (.sym 27), .lit (.bool false))]
def lfpM : BT := []
def lfpN : At → Option Nat
  | _ => none

set_option maxRecDepth 1000000 in
theorem lfpTold : ∃ t : Tr Func, TabOK Tryd.prog t ∧ (isAV (.v (.one (.lit (.bool true)))) (evalCall ⟨Tryd.prog, true, t.get, orcD (lfpD ), (opH (bigHook Tryd.prog true) (opH (symHook Tryd.prog lfpN (fun _ _ _ => none)) (tabHook (lfpL ) lfpM)))⟩ 1000 5 [.one (.atom (.sym 0)), .one (.atom (.sym 1)), .one (.atom (.sym 2)), .one (.atom (.sym 3)), .one (.atom (.sym 4))] .e 0) = true) :=
  ⟨((((((((((((((Tr.e).put 5 (some Tryd.f5)).put 8 (some Tryd.f8)).put 21 (some Tryd.f21)).put 12 (some Tryd.f12)).put 26 (some Tryd.f26)).put 27 (some Tryd.f27)).put 28 (some Tryd.f28)).put 29 (some Tryd.f29)).put 30 (some Tryd.f30)).put 31 (some Tryd.f31)).put 32 (some Tryd.f32)).put 33 (some Tryd.f33)).put 34 (some Tryd.f34)).put 35 (some Tryd.f35),
   (TabOK.put (TabOK.put (TabOK.put (TabOK.put (TabOK.put (TabOK.put (TabOK.put (TabOK.put (TabOK.put (TabOK.put (TabOK.put (TabOK.put (TabOK.put (TabOK.put (TabOK.e _) ⟨Tryd.func5, by decide +kernel, by decide +kernel⟩) ⟨Tryd.func8, by decide +kernel, by decide +kernel⟩) ⟨Tryd.func21, by decide +kernel, by decide +kernel⟩) ⟨Tryd.func12, by decide +kernel, by decide +kernel⟩) ⟨Tryd.func26, by decide +kernel, by decide +kernel⟩) ⟨Tryd.func27, by decide +kernel, by decide +kernel⟩) ⟨Tryd.func28, by decide +kernel, by decide +kernel⟩) ⟨Tryd.func29, by decide +kernel, by decide +kernel⟩) ⟨Tryd.func30, by decide +kernel, by decide +kernel⟩) ⟨Tryd.func31, by decide +kernel, by decide +kernel⟩) ⟨Tryd.func32, by decide +kernel, by decide +kernel⟩) ⟨Tryd.func33, by decide +kernel, by decide +kernel⟩) ⟨Tryd.func34, by decide +kernel, by decide +kernel⟩) ⟨Tryd.func35, by decide +kernel, by decide +kernel⟩),
   by decide +kernel⟩

set_option maxHeartbeats 4000000 in
set_option maxRecDepth 100000 in
theorem lfp_tab {w : World} (hR : Ru w) (a b : Nat) (n m mode : Int) (ha : a < 18446744073709551616) (hb : b < 18446744073709551616) (n1 : -9223372036854775808 ≤ n) (n2 : n ≤ 9223372036854775807) (m1 : -9223372036854775808 ≤ m) (m2 : m ≤ 9223372036854775807)
    (o1 : -9223372036854775808 ≤ mode) (o2 : mode ≤ 9223372036854775807) :
    Calls Tryd.prog 5 #[.int .u64 a, .int .u64 b, .int .i64 n, .int .i64 m, .int .i64 mode] w fun e w' => e = .returned (.bool true) ∧ Below w.heap.size w w' := by
  obtain ⟨x, hx, cx⟩ := make3_fix a n ha n1 n2
  obtain ⟨y, hy, cy⟩ := make3_fix b m hb m1 m2
  obtain ⟨t, ht, hr⟩ := lfpTold
  obtain ⟨dl, n', he⟩ := isAV_ok (hr)
  let ν : Nat → Rat := nuL [] []
  let σ : SymD := symL [.u a, .u b, .i n, .i m, .i mode, .u x, .u y, .i (mode % 5), .u (addF mode x y).1, .i ((addF mode x y).2 : Int), .u (addF mode x (flipF y)).1, .i ((addF mode x (flipF y)).2 : Int), .u (mulF mode x y).1, .i ((mulF mode x y).2 : Int), .u (divG mode x y).1, .i ((divG mode x y).2 : Int), .u (sqrtF mode x).1, .i ((sqrtF mode x).2 : Int), .u (addF (mode % 5) x y).1, .i ((addF (mode % 5) x y).2 : Int), .u (addF (mode % 5) x (flipF y)).1, .i ((addF (mode % 5) x (flipF y)).2 : Int), .u (mulF (mode % 5) x y).1, .i ((mulF (mode % 5) x y).2 : Int), .u (divG (mode % 5) x y).1, .i ((divG (mode % 5) x y).2 : Int), .u (sqrtF (mode % 5) x).1, .i ((sqrtF (mode % 5) x).2 : Int)]
  have hcx : CxOK (DomQ true ν σ ruG) w.heap.size ⟨Tryd.prog, true, t.get, orcD (lfpD ), (opH (bigHook Tryd.prog true) (opH (symHook Tryd.prog lfpN (fun _ _ _ => none)) (tabHook (lfpL ) lfpM)))⟩ := cxS_ok (M := (DomQ true ν σ ruG)) ht ⟨[
      orcT 8 [
        { args := [], ans := .v (.one (.lit (.bool true))), ok := by
            intro B ρ w S vs hS hr
            match vs, hr with
            | [], _ =>
              skip
              refine (known3_any (ru_of hS)).mono ?_
              rintro e w' ⟨rfl, hf⟩
              exact ⟨_, rfl, ⟨rfl, rfl⟩, hf⟩ }],
      orcT 21 [
        { args := [.one (.atom (.sym 0)), .one (.atom (.sym 2))], ans := .v (.one (.atom (.sym 5))), ok := by
            intro B ρ w S vs hS hr
            match vs, hr with
            | [u0, u1], ⟨z0, z1, _⟩ =>
              obtain ⟨rfl, _⟩ : u0 = _ ∧ _ := z0
              obtain ⟨rfl, _⟩ : u1 = _ ∧ _ := z1
              refine (cx _).mono ?_
              rintro e w' ⟨rfl, hf⟩
              exact ⟨_, rfl, ⟨rfl, fun _ => trivial⟩, hf⟩ },
        { args := [.one (.atom (.sym 1)), .one (.atom (.sym 3))], ans := .v (.one (.atom (.sym 6))), ok := by
            intro B ρ w S vs hS hr
            match vs, hr with
            | [u0, u1], ⟨z0, z1, _⟩ =>
              obtain ⟨rfl, _⟩ : u0 = _ ∧ _ := z0
              obtain ⟨rfl, _⟩ : u1 = _ ∧ _ := z1
              refine (cy _).mono ?_
              rintro e w' ⟨rfl, hf⟩
              exact ⟨_, rfl, ⟨rfl, fun _ => trivial⟩, hf⟩ }],
      orcT 12 [
        { args := [.one (.atom (.sym 4)), .one (.lit (.int .i64 (5)))], ans := .v (.one (.atom (.sym 7))), ok := by
            intro B ρ w S vs hS hr
            match vs, hr with
            | [u0, u1], ⟨z0, z1, _⟩ =>
              obtain ⟨rfl, _⟩ : u0 = _ ∧ _ := z0
              obtain ⟨rfl, _⟩ : u1 = _ ∧ _ := z1
              refine ((within3_5 w mode o1 o2).mono (R' := fun e w' => e = .returned (.int .i64 (mode % 5)) ∧ Fwd w w') (fun e w' gg => ⟨gg.1, gg.2 ▸ Fwd.refl _⟩)).mono ?_
              rintro e w' ⟨rfl, hf⟩
              exact ⟨_, rfl, ⟨rfl, fun _ => trivial⟩, hf⟩ }],
      orcT 26 [
        { args := [.one (.atom (.sym 5)), .one (.atom (.sym 6)), .one (.atom (.sym 4))], ans := .tup [.one (.atom (.sym 8)), .one (.atom (.sym 9))], ok := by
            intro B ρ w S vs hS hr
            match vs, hr with
            | [u0, u1, u2], ⟨z0, z1, z2, _⟩ =>
              obtain ⟨rfl, _⟩ : u0 = _ ∧ _ := z0
              obtain ⟨rfl, _⟩ : u1 = _ ∧ _ := z1
              obtain ⟨rfl, _⟩ : u2 = _ ∧ _ := z2
              refine (addF_any (ru_of hS) mode x y hx hy).mono ?_
              rintro e w' ⟨rfl, hf⟩
              exact ⟨_, rfl, ⟨[_, _], rfl, ⟨rfl, fun _ => trivial⟩, ⟨rfl, fun _ => trivial⟩, trivial⟩, hf⟩ },
        { args := [.one (.atom (.sym 5)), .one (.atom (.sym 6)), .one (.atom (.sym 7))], ans := .tup [.one (.atom (.sym 18)), .one (.atom (.sym 19))], ok := by
            intro B ρ w S vs hS hr
            match vs, hr with
            | [u0, u1, u2], ⟨z0, z1, z2, _⟩ =>
              obtain ⟨rfl, _⟩ : u0 = _ ∧ _ := z0
              obtain ⟨rfl, _⟩ : u1 = _ ∧ _ := z1
              obtain ⟨rfl, _⟩ : u2 = _ ∧ _ := z2
              refine (addF_any (ru_of hS) (mode % 5) x y hx hy).mono ?_
              rintro e w' ⟨rfl, hf⟩
              exact ⟨_, rfl, ⟨[_, _], rfl, ⟨rfl, fun _ => trivial⟩, ⟨rfl, fun _ => trivial⟩, trivial⟩, hf⟩ }],
      orcT 27 [
        { args := [.one (.atom (.sym 5)), .one (.atom (.sym 6)), .one (.atom (.sym 4))], ans := .tup [.one (.atom (.sym 8)), .one (.atom (.sym 9))], ok := by
            intro B ρ w S vs hS hr
            match vs, hr with
            | [u0, u1, u2], ⟨z0, z1, z2, _⟩ =>
              obtain ⟨rfl, _⟩ : u0 = _ ∧ _ := z0
              obtain ⟨rfl, _⟩ : u1 = _ ∧ _ := z1
              obtain ⟨rfl, _⟩ : u2 = _ ∧ _ := z2
              refine (add3_any mode x y hx hy).mono ?_
              rintro e w' ⟨rfl, hf⟩
              exact ⟨_, rfl, ⟨[_, _], rfl, ⟨rfl, fun _ => trivial⟩, ⟨rfl, fun _ => trivial⟩, trivial⟩, hf⟩ },
        { args := [.one (.atom (.sym 5)), .one (.atom (.sym 6)), .one (.atom (.sym 7))], ans := .tup [.one (.atom (.sym 18)), .one (.atom (.sym 19))], ok := by
            intro B ρ w S vs hS hr
            match vs, hr with
            | [u0, u1, u2], ⟨z0, z1, z2, _⟩ =>
              obtain ⟨rfl, _⟩ : u0 = _ ∧ _ := z0
              obtain ⟨rfl, _⟩ : u1 = _ ∧ _ := z1
              obtain ⟨rfl, _⟩ : u2 = _ ∧ _ := z2
              refine (add3_any (mode % 5) x y hx hy).mono ?_
              rintro e w' ⟨rfl, hf⟩
              exact ⟨_, rfl, ⟨[_, _], rfl, ⟨rfl, fun _ => trivial⟩, ⟨rfl, fun _ => trivial⟩, trivial⟩, hf⟩ }],
      orcT 28 [
        { args := [.one (.atom (.sym 5)), .one (.atom (.sym 6)), .one (.atom (.sym 4))], ans := .tup [.one (.atom (.sym 10)), .one (.atom (.sym 11))], ok := by
            intro B ρ w S vs hS hr
            match vs, hr with
            | [u0, u1, u2], ⟨z0, z1, z2, _⟩ =>
              obtain ⟨rfl, _⟩ : u0 = _ ∧ _ := z0
              obtain ⟨rfl, _⟩ : u1 = _ ∧ _ := z1
              obtain ⟨rfl, _⟩ : u2 = _ ∧ _ := z2
              refine (subF_any (ru_of hS) mode x y hx hy).mono ?_
              rintro e w' ⟨rfl, hf⟩
              exact ⟨_, rfl, ⟨[_, _], rfl, ⟨rfl, fun _ => trivial⟩, ⟨rfl, fun _ => trivial⟩, trivial⟩, hf⟩ },
        { args := [.one (.atom (.sym 5)), .one (.atom (.sym 6)), .one (.atom (.sym 7))], ans := .tup [.one (.atom (.sym 20)), .one (.atom (.sym 21))], ok := by
            intro B ρ w S vs hS hr
            match vs, hr with
            | [u0, u1, u2], ⟨z0, z1, z2, _⟩ =>
              obtain ⟨rfl, _⟩ : u0 = _ ∧ _ := z0
              obtain ⟨rfl, _⟩ : u1 = _ ∧ _ := z1
              obtain ⟨rfl, _⟩ : u2 = _ ∧ _ := z2
              refine (subF_any (ru_of hS) (mode % 5) x y hx hy).mono ?_
              rintro e w' ⟨rfl, hf⟩
              exact ⟨_, rfl, ⟨[_, _], rfl, ⟨rfl, fun _ => trivial⟩, ⟨rfl, fun _ => trivial⟩, trivial⟩, hf⟩ }],
      orcT 29 [
        { args := [.one (.atom (.sym 5)), .one (.atom (.sym 6)), .one (.atom (.sym 4))], ans := .tup [.one (.atom (.sym 10)), .one (.atom (.sym 11))], ok := by
            intro B ρ w S vs hS hr
            match vs, hr with
            | [u0, u1, u2], ⟨z0, z1, z2, _⟩ =>
              obtain ⟨rfl, _⟩ : u0 = _ ∧ _ := z0
              obtain ⟨rfl, _⟩ : u1 = _ ∧ _ := z1
              obtain ⟨rfl, _⟩ : u2 = _ ∧ _ := z2
              refine (sub3_any mode x y hx hy).mono ?_
              rintro e w' ⟨rfl, hf⟩
              exact ⟨_, rfl, ⟨[_, _], rfl, ⟨rfl, fun _ => trivial⟩, ⟨rfl, fun _ => trivial⟩, trivial⟩, hf⟩ },
        { args := [.one (.atom (.sym 5)), .one (.atom (.sym 6)), .one (.atom (.sym 7))], ans := .tup [.one (.atom (.sym 20)), .one (.atom (.sym 21))], ok := by
            intro B ρ w S vs hS hr
            match vs, hr with
            | [u0, u1, u2], ⟨z0, z1, z2, _⟩ =>
              obtain ⟨rfl, _⟩ : u0 = _ ∧ _ := z0
              obtain ⟨rfl, _⟩ : u1 = _ ∧ _ := z1
              obtain ⟨rfl, _⟩ : u2 = _ ∧ _ := z2
              refine (sub3_any (mode % 5) x y hx hy).mono ?_
              rintro e w' ⟨rfl, hf⟩
              exact ⟨_, rfl, ⟨[_, _], rfl, ⟨rfl, fun _ => trivial⟩, ⟨rfl, fun _ => trivial⟩, trivial⟩, hf⟩ }],
      orcT 30 [
        { args := [.one (.atom (.sym 5)), .one (.atom (.sym 6)), .one (.atom (.sym 4))], ans := .tup [.one (.atom (.sym 12)), .one (.atom (.sym 13))], ok := by
            intro B ρ w S vs hS hr
            match vs, hr with
            | [u0, u1, u2], ⟨z0, z1, z2, _⟩ =>
              obtain ⟨rfl, _⟩ : u0 = _ ∧ _ := z0
              obtain ⟨rfl, _⟩ : u1 = _ ∧ _ := z1
              obtain ⟨rfl, _⟩ : u2 = _ ∧ _ := z2
              refine (mulF_any (ru_of hS) mode x y hx hy).mono ?_
              rintro e w' ⟨rfl, hf⟩
              exact ⟨_, rfl, ⟨[_, _], rfl, ⟨rfl, fun _ => trivial⟩, ⟨rfl, fun _ => trivial⟩, trivial⟩, hf⟩ },
        { args := [.one (.atom (.sym 5)), .one (.atom (.sym 6)), .one (.atom (.sym 7))], ans := .tup [.one (.atom (.sym 22)), .one (.atom (.sym 23))], ok := by
            intro B ρ w S vs hS hr
            match vs, hr with
            | [u0, u1, u2], ⟨z0, z1, z2, _⟩ =>
              obtain ⟨rfl, _⟩ : u0 = _ ∧ _ := z0
              obtain ⟨rfl, _⟩ : u1 = _ ∧ _ := z1
              obtain ⟨rfl, _⟩ : u2 = _ ∧ _ := z2
              refine (mulF_any (ru_of hS) (mode % 5) x y hx hy).mono ?_
              rintro e w' ⟨rfl, hf⟩
              exact ⟨_, rfl, ⟨[_, _], rfl, ⟨rfl, fun _ => trivial⟩, ⟨rfl, fun _ => trivial⟩, trivial⟩, hf⟩ }],
      orcT 31 [
        { args := [.one (.atom (.sym 5)), .one (.atom (.sym 6)), .one (.atom (.sym 4))], ans := .tup [.one (.atom (.sym 12)), .one (.atom (.sym 13))], ok := by
            intro B ρ w S vs hS hr
            match vs, hr with
            | [u0, u1, u2], ⟨z0, z1, z2, _⟩ =>
              obtain ⟨rfl, _⟩ : u0 = _ ∧ _ := z0
              obtain ⟨rfl, _⟩ : u1 = _ ∧ _ := z1
              obtain ⟨rfl, _⟩ : u2 = _ ∧ _ := z2
              refine (mul3_any mode x y hx hy).mono ?_
              rintro e w' ⟨rfl, hf⟩
              exact ⟨_, rfl, ⟨[_, _], rfl, ⟨rfl, fun _ => trivial⟩, ⟨rfl, fun _ => trivial⟩, trivial⟩, hf⟩ },
        { args := [.one (.atom (.sym 5)), .one (.atom (.sym 6)), .one (.atom (.sym 7))], ans := .tup [.one (.atom (.sym 22)), .one (.atom (.sym 23))], ok := by
            intro B ρ w S vs hS hr
            match vs, hr with
            | [u0, u1, u2], ⟨z0, z1, z2, _⟩ =>
              obtain ⟨rfl, _⟩ : u0 = _ ∧ _ := z0
              obtain ⟨rfl, _⟩ : u1 = _ ∧ _ := z1
              obtain ⟨rfl, _⟩ : u2 = _ ∧ _ := z2
              refine (mul3_any (mode % 5) x y hx hy).mono ?_
              rintro e w' ⟨rfl, hf⟩
              exact ⟨_, rfl, ⟨[_, _], rfl, ⟨rfl, fun _ => trivial⟩, ⟨rfl, fun _ => trivial⟩, trivial⟩, hf⟩ }],
      orcT 32 [
        { args := [.one (.atom (.sym 5)), .one (.atom (.sym 6)), .one (.atom (.sym 4))], ans := .tup [.one (.atom (.sym 14)), .one (.atom (.sym 15))], ok := by
            intro B ρ w S vs hS hr
            match vs, hr with
            | [u0, u1, u2], ⟨z0, z1, z2, _⟩ =>
              obtain ⟨rfl, _⟩ : u0 = _ ∧ _ := z0
              obtain ⟨rfl, _⟩ : u1 = _ ∧ _ := z1
              obtain ⟨rfl, _⟩ : u2 = _ ∧ _ := z2
              refine (divG_any (ru_of hS) mode x y hx hy).mono ?_
              rintro e w' ⟨rfl, hf⟩
              exact ⟨_, rfl, ⟨[_, _], rfl, ⟨rfl, fun _ => trivial⟩, ⟨rfl, fun _ => trivial⟩, trivial⟩, hf⟩ },
        { args := [.one (.atom (.sym 5)), .one (.atom (.sym 6)), .one (.atom (.sym 7))], ans := .tup [.one (.atom (.sym 24)), .one (.atom (.sym 25))], ok := by
            intro B ρ w S vs hS hr
            match vs, hr with
            | [u0, u1, u2], ⟨z0, z1, z2, _⟩ =>
              obtain ⟨rfl, _⟩ : u0 = _ ∧ _ := z0
              obtain ⟨rfl, _⟩ : u1 = _ ∧ _ := z1
              obtain ⟨rfl, _⟩ : u2 = _ ∧ _ := z2
              refine (divG_any (ru_of hS) (mode % 5) x y hx hy).mono ?_
              rintro e w' ⟨rfl, hf⟩
              exact ⟨_, rfl, ⟨[_, _], rfl, ⟨rfl, fun _ => trivial⟩, ⟨rfl, fun _ => trivial⟩, trivial⟩, hf⟩ }],
      orcT 33 [
        { args := [.one (.atom (.sym 5)), .one (.atom (.sym 6)), .one (.atom (.sym 4))], ans := .tup [.one (.atom (.sym 14)), .one (.atom (.sym 15))], ok := by
            intro B ρ w S vs hS hr
            match vs, hr with
            | [u0, u1, u2], ⟨z0, z1, z2, _⟩ =>
              obtain ⟨rfl, _⟩ : u0 = _ ∧ _ := z0
              obtain ⟨rfl, _⟩ : u1 = _ ∧ _ := z1
              obtain ⟨rfl, _⟩ : u2 = _ ∧ _ := z2
              refine (div3_any mode x y hx hy).mono ?_
              rintro e w' ⟨rfl, hf⟩
              exact ⟨_, rfl, ⟨[_, _], rfl, ⟨rfl, fun _ => trivial⟩, ⟨rfl, fun _ => trivial⟩, trivial⟩, hf⟩ },
        { args := [.one (.atom (.sym 5)), .one (.atom (.sym 6)), .one (.atom (.sym 7))], ans := .tup [.one (.atom (.sym 24)), .one (.atom (.sym 25))], ok := by
            intro B ρ w S vs hS hr
            match vs, hr with
            | [u0, u1, u2], ⟨z0, z1, z2, _⟩ =>
              obtain ⟨rfl, _⟩ : u0 = _ ∧ _ := z0
              obtain ⟨rfl, _⟩ : u1 = _ ∧ _ := z1
              obtain ⟨rfl, _⟩ : u2 = _ ∧ _ := z2
              refine (div3_any (mode % 5) x y hx hy).mono ?_
              rintro e w' ⟨rfl, hf⟩
              exact ⟨_, rfl, ⟨[_, _], rfl, ⟨rfl, fun _ => trivial⟩, ⟨rfl, fun _ => trivial⟩, trivial⟩, hf⟩ }],
      orcT 34 [
        { args := [.one (.atom (.sym 5)), .one (.atom (.sym 4))], ans := .tup [.one (.atom (.sym 16)), .one (.atom (.sym 17))], ok := by
            intro B ρ w S vs hS hr
            match vs, hr with
            | [u0, u1], ⟨z0, z1, _⟩ =>
              obtain ⟨rfl, _⟩ : u0 = _ ∧ _ := z0
              obtain ⟨rfl, _⟩ : u1 = _ ∧ _ := z1
              refine (sqrtF_any (ru_of hS) mode x hx).mono ?_
              rintro e w' ⟨rfl, hf⟩
              exact ⟨_, rfl, ⟨[_, _], rfl, ⟨rfl, fun _ => trivial⟩, ⟨rfl, fun _ => trivial⟩, trivial⟩, hf⟩ },
        { args := [.one (.atom (.sym 5)), .one (.atom (.sym 7))], ans := .tup [.one (.atom (.sym 26)), .one (.atom (.sym 27))], ok := by
            intro B ρ w S vs hS hr
            match vs, hr with
            | [u0, u1], ⟨z0, z1, _⟩ =>
              obtain ⟨rfl, _⟩ : u0 = _ ∧ _ := z0
              obtain ⟨rfl, _⟩ : u1 = _ ∧ _ := z1
              refine (sqrtF_any (ru_of hS) (mode % 5) x hx).mono ?_
              rintro e w' ⟨rfl, hf⟩
              exact ⟨_, rfl, ⟨[_, _], rfl, ⟨rfl, fun _ => trivial⟩, ⟨rfl, fun _ => trivial⟩, trivial⟩, hf⟩ }],
      orcT 35 [
        { args := [.one (.atom (.sym 5)), .one (.atom (.sym 4))], ans := .tup [.one (.atom (.sym 16)), .one (.atom (.sym 17))], ok := by
            intro B ρ w S vs hS hr
            match vs, hr with
            | [u0, u1], ⟨z0, z1, _⟩ =>
              obtain ⟨rfl, _⟩ : u0 = _ ∧ _ := z0
              obtain ⟨rfl, _⟩ : u1 = _ ∧ _ := z1
              refine (sqrt3_any mode x hx).mono ?_
              rintro e w' ⟨rfl, hf⟩
              exact ⟨_, rfl, ⟨[_, _], rfl, ⟨rfl, fun _ => trivial⟩, ⟨rfl, fun _ => trivial⟩, trivial⟩, hf⟩ },
        { args := [.one (.atom (.sym 5)), .one (.atom (.sym 7))], ans := .tup [.one (.atom (.sym 26)), .one (.atom (.sym 27))], ok := by
            intro B ρ w S vs hS hr
            match vs, hr with
            | [u0, u1], ⟨z0, z1, _⟩ =>
              obtain ⟨rfl, _⟩ : u0 = _ ∧ _ := z0
              obtain ⟨rfl, _⟩ : u1 = _ ∧ _ := z1
              refine (sqrt3_any (mode % 5) x hx).mono ?_
              rintro e w' ⟨rfl, hf⟩
              exact ⟨_, rfl, ⟨[_, _], rfl, ⟨rfl, fun _ => trivial⟩, ⟨rfl, fun _ => trivial⟩, trivial⟩, hf⟩ }]], rfl⟩
    (opH_le (bigHook_le _ _) (opH_le (symHook_le _ _ _) (tabHook_le _ _)))
    (opH_ok (bigHook_ok _) (opH_ok (symHook_ok _ (fun h => by cases h) (fun h => by cases h)) (tabHook_ok _ (all_cons (BOk.mk rfl rfl rfl (fun _ _ _ => trivial) rfl rfl (bo_neq (by simp))) (all_cons (BOk.mk rfl rfl rfl (fun _ _ _ => trivial) rfl rfl (bo_neq (by simp))) (all_cons (BOk.mk rfl rfl rfl (fun _ _ _ => trivial) rfl rfl (bo_neq (by simp))) (all_cons (BOk.mk rfl rfl rfl (fun _ _ _ => trivial) rfl rfl (bo_neq (by simp))) (all_cons (BOk.mk rfl rfl rfl (fun _ _ _ => trivial) rfl rfl (bo_neq (by simp))) (all_cons (BOk.mk rfl rfl rfl (fun _ _ _ => trivial) rfl rfl (bo_neq (by simp))) (all_cons (BOk.mk rfl rfl rfl (fun _ _ _ => trivial) rfl rfl (bo_neq (by simp))) (all_cons (BOk.mk rfl rfl rfl (fun _ _ _ => trivial) rfl rfl (bo_neq (by simp))) (all_cons (BOk.mk rfl rfl rfl (fun _ _ _ => trivial) rfl rfl (bo_neq (by simp))) (all_cons (BOk.mk rfl rfl rfl (fun _ _ _ => trivial) rfl rfl (bo_neq (by simp))) (all_cons (BOk.mk rfl rfl rfl (fun _ _ _ => trivial) rfl rfl (bo_neq (by simp))) (all_cons (BOk.mk rfl rfl rfl (fun _ _ _ => trivial) rfl rfl (bo_neq (by simp))) (all_cons (BOk.mk rfl rfl rfl (fun _ _ _ => trivial) rfl rfl (bo_neq (by simp))) (all_cons (BOk.mk rfl rfl rfl (fun _ _ _ => trivial) rfl rfl (bo_neq (by simp))) (all_cons (BOk.mk rfl rfl rfl (fun _ _ _ => trivial) rfl rfl (bo_neq (by simp))) (all_cons (BOk.mk rfl rfl rfl (fun _ _ _ => trivial) rfl rfl (bo_neq (by simp))) (all_cons (BOk.mk rfl rfl rfl (fun _ _ _ => trivial) rfl rfl (bo_neq (by simp))) (all_cons (BOk.mk rfl rfl rfl (fun _ _ _ => trivial) rfl rfl (bo_neq (by simp))) (all_cons (BOk.mk rfl rfl rfl (fun _ _ _ => trivial) rfl rfl (bo_neq (by simp))) (all_cons (BOk.mk rfl rfl rfl (fun _ _ _ => trivial) rfl rfl (bo_neq (by simp))) all_nil)))))))))))))))))))) all_nil)))
  refine (told_call (M := (DomQ true ν σ ruG)) (cx := ⟨Tryd.prog, true, t.get, orcD (lfpD ), (opH (bigHook Tryd.prog true) (opH (symHook Tryd.prog lfpN (fun _ _ _ => none)) (tabHook (lfpL ) lfpM)))⟩) (xs := [.one (.atom (.sym 0)), .one (.atom (.sym 1)), .one (.atom (.sym 2)), .one (.atom (.sym 3)), .one (.atom (.sym 4))]) (vs := [.int .u64 a, .int .u64 b, .int .i64 n, .int .i64 m, .int .i64 mode]) Tryd.checked.mixed hcx (fun hg => ruG_ok hR hg) ⟨⟨rfl, fun _ => trivial⟩, ⟨rfl, fun _ => trivial⟩, ⟨rfl, fun _ => trivial⟩, ⟨rfl, fun _ => trivial⟩, ⟨rfl, fun _ => trivial⟩, trivial⟩ he).mono ?_
  rintro e w' ⟨v, ρ', rfl, hv, hbel⟩
  obtain ⟨rfl, _⟩ : v = _ ∧ _ := hv
  exact ⟨rfl, hbel⟩

theorem floatOps_walk {w : World} {a b n m mode : Int} (hR : Ru w) (ha : (Lit.int .u64 a).wf = true) (hb : (Lit.int .u64 b).wf = true) (hn : (Lit.int .i64 n).wf = true) (hm : (Lit.int .i64 m).wf = true) (ho : (Lit.int .i64 mode).wf = true) :
    Calls Tryd.prog 5 #[.int .u64 a, .int .u64 b, .int .i64 n, .int .i64 m, .int .i64 mode] w fun e w' => e = .returned (.bool true) ∧ Below w.heap.size w w' := by
  obtain ⟨a1, a2⟩ := bounds_u64 ha
  obtain ⟨b1, b2⟩ := bounds_u64 hb
  obtain ⟨n1, n2⟩ := bounds_i64 hn
  obtain ⟨m1, m2⟩ := bounds_i64 hm
  obtain ⟨o1, o2⟩ := bounds_i64 ho
  obtain ⟨a, rfl⟩ : ∃ a' : Nat, a = (a' : Int) := ⟨a.toNat, by omega⟩
  obtain ⟨b, rfl⟩ : ∃ b' : Nat, b = (b' : Int) := ⟨b.toNat, by omega⟩
  exact lfp_tab hR a b n m mode (by omega) (by omega) n1 n2 m1 m2 o1 o2
end Go.Proofs.YtcfhajnboamnnaaDoor
