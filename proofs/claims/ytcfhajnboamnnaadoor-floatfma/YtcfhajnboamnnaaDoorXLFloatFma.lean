/- FloatFma: of any three floats, by any mode, the product and sum, rounded once, and its flags are the document's: the law's walk, by the reader upon letters. -/
import Derived.Test.YtcfhajnboamnnaaDoorXF37
import Derived.Test.YtcfhajnboamnnaaDoorYXF17
import Derived.Test.YtcfhajnboamnnaaDoorYXF26
import Derived.OpenShut
namespace Go.Proofs.YtcfhajnboamnnaaDoor
open Go.RowKit Go.Ev
set_option linter.unusedVariables false
set_option linter.unusedSimpArgs false

def lffD : List (FuncId × Ans) :=
  [(8, ansT [([], .v (.one (.lit (.bool true))))]),
   (21, ansT [([.one (.atom (.sym 0)), .one (.atom (.sym 3))], .v (.one (.atom (.sym 7)))), ([.one (.atom (.sym 1)), .one (.atom (.sym 4))], .v (.one (.atom (.sym 8)))), ([.one (.atom (.sym 2)), .one (.atom (.sym 5))], .v (.one (.atom (.sym 9))))]),
   (12, ansT [([.one (.atom (.sym 6)), .one (.lit (.int .i64 (5)))], .v (.one (.atom (.sym 14))))]),
   (31, ansT [([.one (.atom (.sym 7)), .one (.atom (.sym 8)), .one (.lit (.int .i64 (0)))], .tup [.one (.atom (.sym 10)), .one (.atom (.sym 11))])]),
   (36, ansT [([.one (.atom (.sym 7)), .one (.atom (.sym 8)), .one (.atom (.sym 9)), .one (.atom (.sym 14))], .tup [.one (.atom (.sym 15)), .one (.atom (.sym 16))]), ([.one (.atom (.sym 7)), .one (.atom (.sym 8)), .one (.atom (.sym 10)), .one (.atom (.sym 14))], .tup [.one (.atom (.sym 17)), .one (.atom (.sym 18))]), ([.one (.atom (.sym 7)), .one (.atom (.sym 8)), .one (.atom (.sym 12)), .one (.atom (.sym 14))], .tup [.one (.atom (.sym 19)), .one (.atom (.sym 20))]), ([.one (.atom (.sym 7)), .one (.atom (.sym 8)), .one (.atom (.sym 13)), .one (.atom (.sym 14))], .tup [.one (.atom (.sym 21)), .one (.atom (.sym 22))])]),
   (37, ansT [([.one (.atom (.sym 7)), .one (.atom (.sym 8)), .one (.atom (.sym 9)), .one (.atom (.sym 14))], .tup [.one (.atom (.sym 15)), .one (.atom (.sym 16))]), ([.one (.atom (.sym 7)), .one (.atom (.sym 8)), .one (.atom (.sym 10)), .one (.atom (.sym 14))], .tup [.one (.atom (.sym 17)), .one (.atom (.sym 18))]), ([.one (.atom (.sym 7)), .one (.atom (.sym 8)), .one (.atom (.sym 12)), .one (.atom (.sym 14))], .tup [.one (.atom (.sym 19)), .one (.atom (.sym 20))]), ([.one (.atom (.sym 7)), .one (.atom (.sym 8)), .one (.atom (.sym 13)), .one (.atom (.sym 14))], .tup [.one (.atom (.sym 21)), .one (.atom (.sym 22))])])]
def lffL : BT := [(.neq, .atom (.sym 15), .atom (.sym 15), .lit (.bool false)), (.neq, .atom (.sym 16), .atom (.sym 16), .lit (.bool false)), (.neq, .atom (.sym 17), .atom (.sym 17), .lit (.bool false)), (.neq, .atom (.sym 18), .atom (.sym 18), .lit (.bool false)), (.neq, .atom (.sym 19), .atom (.sym 19), .lit (.bool false)), (.neq, .atom (.sym 20), .atom (.sym 20), .lit (.bool false)), (.neq, .atom (.sym 21), .atom (.sym 21), .lit (.bool false)), (.neq, .atom (.sym 22), .atom (.sym 22), .lit (.bool false)), (.xor, .atom (.sym 10), .lit (.int .u64 9223372036854775808), .atom (.sym 12)), (.add, .atom (.sym 12), .lit (.int .u64 1), .atom (.sym 13))]
def lffM : BT := []
def lffN : At → Option Nat
  | _ => none

set_option maxRecDepth 1000000 in
theorem lffTold : ∃ t : Tr Func, TabOK Tryd.prog t ∧ (isAV (.v (.one (.lit (.bool true)))) (evalCall ⟨Tryd.prog, true, t.get, orcD (lffD ), (opH (bigHook Tryd.prog true) (opH (symHook Tryd.prog lffN (fun _ _ _ => none)) (tabHook (lffL ) lffM)))⟩ 1000 6 [.one (.atom (.sym 0)), .one (.atom (.sym 1)), .one (.atom (.sym 2)), .one (.atom (.sym 3)), .one (.atom (.sym 4)), .one (.atom (.sym 5)), .one (.atom (.sym 6))] .e 0) = true) :=
  ⟨(((((((Tr.e).put 6 (some Tryd.f6)).put 8 (some Tryd.f8)).put 21 (some Tryd.f21)).put 12 (some Tryd.f12)).put 31 (some Tryd.f31)).put 36 (some Tryd.f36)).put 37 (some Tryd.f37),
   (TabOK.put (TabOK.put (TabOK.put (TabOK.put (TabOK.put (TabOK.put (TabOK.put (TabOK.e _) ⟨Tryd.func6, by decide +kernel, by decide +kernel⟩) ⟨Tryd.func8, by decide +kernel, by decide +kernel⟩) ⟨Tryd.func21, by decide +kernel, by decide +kernel⟩) ⟨Tryd.func12, by decide +kernel, by decide +kernel⟩) ⟨Tryd.func31, by decide +kernel, by decide +kernel⟩) ⟨Tryd.func36, by decide +kernel, by decide +kernel⟩) ⟨Tryd.func37, by decide +kernel, by decide +kernel⟩),
   by decide +kernel⟩

set_option maxHeartbeats 4000000 in
set_option maxRecDepth 100000 in
theorem lff_tab {w : World} (hR : Ru w) (a b c : Nat) (n m k mode : Int) (ha : a < 18446744073709551616) (hb : b < 18446744073709551616) (hc : c < 18446744073709551616) (n1 : -9223372036854775808 ≤ n) (n2 : n ≤ 9223372036854775807) (m1 : -9223372036854775808 ≤ m) (m2 : m ≤ 9223372036854775807)
    (k1 : -9223372036854775808 ≤ k) (k2 : k ≤ 9223372036854775807) (o1 : -9223372036854775808 ≤ mode) (o2 : mode ≤ 9223372036854775807) :
    Calls Tryd.prog 6 #[.int .u64 a, .int .u64 b, .int .u64 c, .int .i64 n, .int .i64 m, .int .i64 k, .int .i64 mode] w fun e w' => e = .returned (.bool true) ∧ Below w.heap.size w w' := by
  obtain ⟨x, hx, cx⟩ := make3_fix a n ha n1 n2
  obtain ⟨y, hy, cy⟩ := make3_fix b m hb m1 m2
  obtain ⟨z, hz, cz⟩ := make3_fix c k hc k1 k2
  have hp := mulF_lt 0 x y
  have hq := flipF_lt hp
  have hr4 : ad (flipF (mulF 0 x y).1) 1 < 18446744073709551616 := Nat.mod_lt _ (by decide)
  obtain ⟨t, ht, hr⟩ := lffTold
  obtain ⟨dl, n', he⟩ := isAV_ok (hr)
  let ν : Nat → Rat := nuL [] []
  let σ : SymD := symL [.u a, .u b, .u c, .i n, .i m, .i k, .i mode, .u x, .u y, .u z, .u (mulF 0 x y).1, .i ((mulF 0 x y).2 : Int), .u (flipF (mulF 0 x y).1), .u (ad (flipF (mulF 0 x y).1) 1), .i (mode % 5), .u (fmaF (mode % 5) x y z).1, .i ((fmaF (mode % 5) x y z).2 : Int), .u (fmaF (mode % 5) x y (mulF 0 x y).1).1, .i ((fmaF (mode % 5) x y (mulF 0 x y).1).2 : Int), .u (fmaF (mode % 5) x y (flipF (mulF 0 x y).1)).1, .i ((fmaF (mode % 5) x y (flipF (mulF 0 x y).1)).2 : Int), .u (fmaF (mode % 5) x y (ad (flipF (mulF 0 x y).1) 1)).1, .i ((fmaF (mode % 5) x y (ad (flipF (mulF 0 x y).1) 1)).2 : Int)]
  have hcx : CxOK (DomQ true ν σ ruG) w.heap.size ⟨Tryd.prog, true, t.get, orcD (lffD ), (opH (bigHook Tryd.prog true) (opH (symHook Tryd.prog lffN (fun _ _ _ => none)) (tabHook (lffL ) lffM)))⟩ := cxS_ok (M := (DomQ true ν σ ruG)) ht ⟨[
      orcT 8 [
        { args := [], ans := .v (.one (.lit (.bool true))), ok := by
            intro B ρ w S vs hS hr
            match vs, hr with
            | [], _ =>
              skip
              refine (known3_any (ru_of hS)).mono ?_
              rintro e w' ⟨rfl, hf⟩
              exact ⟨_, rfl, ⟨rfl, rfl⟩, hf⟩ }],
      orcT 21 [
        { args := [.one (.atom (.sym 0)), .one (.atom (.sym 3))], ans := .v (.one (.atom (.sym 7))), ok := by
            intro B ρ w S vs hS hr
            match vs, hr with
            | [u0, u1], ⟨z0, z1, _⟩ =>
              obtain ⟨rfl, _⟩ : u0 = _ ∧ _ := z0
              obtain ⟨rfl, _⟩ : u1 = _ ∧ _ := z1
              refine (cx _).mono ?_
              rintro e w' ⟨rfl, hf⟩
              exact ⟨_, rfl, ⟨rfl, fun _ => trivial⟩, hf⟩ },
        { args := [.one (.atom (.sym 1)), .one (.atom (.sym 4))], ans := .v (.one (.atom (.sym 8))), ok := by
            intro B ρ w S vs hS hr
            match vs, hr with
            | [u0, u1], ⟨z0, z1, _⟩ =>
              obtain ⟨rfl, _⟩ : u0 = _ ∧ _ := z0
              obtain ⟨rfl, _⟩ : u1 = _ ∧ _ := z1
              refine (cy _).mono ?_
              rintro e w' ⟨rfl, hf⟩
              exact ⟨_, rfl, ⟨rfl, fun _ => trivial⟩, hf⟩ },
        { args := [.one (.atom (.sym 2)), .one (.atom (.sym 5))], ans := .v (.one (.atom (.sym 9))), ok := by
            intro B ρ w S vs hS hr
            match vs, hr with
            | [u0, u1], ⟨z0, z1, _⟩ =>
              obtain ⟨rfl, _⟩ : u0 = _ ∧ _ := z0
              obtain ⟨rfl, _⟩ : u1 = _ ∧ _ := z1
              refine (cz _).mono ?_
              rintro e w' ⟨rfl, hf⟩
              exact ⟨_, rfl, ⟨rfl, fun _ => trivial⟩, hf⟩ }],
      orcT 12 [
        { args := [.one (.atom (.sym 6)), .one (.lit (.int .i64 (5)))], ans := .v (.one (.atom (.sym 14))), ok := by
            intro B ρ w S vs hS hr
            match vs, hr with
            | [u0, u1], ⟨z0, z1, _⟩ =>
              obtain ⟨rfl, _⟩ : u0 = _ ∧ _ := z0
              obtain ⟨rfl, _⟩ : u1 = _ ∧ _ := z1
              refine ((within3_5 w mode o1 o2).mono (R' := fun e w' => e = .returned (.int .i64 (mode % 5)) ∧ Fwd w w') (fun e w' gg => ⟨gg.1, gg.2 ▸ Fwd.refl _⟩)).mono ?_
              rintro e w' ⟨rfl, hf⟩
              exact ⟨_, rfl, ⟨rfl, fun _ => trivial⟩, hf⟩ }],
      orcT 31 [
        { args := [.one (.atom (.sym 7)), .one (.atom (.sym 8)), .one (.lit (.int .i64 (0)))], ans := .tup [.one (.atom (.sym 10)), .one (.atom (.sym 11))], ok := by
            intro B ρ w S vs hS hr
            match vs, hr with
            | [u0, u1, u2], ⟨z0, z1, z2, _⟩ =>
              obtain ⟨rfl, _⟩ : u0 = _ ∧ _ := z0
              obtain ⟨rfl, _⟩ : u1 = _ ∧ _ := z1
              obtain ⟨rfl, _⟩ : u2 = _ ∧ _ := z2
              refine (mul3_any 0 x y hx hy).mono ?_
              rintro e w' ⟨rfl, hf⟩
              exact ⟨_, rfl, ⟨[_, _], rfl, ⟨rfl, fun _ => trivial⟩, ⟨rfl, fun _ => trivial⟩, trivial⟩, hf⟩ }],
      orcT 36 [
        { args := [.one (.atom (.sym 7)), .one (.atom (.sym 8)), .one (.atom (.sym 9)), .one (.atom (.sym 14))], ans := .tup [.one (.atom (.sym 15)), .one (.atom (.sym 16))], ok := by
            intro B ρ w S vs hS hr
            match vs, hr with
            | [u0, u1, u2, u3], ⟨z0, z1, z2, z3, _⟩ =>
              obtain ⟨rfl, _⟩ : u0 = _ ∧ _ := z0
              obtain ⟨rfl, _⟩ : u1 = _ ∧ _ := z1
              obtain ⟨rfl, _⟩ : u2 = _ ∧ _ := z2
              obtain ⟨rfl, _⟩ : u3 = _ ∧ _ := z3
              refine (fmaF_any (ru_of hS) (mode % 5) x y z hx hy hz).mono ?_
              rintro e w' ⟨rfl, hf⟩
              exact ⟨_, rfl, ⟨[_, _], rfl, ⟨rfl, fun _ => trivial⟩, ⟨rfl, fun _ => trivial⟩, trivial⟩, hf⟩ },
        { args := [.one (.atom (.sym 7)), .one (.atom (.sym 8)), .one (.atom (.sym 10)), .one (.atom (.sym 14))], ans := .tup [.one (.atom (.sym 17)), .one (.atom (.sym 18))], ok := by
            intro B ρ w S vs hS hr
            match vs, hr with
            | [u0, u1, u2, u3], ⟨z0, z1, z2, z3, _⟩ =>
              obtain ⟨rfl, _⟩ : u0 = _ ∧ _ := z0
              obtain ⟨rfl, _⟩ : u1 = _ ∧ _ := z1
              obtain ⟨rfl, _⟩ : u2 = _ ∧ _ := z2
              obtain ⟨rfl, _⟩ : u3 = _ ∧ _ := z3
              refine (fmaF_any (ru_of hS) (mode % 5) x y (mulF 0 x y).1 hx hy hp).mono ?_
              rintro e w' ⟨rfl, hf⟩
              exact ⟨_, rfl, ⟨[_, _], rfl, ⟨rfl, fun _ => trivial⟩, ⟨rfl, fun _ => trivial⟩, trivial⟩, hf⟩ },
        { args := [.one (.atom (.sym 7)), .one (.atom (.sym 8)), .one (.atom (.sym 12)), .one (.atom (.sym 14))], ans := .tup [.one (.atom (.sym 19)), .one (.atom (.sym 20))], ok := by
            intro B ρ w S vs hS hr
            match vs, hr with
            | [u0, u1, u2, u3], ⟨z0, z1, z2, z3, _⟩ =>
              obtain ⟨rfl, _⟩ : u0 = _ ∧ _ := z0
              obtain ⟨rfl, _⟩ : u1 = _ ∧ _ := z1
              obtain ⟨rfl, _⟩ : u2 = _ ∧ _ := z2
              obtain ⟨rfl, _⟩ : u3 = _ ∧ _ := z3
              refine (fmaF_any (ru_of hS) (mode % 5) x y (flipF (mulF 0 x y).1) hx hy hq).mono ?_
              rintro e w' ⟨rfl, hf⟩
              exact ⟨_, rfl, ⟨[_, _], rfl, ⟨rfl, fun _ => trivial⟩, ⟨rfl, fun _ => trivial⟩, trivial⟩, hf⟩ },
        { args := [.one (.atom (.sym 7)), .one (.atom (.sym 8)), .one (.atom (.sym 13)), .one (.atom (.sym 14))], ans := .tup [.one (.atom (.sym 21)), .one (.atom (.sym 22))], ok := by
            intro B ρ w S vs hS hr
            match vs, hr with
            | [u0, u1, u2, u3], ⟨z0, z1, z2, z3, _⟩ =>
              obtain ⟨rfl, _⟩ : u0 = _ ∧ _ := z0
              obtain ⟨rfl, _⟩ : u1 = _ ∧ _ := z1
              obtain ⟨rfl, _⟩ : u2 = _ ∧ _ := z2
              obtain ⟨rfl, _⟩ : u3 = _ ∧ _ := z3
              refine (fmaF_any (ru_of hS) (mode % 5) x y (ad (flipF (mulF 0 x y).1) 1) hx hy hr4).mono ?_
              rintro e w' ⟨rfl, hf⟩
              exact ⟨_, rfl, ⟨[_, _], rfl, ⟨rfl, fun _ => trivial⟩, ⟨rfl, fun _ => trivial⟩, trivial⟩, hf⟩ }],
      orcT 37 [
        { args := [.one (.atom (.sym 7)), .one (.atom (.sym 8)), .one (.atom (.sym 9)), .one (.atom (.sym 14))], ans := .tup [.one (.atom (.sym 15)), .one (.atom (.sym 16))], ok := by
            intro B ρ w S vs hS hr
            match vs, hr with
            | [u0, u1, u2, u3], ⟨z0, z1, z2, z3, _⟩ =>
              obtain ⟨rfl, _⟩ : u0 = _ ∧ _ := z0
              obtain ⟨rfl, _⟩ : u1 = _ ∧ _ := z1
              obtain ⟨rfl, _⟩ : u2 = _ ∧ _ := z2
              obtain ⟨rfl, _⟩ : u3 = _ ∧ _ := z3
              refine (fma3_any (mode % 5) x y z hx hy hz).mono ?_
              rintro e w' ⟨rfl, hf⟩
              exact ⟨_, rfl, ⟨[_, _], rfl, ⟨rfl, fun _ => trivial⟩, ⟨rfl, fun _ => trivial⟩, trivial⟩, hf⟩ },
        { args := [.one (.atom (.sym 7)), .one (.atom (.sym 8)), .one (.atom (.sym 10)), .one (.atom (.sym 14))], ans := .tup [.one (.atom (.sym 17)), .one (.atom (.sym 18))], ok := by
            intro B ρ w S vs hS hr
            match vs, hr with
            | [u0, u1, u2, u3], ⟨z0, z1, z2, z3, _⟩ =>
              obtain ⟨rfl, _⟩ : u0 = _ ∧ _ := z0
              obtain ⟨rfl, _⟩ : u1 = _ ∧ _ := z1
              obtain ⟨rfl, _⟩ : u2 = _ ∧ _ := z2
              obtain ⟨rfl, _⟩ : u3 = _ ∧ _ := z3
              refine (fma3_any (mode % 5) x y (mulF 0 x y).1 hx hy hp).mono ?_
              rintro e w' ⟨rfl, hf⟩
              exact ⟨_, rfl, ⟨[_, _], rfl, ⟨rfl, fun _ => trivial⟩, ⟨rfl, fun _ => trivial⟩, trivial⟩, hf⟩ },
        { args := [.one (.atom (.sym 7)), .one (.atom (.sym 8)), .one (.atom (.sym 12)), .one (.atom (.sym 14))], ans := .tup [.one (.atom (.sym 19)), .one (.atom (.sym 20))], ok := by
            intro B ρ w S vs hS hr
            match vs, hr with
            | [u0, u1, u2, u3], ⟨z0, z1, z2, z3, _⟩ =>
              obtain ⟨rfl, _⟩ : u0 = _ ∧ _ := z0
              obtain ⟨rfl, _⟩ : u1 = _ ∧ _ := z1
              obtain ⟨rfl, _⟩ : u2 = _ ∧ _ := z2
              obtain ⟨rfl, _⟩ : u3 = _ ∧ _ := z3
              refine (fma3_any (mode % 5) x y (flipF (mulF 0 x y).1) hx hy hq).mono ?_
              rintro e w' ⟨rfl, hf⟩
              exact ⟨_, rfl, ⟨[_, _], rfl, ⟨rfl, fun _ => trivial⟩, ⟨rfl, fun _ => trivial⟩, trivial⟩, hf⟩ },
        { args := [.one (.atom (.sym 7)), .one (.atom (.sym 8)), .one (.atom (.sym 13)), .one (.atom (.sym 14))], ans := .tup [.one (.atom (.sym 21)), .one (.atom (.sym 22))], ok := by
            intro B ρ w S vs hS hr
            match vs, hr with
            | [u0, u1, u2, u3], ⟨z0, z1, z2, z3, _⟩ =>
              obtain ⟨rfl, _⟩ : u0 = _ ∧ _ := z0
              obtain ⟨rfl, _⟩ : u1 = _ ∧ _ := z1
              obtain ⟨rfl, _⟩ : u2 = _ ∧ _ := z2
              obtain ⟨rfl, _⟩ : u3 = _ ∧ _ := z3
              refine (fma3_any (mode % 5) x y (ad (flipF (mulF 0 x y).1) 1) hx hy hr4).mono ?_
              rintro e w' ⟨rfl, hf⟩
              exact ⟨_, rfl, ⟨[_, _], rfl, ⟨rfl, fun _ => trivial⟩, ⟨rfl, fun _ => trivial⟩, trivial⟩, hf⟩ }]], rfl⟩
    (opH_le (bigHook_le _ _) (opH_le (symHook_le _ _ _) (tabHook_le _ _)))
    (opH_ok (bigHook_ok _) (opH_ok (symHook_ok _ (fun h => by cases h) (fun h => by cases h)) (tabHook_ok _ (all_cons (BOk.mk rfl rfl rfl (fun _ _ _ => trivial) rfl rfl (bo_neq (by simp))) (all_cons (BOk.mk rfl rfl rfl (fun _ _ _ => trivial) rfl rfl (bo_neq (by simp))) (all_cons (BOk.mk rfl rfl rfl (fun _ _ _ => trivial) rfl rfl (bo_neq (by simp))) (all_cons (BOk.mk rfl rfl rfl (fun _ _ _ => trivial) rfl rfl (bo_neq (by simp))) (all_cons (BOk.mk rfl rfl rfl (fun _ _ _ => trivial) rfl rfl (bo_neq (by simp))) (all_cons (BOk.mk rfl rfl rfl (fun _ _ _ => trivial) rfl rfl (bo_neq (by simp))) (all_cons (BOk.mk rfl rfl rfl (fun _ _ _ => trivial) rfl rfl (bo_neq (by simp))) (all_cons (BOk.mk rfl rfl rfl (fun _ _ _ => trivial) rfl rfl (bo_neq (by simp))) (all_cons (BOk.mk rfl rfl rfl (fun _ _ _ => trivial) rfl rfl (bo_xor (xor_sign _ hp))) (all_cons (BOk.mk rfl rfl rfl (fun _ _ _ => trivial) rfl rfl (bo_ad _ 1)) all_nil)))))))))) all_nil)))
  refine (told_call (M := (DomQ true ν σ ruG)) (cx := ⟨Tryd.prog, true, t.get, orcD (lffD ), (opH (bigHook Tryd.prog true) (opH (symHook Tryd.prog lffN (fun _ _ _ => none)) (tabHook (lffL ) lffM)))⟩) (xs := [.one (.atom (.sym 0)), .one (.atom (.sym 1)), .one (.atom (.sym 2)), .one (.atom (.sym 3)), .one (.atom (.sym 4)), .one (.atom (.sym 5)), .one (.atom (.sym 6))]) (vs := [.int .u64 a, .int .u64 b, .int .u64 c, .int .i64 n, .int .i64 m, .int .i64 k, .int .i64 mode]) Tryd.checked.mixed hcx (fun hg => ruG_ok hR hg) ⟨⟨rfl, fun _ => trivial⟩, ⟨rfl, fun _ => trivial⟩, ⟨rfl, fun _ => trivial⟩, ⟨rfl, fun _ => trivial⟩, ⟨rfl, fun _ => trivial⟩, ⟨rfl, fun _ => trivial⟩, ⟨rfl, fun _ => trivial⟩, trivial⟩ he).mono ?_
  rintro e w' ⟨v, ρ', rfl, hv, hbel⟩
  obtain ⟨rfl, _⟩ : v = _ ∧ _ := hv
  exact ⟨rfl, hbel⟩

theorem floatFma_walk {w : World} {a b c n m k mode : Int} (hR : Ru w) (ha : (Lit.int .u64 a).wf = true) (hb : (Lit.int .u64 b).wf = true) (hc : (Lit.int .u64 c).wf = true) (hn : (Lit.int .i64 n).wf = true) (hm : (Lit.int .i64 m).wf = true) (hk : (Lit.int .i64 k).wf = true) (ho : (Lit.int .i64 mode).wf = true) :
    Calls Tryd.prog 6 #[.int .u64 a, .int .u64 b, .int .u64 c, .int .i64 n, .int .i64 m, .int .i64 k, .int .i64 mode] w fun e w' => e = .returned (.bool true) ∧ Below w.heap.size w w' := by
  obtain ⟨a1, a2⟩ := bounds_u64 ha
  obtain ⟨b1, b2⟩ := bounds_u64 hb
  obtain ⟨c1, c2⟩ := bounds_u64 hc
  obtain ⟨n1, n2⟩ := bounds_i64 hn
  obtain ⟨m1, m2⟩ := bounds_i64 hm
  obtain ⟨k1, k2⟩ := bounds_i64 hk
  obtain ⟨o1, o2⟩ := bounds_i64 ho
  obtain ⟨a, rfl⟩ : ∃ a' : Nat, a = (a' : Int) := ⟨a.toNat, by omega⟩
  obtain ⟨b, rfl⟩ : ∃ b' : Nat, b = (b' : Int) := ⟨b.toNat, by omega⟩
  obtain ⟨c, rfl⟩ : ∃ c' : Nat, c = (c' : Int) := ⟨c.toNat, by omega⟩
  exact lff_tab hR a b c n m k mode (by omega) (by omega) (by omega) n1 n2 m1 m2 k1 k2 o1 o2
end Go.Proofs.YtcfhajnboamnnaaDoor
