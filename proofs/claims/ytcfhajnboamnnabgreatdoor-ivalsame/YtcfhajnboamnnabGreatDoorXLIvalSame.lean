/- IvalSame: sums and products of enclosures do not depend on their order, a difference is a sum with the negative, of one float with itself they have its own: the law's walk, by the reader upon letters. -/
import Derived.Test.YtcfhajnboamnnabGreatDoorYXWI
import Derived.OpenShut
namespace Go.Proofs.YtcfhajnboamnnabGreatDoor
open Go.RowKit Go.Ev
set_option linter.unusedVariables false
set_option linter.unusedSimpArgs false

theorem nr_smallB (n : Int) : nr (smallQ n) ≤ 5 := by
  unfold smallQ
  have a1 : 0 ≤ n % 41 := Int.emod_nonneg _ (by omega)
  have a2 : n % 41 < 41 := Int.emod_lt_of_pos _ (by omega)
  have b1 : 0 ≤ n.tdiv 41 % 5 := Int.emod_nonneg _ (by omega)
  have b2 : n.tdiv 41 % 5 < 5 := Int.emod_lt_of_pos _ (by omega)
  refine Nat.le_trans (nr_mkRat _ _ (by omega)) ?_
  have h1 := nl_one (show (n % 41 - 20).natAbs < 4294967296 by omega)
  have h2 := nl_one (show 1 + (n.tdiv 41 % 5).toNat < 4294967296 by omega)
  omega
theorem bo_xor {a c : Nat} {b : Int} (h : bits .xor .u64 (a : Int) b = (c : Int)) (t : TypeId) : binOp .xor t (.int .u64 (a : Int)) (.int .u64 b) = pure (.int .u64 (c : Int)) := by
  rw [binOp_xor, ← h]; rfl
theorem flip_flip {f : Nat} (h : f < 18446744073709551616) : flipF (flipF f) = f := by
  unfold flipF
  split <;> split <;> omega
def lisD : List (FuncId × Ans) :=
  [(8, ansT [([], .v (.one (.lit (.bool true))))]),
   (9, ansT [([.agg [.atom (.sym 0), .atom (.sym 1)], .one (.atom (.sym 4))], .v (.agg [.atom (.sym 5), .atom (.sym 6)])), ([.agg [.atom (.sym 2), .atom (.sym 3)], .one (.atom (.sym 15))], .v (.agg [.atom (.sym 7), .atom (.sym 8)]))]),
   (38, ansT [([.one (.atom (.sym 16))], .v (avQ (.v 0)))]),
   (18, ansT [([avQ (.v 0)], .v (.agg [.atom (.sym 11), .atom (.sym 12)]))]),
   (26, ansT [([.agg [.atom (.sym 5), .atom (.sym 6)], .agg [.atom (.sym 7), .atom (.sym 8)]], .v (.agg [.atom (.sym 19), .atom (.sym 20)])), ([.agg [.atom (.sym 7), .atom (.sym 8)], .agg [.atom (.sym 5), .atom (.sym 6)]], .v (.agg [.atom (.sym 21), .atom (.sym 22)])), ([.agg [.atom (.sym 11), .atom (.sym 12)], .agg [.atom (.sym 11), .atom (.sym 12)]], .v (.agg [.atom (.sym 23), .atom (.sym 24)]))]),
   (37, ansT [([.one (.atom (.sym 19)), .one (.atom (.sym 21))], .tup [.one (.lit (.int .i64 (0))), .one (.lit (.bool true))]), ([.one (.atom (.sym 20)), .one (.atom (.sym 22))], .tup [.one (.lit (.int .i64 (0))), .one (.lit (.bool true))])]),
   (57, ansT [([.one (.atom (.sym 5)), .one (.atom (.sym 7)), .one (.lit (.int .i64 (2)))], .tup [.one (.atom (.sym 25)), .one (.atom (.sym 26))]), ([.one (.atom (.sym 7)), .one (.atom (.sym 5)), .one (.lit (.int .i64 (2)))], .tup [.one (.atom (.sym 25)), .one (.atom (.sym 26))]), ([.one (.atom (.sym 6)), .one (.atom (.sym 8)), .one (.lit (.int .i64 (3)))], .tup [.one (.atom (.sym 27)), .one (.atom (.sym 28))]), ([.one (.atom (.sym 8)), .one (.atom (.sym 6)), .one (.lit (.int .i64 (3)))], .tup [.one (.atom (.sym 27)), .one (.atom (.sym 28))]), ([.one (.atom (.sym 5)), .one (.atom (.sym 10)), .one (.lit (.int .i64 (2)))], .tup [.one (.atom (.sym 29)), .one (.atom (.sym 30))]), ([.one (.atom (.sym 6)), .one (.atom (.sym 9)), .one (.lit (.int .i64 (3)))], .tup [.one (.atom (.sym 31)), .one (.atom (.sym 32))]), ([.one (.atom (.sym 11)), .one (.atom (.sym 14)), .one (.lit (.int .i64 (2)))], .tup [.one (.atom (.sym 33)), .one (.atom (.sym 34))]), ([.one (.atom (.sym 12)), .one (.atom (.sym 13)), .one (.lit (.int .i64 (3)))], .tup [.one (.atom (.sym 35)), .one (.atom (.sym 36))])]),
   (33, ansT [([], .v (avQ (.v 1)))]),
   (32, ansT [([avQ (.v 0), avQ (.v 0)], .v (avQ (.v 2)))]),
   (16, ansT [([.agg [.atom (.sym 33), .atom (.sym 35)], avQ (.v 1)], .v (.one (.lit (.bool true)))), ([.agg [.atom (.sym 23), .atom (.sym 24)], avQ (.v 2)], .v (.one (.lit (.bool true))))])]
def lisL : BT := [(.xor, .atom (.sym 7), .lit (.int .u64 9223372036854775808), .atom (.sym 9)), (.xor, .atom (.sym 8), .lit (.int .u64 9223372036854775808), .atom (.sym 10)), (.xor, .atom (.sym 5), .lit (.int .u64 9223372036854775808), .atom (.sym 17)), (.xor, .atom (.sym 6), .lit (.int .u64 9223372036854775808), .atom (.sym 18)), (.xor, .atom (.sym 11), .lit (.int .u64 9223372036854775808), .atom (.sym 13)), (.xor, .atom (.sym 12), .lit (.int .u64 9223372036854775808), .atom (.sym 14)), (.xor, .atom (.sym 17), .lit (.int .u64 9223372036854775808), .atom (.sym 5)), (.xor, .atom (.sym 18), .lit (.int .u64 9223372036854775808), .atom (.sym 6))]
def lisM : BT := []
def lisN : At → Option Nat
  | _ => none
def lisE : ET := [(.atom (.sym 25), .atom (.sym 25), true), (.atom (.sym 27), .atom (.sym 27), true), (.atom (.sym 29), .atom (.sym 29), true), (.atom (.sym 31), .atom (.sym 31), true), (.atom (.sym 33), .atom (.sym 33), true), (.atom (.sym 35), .atom (.sym 35), true), (.atom (.sym 5), .atom (.sym 5), true), (.atom (.sym 6), .atom (.sym 6), true)]

set_option maxRecDepth 1000000 in
theorem lisTold : ∃ t : Tr Func, TabOK Tryz.prog t ∧ (isAV (.v (.one (.lit (.bool true)))) (evalCall ⟨Tryz.prog, true, t.get, orcD (lisD ), (opH (ivHook (lisE )) (opH (bigHook Tryz.prog true) (opH (symHook Tryz.prog lisN (fun _ _ _ => none)) (tabHook (lisL ) lisM))))⟩ 1000 6 [.agg [.atom (.sym 0), .atom (.sym 1)], .agg [.atom (.sym 2), .atom (.sym 3)], .one (.atom (.sym 4)), .one (.atom (.sym 15)), .one (.atom (.sym 16))] .e 0) = true) :=
  ⟨(((((((((((((((Tr.e).put 6 (some Tryz.f6)).put 22 (some Tryz.f22)).put 24 (some Tryz.f24)).put 20 (some Tryz.f20)).put 39 (some Tryz.f39)).put 8 (some Tryz.f8)).put 9 (some Tryz.f9)).put 38 (some Tryz.f38)).put 18 (some Tryz.f18)).put 26 (some Tryz.f26)).put 37 (some Tryz.f37)).put 57 (some Tryz.f57)).put 33 (some Tryz.f33)).put 32 (some Tryz.f32)).put 16 (some Tryz.f16),
   (TabOK.put (TabOK.put (TabOK.put (TabOK.put (TabOK.put (TabOK.put (TabOK.put (TabOK.put (TabOK.put (TabOK.put (TabOK.put (TabOK.put (TabOK.put (TabOK.put (TabOK.put (TabOK.e _) ⟨Tryz.func6, by decide +kernel, by decide +kernel⟩) ⟨Tryz.func22, by decide +kernel, by decide +kernel⟩) ⟨Tryz.func24, by decide +kernel, by decide +kernel⟩) ⟨Tryz.func20, by decide +kernel, by decide +kernel⟩) ⟨Tryz.func39, by decide +kernel, by decide +kernel⟩) ⟨Tryz.func8, by decide +kernel, by decide +kernel⟩) ⟨Tryz.func9, by decide +kernel, by decide +kernel⟩) ⟨Tryz.func38, by decide +kernel, by decide +kernel⟩) ⟨Tryz.func18, by decide +kernel, by decide +kernel⟩) ⟨Tryz.func26, by decide +kernel, by decide +kernel⟩) ⟨Tryz.func37, by decide +kernel, by decide +kernel⟩) ⟨Tryz.func57, by decide +kernel, by decide +kernel⟩) ⟨Tryz.func33, by decide +kernel, by decide +kernel⟩) ⟨Tryz.func32, by decide +kernel, by decide +kernel⟩) ⟨Tryz.func16, by decide +kernel, by decide +kernel⟩),
   by decide +kernel⟩

set_option maxHeartbeats 4000000 in
set_option maxRecDepth 100000 in
theorem lis_tab {w : World} (hR : Ru w) (a b c d x1 x2 y1 y2 p1 p2 : Nat) (n m k : Int) (k1 : -9223372036854775808 ≤ k) (k2 : k ≤ 9223372036854775807) (x1_ : x1 < 18446744073709551616) (x2_ : x2 < 18446744073709551616) (y1_ : y1 < 18446744073709551616) (y2_ : y2 < 18446744073709551616)
    (hx1 : fsz x1 < 9218868437227405312) (hx2 : fsz x2 < 9218868437227405312) (hy1 : fsz y1 < 9218868437227405312) (hy2 : fsz y2 < 9218868437227405312)
    (cx : ∀ w : World, Calls Tryz.prog 9 #[.agg #[.int .u64 a, .int .u64 b], .int .i64 n] w fun e w' => e = .returned (.agg #[.int .u64 x1, .int .u64 x2]) ∧ Fwd w w')
    (cy : ∀ w : World, Calls Tryz.prog 9 #[.agg #[.int .u64 c, .int .u64 d], .int .i64 m] w fun e w' => e = .returned (.agg #[.int .u64 y1, .int .u64 y2]) ∧ Fwd w w')
    (hp1 : p1 = ofL (smallQ k)) (hp2 : p2 = ofH (smallQ k)) :
    Calls Tryz.prog 6 #[.agg #[.int .u64 a, .int .u64 b], .agg #[.int .u64 c, .int .u64 d], .int .i64 n, .int .i64 m, .int .i64 k] w fun e w' => e = .returned (.bool true) ∧ Below w.heap.size w w' := by
  have p1_ : p1 < 18446744073709551616 := by rw [hp1, ofL_eq]; unfold ofQ; exact rdV_lt 2 _
  have p2_ : p2 < 18446744073709551616 := by rw [hp2, ofH_eq]; unfold ofQ; exact rdV_lt 3 _
  have bs := nr_smallB k
  have bss := nr_mul (smallQ k) (smallQ k)
  have b0 : nr (0 : Rat) ≤ 5 := by decide +kernel
  have hsm := smI_small k
  unfold smI at hsm
  rw [Bool.and_eq_true, ← hp1, ← hp2] at hsm
  obtain ⟨hs1, hs2⟩ := hsm
  have tm := mulI_turn hx1 hx2 hy1 hy2
  have lm : ∀ a b c d, (mulI a b c d).1 < 18446744073709551616 ∧ (mulI a b c d).2 < 18446744073709551616 := fun a b c d => ⟨joL_lt (joL_lt (joL_lt (mulF_lt _ _ _) (mulF_lt _ _ _)) (mulF_lt _ _ _)) (mulF_lt _ _ _), joH_lt (joH_lt (joH_lt (mulF_lt _ _ _) (mulF_lt _ _ _)) (mulF_lt _ _ _)) (mulF_lt _ _ _)⟩
  have cC1 : ∀ w : World, Calls Tryz.prog 37 #[.int .u64 ((mulI x1 x2 y1 y2).1 : Nat), .int .u64 ((mulI y1 y2 x1 x2).1 : Nat)] w fun e w' => e = .returned (.tuple #[.int .i64 0, .bool true]) ∧ Fwd w w' := fun w => by
    have := cmp3_any (w := w) (mulI x1 x2 y1 y2).1 (mulI y1 y2 x1 x2).1 (lm _ _ _ _).1 (lm _ _ _ _).1
    rw [tm.1] at this
    exact this.mono fun e w' gg => ⟨gg.1, gg.2 ▸ Fwd.refl _⟩
  have cC2 : ∀ w : World, Calls Tryz.prog 37 #[.int .u64 ((mulI x1 x2 y1 y2).2 : Nat), .int .u64 ((mulI y1 y2 x1 x2).2 : Nat)] w fun e w' => e = .returned (.tuple #[.int .i64 0, .bool true]) ∧ Fwd w w' := fun w => by
    have := cmp3_any (w := w) (mulI x1 x2 y1 y2).2 (mulI y1 y2 x1 x2).2 (lm _ _ _ _).2 (lm _ _ _ _).2
    rw [tm.2] at this
    exact this.mono fun e w' gg => ⟨gg.1, gg.2 ▸ Fwd.refl _⟩
  have cO : ∀ (w : World) (u : Value), Ru w → RV w u (smallQ k) → Calls Tryz.prog 18 #[u] w fun e w' => e = .returned (.agg #[.int .u64 (p1 : Nat), .int .u64 (p2 : Nat)]) ∧ Fwd w w' := fun w u h hv => by
    rw [hp1, hp2]; exact ofI_any h hv (by omega)
  obtain ⟨t, ht, hr⟩ := lisTold
  obtain ⟨dl, n', he⟩ := isAV_ok (hr)
  let ν : Nat → Rat := nuL [smallQ k, 0, smallQ k * smallQ k] []
  let σ : SymD := symL [.u a, .u b, .u c, .u d, .i n, .u x1, .u x2, .u y1, .u y2, .u (flipF y1), .u (flipF y2), .u p1, .u p2, .u (flipF p1), .u (flipF p2), .i m, .i k, .u (flipF x1), .u (flipF x2), .u (mulI x1 x2 y1 y2).1, .u (mulI x1 x2 y1 y2).2, .u (mulI y1 y2 x1 x2).1, .u (mulI y1 y2 x1 x2).2, .u (mulI p1 p2 p1 p2).1, .u (mulI p1 p2 p1 p2).2, .u (addF 2 x1 y1).1, .i ((addF 2 x1 y1).2 : Int), .u (addF 3 x2 y2).1, .i ((addF 3 x2 y2).2 : Int), .u (addF 2 x1 (flipF y2)).1, .i ((addF 2 x1 (flipF y2)).2 : Int), .u (addF 3 x2 (flipF y1)).1, .i ((addF 3 x2 (flipF y1)).2 : Int), .u (addF 2 p1 (flipF p2)).1, .i ((addF 2 p1 (flipF p2)).2 : Int), .u (addF 3 p2 (flipF p1)).1, .i ((addF 3 p2 (flipF p1)).2 : Int)]
  have hcx : CxOK (DomQ true ν σ ruG) w.heap.size ⟨Tryz.prog, true, t.get, orcD (lisD ), (opH (ivHook (lisE )) (opH (bigHook Tryz.prog true) (opH (symHook Tryz.prog lisN (fun _ _ _ => none)) (tabHook (lisL ) lisM))))⟩ := cxS_ok (M := (DomQ true ν σ ruG)) ht ⟨[
      orcT 8 [
        { args := [], ans := .v (.one (.lit (.bool true))), ok := by
            intro B ρ w S vs hS hr
            match vs, hr with
            | [], _ =>
              skip
              refine (known4_any (ru_of hS)).mono ?_
              rintro e w' ⟨rfl, hf⟩
              exact ⟨_, rfl, ⟨rfl, rfl⟩, hf⟩ }],
      orcT 9 [
        { args := [.agg [.atom (.sym 0), .atom (.sym 1)], .one (.atom (.sym 4))], ans := .v (.agg [.atom (.sym 5), .atom (.sym 6)]), ok := by
            intro B ρ w S vs hS hr
            match vs, hr with
            | [u0, u1], ⟨z0, z1, _⟩ =>
              obtain ⟨us0, rfl, y0⟩ := z0
              match us0, y0 with
              | [v0_0, v0_1], ⟨y0_0, y0_1, _⟩ =>
              obtain ⟨rfl, f0_0⟩ : v0_0 = _ ∧ _ := y0_0
              obtain ⟨rfl, f0_1⟩ : v0_1 = _ ∧ _ := y0_1
              obtain ⟨rfl, _⟩ : u1 = _ ∧ _ := z1
              refine (cx _).mono ?_
              rintro e w' ⟨rfl, hf⟩
              exact ⟨_, rfl, ⟨[_, _], rfl, ⟨rfl, fun _ => trivial⟩, ⟨rfl, fun _ => trivial⟩, trivial⟩, hf⟩ },
        { args := [.agg [.atom (.sym 2), .atom (.sym 3)], .one (.atom (.sym 15))], ans := .v (.agg [.atom (.sym 7), .atom (.sym 8)]), ok := by
            intro B ρ w S vs hS hr
            match vs, hr with
            | [u0, u1], ⟨z0, z1, _⟩ =>
              obtain ⟨us0, rfl, y0⟩ := z0
              match us0, y0 with
              | [v0_0, v0_1], ⟨y0_0, y0_1, _⟩ =>
              obtain ⟨rfl, f0_0⟩ : v0_0 = _ ∧ _ := y0_0
              obtain ⟨rfl, f0_1⟩ : v0_1 = _ ∧ _ := y0_1
              obtain ⟨rfl, _⟩ : u1 = _ ∧ _ := z1
              refine (cy _).mono ?_
              rintro e w' ⟨rfl, hf⟩
              exact ⟨_, rfl, ⟨[_, _], rfl, ⟨rfl, fun _ => trivial⟩, ⟨rfl, fun _ => trivial⟩, trivial⟩, hf⟩ }],
      orcT 38 [
        { args := [.one (.atom (.sym 16))], ans := .v (avQ (.v 0)), ok := by
            intro B ρ w S vs hS hr
            match vs, hr with
            | [u0], ⟨z0, _⟩ =>
              obtain ⟨rfl, _⟩ : u0 = _ ∧ _ := z0
              refine (smallR_any w k k1 k2).mono ?_
              rintro e w' ⟨v, rfl, g0, hf⟩
              exact ⟨_, rfl, (avQ_rel g0), hf⟩ }],
      orcT 18 [
        { args := [avQ (.v 0)], ans := .v (.agg [.atom (.sym 11), .atom (.sym 12)]), ok := by
            intro B ρ w S vs hS hr
            match vs, hr with
            | [u0], ⟨z0, _⟩ =>
              have k0 := avQ_rv z0
              refine (cO _ _ (ru_of hS) k0).mono ?_
              rintro e w' ⟨rfl, hf⟩
              exact ⟨_, rfl, ⟨[_, _], rfl, ⟨rfl, fun _ => trivial⟩, ⟨rfl, fun _ => trivial⟩, trivial⟩, hf⟩ }],
      orcT 26 [
        { args := [.agg [.atom (.sym 5), .atom (.sym 6)], .agg [.atom (.sym 7), .atom (.sym 8)]], ans := .v (.agg [.atom (.sym 19), .atom (.sym 20)]), ok := by
            intro B ρ w S vs hS hr
            match vs, hr with
            | [u0, u1], ⟨z0, z1, _⟩ =>
              obtain ⟨us0, rfl, y0⟩ := z0
              match us0, y0 with
              | [v0_0, v0_1], ⟨y0_0, y0_1, _⟩ =>
              obtain ⟨rfl, f0_0⟩ : v0_0 = _ ∧ _ := y0_0
              obtain ⟨rfl, f0_1⟩ : v0_1 = _ ∧ _ := y0_1
              obtain ⟨us1, rfl, y1⟩ := z1
              match us1, y1 with
              | [v1_0, v1_1], ⟨y1_0, y1_1, _⟩ =>
              obtain ⟨rfl, f1_0⟩ : v1_0 = _ ∧ _ := y1_0
              obtain ⟨rfl, f1_1⟩ : v1_1 = _ ∧ _ := y1_1
              refine (mulI_any (ru_of hS) x1_ x2_ y1_ y2_).mono ?_
              rintro e w' ⟨rfl, hf⟩
              exact ⟨_, rfl, ⟨[_, _], rfl, ⟨rfl, fun _ => trivial⟩, ⟨rfl, fun _ => trivial⟩, trivial⟩, hf⟩ },
        { args := [.agg [.atom (.sym 7), .atom (.sym 8)], .agg [.atom (.sym 5), .atom (.sym 6)]], ans := .v (.agg [.atom (.sym 21), .atom (.sym 22)]), ok := by
            intro B ρ w S vs hS hr
            match vs, hr with
            | [u0, u1], ⟨z0, z1, _⟩ =>
              obtain ⟨us0, rfl, y0⟩ := z0
              match us0, y0 with
              | [v0_0, v0_1], ⟨y0_0, y0_1, _⟩ =>
              obtain ⟨rfl, f0_0⟩ : v0_0 = _ ∧ _ := y0_0
              obtain ⟨rfl, f0_1⟩ : v0_1 = _ ∧ _ := y0_1
              obtain ⟨us1, rfl, y1⟩ := z1
              match us1, y1 with
              | [v1_0, v1_1], ⟨y1_0, y1_1, _⟩ =>
              obtain ⟨rfl, f1_0⟩ : v1_0 = _ ∧ _ := y1_0
              obtain ⟨rfl, f1_1⟩ : v1_1 = _ ∧ _ := y1_1
              refine (mulI_any (ru_of hS) y1_ y2_ x1_ x2_).mono ?_
              rintro e w' ⟨rfl, hf⟩
              exact ⟨_, rfl, ⟨[_, _], rfl, ⟨rfl, fun _ => trivial⟩, ⟨rfl, fun _ => trivial⟩, trivial⟩, hf⟩ },
        { args := [.agg [.atom (.sym 11), .atom (.sym 12)], .agg [.atom (.sym 11), .atom (.sym 12)]], ans := .v (.agg [.atom (.sym 23), .atom (.sym 24)]), ok := by
            intro B ρ w S vs hS hr
            match vs, hr with
            | [u0, u1], ⟨z0, z1, _⟩ =>
              obtain ⟨us0, rfl, y0⟩ := z0
              match us0, y0 with
              | [v0_0, v0_1], ⟨y0_0, y0_1, _⟩ =>
              obtain ⟨rfl, f0_0⟩ : v0_0 = _ ∧ _ := y0_0
              obtain ⟨rfl, f0_1⟩ : v0_1 = _ ∧ _ := y0_1
              obtain ⟨us1, rfl, y1⟩ := z1
              match us1, y1 with
              | [v1_0, v1_1], ⟨y1_0, y1_1, _⟩ =>
              obtain ⟨rfl, f1_0⟩ : v1_0 = _ ∧ _ := y1_0
              obtain ⟨rfl, f1_1⟩ : v1_1 = _ ∧ _ := y1_1
              refine (mulI_any (ru_of hS) p1_ p2_ p1_ p2_).mono ?_
              rintro e w' ⟨rfl, hf⟩
              exact ⟨_, rfl, ⟨[_, _], rfl, ⟨rfl, fun _ => trivial⟩, ⟨rfl, fun _ => trivial⟩, trivial⟩, hf⟩ }],
      orcT 37 [
        { args := [.one (.atom (.sym 19)), .one (.atom (.sym 21))], ans := .tup [.one (.lit (.int .i64 (0))), .one (.lit (.bool true))], ok := by
            intro B ρ w S vs hS hr
            match vs, hr with
            | [u0, u1], ⟨z0, z1, _⟩ =>
              obtain ⟨rfl, _⟩ : u0 = _ ∧ _ := z0
              obtain ⟨rfl, _⟩ : u1 = _ ∧ _ := z1
              refine (cC1 _).mono ?_
              rintro e w' ⟨rfl, hf⟩
              exact ⟨_, rfl, ⟨[_, _], rfl, ⟨rfl, rfl⟩, ⟨rfl, rfl⟩, trivial⟩, hf⟩ },
        { args := [.one (.atom (.sym 20)), .one (.atom (.sym 22))], ans := .tup [.one (.lit (.int .i64 (0))), .one (.lit (.bool true))], ok := by
            intro B ρ w S vs hS hr
            match vs, hr with
            | [u0, u1], ⟨z0, z1, _⟩ =>
              obtain ⟨rfl, _⟩ : u0 = _ ∧ _ := z0
              obtain ⟨rfl, _⟩ : u1 = _ ∧ _ := z1
              refine (cC2 _).mono ?_
              rintro e w' ⟨rfl, hf⟩
              exact ⟨_, rfl, ⟨[_, _], rfl, ⟨rfl, rfl⟩, ⟨rfl, rfl⟩, trivial⟩, hf⟩ }],
      orcT 57 [
        { args := [.one (.atom (.sym 5)), .one (.atom (.sym 7)), .one (.lit (.int .i64 (2)))], ans := .tup [.one (.atom (.sym 25)), .one (.atom (.sym 26))], ok := by
            intro B ρ w S vs hS hr
            match vs, hr with
            | [u0, u1, u2], ⟨z0, z1, z2, _⟩ =>
              obtain ⟨rfl, _⟩ : u0 = _ ∧ _ := z0
              obtain ⟨rfl, _⟩ : u1 = _ ∧ _ := z1
              obtain ⟨rfl, _⟩ : u2 = _ ∧ _ := z2
              refine (addF_any (ru_of hS) 2 x1 y1 x1_ y1_).mono ?_
              rintro e w' ⟨rfl, hf⟩
              exact ⟨_, rfl, ⟨[_, _], rfl, ⟨rfl, fun _ => trivial⟩, ⟨rfl, fun _ => trivial⟩, trivial⟩, hf⟩ },
        { args := [.one (.atom (.sym 7)), .one (.atom (.sym 5)), .one (.lit (.int .i64 (2)))], ans := .tup [.one (.atom (.sym 25)), .one (.atom (.sym 26))], ok := by
            intro B ρ w S vs hS hr
            match vs, hr with
            | [u0, u1, u2], ⟨z0, z1, z2, _⟩ =>
              obtain ⟨rfl, _⟩ : u0 = _ ∧ _ := z0
              obtain ⟨rfl, _⟩ : u1 = _ ∧ _ := z1
              obtain ⟨rfl, _⟩ : u2 = _ ∧ _ := z2
              refine ((show Calls Tryz.prog 57 #[.int .u64 (y1 : Nat), .int .u64 (x1 : Nat), .int .i64 2] w (fun e w' => e = .returned (.tuple #[.int .u64 ((addF 2 x1 y1).1 : Nat), .int .i64 ((addF 2 x1 y1).2 : Nat)]) ∧ Fwd w w') from by rw [addF_comm 2 x1 y1]; exact addF_any (ru_of hS) 2 y1 x1 y1_ x1_)).mono ?_
              rintro e w' ⟨rfl, hf⟩
              exact ⟨_, rfl, ⟨[_, _], rfl, ⟨rfl, fun _ => trivial⟩, ⟨rfl, fun _ => trivial⟩, trivial⟩, hf⟩ },
        { args := [.one (.atom (.sym 6)), .one (.atom (.sym 8)), .one (.lit (.int .i64 (3)))], ans := .tup [.one (.atom (.sym 27)), .one (.atom (.sym 28))], ok := by
            intro B ρ w S vs hS hr
            match vs, hr with
            | [u0, u1, u2], ⟨z0, z1, z2, _⟩ =>
              obtain ⟨rfl, _⟩ : u0 = _ ∧ _ := z0
              obtain ⟨rfl, _⟩ : u1 = _ ∧ _ := z1
              obtain ⟨rfl, _⟩ : u2 = _ ∧ _ := z2
              refine (addF_any (ru_of hS) 3 x2 y2 x2_ y2_).mono ?_
              rintro e w' ⟨rfl, hf⟩
              exact ⟨_, rfl, ⟨[_, _], rfl, ⟨rfl, fun _ => trivial⟩, ⟨rfl, fun _ => trivial⟩, trivial⟩, hf⟩ },
        { args := [.one (.atom (.sym 8)), .one (.atom (.sym 6)), .one (.lit (.int .i64 (3)))], ans := .tup [.one (.atom (.sym 27)), .one (.atom (.sym 28))], ok := by
            intro B ρ w S vs hS hr
            match vs, hr with
            | [u0, u1, u2], ⟨z0, z1, z2, _⟩ =>
              obtain ⟨rfl, _⟩ : u0 = _ ∧ _ := z0
              obtain ⟨rfl, _⟩ : u1 = _ ∧ _ := z1
              obtain ⟨rfl, _⟩ : u2 = _ ∧ _ := z2
              refine ((show Calls Tryz.prog 57 #[.int .u64 (y2 : Nat), .int .u64 (x2 : Nat), .int .i64 3] w (fun e w' => e = .returned (.tuple #[.int .u64 ((addF 3 x2 y2).1 : Nat), .int .i64 ((addF 3 x2 y2).2 : Nat)]) ∧ Fwd w w') from by rw [addF_comm 3 x2 y2]; exact addF_any (ru_of hS) 3 y2 x2 y2_ x2_)).mono ?_
              rintro e w' ⟨rfl, hf⟩
              exact ⟨_, rfl, ⟨[_, _], rfl, ⟨rfl, fun _ => trivial⟩, ⟨rfl, fun _ => trivial⟩, trivial⟩, hf⟩ },
        { args := [.one (.atom (.sym 5)), .one (.atom (.sym 10)), .one (.lit (.int .i64 (2)))], ans := .tup [.one (.atom (.sym 29)), .one (.atom (.sym 30))], ok := by
            intro B ρ w S vs hS hr
            match vs, hr with
            | [u0, u1, u2], ⟨z0, z1, z2, _⟩ =>
              obtain ⟨rfl, _⟩ : u0 = _ ∧ _ := z0
              obtain ⟨rfl, _⟩ : u1 = _ ∧ _ := z1
              obtain ⟨rfl, _⟩ : u2 = _ ∧ _ := z2
              refine (addF_any (ru_of hS) 2 x1 (flipF y2) x1_ (flip_lt y2_)).mono ?_
              rintro e w' ⟨rfl, hf⟩
              exact ⟨_, rfl, ⟨[_, _], rfl, ⟨rfl, fun _ => trivial⟩, ⟨rfl, fun _ => trivial⟩, trivial⟩, hf⟩ },
        { args := [.one (.atom (.sym 6)), .one (.atom (.sym 9)), .one (.lit (.int .i64 (3)))], ans := .tup [.one (.atom (.sym 31)), .one (.atom (.sym 32))], ok := by
            intro B ρ w S vs hS hr
            match vs, hr with
            | [u0, u1, u2], ⟨z0, z1, z2, _⟩ =>
              obtain ⟨rfl, _⟩ : u0 = _ ∧ _ := z0
              obtain ⟨rfl, _⟩ : u1 = _ ∧ _ := z1
              obtain ⟨rfl, _⟩ : u2 = _ ∧ _ := z2
              refine (addF_any (ru_of hS) 3 x2 (flipF y1) x2_ (flip_lt y1_)).mono ?_
              rintro e w' ⟨rfl, hf⟩
              exact ⟨_, rfl, ⟨[_, _], rfl, ⟨rfl, fun _ => trivial⟩, ⟨rfl, fun _ => trivial⟩, trivial⟩, hf⟩ },
        { args := [.one (.atom (.sym 11)), .one (.atom (.sym 14)), .one (.lit (.int .i64 (2)))], ans := .tup [.one (.atom (.sym 33)), .one (.atom (.sym 34))], ok := by
            intro B ρ w S vs hS hr
            match vs, hr with
            | [u0, u1, u2], ⟨z0, z1, z2, _⟩ =>
              obtain ⟨rfl, _⟩ : u0 = _ ∧ _ := z0
              obtain ⟨rfl, _⟩ : u1 = _ ∧ _ := z1
              obtain ⟨rfl, _⟩ : u2 = _ ∧ _ := z2
              refine (addF_any (ru_of hS) 2 p1 (flipF p2) p1_ (flip_lt p2_)).mono ?_
              rintro e w' ⟨rfl, hf⟩
              exact ⟨_, rfl, ⟨[_, _], rfl, ⟨rfl, fun _ => trivial⟩, ⟨rfl, fun _ => trivial⟩, trivial⟩, hf⟩ },
        { args := [.one (.atom (.sym 12)), .one (.atom (.sym 13)), .one (.lit (.int .i64 (3)))], ans := .tup [.one (.atom (.sym 35)), .one (.atom (.sym 36))], ok := by
            intro B ρ w S vs hS hr
            match vs, hr with
            | [u0, u1, u2], ⟨z0, z1, z2, _⟩ =>
              obtain ⟨rfl, _⟩ : u0 = _ ∧ _ := z0
              obtain ⟨rfl, _⟩ : u1 = _ ∧ _ := z1
              obtain ⟨rfl, _⟩ : u2 = _ ∧ _ := z2
              refine (addF_any (ru_of hS) 3 p2 (flipF p1) p2_ (flip_lt p1_)).mono ?_
              rintro e w' ⟨rfl, hf⟩
              exact ⟨_, rfl, ⟨[_, _], rfl, ⟨rfl, fun _ => trivial⟩, ⟨rfl, fun _ => trivial⟩, trivial⟩, hf⟩ }],
      orcT 33 [
        { args := [], ans := .v (avQ (.v 1)), ok := by
            intro B ρ w S vs hS hr
            match vs, hr with
            | [], _ =>
              skip
              refine (refZero_any w).mono ?_
              rintro e w' ⟨v, rfl, g0, hf⟩
              exact ⟨_, rfl, (avQ_rel g0), hf⟩ }],
      orcT 32 [
        { args := [avQ (.v 0), avQ (.v 0)], ans := .v (avQ (.v 2)), ok := by
            intro B ρ w S vs hS hr
            match vs, hr with
            | [u0, u1], ⟨z0, z1, _⟩ =>
              have k0 := avQ_rv z0
              have k1 := avQ_rv z1
              refine (mul2_any (p := smallQ k) (q := smallQ k) k0 k1 (by omega) (by omega)).mono ?_
              rintro e w' ⟨v, rfl, g0, hf⟩
              exact ⟨_, rfl, (avQ_rel g0), hf⟩ }],
      orcT 16 [
        { args := [.agg [.atom (.sym 33), .atom (.sym 35)], avQ (.v 1)], ans := .v (.one (.lit (.bool true))), ok := by
            intro B ρ w S vs hS hr
            match vs, hr with
            | [u0, u1], ⟨z0, z1, _⟩ =>
              obtain ⟨us0, rfl, y0⟩ := z0
              match us0, y0 with
              | [v0_0, v0_1], ⟨y0_0, y0_1, _⟩ =>
              obtain ⟨rfl, f0_0⟩ : v0_0 = _ ∧ _ := y0_0
              obtain ⟨rfl, f0_1⟩ : v0_1 = _ ∧ _ := y0_1
              have k1 := avQ_rv z1
              refine (hasI_any (q := 0) (ru_of hS) k1 (by omega) (addF_lt _ _ _) (addF_lt _ _ _) hs1).mono ?_
              rintro e w' ⟨rfl, hf⟩
              exact ⟨_, rfl, ⟨rfl, rfl⟩, hf⟩ },
        { args := [.agg [.atom (.sym 23), .atom (.sym 24)], avQ (.v 2)], ans := .v (.one (.lit (.bool true))), ok := by
            intro B ρ w S vs hS hr
            match vs, hr with
            | [u0, u1], ⟨z0, z1, _⟩ =>
              obtain ⟨us0, rfl, y0⟩ := z0
              match us0, y0 with
              | [v0_0, v0_1], ⟨y0_0, y0_1, _⟩ =>
              obtain ⟨rfl, f0_0⟩ : v0_0 = _ ∧ _ := y0_0
              obtain ⟨rfl, f0_1⟩ : v0_1 = _ ∧ _ := y0_1
              have k1 := avQ_rv z1
              refine (hasI_any (q := smallQ k * smallQ k) (ru_of hS) k1 (by omega) (lm _ _ _ _).1 (lm _ _ _ _).2 hs2).mono ?_
              rintro e w' ⟨rfl, hf⟩
              exact ⟨_, rfl, ⟨rfl, rfl⟩, hf⟩ }]], rfl⟩
    (opH_le (ivHook_le _) (opH_le (bigHook_le _ _) (opH_le (symHook_le _ _ _) (tabHook_le _ _))))
    (opH_ok (ivHook_ok (all_cons ⟨rfl, rfl, _, _, rfl, rfl, (by simp)⟩ (all_cons ⟨rfl, rfl, _, _, rfl, rfl, (by simp)⟩ (all_cons ⟨rfl, rfl, _, _, rfl, rfl, (by simp)⟩ (all_cons ⟨rfl, rfl, _, _, rfl, rfl, (by simp)⟩ (all_cons ⟨rfl, rfl, _, _, rfl, rfl, (by simp)⟩ (all_cons ⟨rfl, rfl, _, _, rfl, rfl, (by simp)⟩ (all_cons ⟨rfl, rfl, _, _, rfl, rfl, (by simp)⟩ (all_cons ⟨rfl, rfl, _, _, rfl, rfl, (by simp)⟩ all_nil))))))))) (opH_ok (bigHook_ok _) (opH_ok (symHook_ok _ (fun h => by cases h) (fun h => by cases h)) (tabHook_ok _ (all_cons (BOk.mk rfl rfl rfl (fun _ _ _ => trivial) rfl rfl (bo_xor (xor_sign _ y1_))) (all_cons (BOk.mk rfl rfl rfl (fun _ _ _ => trivial) rfl rfl (bo_xor (xor_sign _ y2_))) (all_cons (BOk.mk rfl rfl rfl (fun _ _ _ => trivial) rfl rfl (bo_xor (xor_sign _ x1_))) (all_cons (BOk.mk rfl rfl rfl (fun _ _ _ => trivial) rfl rfl (bo_xor (xor_sign _ x2_))) (all_cons (BOk.mk rfl rfl rfl (fun _ _ _ => trivial) rfl rfl (bo_xor (xor_sign _ p1_))) (all_cons (BOk.mk rfl rfl rfl (fun _ _ _ => trivial) rfl rfl (bo_xor (xor_sign _ p2_))) (all_cons (BOk.mk rfl rfl rfl (fun _ _ _ => trivial) rfl rfl (bo_xor (by rw [xor_sign _ (flip_lt x1_), flip_flip x1_]))) (all_cons (BOk.mk rfl rfl rfl (fun _ _ _ => trivial) rfl rfl (bo_xor (by rw [xor_sign _ (flip_lt x2_), flip_flip x2_]))) all_nil)))))))) all_nil))))
  refine (told_call (M := (DomQ true ν σ ruG)) (cx := ⟨Tryz.prog, true, t.get, orcD (lisD ), (opH (ivHook (lisE )) (opH (bigHook Tryz.prog true) (opH (symHook Tryz.prog lisN (fun _ _ _ => none)) (tabHook (lisL ) lisM))))⟩) (xs := [.agg [.atom (.sym 0), .atom (.sym 1)], .agg [.atom (.sym 2), .atom (.sym 3)], .one (.atom (.sym 4)), .one (.atom (.sym 15)), .one (.atom (.sym 16))]) (vs := [.agg #[.int .u64 a, .int .u64 b], .agg #[.int .u64 c, .int .u64 d], .int .i64 n, .int .i64 m, .int .i64 k]) Tryz.checked.mixed hcx (fun hg => ruG_ok hR hg) ⟨⟨[_, _], rfl, ⟨rfl, fun _ => trivial⟩, ⟨rfl, fun _ => trivial⟩, trivial⟩, ⟨[_, _], rfl, ⟨rfl, fun _ => trivial⟩, ⟨rfl, fun _ => trivial⟩, trivial⟩, ⟨rfl, fun _ => trivial⟩, ⟨rfl, fun _ => trivial⟩, ⟨rfl, fun _ => trivial⟩, trivial⟩ he).mono ?_
  rintro e w' ⟨v, ρ', rfl, hv, hbel⟩
  obtain ⟨rfl, _⟩ : v = _ ∧ _ := hv
  exact ⟨rfl, hbel⟩

theorem ivalSame_walk {w : World} {a b c d n m k : Int} (hR : Ru w) (ha : (Lit.int .u64 a).wf = true) (hb : (Lit.int .u64 b).wf = true) (hc : (Lit.int .u64 c).wf = true) (hd : (Lit.int .u64 d).wf = true) (hn : (Lit.int .i64 n).wf = true) (hm : (Lit.int .i64 m).wf = true) (hk : (Lit.int .i64 k).wf = true) :
    Calls Tryz.prog 6 #[.agg #[.int .u64 a, .int .u64 b], .agg #[.int .u64 c, .int .u64 d], .int .i64 n, .int .i64 m, .int .i64 k] w fun e w' => e = .returned (.bool true) ∧ Below w.heap.size w w' := by
  obtain ⟨a1, a2⟩ := bounds_u64 ha
  obtain ⟨b1, b2⟩ := bounds_u64 hb
  obtain ⟨c1, c2⟩ := bounds_u64 hc
  obtain ⟨d1, d2⟩ := bounds_u64 hd
  obtain ⟨n1, n2⟩ := bounds_i64 hn
  obtain ⟨m1, m2⟩ := bounds_i64 hm
  obtain ⟨k1, k2⟩ := bounds_i64 hk
  obtain ⟨a, rfl⟩ : ∃ a' : Nat, a = (a' : Int) := ⟨a.toNat, by omega⟩
  obtain ⟨b, rfl⟩ : ∃ a' : Nat, b = (a' : Int) := ⟨b.toNat, by omega⟩
  obtain ⟨c, rfl⟩ : ∃ a' : Nat, c = (a' : Int) := ⟨c.toNat, by omega⟩
  obtain ⟨d, rfl⟩ : ∃ a' : Nat, d = (a' : Int) := ⟨d.toNat, by omega⟩
  obtain ⟨x1, x2, l1, l2, f1, f2, -, cx⟩ := make4_fix a b n (by omega) (by omega) n1 n2
  obtain ⟨y1, y2, l3, l4, f3, f4, -, cy⟩ := make4_fix c d m (by omega) (by omega) m1 m2
  exact lis_tab hR a b c d x1 x2 y1 y2 _ _ n m k k1 k2 l1 l2 l3 l4 f1 f2 f3 f4 cx cy rfl rfl
end Go.Proofs.YtcfhajnboamnnabGreatDoor
