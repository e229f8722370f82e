/- FloatOf: any number, rounded by any mode, and its flags, are the document's; any float is the number that it says: the law's walk, by the reader upon letters. -/
import Derived.Test.YtcfhajnboamnnaaGreatDoorXF35
import Derived.Test.YtcfhajnboamnnaaGreatDoorXF27
import Derived.Test.YtcfhajnboamnnaaGreatDoorXF26
import Derived.Test.YtcfhajnboamnnaaGreatDoorYXF17
import Derived.Test.YtcfhajnboamnnaaGreatDoorYXFY
import Derived.Test.YtcfhajnboamnnaaGreatDoorYXFT
import Derived.OpenShut
namespace Go.Proofs.YtcfhajnboamnnaaGreatDoor
open Go.RowKit Go.Ev
set_option linter.unusedVariables false
set_option linter.unusedSimpArgs false

theorem rdV_zeroQ (m : Int) (D : Nat) : rdV m (ratV false 0 D) = (0, 0) := by
  have e : ratV false 0 D = (false, false, 0, -(rtS 0 D) - 64) := by
    unfold ratV
    rw [rtS_zero]
    simp [stk]
  rw [e]
  unfold rdV
  rw [if_neg (fun h => by cases h), if_pos rfl]
  rfl
theorem ofQ_ofN (m : Int) (q : Rat) : ofQ m (negQ q) q.num.natAbs q.den = ofN m q := by
  unfold ofN ofQ
  rw [ofR_eq m (negQ q) q.den_nz]
  by_cases c : q.num.natAbs = 0
  · rw [if_pos c]
    have hq : q = 0 := (natAbs_zero_iff q).1 c
    subst hq
    exact rdV_zeroQ m _
  · rw [if_neg c]
/-- sfloat's Of, by the number. -/
theorem ofP_any {w : World} {v : Value} {q : Rat} (hR : Ru w) (m : Int) (hv : RV w v q) (hq : nr q ≤ 150) :
    Calls Tryz.prog 13 #[v, .int .i64 m] w fun e w' => e = .returned (.tuple #[.int .u64 ((ofN m q).1 : Nat), .int .i64 ((ofN m q).2 : Nat)]) ∧ Fwd w w' := by
  rw [← ofQ_ofN]
  have b1 := nr_num q
  have b2 := nr_den q
  exact ofQ_any hR m hv.rw' (by omega) (by omega) q.den_nz
theorem ofS_any {w : World} {v : Value} {q : Rat} (m : Int) (hv : RV w v q) (hq : nr q ≤ 150) :
    Calls Tryz.prog 14 #[v, .int .i64 m] w fun e w' => e = .returned (.tuple #[.int .u64 ((ofN m q).1 : Nat), .int .i64 ((ofN m q).2 : Nat)]) ∧ Fwd w w' := of3_any m hv hq

theorem nr_smallB (n : Int) : nr (smallQ n) ≤ 5 := by
  unfold smallQ
  have a1 : 0 ≤ n % 41 := Int.emod_nonneg _ (by omega)
  have a2 : n % 41 < 41 := Int.emod_lt_of_pos _ (by omega)
  have b1 : 0 ≤ n.tdiv 41 % 5 := Int.emod_nonneg _ (by omega)
  have b2 : n.tdiv 41 % 5 < 5 := Int.emod_lt_of_pos _ (by omega)
  refine Nat.le_trans (nr_mkRat _ _ (by omega)) ?_
  have h1 := nl_one (show (n % 41 - 20).natAbs < 4294967296 by omega)
  have h2 := nl_one (show 1 + (n.tdiv 41 % 5).toNat < 4294967296 by omega)
  omega
theorem nr_fvQ1 {f : Nat} (h : fsz f < 9218868437227405312) : nr (fvQ f) ≤ 36 := by
  have h1 := nr_mkQ (fneg f) (ratA f) (ratB f) (ratB_pos f)
  have a1 := nl_two' (vsz_lt f)
  have a2 := nl_shl (vsz f) (vex f).toNat
  have a3 := vex_le h
  have b1 := nl_two' (n := 1) (by decide)
  have b2 := nl_shl 1 (-(vex f)).toNat
  have b3 := vex_ge f
  have e1 : nl (ratA f) = nl (vsz f * 2 ^ (vex f).toNat) := rfl
  have e2 : nl (ratB f) = nl (1 * 2 ^ (-(vex f)).toNat) := rfl
  unfold fvQ
  omega

set_option maxHeartbeats 1000000 in
/-- within: what is left by 1100. -/
theorem within3_1100 (w : World) (a : Int) (ha1 : -9223372036854775808 ≤ a) (ha2 : a ≤ 9223372036854775807) :
    Calls Tryz.prog 9 #[.int .i64 a, .int .i64 1100] w fun e w' => e = .returned (.int .i64 (a % 1100)) ∧ w = w' := by
  by_cases h0 : 0 ≤ a
  · have h1 : a % 1100 < 1100 := Int.emod_lt_of_pos _ (by omega)
    have h2 : 0 ≤ a % 1100 := Int.emod_nonneg _ (by omega)
    go_enter Tryz.func9, Tryz.ntmps9
    go_wp2
    go_ret
    exact ⟨rfl, rfl⟩
  · have hb : ∃ b : Int, a = -b ∧ 0 < b := ⟨-a, by omega, by omega⟩
    obtain ⟨b, hb, hb0⟩ := hb
    have h3 : a.tmod 1100 = -(b % 1100) := by rw [hb, Int.neg_tmod, Int.tmod_eq_emod_of_nonneg (by omega)]
    have h1 : b % 1100 < 1100 := Int.emod_lt_of_pos _ (by omega)
    have h2 : 0 ≤ b % 1100 := Int.emod_nonneg _ (by omega)
    obtain ⟨t, ht⟩ : ∃ t, t = b % 1100 := ⟨_, rfl⟩
    obtain ⟨r, hr⟩ : ∃ r, r = a % 1100 := ⟨_, rfl⟩
    have h5 : r = if t = 0 then 0 else 1100 - t := by split <;> omega
    rw [← hr]
    rw [← ht] at h1 h2 h3
    clear ht hb hr
    by_cases ht0 : t = 0
    · have h4 : ¬ (-t < 0) := by omega
      rw [if_pos ht0] at h5
      subst h5
      have HT := hid ht0
      subst ht0
      simp only [Int.neg_zero] at h3
      go_enter Tryz.func9, Tryz.ntmps9
      go_wp2
      go_ret
      exact ⟨rfl, rfl⟩
    · have h4 : -t < 0 := by omega
      rw [if_neg ht0] at h5
      subst h5
      go_enter Tryz.func9, Tryz.ntmps9
      go_wp2
      go_ret
      refine ⟨?_, rfl⟩
      have e : -t + 1100 = 1100 - t := by omega
      simp only [e]
      rfl

def lfofD : List (FuncId × Ans) :=
  [(4, ansT [([], .v (.one (.lit (.bool true))))]),
   (5, ansT [([.agg [.atom (.sym 5), .atom (.sym 100), .atom (.sym 101)]], .v (avQ (.v 0)))]),
   (8, ansT [([.one (.lit (.int .u64 1))], .v (.one (.atom (.num (.v 10)))))]),
   (9, ansT [([.one (.atom (.sym 1)), .one (.lit (.int .i64 (1100)))], .v (.one (.atom (.sym 6)))), ([.one (.atom (.sym 4)), .one (.lit (.int .i64 (5)))], .v (.one (.atom (.sym 7))))]),
   (7, ansT [([.one (.atom (.num (.v 10))), .one (.atom (.sym 6))], .v (.one (.atom (.num (.v 11)))))]),
   (6, ansT [([.one (.lit (.bool false)), .one (.atom (.num (.v 11))), .one (.atom (.num (.v 10)))], .tup [avQ (.v 1), .one (.lit (.int .i64 (0)))])]),
   (10, ansT [([avQ (.v 0), avQ (.v 1)], .v (avQ (.v 2)))]),
   (30, ansT [([avQ (.v 0), avQ (.v 1)], .tup [avQ (.v 3), .one (.lit (.int .i64 (0)))])]),
   (12, ansT [([.one (.atom (.sym 1))], .v (avQ (.v 4)))]),
   (13, ansT [([avQ (.v 0), .one (.atom (.sym 7))], .tup [.one (.atom (.sym 10)), .one (.atom (.sym 11))]), ([avQ (.v 2), .one (.atom (.sym 7))], .tup [.one (.atom (.sym 12)), .one (.atom (.sym 13))]), ([avQ (.v 3), .one (.atom (.sym 7))], .tup [.one (.atom (.sym 14)), .one (.atom (.sym 15))]), ([avQ (.v 4), .one (.atom (.sym 7))], .tup [.one (.atom (.sym 16)), .one (.atom (.sym 17))])]),
   (14, ansT [([avQ (.v 0), .one (.atom (.sym 7))], .tup [.one (.atom (.sym 10)), .one (.atom (.sym 11))]), ([avQ (.v 2), .one (.atom (.sym 7))], .tup [.one (.atom (.sym 12)), .one (.atom (.sym 13))]), ([avQ (.v 3), .one (.atom (.sym 7))], .tup [.one (.atom (.sym 14)), .one (.atom (.sym 15))]), ([avQ (.v 4), .one (.atom (.sym 7))], .tup [.one (.atom (.sym 16)), .one (.atom (.sym 17))])]),
   (16, ansT [([.one (.atom (.sym 2)), .one (.atom (.sym 3))], .v (.one (.atom (.sym 8))))]),
   (15, ansT [([.one (.atom (.sym 8))], .tup [avQ (.v 5), .one (.lit (.int .i64 (0)))])]),
   (17, ansT [([.one (.atom (.sym 8))], .tup [avQ (.v 5), .one (.lit (.int .i64 (0)))])]),
   (18, ansT [([avQ (.v 5), avQ (.v 5)], .v (.one (.lit (.bool true))))])]
def lfofL : BT := [(.neq, .atom (.sym 10), .atom (.sym 10), .lit (.bool false)), (.neq, .atom (.sym 11), .atom (.sym 11), .lit (.bool false)), (.neq, .atom (.sym 12), .atom (.sym 12), .lit (.bool false)), (.neq, .atom (.sym 13), .atom (.sym 13), .lit (.bool false)), (.neq, .atom (.sym 14), .atom (.sym 14), .lit (.bool false)), (.neq, .atom (.sym 15), .atom (.sym 15), .lit (.bool false)), (.neq, .atom (.sym 16), .atom (.sym 16), .lit (.bool false)), (.neq, .atom (.sym 17), .atom (.sym 17), .lit (.bool false))]
def lfofM : BT := []
def lfofN : At → Option Nat
  | _ => none

set_option maxRecDepth 1000000 in
theorem lfofTold : ∃ t : Tr Func, TabOK Tryz.prog t ∧ (isAV (.v (.one (.lit (.bool true)))) (evalCall ⟨Tryz.prog, true, t.get, orcD (lfofD ), (opH (bigHook Tryz.prog true) (opH (symHook Tryz.prog lfofN (fun _ _ _ => none)) (tabHook (lfofL ) lfofM)))⟩ 1000 3 [.agg [.atom (.sym 5), .atom (.sym 100), .atom (.sym 101)], .one (.atom (.sym 1)), .one (.atom (.sym 2)), .one (.atom (.sym 3)), .one (.atom (.sym 4))] .e 0) = true) :=
  ⟨(((((((((((((((((Tr.e).put 3 (some Tryz.f3)).put 11 (some Tryz.f11)).put 4 (some Tryz.f4)).put 5 (some Tryz.f5)).put 8 (some Tryz.f8)).put 9 (some Tryz.f9)).put 7 (some Tryz.f7)).put 6 (some Tryz.f6)).put 10 (some Tryz.f10)).put 30 (some Tryz.f30)).put 12 (some Tryz.f12)).put 13 (some Tryz.f13)).put 14 (some Tryz.f14)).put 16 (some Tryz.f16)).put 15 (some Tryz.f15)).put 17 (some Tryz.f17)).put 18 (some Tryz.f18),
   (TabOK.put (TabOK.put (TabOK.put (TabOK.put (TabOK.put (TabOK.put (TabOK.put (TabOK.put (TabOK.put (TabOK.put (TabOK.put (TabOK.put (TabOK.put (TabOK.put (TabOK.put (TabOK.put (TabOK.put (TabOK.e _) ⟨Tryz.func3, by decide +kernel, by decide +kernel⟩) ⟨Tryz.func11, by decide +kernel, by decide +kernel⟩) ⟨Tryz.func4, by decide +kernel, by decide +kernel⟩) ⟨Tryz.func5, by decide +kernel, by decide +kernel⟩) ⟨Tryz.func8, by decide +kernel, by decide +kernel⟩) ⟨Tryz.func9, by decide +kernel, by decide +kernel⟩) ⟨Tryz.func7, by decide +kernel, by decide +kernel⟩) ⟨Tryz.func6, by decide +kernel, by decide +kernel⟩) ⟨Tryz.func10, by decide +kernel, by decide +kernel⟩) ⟨Tryz.func30, by decide +kernel, by decide +kernel⟩) ⟨Tryz.func12, by decide +kernel, by decide +kernel⟩) ⟨Tryz.func13, by decide +kernel, by decide +kernel⟩) ⟨Tryz.func14, by decide +kernel, by decide +kernel⟩) ⟨Tryz.func16, by decide +kernel, by decide +kernel⟩) ⟨Tryz.func15, by decide +kernel, by decide +kernel⟩) ⟨Tryz.func17, by decide +kernel, by decide +kernel⟩) ⟨Tryz.func18, by decide +kernel, by decide +kernel⟩),
   by decide +kernel⟩

set_option maxHeartbeats 4000000 in
set_option maxRecDepth 100000 in
theorem lfof_tab {w : World} (hR : Ru w) {vN vD : Value} {s : Bool} {xs ys : List Nat} {q : Rat} (rN : Rd w vN xs) (rD : Rd w vD ys) (hq : q = rawQ s xs ys) (bq : nr q ≤ 3) (k : Int) (f x : Nat) (n mode : Int) (hf : f < 18446744073709551616) (hx : x < 18446744073709551616)
    (n1 : -9223372036854775808 ≤ n) (n2 : n ≤ 9223372036854775807) (k1 : -9223372036854775808 ≤ k) (k2 : k ≤ 9223372036854775807) (o1 : -9223372036854775808 ≤ mode) (o2 : mode ≤ 9223372036854775807)
    (cx : ∀ w : World, Calls Tryz.prog 16 #[.int .u64 f, .int .i64 n] w fun e w' => e = .returned (.int .u64 x) ∧ Fwd w w') (hx1 : fsz x < 9218868437227405312) :
    Calls Tryz.prog 3 #[.agg #[.bool s, vN, vD], .int .i64 k, .int .u64 f, .int .i64 n, .int .i64 mode] w fun e w' => e = .returned (.bool true) ∧ Below w.heap.size w w' := by
  have cM : ∀ (w : World), Rd w vN xs → Rd w vD ys → Calls Tryz.prog 5 #[.agg #[.bool s, vN, vD]] w fun e w' => ∃ v, e = .returned v ∧ RV w' v q ∧ Fwd w w' := fun w h1 h2 => by
    have := make2law_any (w := w) (a := .agg #[.bool s, vN, vD]) (s := s) (xs := xs) (ys := ys) ⟨vN, vD, rfl, h1, h2⟩; rwa [← hq] at this
  have hk1 : (k % 1100).toNat < 1100 := by omega
  have hk2 : (((k % 1100).toNat : Nat) : Int) = k % 1100 := by omega
  have bP : nl (2 ^ (k % 1100).toNat) ≤ 37 := by have := nl_shl 1 (k % 1100).toNat; rw [Nat.one_mul] at this; have := nl_two' (n := 1) (by decide); omega
  have hP0 : (2 ^ (k % 1100).toNat) ≠ 0 := by have := Nat.two_pow_pos (k % 1100).toNat; omega
  have bU : nr (mkQ false (2 ^ (k % 1100).toNat) 1) ≤ 37 := by have := nr_mkQ false (2 ^ (k % 1100).toNat) 1 (by omega); have := nl_two' (n := 1) (by decide); omega
  have hU0 : mkQ false (2 ^ (k % 1100).toNat) 1 ≠ 0 := fun h => by have := mkQ_abs (neg := false) (n := (2 ^ (k % 1100).toNat)) (d := 1) (by omega); rw [h, Nat.gcd_one_right, Nat.div_one] at this; exact hP0 this.symm
  have bM := nr_mul q (mkQ false (2 ^ (k % 1100).toNat) 1)
  have bD := nr_div (a := q) hU0
  have bS := nr_smallB k
  have cS : ∀ (w : World) (u : Value), Num w u 1 → Calls Tryz.prog 7 #[u, .int .i64 (k % 1100)] w fun e w' => ∃ x, e = .returned x ∧ Num w' x (2 ^ (k % 1100).toNat) ∧ Fwd w w' := fun w u h => by
    have := refShl_any (k % 1100).toNat h (by have := nl_two' (n := 1) (by decide); omega) (by omega); rw [hk2, Nat.one_mul] at this; exact this
  have bX := nr_fvQ1 hx1
  obtain ⟨t, ht, hr⟩ := lfofTold
  obtain ⟨dl, n', he⟩ := isAV_ok (hr)
  let ν : Nat → Rat := nuL [q, mkQ false (2 ^ (k % 1100).toNat) 1, q * mkQ false (2 ^ (k % 1100).toNat) 1, q / mkQ false (2 ^ (k % 1100).toNat) 1, smallQ k, fvQ x] [1, (2 ^ (k % 1100).toNat)]
  let σ : SymD := symR [.i 0, .i k, .u f, .i n, .i mode, .b s, .i (k % 1100), .i (mode % 5), .u x, .i 0, .u (ofN (mode % 5) (q)).1, .i ((ofN (mode % 5) (q)).2 : Int), .u (ofN (mode % 5) (q * mkQ false (2 ^ (k % 1100).toNat) 1)).1, .i ((ofN (mode % 5) (q * mkQ false (2 ^ (k % 1100).toNat) 1)).2 : Int), .u (ofN (mode % 5) (q / mkQ false (2 ^ (k % 1100).toNat) 1)).1, .i ((ofN (mode % 5) (q / mkQ false (2 ^ (k % 1100).toNat) 1)).2 : Int), .u (ofN (mode % 5) (smallQ k)).1, .i ((ofN (mode % 5) (smallQ k)).2 : Int)] vN vD xs ys (rdC rN) (rdC rD)
  have hcx : CxOK (DomQ true ν σ ruG) w.heap.size ⟨Tryz.prog, true, t.get, orcD (lfofD ), (opH (bigHook Tryz.prog true) (opH (symHook Tryz.prog lfofN (fun _ _ _ => none)) (tabHook (lfofL ) lfofM)))⟩ := cxS_ok (M := (DomQ true ν σ ruG)) ht ⟨[
      orcT 4 [
        { args := [], ans := .v (.one (.lit (.bool true))), ok := by
            intro B ρ w S vs hS hr
            match vs, hr with
            | [], _ =>
              skip
              refine (known3_any (ru_of hS)).mono ?_
              rintro e w' ⟨rfl, hf⟩
              exact ⟨_, rfl, ⟨rfl, rfl⟩, hf⟩ }],
      orcT 5 [
        { args := [.agg [.atom (.sym 5), .atom (.sym 100), .atom (.sym 101)]], ans := .v (avQ (.v 0)), ok := by
            intro B ρ w S vs hS hr
            match vs, hr with
            | [u0], ⟨z0, _⟩ =>
              obtain ⟨us0, rfl, y0⟩ := z0
              match us0, y0 with
              | [v0_0, v0_1, v0_2], ⟨y0_0, y0_1, y0_2, _⟩ =>
              obtain ⟨rfl, f0_0⟩ : v0_0 = _ ∧ _ := y0_0
              obtain ⟨rfl, f0_1⟩ : v0_1 = _ ∧ _ := y0_1
              obtain ⟨rfl, f0_2⟩ : v0_2 = _ ∧ _ := y0_2
              refine (cM _ (f0_2 rfl rfl).1 (f0_2 rfl rfl).2).mono ?_
              rintro e w' ⟨v, rfl, g0, hf⟩
              exact ⟨_, rfl, (avQ_rel g0), hf⟩ }],
      orcT 8 [
        { args := [.one (.lit (.int .u64 1))], ans := .v (.one (.atom (.num (.v 10)))), ok := by
            intro B ρ w S vs hS hr
            match vs, hr with
            | [u0], ⟨z0, _⟩ =>
              obtain ⟨rfl, _⟩ : u0 = _ ∧ _ := z0
              refine (refOf_any w 1 (by decide)).mono ?_
              rintro e w' ⟨v, rfl, g0, hf⟩
              exact ⟨_, rfl, ⟨rfl, g0⟩, hf⟩ }],
      orcT 9 [
        { args := [.one (.atom (.sym 1)), .one (.lit (.int .i64 (1100)))], ans := .v (.one (.atom (.sym 6))), ok := by
            intro B ρ w S vs hS hr
            match vs, hr with
            | [u0, u1], ⟨z0, z1, _⟩ =>
              obtain ⟨rfl, _⟩ : u0 = _ ∧ _ := z0
              obtain ⟨rfl, _⟩ : u1 = _ ∧ _ := z1
              refine ((within3_1100 w k k1 k2).mono (R' := fun e w' => e = .returned (.int .i64 (k % 1100)) ∧ Fwd w w') (fun e w' gg => ⟨gg.1, gg.2 ▸ Fwd.refl _⟩)).mono ?_
              rintro e w' ⟨rfl, hf⟩
              exact ⟨_, rfl, ⟨rfl, fun _ h => absurd h (by decide)⟩, hf⟩ },
        { args := [.one (.atom (.sym 4)), .one (.lit (.int .i64 (5)))], ans := .v (.one (.atom (.sym 7))), ok := by
            intro B ρ w S vs hS hr
            match vs, hr with
            | [u0, u1], ⟨z0, z1, _⟩ =>
              obtain ⟨rfl, _⟩ : u0 = _ ∧ _ := z0
              obtain ⟨rfl, _⟩ : u1 = _ ∧ _ := z1
              refine ((within3_5 w mode o1 o2).mono (R' := fun e w' => e = .returned (.int .i64 (mode % 5)) ∧ Fwd w w') (fun e w' gg => ⟨gg.1, gg.2 ▸ Fwd.refl _⟩)).mono ?_
              rintro e w' ⟨rfl, hf⟩
              exact ⟨_, rfl, ⟨rfl, fun _ h => absurd h (by decide)⟩, hf⟩ }],
      orcT 7 [
        { args := [.one (.atom (.num (.v 10))), .one (.atom (.sym 6))], ans := .v (.one (.atom (.num (.v 11)))), ok := by
            intro B ρ w S vs hS hr
            match vs, hr with
            | [u0, u1], ⟨z0, z1, _⟩ =>
              have k0 : Num w u0 _ := z0.2
              obtain ⟨rfl, _⟩ : u1 = _ ∧ _ := z1
              refine (cS _ _ k0).mono ?_
              rintro e w' ⟨v, rfl, g0, hf⟩
              exact ⟨_, rfl, ⟨rfl, g0⟩, hf⟩ }],
      orcT 6 [
        { args := [.one (.lit (.bool false)), .one (.atom (.num (.v 11))), .one (.atom (.num (.v 10)))], ans := .tup [avQ (.v 1), .one (.lit (.int .i64 (0)))], ok := by
            intro B ρ w S vs hS hr
            match vs, hr with
            | [u0, u1, u2], ⟨z0, z1, z2, _⟩ =>
              obtain ⟨rfl, _⟩ : u0 = _ ∧ _ := z0
              have k1 : Num w u1 _ := z1.2
              have k2 : Num w u2 _ := z2.2
              refine (make2_any (N := (2 ^ (k % 1100).toNat)) (D := 1) false k1 k2 (by omega) (by have := nl_two' (n := 1) (by decide); omega) (by omega)).mono ?_
              rintro e w' ⟨v, rfl, g0, hf⟩
              exact ⟨_, rfl, ⟨[_, _], rfl, (avQ_rel g0), ⟨rfl, rfl⟩, trivial⟩, hf⟩ }],
      orcT 10 [
        { args := [avQ (.v 0), avQ (.v 1)], ans := .v (avQ (.v 2)), ok := by
            intro B ρ w S vs hS hr
            match vs, hr with
            | [u0, u1], ⟨z0, z1, _⟩ =>
              have k0 := avQ_rv z0
              have k1 := avQ_rv z1
              refine (mul2_any (p := q) (q := mkQ false (2 ^ (k % 1100).toNat) 1) k0 k1 (by omega) (by omega)).mono ?_
              rintro e w' ⟨v, rfl, g0, hf⟩
              exact ⟨_, rfl, (avQ_rel g0), hf⟩ }],
      orcT 30 [
        { args := [avQ (.v 0), avQ (.v 1)], ans := .tup [avQ (.v 3), .one (.lit (.int .i64 (0)))], ok := by
            intro B ρ w S vs hS hr
            match vs, hr with
            | [u0, u1], ⟨z0, z1, _⟩ =>
              have k0 := avQ_rv z0
              have k1 := avQ_rv z1
              refine (quo2_any (p := q) (q := mkQ false (2 ^ (k % 1100).toNat) 1) k0 k1 (by omega) (by omega) hU0).mono ?_
              rintro e w' ⟨v, rfl, g0, hf⟩
              exact ⟨_, rfl, ⟨[_, _], rfl, (avQ_rel g0), ⟨rfl, rfl⟩, trivial⟩, hf⟩ }],
      orcT 12 [
        { args := [.one (.atom (.sym 1))], ans := .v (avQ (.v 4)), ok := by
            intro B ρ w S vs hS hr
            match vs, hr with
            | [u0], ⟨z0, _⟩ =>
              obtain ⟨rfl, _⟩ : u0 = _ ∧ _ := z0
              refine (smallR_any w k k1 k2).mono ?_
              rintro e w' ⟨v, rfl, g0, hf⟩
              exact ⟨_, rfl, (avQ_rel g0), hf⟩ }],
      orcT 13 [
        { args := [avQ (.v 0), .one (.atom (.sym 7))], ans := .tup [.one (.atom (.sym 10)), .one (.atom (.sym 11))], ok := by
            intro B ρ w S vs hS hr
            match vs, hr with
            | [u0, u1], ⟨z0, z1, _⟩ =>
              have k0 := avQ_rv z0
              obtain ⟨rfl, _⟩ : u1 = _ ∧ _ := z1
              refine (ofP_any (q := q) (ru_of hS) (mode % 5) k0 (by omega)).mono ?_
              rintro e w' ⟨rfl, hf⟩
              exact ⟨_, rfl, ⟨[_, _], rfl, ⟨rfl, fun _ h => absurd h (by decide)⟩, ⟨rfl, fun _ h => absurd h (by decide)⟩, trivial⟩, hf⟩ },
        { args := [avQ (.v 2), .one (.atom (.sym 7))], ans := .tup [.one (.atom (.sym 12)), .one (.atom (.sym 13))], ok := by
            intro B ρ w S vs hS hr
            match vs, hr with
            | [u0, u1], ⟨z0, z1, _⟩ =>
              have k0 := avQ_rv z0
              obtain ⟨rfl, _⟩ : u1 = _ ∧ _ := z1
              refine (ofP_any (q := q * mkQ false (2 ^ (k % 1100).toNat) 1) (ru_of hS) (mode % 5) k0 (by omega)).mono ?_
              rintro e w' ⟨rfl, hf⟩
              exact ⟨_, rfl, ⟨[_, _], rfl, ⟨rfl, fun _ h => absurd h (by decide)⟩, ⟨rfl, fun _ h => absurd h (by decide)⟩, trivial⟩, hf⟩ },
        { args := [avQ (.v 3), .one (.atom (.sym 7))], ans := .tup [.one (.atom (.sym 14)), .one (.atom (.sym 15))], ok := by
            intro B ρ w S vs hS hr
            match vs, hr with
            | [u0, u1], ⟨z0, z1, _⟩ =>
              have k0 := avQ_rv z0
              obtain ⟨rfl, _⟩ : u1 = _ ∧ _ := z1
              refine (ofP_any (q := q / mkQ false (2 ^ (k % 1100).toNat) 1) (ru_of hS) (mode % 5) k0 (by omega)).mono ?_
              rintro e w' ⟨rfl, hf⟩
              exact ⟨_, rfl, ⟨[_, _], rfl, ⟨rfl, fun _ h => absurd h (by decide)⟩, ⟨rfl, fun _ h => absurd h (by decide)⟩, trivial⟩, hf⟩ },
        { args := [avQ (.v 4), .one (.atom (.sym 7))], ans := .tup [.one (.atom (.sym 16)), .one (.atom (.sym 17))], ok := by
            intro B ρ w S vs hS hr
            match vs, hr with
            | [u0, u1], ⟨z0, z1, _⟩ =>
              have k0 := avQ_rv z0
              obtain ⟨rfl, _⟩ : u1 = _ ∧ _ := z1
              refine (ofP_any (q := smallQ k) (ru_of hS) (mode % 5) k0 (by omega)).mono ?_
              rintro e w' ⟨rfl, hf⟩
              exact ⟨_, rfl, ⟨[_, _], rfl, ⟨rfl, fun _ h => absurd h (by decide)⟩, ⟨rfl, fun _ h => absurd h (by decide)⟩, trivial⟩, hf⟩ }],
      orcT 14 [
        { args := [avQ (.v 0), .one (.atom (.sym 7))], ans := .tup [.one (.atom (.sym 10)), .one (.atom (.sym 11))], ok := by
            intro B ρ w S vs hS hr
            match vs, hr with
            | [u0, u1], ⟨z0, z1, _⟩ =>
              have k0 := avQ_rv z0
              obtain ⟨rfl, _⟩ : u1 = _ ∧ _ := z1
              refine (ofS_any (q := q) (mode % 5) k0 (by omega)).mono ?_
              rintro e w' ⟨rfl, hf⟩
              exact ⟨_, rfl, ⟨[_, _], rfl, ⟨rfl, fun _ h => absurd h (by decide)⟩, ⟨rfl, fun _ h => absurd h (by decide)⟩, trivial⟩, hf⟩ },
        { args := [avQ (.v 2), .one (.atom (.sym 7))], ans := .tup [.one (.atom (.sym 12)), .one (.atom (.sym 13))], ok := by
            intro B ρ w S vs hS hr
            match vs, hr with
            | [u0, u1], ⟨z0, z1, _⟩ =>
              have k0 := avQ_rv z0
              obtain ⟨rfl, _⟩ : u1 = _ ∧ _ := z1
              refine (ofS_any (q := q * mkQ false (2 ^ (k % 1100).toNat) 1) (mode % 5) k0 (by omega)).mono ?_
              rintro e w' ⟨rfl, hf⟩
              exact ⟨_, rfl, ⟨[_, _], rfl, ⟨rfl, fun _ h => absurd h (by decide)⟩, ⟨rfl, fun _ h => absurd h (by decide)⟩, trivial⟩, hf⟩ },
        { args := [avQ (.v 3), .one (.atom (.sym 7))], ans := .tup [.one (.atom (.sym 14)), .one (.atom (.sym 15))], ok := by
            intro B ρ w S vs hS hr
            match vs, hr with
            | [u0, u1], ⟨z0, z1, _⟩ =>
              have k0 := avQ_rv z0
              obtain ⟨rfl, _⟩ : u1 = _ ∧ _ := z1
              refine (ofS_any (q := q / mkQ false (2 ^ (k % 1100).toNat) 1) (mode % 5) k0 (by omega)).mono ?_
              rintro e w' ⟨rfl, hf⟩
              exact ⟨_, rfl, ⟨[_, _], rfl, ⟨rfl, fun _ h => absurd h (by decide)⟩, ⟨rfl, fun _ h => absurd h (by decide)⟩, trivial⟩, hf⟩ },
        { args := [avQ (.v 4), .one (.atom (.sym 7))], ans := .tup [.one (.atom (.sym 16)), .one (.atom (.sym 17))], ok := by
            intro B ρ w S vs hS hr
            match vs, hr with
            | [u0, u1], ⟨z0, z1, _⟩ =>
              have k0 := avQ_rv z0
              obtain ⟨rfl, _⟩ : u1 = _ ∧ _ := z1
              refine (ofS_any (q := smallQ k) (mode % 5) k0 (by omega)).mono ?_
              rintro e w' ⟨rfl, hf⟩
              exact ⟨_, rfl, ⟨[_, _], rfl, ⟨rfl, fun _ h => absurd h (by decide)⟩, ⟨rfl, fun _ h => absurd h (by decide)⟩, trivial⟩, hf⟩ }],
      orcT 16 [
        { args := [.one (.atom (.sym 2)), .one (.atom (.sym 3))], ans := .v (.one (.atom (.sym 8))), ok := by
            intro B ρ w S vs hS hr
            match vs, hr with
            | [u0, u1], ⟨z0, z1, _⟩ =>
              obtain ⟨rfl, _⟩ : u0 = _ ∧ _ := z0
              obtain ⟨rfl, _⟩ : u1 = _ ∧ _ := z1
              refine (cx _).mono ?_
              rintro e w' ⟨rfl, hf⟩
              exact ⟨_, rfl, ⟨rfl, fun _ h => absurd h (by decide)⟩, hf⟩ }],
      orcT 15 [
        { args := [.one (.atom (.sym 8))], ans := .tup [avQ (.v 5), .one (.lit (.int .i64 (0)))], ok := by
            intro B ρ w S vs hS hr
            match vs, hr with
            | [u0], ⟨z0, _⟩ =>
              obtain ⟨rfl, _⟩ : u0 = _ ∧ _ := z0
              refine (rat3_any x hx hx1).mono ?_
              rintro e w' ⟨v, rfl, g0, hf⟩
              exact ⟨_, rfl, ⟨[_, _], rfl, (avQ_rel g0), ⟨rfl, rfl⟩, trivial⟩, hf⟩ }],
      orcT 17 [
        { args := [.one (.atom (.sym 8))], ans := .tup [avQ (.v 5), .one (.lit (.int .i64 (0)))], ok := by
            intro B ρ w S vs hS hr
            match vs, hr with
            | [u0], ⟨z0, _⟩ =>
              obtain ⟨rfl, _⟩ : u0 = _ ∧ _ := z0
              refine (refRat_any x hx hx1).mono ?_
              rintro e w' ⟨v, rfl, g0, hf⟩
              exact ⟨_, rfl, ⟨[_, _], rfl, (avQ_rel g0), ⟨rfl, rfl⟩, trivial⟩, hf⟩ }],
      orcT 18 [
        { args := [avQ (.v 5), avQ (.v 5)], ans := .v (.one (.lit (.bool true))), ok := by
            intro B ρ w S vs hS hr
            match vs, hr with
            | [u0, u1], ⟨z0, z1, _⟩ =>
              have k0 := avQ_rv z0
              have k1 := avQ_rv z1
              refine (same2_true (p := fvQ x) (q := fvQ x) k0 k1 (by omega) (by omega) rfl).mono ?_
              rintro e w' ⟨rfl, hf⟩
              exact ⟨_, rfl, ⟨rfl, rfl⟩, hf⟩ }]], rfl⟩
    (opH_le (bigHook_le _ _) (opH_le (symHook_le _ _ _) (tabHook_le _ _)))
    (opH_ok (bigHook_ok _) (opH_ok (symHook_ok _ (fun h => by cases h) (fun h => by cases h)) (tabHook_ok _ (all_cons (BOk.mk rfl rfl rfl (fun i hi w h => by first | (cases hi; done) | (cases hi; exact absurd h (by decide))) rfl rfl (bo_neq (by simp))) (all_cons (BOk.mk rfl rfl rfl (fun i hi w h => by first | (cases hi; done) | (cases hi; exact absurd h (by decide))) rfl rfl (bo_neq (by simp))) (all_cons (BOk.mk rfl rfl rfl (fun i hi w h => by first | (cases hi; done) | (cases hi; exact absurd h (by decide))) rfl rfl (bo_neq (by simp))) (all_cons (BOk.mk rfl rfl rfl (fun i hi w h => by first | (cases hi; done) | (cases hi; exact absurd h (by decide))) rfl rfl (bo_neq (by simp))) (all_cons (BOk.mk rfl rfl rfl (fun i hi w h => by first | (cases hi; done) | (cases hi; exact absurd h (by decide))) rfl rfl (bo_neq (by simp))) (all_cons (BOk.mk rfl rfl rfl (fun i hi w h => by first | (cases hi; done) | (cases hi; exact absurd h (by decide))) rfl rfl (bo_neq (by simp))) (all_cons (BOk.mk rfl rfl rfl (fun i hi w h => by first | (cases hi; done) | (cases hi; exact absurd h (by decide))) rfl rfl (bo_neq (by simp))) (all_cons (BOk.mk rfl rfl rfl (fun i hi w h => by first | (cases hi; done) | (cases hi; exact absurd h (by decide))) rfl rfl (bo_neq (by simp))) all_nil)))))))) all_nil)))
  refine (told_call (M := (DomQ true ν σ ruG)) (cx := ⟨Tryz.prog, true, t.get, orcD (lfofD ), (opH (bigHook Tryz.prog true) (opH (symHook Tryz.prog lfofN (fun _ _ _ => none)) (tabHook (lfofL ) lfofM)))⟩) (xs := [.agg [.atom (.sym 5), .atom (.sym 100), .atom (.sym 101)], .one (.atom (.sym 1)), .one (.atom (.sym 2)), .one (.atom (.sym 3)), .one (.atom (.sym 4))]) (vs := [.agg #[.bool s, vN, vD], .int .i64 k, .int .u64 f, .int .i64 n, .int .i64 mode]) Tryz.checked.mixed hcx (fun hg => ruG_ok hR hg) ⟨⟨[.bool s, vN, vD], rfl, ⟨rfl, fun _ h => absurd h (by decide)⟩, ⟨rfl, fun _ h => absurd h (by decide)⟩, ⟨rfl, fun _ _ => ⟨rN, rD⟩⟩, trivial⟩, ⟨rfl, fun _ h => absurd h (by decide)⟩, ⟨rfl, fun _ h => absurd h (by decide)⟩, ⟨rfl, fun _ h => absurd h (by decide)⟩, ⟨rfl, fun _ h => absurd h (by decide)⟩, trivial⟩ he).mono ?_
  rintro e w' ⟨v, ρ', rfl, hv, hbel⟩
  obtain ⟨rfl, _⟩ : v = _ ∧ _ := hv
  exact ⟨rfl, hbel⟩

def lfoeD : List (FuncId × Ans) :=
  [(4, ansT [([], .v (.one (.lit (.bool true))))]),
   (5, ansT [([.agg [.atom (.sym 5), .atom (.sym 100), .atom (.sym 101)]], .v (avQ (.v 0)))]),
   (8, ansT [([.one (.lit (.int .u64 1))], .v (.one (.atom (.num (.v 10)))))]),
   (9, ansT [([.one (.atom (.sym 1)), .one (.lit (.int .i64 (1100)))], .v (.one (.atom (.sym 6)))), ([.one (.atom (.sym 4)), .one (.lit (.int .i64 (5)))], .v (.one (.atom (.sym 7))))]),
   (7, ansT [([.one (.atom (.num (.v 10))), .one (.atom (.sym 6))], .v (.one (.atom (.num (.v 11)))))]),
   (6, ansT [([.one (.lit (.bool false)), .one (.atom (.num (.v 11))), .one (.atom (.num (.v 10)))], .tup [avQ (.v 1), .one (.lit (.int .i64 (0)))])]),
   (10, ansT [([avQ (.v 0), avQ (.v 1)], .v (avQ (.v 2)))]),
   (30, ansT [([avQ (.v 0), avQ (.v 1)], .tup [avQ (.v 3), .one (.lit (.int .i64 (0)))])]),
   (12, ansT [([.one (.atom (.sym 1))], .v (avQ (.v 4)))]),
   (13, ansT [([avQ (.v 0), .one (.atom (.sym 7))], .tup [.one (.atom (.sym 10)), .one (.atom (.sym 11))]), ([avQ (.v 2), .one (.atom (.sym 7))], .tup [.one (.atom (.sym 12)), .one (.atom (.sym 13))]), ([avQ (.v 3), .one (.atom (.sym 7))], .tup [.one (.atom (.sym 14)), .one (.atom (.sym 15))]), ([avQ (.v 4), .one (.atom (.sym 7))], .tup [.one (.atom (.sym 16)), .one (.atom (.sym 17))])]),
   (14, ansT [([avQ (.v 0), .one (.atom (.sym 7))], .tup [.one (.atom (.sym 10)), .one (.atom (.sym 11))]), ([avQ (.v 2), .one (.atom (.sym 7))], .tup [.one (.atom (.sym 12)), .one (.atom (.sym 13))]), ([avQ (.v 3), .one (.atom (.sym 7))], .tup [.one (.atom (.sym 14)), .one (.atom (.sym 15))]), ([avQ (.v 4), .one (.atom (.sym 7))], .tup [.one (.atom (.sym 16)), .one (.atom (.sym 17))])]),
   (16, ansT [([.one (.atom (.sym 2)), .one (.atom (.sym 3))], .v (.one (.atom (.sym 8))))]),
   (15, ansT [([.one (.atom (.sym 8))], .tup [.agg [.lit (.bool false), .lit (.slice none 0 0), .lit (.slice none 0 0)], .one (.lit (.int .i64 (10)))])]),
   (17, ansT [([.one (.atom (.sym 8))], .tup [.agg [.lit (.bool false), .lit (.slice none 0 0), .lit (.slice none 0 0)], .one (.lit (.int .i64 (10)))])])]
def lfoeL : BT := [(.neq, .atom (.sym 10), .atom (.sym 10), .lit (.bool false)), (.neq, .atom (.sym 11), .atom (.sym 11), .lit (.bool false)), (.neq, .atom (.sym 12), .atom (.sym 12), .lit (.bool false)), (.neq, .atom (.sym 13), .atom (.sym 13), .lit (.bool false)), (.neq, .atom (.sym 14), .atom (.sym 14), .lit (.bool false)), (.neq, .atom (.sym 15), .atom (.sym 15), .lit (.bool false)), (.neq, .atom (.sym 16), .atom (.sym 16), .lit (.bool false)), (.neq, .atom (.sym 17), .atom (.sym 17), .lit (.bool false))]
def lfoeM : BT := []
def lfoeN : At → Option Nat
  | _ => none

set_option maxRecDepth 1000000 in
theorem lfoeTold : ∃ t : Tr Func, TabOK Tryz.prog t ∧ (isAV (.v (.one (.lit (.bool true)))) (evalCall ⟨Tryz.prog, true, t.get, orcD (lfoeD ), (opH (bigHook Tryz.prog true) (opH (symHook Tryz.prog lfoeN (fun _ _ _ => none)) (tabHook (lfoeL ) lfoeM)))⟩ 1000 3 [.agg [.atom (.sym 5), .atom (.sym 100), .atom (.sym 101)], .one (.atom (.sym 1)), .one (.atom (.sym 2)), .one (.atom (.sym 3)), .one (.atom (.sym 4))] .e 0) = true) :=
  ⟨((((((((((((((((((Tr.e).put 3 (some Tryz.f3)).put 18 (some Tryz.f18)).put 23 (some Tryz.f23)).put 11 (some Tryz.f11)).put 4 (some Tryz.f4)).put 5 (some Tryz.f5)).put 8 (some Tryz.f8)).put 9 (some Tryz.f9)).put 7 (some Tryz.f7)).put 6 (some Tryz.f6)).put 10 (some Tryz.f10)).put 30 (some Tryz.f30)).put 12 (some Tryz.f12)).put 13 (some Tryz.f13)).put 14 (some Tryz.f14)).put 16 (some Tryz.f16)).put 15 (some Tryz.f15)).put 17 (some Tryz.f17),
   (TabOK.put (TabOK.put (TabOK.put (TabOK.put (TabOK.put (TabOK.put (TabOK.put (TabOK.put (TabOK.put (TabOK.put (TabOK.put (TabOK.put (TabOK.put (TabOK.put (TabOK.put (TabOK.put (TabOK.put (TabOK.put (TabOK.e _) ⟨Tryz.func3, by decide +kernel, by decide +kernel⟩) ⟨Tryz.func18, by decide +kernel, by decide +kernel⟩) ⟨Tryz.func23, by decide +kernel, by decide +kernel⟩) ⟨Tryz.func11, by decide +kernel, by decide +kernel⟩) ⟨Tryz.func4, by decide +kernel, by decide +kernel⟩) ⟨Tryz.func5, by decide +kernel, by decide +kernel⟩) ⟨Tryz.func8, by decide +kernel, by decide +kernel⟩) ⟨Tryz.func9, by decide +kernel, by decide +kernel⟩) ⟨Tryz.func7, by decide +kernel, by decide +kernel⟩) ⟨Tryz.func6, by decide +kernel, by decide +kernel⟩) ⟨Tryz.func10, by decide +kernel, by decide +kernel⟩) ⟨Tryz.func30, by decide +kernel, by decide +kernel⟩) ⟨Tryz.func12, by decide +kernel, by decide +kernel⟩) ⟨Tryz.func13, by decide +kernel, by decide +kernel⟩) ⟨Tryz.func14, by decide +kernel, by decide +kernel⟩) ⟨Tryz.func16, by decide +kernel, by decide +kernel⟩) ⟨Tryz.func15, by decide +kernel, by decide +kernel⟩) ⟨Tryz.func17, by decide +kernel, by decide +kernel⟩),
   by decide +kernel⟩

set_option maxHeartbeats 4000000 in
set_option maxRecDepth 100000 in
theorem lfoe_tab {w : World} (hR : Ru w) {vN vD : Value} {s : Bool} {xs ys : List Nat} {q : Rat} (rN : Rd w vN xs) (rD : Rd w vD ys) (hq : q = rawQ s xs ys) (bq : nr q ≤ 3) (k : Int) (f x : Nat) (n mode : Int) (hf : f < 18446744073709551616) (hx : x < 18446744073709551616)
    (n1 : -9223372036854775808 ≤ n) (n2 : n ≤ 9223372036854775807) (k1 : -9223372036854775808 ≤ k) (k2 : k ≤ 9223372036854775807) (o1 : -9223372036854775808 ≤ mode) (o2 : mode ≤ 9223372036854775807)
    (cx : ∀ w : World, Calls Tryz.prog 16 #[.int .u64 f, .int .i64 n] w fun e w' => e = .returned (.int .u64 x) ∧ Fwd w w') (hx1 : 9218868437227405312 ≤ fsz x) :
    Calls Tryz.prog 3 #[.agg #[.bool s, vN, vD], .int .i64 k, .int .u64 f, .int .i64 n, .int .i64 mode] w fun e w' => e = .returned (.bool true) ∧ Below w.heap.size w w' := by
  have cM : ∀ (w : World), Rd w vN xs → Rd w vD ys → Calls Tryz.prog 5 #[.agg #[.bool s, vN, vD]] w fun e w' => ∃ v, e = .returned v ∧ RV w' v q ∧ Fwd w w' := fun w h1 h2 => by
    have := make2law_any (w := w) (a := .agg #[.bool s, vN, vD]) (s := s) (xs := xs) (ys := ys) ⟨vN, vD, rfl, h1, h2⟩; rwa [← hq] at this
  have hk1 : (k % 1100).toNat < 1100 := by omega
  have hk2 : (((k % 1100).toNat : Nat) : Int) = k % 1100 := by omega
  have bP : nl (2 ^ (k % 1100).toNat) ≤ 37 := by have := nl_shl 1 (k % 1100).toNat; rw [Nat.one_mul] at this; have := nl_two' (n := 1) (by decide); omega
  have hP0 : (2 ^ (k % 1100).toNat) ≠ 0 := by have := Nat.two_pow_pos (k % 1100).toNat; omega
  have bU : nr (mkQ false (2 ^ (k % 1100).toNat) 1) ≤ 37 := by have := nr_mkQ false (2 ^ (k % 1100).toNat) 1 (by omega); have := nl_two' (n := 1) (by decide); omega
  have hU0 : mkQ false (2 ^ (k % 1100).toNat) 1 ≠ 0 := fun h => by have := mkQ_abs (neg := false) (n := (2 ^ (k % 1100).toNat)) (d := 1) (by omega); rw [h, Nat.gcd_one_right, Nat.div_one] at this; exact hP0 this.symm
  have bM := nr_mul q (mkQ false (2 ^ (k % 1100).toNat) 1)
  have bD := nr_div (a := q) hU0
  have bS := nr_smallB k
  have cS : ∀ (w : World) (u : Value), Num w u 1 → Calls Tryz.prog 7 #[u, .int .i64 (k % 1100)] w fun e w' => ∃ x, e = .returned x ∧ Num w' x (2 ^ (k % 1100).toNat) ∧ Fwd w w' := fun w u h => by
    have := refShl_any (k % 1100).toNat h (by have := nl_two' (n := 1) (by decide); omega) (by omega); rw [hk2, Nat.one_mul] at this; exact this
  obtain ⟨t, ht, hr⟩ := lfoeTold
  obtain ⟨dl, n', he⟩ := isAV_ok (hr)
  let ν : Nat → Rat := nuL [q, mkQ false (2 ^ (k % 1100).toNat) 1, q * mkQ false (2 ^ (k % 1100).toNat) 1, q / mkQ false (2 ^ (k % 1100).toNat) 1, smallQ k] [1, (2 ^ (k % 1100).toNat)]
  let σ : SymD := symR [.i 0, .i k, .u f, .i n, .i mode, .b s, .i (k % 1100), .i (mode % 5), .u x, .i 0, .u (ofN (mode % 5) (q)).1, .i ((ofN (mode % 5) (q)).2 : Int), .u (ofN (mode % 5) (q * mkQ false (2 ^ (k % 1100).toNat) 1)).1, .i ((ofN (mode % 5) (q * mkQ false (2 ^ (k % 1100).toNat) 1)).2 : Int), .u (ofN (mode % 5) (q / mkQ false (2 ^ (k % 1100).toNat) 1)).1, .i ((ofN (mode % 5) (q / mkQ false (2 ^ (k % 1100).toNat) 1)).2 : Int), .u (ofN (mode % 5) (smallQ k)).1, .i ((ofN (mode % 5) (smallQ k)).2 : Int)] vN vD xs ys (rdC rN) (rdC rD)
  have hcx : CxOK (DomQ true ν σ ruG) w.heap.size ⟨Tryz.prog, true, t.get, orcD (lfoeD ), (opH (bigHook Tryz.prog true) (opH (symHook Tryz.prog lfoeN (fun _ _ _ => none)) (tabHook (lfoeL ) lfoeM)))⟩ := cxS_ok (M := (DomQ true ν σ ruG)) ht ⟨[
      orcT 4 [
        { args := [], ans := .v (.one (.lit (.bool true))), ok := by
            intro B ρ w S vs hS hr
            match vs, hr with
            | [], _ =>
              skip
              refine (known3_any (ru_of hS)).mono ?_
              rintro e w' ⟨rfl, hf⟩
              exact ⟨_, rfl, ⟨rfl, rfl⟩, hf⟩ }],
      orcT 5 [
        { args := [.agg [.atom (.sym 5), .atom (.sym 100), .atom (.sym 101)]], ans := .v (avQ (.v 0)), ok := by
            intro B ρ w S vs hS hr
            match vs, hr with
            | [u0], ⟨z0, _⟩ =>
              obtain ⟨us0, rfl, y0⟩ := z0
              match us0, y0 with
              | [v0_0, v0_1, v0_2], ⟨y0_0, y0_1, y0_2, _⟩ =>
              obtain ⟨rfl, f0_0⟩ : v0_0 = _ ∧ _ := y0_0
              obtain ⟨rfl, f0_1⟩ : v0_1 = _ ∧ _ := y0_1
              obtain ⟨rfl, f0_2⟩ : v0_2 = _ ∧ _ := y0_2
              refine (cM _ (f0_2 rfl rfl).1 (f0_2 rfl rfl).2).mono ?_
              rintro e w' ⟨v, rfl, g0, hf⟩
              exact ⟨_, rfl, (avQ_rel g0), hf⟩ }],
      orcT 8 [
        { args := [.one (.lit (.int .u64 1))], ans := .v (.one (.atom (.num (.v 10)))), ok := by
            intro B ρ w S vs hS hr
            match vs, hr with
            | [u0], ⟨z0, _⟩ =>
              obtain ⟨rfl, _⟩ : u0 = _ ∧ _ := z0
              refine (refOf_any w 1 (by decide)).mono ?_
              rintro e w' ⟨v, rfl, g0, hf⟩
              exact ⟨_, rfl, ⟨rfl, g0⟩, hf⟩ }],
      orcT 9 [
        { args := [.one (.atom (.sym 1)), .one (.lit (.int .i64 (1100)))], ans := .v (.one (.atom (.sym 6))), ok := by
            intro B ρ w S vs hS hr
            match vs, hr with
            | [u0, u1], ⟨z0, z1, _⟩ =>
              obtain ⟨rfl, _⟩ : u0 = _ ∧ _ := z0
              obtain ⟨rfl, _⟩ : u1 = _ ∧ _ := z1
              refine ((within3_1100 w k k1 k2).mono (R' := fun e w' => e = .returned (.int .i64 (k % 1100)) ∧ Fwd w w') (fun e w' gg => ⟨gg.1, gg.2 ▸ Fwd.refl _⟩)).mono ?_
              rintro e w' ⟨rfl, hf⟩
              exact ⟨_, rfl, ⟨rfl, fun _ h => absurd h (by decide)⟩, hf⟩ },
        { args := [.one (.atom (.sym 4)), .one (.lit (.int .i64 (5)))], ans := .v (.one (.atom (.sym 7))), ok := by
            intro B ρ w S vs hS hr
            match vs, hr with
            | [u0, u1], ⟨z0, z1, _⟩ =>
              obtain ⟨rfl, _⟩ : u0 = _ ∧ _ := z0
              obtain ⟨rfl, _⟩ : u1 = _ ∧ _ := z1
              refine ((within3_5 w mode o1 o2).mono (R' := fun e w' => e = .returned (.int .i64 (mode % 5)) ∧ Fwd w w') (fun e w' gg => ⟨gg.1, gg.2 ▸ Fwd.refl _⟩)).mono ?_
              rintro e w' ⟨rfl, hf⟩
              exact ⟨_, rfl, ⟨rfl, fun _ h => absurd h (by decide)⟩, hf⟩ }],
      orcT 7 [
        { args := [.one (.atom (.num (.v 10))), .one (.atom (.sym 6))], ans := .v (.one (.atom (.num (.v 11)))), ok := by
            intro B ρ w S vs hS hr
            match vs, hr with
            | [u0, u1], ⟨z0, z1, _⟩ =>
              have k0 : Num w u0 _ := z0.2
              obtain ⟨rfl, _⟩ : u1 = _ ∧ _ := z1
              refine (cS _ _ k0).mono ?_
              rintro e w' ⟨v, rfl, g0, hf⟩
              exact ⟨_, rfl, ⟨rfl, g0⟩, hf⟩ }],
      orcT 6 [
        { args := [.one (.lit (.bool false)), .one (.atom (.num (.v 11))), .one (.atom (.num (.v 10)))], ans := .tup [avQ (.v 1), .one (.lit (.int .i64 (0)))], ok := by
            intro B ρ w S vs hS hr
            match vs, hr with
            | [u0, u1, u2], ⟨z0, z1, z2, _⟩ =>
              obtain ⟨rfl, _⟩ : u0 = _ ∧ _ := z0
              have k1 : Num w u1 _ := z1.2
              have k2 : Num w u2 _ := z2.2
              refine (make2_any (N := (2 ^ (k % 1100).toNat)) (D := 1) false k1 k2 (by omega) (by have := nl_two' (n := 1) (by decide); omega) (by omega)).mono ?_
              rintro e w' ⟨v, rfl, g0, hf⟩
              exact ⟨_, rfl, ⟨[_, _], rfl, (avQ_rel g0), ⟨rfl, rfl⟩, trivial⟩, hf⟩ }],
      orcT 10 [
        { args := [avQ (.v 0), avQ (.v 1)], ans := .v (avQ (.v 2)), ok := by
            intro B ρ w S vs hS hr
            match vs, hr with
            | [u0, u1], ⟨z0, z1, _⟩ =>
              have k0 := avQ_rv z0
              have k1 := avQ_rv z1
              refine (mul2_any (p := q) (q := mkQ false (2 ^ (k % 1100).toNat) 1) k0 k1 (by omega) (by omega)).mono ?_
              rintro e w' ⟨v, rfl, g0, hf⟩
              exact ⟨_, rfl, (avQ_rel g0), hf⟩ }],
      orcT 30 [
        { args := [avQ (.v 0), avQ (.v 1)], ans := .tup [avQ (.v 3), .one (.lit (.int .i64 (0)))], ok := by
            intro B ρ w S vs hS hr
            match vs, hr with
            | [u0, u1], ⟨z0, z1, _⟩ =>
              have k0 := avQ_rv z0
              have k1 := avQ_rv z1
              refine (quo2_any (p := q) (q := mkQ false (2 ^ (k % 1100).toNat) 1) k0 k1 (by omega) (by omega) hU0).mono ?_
              rintro e w' ⟨v, rfl, g0, hf⟩
              exact ⟨_, rfl, ⟨[_, _], rfl, (avQ_rel g0), ⟨rfl, rfl⟩, trivial⟩, hf⟩ }],
      orcT 12 [
        { args := [.one (.atom (.sym 1))], ans := .v (avQ (.v 4)), ok := by
            intro B ρ w S vs hS hr
            match vs, hr with
            | [u0], ⟨z0, _⟩ =>
              obtain ⟨rfl, _⟩ : u0 = _ ∧ _ := z0
              refine (smallR_any w k k1 k2).mono ?_
              rintro e w' ⟨v, rfl, g0, hf⟩
              exact ⟨_, rfl, (avQ_rel g0), hf⟩ }],
      orcT 13 [
        { args := [avQ (.v 0), .one (.atom (.sym 7))], ans := .tup [.one (.atom (.sym 10)), .one (.atom (.sym 11))], ok := by
            intro B ρ w S vs hS hr
            match vs, hr with
            | [u0, u1], ⟨z0, z1, _⟩ =>
              have k0 := avQ_rv z0
              obtain ⟨rfl, _⟩ : u1 = _ ∧ _ := z1
              refine (ofP_any (q := q) (ru_of hS) (mode % 5) k0 (by omega)).mono ?_
              rintro e w' ⟨rfl, hf⟩
              exact ⟨_, rfl, ⟨[_, _], rfl, ⟨rfl, fun _ h => absurd h (by decide)⟩, ⟨rfl, fun _ h => absurd h (by decide)⟩, trivial⟩, hf⟩ },
        { args := [avQ (.v 2), .one (.atom (.sym 7))], ans := .tup [.one (.atom (.sym 12)), .one (.atom (.sym 13))], ok := by
            intro B ρ w S vs hS hr
            match vs, hr with
            | [u0, u1], ⟨z0, z1, _⟩ =>
              have k0 := avQ_rv z0
              obtain ⟨rfl, _⟩ : u1 = _ ∧ _ := z1
              refine (ofP_any (q := q * mkQ false (2 ^ (k % 1100).toNat) 1) (ru_of hS) (mode % 5) k0 (by omega)).mono ?_
              rintro e w' ⟨rfl, hf⟩
              exact ⟨_, rfl, ⟨[_, _], rfl, ⟨rfl, fun _ h => absurd h (by decide)⟩, ⟨rfl, fun _ h => absurd h (by decide)⟩, trivial⟩, hf⟩ },
        { args := [avQ (.v 3), .one (.atom (.sym 7))], ans := .tup [.one (.atom (.sym 14)), .one (.atom (.sym 15))], ok := by
            intro B ρ w S vs hS hr
            match vs, hr with
            | [u0, u1], ⟨z0, z1, _⟩ =>
              have k0 := avQ_rv z0
              obtain ⟨rfl, _⟩ : u1 = _ ∧ _ := z1
              refine (ofP_any (q := q / mkQ false (2 ^ (k % 1100).toNat) 1) (ru_of hS) (mode % 5) k0 (by omega)).mono ?_
              rintro e w' ⟨rfl, hf⟩
              exact ⟨_, rfl, ⟨[_, _], rfl, ⟨rfl, fun _ h => absurd h (by decide)⟩, ⟨rfl, fun _ h => absurd h (by decide)⟩, trivial⟩, hf⟩ },
        { args := [avQ (.v 4), .one (.atom (.sym 7))], ans := .tup [.one (.atom (.sym 16)), .one (.atom (.sym 17))], ok := by
            intro B ρ w S vs hS hr
            match vs, hr with
            | [u0, u1], ⟨z0, z1, _⟩ =>
              have k0 := avQ_rv z0
              obtain ⟨rfl, _⟩ : u1 = _ ∧ _ := z1
              refine (ofP_any (q := smallQ k) (ru_of hS) (mode % 5) k0 (by omega)).mono ?_
              rintro e w' ⟨rfl, hf⟩
              exact ⟨_, rfl, ⟨[_, _], rfl, ⟨rfl, fun _ h => absurd h (by decide)⟩, ⟨rfl, fun _ h => absurd h (by decide)⟩, trivial⟩, hf⟩ }],
      orcT 14 [
        { args := [avQ (.v 0), .one (.atom (.sym 7))], ans := .tup [.one (.atom (.sym 10)), .one (.atom (.sym 11))], ok := by
            intro B ρ w S vs hS hr
            match vs, hr with
            | [u0, u1], ⟨z0, z1, _⟩ =>
              have k0 := avQ_rv z0
              obtain ⟨rfl, _⟩ : u1 = _ ∧ _ := z1
              refine (ofS_any (q := q) (mode % 5) k0 (by omega)).mono ?_
              rintro e w' ⟨rfl, hf⟩
              exact ⟨_, rfl, ⟨[_, _], rfl, ⟨rfl, fun _ h => absurd h (by decide)⟩, ⟨rfl, fun _ h => absurd h (by decide)⟩, trivial⟩, hf⟩ },
        { args := [avQ (.v 2), .one (.atom (.sym 7))], ans := .tup [.one (.atom (.sym 12)), .one (.atom (.sym 13))], ok := by
            intro B ρ w S vs hS hr
            match vs, hr with
            | [u0, u1], ⟨z0, z1, _⟩ =>
              have k0 := avQ_rv z0
              obtain ⟨rfl, _⟩ : u1 = _ ∧ _ := z1
              refine (ofS_any (q := q * mkQ false (2 ^ (k % 1100).toNat) 1) (mode % 5) k0 (by omega)).mono ?_
              rintro e w' ⟨rfl, hf⟩
              exact ⟨_, rfl, ⟨[_, _], rfl, ⟨rfl, fun _ h => absurd h (by decide)⟩, ⟨rfl, fun _ h => absurd h (by decide)⟩, trivial⟩, hf⟩ },
        { args := [avQ (.v 3), .one (.atom (.sym 7))], ans := .tup [.one (.atom (.sym 14)), .one (.atom (.sym 15))], ok := by
            intro B ρ w S vs hS hr
            match vs, hr with
            | [u0, u1], ⟨z0, z1, _⟩ =>
              have k0 := avQ_rv z0
              obtain ⟨rfl, _⟩ : u1 = _ ∧ _ := z1
              refine (ofS_any (q := q / mkQ false (2 ^ (k % 1100).toNat) 1) (mode % 5) k0 (by omega)).mono ?_
              rintro e w' ⟨rfl, hf⟩
              exact ⟨_, rfl, ⟨[_, _], rfl, ⟨rfl, fun _ h => absurd h (by decide)⟩, ⟨rfl, fun _ h => absurd h (by decide)⟩, trivial⟩, hf⟩ },
        { args := [avQ (.v 4), .one (.atom (.sym 7))], ans := .tup [.one (.atom (.sym 16)), .one (.atom (.sym 17))], ok := by
            intro B ρ w S vs hS hr
            match vs, hr with
            | [u0, u1], ⟨z0, z1, _⟩ =>
              have k0 := avQ_rv z0
              obtain ⟨rfl, _⟩ : u1 = _ ∧ _ := z1
              refine (ofS_any (q := smallQ k) (mode % 5) k0 (by omega)).mono ?_
              rintro e w' ⟨rfl, hf⟩
              exact ⟨_, rfl, ⟨[_, _], rfl, ⟨rfl, fun _ h => absurd h (by decide)⟩, ⟨rfl, fun _ h => absurd h (by decide)⟩, trivial⟩, hf⟩ }],
      orcT 16 [
        { args := [.one (.atom (.sym 2)), .one (.atom (.sym 3))], ans := .v (.one (.atom (.sym 8))), ok := by
            intro B ρ w S vs hS hr
            match vs, hr with
            | [u0, u1], ⟨z0, z1, _⟩ =>
              obtain ⟨rfl, _⟩ : u0 = _ ∧ _ := z0
              obtain ⟨rfl, _⟩ : u1 = _ ∧ _ := z1
              refine (cx _).mono ?_
              rintro e w' ⟨rfl, hf⟩
              exact ⟨_, rfl, ⟨rfl, fun _ h => absurd h (by decide)⟩, hf⟩ }],
      orcT 15 [
        { args := [.one (.atom (.sym 8))], ans := .tup [.agg [.lit (.bool false), .lit (.slice none 0 0), .lit (.slice none 0 0)], .one (.lit (.int .i64 (10)))], ok := by
            intro B ρ w S vs hS hr
            match vs, hr with
            | [u0], ⟨z0, _⟩ =>
              obtain ⟨rfl, _⟩ : u0 = _ ∧ _ := z0
              refine (rat3_range x hx hx1).mono ?_
              rintro e w' ⟨rfl, hf⟩
              exact ⟨_, rfl, ⟨[_, _], rfl, ⟨[_, _, _], rfl, ⟨rfl, rfl⟩, ⟨rfl, rfl⟩, ⟨rfl, rfl⟩, trivial⟩, ⟨rfl, rfl⟩, trivial⟩, hf⟩ }],
      orcT 17 [
        { args := [.one (.atom (.sym 8))], ans := .tup [.agg [.lit (.bool false), .lit (.slice none 0 0), .lit (.slice none 0 0)], .one (.lit (.int .i64 (10)))], ok := by
            intro B ρ w S vs hS hr
            match vs, hr with
            | [u0], ⟨z0, _⟩ =>
              obtain ⟨rfl, _⟩ : u0 = _ ∧ _ := z0
              refine (refRat_range x hx hx1).mono ?_
              rintro e w' ⟨rfl, hf⟩
              exact ⟨_, rfl, ⟨[_, _], rfl, ⟨[_, _, _], rfl, ⟨rfl, rfl⟩, ⟨rfl, rfl⟩, ⟨rfl, rfl⟩, trivial⟩, ⟨rfl, rfl⟩, trivial⟩, hf⟩ }]], rfl⟩
    (opH_le (bigHook_le _ _) (opH_le (symHook_le _ _ _) (tabHook_le _ _)))
    (opH_ok (bigHook_ok _) (opH_ok (symHook_ok _ (fun h => by cases h) (fun h => by cases h)) (tabHook_ok _ (all_cons (BOk.mk rfl rfl rfl (fun i hi w h => by first | (cases hi; done) | (cases hi; exact absurd h (by decide))) rfl rfl (bo_neq (by simp))) (all_cons (BOk.mk rfl rfl rfl (fun i hi w h => by first | (cases hi; done) | (cases hi; exact absurd h (by decide))) rfl rfl (bo_neq (by simp))) (all_cons (BOk.mk rfl rfl rfl (fun i hi w h => by first | (cases hi; done) | (cases hi; exact absurd h (by decide))) rfl rfl (bo_neq (by simp))) (all_cons (BOk.mk rfl rfl rfl (fun i hi w h => by first | (cases hi; done) | (cases hi; exact absurd h (by decide))) rfl rfl (bo_neq (by simp))) (all_cons (BOk.mk rfl rfl rfl (fun i hi w h => by first | (cases hi; done) | (cases hi; exact absurd h (by decide))) rfl rfl (bo_neq (by simp))) (all_cons (BOk.mk rfl rfl rfl (fun i hi w h => by first | (cases hi; done) | (cases hi; exact absurd h (by decide))) rfl rfl (bo_neq (by simp))) (all_cons (BOk.mk rfl rfl rfl (fun i hi w h => by first | (cases hi; done) | (cases hi; exact absurd h (by decide))) rfl rfl (bo_neq (by simp))) (all_cons (BOk.mk rfl rfl rfl (fun i hi w h => by first | (cases hi; done) | (cases hi; exact absurd h (by decide))) rfl rfl (bo_neq (by simp))) all_nil)))))))) all_nil)))
  refine (told_call (M := (DomQ true ν σ ruG)) (cx := ⟨Tryz.prog, true, t.get, orcD (lfoeD ), (opH (bigHook Tryz.prog true) (opH (symHook Tryz.prog lfoeN (fun _ _ _ => none)) (tabHook (lfoeL ) lfoeM)))⟩) (xs := [.agg [.atom (.sym 5), .atom (.sym 100), .atom (.sym 101)], .one (.atom (.sym 1)), .one (.atom (.sym 2)), .one (.atom (.sym 3)), .one (.atom (.sym 4))]) (vs := [.agg #[.bool s, vN, vD], .int .i64 k, .int .u64 f, .int .i64 n, .int .i64 mode]) Tryz.checked.mixed hcx (fun hg => ruG_ok hR hg) ⟨⟨[.bool s, vN, vD], rfl, ⟨rfl, fun _ h => absurd h (by decide)⟩, ⟨rfl, fun _ h => absurd h (by decide)⟩, ⟨rfl, fun _ _ => ⟨rN, rD⟩⟩, trivial⟩, ⟨rfl, fun _ h => absurd h (by decide)⟩, ⟨rfl, fun _ h => absurd h (by decide)⟩, ⟨rfl, fun _ h => absurd h (by decide)⟩, ⟨rfl, fun _ h => absurd h (by decide)⟩, trivial⟩ he).mono ?_
  rintro e w' ⟨v, ρ', rfl, hv, hbel⟩
  obtain ⟨rfl, _⟩ : v = _ ∧ _ := hv
  exact ⟨rfl, hbel⟩

theorem floatOf_walk {w : World} {va : Value} {sa : Bool} {xa ya : List Nat} {k f n mode : Int} (hR : Ru w) (hA : RawA w va sa xa ya) (hk : (Lit.int .i64 k).wf = true) (hf : (Lit.int .u64 f).wf = true) (hn : (Lit.int .i64 n).wf = true) (ho : (Lit.int .i64 mode).wf = true) :
    Calls Tryz.prog 3 #[va, .int .i64 k, .int .u64 f, .int .i64 n, .int .i64 mode] w fun e w' => e = .returned (.bool true) ∧ Below w.heap.size w w' := by
  obtain ⟨k1, k2⟩ := bounds_i64 hk
  obtain ⟨f1, f2⟩ := bounds_u64 hf
  obtain ⟨n1, n2⟩ := bounds_i64 hn
  obtain ⟨o1, o2⟩ := bounds_i64 ho
  obtain ⟨f, rfl⟩ : ∃ a' : Nat, f = (a' : Int) := ⟨f.toNat, by omega⟩
  obtain ⟨vN, vD, rfl, rN, rD⟩ := hA
  have bq := nr_rawQ sa rN.ok rD.ok
  obtain ⟨x, hx, cx⟩ := make3_fix f n (by omega) n1 n2
  by_cases c : fsz x < 9218868437227405312
  · exact lfof_tab hR rN rD rfl bq k f x n mode (by omega) hx n1 n2 k1 k2 o1 o2 cx c
  · exact lfoe_tab hR rN rD rfl bq k f x n mode (by omega) hx n1 n2 k1 k2 o1 o2 cx (by omega)
end Go.Proofs.YtcfhajnboamnnaaGreatDoor
