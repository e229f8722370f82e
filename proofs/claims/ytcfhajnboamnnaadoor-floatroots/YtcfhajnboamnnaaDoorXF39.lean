/- sfloat's root of a value, by the reader upon letters. -/
import Derived.Test.YtcfhajnboamnnaaDoorYXF29
import Derived.Test.YtcfhajnboamnnaaDoorYXF2
import Derived.Test.YtcfhajnboamnnaaDoorYXF4
import Derived.Test.YtcfhajnboamnnaaDoorYXF17
namespace Go.Proofs.YtcfhajnboamnnaaDoor
open Go.RowKit Go.Ev
set_option linter.unusedVariables false
set_option linter.unusedSimpArgs false

/-- Two words, a value, written out. -/
def wt (n : Nat) : Value := .agg #[.int .u64 ((n / 18446744073709551616 : Nat) : Int), .int .u64 ((n % 18446744073709551616 : Nat) : Int)]
def vt (s en : Bool) (n : Nat) (x : Int) : Value := .agg #[.bool s, .bool en, .int .u64 ((n / 18446744073709551616 : Nat) : Int), .int .u64 ((n % 18446744073709551616 : Nat) : Int), .int .i64 x]
theorem wv_eq {v : Value} {n : Nat} (h : WV v n) : v = wt n := by
  obtain ⟨a, b, rfl, h1, h2, rfl⟩ := h
  unfold wt
  rw [show (a * 18446744073709551616 + b) / 18446744073709551616 = a by omega, show (a * 18446744073709551616 + b) % 18446744073709551616 = b by omega]
theorem vv_eq {v : Value} {s en : Bool} {n : Nat} {x : Int} (h : VV v s en n x) : v = vt s en n x := by
  obtain ⟨a, b, rfl, h1, h2, rfl⟩ := h
  unfold vt
  rw [show (a * 18446744073709551616 + b) / 18446744073709551616 = a by omega, show (a * 18446744073709551616 + b) % 18446744073709551616 = b by omega]
theorem wt_wv {n : Nat} (h : n < 340282366920938463463374607431768211456) : WV (wt n) n := ⟨_, _, rfl, by omega, by omega, by omega⟩
theorem vt_vv (s en : Bool) {n : Nat} (x : Int) (h : n < 340282366920938463463374607431768211456) : VV (vt s en n x) s en n x := ⟨_, _, rfl, by omega, by omega, by omega⟩
theorem bo_remI (k : Int) (k1 : -9223372036854775808 ≤ k) (k2 : k ≤ 9223372036854775807) (t : TypeId) : binOp .rem t (.int .i64 k) (.int .i64 2) = pure (.int .i64 (k.tmod 2)) := by
  rw [binOp_rem]
  have h : -1 ≤ k.tmod 2 ∧ k.tmod 2 ≤ 1 := by
    by_cases c : 0 ≤ k
    · rw [Int.tmod_eq_emod_of_nonneg c]; omega
    · have e : k.tmod 2 = -((-k) % 2) := by rw [← Int.neg_neg k, Int.neg_tmod, Int.tmod_eq_emod_of_nonneg (by omega), Int.neg_neg]
      rw [e]; omega
  have e2 : IntKind.i64.wrap (k.tmod 2) = k.tmod 2 := wr64 (by omega) (by omega)
  simp [Op.intDiv, e2]
theorem tmod_two (k : Int) : decide (k.tmod 2 = 0) = decide (k % 2 = 0) := by
  have : k.tmod 2 = 0 ↔ k % 2 = 0 := by
    by_cases c : 0 ≤ k
    · rw [Int.tmod_eq_emod_of_nonneg c]
    · have e : k.tmod 2 = -((-k) % 2) := by rw [← Int.neg_neg k, Int.neg_tmod, Int.tmod_eq_emod_of_nonneg (by omega), Int.neg_neg]
      rw [e]; omega
  exact decide_eq_decide.2 this
theorem bo_quoI (k : Int) (k1 : -4611686018427387904 ≤ k) (k2 : k ≤ 4611686018427387904) (he : k % 2 = 0) (t : TypeId) : binOp .quo t (.int .i64 k) (.int .i64 2) = pure (.int .i64 (k / 2)) := by
  rw [binOp_quo]
  have e : k.tdiv 2 = k / 2 := by
    by_cases c : 0 ≤ k
    · exact Int.tdiv_eq_ediv_of_nonneg c
    · have h : k.tdiv 2 = -((-k) / 2) := by rw [← Int.neg_neg k, Int.neg_tdiv, Int.tdiv_eq_ediv_of_nonneg (by omega), Int.neg_neg]
      rw [h]; omega
  have e2 : IntKind.i64.wrap (k / 2) = k / 2 := wr64 (by omega) (by omega)
  simp [Op.intDiv, e, e2]
theorem or_stk2 {n : Nat} (h : n < 340282366920938463463374607431768211456) : (if bt .or (n / 18446744073709551616) (n % 18446744073709551616) = 0 then 0 else 1 : Nat) = stk n := by
  have h1 := (bt_eq .or (n / 18446744073709551616) (n % 18446744073709551616)).1
  rw [bits_or_u64_nat _ _ (by omega) (by omega)] at h1
  have h2 : bt .or (n / 18446744073709551616) (n % 18446744073709551616) = n / 18446744073709551616 ||| n % 18446744073709551616 := by omega
  rw [h2]
  unfold stk
  by_cases c : n = 0
  · subst c; rfl
  · rw [if_neg c, if_neg]
    intro d
    have := Nat.or_eq_zero_iff.1 d
    omega

def vrt1D : List (FuncId × Ans) :=
  [(81, ansT [([.agg [.lit (.bool false), .lit (.bool false), .atom (.sym 0), .atom (.sym 1), .atom (.sym 2)], .one (.lit (.int .i64 (0)))], .v (.agg [.lit (.bool false), .lit (.bool false), .atom (.sym 3), .atom (.sym 4), .atom (.sym 5)])), ([.agg [.lit (.bool false), .lit (.bool false), .atom (.sym 0), .atom (.sym 1), .atom (.sym 2)], .one (.lit (.int .i64 (1)))], .v (.agg [.lit (.bool false), .lit (.bool false), .atom (.sym 7), .atom (.sym 8), .atom (.sym 9)]))]),
   (108, ansT [([.agg [.atom (.sym 7), .atom (.sym 8)]], .v (.one (.atom (.sym 10))))]),
   (110, ansT [([.one (.atom (.sym 10)), .one (.atom (.sym 10))], .v (.agg [.atom (.sym 11), .atom (.sym 12)]))]),
   (109, ansT [([.agg [.atom (.sym 7), .atom (.sym 8)], .agg [.atom (.sym 11), .atom (.sym 12)]], .v (.agg [.atom (.sym 13), .atom (.sym 14)]))]),
   (89, ansT [([.one (.atom (.sym 15))], .v (.one (.atom (.sym 16))))])]
def vrt1L : BT := [(.rem, .atom (.sym 5), .lit (.int .i64 (2)), .atom (.sym 6)), (.neq, .atom (.sym 6), .lit (.int .i64 (0)), .lit (.bool true)), (.or, .atom (.sym 13), .atom (.sym 14), .atom (.sym 15)), (.quo, .atom (.sym 9), .lit (.int .i64 (2)), .atom (.sym 17)), (.sub, .atom (.sym 17), .lit (.int .i64 (64)), .atom (.sym 18))]
def vrt1M : BT := []
def vrt1N : At → Option Nat
  | _ => none

set_option maxRecDepth 1000000 in
theorem vrt1Told : ∃ t : Tr Func, TabOK Tryd.prog t ∧ (isAV (.v (.agg [.lit (.bool false), .lit (.bool false), .atom (.sym 10), .atom (.sym 16), .atom (.sym 18)])) (evalCall ⟨Tryd.prog, true, t.get, orcD (vrt1D ), (opH (bigHook Tryd.prog true) (opH (symHook Tryd.prog vrt1N (fun _ _ _ => none)) (tabHook (vrt1L ) vrt1M)))⟩ 1000 95 [.agg [.lit (.bool false), .lit (.bool false), .atom (.sym 0), .atom (.sym 1), .atom (.sym 2)]] .e 0) = true) :=
  ⟨((((((Tr.e).put 95 (some Tryd.f95)).put 81 (some Tryd.f81)).put 108 (some Tryd.f108)).put 110 (some Tryd.f110)).put 109 (some Tryd.f109)).put 89 (some Tryd.f89),
   (TabOK.put (TabOK.put (TabOK.put (TabOK.put (TabOK.put (TabOK.put (TabOK.e _) ⟨Tryd.func95, by decide +kernel, by decide +kernel⟩) ⟨Tryd.func81, by decide +kernel, by decide +kernel⟩) ⟨Tryd.func108, by decide +kernel, by decide +kernel⟩) ⟨Tryd.func110, by decide +kernel, by decide +kernel⟩) ⟨Tryd.func109, by decide +kernel, by decide +kernel⟩) ⟨Tryd.func89, by decide +kernel, by decide +kernel⟩),
   by decide +kernel⟩

set_option maxHeartbeats 4000000 in
set_option maxRecDepth 100000 in
theorem vrt1_tab {w : World} {n : Nat} {x : Int} (hn : n ≠ 0) (hb : n < 9007199254740992) (x1 : -10000 ≤ x) (x2 : x ≤ 10000) (hod : decide ((x - (lsh n 0 : Int)) % 2 = 0) = false) :
    Calls Tryd.prog 95 #[vt false false n x] w fun e w' => e = .returned (vt false false ((sqN (n * 2 ^ lsh n 1)) * 18446744073709551616 + stk ((n * 2 ^ lsh n 1) - ((sqN (n * 2 ^ lsh n 1)) * (sqN (n * 2 ^ lsh n 1))))) ((x - (lsh n 1 : Int)) / 2 - 64)) ∧ Below w.heap.size w w' := by
  have hbl : blen n ≤ 53 := blen_of_lt hb
  have hpb := blen_pos hn
  have hl0 : (lsh n 0 : Int) = 128 - blen n := by unfold lsh; omega
  have hl1 : (lsh n 1 : Int) = 127 - blen n := by unfold lsh; omega
  have hlt : n < 340282366920938463463374607431768211456 := Nat.lt_trans hb (by decide)
  have hL := lift_lt (r := 1) hn hlt
  have hL0 := lift_lt (r := 0) hn hlt
  obtain ⟨sq1, sq2⟩ := sqN_spec (n * 2 ^ lsh n 1)
  have sq3 : (sqN (n * 2 ^ lsh n 1)) < 18446744073709551616 := by
    by_cases c : (sqN (n * 2 ^ lsh n 1)) < 18446744073709551616
    · exact c
    · exfalso; have := Nat.mul_le_mul (show 18446744073709551616 ≤ (sqN (n * 2 ^ lsh n 1)) by omega) (show 18446744073709551616 ≤ (sqN (n * 2 ^ lsh n 1)) by omega); omega
  have hev : (x - (lsh n 1 : Int)) % 2 = 0 := by have := hod; simp at this; omega
  have cL : ∀ (w : World) (r : Nat), r ≤ 1 → Calls Tryd.prog 81 #[vt false false n x, .int .i64 r] w fun e w' => e = .returned (vt false false (n * 2 ^ lsh n r) (x - (lsh n r : Int))) ∧ Fwd w w' := fun w r hr =>
    (lifted_any (vt_vv false false x hlt) hn (by omega) (by omega) (by omega)).mono fun e w' gg => by obtain ⟨u, rfl, hf, hu⟩ := gg; exact ⟨by rw [vv_eq hu], hf⟩
  have cR : ∀ (w : World), Calls Tryd.prog 108 #[wt (n * 2 ^ lsh n 1)] w fun e w' => e = .returned (.int .u64 ((sqN (n * 2 ^ lsh n 1)) : Nat)) ∧ Fwd w w' := fun w =>
    (wroot_any (wt_wv hL)).mono fun e w' gg => by obtain ⟨q, rfl, ⟨h1, h2, -⟩, hf⟩ := gg; exact ⟨by rw [sqN_only h1 h2], hf⟩
  have cP : ∀ (w : World), Calls Tryd.prog 110 #[.int .u64 ((sqN (n * 2 ^ lsh n 1)) : Nat), .int .u64 ((sqN (n * 2 ^ lsh n 1)) : Nat)] w fun e w' => e = .returned (wt ((sqN (n * 2 ^ lsh n 1)) * (sqN (n * 2 ^ lsh n 1)))) ∧ Fwd w w' := fun w =>
    (product_any sq3 sq3).mono fun e w' gg => by obtain ⟨v, rfl, hv, hf⟩ := gg; exact ⟨by rw [wv_eq hv], hf⟩
  have cM : ∀ (w : World), Calls Tryd.prog 109 #[wt (n * 2 ^ lsh n 1), wt ((sqN (n * 2 ^ lsh n 1)) * (sqN (n * 2 ^ lsh n 1)))] w fun e w' => e = .returned (wt ((n * 2 ^ lsh n 1) - ((sqN (n * 2 ^ lsh n 1)) * (sqN (n * 2 ^ lsh n 1))))) ∧ Fwd w w' := fun w =>
    (wminus_any (wt_wv hL) (wt_wv (by omega)) sq1).mono fun e w' gg => by obtain ⟨v, rfl, hv, hf⟩ := gg; exact ⟨by rw [wv_eq hv], hf⟩
  have cT : ∀ (w : World), Calls Tryd.prog 89 #[.int .u64 (bt .or (((n * 2 ^ lsh n 1) - ((sqN (n * 2 ^ lsh n 1)) * (sqN (n * 2 ^ lsh n 1)))) / 18446744073709551616) (((n * 2 ^ lsh n 1) - ((sqN (n * 2 ^ lsh n 1)) * (sqN (n * 2 ^ lsh n 1)))) % 18446744073709551616) : Nat)] w fun e w' => e = .returned (.int .u64 (stk ((n * 2 ^ lsh n 1) - ((sqN (n * 2 ^ lsh n 1)) * (sqN (n * 2 ^ lsh n 1)))) : Nat)) ∧ Fwd w w' := fun w =>
    (rest_any w _ (bt_eq .or _ _).2).mono fun e w' gg => ⟨by rw [gg.1, or_stk2 (by omega)], gg.2 ▸ Fwd.refl _⟩
  obtain ⟨t, ht, hr⟩ := vrt1Told
  obtain ⟨dl, n', he⟩ := isAV_ok (hr)
  let ν : Nat → Rat := nuL [] []
  let σ : SymD := symL [.u (n / 18446744073709551616), .u (n % 18446744073709551616), .i x, .u ((n * 2 ^ lsh n 0) / 18446744073709551616), .u ((n * 2 ^ lsh n 0) % 18446744073709551616), .i (x - (lsh n 0 : Int)), .i ((x - (lsh n 0 : Int)).tmod 2), .u ((n * 2 ^ lsh n 1) / 18446744073709551616), .u ((n * 2 ^ lsh n 1) % 18446744073709551616), .i (x - (lsh n 1 : Int)), .u (sqN (n * 2 ^ lsh n 1)), .u (((sqN (n * 2 ^ lsh n 1)) * (sqN (n * 2 ^ lsh n 1))) / 18446744073709551616), .u (((sqN (n * 2 ^ lsh n 1)) * (sqN (n * 2 ^ lsh n 1))) % 18446744073709551616), .u (((n * 2 ^ lsh n 1) - ((sqN (n * 2 ^ lsh n 1)) * (sqN (n * 2 ^ lsh n 1)))) / 18446744073709551616), .u (((n * 2 ^ lsh n 1) - ((sqN (n * 2 ^ lsh n 1)) * (sqN (n * 2 ^ lsh n 1)))) % 18446744073709551616), .u (bt .or (((n * 2 ^ lsh n 1) - ((sqN (n * 2 ^ lsh n 1)) * (sqN (n * 2 ^ lsh n 1)))) / 18446744073709551616) (((n * 2 ^ lsh n 1) - ((sqN (n * 2 ^ lsh n 1)) * (sqN (n * 2 ^ lsh n 1)))) % 18446744073709551616)), .u (stk ((n * 2 ^ lsh n 1) - ((sqN (n * 2 ^ lsh n 1)) * (sqN (n * 2 ^ lsh n 1))))), .i ((x - (lsh n 1 : Int)) / 2), .i ((x - (lsh n 1 : Int)) / 2 - 64)]
  have hcx : CxOK (DomQ true ν σ (fun _ => none)) w.heap.size ⟨Tryd.prog, true, t.get, orcD (vrt1D ), (opH (bigHook Tryd.prog true) (opH (symHook Tryd.prog vrt1N (fun _ _ _ => none)) (tabHook (vrt1L ) vrt1M)))⟩ := cxS_ok (M := (DomQ true ν σ (fun _ => none))) ht ⟨[
      orcT 81 [
        { args := [.agg [.lit (.bool false), .lit (.bool false), .atom (.sym 0), .atom (.sym 1), .atom (.sym 2)], .one (.lit (.int .i64 (0)))], ans := .v (.agg [.lit (.bool false), .lit (.bool false), .atom (.sym 3), .atom (.sym 4), .atom (.sym 5)]), ok := by
            intro B ρ w S vs hS hr
            match vs, hr with
            | [u0, u1], ⟨z0, z1, _⟩ =>
              obtain ⟨us0, rfl, y0⟩ := z0
              match us0, y0 with
              | [v0_0, v0_1, v0_2, v0_3, v0_4], ⟨y0_0, y0_1, y0_2, y0_3, y0_4, _⟩ =>
              obtain ⟨rfl, f0_0⟩ : v0_0 = _ ∧ _ := y0_0
              obtain ⟨rfl, f0_1⟩ : v0_1 = _ ∧ _ := y0_1
              obtain ⟨rfl, f0_2⟩ : v0_2 = _ ∧ _ := y0_2
              obtain ⟨rfl, f0_3⟩ : v0_3 = _ ∧ _ := y0_3
              obtain ⟨rfl, f0_4⟩ : v0_4 = _ ∧ _ := y0_4
              obtain ⟨rfl, _⟩ : u1 = _ ∧ _ := z1
              refine (cL _ 0 (by omega)).mono ?_
              rintro e w' ⟨rfl, hf⟩
              exact ⟨_, rfl, ⟨[_, _, _, _, _], rfl, ⟨rfl, rfl⟩, ⟨rfl, rfl⟩, ⟨rfl, fun _ => trivial⟩, ⟨rfl, fun _ => trivial⟩, ⟨rfl, fun _ => trivial⟩, trivial⟩, hf⟩ },
        { args := [.agg [.lit (.bool false), .lit (.bool false), .atom (.sym 0), .atom (.sym 1), .atom (.sym 2)], .one (.lit (.int .i64 (1)))], ans := .v (.agg [.lit (.bool false), .lit (.bool false), .atom (.sym 7), .atom (.sym 8), .atom (.sym 9)]), ok := by
            intro B ρ w S vs hS hr
            match vs, hr with
            | [u0, u1], ⟨z0, z1, _⟩ =>
              obtain ⟨us0, rfl, y0⟩ := z0
              match us0, y0 with
              | [v0_0, v0_1, v0_2, v0_3, v0_4], ⟨y0_0, y0_1, y0_2, y0_3, y0_4, _⟩ =>
              obtain ⟨rfl, f0_0⟩ : v0_0 = _ ∧ _ := y0_0
              obtain ⟨rfl, f0_1⟩ : v0_1 = _ ∧ _ := y0_1
              obtain ⟨rfl, f0_2⟩ : v0_2 = _ ∧ _ := y0_2
              obtain ⟨rfl, f0_3⟩ : v0_3 = _ ∧ _ := y0_3
              obtain ⟨rfl, f0_4⟩ : v0_4 = _ ∧ _ := y0_4
              obtain ⟨rfl, _⟩ : u1 = _ ∧ _ := z1
              refine (cL _ 1 (by omega)).mono ?_
              rintro e w' ⟨rfl, hf⟩
              exact ⟨_, rfl, ⟨[_, _, _, _, _], rfl, ⟨rfl, rfl⟩, ⟨rfl, rfl⟩, ⟨rfl, fun _ => trivial⟩, ⟨rfl, fun _ => trivial⟩, ⟨rfl, fun _ => trivial⟩, trivial⟩, hf⟩ }],
      orcT 108 [
        { args := [.agg [.atom (.sym 7), .atom (.sym 8)]], ans := .v (.one (.atom (.sym 10))), ok := by
            intro B ρ w S vs hS hr
            match vs, hr with
            | [u0], ⟨z0, _⟩ =>
              obtain ⟨us0, rfl, y0⟩ := z0
              match us0, y0 with
              | [v0_0, v0_1], ⟨y0_0, y0_1, _⟩ =>
              obtain ⟨rfl, f0_0⟩ : v0_0 = _ ∧ _ := y0_0
              obtain ⟨rfl, f0_1⟩ : v0_1 = _ ∧ _ := y0_1
              refine (cR _).mono ?_
              rintro e w' ⟨rfl, hf⟩
              exact ⟨_, rfl, ⟨rfl, fun _ => trivial⟩, hf⟩ }],
      orcT 110 [
        { args := [.one (.atom (.sym 10)), .one (.atom (.sym 10))], ans := .v (.agg [.atom (.sym 11), .atom (.sym 12)]), ok := by
            intro B ρ w S vs hS hr
            match vs, hr with
            | [u0, u1], ⟨z0, z1, _⟩ =>
              obtain ⟨rfl, _⟩ : u0 = _ ∧ _ := z0
              obtain ⟨rfl, _⟩ : u1 = _ ∧ _ := z1
              refine (cP _).mono ?_
              rintro e w' ⟨rfl, hf⟩
              exact ⟨_, rfl, ⟨[_, _], rfl, ⟨rfl, fun _ => trivial⟩, ⟨rfl, fun _ => trivial⟩, trivial⟩, hf⟩ }],
      orcT 109 [
        { args := [.agg [.atom (.sym 7), .atom (.sym 8)], .agg [.atom (.sym 11), .atom (.sym 12)]], ans := .v (.agg [.atom (.sym 13), .atom (.sym 14)]), ok := by
            intro B ρ w S vs hS hr
            match vs, hr with
            | [u0, u1], ⟨z0, z1, _⟩ =>
              obtain ⟨us0, rfl, y0⟩ := z0
              match us0, y0 with
              | [v0_0, v0_1], ⟨y0_0, y0_1, _⟩ =>
              obtain ⟨rfl, f0_0⟩ : v0_0 = _ ∧ _ := y0_0
              obtain ⟨rfl, f0_1⟩ : v0_1 = _ ∧ _ := y0_1
              obtain ⟨us1, rfl, y1⟩ := z1
              match us1, y1 with
              | [v1_0, v1_1], ⟨y1_0, y1_1, _⟩ =>
              obtain ⟨rfl, f1_0⟩ : v1_0 = _ ∧ _ := y1_0
              obtain ⟨rfl, f1_1⟩ : v1_1 = _ ∧ _ := y1_1
              refine (cM _).mono ?_
              rintro e w' ⟨rfl, hf⟩
              exact ⟨_, rfl, ⟨[_, _], rfl, ⟨rfl, fun _ => trivial⟩, ⟨rfl, fun _ => trivial⟩, trivial⟩, hf⟩ }],
      orcT 89 [
        { args := [.one (.atom (.sym 15))], ans := .v (.one (.atom (.sym 16))), ok := by
            intro B ρ w S vs hS hr
            match vs, hr with
            | [u0], ⟨z0, _⟩ =>
              obtain ⟨rfl, _⟩ : u0 = _ ∧ _ := z0
              refine (cT _).mono ?_
              rintro e w' ⟨rfl, hf⟩
              exact ⟨_, rfl, ⟨rfl, fun _ => trivial⟩, hf⟩ }]], rfl⟩
    (opH_le (bigHook_le _ _) (opH_le (symHook_le _ _ _) (tabHook_le _ _)))
    (opH_ok (bigHook_ok _) (opH_ok (symHook_ok _ (fun h => by cases h) (fun h => by cases h)) (tabHook_ok _ (all_cons (BOk.mk rfl rfl rfl (fun _ _ _ => trivial) rfl rfl (bo_remI _ (by omega) (by omega))) (all_cons (BOk.mk rfl rfl rfl (fun _ _ _ => trivial) rfl rfl (bo_neq (by rw [tmod_two, hod]; rfl))) (all_cons (BOk.mk rfl rfl rfl (fun _ _ _ => trivial) rfl rfl (bo_or _ _)) (all_cons (BOk.mk rfl rfl rfl (fun _ _ _ => trivial) rfl rfl (bo_quoI _ (by omega) (by omega) hev)) (all_cons (BOk.mk rfl rfl rfl (fun _ _ _ => trivial) rfl rfl (bo_sub (wr64 (by omega) (by omega)))) all_nil))))) all_nil)))
  refine (told_call (M := (DomQ true ν σ (fun _ => none))) (cx := ⟨Tryd.prog, true, t.get, orcD (vrt1D ), (opH (bigHook Tryd.prog true) (opH (symHook Tryd.prog vrt1N (fun _ _ _ => none)) (tabHook (vrt1L ) vrt1M)))⟩) (xs := [.agg [.lit (.bool false), .lit (.bool false), .atom (.sym 0), .atom (.sym 1), .atom (.sym 2)]]) (vs := [vt false false n x]) Tryd.checked.mixed hcx (fun hg => by cases hg) ⟨⟨[.bool false, .bool false, .int .u64 _, .int .u64 _, .int .i64 x], rfl, ⟨rfl, rfl⟩, ⟨rfl, rfl⟩, ⟨rfl, fun _ => trivial⟩, ⟨rfl, fun _ => trivial⟩, ⟨rfl, fun _ => trivial⟩, trivial⟩, trivial⟩ he).mono ?_
  rintro e w' ⟨v, ρ', rfl, hv, hbel⟩
  obtain ⟨us, rfl, hu⟩ := hv
  match us, hu with
  | [d0, d1, d2, d3, d4], ⟨y0, y1, y2, y3, y4, _⟩ =>
    obtain ⟨rfl, _⟩ : d0 = _ ∧ _ := y0
    obtain ⟨rfl, _⟩ : d1 = _ ∧ _ := y1
    obtain ⟨rfl, _⟩ : d2 = _ ∧ _ := y2
    obtain ⟨rfl, _⟩ : d3 = _ ∧ _ := y3
    obtain ⟨rfl, _⟩ : d4 = _ ∧ _ := y4
    refine ⟨?_, hbel⟩
    have hs := stk_lt ((n * 2 ^ lsh n 1) - ((sqN (n * 2 ^ lsh n 1)) * (sqN (n * 2 ^ lsh n 1))))
    have q1 : ((sqN (n * 2 ^ lsh n 1)) * 18446744073709551616 + stk ((n * 2 ^ lsh n 1) - ((sqN (n * 2 ^ lsh n 1)) * (sqN (n * 2 ^ lsh n 1))))) / 18446744073709551616 = (sqN (n * 2 ^ lsh n 1)) := by omega
    have q2 : ((sqN (n * 2 ^ lsh n 1)) * 18446744073709551616 + stk ((n * 2 ^ lsh n 1) - ((sqN (n * 2 ^ lsh n 1)) * (sqN (n * 2 ^ lsh n 1))))) % 18446744073709551616 = stk ((n * 2 ^ lsh n 1) - ((sqN (n * 2 ^ lsh n 1)) * (sqN (n * 2 ^ lsh n 1)))) := by omega
    unfold vt
    rw [q1, q2]
    rfl

def vrt0D : List (FuncId × Ans) :=
  [(81, ansT [([.agg [.lit (.bool false), .lit (.bool false), .atom (.sym 0), .atom (.sym 1), .atom (.sym 2)], .one (.lit (.int .i64 (0)))], .v (.agg [.lit (.bool false), .lit (.bool false), .atom (.sym 3), .atom (.sym 4), .atom (.sym 5)]))]),
   (108, ansT [([.agg [.atom (.sym 3), .atom (.sym 4)]], .v (.one (.atom (.sym 10))))]),
   (110, ansT [([.one (.atom (.sym 10)), .one (.atom (.sym 10))], .v (.agg [.atom (.sym 11), .atom (.sym 12)]))]),
   (109, ansT [([.agg [.atom (.sym 3), .atom (.sym 4)], .agg [.atom (.sym 11), .atom (.sym 12)]], .v (.agg [.atom (.sym 13), .atom (.sym 14)]))]),
   (89, ansT [([.one (.atom (.sym 15))], .v (.one (.atom (.sym 16))))])]
def vrt0L : BT := [(.rem, .atom (.sym 5), .lit (.int .i64 (2)), .atom (.sym 6)), (.neq, .atom (.sym 6), .lit (.int .i64 (0)), .lit (.bool false)), (.or, .atom (.sym 13), .atom (.sym 14), .atom (.sym 15)), (.quo, .atom (.sym 5), .lit (.int .i64 (2)), .atom (.sym 17)), (.sub, .atom (.sym 17), .lit (.int .i64 (64)), .atom (.sym 18))]
def vrt0M : BT := []
def vrt0N : At → Option Nat
  | _ => none

set_option maxRecDepth 1000000 in
theorem vrt0Told : ∃ t : Tr Func, TabOK Tryd.prog t ∧ (isAV (.v (.agg [.lit (.bool false), .lit (.bool false), .atom (.sym 10), .atom (.sym 16), .atom (.sym 18)])) (evalCall ⟨Tryd.prog, true, t.get, orcD (vrt0D ), (opH (bigHook Tryd.prog true) (opH (symHook Tryd.prog vrt0N (fun _ _ _ => none)) (tabHook (vrt0L ) vrt0M)))⟩ 1000 95 [.agg [.lit (.bool false), .lit (.bool false), .atom (.sym 0), .atom (.sym 1), .atom (.sym 2)]] .e 0) = true) :=
  ⟨((((((Tr.e).put 95 (some Tryd.f95)).put 81 (some Tryd.f81)).put 108 (some Tryd.f108)).put 110 (some Tryd.f110)).put 109 (some Tryd.f109)).put 89 (some Tryd.f89),
   (TabOK.put (TabOK.put (TabOK.put (TabOK.put (TabOK.put (TabOK.put (TabOK.e _) ⟨Tryd.func95, by decide +kernel, by decide +kernel⟩) ⟨Tryd.func81, by decide +kernel, by decide +kernel⟩) ⟨Tryd.func108, by decide +kernel, by decide +kernel⟩) ⟨Tryd.func110, by decide +kernel, by decide +kernel⟩) ⟨Tryd.func109, by decide +kernel, by decide +kernel⟩) ⟨Tryd.func89, by decide +kernel, by decide +kernel⟩),
   by decide +kernel⟩

set_option maxHeartbeats 4000000 in
set_option maxRecDepth 100000 in
theorem vrt0_tab {w : World} {n : Nat} {x : Int} (hn : n ≠ 0) (hb : n < 9007199254740992) (x1 : -10000 ≤ x) (x2 : x ≤ 10000) (hod : decide ((x - (lsh n 0 : Int)) % 2 = 0) = true) :
    Calls Tryd.prog 95 #[vt false false n x] w fun e w' => e = .returned (vt false false ((sqN (n * 2 ^ lsh n 0)) * 18446744073709551616 + stk ((n * 2 ^ lsh n 0) - ((sqN (n * 2 ^ lsh n 0)) * (sqN (n * 2 ^ lsh n 0))))) ((x - (lsh n 0 : Int)) / 2 - 64)) ∧ Below w.heap.size w w' := by
  have hbl : blen n ≤ 53 := blen_of_lt hb
  have hpb := blen_pos hn
  have hl0 : (lsh n 0 : Int) = 128 - blen n := by unfold lsh; omega
  have hl1 : (lsh n 1 : Int) = 127 - blen n := by unfold lsh; omega
  have hlt : n < 340282366920938463463374607431768211456 := Nat.lt_trans hb (by decide)
  have hL := lift_lt (r := 0) hn hlt
  have hL0 := lift_lt (r := 0) hn hlt
  obtain ⟨sq1, sq2⟩ := sqN_spec (n * 2 ^ lsh n 0)
  have sq3 : (sqN (n * 2 ^ lsh n 0)) < 18446744073709551616 := by
    by_cases c : (sqN (n * 2 ^ lsh n 0)) < 18446744073709551616
    · exact c
    · exfalso; have := Nat.mul_le_mul (show 18446744073709551616 ≤ (sqN (n * 2 ^ lsh n 0)) by omega) (show 18446744073709551616 ≤ (sqN (n * 2 ^ lsh n 0)) by omega); omega
  have hev : (x - (lsh n 0 : Int)) % 2 = 0 := by have := hod; simp at this; omega
  have cL : ∀ (w : World) (r : Nat), r ≤ 1 → Calls Tryd.prog 81 #[vt false false n x, .int .i64 r] w fun e w' => e = .returned (vt false false (n * 2 ^ lsh n r) (x - (lsh n r : Int))) ∧ Fwd w w' := fun w r hr =>
    (lifted_any (vt_vv false false x hlt) hn (by omega) (by omega) (by omega)).mono fun e w' gg => by obtain ⟨u, rfl, hf, hu⟩ := gg; exact ⟨by rw [vv_eq hu], hf⟩
  have cR : ∀ (w : World), Calls Tryd.prog 108 #[wt (n * 2 ^ lsh n 0)] w fun e w' => e = .returned (.int .u64 ((sqN (n * 2 ^ lsh n 0)) : Nat)) ∧ Fwd w w' := fun w =>
    (wroot_any (wt_wv hL)).mono fun e w' gg => by obtain ⟨q, rfl, ⟨h1, h2, -⟩, hf⟩ := gg; exact ⟨by rw [sqN_only h1 h2], hf⟩
  have cP : ∀ (w : World), Calls Tryd.prog 110 #[.int .u64 ((sqN (n * 2 ^ lsh n 0)) : Nat), .int .u64 ((sqN (n * 2 ^ lsh n 0)) : Nat)] w fun e w' => e = .returned (wt ((sqN (n * 2 ^ lsh n 0)) * (sqN (n * 2 ^ lsh n 0)))) ∧ Fwd w w' := fun w =>
    (product_any sq3 sq3).mono fun e w' gg => by obtain ⟨v, rfl, hv, hf⟩ := gg; exact ⟨by rw [wv_eq hv], hf⟩
  have cM : ∀ (w : World), Calls Tryd.prog 109 #[wt (n * 2 ^ lsh n 0), wt ((sqN (n * 2 ^ lsh n 0)) * (sqN (n * 2 ^ lsh n 0)))] w fun e w' => e = .returned (wt ((n * 2 ^ lsh n 0) - ((sqN (n * 2 ^ lsh n 0)) * (sqN (n * 2 ^ lsh n 0))))) ∧ Fwd w w' := fun w =>
    (wminus_any (wt_wv hL) (wt_wv (by omega)) sq1).mono fun e w' gg => by obtain ⟨v, rfl, hv, hf⟩ := gg; exact ⟨by rw [wv_eq hv], hf⟩
  have cT : ∀ (w : World), Calls Tryd.prog 89 #[.int .u64 (bt .or (((n * 2 ^ lsh n 0) - ((sqN (n * 2 ^ lsh n 0)) * (sqN (n * 2 ^ lsh n 0)))) / 18446744073709551616) (((n * 2 ^ lsh n 0) - ((sqN (n * 2 ^ lsh n 0)) * (sqN (n * 2 ^ lsh n 0)))) % 18446744073709551616) : Nat)] w fun e w' => e = .returned (.int .u64 (stk ((n * 2 ^ lsh n 0) - ((sqN (n * 2 ^ lsh n 0)) * (sqN (n * 2 ^ lsh n 0)))) : Nat)) ∧ Fwd w w' := fun w =>
    (rest_any w _ (bt_eq .or _ _).2).mono fun e w' gg => ⟨by rw [gg.1, or_stk2 (by omega)], gg.2 ▸ Fwd.refl _⟩
  obtain ⟨t, ht, hr⟩ := vrt0Told
  obtain ⟨dl, n', he⟩ := isAV_ok (hr)
  let ν : Nat → Rat := nuL [] []
  let σ : SymD := symL [.u (n / 18446744073709551616), .u (n % 18446744073709551616), .i x, .u ((n * 2 ^ lsh n 0) / 18446744073709551616), .u ((n * 2 ^ lsh n 0) % 18446744073709551616), .i (x - (lsh n 0 : Int)), .i ((x - (lsh n 0 : Int)).tmod 2), .u ((n * 2 ^ lsh n 0) / 18446744073709551616), .u ((n * 2 ^ lsh n 0) % 18446744073709551616), .i (x - (lsh n 0 : Int)), .u (sqN (n * 2 ^ lsh n 0)), .u (((sqN (n * 2 ^ lsh n 0)) * (sqN (n * 2 ^ lsh n 0))) / 18446744073709551616), .u (((sqN (n * 2 ^ lsh n 0)) * (sqN (n * 2 ^ lsh n 0))) % 18446744073709551616), .u (((n * 2 ^ lsh n 0) - ((sqN (n * 2 ^ lsh n 0)) * (sqN (n * 2 ^ lsh n 0)))) / 18446744073709551616), .u (((n * 2 ^ lsh n 0) - ((sqN (n * 2 ^ lsh n 0)) * (sqN (n * 2 ^ lsh n 0)))) % 18446744073709551616), .u (bt .or (((n * 2 ^ lsh n 0) - ((sqN (n * 2 ^ lsh n 0)) * (sqN (n * 2 ^ lsh n 0)))) / 18446744073709551616) (((n * 2 ^ lsh n 0) - ((sqN (n * 2 ^ lsh n 0)) * (sqN (n * 2 ^ lsh n 0)))) % 18446744073709551616)), .u (stk ((n * 2 ^ lsh n 0) - ((sqN (n * 2 ^ lsh n 0)) * (sqN (n * 2 ^ lsh n 0))))), .i ((x - (lsh n 0 : Int)) / 2), .i ((x - (lsh n 0 : Int)) / 2 - 64)]
  have hcx : CxOK (DomQ true ν σ (fun _ => none)) w.heap.size ⟨Tryd.prog, true, t.get, orcD (vrt0D ), (opH (bigHook Tryd.prog true) (opH (symHook Tryd.prog vrt0N (fun _ _ _ => none)) (tabHook (vrt0L ) vrt0M)))⟩ := cxS_ok (M := (DomQ true ν σ (fun _ => none))) ht ⟨[
      orcT 81 [
        { args := [.agg [.lit (.bool false), .lit (.bool false), .atom (.sym 0), .atom (.sym 1), .atom (.sym 2)], .one (.lit (.int .i64 (0)))], ans := .v (.agg [.lit (.bool false), .lit (.bool false), .atom (.sym 3), .atom (.sym 4), .atom (.sym 5)]), ok := by
            intro B ρ w S vs hS hr
            match vs, hr with
            | [u0, u1], ⟨z0, z1, _⟩ =>
              obtain ⟨us0, rfl, y0⟩ := z0
              match us0, y0 with
              | [v0_0, v0_1, v0_2, v0_3, v0_4], ⟨y0_0, y0_1, y0_2, y0_3, y0_4, _⟩ =>
              obtain ⟨rfl, f0_0⟩ : v0_0 = _ ∧ _ := y0_0
              obtain ⟨rfl, f0_1⟩ : v0_1 = _ ∧ _ := y0_1
              obtain ⟨rfl, f0_2⟩ : v0_2 = _ ∧ _ := y0_2
              obtain ⟨rfl, f0_3⟩ : v0_3 = _ ∧ _ := y0_3
              obtain ⟨rfl, f0_4⟩ : v0_4 = _ ∧ _ := y0_4
              obtain ⟨rfl, _⟩ : u1 = _ ∧ _ := z1
              refine (cL _ 0 (by omega)).mono ?_
              rintro e w' ⟨rfl, hf⟩
              exact ⟨_, rfl, ⟨[_, _, _, _, _], rfl, ⟨rfl, rfl⟩, ⟨rfl, rfl⟩, ⟨rfl, fun _ => trivial⟩, ⟨rfl, fun _ => trivial⟩, ⟨rfl, fun _ => trivial⟩, trivial⟩, hf⟩ }],
      orcT 108 [
        { args := [.agg [.atom (.sym 3), .atom (.sym 4)]], ans := .v (.one (.atom (.sym 10))), ok := by
            intro B ρ w S vs hS hr
            match vs, hr with
            | [u0], ⟨z0, _⟩ =>
              obtain ⟨us0, rfl, y0⟩ := z0
              match us0, y0 with
              | [v0_0, v0_1], ⟨y0_0, y0_1, _⟩ =>
              obtain ⟨rfl, f0_0⟩ : v0_0 = _ ∧ _ := y0_0
              obtain ⟨rfl, f0_1⟩ : v0_1 = _ ∧ _ := y0_1
              refine (cR _).mono ?_
              rintro e w' ⟨rfl, hf⟩
              exact ⟨_, rfl, ⟨rfl, fun _ => trivial⟩, hf⟩ }],
      orcT 110 [
        { args := [.one (.atom (.sym 10)), .one (.atom (.sym 10))], ans := .v (.agg [.atom (.sym 11), .atom (.sym 12)]), ok := by
            intro B ρ w S vs hS hr
            match vs, hr with
            | [u0, u1], ⟨z0, z1, _⟩ =>
              obtain ⟨rfl, _⟩ : u0 = _ ∧ _ := z0
              obtain ⟨rfl, _⟩ : u1 = _ ∧ _ := z1
              refine (cP _).mono ?_
              rintro e w' ⟨rfl, hf⟩
              exact ⟨_, rfl, ⟨[_, _], rfl, ⟨rfl, fun _ => trivial⟩, ⟨rfl, fun _ => trivial⟩, trivial⟩, hf⟩ }],
      orcT 109 [
        { args := [.agg [.atom (.sym 3), .atom (.sym 4)], .agg [.atom (.sym 11), .atom (.sym 12)]], ans := .v (.agg [.atom (.sym 13), .atom (.sym 14)]), ok := by
            intro B ρ w S vs hS hr
            match vs, hr with
            | [u0, u1], ⟨z0, z1, _⟩ =>
              obtain ⟨us0, rfl, y0⟩ := z0
              match us0, y0 with
              | [v0_0, v0_1], ⟨y0_0, y0_1, _⟩ =>
              obtain ⟨rfl, f0_0⟩ : v0_0 = _ ∧ _ := y0_0
              obtain ⟨rfl, f0_1⟩ : v0_1 = _ ∧ _ := y0_1
              obtain ⟨us1, rfl, y1⟩ := z1
              match us1, y1 with
              | [v1_0, v1_1], ⟨y1_0, y1_1, _⟩ =>
              obtain ⟨rfl, f1_0⟩ : v1_0 = _ ∧ _ := y1_0
              obtain ⟨rfl, f1_1⟩ : v1_1 = _ ∧ _ := y1_1
              refine (cM _).mono ?_
              rintro e w' ⟨rfl, hf⟩
              exact ⟨_, rfl, ⟨[_, _], rfl, ⟨rfl, fun _ => trivial⟩, ⟨rfl, fun _ => trivial⟩, trivial⟩, hf⟩ }],
      orcT 89 [
        { args := [.one (.atom (.sym 15))], ans := .v (.one (.atom (.sym 16))), ok := by
            intro B ρ w S vs hS hr
            match vs, hr with
            | [u0], ⟨z0, _⟩ =>
              obtain ⟨rfl, _⟩ : u0 = _ ∧ _ := z0
              refine (cT _).mono ?_
              rintro e w' ⟨rfl, hf⟩
              exact ⟨_, rfl, ⟨rfl, fun _ => trivial⟩, hf⟩ }]], rfl⟩
    (opH_le (bigHook_le _ _) (opH_le (symHook_le _ _ _) (tabHook_le _ _)))
    (opH_ok (bigHook_ok _) (opH_ok (symHook_ok _ (fun h => by cases h) (fun h => by cases h)) (tabHook_ok _ (all_cons (BOk.mk rfl rfl rfl (fun _ _ _ => trivial) rfl rfl (bo_remI _ (by omega) (by omega))) (all_cons (BOk.mk rfl rfl rfl (fun _ _ _ => trivial) rfl rfl (bo_neq (by rw [tmod_two, hod]; rfl))) (all_cons (BOk.mk rfl rfl rfl (fun _ _ _ => trivial) rfl rfl (bo_or _ _)) (all_cons (BOk.mk rfl rfl rfl (fun _ _ _ => trivial) rfl rfl (bo_quoI _ (by omega) (by omega) hev)) (all_cons (BOk.mk rfl rfl rfl (fun _ _ _ => trivial) rfl rfl (bo_sub (wr64 (by omega) (by omega)))) all_nil))))) all_nil)))
  refine (told_call (M := (DomQ true ν σ (fun _ => none))) (cx := ⟨Tryd.prog, true, t.get, orcD (vrt0D ), (opH (bigHook Tryd.prog true) (opH (symHook Tryd.prog vrt0N (fun _ _ _ => none)) (tabHook (vrt0L ) vrt0M)))⟩) (xs := [.agg [.lit (.bool false), .lit (.bool false), .atom (.sym 0), .atom (.sym 1), .atom (.sym 2)]]) (vs := [vt false false n x]) Tryd.checked.mixed hcx (fun hg => by cases hg) ⟨⟨[.bool false, .bool false, .int .u64 _, .int .u64 _, .int .i64 x], rfl, ⟨rfl, rfl⟩, ⟨rfl, rfl⟩, ⟨rfl, fun _ => trivial⟩, ⟨rfl, fun _ => trivial⟩, ⟨rfl, fun _ => trivial⟩, trivial⟩, trivial⟩ he).mono ?_
  rintro e w' ⟨v, ρ', rfl, hv, hbel⟩
  obtain ⟨us, rfl, hu⟩ := hv
  match us, hu with
  | [d0, d1, d2, d3, d4], ⟨y0, y1, y2, y3, y4, _⟩ =>
    obtain ⟨rfl, _⟩ : d0 = _ ∧ _ := y0
    obtain ⟨rfl, _⟩ : d1 = _ ∧ _ := y1
    obtain ⟨rfl, _⟩ : d2 = _ ∧ _ := y2
    obtain ⟨rfl, _⟩ : d3 = _ ∧ _ := y3
    obtain ⟨rfl, _⟩ : d4 = _ ∧ _ := y4
    refine ⟨?_, hbel⟩
    have hs := stk_lt ((n * 2 ^ lsh n 0) - ((sqN (n * 2 ^ lsh n 0)) * (sqN (n * 2 ^ lsh n 0))))
    have q1 : ((sqN (n * 2 ^ lsh n 0)) * 18446744073709551616 + stk ((n * 2 ^ lsh n 0) - ((sqN (n * 2 ^ lsh n 0)) * (sqN (n * 2 ^ lsh n 0))))) / 18446744073709551616 = (sqN (n * 2 ^ lsh n 0)) := by omega
    have q2 : ((sqN (n * 2 ^ lsh n 0)) * 18446744073709551616 + stk ((n * 2 ^ lsh n 0) - ((sqN (n * 2 ^ lsh n 0)) * (sqN (n * 2 ^ lsh n 0))))) % 18446744073709551616 = stk ((n * 2 ^ lsh n 0) - ((sqN (n * 2 ^ lsh n 0)) * (sqN (n * 2 ^ lsh n 0)))) := by omega
    unfold vt
    rw [q1, q2]
    rfl

theorem vroot_any {w : World} {n : Nat} {x : Int} (hn : n ≠ 0) (hb : n < 9007199254740992) (x1 : -10000 ≤ x) (x2 : x ≤ 10000) :
    Calls Tryd.prog 95 #[vt false false n x] w fun e w' => e = .returned (vt false false (rootV n x).2.2.1 (rootV n x).2.2.2) ∧ Fwd w w' := by
  unfold rootV rtL rtX rtR
  by_cases c : (x - (lsh n 0 : Int)) % 2 = 0
  · rw [if_pos c]
    exact vrt0_tab hn hb x1 x2 (decide_eq_true c)
  · rw [if_neg c]
    exact vrt1_tab hn hb x1 x2 (decide_eq_false c)
end Go.Proofs.YtcfhajnboamnnaaDoor
