/- FloatRoots: a root rounded down and rounded up; the root of a square: the law's walk, by the reader upon letters. -/
import Derived.Test.YtcfhajnboamnnaaDoorXF36
import Derived.Test.YtcfhajnboamnnaaDoorYXF17
import Derived.Test.YtcfhajnboamnnaaDoorYXFM
import Derived.Test.YtcfhajnboamnnaaDoorXF40
import Derived.Test.YtcfhajnboamnnaaDoorYXFBR
import Derived.Test.YtcfhajnboamnnaaDoorKI
import Derived.Test.YtcfhajnboamnnaaDoorYXN1
import Derived.Test.YtcfhajnboamnnaaDoorYXF26
import Derived.OpenShut
namespace Go.Proofs.YtcfhajnboamnnaaDoor
open Go.RowKit Go.Ev
set_option linter.unusedVariables false
set_option linter.unusedSimpArgs false

theorem bo_andNot {a c : Nat} {b : Int} (h : bits .andNot .u64 (a : Int) b = (c : Int)) (t : TypeId) : binOp .andNot t (.int .u64 (a : Int)) (.int .u64 b) = pure (.int .u64 (c : Int)) := by
  rw [binOp_andNot, ← h]; rfl
theorem cmp2n {w : World} {a b : Value} {p q : Rat} (ha : RV w a p) (hb : RV w b q) (bp : nr p ≤ 5000) (bq : nr q ≤ 5000) :
    Calls Tryd.prog 18 #[a, b] w fun e w' => e = .returned (.int .i64 (cmpQ p q)) ∧ Fwd w w' := by
  rw [← cmpS_eq]
  exact cmp2_any ha.rw' (nr_le bp).1 (nr_le bp).2 hb.rw' (nr_le bq).1 (nr_le bq).2
theorem nr_small {z : Int} (h : z.natAbs < 9007199254740992) : nr (z : Rat) ≤ 5 := by
  have h1 : nl z.natAbs ≤ 2 := nl_two' h
  have h2 : nl 1 ≤ 2 := nl_two' (by decide)
  have e : nr (z : Rat) = max (nl z.natAbs) (nl 1) := rfl
  omega
theorem cmpQ_above (p q : Rat) : decide (0 < cmpQ p q) = decide (q < p) := by
  unfold cmpQ
  by_cases h : p < q
  · have : ¬ q < p := by grind
    simp [h, this]
  · by_cases g : q < p <;> simp [h, g]
set_option maxHeartbeats 1000000 in
/-- within: what is left by 67108864. -/
theorem within3_sq (w : World) (a : Int) (ha1 : -9223372036854775808 ≤ a) (ha2 : a ≤ 9223372036854775807) :
    Calls Tryd.prog 12 #[.int .i64 a, .int .i64 67108864] w fun e w' => e = .returned (.int .i64 (a % 67108864)) ∧ w = w' := by
  by_cases h0 : 0 ≤ a
  · have h1 : a % 67108864 < 67108864 := Int.emod_lt_of_pos _ (by omega)
    have h2 : 0 ≤ a % 67108864 := Int.emod_nonneg _ (by omega)
    go_enter Tryd.func12, Tryd.ntmps12
    go_wp2
    go_ret
    exact ⟨rfl, rfl⟩
  · have hb : ∃ b : Int, a = -b ∧ 0 < b := ⟨-a, by omega, by omega⟩
    obtain ⟨b, hb, hb0⟩ := hb
    have h3 : a.tmod 67108864 = -(b % 67108864) := by rw [hb, Int.neg_tmod, Int.tmod_eq_emod_of_nonneg (by omega)]
    have h1 : b % 67108864 < 67108864 := Int.emod_lt_of_pos _ (by omega)
    have h2 : 0 ≤ b % 67108864 := Int.emod_nonneg _ (by omega)
    obtain ⟨t, ht⟩ : ∃ t, t = b % 67108864 := ⟨_, rfl⟩
    obtain ⟨r, hr⟩ : ∃ r, r = a % 67108864 := ⟨_, rfl⟩
    have h5 : r = if t = 0 then 0 else 67108864 - t := by split <;> omega
    rw [← hr]
    rw [← ht] at h1 h2 h3
    clear ht hb hr
    by_cases ht0 : t = 0
    · have h4 : ¬ (-t < 0) := by omega
      rw [if_pos ht0] at h5
      subst h5
      have HT := hid ht0
      subst ht0
      simp only [Int.neg_zero] at h3
      go_enter Tryd.func12, Tryd.ntmps12
      go_wp2
      go_ret
      exact ⟨rfl, rfl⟩
    · have h4 : -t < 0 := by omega
      rw [if_neg ht0] at h5
      subst h5
      go_enter Tryd.func12, Tryd.ntmps12
      go_wp2
      go_ret
      refine ⟨?_, rfl⟩
      have e : -t + 67108864 = 67108864 - t := by omega
      simp only [e]
      rfl

def lfrID : List (FuncId × Ans) :=
  [(8, ansT [([], .v (.one (.lit (.bool true))))]),
   (21, ansT [([.one (.atom (.sym 0)), .one (.atom (.sym 1))], .v (.one (.atom (.sym 3))))]),
   (17, ansT [([.one (.atom (.sym 4))], .tup [.agg [.lit (.bool false), .lit (.slice none 0 0), .lit (.slice none 0 0)], .one (.lit (.int .i64 (10)))])])]
def lfrIL : BT := [(.andNot, .atom (.sym 3), .lit (.int .u64 9223372036854775808), .atom (.sym 4))]
def lfrIM : BT := []
def lfrIN : At → Option Nat
  | _ => none

set_option maxRecDepth 1000000 in
theorem lfrITold : ∃ t : Tr Func, TabOK Tryd.prog t ∧ (isAV (.v (.one (.lit (.bool true)))) (evalCall ⟨Tryd.prog, true, t.get, orcD (lfrID ), (opH (bigHook Tryd.prog true) (opH (symHook Tryd.prog lfrIN (fun _ _ _ => none)) (tabHook (lfrIL ) lfrIM)))⟩ 1000 7 [.one (.atom (.sym 0)), .one (.atom (.sym 1)), .one (.atom (.sym 2))] .e 0) = true) :=
  ⟨((((Tr.e).put 7 (some Tryd.f7)).put 8 (some Tryd.f8)).put 21 (some Tryd.f21)).put 17 (some Tryd.f17),
   (TabOK.put (TabOK.put (TabOK.put (TabOK.put (TabOK.e _) ⟨Tryd.func7, by decide +kernel, by decide +kernel⟩) ⟨Tryd.func8, by decide +kernel, by decide +kernel⟩) ⟨Tryd.func21, by decide +kernel, by decide +kernel⟩) ⟨Tryd.func17, by decide +kernel, by decide +kernel⟩),
   by decide +kernel⟩

set_option maxHeartbeats 4000000 in
set_option maxRecDepth 100000 in
theorem lfrI_tab {w : World} (hR : Ru w) (a y : Nat) (n m : Int) (ha : a < 18446744073709551616) (hy : y < 18446744073709551616) (n1 : -9223372036854775808 ≤ n) (n2 : n ≤ 9223372036854775807) (m1 : -9223372036854775808 ≤ m) (m2 : m ≤ 9223372036854775807)
    (cy : ∀ w : World, Calls Tryd.prog 21 #[.int .u64 a, .int .i64 n] w fun e w' => e = .returned (.int .u64 y) ∧ Fwd w w') (h1 : 9218868437227405312 ≤ fsz y) :
    Calls Tryd.prog 7 #[.int .u64 a, .int .i64 n, .int .i64 m] w fun e w' => e = .returned (.bool true) ∧ Below w.heap.size w w' := by
  have hx : fsz y < 18446744073709551616 := by unfold fsz; omega
  have hxx : fsz (fsz y) = fsz y := by unfold fsz; omega
  obtain ⟨t, ht, hr⟩ := lfrITold
  obtain ⟨dl, n', he⟩ := isAV_ok (hr)
  let ν : Nat → Rat := nuL [] []
  let σ : SymD := symL [.u a, .i n, .i m, .u y, .u (fsz y)]
  have hcx : CxOK (DomQ true ν σ ruG) w.heap.size ⟨Tryd.prog, true, t.get, orcD (lfrID ), (opH (bigHook Tryd.prog true) (opH (symHook Tryd.prog lfrIN (fun _ _ _ => none)) (tabHook (lfrIL ) lfrIM)))⟩ := cxS_ok (M := (DomQ true ν σ ruG)) ht ⟨[
      orcT 8 [
        { args := [], ans := .v (.one (.lit (.bool true))), ok := by
            intro B ρ w S vs hS hr
            match vs, hr with
            | [], _ =>
              skip
              refine (known3_any (ru_of hS)).mono ?_
              rintro e w' ⟨rfl, hf⟩
              exact ⟨_, rfl, ⟨rfl, rfl⟩, hf⟩ }],
      orcT 21 [
        { args := [.one (.atom (.sym 0)), .one (.atom (.sym 1))], ans := .v (.one (.atom (.sym 3))), ok := by
            intro B ρ w S vs hS hr
            match vs, hr with
            | [u0, u1], ⟨z0, z1, _⟩ =>
              obtain ⟨rfl, _⟩ : u0 = _ ∧ _ := z0
              obtain ⟨rfl, _⟩ : u1 = _ ∧ _ := z1
              refine (cy _).mono ?_
              rintro e w' ⟨rfl, hf⟩
              exact ⟨_, rfl, ⟨rfl, fun _ => trivial⟩, hf⟩ }],
      orcT 17 [
        { args := [.one (.atom (.sym 4))], ans := .tup [.agg [.lit (.bool false), .lit (.slice none 0 0), .lit (.slice none 0 0)], .one (.lit (.int .i64 (10)))], ok := by
            intro B ρ w S vs hS hr
            match vs, hr with
            | [u0], ⟨z0, _⟩ =>
              obtain ⟨rfl, _⟩ : u0 = _ ∧ _ := z0
              refine (refRat_range (fsz y) hx (by omega)).mono ?_
              rintro e w' ⟨rfl, hf⟩
              exact ⟨_, rfl, ⟨[_, _], rfl, ⟨[_, _, _], rfl, ⟨rfl, rfl⟩, ⟨rfl, rfl⟩, ⟨rfl, rfl⟩, trivial⟩, ⟨rfl, rfl⟩, trivial⟩, hf⟩ }]], rfl⟩
    (opH_le (bigHook_le _ _) (opH_le (symHook_le _ _ _) (tabHook_le _ _)))
    (opH_ok (bigHook_ok _) (opH_ok (symHook_ok _ (fun h => by cases h) (fun h => by cases h)) (tabHook_ok _ (all_cons (BOk.mk rfl rfl rfl (fun _ _ _ => trivial) rfl rfl (bo_andNot (andNot_sign y hy))) all_nil) all_nil)))
  refine (told_call (M := (DomQ true ν σ ruG)) (cx := ⟨Tryd.prog, true, t.get, orcD (lfrID ), (opH (bigHook Tryd.prog true) (opH (symHook Tryd.prog lfrIN (fun _ _ _ => none)) (tabHook (lfrIL ) lfrIM)))⟩) (xs := [.one (.atom (.sym 0)), .one (.atom (.sym 1)), .one (.atom (.sym 2))]) (vs := [.int .u64 a, .int .i64 n, .int .i64 m]) Tryd.checked.mixed hcx (fun hg => ruG_ok hR hg) ⟨⟨rfl, fun _ => trivial⟩, ⟨rfl, fun _ => trivial⟩, ⟨rfl, fun _ => trivial⟩, trivial⟩ he).mono ?_
  rintro e w' ⟨v, ρ', rfl, hv, hbel⟩
  obtain ⟨rfl, _⟩ : v = _ ∧ _ := hv
  exact ⟨rfl, hbel⟩

def lfrED : List (FuncId × Ans) :=
  [(8, ansT [([], .v (.one (.lit (.bool true))))]),
   (21, ansT [([.one (.atom (.sym 0)), .one (.atom (.sym 1))], .v (.one (.atom (.sym 3))))]),
   (17, ansT [([.one (.atom (.sym 4))], .tup [avQ (.v 0), .one (.lit (.int .i64 (0)))]), ([.one (.atom (.sym 5))], .tup [avQ (.v 1), .one (.lit (.int .i64 (0)))]), ([.one (.atom (.sym 7))], .tup [avQ (.v 2), .one (.lit (.int .i64 (0)))])]),
   (34, ansT [([.one (.atom (.sym 4)), .one (.lit (.int .i64 (2)))], .tup [.one (.atom (.sym 5)), .one (.atom (.sym 6))]), ([.one (.atom (.sym 4)), .one (.lit (.int .i64 (3)))], .tup [.one (.atom (.sym 7)), .one (.atom (.sym 6))]), ([.one (.atom (.sym 13)), .one (.atom (.sym 15))], .tup [.one (.atom (.sym 11)), .one (.lit (.int .i64 (0)))])]),
   (14, ansT [([avQ (.v 1), avQ (.v 1)], .v (avQ (.v 3))), ([avQ (.v 2), avQ (.v 2)], .v (avQ (.v 4)))]),
   (18, ansT [([avQ (.v 3), avQ (.v 0)], .v (.one (.atom (.sym 8)))), ([avQ (.v 0), avQ (.v 4)], .v (.one (.atom (.sym 9))))]),
   (19, ansT [([avQ (.v 3), avQ (.v 0)], .v (.one (.lit (.bool true))))]),
   (12, ansT [([.one (.atom (.sym 2)), .one (.lit (.int .i64 (67108864)))], .v (.one (.atom (.sym 10)))), ([.one (.atom (.sym 2)), .one (.lit (.int .i64 (5)))], .v (.one (.atom (.sym 15))))]),
   (38, ansT [([.one (.atom (.sym 10))], .v (avQ (.v 5)))]),
   (24, ansT [([avQ (.v 5), .one (.lit (.int .i64 (0)))], .tup [.one (.atom (.sym 11)), .one (.atom (.sym 12))])]),
   (31, ansT [([.one (.atom (.sym 11)), .one (.atom (.sym 11)), .one (.lit (.int .i64 (0)))], .tup [.one (.atom (.sym 13)), .one (.atom (.sym 14))])])]
def lfrEL : BT := [(.andNot, .atom (.sym 3), .lit (.int .u64 9223372036854775808), .atom (.sym 4)), (.neq, .atom (.sym 6), .atom (.sym 6), .lit (.bool false)), (.gtr, .atom (.sym 8), .lit (.int .i64 (0)), .lit (.bool false)), (.gtr, .atom (.sym 9), .lit (.int .i64 (0)), .lit (.bool false)), (.eql, .atom (.sym 6), .lit (.int .i64 (0)), .lit (.bool true)), (.eql, .atom (.sym 5), .atom (.sym 7), .lit (.bool true)), (.eql, .atom (.sym 11), .atom (.sym 11), .lit (.bool true))]
def lfrEM : BT := []
def lfrEN : At → Option Nat
  | _ => none

set_option maxRecDepth 1000000 in
theorem lfrETold : ∃ t : Tr Func, TabOK Tryd.prog t ∧ (isAV (.v (.one (.lit (.bool true)))) (evalCall ⟨Tryd.prog, true, t.get, orcD (lfrED ), (opH (bigHook Tryd.prog true) (opH (symHook Tryd.prog lfrEN (fun _ _ _ => none)) (tabHook (lfrEL ) lfrEM)))⟩ 1000 7 [.one (.atom (.sym 0)), .one (.atom (.sym 1)), .one (.atom (.sym 2))] .e 0) = true) :=
  ⟨((((((((((((Tr.e).put 7 (some Tryd.f7)).put 8 (some Tryd.f8)).put 21 (some Tryd.f21)).put 17 (some Tryd.f17)).put 34 (some Tryd.f34)).put 14 (some Tryd.f14)).put 18 (some Tryd.f18)).put 19 (some Tryd.f19)).put 12 (some Tryd.f12)).put 38 (some Tryd.f38)).put 24 (some Tryd.f24)).put 31 (some Tryd.f31),
   (TabOK.put (TabOK.put (TabOK.put (TabOK.put (TabOK.put (TabOK.put (TabOK.put (TabOK.put (TabOK.put (TabOK.put (TabOK.put (TabOK.put (TabOK.e _) ⟨Tryd.func7, by decide +kernel, by decide +kernel⟩) ⟨Tryd.func8, by decide +kernel, by decide +kernel⟩) ⟨Tryd.func21, by decide +kernel, by decide +kernel⟩) ⟨Tryd.func17, by decide +kernel, by decide +kernel⟩) ⟨Tryd.func34, by decide +kernel, by decide +kernel⟩) ⟨Tryd.func14, by decide +kernel, by decide +kernel⟩) ⟨Tryd.func18, by decide +kernel, by decide +kernel⟩) ⟨Tryd.func19, by decide +kernel, by decide +kernel⟩) ⟨Tryd.func12, by decide +kernel, by decide +kernel⟩) ⟨Tryd.func38, by decide +kernel, by decide +kernel⟩) ⟨Tryd.func24, by decide +kernel, by decide +kernel⟩) ⟨Tryd.func31, by decide +kernel, by decide +kernel⟩),
   by decide +kernel⟩

set_option maxHeartbeats 4000000 in
set_option maxRecDepth 100000 in
theorem lfrE_tab {w : World} (hR : Ru w) (a y : Nat) (n m : Int) (ha : a < 18446744073709551616) (hy : y < 18446744073709551616) (n1 : -9223372036854775808 ≤ n) (n2 : n ≤ 9223372036854775807) (m1 : -9223372036854775808 ≤ m) (m2 : m ≤ 9223372036854775807)
    (cy : ∀ w : World, Calls Tryd.prog 21 #[.int .u64 a, .int .i64 n] w fun e w' => e = .returned (.int .u64 y) ∧ Fwd w w') (h1 : fsz y < 9218868437227405312) {lo hi fl g : Nat} (hlo : sqrtF 2 (fsz y) = (lo, fl)) (hhi : sqrtF 3 (fsz y) = (hi, fl)) (l1 : lo < 18446744073709551616) (l2 : hi < 18446744073709551616) (l3 : fsz lo < 9218868437227405312) (l4 : fsz hi < 9218868437227405312)
    (l5 : fvQ lo * fvQ lo ≤ fvQ (fsz y)) (l6 : fvQ (fsz y) ≤ fvQ hi * fvQ hi) (l7 : decide (fl = 0) = true) (l8 : decide (lo = hi) = true) (l9 : fvQ lo * fvQ lo = fvQ (fsz y)) (hg : (ofN 0 ((m % 67108864 : Int) : Rat)).1 = g) (hg1 : g < 18446744073709551616) (hg2 : (mulF 0 g g).1 < 18446744073709551616) (hg3 : sqrtF (m % 5) (mulF 0 g g).1 = (g, 0)) :
    Calls Tryd.prog 7 #[.int .u64 a, .int .i64 n, .int .i64 m] w fun e w' => e = .returned (.bool true) ∧ Below w.heap.size w w' := by
  have hx : fsz y < 18446744073709551616 := by unfold fsz; omega
  have hxx : fsz (fsz y) = fsz y := by unfold fsz; omega
  have bx := nr_fvQ (f := fsz y) (by omega)
  have bl := nr_fvQ l3
  have bh := nr_fvQ l4
  have bll := nr_mul (fvQ lo) (fvQ lo)
  have bhh := nr_mul (fvQ hi) (fvQ hi)
  have k1 : 0 ≤ m % 67108864 := Int.emod_nonneg _ (by omega)
  have k2 : m % 67108864 < 67108864 := Int.emod_lt_of_pos _ (by omega)
  have bk := nr_small (z := m % 67108864) (by omega)
  have cLo : ∀ (w : World), Ru w → Calls Tryd.prog 34 #[.int .u64 (fsz y), .int .i64 2] w fun e w' => e = .returned (.tuple #[.int .u64 (lo : Nat), .int .i64 (fl : Nat)]) ∧ Fwd w w' := fun w h => by
    have := sqrtF_any h 2 (fsz y) hx; rw [hlo] at this; exact this
  have cHi : ∀ (w : World), Ru w → Calls Tryd.prog 34 #[.int .u64 (fsz y), .int .i64 3] w fun e w' => e = .returned (.tuple #[.int .u64 (hi : Nat), .int .i64 (fl : Nat)]) ∧ Fwd w w' := fun w h => by
    have := sqrtF_any h 3 (fsz y) hx; rw [hhi] at this; exact this
  have cSq : ∀ (w : World), Ru w → Calls Tryd.prog 34 #[.int .u64 ((mulF 0 g g).1 : Nat), .int .i64 (m % 5)] w fun e w' => e = .returned (.tuple #[.int .u64 (g : Nat), .int .i64 0]) ∧ Fwd w w' := fun w h => by
    have := sqrtF_any h (m % 5) _ hg2; rw [hg3] at this; exact this
  have cOf : ∀ (w : World) (u : Value), RV w u ((m % 67108864 : Int) : Rat) → Calls Tryd.prog 24 #[u, .int .i64 0] w fun e w' => e = .returned (.tuple #[.int .u64 (g : Nat), .int .i64 ((ofN 0 ((m % 67108864 : Int) : Rat)).2 : Nat)]) ∧ Fwd w w' := fun w u h => by
    rw [← hg]; exact of3_any 0 h (by omega)
  have cSa : ∀ (w : World) (u v : Value), RV w u (fvQ lo * fvQ lo) → RV w v (fvQ (fsz y)) → Calls Tryd.prog 19 #[u, v] w fun e w' => e = .returned (.bool true) ∧ Fwd w w' := fun w u v h h' => by
    have := same2_num h h' (by omega) (by omega); rwa [decide_eq_true l9] at this
  obtain ⟨t, ht, hr⟩ := lfrETold
  obtain ⟨dl, n', he⟩ := isAV_ok (hr)
  let ν : Nat → Rat := nuL [(fvQ (fsz y)), fvQ lo, fvQ hi, fvQ lo * fvQ lo, fvQ hi * fvQ hi, ((m % 67108864 : Int) : Rat)] []
  let σ : SymD := symL [.u a, .i n, .i m, .u y, .u (fsz y), .u lo, .i (fl : Int), .u hi, .i (cmpQ (fvQ lo * fvQ lo) (fvQ (fsz y))), .i (cmpQ (fvQ (fsz y)) (fvQ hi * fvQ hi)), .i (m % 67108864), .u g, .i ((ofN 0 ((m % 67108864 : Int) : Rat)).2 : Int), .u (mulF 0 g g).1, .i ((mulF 0 g g).2 : Int), .i (m % 5)]
  have hcx : CxOK (DomQ true ν σ ruG) w.heap.size ⟨Tryd.prog, true, t.get, orcD (lfrED ), (opH (bigHook Tryd.prog true) (opH (symHook Tryd.prog lfrEN (fun _ _ _ => none)) (tabHook (lfrEL ) lfrEM)))⟩ := cxS_ok (M := (DomQ true ν σ ruG)) ht ⟨[
      orcT 8 [
        { args := [], ans := .v (.one (.lit (.bool true))), ok := by
            intro B ρ w S vs hS hr
            match vs, hr with
            | [], _ =>
              skip
              refine (known3_any (ru_of hS)).mono ?_
              rintro e w' ⟨rfl, hf⟩
              exact ⟨_, rfl, ⟨rfl, rfl⟩, hf⟩ }],
      orcT 21 [
        { args := [.one (.atom (.sym 0)), .one (.atom (.sym 1))], ans := .v (.one (.atom (.sym 3))), ok := by
            intro B ρ w S vs hS hr
            match vs, hr with
            | [u0, u1], ⟨z0, z1, _⟩ =>
              obtain ⟨rfl, _⟩ : u0 = _ ∧ _ := z0
              obtain ⟨rfl, _⟩ : u1 = _ ∧ _ := z1
              refine (cy _).mono ?_
              rintro e w' ⟨rfl, hf⟩
              exact ⟨_, rfl, ⟨rfl, fun _ => trivial⟩, hf⟩ }],
      orcT 17 [
        { args := [.one (.atom (.sym 4))], ans := .tup [avQ (.v 0), .one (.lit (.int .i64 (0)))], ok := by
            intro B ρ w S vs hS hr
            match vs, hr with
            | [u0], ⟨z0, _⟩ =>
              obtain ⟨rfl, _⟩ : u0 = _ ∧ _ := z0
              refine (refRat_any (fsz y) hx (by omega)).mono ?_
              rintro e w' ⟨v, rfl, g0, hf⟩
              exact ⟨_, rfl, ⟨[_, _], rfl, (avQ_rel g0), ⟨rfl, rfl⟩, trivial⟩, hf⟩ },
        { args := [.one (.atom (.sym 5))], ans := .tup [avQ (.v 1), .one (.lit (.int .i64 (0)))], ok := by
            intro B ρ w S vs hS hr
            match vs, hr with
            | [u0], ⟨z0, _⟩ =>
              obtain ⟨rfl, _⟩ : u0 = _ ∧ _ := z0
              refine (refRat_any lo l1 l3).mono ?_
              rintro e w' ⟨v, rfl, g0, hf⟩
              exact ⟨_, rfl, ⟨[_, _], rfl, (avQ_rel g0), ⟨rfl, rfl⟩, trivial⟩, hf⟩ },
        { args := [.one (.atom (.sym 7))], ans := .tup [avQ (.v 2), .one (.lit (.int .i64 (0)))], ok := by
            intro B ρ w S vs hS hr
            match vs, hr with
            | [u0], ⟨z0, _⟩ =>
              obtain ⟨rfl, _⟩ : u0 = _ ∧ _ := z0
              refine (refRat_any hi l2 l4).mono ?_
              rintro e w' ⟨v, rfl, g0, hf⟩
              exact ⟨_, rfl, ⟨[_, _], rfl, (avQ_rel g0), ⟨rfl, rfl⟩, trivial⟩, hf⟩ }],
      orcT 34 [
        { args := [.one (.atom (.sym 4)), .one (.lit (.int .i64 (2)))], ans := .tup [.one (.atom (.sym 5)), .one (.atom (.sym 6))], ok := by
            intro B ρ w S vs hS hr
            match vs, hr with
            | [u0, u1], ⟨z0, z1, _⟩ =>
              obtain ⟨rfl, _⟩ : u0 = _ ∧ _ := z0
              obtain ⟨rfl, _⟩ : u1 = _ ∧ _ := z1
              refine (cLo _ (ru_of hS)).mono ?_
              rintro e w' ⟨rfl, hf⟩
              exact ⟨_, rfl, ⟨[_, _], rfl, ⟨rfl, fun _ => trivial⟩, ⟨rfl, fun _ => trivial⟩, trivial⟩, hf⟩ },
        { args := [.one (.atom (.sym 4)), .one (.lit (.int .i64 (3)))], ans := .tup [.one (.atom (.sym 7)), .one (.atom (.sym 6))], ok := by
            intro B ρ w S vs hS hr
            match vs, hr with
            | [u0, u1], ⟨z0, z1, _⟩ =>
              obtain ⟨rfl, _⟩ : u0 = _ ∧ _ := z0
              obtain ⟨rfl, _⟩ : u1 = _ ∧ _ := z1
              refine (cHi _ (ru_of hS)).mono ?_
              rintro e w' ⟨rfl, hf⟩
              exact ⟨_, rfl, ⟨[_, _], rfl, ⟨rfl, fun _ => trivial⟩, ⟨rfl, fun _ => trivial⟩, trivial⟩, hf⟩ },
        { args := [.one (.atom (.sym 13)), .one (.atom (.sym 15))], ans := .tup [.one (.atom (.sym 11)), .one (.lit (.int .i64 (0)))], ok := by
            intro B ρ w S vs hS hr
            match vs, hr with
            | [u0, u1], ⟨z0, z1, _⟩ =>
              obtain ⟨rfl, _⟩ : u0 = _ ∧ _ := z0
              obtain ⟨rfl, _⟩ : u1 = _ ∧ _ := z1
              refine (cSq _ (ru_of hS)).mono ?_
              rintro e w' ⟨rfl, hf⟩
              exact ⟨_, rfl, ⟨[_, _], rfl, ⟨rfl, fun _ => trivial⟩, ⟨rfl, rfl⟩, trivial⟩, hf⟩ }],
      orcT 14 [
        { args := [avQ (.v 1), avQ (.v 1)], ans := .v (avQ (.v 3)), ok := by
            intro B ρ w S vs hS hr
            match vs, hr with
            | [u0, u1], ⟨z0, z1, _⟩ =>
              have k0 := avQ_rv z0
              have k1 := avQ_rv z1
              refine (mul2_any (p := fvQ lo) (q := fvQ lo) k0 k1 (by omega) (by omega)).mono ?_
              rintro e w' ⟨v, rfl, g0, hf⟩
              exact ⟨_, rfl, (avQ_rel g0), hf⟩ },
        { args := [avQ (.v 2), avQ (.v 2)], ans := .v (avQ (.v 4)), ok := by
            intro B ρ w S vs hS hr
            match vs, hr with
            | [u0, u1], ⟨z0, z1, _⟩ =>
              have k0 := avQ_rv z0
              have k1 := avQ_rv z1
              refine (mul2_any (p := fvQ hi) (q := fvQ hi) k0 k1 (by omega) (by omega)).mono ?_
              rintro e w' ⟨v, rfl, g0, hf⟩
              exact ⟨_, rfl, (avQ_rel g0), hf⟩ }],
      orcT 18 [
        { args := [avQ (.v 3), avQ (.v 0)], ans := .v (.one (.atom (.sym 8))), ok := by
            intro B ρ w S vs hS hr
            match vs, hr with
            | [u0, u1], ⟨z0, z1, _⟩ =>
              have k0 := avQ_rv z0
              have k1 := avQ_rv z1
              refine (cmp2n (p := fvQ lo * fvQ lo) (q := (fvQ (fsz y))) k0 k1 (by omega) (by omega)).mono ?_
              rintro e w' ⟨rfl, hf⟩
              exact ⟨_, rfl, ⟨rfl, fun _ => trivial⟩, hf⟩ },
        { args := [avQ (.v 0), avQ (.v 4)], ans := .v (.one (.atom (.sym 9))), ok := by
            intro B ρ w S vs hS hr
            match vs, hr with
            | [u0, u1], ⟨z0, z1, _⟩ =>
              have k0 := avQ_rv z0
              have k1 := avQ_rv z1
              refine (cmp2n (p := (fvQ (fsz y))) (q := fvQ hi * fvQ hi) k0 k1 (by omega) (by omega)).mono ?_
              rintro e w' ⟨rfl, hf⟩
              exact ⟨_, rfl, ⟨rfl, fun _ => trivial⟩, hf⟩ }],
      orcT 19 [
        { args := [avQ (.v 3), avQ (.v 0)], ans := .v (.one (.lit (.bool true))), ok := by
            intro B ρ w S vs hS hr
            match vs, hr with
            | [u0, u1], ⟨z0, z1, _⟩ =>
              have k0 := avQ_rv z0
              have k1 := avQ_rv z1
              refine (cSa _ _ _ k0 k1).mono ?_
              rintro e w' ⟨rfl, hf⟩
              exact ⟨_, rfl, ⟨rfl, rfl⟩, hf⟩ }],
      orcT 12 [
        { args := [.one (.atom (.sym 2)), .one (.lit (.int .i64 (67108864)))], ans := .v (.one (.atom (.sym 10))), ok := by
            intro B ρ w S vs hS hr
            match vs, hr with
            | [u0, u1], ⟨z0, z1, _⟩ =>
              obtain ⟨rfl, _⟩ : u0 = _ ∧ _ := z0
              obtain ⟨rfl, _⟩ : u1 = _ ∧ _ := z1
              refine ((within3_sq w m m1 m2).mono (R' := fun e w' => e = .returned (.int .i64 (m % 67108864)) ∧ Fwd w w') (fun e w' gg => ⟨gg.1, gg.2 ▸ Fwd.refl _⟩)).mono ?_
              rintro e w' ⟨rfl, hf⟩
              exact ⟨_, rfl, ⟨rfl, fun _ => trivial⟩, hf⟩ },
        { args := [.one (.atom (.sym 2)), .one (.lit (.int .i64 (5)))], ans := .v (.one (.atom (.sym 15))), ok := by
            intro B ρ w S vs hS hr
            match vs, hr with
            | [u0, u1], ⟨z0, z1, _⟩ =>
              obtain ⟨rfl, _⟩ : u0 = _ ∧ _ := z0
              obtain ⟨rfl, _⟩ : u1 = _ ∧ _ := z1
              refine ((within3_5 w m m1 m2).mono (R' := fun e w' => e = .returned (.int .i64 (m % 5)) ∧ Fwd w w') (fun e w' gg => ⟨gg.1, gg.2 ▸ Fwd.refl _⟩)).mono ?_
              rintro e w' ⟨rfl, hf⟩
              exact ⟨_, rfl, ⟨rfl, fun _ => trivial⟩, hf⟩ }],
      orcT 38 [
        { args := [.one (.atom (.sym 10))], ans := .v (avQ (.v 5)), ok := by
            intro B ρ w S vs hS hr
            match vs, hr with
            | [u0], ⟨z0, _⟩ =>
              obtain ⟨rfl, _⟩ : u0 = _ ∧ _ := z0
              refine (int2_any w (m % 67108864) (by omega) (by omega)).mono ?_
              rintro e w' ⟨v, rfl, g0, hf⟩
              exact ⟨_, rfl, (avQ_rel g0), hf⟩ }],
      orcT 24 [
        { args := [avQ (.v 5), .one (.lit (.int .i64 (0)))], ans := .tup [.one (.atom (.sym 11)), .one (.atom (.sym 12))], ok := by
            intro B ρ w S vs hS hr
            match vs, hr with
            | [u0, u1], ⟨z0, z1, _⟩ =>
              have k0 := avQ_rv z0
              obtain ⟨rfl, _⟩ : u1 = _ ∧ _ := z1
              refine (cOf _ _ k0).mono ?_
              rintro e w' ⟨rfl, hf⟩
              exact ⟨_, rfl, ⟨[_, _], rfl, ⟨rfl, fun _ => trivial⟩, ⟨rfl, fun _ => trivial⟩, trivial⟩, hf⟩ }],
      orcT 31 [
        { args := [.one (.atom (.sym 11)), .one (.atom (.sym 11)), .one (.lit (.int .i64 (0)))], ans := .tup [.one (.atom (.sym 13)), .one (.atom (.sym 14))], ok := by
            intro B ρ w S vs hS hr
            match vs, hr with
            | [u0, u1, u2], ⟨z0, z1, z2, _⟩ =>
              obtain ⟨rfl, _⟩ : u0 = _ ∧ _ := z0
              obtain ⟨rfl, _⟩ : u1 = _ ∧ _ := z1
              obtain ⟨rfl, _⟩ : u2 = _ ∧ _ := z2
              refine (mul3_any 0 g g hg1 hg1).mono ?_
              rintro e w' ⟨rfl, hf⟩
              exact ⟨_, rfl, ⟨[_, _], rfl, ⟨rfl, fun _ => trivial⟩, ⟨rfl, fun _ => trivial⟩, trivial⟩, hf⟩ }]], rfl⟩
    (opH_le (bigHook_le _ _) (opH_le (symHook_le _ _ _) (tabHook_le _ _)))
    (opH_ok (bigHook_ok _) (opH_ok (symHook_ok _ (fun h => by cases h) (fun h => by cases h)) (tabHook_ok _ (all_cons (BOk.mk rfl rfl rfl (fun _ _ _ => trivial) rfl rfl (bo_andNot (andNot_sign y hy))) (all_cons (BOk.mk rfl rfl rfl (fun _ _ _ => trivial) rfl rfl (bo_neq (by simp))) (all_cons (BOk.mk rfl rfl rfl (fun _ _ _ => trivial) rfl rfl (bo_gtr (by rw [cmpQ_above]; exact decide_eq_false (by grind)))) (all_cons (BOk.mk rfl rfl rfl (fun _ _ _ => trivial) rfl rfl (bo_gtr (by rw [cmpQ_above]; exact decide_eq_false (by grind)))) (all_cons (BOk.mk rfl rfl rfl (fun _ _ _ => trivial) rfl rfl (bo_eql (by rw [← l7]; exact decide_eq_decide.2 Int.natCast_inj))) (all_cons (BOk.mk rfl rfl rfl (fun _ _ _ => trivial) rfl rfl (bo_eql (by rw [← l8]; exact decide_eq_decide.2 Int.natCast_inj))) (all_cons (BOk.mk rfl rfl rfl (fun _ _ _ => trivial) rfl rfl (bo_eql (by simp))) all_nil))))))) all_nil)))
  refine (told_call (M := (DomQ true ν σ ruG)) (cx := ⟨Tryd.prog, true, t.get, orcD (lfrED ), (opH (bigHook Tryd.prog true) (opH (symHook Tryd.prog lfrEN (fun _ _ _ => none)) (tabHook (lfrEL ) lfrEM)))⟩) (xs := [.one (.atom (.sym 0)), .one (.atom (.sym 1)), .one (.atom (.sym 2))]) (vs := [.int .u64 a, .int .i64 n, .int .i64 m]) Tryd.checked.mixed hcx (fun hg => ruG_ok hR hg) ⟨⟨rfl, fun _ => trivial⟩, ⟨rfl, fun _ => trivial⟩, ⟨rfl, fun _ => trivial⟩, trivial⟩ he).mono ?_
  rintro e w' ⟨v, ρ', rfl, hv, hbel⟩
  obtain ⟨rfl, _⟩ : v = _ ∧ _ := hv
  exact ⟨rfl, hbel⟩

def lfrUD : List (FuncId × Ans) :=
  [(8, ansT [([], .v (.one (.lit (.bool true))))]),
   (21, ansT [([.one (.atom (.sym 0)), .one (.atom (.sym 1))], .v (.one (.atom (.sym 3))))]),
   (17, ansT [([.one (.atom (.sym 4))], .tup [avQ (.v 0), .one (.lit (.int .i64 (0)))]), ([.one (.atom (.sym 5))], .tup [avQ (.v 1), .one (.lit (.int .i64 (0)))]), ([.one (.atom (.sym 7))], .tup [avQ (.v 2), .one (.lit (.int .i64 (0)))])]),
   (34, ansT [([.one (.atom (.sym 4)), .one (.lit (.int .i64 (2)))], .tup [.one (.atom (.sym 5)), .one (.atom (.sym 6))]), ([.one (.atom (.sym 4)), .one (.lit (.int .i64 (3)))], .tup [.one (.atom (.sym 7)), .one (.atom (.sym 6))]), ([.one (.atom (.sym 13)), .one (.atom (.sym 15))], .tup [.one (.atom (.sym 11)), .one (.lit (.int .i64 (0)))])]),
   (14, ansT [([avQ (.v 1), avQ (.v 1)], .v (avQ (.v 3))), ([avQ (.v 2), avQ (.v 2)], .v (avQ (.v 4)))]),
   (18, ansT [([avQ (.v 3), avQ (.v 0)], .v (.one (.atom (.sym 8)))), ([avQ (.v 0), avQ (.v 4)], .v (.one (.atom (.sym 9))))]),
   (12, ansT [([.one (.atom (.sym 2)), .one (.lit (.int .i64 (67108864)))], .v (.one (.atom (.sym 10)))), ([.one (.atom (.sym 2)), .one (.lit (.int .i64 (5)))], .v (.one (.atom (.sym 15))))]),
   (38, ansT [([.one (.atom (.sym 10))], .v (avQ (.v 5)))]),
   (24, ansT [([avQ (.v 5), .one (.lit (.int .i64 (0)))], .tup [.one (.atom (.sym 11)), .one (.atom (.sym 12))])]),
   (31, ansT [([.one (.atom (.sym 11)), .one (.atom (.sym 11)), .one (.lit (.int .i64 (0)))], .tup [.one (.atom (.sym 13)), .one (.atom (.sym 14))])])]
def lfrUL : BT := [(.andNot, .atom (.sym 3), .lit (.int .u64 9223372036854775808), .atom (.sym 4)), (.neq, .atom (.sym 6), .atom (.sym 6), .lit (.bool false)), (.gtr, .atom (.sym 8), .lit (.int .i64 (0)), .lit (.bool false)), (.gtr, .atom (.sym 9), .lit (.int .i64 (0)), .lit (.bool false)), (.eql, .atom (.sym 6), .lit (.int .i64 (0)), .lit (.bool false)), (.eql, .atom (.sym 5), .atom (.sym 7), .lit (.bool false)), (.eql, .atom (.sym 11), .atom (.sym 11), .lit (.bool true))]
def lfrUM : BT := []
def lfrUN : At → Option Nat
  | _ => none

set_option maxRecDepth 1000000 in
theorem lfrUTold : ∃ t : Tr Func, TabOK Tryd.prog t ∧ (isAV (.v (.one (.lit (.bool true)))) (evalCall ⟨Tryd.prog, true, t.get, orcD (lfrUD ), (opH (bigHook Tryd.prog true) (opH (symHook Tryd.prog lfrUN (fun _ _ _ => none)) (tabHook (lfrUL ) lfrUM)))⟩ 1000 7 [.one (.atom (.sym 0)), .one (.atom (.sym 1)), .one (.atom (.sym 2))] .e 0) = true) :=
  ⟨(((((((((((Tr.e).put 7 (some Tryd.f7)).put 8 (some Tryd.f8)).put 21 (some Tryd.f21)).put 17 (some Tryd.f17)).put 34 (some Tryd.f34)).put 14 (some Tryd.f14)).put 18 (some Tryd.f18)).put 12 (some Tryd.f12)).put 38 (some Tryd.f38)).put 24 (some Tryd.f24)).put 31 (some Tryd.f31),
   (TabOK.put (TabOK.put (TabOK.put (TabOK.put (TabOK.put (TabOK.put (TabOK.put (TabOK.put (TabOK.put (TabOK.put (TabOK.put (TabOK.e _) ⟨Tryd.func7, by decide +kernel, by decide +kernel⟩) ⟨Tryd.func8, by decide +kernel, by decide +kernel⟩) ⟨Tryd.func21, by decide +kernel, by decide +kernel⟩) ⟨Tryd.func17, by decide +kernel, by decide +kernel⟩) ⟨Tryd.func34, by decide +kernel, by decide +kernel⟩) ⟨Tryd.func14, by decide +kernel, by decide +kernel⟩) ⟨Tryd.func18, by decide +kernel, by decide +kernel⟩) ⟨Tryd.func12, by decide +kernel, by decide +kernel⟩) ⟨Tryd.func38, by decide +kernel, by decide +kernel⟩) ⟨Tryd.func24, by decide +kernel, by decide +kernel⟩) ⟨Tryd.func31, by decide +kernel, by decide +kernel⟩),
   by decide +kernel⟩

set_option maxHeartbeats 4000000 in
set_option maxRecDepth 100000 in
theorem lfrU_tab {w : World} (hR : Ru w) (a y : Nat) (n m : Int) (ha : a < 18446744073709551616) (hy : y < 18446744073709551616) (n1 : -9223372036854775808 ≤ n) (n2 : n ≤ 9223372036854775807) (m1 : -9223372036854775808 ≤ m) (m2 : m ≤ 9223372036854775807)
    (cy : ∀ w : World, Calls Tryd.prog 21 #[.int .u64 a, .int .i64 n] w fun e w' => e = .returned (.int .u64 y) ∧ Fwd w w') (h1 : fsz y < 9218868437227405312) {lo hi fl g : Nat} (hlo : sqrtF 2 (fsz y) = (lo, fl)) (hhi : sqrtF 3 (fsz y) = (hi, fl)) (l1 : lo < 18446744073709551616) (l2 : hi < 18446744073709551616) (l3 : fsz lo < 9218868437227405312) (l4 : fsz hi < 9218868437227405312)
    (l5 : fvQ lo * fvQ lo ≤ fvQ (fsz y)) (l6 : fvQ (fsz y) ≤ fvQ hi * fvQ hi) (l7 : decide (fl = 0) = false) (l8 : decide (lo = hi) = false) (hg : (ofN 0 ((m % 67108864 : Int) : Rat)).1 = g) (hg1 : g < 18446744073709551616) (hg2 : (mulF 0 g g).1 < 18446744073709551616) (hg3 : sqrtF (m % 5) (mulF 0 g g).1 = (g, 0)) :
    Calls Tryd.prog 7 #[.int .u64 a, .int .i64 n, .int .i64 m] w fun e w' => e = .returned (.bool true) ∧ Below w.heap.size w w' := by
  have hx : fsz y < 18446744073709551616 := by unfold fsz; omega
  have hxx : fsz (fsz y) = fsz y := by unfold fsz; omega
  have bx := nr_fvQ (f := fsz y) (by omega)
  have bl := nr_fvQ l3
  have bh := nr_fvQ l4
  have bll := nr_mul (fvQ lo) (fvQ lo)
  have bhh := nr_mul (fvQ hi) (fvQ hi)
  have k1 : 0 ≤ m % 67108864 := Int.emod_nonneg _ (by omega)
  have k2 : m % 67108864 < 67108864 := Int.emod_lt_of_pos _ (by omega)
  have bk := nr_small (z := m % 67108864) (by omega)
  have cLo : ∀ (w : World), Ru w → Calls Tryd.prog 34 #[.int .u64 (fsz y), .int .i64 2] w fun e w' => e = .returned (.tuple #[.int .u64 (lo : Nat), .int .i64 (fl : Nat)]) ∧ Fwd w w' := fun w h => by
    have := sqrtF_any h 2 (fsz y) hx; rw [hlo] at this; exact this
  have cHi : ∀ (w : World), Ru w → Calls Tryd.prog 34 #[.int .u64 (fsz y), .int .i64 3] w fun e w' => e = .returned (.tuple #[.int .u64 (hi : Nat), .int .i64 (fl : Nat)]) ∧ Fwd w w' := fun w h => by
    have := sqrtF_any h 3 (fsz y) hx; rw [hhi] at this; exact this
  have cSq : ∀ (w : World), Ru w → Calls Tryd.prog 34 #[.int .u64 ((mulF 0 g g).1 : Nat), .int .i64 (m % 5)] w fun e w' => e = .returned (.tuple #[.int .u64 (g : Nat), .int .i64 0]) ∧ Fwd w w' := fun w h => by
    have := sqrtF_any h (m % 5) _ hg2; rw [hg3] at this; exact this
  have cOf : ∀ (w : World) (u : Value), RV w u ((m % 67108864 : Int) : Rat) → Calls Tryd.prog 24 #[u, .int .i64 0] w fun e w' => e = .returned (.tuple #[.int .u64 (g : Nat), .int .i64 ((ofN 0 ((m % 67108864 : Int) : Rat)).2 : Nat)]) ∧ Fwd w w' := fun w u h => by
    rw [← hg]; exact of3_any 0 h (by omega)
  obtain ⟨t, ht, hr⟩ := lfrUTold
  obtain ⟨dl, n', he⟩ := isAV_ok (hr)
  let ν : Nat → Rat := nuL [(fvQ (fsz y)), fvQ lo, fvQ hi, fvQ lo * fvQ lo, fvQ hi * fvQ hi, ((m % 67108864 : Int) : Rat)] []
  let σ : SymD := symL [.u a, .i n, .i m, .u y, .u (fsz y), .u lo, .i (fl : Int), .u hi, .i (cmpQ (fvQ lo * fvQ lo) (fvQ (fsz y))), .i (cmpQ (fvQ (fsz y)) (fvQ hi * fvQ hi)), .i (m % 67108864), .u g, .i ((ofN 0 ((m % 67108864 : Int) : Rat)).2 : Int), .u (mulF 0 g g).1, .i ((mulF 0 g g).2 : Int), .i (m % 5)]
  have hcx : CxOK (DomQ true ν σ ruG) w.heap.size ⟨Tryd.prog, true, t.get, orcD (lfrUD ), (opH (bigHook Tryd.prog true) (opH (symHook Tryd.prog lfrUN (fun _ _ _ => none)) (tabHook (lfrUL ) lfrUM)))⟩ := cxS_ok (M := (DomQ true ν σ ruG)) ht ⟨[
      orcT 8 [
        { args := [], ans := .v (.one (.lit (.bool true))), ok := by
            intro B ρ w S vs hS hr
            match vs, hr with
            | [], _ =>
              skip
              refine (known3_any (ru_of hS)).mono ?_
              rintro e w' ⟨rfl, hf⟩
              exact ⟨_, rfl, ⟨rfl, rfl⟩, hf⟩ }],
      orcT 21 [
        { args := [.one (.atom (.sym 0)), .one (.atom (.sym 1))], ans := .v (.one (.atom (.sym 3))), ok := by
            intro B ρ w S vs hS hr
            match vs, hr with
            | [u0, u1], ⟨z0, z1, _⟩ =>
              obtain ⟨rfl, _⟩ : u0 = _ ∧ _ := z0
              obtain ⟨rfl, _⟩ : u1 = _ ∧ _ := z1
              refine (cy _).mono ?_
              rintro e w' ⟨rfl, hf⟩
              exact ⟨_, rfl, ⟨rfl, fun _ => trivial⟩, hf⟩ }],
      orcT 17 [
        { args := [.one (.atom (.sym 4))], ans := .tup [avQ (.v 0), .one (.lit (.int .i64 (0)))], ok := by
            intro B ρ w S vs hS hr
            match vs, hr with
            | [u0], ⟨z0, _⟩ =>
              obtain ⟨rfl, _⟩ : u0 = _ ∧ _ := z0
              refine (refRat_any (fsz y) hx (by omega)).mono ?_
              rintro e w' ⟨v, rfl, g0, hf⟩
              exact ⟨_, rfl, ⟨[_, _], rfl, (avQ_rel g0), ⟨rfl, rfl⟩, trivial⟩, hf⟩ },
        { args := [.one (.atom (.sym 5))], ans := .tup [avQ (.v 1), .one (.lit (.int .i64 (0)))], ok := by
            intro B ρ w S vs hS hr
            match vs, hr with
            | [u0], ⟨z0, _⟩ =>
              obtain ⟨rfl, _⟩ : u0 = _ ∧ _ := z0
              refine (refRat_any lo l1 l3).mono ?_
              rintro e w' ⟨v, rfl, g0, hf⟩
              exact ⟨_, rfl, ⟨[_, _], rfl, (avQ_rel g0), ⟨rfl, rfl⟩, trivial⟩, hf⟩ },
        { args := [.one (.atom (.sym 7))], ans := .tup [avQ (.v 2), .one (.lit (.int .i64 (0)))], ok := by
            intro B ρ w S vs hS hr
            match vs, hr with
            | [u0], ⟨z0, _⟩ =>
              obtain ⟨rfl, _⟩ : u0 = _ ∧ _ := z0
              refine (refRat_any hi l2 l4).mono ?_
              rintro e w' ⟨v, rfl, g0, hf⟩
              exact ⟨_, rfl, ⟨[_, _], rfl, (avQ_rel g0), ⟨rfl, rfl⟩, trivial⟩, hf⟩ }],
      orcT 34 [
        { args := [.one (.atom (.sym 4)), .one (.lit (.int .i64 (2)))], ans := .tup [.one (.atom (.sym 5)), .one (.atom (.sym 6))], ok := by
            intro B ρ w S vs hS hr
            match vs, hr with
            | [u0, u1], ⟨z0, z1, _⟩ =>
              obtain ⟨rfl, _⟩ : u0 = _ ∧ _ := z0
              obtain ⟨rfl, _⟩ : u1 = _ ∧ _ := z1
              refine (cLo _ (ru_of hS)).mono ?_
              rintro e w' ⟨rfl, hf⟩
              exact ⟨_, rfl, ⟨[_, _], rfl, ⟨rfl, fun _ => trivial⟩, ⟨rfl, fun _ => trivial⟩, trivial⟩, hf⟩ },
        { args := [.one (.atom (.sym 4)), .one (.lit (.int .i64 (3)))], ans := .tup [.one (.atom (.sym 7)), .one (.atom (.sym 6))], ok := by
            intro B ρ w S vs hS hr
            match vs, hr with
            | [u0, u1], ⟨z0, z1, _⟩ =>
              obtain ⟨rfl, _⟩ : u0 = _ ∧ _ := z0
              obtain ⟨rfl, _⟩ : u1 = _ ∧ _ := z1
              refine (cHi _ (ru_of hS)).mono ?_
              rintro e w' ⟨rfl, hf⟩
              exact ⟨_, rfl, ⟨[_, _], rfl, ⟨rfl, fun _ => trivial⟩, ⟨rfl, fun _ => trivial⟩, trivial⟩, hf⟩ },
        { args := [.one (.atom (.sym 13)), .one (.atom (.sym 15))], ans := .tup [.one (.atom (.sym 11)), .one (.lit (.int .i64 (0)))], ok := by
            intro B ρ w S vs hS hr
            match vs, hr with
            | [u0, u1], ⟨z0, z1, _⟩ =>
              obtain ⟨rfl, _⟩ : u0 = _ ∧ _ := z0
              obtain ⟨rfl, _⟩ : u1 = _ ∧ _ := z1
              refine (cSq _ (ru_of hS)).mono ?_
              rintro e w' ⟨rfl, hf⟩
              exact ⟨_, rfl, ⟨[_, _], rfl, ⟨rfl, fun _ => trivial⟩, ⟨rfl, rfl⟩, trivial⟩, hf⟩ }],
      orcT 14 [
        { args := [avQ (.v 1), avQ (.v 1)], ans := .v (avQ (.v 3)), ok := by
            intro B ρ w S vs hS hr
            match vs, hr with
            | [u0, u1], ⟨z0, z1, _⟩ =>
              have k0 := avQ_rv z0
              have k1 := avQ_rv z1
              refine (mul2_any (p := fvQ lo) (q := fvQ lo) k0 k1 (by omega) (by omega)).mono ?_
              rintro e w' ⟨v, rfl, g0, hf⟩
              exact ⟨_, rfl, (avQ_rel g0), hf⟩ },
        { args := [avQ (.v 2), avQ (.v 2)], ans := .v (avQ (.v 4)), ok := by
            intro B ρ w S vs hS hr
            match vs, hr with
            | [u0, u1], ⟨z0, z1, _⟩ =>
              have k0 := avQ_rv z0
              have k1 := avQ_rv z1
              refine (mul2_any (p := fvQ hi) (q := fvQ hi) k0 k1 (by omega) (by omega)).mono ?_
              rintro e w' ⟨v, rfl, g0, hf⟩
              exact ⟨_, rfl, (avQ_rel g0), hf⟩ }],
      orcT 18 [
        { args := [avQ (.v 3), avQ (.v 0)], ans := .v (.one (.atom (.sym 8))), ok := by
            intro B ρ w S vs hS hr
            match vs, hr with
            | [u0, u1], ⟨z0, z1, _⟩ =>
              have k0 := avQ_rv z0
              have k1 := avQ_rv z1
              refine (cmp2n (p := fvQ lo * fvQ lo) (q := (fvQ (fsz y))) k0 k1 (by omega) (by omega)).mono ?_
              rintro e w' ⟨rfl, hf⟩
              exact ⟨_, rfl, ⟨rfl, fun _ => trivial⟩, hf⟩ },
        { args := [avQ (.v 0), avQ (.v 4)], ans := .v (.one (.atom (.sym 9))), ok := by
            intro B ρ w S vs hS hr
            match vs, hr with
            | [u0, u1], ⟨z0, z1, _⟩ =>
              have k0 := avQ_rv z0
              have k1 := avQ_rv z1
              refine (cmp2n (p := (fvQ (fsz y))) (q := fvQ hi * fvQ hi) k0 k1 (by omega) (by omega)).mono ?_
              rintro e w' ⟨rfl, hf⟩
              exact ⟨_, rfl, ⟨rfl, fun _ => trivial⟩, hf⟩ }],
      orcT 12 [
        { args := [.one (.atom (.sym 2)), .one (.lit (.int .i64 (67108864)))], ans := .v (.one (.atom (.sym 10))), ok := by
            intro B ρ w S vs hS hr
            match vs, hr with
            | [u0, u1], ⟨z0, z1, _⟩ =>
              obtain ⟨rfl, _⟩ : u0 = _ ∧ _ := z0
              obtain ⟨rfl, _⟩ : u1 = _ ∧ _ := z1
              refine ((within3_sq w m m1 m2).mono (R' := fun e w' => e = .returned (.int .i64 (m % 67108864)) ∧ Fwd w w') (fun e w' gg => ⟨gg.1, gg.2 ▸ Fwd.refl _⟩)).mono ?_
              rintro e w' ⟨rfl, hf⟩
              exact ⟨_, rfl, ⟨rfl, fun _ => trivial⟩, hf⟩ },
        { args := [.one (.atom (.sym 2)), .one (.lit (.int .i64 (5)))], ans := .v (.one (.atom (.sym 15))), ok := by
            intro B ρ w S vs hS hr
            match vs, hr with
            | [u0, u1], ⟨z0, z1, _⟩ =>
              obtain ⟨rfl, _⟩ : u0 = _ ∧ _ := z0
              obtain ⟨rfl, _⟩ : u1 = _ ∧ _ := z1
              refine ((within3_5 w m m1 m2).mono (R' := fun e w' => e = .returned (.int .i64 (m % 5)) ∧ Fwd w w') (fun e w' gg => ⟨gg.1, gg.2 ▸ Fwd.refl _⟩)).mono ?_
              rintro e w' ⟨rfl, hf⟩
              exact ⟨_, rfl, ⟨rfl, fun _ => trivial⟩, hf⟩ }],
      orcT 38 [
        { args := [.one (.atom (.sym 10))], ans := .v (avQ (.v 5)), ok := by
            intro B ρ w S vs hS hr
            match vs, hr with
            | [u0], ⟨z0, _⟩ =>
              obtain ⟨rfl, _⟩ : u0 = _ ∧ _ := z0
              refine (int2_any w (m % 67108864) (by omega) (by omega)).mono ?_
              rintro e w' ⟨v, rfl, g0, hf⟩
              exact ⟨_, rfl, (avQ_rel g0), hf⟩ }],
      orcT 24 [
        { args := [avQ (.v 5), .one (.lit (.int .i64 (0)))], ans := .tup [.one (.atom (.sym 11)), .one (.atom (.sym 12))], ok := by
            intro B ρ w S vs hS hr
            match vs, hr with
            | [u0, u1], ⟨z0, z1, _⟩ =>
              have k0 := avQ_rv z0
              obtain ⟨rfl, _⟩ : u1 = _ ∧ _ := z1
              refine (cOf _ _ k0).mono ?_
              rintro e w' ⟨rfl, hf⟩
              exact ⟨_, rfl, ⟨[_, _], rfl, ⟨rfl, fun _ => trivial⟩, ⟨rfl, fun _ => trivial⟩, trivial⟩, hf⟩ }],
      orcT 31 [
        { args := [.one (.atom (.sym 11)), .one (.atom (.sym 11)), .one (.lit (.int .i64 (0)))], ans := .tup [.one (.atom (.sym 13)), .one (.atom (.sym 14))], ok := by
            intro B ρ w S vs hS hr
            match vs, hr with
            | [u0, u1, u2], ⟨z0, z1, z2, _⟩ =>
              obtain ⟨rfl, _⟩ : u0 = _ ∧ _ := z0
              obtain ⟨rfl, _⟩ : u1 = _ ∧ _ := z1
              obtain ⟨rfl, _⟩ : u2 = _ ∧ _ := z2
              refine (mul3_any 0 g g hg1 hg1).mono ?_
              rintro e w' ⟨rfl, hf⟩
              exact ⟨_, rfl, ⟨[_, _], rfl, ⟨rfl, fun _ => trivial⟩, ⟨rfl, fun _ => trivial⟩, trivial⟩, hf⟩ }]], rfl⟩
    (opH_le (bigHook_le _ _) (opH_le (symHook_le _ _ _) (tabHook_le _ _)))
    (opH_ok (bigHook_ok _) (opH_ok (symHook_ok _ (fun h => by cases h) (fun h => by cases h)) (tabHook_ok _ (all_cons (BOk.mk rfl rfl rfl (fun _ _ _ => trivial) rfl rfl (bo_andNot (andNot_sign y hy))) (all_cons (BOk.mk rfl rfl rfl (fun _ _ _ => trivial) rfl rfl (bo_neq (by simp))) (all_cons (BOk.mk rfl rfl rfl (fun _ _ _ => trivial) rfl rfl (bo_gtr (by rw [cmpQ_above]; exact decide_eq_false (by grind)))) (all_cons (BOk.mk rfl rfl rfl (fun _ _ _ => trivial) rfl rfl (bo_gtr (by rw [cmpQ_above]; exact decide_eq_false (by grind)))) (all_cons (BOk.mk rfl rfl rfl (fun _ _ _ => trivial) rfl rfl (bo_eql (by rw [← l7]; exact decide_eq_decide.2 Int.natCast_inj))) (all_cons (BOk.mk rfl rfl rfl (fun _ _ _ => trivial) rfl rfl (bo_eql (by rw [← l8]; exact decide_eq_decide.2 Int.natCast_inj))) (all_cons (BOk.mk rfl rfl rfl (fun _ _ _ => trivial) rfl rfl (bo_eql (by simp))) all_nil))))))) all_nil)))
  refine (told_call (M := (DomQ true ν σ ruG)) (cx := ⟨Tryd.prog, true, t.get, orcD (lfrUD ), (opH (bigHook Tryd.prog true) (opH (symHook Tryd.prog lfrUN (fun _ _ _ => none)) (tabHook (lfrUL ) lfrUM)))⟩) (xs := [.one (.atom (.sym 0)), .one (.atom (.sym 1)), .one (.atom (.sym 2))]) (vs := [.int .u64 a, .int .i64 n, .int .i64 m]) Tryd.checked.mixed hcx (fun hg => ruG_ok hR hg) ⟨⟨rfl, fun _ => trivial⟩, ⟨rfl, fun _ => trivial⟩, ⟨rfl, fun _ => trivial⟩, trivial⟩ he).mono ?_
  rintro e w' ⟨v, ρ', rfl, hv, hbel⟩
  obtain ⟨rfl, _⟩ : v = _ ∧ _ := hv
  exact ⟨rfl, hbel⟩


theorem floatRoots_walk {w : World} {a n m : Int} (hR : Ru w) (ha : (Lit.int .u64 a).wf = true) (hn : (Lit.int .i64 n).wf = true) (hm : (Lit.int .i64 m).wf = true) :
    Calls Tryd.prog 7 #[.int .u64 a, .int .i64 n, .int .i64 m] w fun e w' => e = .returned (.bool true) ∧ Below w.heap.size w w' := by
  obtain ⟨a1, a2⟩ := bounds_u64 ha
  obtain ⟨n1, n2⟩ := bounds_i64 hn
  obtain ⟨m1, m2⟩ := bounds_i64 hm
  obtain ⟨a, rfl⟩ : ∃ a' : Nat, a = (a' : Int) := ⟨a.toNat, by omega⟩
  obtain ⟨y, hy, cy⟩ := make3_fix a n (by omega) n1 n2
  by_cases c : fsz y < 9218868437227405312
  · obtain ⟨k, hk⟩ : ∃ k : Nat, m % 67108864 = (k : Int) := ⟨(m % 67108864).toNat, by omega⟩
    obtain ⟨g, g1, g2, g3, g4⟩ := square_back (k := k) (by omega) (m % 5)
    have g1' : (ofN 0 ((m % 67108864 : Int) : Rat)).1 = g := by rw [hk]; exact g1 0
    have hxx : fsz (fsz y) = fsz y := by unfold fsz; omega
    have hss : fneg (fsz y) = false := by unfold fneg fsz; exact decide_eq_false (by omega)
    by_cases z : fsz y = 0
    · have hq : ∀ mm, sqrtF mm (fsz y) = (0, 0) := fun mm => by
        rw [z]; unfold sqrtF; rw [isNan_le (by decide), if_neg (by simp), if_pos (by decide)]
      have e : fvQ 0 * fvQ 0 = fvQ (fsz y) := by rw [z]; rw [fvQ_zero (show fsz 0 = 0 by decide)]; exact Rat.zero_mul 0
      exact lfrE_tab hR a y n m (by omega) hy n1 n2 m1 m2 cy c (hq 2) (hq 3) (by decide) (by decide) (by decide) (by decide) (by rw [e]; exact Rat.le_refl) (by rw [e]; exact Rat.le_refl) rfl rfl e g1' g2 g3 g4
    · obtain ⟨lo, hi, fl, e2, e3, l1, l2, l3, l4, l5, l6, l7, l8⟩ := root_two (f := fsz y) (by omega) (by omega) hss
      by_cases h0 : fl = 0
      · exact lfrE_tab hR a y n m (by omega) hy n1 n2 m1 m2 cy c e2 e3 l1 l2 l3 l4 l5 l6 (decide_eq_true h0) (decide_eq_true (l7.1 h0)) (l8 h0) g1' g2 g3 g4
      · exact lfrU_tab hR a y n m (by omega) hy n1 n2 m1 m2 cy c e2 e3 l1 l2 l3 l4 l5 l6 (decide_eq_false h0) (decide_eq_false (fun h => h0 (l7.2 h))) g1' g2 g3 g4
  · exact lfrI_tab hR a y n m (by omega) hy n1 n2 m1 m2 cy (by omega)
end Go.Proofs.YtcfhajnboamnnaaDoor
