/- FloatBetween: rounded Down a number is not greater, Up it is not less, and they are the same, or next to one another; all else is one of both: the law's walk, by the reader upon letters. -/
import Derived.Test.YtcfhajnboamnnaaDoorXF35
import Derived.Test.YtcfhajnboamnnaaDoorYXF27
import Derived.Test.YtcfhajnboamnnaaDoorXF26
import Derived.Test.YtcfhajnboamnnaaDoorYXF34
import Derived.Test.YtcfhajnboamnnaaDoorYXFBR
import Derived.Test.YtcfhajnboamnnaaDoorYXFZ
import Derived.Test.YtcfhajnboamnnaaDoorYXFT
import Derived.OpenShut
namespace Go.Proofs.YtcfhajnboamnnaaDoor
open Go.RowKit Go.Ev
set_option linter.unusedVariables false
set_option linter.unusedSimpArgs false

theorem rdV_zeroQ (m : Int) (D : Nat) : rdV m (ratV false 0 D) = (0, 0) := by
  have e : ratV false 0 D = (false, false, 0, -(rtS 0 D) - 64) := by
    unfold ratV
    rw [rtS_zero]
    simp [stk]
  rw [e]
  unfold rdV
  rw [if_neg (fun h => by cases h), if_pos rfl]
  rfl
theorem ofQ_ofN (m : Int) (q : Rat) : ofQ m (negQ q) q.num.natAbs q.den = ofN m q := by
  unfold ofN ofQ
  rw [ofR_eq m (negQ q) q.den_nz]
  by_cases c : q.num.natAbs = 0
  · rw [if_pos c]
    have hq : q = 0 := (natAbs_zero_iff q).1 c
    subst hq
    exact rdV_zeroQ m _
  · rw [if_neg c]
/-- sfloat's Of, by the number. -/
theorem ofP_any {w : World} {v : Value} {q : Rat} (hR : Ru w) (m : Int) (hv : RV w v q) (hq : nr q ≤ 150) :
    Calls Tryd.prog 16 #[v, .int .i64 m] w fun e w' => e = .returned (.tuple #[.int .u64 ((ofN m q).1 : Nat), .int .i64 ((ofN m q).2 : Nat)]) ∧ Fwd w w' := by
  rw [← ofQ_ofN]
  have b1 := nr_num q
  have b2 := nr_den q
  exact ofQ_any hR m hv.rw' (by omega) (by omega) q.den_nz
theorem ofS_any {w : World} {v : Value} {q : Rat} (m : Int) (hv : RV w v q) (hq : nr q ≤ 150) :
    Calls Tryd.prog 24 #[v, .int .i64 m] w fun e w' => e = .returned (.tuple #[.int .u64 ((ofN m q).1 : Nat), .int .i64 ((ofN m q).2 : Nat)]) ∧ Fwd w w' := of3_any m hv hq

set_option maxHeartbeats 1000000 in
/-- within: what is left by 900. -/
theorem within3_900 (w : World) (a : Int) (ha1 : -9223372036854775808 ≤ a) (ha2 : a ≤ 9223372036854775807) :
    Calls Tryd.prog 12 #[.int .i64 a, .int .i64 900] w fun e w' => e = .returned (.int .i64 (a % 900)) ∧ w = w' := by
  by_cases h0 : 0 ≤ a
  · have h1 : a % 900 < 900 := Int.emod_lt_of_pos _ (by omega)
    have h2 : 0 ≤ a % 900 := Int.emod_nonneg _ (by omega)
    go_enter Tryd.func12, Tryd.ntmps12
    go_wp2
    go_ret
    exact ⟨rfl, rfl⟩
  · have hb : ∃ b : Int, a = -b ∧ 0 < b := ⟨-a, by omega, by omega⟩
    obtain ⟨b, hb, hb0⟩ := hb
    have h3 : a.tmod 900 = -(b % 900) := by rw [hb, Int.neg_tmod, Int.tmod_eq_emod_of_nonneg (by omega)]
    have h1 : b % 900 < 900 := Int.emod_lt_of_pos _ (by omega)
    have h2 : 0 ≤ b % 900 := Int.emod_nonneg _ (by omega)
    obtain ⟨t, ht⟩ : ∃ t, t = b % 900 := ⟨_, rfl⟩
    obtain ⟨r, hr⟩ : ∃ r, r = a % 900 := ⟨_, rfl⟩
    have h5 : r = if t = 0 then 0 else 900 - t := by split <;> omega
    rw [← hr]
    rw [← ht] at h1 h2 h3
    clear ht hb hr
    by_cases ht0 : t = 0
    · have h4 : ¬ (-t < 0) := by omega
      rw [if_pos ht0] at h5
      subst h5
      have HT := hid ht0
      subst ht0
      simp only [Int.neg_zero] at h3
      go_enter Tryd.func12, Tryd.ntmps12
      go_wp2
      go_ret
      exact ⟨rfl, rfl⟩
    · have h4 : -t < 0 := by omega
      rw [if_neg ht0] at h5
      subst h5
      go_enter Tryd.func12, Tryd.ntmps12
      go_wp2
      go_ret
      refine ⟨?_, rfl⟩
      have e : -t + 900 = 900 - t := by omega
      simp only [e]
      rfl


theorem cmp2n {w : World} {a b : Value} {p q : Rat} (ha : RV w a p) (hb : RV w b q) (bp : nr p ≤ 5000) (bq : nr q ≤ 5000) :
    Calls Tryd.prog 18 #[a, b] w fun e w' => e = .returned (.int .i64 (cmpQ p q)) ∧ Fwd w w' := by
  rw [← cmpS_eq]
  exact cmp2_any ha.rw' (nr_le bp).1 (nr_le bp).2 hb.rw' (nr_le bq).1 (nr_le bq).2
theorem cmpQ_above (p q : Rat) : decide (0 < cmpQ p q) = decide (q < p) := by
  unfold cmpQ
  by_cases h : p < q
  · have : ¬ q < p := by grind
    simp [h, this]
  · by_cases g : q < p <;> simp [h, g]
theorem nr_fvQ1 {f : Nat} (h : fsz f < 9218868437227405312) : nr (fvQ f) ≤ 36 := by
  have h1 := nr_mkQ (fneg f) (ratA f) (ratB f) (ratB_pos f)
  have a1 := nl_two' (vsz_lt f)
  have a2 := nl_shl (vsz f) (vex f).toNat
  have a3 := vex_le h
  have b1 := nl_two' (n := 1) (by decide)
  have b2 := nl_shl 1 (-(vex f)).toNat
  have b3 := vex_ge f
  have e1 : nl (ratA f) = nl (vsz f * 2 ^ (vex f).toNat) := rfl
  have e2 : nl (ratB f) = nl (1 * 2 ^ (-(vex f)).toNat) := rfl
  unfold fvQ
  omega
theorem bo_remI (k : Int) (k1 : -9223372036854775808 ≤ k) (k2 : k ≤ 9223372036854775807) (t : TypeId) : binOp .rem t (.int .i64 k) (.int .i64 2) = pure (.int .i64 (k.tmod 2)) := by
  rw [binOp_rem]
  have h : -1 ≤ k.tmod 2 ∧ k.tmod 2 ≤ 1 := by
    by_cases c : 0 ≤ k
    · rw [Int.tmod_eq_emod_of_nonneg c]; omega
    · have e : k.tmod 2 = -((-k) % 2) := by rw [← Int.neg_neg k, Int.neg_tmod, Int.tmod_eq_emod_of_nonneg (by omega), Int.neg_neg]
      rw [e]; omega
  have e2 : IntKind.i64.wrap (k.tmod 2) = k.tmod 2 := wr64 (by omega) (by omega)
  simp [Op.intDiv, e2]
/-- Scaled by no more than 2 to the power of 900, a short number's size is below that of 1000. -/
theorem scaled_sz {q c : Rat} (hq : nr q ≤ 3) (hc : 0 < c) (hc2 : c ≤ z2 900) : szQ (q * c) < z2 1000 := by
  have hz : (0 : Rat) < z2 1000 := z2_pos 1000
  by_cases h0 : q = 0
  · subst h0
    rw [Rat.zero_mul]
    have : szQ 0 = 0 := by decide +kernel
    rw [this]; exact hz
  · have e := sg_qt q
    have hN : q.num.natAbs ≠ 0 := fun c => h0 ((natAbs_zero_iff q).1 c)
    have hD := nat_ne q.den_nz
    have h1 := qt_mul (A := q.num.natAbs) (B := q.den) (Nat.pos_of_ne_zero q.den_nz)
    have hp : 0 < qt q.num.natAbs q.den := by
      have h2 := nat_ne hN
      by_cases c : qt q.num.natAbs q.den ≤ 0
      · have := Rat.mul_le_mul_of_nonneg_right c (Rat.le_of_lt hD)
        rw [h1, Rat.zero_mul] at this
        grind
      · grind
    have hle : qt q.num.natAbs q.den ≤ (q.num.natAbs : Rat) := by
      have hd1 : (1 : Rat) ≤ (q.den : Rat) := by
        have : ((1 : Nat) : Rat) ≤ (q.den : Rat) := Rat.natCast_le_natCast.2 (Nat.pos_of_ne_zero q.den_nz)
        exact this
      have := Rat.mul_le_mul_of_nonneg_left hd1 (Rat.le_of_lt hp)
      rw [h1] at this
      grind
    have hlt : (q.num.natAbs : Rat) < z2 96 := by
      have h3 := (nl_le_iff q.num.natAbs 3).1 (Nat.le_trans (nr_num q) hq)
      have e4 : (4294967296 : Nat) ^ 3 = 2 ^ 96 := by decide
      rw [e4] at h3
      rw [show (96 : Int) = ((96 : Nat) : Int) from rfl, z2_nat]
      exact Rat.natCast_lt_natCast.2 h3
    have hqc : q * c = sg (negQ q) (qt q.num.natAbs q.den * c) := by
      have : q * c = sg (negQ q) (qt q.num.natAbs q.den) * c := by rw [← e]
      rw [this]; unfold sg; split <;> grind
    obtain ⟨-, hs, -⟩ := sg_pos_eq (Rat.mul_pos hp hc) hqc
    rw [hs]
    have a1 : qt q.num.natAbs q.den * c < z2 96 * c := Rat.mul_lt_mul_of_pos_right (by grind) hc
    have a2 : z2 96 * c ≤ z2 96 * z2 900 := Rat.mul_le_mul_of_nonneg_left hc2 (Rat.le_of_lt (z2_pos 96))
    have a3 : z2 96 * z2 900 ≤ z2 1000 := by rw [← z2_add]; exact z2_le (by omega)
    grind
theorem pow_val (e : Nat) : mkQ false (2 ^ e) 1 = z2 (e : Int) := by
  rw [mkQ_qt false _ (by omega), z2_nat]
  show qt (2 ^ e) 1 = _
  refine (qt_unique (by omega) ?_).symm
  show _ * ((1 : Nat) : Rat) = _
  rw [show ((1 : Nat) : Rat) = 1 from rfl, Rat.mul_one]
theorem div_pow (q : Rat) (e : Nat) : q / z2 (e : Int) = q * z2 (-(e : Int)) := by
  have h : z2 (e : Int) ≠ 0 := by have := z2_pos (e : Int); grind
  have h1 : q * z2 (-(e : Int)) * z2 (e : Int) = q := by rw [Rat.mul_assoc, z2_inv, Rat.mul_one]
  conv => lhs; rw [← h1]
  exact Rat.mul_div_cancel h

def lbteE0D (ml : Bool) (mh : Bool) : List (FuncId × Ans) :=
  [(8, ansT [([], .v (.one (.lit (.bool true))))]),
   (13, ansT [([.agg [.atom (.sym 0), .atom (.sym 100), .atom (.sym 101)]], .v (avQ (.v 0)))]),
   (11, ansT [([.one (.lit (.int .u64 1))], .v (.one (.atom (.num (.v 10)))))]),
   (12, ansT [([.one (.atom (.sym 1)), .one (.lit (.int .i64 (900)))], .v (.one (.atom (.sym 3)))), ([.one (.atom (.sym 2)), .one (.lit (.int .i64 (5)))], .v (.one (.atom (.sym 4))))]),
   (10, ansT [([.one (.atom (.num (.v 10))), .one (.atom (.sym 3))], .v (.one (.atom (.num (.v 11)))))]),
   (9, ansT [([.one (.lit (.bool false)), .one (.atom (.num (.v 11))), .one (.atom (.num (.v 10)))], .tup [avQ (.v 1), .one (.lit (.int .i64 (0)))])]),
   (14, ansT [([avQ (.v 0), avQ (.v 1)], .v (avQ (.v 3)))]),
   (16, ansT [([avQ (.v 3), .one (.lit (.int .i64 (2)))], .tup [.one (.atom (.sym 5)), .one (.lit (.int .i64 (0)))]), ([avQ (.v 3), .one (.lit (.int .i64 (3)))], .tup [.one (.atom (.sym 6)), .one (.lit (.int .i64 (0)))]), ([avQ (.v 3), .one (.atom (.sym 4))], .tup [.one (.atom (.sym 7)), .one (.lit (.int .i64 (0)))])]),
   (17, ansT [([.one (.atom (.sym 5))], .tup [avQ (.v 4), .one (.lit (.int .i64 (0)))]), ([.one (.atom (.sym 6))], .tup [avQ (.v 5), .one (.lit (.int .i64 (0)))])]),
   (18, ansT [([avQ (.v 4), avQ (.v 3)], .v (.one (.atom (.sym 8)))), ([avQ (.v 3), avQ (.v 5)], .v (.one (.atom (.sym 9))))]),
   (19, ansT [([avQ (.v 4), avQ (.v 5)], .v (.one (.lit (.bool true))))])]
def lbteE0L (ml : Bool) (mh : Bool) : BT := [(.rem, .atom (.sym 1), .lit (.int .i64 (2)), .atom (.sym 10)), (.eql, .atom (.sym 10), .lit (.int .i64 (0)), .lit (.bool true)), (.gtr, .atom (.sym 8), .lit (.int .i64 (0)), .lit (.bool false)), (.gtr, .atom (.sym 9), .lit (.int .i64 (0)), .lit (.bool false)), (.neq, .atom (.sym 7), .atom (.sym 5), .lit (.bool (!ml))), (.neq, .atom (.sym 7), .atom (.sym 6), .lit (.bool (!mh))), (.eql, .atom (.sym 5), .atom (.sym 6), .lit (.bool true))]
def lbteE0M : BT := []
def lbteE0N : At → Option Nat
  | _ => none

set_option maxRecDepth 1000000 in
theorem lbteE0Told : ∃ t : Tr Func, TabOK Tryd.prog t ∧ (∀ ml mh : Bool, (ml || mh) = true → isAV (.v (.one (.lit (.bool true)))) (evalCall ⟨Tryd.prog, true, t.get, orcD (lbteE0D ml mh), (opH (bigHook Tryd.prog true) (opH (symHook Tryd.prog lbteE0N (fun _ _ _ => none)) (tabHook (lbteE0L ml mh) lbteE0M)))⟩ 1000 3 [.agg [.atom (.sym 0), .atom (.sym 100), .atom (.sym 101)], .one (.atom (.sym 1)), .one (.atom (.sym 2))] .e 0) = true) :=
  ⟨((((((((((((Tr.e).put 3 (some Tryd.f3)).put 8 (some Tryd.f8)).put 13 (some Tryd.f13)).put 11 (some Tryd.f11)).put 12 (some Tryd.f12)).put 10 (some Tryd.f10)).put 9 (some Tryd.f9)).put 14 (some Tryd.f14)).put 16 (some Tryd.f16)).put 17 (some Tryd.f17)).put 18 (some Tryd.f18)).put 19 (some Tryd.f19),
   (TabOK.put (TabOK.put (TabOK.put (TabOK.put (TabOK.put (TabOK.put (TabOK.put (TabOK.put (TabOK.put (TabOK.put (TabOK.put (TabOK.put (TabOK.e _) ⟨Tryd.func3, by decide +kernel, by decide +kernel⟩) ⟨Tryd.func8, by decide +kernel, by decide +kernel⟩) ⟨Tryd.func13, by decide +kernel, by decide +kernel⟩) ⟨Tryd.func11, by decide +kernel, by decide +kernel⟩) ⟨Tryd.func12, by decide +kernel, by decide +kernel⟩) ⟨Tryd.func10, by decide +kernel, by decide +kernel⟩) ⟨Tryd.func9, by decide +kernel, by decide +kernel⟩) ⟨Tryd.func14, by decide +kernel, by decide +kernel⟩) ⟨Tryd.func16, by decide +kernel, by decide +kernel⟩) ⟨Tryd.func17, by decide +kernel, by decide +kernel⟩) ⟨Tryd.func18, by decide +kernel, by decide +kernel⟩) ⟨Tryd.func19, by decide +kernel, by decide +kernel⟩),
   by decide +kernel⟩

set_option maxHeartbeats 4000000 in
set_option maxRecDepth 100000 in
theorem lbteE0_tab {w : World} (hR : Ru w) {vN vD : Value} {s : Bool} {xs ys : List Nat} {q : Rat} (rN : Rd w vN xs) (rD : Rd w vD ys) (hq : q = rawQ s xs ys) (bq : nr q ≤ 3) (k mode : Int)
    (k1 : -9223372036854775808 ≤ k) (k2 : k ≤ 9223372036854775807) (o1 : -9223372036854775808 ≤ mode) (o2 : mode ≤ 9223372036854775807) (hev : decide (k.tmod 2 = 0) = true) {lo hi mm : Nat} {ml mh : Bool}
    (g2 : ofN 2 (q * mkQ false (2 ^ (k % 900).toNat) 1) = (lo, 0)) (g3 : ofN 3 (q * mkQ false (2 ^ (k % 900).toNat) 1) = (hi, 0)) (gm : ofN (mode % 5) (q * mkQ false (2 ^ (k % 900).toNat) 1) = (mm, 0)) (hlo : lo < 18446744073709551616) (hhi : hi < 18446744073709551616) (flo : fsz lo < 9218868437227405312) (fhi : fsz hi < 9218868437227405312) (c1 : fvQ lo ≤ (q * mkQ false (2 ^ (k % 900).toNat) 1)) (c2 : (q * mkQ false (2 ^ (k % 900).toNat) 1) ≤ fvQ hi)
    (e1 : decide (mm = lo) = ml) (e2 : decide (mm = hi) = mh) (hml : (ml || mh) = true) (hE : fvQ lo = fvQ hi) (hE2 : lo = hi) :
    Calls Tryd.prog 3 #[.agg #[.bool s, vN, vD], .int .i64 k, .int .i64 mode] w fun e w' => e = .returned (.bool true) ∧ Below w.heap.size w w' := by
  have cM : ∀ (w : World), Rd w vN xs → Rd w vD ys → Calls Tryd.prog 13 #[.agg #[.bool s, vN, vD]] w fun e w' => ∃ v, e = .returned v ∧ RV w' v q ∧ Fwd w w' := fun w h1 h2 => by
    have := make2law_any (w := w) (a := .agg #[.bool s, vN, vD]) (s := s) (xs := xs) (ys := ys) ⟨vN, vD, rfl, h1, h2⟩; rwa [← hq] at this
  have hk1 : (k % 900).toNat < 900 := by omega
  have hk2 : (((k % 900).toNat : Nat) : Int) = k % 900 := by omega
  have bP : nl (2 ^ (k % 900).toNat) ≤ 37 := by have := nl_shl 1 (k % 900).toNat; rw [Nat.one_mul] at this; have := nl_two' (n := 1) (by decide); omega
  have hP0 : (2 ^ (k % 900).toNat) ≠ 0 := by have := Nat.two_pow_pos (k % 900).toNat; omega
  have bU : nr (mkQ false (2 ^ (k % 900).toNat) 1) ≤ 37 := by have := nr_mkQ false (2 ^ (k % 900).toNat) 1 (by omega); have := nl_two' (n := 1) (by decide); omega
  have hU0 : mkQ false (2 ^ (k % 900).toNat) 1 ≠ 0 := fun h => by have := mkQ_abs (neg := false) (n := (2 ^ (k % 900).toNat)) (d := 1) (by omega); rw [h, Nat.gcd_one_right, Nat.div_one] at this; exact hP0 this.symm
  have bX := nr_mul q (mkQ false (2 ^ (k % 900).toNat) 1)
  have bl := nr_fvQ1 flo
  have bh := nr_fvQ1 fhi
  have cS : ∀ (w : World) (u : Value), Num w u 1 → Calls Tryd.prog 10 #[u, .int .i64 (k % 900)] w fun e w' => ∃ x, e = .returned x ∧ Num w' x (2 ^ (k % 900).toNat) ∧ Fwd w w' := fun w u h => by
    have := refShl_any (k % 900).toNat h (by have := nl_two' (n := 1) (by decide); omega) (by omega); rw [hk2, Nat.one_mul] at this; exact this
  have cOf : ∀ (w : World) (u : Value) (m : Int) (z : Nat), ofN m (q * mkQ false (2 ^ (k % 900).toNat) 1) = (z, 0) → Ru w → RV w u (q * mkQ false (2 ^ (k % 900).toNat) 1) → Calls Tryd.prog 16 #[u, .int .i64 m] w fun e w' => e = .returned (.tuple #[.int .u64 (z : Int), .int .i64 0]) ∧ Fwd w w' := fun w u m z hz hR hv => by
    have := ofP_any hR m hv (by omega); rw [hz] at this; exact this
  have cSa : ∀ (w : World) (u v : Value), RV w u (fvQ lo) → RV w v (fvQ hi) → Calls Tryd.prog 19 #[u, v] w fun e w' => e = .returned (.bool true) ∧ Fwd w w' := fun w u v h h' => by
    have := same2_num h h' (by omega) (by omega); rwa [decide_eq_true hE] at this
  obtain ⟨t, ht, hr⟩ := lbteE0Told
  obtain ⟨dl, n', he⟩ := isAV_ok (hr ml mh hml)
  let ν : Nat → Rat := nuL [q, mkQ false (2 ^ (k % 900).toNat) 1, 0, (q * mkQ false (2 ^ (k % 900).toNat) 1), fvQ lo, fvQ hi] [1, (2 ^ (k % 900).toNat)]
  let σ : SymD := symR [.b s, .i k, .i mode, .i (k % 900), .i (mode % 5), .u lo, .u hi, .u mm, .i (cmpQ (fvQ lo) (q * mkQ false (2 ^ (k % 900).toNat) 1)), .i (cmpQ (q * mkQ false (2 ^ (k % 900).toNat) 1) (fvQ hi)), .i (k.tmod 2)] vN vD xs ys (rdC rN) (rdC rD)
  have hcx : CxOK (DomQ true ν σ ruG) w.heap.size ⟨Tryd.prog, true, t.get, orcD (lbteE0D ml mh), (opH (bigHook Tryd.prog true) (opH (symHook Tryd.prog lbteE0N (fun _ _ _ => none)) (tabHook (lbteE0L ml mh) lbteE0M)))⟩ := cxS_ok (M := (DomQ true ν σ ruG)) ht ⟨[
      orcT 8 [
        { args := [], ans := .v (.one (.lit (.bool true))), ok := by
            intro B ρ w S vs hS hr
            match vs, hr with
            | [], _ =>
              skip
              refine (known3_any (ru_of hS)).mono ?_
              rintro e w' ⟨rfl, hf⟩
              exact ⟨_, rfl, ⟨rfl, rfl⟩, hf⟩ }],
      orcT 13 [
        { args := [.agg [.atom (.sym 0), .atom (.sym 100), .atom (.sym 101)]], ans := .v (avQ (.v 0)), ok := by
            intro B ρ w S vs hS hr
            match vs, hr with
            | [u0], ⟨z0, _⟩ =>
              obtain ⟨us0, rfl, y0⟩ := z0
              match us0, y0 with
              | [v0_0, v0_1, v0_2], ⟨y0_0, y0_1, y0_2, _⟩ =>
              obtain ⟨rfl, f0_0⟩ : v0_0 = _ ∧ _ := y0_0
              obtain ⟨rfl, f0_1⟩ : v0_1 = _ ∧ _ := y0_1
              obtain ⟨rfl, f0_2⟩ : v0_2 = _ ∧ _ := y0_2
              refine (cM _ (f0_2 rfl rfl).1 (f0_2 rfl rfl).2).mono ?_
              rintro e w' ⟨v, rfl, g0, hf⟩
              exact ⟨_, rfl, (avQ_rel g0), hf⟩ }],
      orcT 11 [
        { args := [.one (.lit (.int .u64 1))], ans := .v (.one (.atom (.num (.v 10)))), ok := by
            intro B ρ w S vs hS hr
            match vs, hr with
            | [u0], ⟨z0, _⟩ =>
              obtain ⟨rfl, _⟩ : u0 = _ ∧ _ := z0
              refine (refOf_any w 1 (by decide)).mono ?_
              rintro e w' ⟨v, rfl, g0, hf⟩
              exact ⟨_, rfl, ⟨rfl, g0⟩, hf⟩ }],
      orcT 12 [
        { args := [.one (.atom (.sym 1)), .one (.lit (.int .i64 (900)))], ans := .v (.one (.atom (.sym 3))), ok := by
            intro B ρ w S vs hS hr
            match vs, hr with
            | [u0, u1], ⟨z0, z1, _⟩ =>
              obtain ⟨rfl, _⟩ : u0 = _ ∧ _ := z0
              obtain ⟨rfl, _⟩ : u1 = _ ∧ _ := z1
              refine ((within3_900 w k k1 k2).mono (R' := fun e w' => e = .returned (.int .i64 (k % 900)) ∧ Fwd w w') (fun e w' gg => ⟨gg.1, gg.2 ▸ Fwd.refl _⟩)).mono ?_
              rintro e w' ⟨rfl, hf⟩
              exact ⟨_, rfl, ⟨rfl, fun _ h => absurd h (by decide)⟩, hf⟩ },
        { args := [.one (.atom (.sym 2)), .one (.lit (.int .i64 (5)))], ans := .v (.one (.atom (.sym 4))), ok := by
            intro B ρ w S vs hS hr
            match vs, hr with
            | [u0, u1], ⟨z0, z1, _⟩ =>
              obtain ⟨rfl, _⟩ : u0 = _ ∧ _ := z0
              obtain ⟨rfl, _⟩ : u1 = _ ∧ _ := z1
              refine ((within3_5 w mode o1 o2).mono (R' := fun e w' => e = .returned (.int .i64 (mode % 5)) ∧ Fwd w w') (fun e w' gg => ⟨gg.1, gg.2 ▸ Fwd.refl _⟩)).mono ?_
              rintro e w' ⟨rfl, hf⟩
              exact ⟨_, rfl, ⟨rfl, fun _ h => absurd h (by decide)⟩, hf⟩ }],
      orcT 10 [
        { args := [.one (.atom (.num (.v 10))), .one (.atom (.sym 3))], ans := .v (.one (.atom (.num (.v 11)))), ok := by
            intro B ρ w S vs hS hr
            match vs, hr with
            | [u0, u1], ⟨z0, z1, _⟩ =>
              have k0 : Num w u0 _ := z0.2
              obtain ⟨rfl, _⟩ : u1 = _ ∧ _ := z1
              refine (cS _ _ k0).mono ?_
              rintro e w' ⟨v, rfl, g0, hf⟩
              exact ⟨_, rfl, ⟨rfl, g0⟩, hf⟩ }],
      orcT 9 [
        { args := [.one (.lit (.bool false)), .one (.atom (.num (.v 11))), .one (.atom (.num (.v 10)))], ans := .tup [avQ (.v 1), .one (.lit (.int .i64 (0)))], ok := by
            intro B ρ w S vs hS hr
            match vs, hr with
            | [u0, u1, u2], ⟨z0, z1, z2, _⟩ =>
              obtain ⟨rfl, _⟩ : u0 = _ ∧ _ := z0
              have k1 : Num w u1 _ := z1.2
              have k2 : Num w u2 _ := z2.2
              refine (make2_any (N := (2 ^ (k % 900).toNat)) (D := 1) false k1 k2 (by omega) (by have := nl_two' (n := 1) (by decide); omega) (by omega)).mono ?_
              rintro e w' ⟨v, rfl, g0, hf⟩
              exact ⟨_, rfl, ⟨[_, _], rfl, (avQ_rel g0), ⟨rfl, rfl⟩, trivial⟩, hf⟩ }],
      orcT 14 [
        { args := [avQ (.v 0), avQ (.v 1)], ans := .v (avQ (.v 3)), ok := by
            intro B ρ w S vs hS hr
            match vs, hr with
            | [u0, u1], ⟨z0, z1, _⟩ =>
              have k0 := avQ_rv z0
              have k1 := avQ_rv z1
              refine (mul2_any (p := q) (q := mkQ false (2 ^ (k % 900).toNat) 1) k0 k1 (by omega) (by omega)).mono ?_
              rintro e w' ⟨v, rfl, g0, hf⟩
              exact ⟨_, rfl, (avQ_rel g0), hf⟩ }],
      orcT 16 [
        { args := [avQ (.v 3), .one (.lit (.int .i64 (2)))], ans := .tup [.one (.atom (.sym 5)), .one (.lit (.int .i64 (0)))], ok := by
            intro B ρ w S vs hS hr
            match vs, hr with
            | [u0, u1], ⟨z0, z1, _⟩ =>
              have k0 := avQ_rv z0
              obtain ⟨rfl, _⟩ : u1 = _ ∧ _ := z1
              refine (cOf _ _ 2 lo g2 (ru_of hS) k0).mono ?_
              rintro e w' ⟨rfl, hf⟩
              exact ⟨_, rfl, ⟨[_, _], rfl, ⟨rfl, fun _ h => absurd h (by decide)⟩, ⟨rfl, rfl⟩, trivial⟩, hf⟩ },
        { args := [avQ (.v 3), .one (.lit (.int .i64 (3)))], ans := .tup [.one (.atom (.sym 6)), .one (.lit (.int .i64 (0)))], ok := by
            intro B ρ w S vs hS hr
            match vs, hr with
            | [u0, u1], ⟨z0, z1, _⟩ =>
              have k0 := avQ_rv z0
              obtain ⟨rfl, _⟩ : u1 = _ ∧ _ := z1
              refine (cOf _ _ 3 hi g3 (ru_of hS) k0).mono ?_
              rintro e w' ⟨rfl, hf⟩
              exact ⟨_, rfl, ⟨[_, _], rfl, ⟨rfl, fun _ h => absurd h (by decide)⟩, ⟨rfl, rfl⟩, trivial⟩, hf⟩ },
        { args := [avQ (.v 3), .one (.atom (.sym 4))], ans := .tup [.one (.atom (.sym 7)), .one (.lit (.int .i64 (0)))], ok := by
            intro B ρ w S vs hS hr
            match vs, hr with
            | [u0, u1], ⟨z0, z1, _⟩ =>
              have k0 := avQ_rv z0
              obtain ⟨rfl, _⟩ : u1 = _ ∧ _ := z1
              refine (cOf _ _ (mode % 5) mm gm (ru_of hS) k0).mono ?_
              rintro e w' ⟨rfl, hf⟩
              exact ⟨_, rfl, ⟨[_, _], rfl, ⟨rfl, fun _ h => absurd h (by decide)⟩, ⟨rfl, rfl⟩, trivial⟩, hf⟩ }],
      orcT 17 [
        { args := [.one (.atom (.sym 5))], ans := .tup [avQ (.v 4), .one (.lit (.int .i64 (0)))], ok := by
            intro B ρ w S vs hS hr
            match vs, hr with
            | [u0], ⟨z0, _⟩ =>
              obtain ⟨rfl, _⟩ : u0 = _ ∧ _ := z0
              refine (refRat_any lo hlo flo).mono ?_
              rintro e w' ⟨v, rfl, g0, hf⟩
              exact ⟨_, rfl, ⟨[_, _], rfl, (avQ_rel g0), ⟨rfl, rfl⟩, trivial⟩, hf⟩ },
        { args := [.one (.atom (.sym 6))], ans := .tup [avQ (.v 5), .one (.lit (.int .i64 (0)))], ok := by
            intro B ρ w S vs hS hr
            match vs, hr with
            | [u0], ⟨z0, _⟩ =>
              obtain ⟨rfl, _⟩ : u0 = _ ∧ _ := z0
              refine (refRat_any hi hhi fhi).mono ?_
              rintro e w' ⟨v, rfl, g0, hf⟩
              exact ⟨_, rfl, ⟨[_, _], rfl, (avQ_rel g0), ⟨rfl, rfl⟩, trivial⟩, hf⟩ }],
      orcT 18 [
        { args := [avQ (.v 4), avQ (.v 3)], ans := .v (.one (.atom (.sym 8))), ok := by
            intro B ρ w S vs hS hr
            match vs, hr with
            | [u0, u1], ⟨z0, z1, _⟩ =>
              have k0 := avQ_rv z0
              have k1 := avQ_rv z1
              refine (cmp2n (p := fvQ lo) (q := (q * mkQ false (2 ^ (k % 900).toNat) 1)) k0 k1 (by omega) (by omega)).mono ?_
              rintro e w' ⟨rfl, hf⟩
              exact ⟨_, rfl, ⟨rfl, fun _ h => absurd h (by decide)⟩, hf⟩ },
        { args := [avQ (.v 3), avQ (.v 5)], ans := .v (.one (.atom (.sym 9))), ok := by
            intro B ρ w S vs hS hr
            match vs, hr with
            | [u0, u1], ⟨z0, z1, _⟩ =>
              have k0 := avQ_rv z0
              have k1 := avQ_rv z1
              refine (cmp2n (p := (q * mkQ false (2 ^ (k % 900).toNat) 1)) (q := fvQ hi) k0 k1 (by omega) (by omega)).mono ?_
              rintro e w' ⟨rfl, hf⟩
              exact ⟨_, rfl, ⟨rfl, fun _ h => absurd h (by decide)⟩, hf⟩ }],
      orcT 19 [
        { args := [avQ (.v 4), avQ (.v 5)], ans := .v (.one (.lit (.bool true))), ok := by
            intro B ρ w S vs hS hr
            match vs, hr with
            | [u0, u1], ⟨z0, z1, _⟩ =>
              have k0 := avQ_rv z0
              have k1 := avQ_rv z1
              refine (cSa _ _ _ k0 k1).mono ?_
              rintro e w' ⟨rfl, hf⟩
              exact ⟨_, rfl, ⟨rfl, rfl⟩, hf⟩ }]], rfl⟩
    (opH_le (bigHook_le _ _) (opH_le (symHook_le _ _ _) (tabHook_le _ _)))
    (opH_ok (bigHook_ok _) (opH_ok (symHook_ok _ (fun h => by cases h) (fun h => by cases h)) (tabHook_ok _ (all_cons (BOk.mk rfl rfl rfl (fun i hi w h => by first | (cases hi; done) | (cases hi; exact absurd h (by decide))) rfl rfl (bo_remI k k1 k2)) (all_cons (BOk.mk rfl rfl rfl (fun i hi w h => by first | (cases hi; done) | (cases hi; exact absurd h (by decide))) rfl rfl (bo_eql hev)) (all_cons (BOk.mk rfl rfl rfl (fun i hi w h => by first | (cases hi; done) | (cases hi; exact absurd h (by decide))) rfl rfl (bo_gtr (by rw [cmpQ_above]; exact decide_eq_false (by grind)))) (all_cons (BOk.mk rfl rfl rfl (fun i hi w h => by first | (cases hi; done) | (cases hi; exact absurd h (by decide))) rfl rfl (bo_gtr (by rw [cmpQ_above]; exact decide_eq_false (by grind)))) (all_cons (BOk.mk rfl rfl rfl (fun i hi w h => by first | (cases hi; done) | (cases hi; exact absurd h (by decide))) rfl rfl (bo_neq (by rw [← e1, Bool.not_not]; exact decide_eq_decide.2 Int.natCast_inj))) (all_cons (BOk.mk rfl rfl rfl (fun i hi w h => by first | (cases hi; done) | (cases hi; exact absurd h (by decide))) rfl rfl (bo_neq (by rw [← e2, Bool.not_not]; exact decide_eq_decide.2 Int.natCast_inj))) (all_cons (BOk.mk rfl rfl rfl (fun i hi w h => by first | (cases hi; done) | (cases hi; exact absurd h (by decide))) rfl rfl (bo_eql (by rw [hE2]; simp))) all_nil))))))) all_nil)))
  refine (told_call (M := (DomQ true ν σ ruG)) (cx := ⟨Tryd.prog, true, t.get, orcD (lbteE0D ml mh), (opH (bigHook Tryd.prog true) (opH (symHook Tryd.prog lbteE0N (fun _ _ _ => none)) (tabHook (lbteE0L ml mh) lbteE0M)))⟩) (xs := [.agg [.atom (.sym 0), .atom (.sym 100), .atom (.sym 101)], .one (.atom (.sym 1)), .one (.atom (.sym 2))]) (vs := [.agg #[.bool s, vN, vD], .int .i64 k, .int .i64 mode]) Tryd.checked.mixed hcx (fun hg => ruG_ok hR hg) ⟨⟨[.bool s, vN, vD], rfl, ⟨rfl, fun _ h => absurd h (by decide)⟩, ⟨rfl, fun _ h => absurd h (by decide)⟩, ⟨rfl, fun _ _ => ⟨rN, rD⟩⟩, trivial⟩, ⟨rfl, fun _ h => absurd h (by decide)⟩, ⟨rfl, fun _ h => absurd h (by decide)⟩, trivial⟩ he).mono ?_
  rintro e w' ⟨v, ρ', rfl, hv, hbel⟩
  obtain ⟨rfl, _⟩ : v = _ ∧ _ := hv
  exact ⟨rfl, hbel⟩

def lbteX1D (ml : Bool) (mh : Bool) : List (FuncId × Ans) :=
  [(8, ansT [([], .v (.one (.lit (.bool true))))]),
   (13, ansT [([.agg [.atom (.sym 0), .atom (.sym 100), .atom (.sym 101)]], .v (avQ (.v 0)))]),
   (11, ansT [([.one (.lit (.int .u64 1))], .v (.one (.atom (.num (.v 10)))))]),
   (12, ansT [([.one (.atom (.sym 1)), .one (.lit (.int .i64 (900)))], .v (.one (.atom (.sym 3)))), ([.one (.atom (.sym 2)), .one (.lit (.int .i64 (5)))], .v (.one (.atom (.sym 4))))]),
   (10, ansT [([.one (.atom (.num (.v 10))), .one (.atom (.sym 3))], .v (.one (.atom (.num (.v 11)))))]),
   (9, ansT [([.one (.lit (.bool false)), .one (.atom (.num (.v 11))), .one (.atom (.num (.v 10)))], .tup [avQ (.v 1), .one (.lit (.int .i64 (0)))])]),
   (14, ansT [([avQ (.v 0), avQ (.v 1)], .v (avQ (.v 3)))]),
   (16, ansT [([avQ (.v 3), .one (.lit (.int .i64 (2)))], .tup [.one (.atom (.sym 5)), .one (.lit (.int .i64 (1)))]), ([avQ (.v 3), .one (.lit (.int .i64 (3)))], .tup [.one (.atom (.sym 6)), .one (.lit (.int .i64 (1)))]), ([avQ (.v 3), .one (.atom (.sym 4))], .tup [.one (.atom (.sym 7)), .one (.lit (.int .i64 (1)))])]),
   (17, ansT [([.one (.atom (.sym 5))], .tup [avQ (.v 4), .one (.lit (.int .i64 (0)))]), ([.one (.atom (.sym 6))], .tup [avQ (.v 5), .one (.lit (.int .i64 (0)))])]),
   (18, ansT [([avQ (.v 4), avQ (.v 3)], .v (.one (.atom (.sym 8)))), ([avQ (.v 3), avQ (.v 5)], .v (.one (.atom (.sym 9))))]),
   (19, ansT [([avQ (.v 4), avQ (.v 5)], .v (.one (.lit (.bool false))))]),
   (20, ansT [([.one (.atom (.sym 5)), .one (.lit (.bool true))], .v (.one (.atom (.sym 6))))])]
def lbteX1L (ml : Bool) (mh : Bool) : BT := [(.rem, .atom (.sym 1), .lit (.int .i64 (2)), .atom (.sym 10)), (.eql, .atom (.sym 10), .lit (.int .i64 (0)), .lit (.bool true)), (.gtr, .atom (.sym 8), .lit (.int .i64 (0)), .lit (.bool false)), (.gtr, .atom (.sym 9), .lit (.int .i64 (0)), .lit (.bool false)), (.neq, .atom (.sym 7), .atom (.sym 5), .lit (.bool (!ml))), (.neq, .atom (.sym 7), .atom (.sym 6), .lit (.bool (!mh))), (.eql, .atom (.sym 6), .atom (.sym 6), .lit (.bool true))]
def lbteX1M : BT := []
def lbteX1N : At → Option Nat
  | _ => none

set_option maxRecDepth 1000000 in
theorem lbteX1Told : ∃ t : Tr Func, TabOK Tryd.prog t ∧ (∀ ml mh : Bool, (ml || mh) = true → isAV (.v (.one (.lit (.bool true)))) (evalCall ⟨Tryd.prog, true, t.get, orcD (lbteX1D ml mh), (opH (bigHook Tryd.prog true) (opH (symHook Tryd.prog lbteX1N (fun _ _ _ => none)) (tabHook (lbteX1L ml mh) lbteX1M)))⟩ 1000 3 [.agg [.atom (.sym 0), .atom (.sym 100), .atom (.sym 101)], .one (.atom (.sym 1)), .one (.atom (.sym 2))] .e 0) = true) :=
  ⟨(((((((((((((Tr.e).put 3 (some Tryd.f3)).put 8 (some Tryd.f8)).put 13 (some Tryd.f13)).put 11 (some Tryd.f11)).put 12 (some Tryd.f12)).put 10 (some Tryd.f10)).put 9 (some Tryd.f9)).put 14 (some Tryd.f14)).put 16 (some Tryd.f16)).put 17 (some Tryd.f17)).put 18 (some Tryd.f18)).put 19 (some Tryd.f19)).put 20 (some Tryd.f20),
   (TabOK.put (TabOK.put (TabOK.put (TabOK.put (TabOK.put (TabOK.put (TabOK.put (TabOK.put (TabOK.put (TabOK.put (TabOK.put (TabOK.put (TabOK.put (TabOK.e _) ⟨Tryd.func3, by decide +kernel, by decide +kernel⟩) ⟨Tryd.func8, by decide +kernel, by decide +kernel⟩) ⟨Tryd.func13, by decide +kernel, by decide +kernel⟩) ⟨Tryd.func11, by decide +kernel, by decide +kernel⟩) ⟨Tryd.func12, by decide +kernel, by decide +kernel⟩) ⟨Tryd.func10, by decide +kernel, by decide +kernel⟩) ⟨Tryd.func9, by decide +kernel, by decide +kernel⟩) ⟨Tryd.func14, by decide +kernel, by decide +kernel⟩) ⟨Tryd.func16, by decide +kernel, by decide +kernel⟩) ⟨Tryd.func17, by decide +kernel, by decide +kernel⟩) ⟨Tryd.func18, by decide +kernel, by decide +kernel⟩) ⟨Tryd.func19, by decide +kernel, by decide +kernel⟩) ⟨Tryd.func20, by decide +kernel, by decide +kernel⟩),
   by decide +kernel⟩

set_option maxHeartbeats 4000000 in
set_option maxRecDepth 100000 in
theorem lbteX1_tab {w : World} (hR : Ru w) {vN vD : Value} {s : Bool} {xs ys : List Nat} {q : Rat} (rN : Rd w vN xs) (rD : Rd w vD ys) (hq : q = rawQ s xs ys) (bq : nr q ≤ 3) (k mode : Int)
    (k1 : -9223372036854775808 ≤ k) (k2 : k ≤ 9223372036854775807) (o1 : -9223372036854775808 ≤ mode) (o2 : mode ≤ 9223372036854775807) (hev : decide (k.tmod 2 = 0) = true) {lo hi mm : Nat} {ml mh : Bool}
    (g2 : ofN 2 (q * mkQ false (2 ^ (k % 900).toNat) 1) = (lo, 1)) (g3 : ofN 3 (q * mkQ false (2 ^ (k % 900).toNat) 1) = (hi, 1)) (gm : ofN (mode % 5) (q * mkQ false (2 ^ (k % 900).toNat) 1) = (mm, 1)) (hlo : lo < 18446744073709551616) (hhi : hi < 18446744073709551616) (flo : fsz lo < 9218868437227405312) (fhi : fsz hi < 9218868437227405312) (c1 : fvQ lo ≤ (q * mkQ false (2 ^ (k % 900).toNat) 1)) (c2 : (q * mkQ false (2 ^ (k % 900).toNat) 1) ≤ fvQ hi)
    (e1 : decide (mm = lo) = ml) (e2 : decide (mm = hi) = mh) (hml : (ml || mh) = true) (hE : fvQ lo ≠ fvQ hi) (hE2 : nxF lo true = hi) :
    Calls Tryd.prog 3 #[.agg #[.bool s, vN, vD], .int .i64 k, .int .i64 mode] w fun e w' => e = .returned (.bool true) ∧ Below w.heap.size w w' := by
  have cM : ∀ (w : World), Rd w vN xs → Rd w vD ys → Calls Tryd.prog 13 #[.agg #[.bool s, vN, vD]] w fun e w' => ∃ v, e = .returned v ∧ RV w' v q ∧ Fwd w w' := fun w h1 h2 => by
    have := make2law_any (w := w) (a := .agg #[.bool s, vN, vD]) (s := s) (xs := xs) (ys := ys) ⟨vN, vD, rfl, h1, h2⟩; rwa [← hq] at this
  have hk1 : (k % 900).toNat < 900 := by omega
  have hk2 : (((k % 900).toNat : Nat) : Int) = k % 900 := by omega
  have bP : nl (2 ^ (k % 900).toNat) ≤ 37 := by have := nl_shl 1 (k % 900).toNat; rw [Nat.one_mul] at this; have := nl_two' (n := 1) (by decide); omega
  have hP0 : (2 ^ (k % 900).toNat) ≠ 0 := by have := Nat.two_pow_pos (k % 900).toNat; omega
  have bU : nr (mkQ false (2 ^ (k % 900).toNat) 1) ≤ 37 := by have := nr_mkQ false (2 ^ (k % 900).toNat) 1 (by omega); have := nl_two' (n := 1) (by decide); omega
  have hU0 : mkQ false (2 ^ (k % 900).toNat) 1 ≠ 0 := fun h => by have := mkQ_abs (neg := false) (n := (2 ^ (k % 900).toNat)) (d := 1) (by omega); rw [h, Nat.gcd_one_right, Nat.div_one] at this; exact hP0 this.symm
  have bX := nr_mul q (mkQ false (2 ^ (k % 900).toNat) 1)
  have bl := nr_fvQ1 flo
  have bh := nr_fvQ1 fhi
  have cS : ∀ (w : World) (u : Value), Num w u 1 → Calls Tryd.prog 10 #[u, .int .i64 (k % 900)] w fun e w' => ∃ x, e = .returned x ∧ Num w' x (2 ^ (k % 900).toNat) ∧ Fwd w w' := fun w u h => by
    have := refShl_any (k % 900).toNat h (by have := nl_two' (n := 1) (by decide); omega) (by omega); rw [hk2, Nat.one_mul] at this; exact this
  have cOf : ∀ (w : World) (u : Value) (m : Int) (z : Nat), ofN m (q * mkQ false (2 ^ (k % 900).toNat) 1) = (z, 1) → Ru w → RV w u (q * mkQ false (2 ^ (k % 900).toNat) 1) → Calls Tryd.prog 16 #[u, .int .i64 m] w fun e w' => e = .returned (.tuple #[.int .u64 (z : Int), .int .i64 1]) ∧ Fwd w w' := fun w u m z hz hR hv => by
    have := ofP_any hR m hv (by omega); rw [hz] at this; exact this
  have cSa : ∀ (w : World) (u v : Value), RV w u (fvQ lo) → RV w v (fvQ hi) → Calls Tryd.prog 19 #[u, v] w fun e w' => e = .returned (.bool false) ∧ Fwd w w' := fun w u v h h' => by
    have := same2_num h h' (by omega) (by omega); rwa [decide_eq_false hE] at this
  obtain ⟨t, ht, hr⟩ := lbteX1Told
  obtain ⟨dl, n', he⟩ := isAV_ok (hr ml mh hml)
  let ν : Nat → Rat := nuL [q, mkQ false (2 ^ (k % 900).toNat) 1, 0, (q * mkQ false (2 ^ (k % 900).toNat) 1), fvQ lo, fvQ hi] [1, (2 ^ (k % 900).toNat)]
  let σ : SymD := symR [.b s, .i k, .i mode, .i (k % 900), .i (mode % 5), .u lo, .u hi, .u mm, .i (cmpQ (fvQ lo) (q * mkQ false (2 ^ (k % 900).toNat) 1)), .i (cmpQ (q * mkQ false (2 ^ (k % 900).toNat) 1) (fvQ hi)), .i (k.tmod 2)] vN vD xs ys (rdC rN) (rdC rD)
  have hcx : CxOK (DomQ true ν σ ruG) w.heap.size ⟨Tryd.prog, true, t.get, orcD (lbteX1D ml mh), (opH (bigHook Tryd.prog true) (opH (symHook Tryd.prog lbteX1N (fun _ _ _ => none)) (tabHook (lbteX1L ml mh) lbteX1M)))⟩ := cxS_ok (M := (DomQ true ν σ ruG)) ht ⟨[
      orcT 8 [
        { args := [], ans := .v (.one (.lit (.bool true))), ok := by
            intro B ρ w S vs hS hr
            match vs, hr with
            | [], _ =>
              skip
              refine (known3_any (ru_of hS)).mono ?_
              rintro e w' ⟨rfl, hf⟩
              exact ⟨_, rfl, ⟨rfl, rfl⟩, hf⟩ }],
      orcT 13 [
        { args := [.agg [.atom (.sym 0), .atom (.sym 100), .atom (.sym 101)]], ans := .v (avQ (.v 0)), ok := by
            intro B ρ w S vs hS hr
            match vs, hr with
            | [u0], ⟨z0, _⟩ =>
              obtain ⟨us0, rfl, y0⟩ := z0
              match us0, y0 with
              | [v0_0, v0_1, v0_2], ⟨y0_0, y0_1, y0_2, _⟩ =>
              obtain ⟨rfl, f0_0⟩ : v0_0 = _ ∧ _ := y0_0
              obtain ⟨rfl, f0_1⟩ : v0_1 = _ ∧ _ := y0_1
              obtain ⟨rfl, f0_2⟩ : v0_2 = _ ∧ _ := y0_2
              refine (cM _ (f0_2 rfl rfl).1 (f0_2 rfl rfl).2).mono ?_
              rintro e w' ⟨v, rfl, g0, hf⟩
              exact ⟨_, rfl, (avQ_rel g0), hf⟩ }],
      orcT 11 [
        { args := [.one (.lit (.int .u64 1))], ans := .v (.one (.atom (.num (.v 10)))), ok := by
            intro B ρ w S vs hS hr
            match vs, hr with
            | [u0], ⟨z0, _⟩ =>
              obtain ⟨rfl, _⟩ : u0 = _ ∧ _ := z0
              refine (refOf_any w 1 (by decide)).mono ?_
              rintro e w' ⟨v, rfl, g0, hf⟩
              exact ⟨_, rfl, ⟨rfl, g0⟩, hf⟩ }],
      orcT 12 [
        { args := [.one (.atom (.sym 1)), .one (.lit (.int .i64 (900)))], ans := .v (.one (.atom (.sym 3))), ok := by
            intro B ρ w S vs hS hr
            match vs, hr with
            | [u0, u1], ⟨z0, z1, _⟩ =>
              obtain ⟨rfl, _⟩ : u0 = _ ∧ _ := z0
              obtain ⟨rfl, _⟩ : u1 = _ ∧ _ := z1
              refine ((within3_900 w k k1 k2).mono (R' := fun e w' => e = .returned (.int .i64 (k % 900)) ∧ Fwd w w') (fun e w' gg => ⟨gg.1, gg.2 ▸ Fwd.refl _⟩)).mono ?_
              rintro e w' ⟨rfl, hf⟩
              exact ⟨_, rfl, ⟨rfl, fun _ h => absurd h (by decide)⟩, hf⟩ },
        { args := [.one (.atom (.sym 2)), .one (.lit (.int .i64 (5)))], ans := .v (.one (.atom (.sym 4))), ok := by
            intro B ρ w S vs hS hr
            match vs, hr with
            | [u0, u1], ⟨z0, z1, _⟩ =>
              obtain ⟨rfl, _⟩ : u0 = _ ∧ _ := z0
              obtain ⟨rfl, _⟩ : u1 = _ ∧ _ := z1
              refine ((within3_5 w mode o1 o2).mono (R' := fun e w' => e = .returned (.int .i64 (mode % 5)) ∧ Fwd w w') (fun e w' gg => ⟨gg.1, gg.2 ▸ Fwd.refl _⟩)).mono ?_
              rintro e w' ⟨rfl, hf⟩
              exact ⟨_, rfl, ⟨rfl, fun _ h => absurd h (by decide)⟩, hf⟩ }],
      orcT 10 [
        { args := [.one (.atom (.num (.v 10))), .one (.atom (.sym 3))], ans := .v (.one (.atom (.num (.v 11)))), ok := by
            intro B ρ w S vs hS hr
            match vs, hr with
            | [u0, u1], ⟨z0, z1, _⟩ =>
              have k0 : Num w u0 _ := z0.2
              obtain ⟨rfl, _⟩ : u1 = _ ∧ _ := z1
              refine (cS _ _ k0).mono ?_
              rintro e w' ⟨v, rfl, g0, hf⟩
              exact ⟨_, rfl, ⟨rfl, g0⟩, hf⟩ }],
      orcT 9 [
        { args := [.one (.lit (.bool false)), .one (.atom (.num (.v 11))), .one (.atom (.num (.v 10)))], ans := .tup [avQ (.v 1), .one (.lit (.int .i64 (0)))], ok := by
            intro B ρ w S vs hS hr
            match vs, hr with
            | [u0, u1, u2], ⟨z0, z1, z2, _⟩ =>
              obtain ⟨rfl, _⟩ : u0 = _ ∧ _ := z0
              have k1 : Num w u1 _ := z1.2
              have k2 : Num w u2 _ := z2.2
              refine (make2_any (N := (2 ^ (k % 900).toNat)) (D := 1) false k1 k2 (by omega) (by have := nl_two' (n := 1) (by decide); omega) (by omega)).mono ?_
              rintro e w' ⟨v, rfl, g0, hf⟩
              exact ⟨_, rfl, ⟨[_, _], rfl, (avQ_rel g0), ⟨rfl, rfl⟩, trivial⟩, hf⟩ }],
      orcT 14 [
        { args := [avQ (.v 0), avQ (.v 1)], ans := .v (avQ (.v 3)), ok := by
            intro B ρ w S vs hS hr
            match vs, hr with
            | [u0, u1], ⟨z0, z1, _⟩ =>
              have k0 := avQ_rv z0
              have k1 := avQ_rv z1
              refine (mul2_any (p := q) (q := mkQ false (2 ^ (k % 900).toNat) 1) k0 k1 (by omega) (by omega)).mono ?_
              rintro e w' ⟨v, rfl, g0, hf⟩
              exact ⟨_, rfl, (avQ_rel g0), hf⟩ }],
      orcT 16 [
        { args := [avQ (.v 3), .one (.lit (.int .i64 (2)))], ans := .tup [.one (.atom (.sym 5)), .one (.lit (.int .i64 (1)))], ok := by
            intro B ρ w S vs hS hr
            match vs, hr with
            | [u0, u1], ⟨z0, z1, _⟩ =>
              have k0 := avQ_rv z0
              obtain ⟨rfl, _⟩ : u1 = _ ∧ _ := z1
              refine (cOf _ _ 2 lo g2 (ru_of hS) k0).mono ?_
              rintro e w' ⟨rfl, hf⟩
              exact ⟨_, rfl, ⟨[_, _], rfl, ⟨rfl, fun _ h => absurd h (by decide)⟩, ⟨rfl, rfl⟩, trivial⟩, hf⟩ },
        { args := [avQ (.v 3), .one (.lit (.int .i64 (3)))], ans := .tup [.one (.atom (.sym 6)), .one (.lit (.int .i64 (1)))], ok := by
            intro B ρ w S vs hS hr
            match vs, hr with
            | [u0, u1], ⟨z0, z1, _⟩ =>
              have k0 := avQ_rv z0
              obtain ⟨rfl, _⟩ : u1 = _ ∧ _ := z1
              refine (cOf _ _ 3 hi g3 (ru_of hS) k0).mono ?_
              rintro e w' ⟨rfl, hf⟩
              exact ⟨_, rfl, ⟨[_, _], rfl, ⟨rfl, fun _ h => absurd h (by decide)⟩, ⟨rfl, rfl⟩, trivial⟩, hf⟩ },
        { args := [avQ (.v 3), .one (.atom (.sym 4))], ans := .tup [.one (.atom (.sym 7)), .one (.lit (.int .i64 (1)))], ok := by
            intro B ρ w S vs hS hr
            match vs, hr with
            | [u0, u1], ⟨z0, z1, _⟩ =>
              have k0 := avQ_rv z0
              obtain ⟨rfl, _⟩ : u1 = _ ∧ _ := z1
              refine (cOf _ _ (mode % 5) mm gm (ru_of hS) k0).mono ?_
              rintro e w' ⟨rfl, hf⟩
              exact ⟨_, rfl, ⟨[_, _], rfl, ⟨rfl, fun _ h => absurd h (by decide)⟩, ⟨rfl, rfl⟩, trivial⟩, hf⟩ }],
      orcT 17 [
        { args := [.one (.atom (.sym 5))], ans := .tup [avQ (.v 4), .one (.lit (.int .i64 (0)))], ok := by
            intro B ρ w S vs hS hr
            match vs, hr with
            | [u0], ⟨z0, _⟩ =>
              obtain ⟨rfl, _⟩ : u0 = _ ∧ _ := z0
              refine (refRat_any lo hlo flo).mono ?_
              rintro e w' ⟨v, rfl, g0, hf⟩
              exact ⟨_, rfl, ⟨[_, _], rfl, (avQ_rel g0), ⟨rfl, rfl⟩, trivial⟩, hf⟩ },
        { args := [.one (.atom (.sym 6))], ans := .tup [avQ (.v 5), .one (.lit (.int .i64 (0)))], ok := by
            intro B ρ w S vs hS hr
            match vs, hr with
            | [u0], ⟨z0, _⟩ =>
              obtain ⟨rfl, _⟩ : u0 = _ ∧ _ := z0
              refine (refRat_any hi hhi fhi).mono ?_
              rintro e w' ⟨v, rfl, g0, hf⟩
              exact ⟨_, rfl, ⟨[_, _], rfl, (avQ_rel g0), ⟨rfl, rfl⟩, trivial⟩, hf⟩ }],
      orcT 18 [
        { args := [avQ (.v 4), avQ (.v 3)], ans := .v (.one (.atom (.sym 8))), ok := by
            intro B ρ w S vs hS hr
            match vs, hr with
            | [u0, u1], ⟨z0, z1, _⟩ =>
              have k0 := avQ_rv z0
              have k1 := avQ_rv z1
              refine (cmp2n (p := fvQ lo) (q := (q * mkQ false (2 ^ (k % 900).toNat) 1)) k0 k1 (by omega) (by omega)).mono ?_
              rintro e w' ⟨rfl, hf⟩
              exact ⟨_, rfl, ⟨rfl, fun _ h => absurd h (by decide)⟩, hf⟩ },
        { args := [avQ (.v 3), avQ (.v 5)], ans := .v (.one (.atom (.sym 9))), ok := by
            intro B ρ w S vs hS hr
            match vs, hr with
            | [u0, u1], ⟨z0, z1, _⟩ =>
              have k0 := avQ_rv z0
              have k1 := avQ_rv z1
              refine (cmp2n (p := (q * mkQ false (2 ^ (k % 900).toNat) 1)) (q := fvQ hi) k0 k1 (by omega) (by omega)).mono ?_
              rintro e w' ⟨rfl, hf⟩
              exact ⟨_, rfl, ⟨rfl, fun _ h => absurd h (by decide)⟩, hf⟩ }],
      orcT 19 [
        { args := [avQ (.v 4), avQ (.v 5)], ans := .v (.one (.lit (.bool false))), ok := by
            intro B ρ w S vs hS hr
            match vs, hr with
            | [u0, u1], ⟨z0, z1, _⟩ =>
              have k0 := avQ_rv z0
              have k1 := avQ_rv z1
              refine (cSa _ _ _ k0 k1).mono ?_
              rintro e w' ⟨rfl, hf⟩
              exact ⟨_, rfl, ⟨rfl, rfl⟩, hf⟩ }],
      orcT 20 [
        { args := [.one (.atom (.sym 5)), .one (.lit (.bool true))], ans := .v (.one (.atom (.sym 6))), ok := by
            intro B ρ w S vs hS hr
            match vs, hr with
            | [u0, u1], ⟨z0, z1, _⟩ =>
              obtain ⟨rfl, _⟩ : u0 = _ ∧ _ := z0
              obtain ⟨rfl, _⟩ : u1 = _ ∧ _ := z1
              refine ((next3_any (w := w) lo true hlo).mono (R' := fun e w' => e = .returned (.int .u64 (hi : Nat)) ∧ Fwd w w') (fun e w' gg => ⟨by rw [gg.1, hE2], gg.2 ▸ Fwd.refl _⟩)).mono ?_
              rintro e w' ⟨rfl, hf⟩
              exact ⟨_, rfl, ⟨rfl, fun _ h => absurd h (by decide)⟩, hf⟩ }]], rfl⟩
    (opH_le (bigHook_le _ _) (opH_le (symHook_le _ _ _) (tabHook_le _ _)))
    (opH_ok (bigHook_ok _) (opH_ok (symHook_ok _ (fun h => by cases h) (fun h => by cases h)) (tabHook_ok _ (all_cons (BOk.mk rfl rfl rfl (fun i hi w h => by first | (cases hi; done) | (cases hi; exact absurd h (by decide))) rfl rfl (bo_remI k k1 k2)) (all_cons (BOk.mk rfl rfl rfl (fun i hi w h => by first | (cases hi; done) | (cases hi; exact absurd h (by decide))) rfl rfl (bo_eql hev)) (all_cons (BOk.mk rfl rfl rfl (fun i hi w h => by first | (cases hi; done) | (cases hi; exact absurd h (by decide))) rfl rfl (bo_gtr (by rw [cmpQ_above]; exact decide_eq_false (by grind)))) (all_cons (BOk.mk rfl rfl rfl (fun i hi w h => by first | (cases hi; done) | (cases hi; exact absurd h (by decide))) rfl rfl (bo_gtr (by rw [cmpQ_above]; exact decide_eq_false (by grind)))) (all_cons (BOk.mk rfl rfl rfl (fun i hi w h => by first | (cases hi; done) | (cases hi; exact absurd h (by decide))) rfl rfl (bo_neq (by rw [← e1, Bool.not_not]; exact decide_eq_decide.2 Int.natCast_inj))) (all_cons (BOk.mk rfl rfl rfl (fun i hi w h => by first | (cases hi; done) | (cases hi; exact absurd h (by decide))) rfl rfl (bo_neq (by rw [← e2, Bool.not_not]; exact decide_eq_decide.2 Int.natCast_inj))) (all_cons (BOk.mk rfl rfl rfl (fun i hi w h => by first | (cases hi; done) | (cases hi; exact absurd h (by decide))) rfl rfl (bo_eql (by simp))) all_nil))))))) all_nil)))
  refine (told_call (M := (DomQ true ν σ ruG)) (cx := ⟨Tryd.prog, true, t.get, orcD (lbteX1D ml mh), (opH (bigHook Tryd.prog true) (opH (symHook Tryd.prog lbteX1N (fun _ _ _ => none)) (tabHook (lbteX1L ml mh) lbteX1M)))⟩) (xs := [.agg [.atom (.sym 0), .atom (.sym 100), .atom (.sym 101)], .one (.atom (.sym 1)), .one (.atom (.sym 2))]) (vs := [.agg #[.bool s, vN, vD], .int .i64 k, .int .i64 mode]) Tryd.checked.mixed hcx (fun hg => ruG_ok hR hg) ⟨⟨[.bool s, vN, vD], rfl, ⟨rfl, fun _ h => absurd h (by decide)⟩, ⟨rfl, fun _ h => absurd h (by decide)⟩, ⟨rfl, fun _ _ => ⟨rN, rD⟩⟩, trivial⟩, ⟨rfl, fun _ h => absurd h (by decide)⟩, ⟨rfl, fun _ h => absurd h (by decide)⟩, trivial⟩ he).mono ?_
  rintro e w' ⟨v, ρ', rfl, hv, hbel⟩
  obtain ⟨rfl, _⟩ : v = _ ∧ _ := hv
  exact ⟨rfl, hbel⟩

def lbteX3D (ml : Bool) (mh : Bool) : List (FuncId × Ans) :=
  [(8, ansT [([], .v (.one (.lit (.bool true))))]),
   (13, ansT [([.agg [.atom (.sym 0), .atom (.sym 100), .atom (.sym 101)]], .v (avQ (.v 0)))]),
   (11, ansT [([.one (.lit (.int .u64 1))], .v (.one (.atom (.num (.v 10)))))]),
   (12, ansT [([.one (.atom (.sym 1)), .one (.lit (.int .i64 (900)))], .v (.one (.atom (.sym 3)))), ([.one (.atom (.sym 2)), .one (.lit (.int .i64 (5)))], .v (.one (.atom (.sym 4))))]),
   (10, ansT [([.one (.atom (.num (.v 10))), .one (.atom (.sym 3))], .v (.one (.atom (.num (.v 11)))))]),
   (9, ansT [([.one (.lit (.bool false)), .one (.atom (.num (.v 11))), .one (.atom (.num (.v 10)))], .tup [avQ (.v 1), .one (.lit (.int .i64 (0)))])]),
   (14, ansT [([avQ (.v 0), avQ (.v 1)], .v (avQ (.v 3)))]),
   (16, ansT [([avQ (.v 3), .one (.lit (.int .i64 (2)))], .tup [.one (.atom (.sym 5)), .one (.lit (.int .i64 (3)))]), ([avQ (.v 3), .one (.lit (.int .i64 (3)))], .tup [.one (.atom (.sym 6)), .one (.lit (.int .i64 (3)))]), ([avQ (.v 3), .one (.atom (.sym 4))], .tup [.one (.atom (.sym 7)), .one (.lit (.int .i64 (3)))])]),
   (17, ansT [([.one (.atom (.sym 5))], .tup [avQ (.v 4), .one (.lit (.int .i64 (0)))]), ([.one (.atom (.sym 6))], .tup [avQ (.v 5), .one (.lit (.int .i64 (0)))])]),
   (18, ansT [([avQ (.v 4), avQ (.v 3)], .v (.one (.atom (.sym 8)))), ([avQ (.v 3), avQ (.v 5)], .v (.one (.atom (.sym 9))))]),
   (19, ansT [([avQ (.v 4), avQ (.v 5)], .v (.one (.lit (.bool false))))]),
   (20, ansT [([.one (.atom (.sym 5)), .one (.lit (.bool true))], .v (.one (.atom (.sym 6))))])]
def lbteX3L (ml : Bool) (mh : Bool) : BT := [(.rem, .atom (.sym 1), .lit (.int .i64 (2)), .atom (.sym 10)), (.eql, .atom (.sym 10), .lit (.int .i64 (0)), .lit (.bool true)), (.gtr, .atom (.sym 8), .lit (.int .i64 (0)), .lit (.bool false)), (.gtr, .atom (.sym 9), .lit (.int .i64 (0)), .lit (.bool false)), (.neq, .atom (.sym 7), .atom (.sym 5), .lit (.bool (!ml))), (.neq, .atom (.sym 7), .atom (.sym 6), .lit (.bool (!mh))), (.eql, .atom (.sym 6), .atom (.sym 6), .lit (.bool true))]
def lbteX3M : BT := []
def lbteX3N : At → Option Nat
  | _ => none

set_option maxRecDepth 1000000 in
theorem lbteX3Told : ∃ t : Tr Func, TabOK Tryd.prog t ∧ (∀ ml mh : Bool, (ml || mh) = true → isAV (.v (.one (.lit (.bool true)))) (evalCall ⟨Tryd.prog, true, t.get, orcD (lbteX3D ml mh), (opH (bigHook Tryd.prog true) (opH (symHook Tryd.prog lbteX3N (fun _ _ _ => none)) (tabHook (lbteX3L ml mh) lbteX3M)))⟩ 1000 3 [.agg [.atom (.sym 0), .atom (.sym 100), .atom (.sym 101)], .one (.atom (.sym 1)), .one (.atom (.sym 2))] .e 0) = true) :=
  ⟨(((((((((((((Tr.e).put 3 (some Tryd.f3)).put 8 (some Tryd.f8)).put 13 (some Tryd.f13)).put 11 (some Tryd.f11)).put 12 (some Tryd.f12)).put 10 (some Tryd.f10)).put 9 (some Tryd.f9)).put 14 (some Tryd.f14)).put 16 (some Tryd.f16)).put 17 (some Tryd.f17)).put 18 (some Tryd.f18)).put 19 (some Tryd.f19)).put 20 (some Tryd.f20),
   (TabOK.put (TabOK.put (TabOK.put (TabOK.put (TabOK.put (TabOK.put (TabOK.put (TabOK.put (TabOK.put (TabOK.put (TabOK.put (TabOK.put (TabOK.put (TabOK.e _) ⟨Tryd.func3, by decide +kernel, by decide +kernel⟩) ⟨Tryd.func8, by decide +kernel, by decide +kernel⟩) ⟨Tryd.func13, by decide +kernel, by decide +kernel⟩) ⟨Tryd.func11, by decide +kernel, by decide +kernel⟩) ⟨Tryd.func12, by decide +kernel, by decide +kernel⟩) ⟨Tryd.func10, by decide +kernel, by decide +kernel⟩) ⟨Tryd.func9, by decide +kernel, by decide +kernel⟩) ⟨Tryd.func14, by decide +kernel, by decide +kernel⟩) ⟨Tryd.func16, by decide +kernel, by decide +kernel⟩) ⟨Tryd.func17, by decide +kernel, by decide +kernel⟩) ⟨Tryd.func18, by decide +kernel, by decide +kernel⟩) ⟨Tryd.func19, by decide +kernel, by decide +kernel⟩) ⟨Tryd.func20, by decide +kernel, by decide +kernel⟩),
   by decide +kernel⟩

set_option maxHeartbeats 4000000 in
set_option maxRecDepth 100000 in
theorem lbteX3_tab {w : World} (hR : Ru w) {vN vD : Value} {s : Bool} {xs ys : List Nat} {q : Rat} (rN : Rd w vN xs) (rD : Rd w vD ys) (hq : q = rawQ s xs ys) (bq : nr q ≤ 3) (k mode : Int)
    (k1 : -9223372036854775808 ≤ k) (k2 : k ≤ 9223372036854775807) (o1 : -9223372036854775808 ≤ mode) (o2 : mode ≤ 9223372036854775807) (hev : decide (k.tmod 2 = 0) = true) {lo hi mm : Nat} {ml mh : Bool}
    (g2 : ofN 2 (q * mkQ false (2 ^ (k % 900).toNat) 1) = (lo, 3)) (g3 : ofN 3 (q * mkQ false (2 ^ (k % 900).toNat) 1) = (hi, 3)) (gm : ofN (mode % 5) (q * mkQ false (2 ^ (k % 900).toNat) 1) = (mm, 3)) (hlo : lo < 18446744073709551616) (hhi : hi < 18446744073709551616) (flo : fsz lo < 9218868437227405312) (fhi : fsz hi < 9218868437227405312) (c1 : fvQ lo ≤ (q * mkQ false (2 ^ (k % 900).toNat) 1)) (c2 : (q * mkQ false (2 ^ (k % 900).toNat) 1) ≤ fvQ hi)
    (e1 : decide (mm = lo) = ml) (e2 : decide (mm = hi) = mh) (hml : (ml || mh) = true) (hE : fvQ lo ≠ fvQ hi) (hE2 : nxF lo true = hi) :
    Calls Tryd.prog 3 #[.agg #[.bool s, vN, vD], .int .i64 k, .int .i64 mode] w fun e w' => e = .returned (.bool true) ∧ Below w.heap.size w w' := by
  have cM : ∀ (w : World), Rd w vN xs → Rd w vD ys → Calls Tryd.prog 13 #[.agg #[.bool s, vN, vD]] w fun e w' => ∃ v, e = .returned v ∧ RV w' v q ∧ Fwd w w' := fun w h1 h2 => by
    have := make2law_any (w := w) (a := .agg #[.bool s, vN, vD]) (s := s) (xs := xs) (ys := ys) ⟨vN, vD, rfl, h1, h2⟩; rwa [← hq] at this
  have hk1 : (k % 900).toNat < 900 := by omega
  have hk2 : (((k % 900).toNat : Nat) : Int) = k % 900 := by omega
  have bP : nl (2 ^ (k % 900).toNat) ≤ 37 := by have := nl_shl 1 (k % 900).toNat; rw [Nat.one_mul] at this; have := nl_two' (n := 1) (by decide); omega
  have hP0 : (2 ^ (k % 900).toNat) ≠ 0 := by have := Nat.two_pow_pos (k % 900).toNat; omega
  have bU : nr (mkQ false (2 ^ (k % 900).toNat) 1) ≤ 37 := by have := nr_mkQ false (2 ^ (k % 900).toNat) 1 (by omega); have := nl_two' (n := 1) (by decide); omega
  have hU0 : mkQ false (2 ^ (k % 900).toNat) 1 ≠ 0 := fun h => by have := mkQ_abs (neg := false) (n := (2 ^ (k % 900).toNat)) (d := 1) (by omega); rw [h, Nat.gcd_one_right, Nat.div_one] at this; exact hP0 this.symm
  have bX := nr_mul q (mkQ false (2 ^ (k % 900).toNat) 1)
  have bl := nr_fvQ1 flo
  have bh := nr_fvQ1 fhi
  have cS : ∀ (w : World) (u : Value), Num w u 1 → Calls Tryd.prog 10 #[u, .int .i64 (k % 900)] w fun e w' => ∃ x, e = .returned x ∧ Num w' x (2 ^ (k % 900).toNat) ∧ Fwd w w' := fun w u h => by
    have := refShl_any (k % 900).toNat h (by have := nl_two' (n := 1) (by decide); omega) (by omega); rw [hk2, Nat.one_mul] at this; exact this
  have cOf : ∀ (w : World) (u : Value) (m : Int) (z : Nat), ofN m (q * mkQ false (2 ^ (k % 900).toNat) 1) = (z, 3) → Ru w → RV w u (q * mkQ false (2 ^ (k % 900).toNat) 1) → Calls Tryd.prog 16 #[u, .int .i64 m] w fun e w' => e = .returned (.tuple #[.int .u64 (z : Int), .int .i64 3]) ∧ Fwd w w' := fun w u m z hz hR hv => by
    have := ofP_any hR m hv (by omega); rw [hz] at this; exact this
  have cSa : ∀ (w : World) (u v : Value), RV w u (fvQ lo) → RV w v (fvQ hi) → Calls Tryd.prog 19 #[u, v] w fun e w' => e = .returned (.bool false) ∧ Fwd w w' := fun w u v h h' => by
    have := same2_num h h' (by omega) (by omega); rwa [decide_eq_false hE] at this
  obtain ⟨t, ht, hr⟩ := lbteX3Told
  obtain ⟨dl, n', he⟩ := isAV_ok (hr ml mh hml)
  let ν : Nat → Rat := nuL [q, mkQ false (2 ^ (k % 900).toNat) 1, 0, (q * mkQ false (2 ^ (k % 900).toNat) 1), fvQ lo, fvQ hi] [1, (2 ^ (k % 900).toNat)]
  let σ : SymD := symR [.b s, .i k, .i mode, .i (k % 900), .i (mode % 5), .u lo, .u hi, .u mm, .i (cmpQ (fvQ lo) (q * mkQ false (2 ^ (k % 900).toNat) 1)), .i (cmpQ (q * mkQ false (2 ^ (k % 900).toNat) 1) (fvQ hi)), .i (k.tmod 2)] vN vD xs ys (rdC rN) (rdC rD)
  have hcx : CxOK (DomQ true ν σ ruG) w.heap.size ⟨Tryd.prog, true, t.get, orcD (lbteX3D ml mh), (opH (bigHook Tryd.prog true) (opH (symHook Tryd.prog lbteX3N (fun _ _ _ => none)) (tabHook (lbteX3L ml mh) lbteX3M)))⟩ := cxS_ok (M := (DomQ true ν σ ruG)) ht ⟨[
      orcT 8 [
        { args := [], ans := .v (.one (.lit (.bool true))), ok := by
            intro B ρ w S vs hS hr
            match vs, hr with
            | [], _ =>
              skip
              refine (known3_any (ru_of hS)).mono ?_
              rintro e w' ⟨rfl, hf⟩
              exact ⟨_, rfl, ⟨rfl, rfl⟩, hf⟩ }],
      orcT 13 [
        { args := [.agg [.atom (.sym 0), .atom (.sym 100), .atom (.sym 101)]], ans := .v (avQ (.v 0)), ok := by
            intro B ρ w S vs hS hr
            match vs, hr with
            | [u0], ⟨z0, _⟩ =>
              obtain ⟨us0, rfl, y0⟩ := z0
              match us0, y0 with
              | [v0_0, v0_1, v0_2], ⟨y0_0, y0_1, y0_2, _⟩ =>
              obtain ⟨rfl, f0_0⟩ : v0_0 = _ ∧ _ := y0_0
              obtain ⟨rfl, f0_1⟩ : v0_1 = _ ∧ _ := y0_1
              obtain ⟨rfl, f0_2⟩ : v0_2 = _ ∧ _ := y0_2
              refine (cM _ (f0_2 rfl rfl).1 (f0_2 rfl rfl).2).mono ?_
              rintro e w' ⟨v, rfl, g0, hf⟩
              exact ⟨_, rfl, (avQ_rel g0), hf⟩ }],
      orcT 11 [
        { args := [.one (.lit (.int .u64 1))], ans := .v (.one (.atom (.num (.v 10)))), ok := by
            intro B ρ w S vs hS hr
            match vs, hr with
            | [u0], ⟨z0, _⟩ =>
              obtain ⟨rfl, _⟩ : u0 = _ ∧ _ := z0
              refine (refOf_any w 1 (by decide)).mono ?_
              rintro e w' ⟨v, rfl, g0, hf⟩
              exact ⟨_, rfl, ⟨rfl, g0⟩, hf⟩ }],
      orcT 12 [
        { args := [.one (.atom (.sym 1)), .one (.lit (.int .i64 (900)))], ans := .v (.one (.atom (.sym 3))), ok := by
            intro B ρ w S vs hS hr
            match vs, hr with
            | [u0, u1], ⟨z0, z1, _⟩ =>
              obtain ⟨rfl, _⟩ : u0 = _ ∧ _ := z0
              obtain ⟨rfl, _⟩ : u1 = _ ∧ _ := z1
              refine ((within3_900 w k k1 k2).mono (R' := fun e w' => e = .returned (.int .i64 (k % 900)) ∧ Fwd w w') (fun e w' gg => ⟨gg.1, gg.2 ▸ Fwd.refl _⟩)).mono ?_
              rintro e w' ⟨rfl, hf⟩
              exact ⟨_, rfl, ⟨rfl, fun _ h => absurd h (by decide)⟩, hf⟩ },
        { args := [.one (.atom (.sym 2)), .one (.lit (.int .i64 (5)))], ans := .v (.one (.atom (.sym 4))), ok := by
            intro B ρ w S vs hS hr
            match vs, hr with
            | [u0, u1], ⟨z0, z1, _⟩ =>
              obtain ⟨rfl, _⟩ : u0 = _ ∧ _ := z0
              obtain ⟨rfl, _⟩ : u1 = _ ∧ _ := z1
              refine ((within3_5 w mode o1 o2).mono (R' := fun e w' => e = .returned (.int .i64 (mode % 5)) ∧ Fwd w w') (fun e w' gg => ⟨gg.1, gg.2 ▸ Fwd.refl _⟩)).mono ?_
              rintro e w' ⟨rfl, hf⟩
              exact ⟨_, rfl, ⟨rfl, fun _ h => absurd h (by decide)⟩, hf⟩ }],
      orcT 10 [
        { args := [.one (.atom (.num (.v 10))), .one (.atom (.sym 3))], ans := .v (.one (.atom (.num (.v 11)))), ok := by
            intro B ρ w S vs hS hr
            match vs, hr with
            | [u0, u1], ⟨z0, z1, _⟩ =>
              have k0 : Num w u0 _ := z0.2
              obtain ⟨rfl, _⟩ : u1 = _ ∧ _ := z1
              refine (cS _ _ k0).mono ?_
              rintro e w' ⟨v, rfl, g0, hf⟩
              exact ⟨_, rfl, ⟨rfl, g0⟩, hf⟩ }],
      orcT 9 [
        { args := [.one (.lit (.bool false)), .one (.atom (.num (.v 11))), .one (.atom (.num (.v 10)))], ans := .tup [avQ (.v 1), .one (.lit (.int .i64 (0)))], ok := by
            intro B ρ w S vs hS hr
            match vs, hr with
            | [u0, u1, u2], ⟨z0, z1, z2, _⟩ =>
              obtain ⟨rfl, _⟩ : u0 = _ ∧ _ := z0
              have k1 : Num w u1 _ := z1.2
              have k2 : Num w u2 _ := z2.2
              refine (make2_any (N := (2 ^ (k % 900).toNat)) (D := 1) false k1 k2 (by omega) (by have := nl_two' (n := 1) (by decide); omega) (by omega)).mono ?_
              rintro e w' ⟨v, rfl, g0, hf⟩
              exact ⟨_, rfl, ⟨[_, _], rfl, (avQ_rel g0), ⟨rfl, rfl⟩, trivial⟩, hf⟩ }],
      orcT 14 [
        { args := [avQ (.v 0), avQ (.v 1)], ans := .v (avQ (.v 3)), ok := by
            intro B ρ w S vs hS hr
            match vs, hr with
            | [u0, u1], ⟨z0, z1, _⟩ =>
              have k0 := avQ_rv z0
              have k1 := avQ_rv z1
              refine (mul2_any (p := q) (q := mkQ false (2 ^ (k % 900).toNat) 1) k0 k1 (by omega) (by omega)).mono ?_
              rintro e w' ⟨v, rfl, g0, hf⟩
              exact ⟨_, rfl, (avQ_rel g0), hf⟩ }],
      orcT 16 [
        { args := [avQ (.v 3), .one (.lit (.int .i64 (2)))], ans := .tup [.one (.atom (.sym 5)), .one (.lit (.int .i64 (3)))], ok := by
            intro B ρ w S vs hS hr
            match vs, hr with
            | [u0, u1], ⟨z0, z1, _⟩ =>
              have k0 := avQ_rv z0
              obtain ⟨rfl, _⟩ : u1 = _ ∧ _ := z1
              refine (cOf _ _ 2 lo g2 (ru_of hS) k0).mono ?_
              rintro e w' ⟨rfl, hf⟩
              exact ⟨_, rfl, ⟨[_, _], rfl, ⟨rfl, fun _ h => absurd h (by decide)⟩, ⟨rfl, rfl⟩, trivial⟩, hf⟩ },
        { args := [avQ (.v 3), .one (.lit (.int .i64 (3)))], ans := .tup [.one (.atom (.sym 6)), .one (.lit (.int .i64 (3)))], ok := by
            intro B ρ w S vs hS hr
            match vs, hr with
            | [u0, u1], ⟨z0, z1, _⟩ =>
              have k0 := avQ_rv z0
              obtain ⟨rfl, _⟩ : u1 = _ ∧ _ := z1
              refine (cOf _ _ 3 hi g3 (ru_of hS) k0).mono ?_
              rintro e w' ⟨rfl, hf⟩
              exact ⟨_, rfl, ⟨[_, _], rfl, ⟨rfl, fun _ h => absurd h (by decide)⟩, ⟨rfl, rfl⟩, trivial⟩, hf⟩ },
        { args := [avQ (.v 3), .one (.atom (.sym 4))], ans := .tup [.one (.atom (.sym 7)), .one (.lit (.int .i64 (3)))], ok := by
            intro B ρ w S vs hS hr
            match vs, hr with
            | [u0, u1], ⟨z0, z1, _⟩ =>
              have k0 := avQ_rv z0
              obtain ⟨rfl, _⟩ : u1 = _ ∧ _ := z1
              refine (cOf _ _ (mode % 5) mm gm (ru_of hS) k0).mono ?_
              rintro e w' ⟨rfl, hf⟩
              exact ⟨_, rfl, ⟨[_, _], rfl, ⟨rfl, fun _ h => absurd h (by decide)⟩, ⟨rfl, rfl⟩, trivial⟩, hf⟩ }],
      orcT 17 [
        { args := [.one (.atom (.sym 5))], ans := .tup [avQ (.v 4), .one (.lit (.int .i64 (0)))], ok := by
            intro B ρ w S vs hS hr
            match vs, hr with
            | [u0], ⟨z0, _⟩ =>
              obtain ⟨rfl, _⟩ : u0 = _ ∧ _ := z0
              refine (refRat_any lo hlo flo).mono ?_
              rintro e w' ⟨v, rfl, g0, hf⟩
              exact ⟨_, rfl, ⟨[_, _], rfl, (avQ_rel g0), ⟨rfl, rfl⟩, trivial⟩, hf⟩ },
        { args := [.one (.atom (.sym 6))], ans := .tup [avQ (.v 5), .one (.lit (.int .i64 (0)))], ok := by
            intro B ρ w S vs hS hr
            match vs, hr with
            | [u0], ⟨z0, _⟩ =>
              obtain ⟨rfl, _⟩ : u0 = _ ∧ _ := z0
              refine (refRat_any hi hhi fhi).mono ?_
              rintro e w' ⟨v, rfl, g0, hf⟩
              exact ⟨_, rfl, ⟨[_, _], rfl, (avQ_rel g0), ⟨rfl, rfl⟩, trivial⟩, hf⟩ }],
      orcT 18 [
        { args := [avQ (.v 4), avQ (.v 3)], ans := .v (.one (.atom (.sym 8))), ok := by
            intro B ρ w S vs hS hr
            match vs, hr with
            | [u0, u1], ⟨z0, z1, _⟩ =>
              have k0 := avQ_rv z0
              have k1 := avQ_rv z1
              refine (cmp2n (p := fvQ lo) (q := (q * mkQ false (2 ^ (k % 900).toNat) 1)) k0 k1 (by omega) (by omega)).mono ?_
              rintro e w' ⟨rfl, hf⟩
              exact ⟨_, rfl, ⟨rfl, fun _ h => absurd h (by decide)⟩, hf⟩ },
        { args := [avQ (.v 3), avQ (.v 5)], ans := .v (.one (.atom (.sym 9))), ok := by
            intro B ρ w S vs hS hr
            match vs, hr with
            | [u0, u1], ⟨z0, z1, _⟩ =>
              have k0 := avQ_rv z0
              have k1 := avQ_rv z1
              refine (cmp2n (p := (q * mkQ false (2 ^ (k % 900).toNat) 1)) (q := fvQ hi) k0 k1 (by omega) (by omega)).mono ?_
              rintro e w' ⟨rfl, hf⟩
              exact ⟨_, rfl, ⟨rfl, fun _ h => absurd h (by decide)⟩, hf⟩ }],
      orcT 19 [
        { args := [avQ (.v 4), avQ (.v 5)], ans := .v (.one (.lit (.bool false))), ok := by
            intro B ρ w S vs hS hr
            match vs, hr with
            | [u0, u1], ⟨z0, z1, _⟩ =>
              have k0 := avQ_rv z0
              have k1 := avQ_rv z1
              refine (cSa _ _ _ k0 k1).mono ?_
              rintro e w' ⟨rfl, hf⟩
              exact ⟨_, rfl, ⟨rfl, rfl⟩, hf⟩ }],
      orcT 20 [
        { args := [.one (.atom (.sym 5)), .one (.lit (.bool true))], ans := .v (.one (.atom (.sym 6))), ok := by
            intro B ρ w S vs hS hr
            match vs, hr with
            | [u0, u1], ⟨z0, z1, _⟩ =>
              obtain ⟨rfl, _⟩ : u0 = _ ∧ _ := z0
              obtain ⟨rfl, _⟩ : u1 = _ ∧ _ := z1
              refine ((next3_any (w := w) lo true hlo).mono (R' := fun e w' => e = .returned (.int .u64 (hi : Nat)) ∧ Fwd w w') (fun e w' gg => ⟨by rw [gg.1, hE2], gg.2 ▸ Fwd.refl _⟩)).mono ?_
              rintro e w' ⟨rfl, hf⟩
              exact ⟨_, rfl, ⟨rfl, fun _ h => absurd h (by decide)⟩, hf⟩ }]], rfl⟩
    (opH_le (bigHook_le _ _) (opH_le (symHook_le _ _ _) (tabHook_le _ _)))
    (opH_ok (bigHook_ok _) (opH_ok (symHook_ok _ (fun h => by cases h) (fun h => by cases h)) (tabHook_ok _ (all_cons (BOk.mk rfl rfl rfl (fun i hi w h => by first | (cases hi; done) | (cases hi; exact absurd h (by decide))) rfl rfl (bo_remI k k1 k2)) (all_cons (BOk.mk rfl rfl rfl (fun i hi w h => by first | (cases hi; done) | (cases hi; exact absurd h (by decide))) rfl rfl (bo_eql hev)) (all_cons (BOk.mk rfl rfl rfl (fun i hi w h => by first | (cases hi; done) | (cases hi; exact absurd h (by decide))) rfl rfl (bo_gtr (by rw [cmpQ_above]; exact decide_eq_false (by grind)))) (all_cons (BOk.mk rfl rfl rfl (fun i hi w h => by first | (cases hi; done) | (cases hi; exact absurd h (by decide))) rfl rfl (bo_gtr (by rw [cmpQ_above]; exact decide_eq_false (by grind)))) (all_cons (BOk.mk rfl rfl rfl (fun i hi w h => by first | (cases hi; done) | (cases hi; exact absurd h (by decide))) rfl rfl (bo_neq (by rw [← e1, Bool.not_not]; exact decide_eq_decide.2 Int.natCast_inj))) (all_cons (BOk.mk rfl rfl rfl (fun i hi w h => by first | (cases hi; done) | (cases hi; exact absurd h (by decide))) rfl rfl (bo_neq (by rw [← e2, Bool.not_not]; exact decide_eq_decide.2 Int.natCast_inj))) (all_cons (BOk.mk rfl rfl rfl (fun i hi w h => by first | (cases hi; done) | (cases hi; exact absurd h (by decide))) rfl rfl (bo_eql (by simp))) all_nil))))))) all_nil)))
  refine (told_call (M := (DomQ true ν σ ruG)) (cx := ⟨Tryd.prog, true, t.get, orcD (lbteX3D ml mh), (opH (bigHook Tryd.prog true) (opH (symHook Tryd.prog lbteX3N (fun _ _ _ => none)) (tabHook (lbteX3L ml mh) lbteX3M)))⟩) (xs := [.agg [.atom (.sym 0), .atom (.sym 100), .atom (.sym 101)], .one (.atom (.sym 1)), .one (.atom (.sym 2))]) (vs := [.agg #[.bool s, vN, vD], .int .i64 k, .int .i64 mode]) Tryd.checked.mixed hcx (fun hg => ruG_ok hR hg) ⟨⟨[.bool s, vN, vD], rfl, ⟨rfl, fun _ h => absurd h (by decide)⟩, ⟨rfl, fun _ h => absurd h (by decide)⟩, ⟨rfl, fun _ _ => ⟨rN, rD⟩⟩, trivial⟩, ⟨rfl, fun _ h => absurd h (by decide)⟩, ⟨rfl, fun _ h => absurd h (by decide)⟩, trivial⟩ he).mono ?_
  rintro e w' ⟨v, ρ', rfl, hv, hbel⟩
  obtain ⟨rfl, _⟩ : v = _ ∧ _ := hv
  exact ⟨rfl, hbel⟩

def lbtoE0D (ml : Bool) (mh : Bool) : List (FuncId × Ans) :=
  [(8, ansT [([], .v (.one (.lit (.bool true))))]),
   (13, ansT [([.agg [.atom (.sym 0), .atom (.sym 100), .atom (.sym 101)]], .v (avQ (.v 0)))]),
   (11, ansT [([.one (.lit (.int .u64 1))], .v (.one (.atom (.num (.v 10)))))]),
   (12, ansT [([.one (.atom (.sym 1)), .one (.lit (.int .i64 (900)))], .v (.one (.atom (.sym 3)))), ([.one (.atom (.sym 2)), .one (.lit (.int .i64 (5)))], .v (.one (.atom (.sym 4))))]),
   (10, ansT [([.one (.atom (.num (.v 10))), .one (.atom (.sym 3))], .v (.one (.atom (.num (.v 11)))))]),
   (9, ansT [([.one (.lit (.bool false)), .one (.atom (.num (.v 11))), .one (.atom (.num (.v 10)))], .tup [avQ (.v 1), .one (.lit (.int .i64 (0)))])]),
   (48, ansT [([avQ (.v 0), avQ (.v 1)], .tup [avQ (.v 3), .one (.lit (.int .i64 (0)))])]),
   (16, ansT [([avQ (.v 3), .one (.lit (.int .i64 (2)))], .tup [.one (.atom (.sym 5)), .one (.lit (.int .i64 (0)))]), ([avQ (.v 3), .one (.lit (.int .i64 (3)))], .tup [.one (.atom (.sym 6)), .one (.lit (.int .i64 (0)))]), ([avQ (.v 3), .one (.atom (.sym 4))], .tup [.one (.atom (.sym 7)), .one (.lit (.int .i64 (0)))])]),
   (17, ansT [([.one (.atom (.sym 5))], .tup [avQ (.v 4), .one (.lit (.int .i64 (0)))]), ([.one (.atom (.sym 6))], .tup [avQ (.v 5), .one (.lit (.int .i64 (0)))])]),
   (18, ansT [([avQ (.v 4), avQ (.v 3)], .v (.one (.atom (.sym 8)))), ([avQ (.v 3), avQ (.v 5)], .v (.one (.atom (.sym 9))))]),
   (19, ansT [([avQ (.v 4), avQ (.v 5)], .v (.one (.lit (.bool true))))])]
def lbtoE0L (ml : Bool) (mh : Bool) : BT := [(.rem, .atom (.sym 1), .lit (.int .i64 (2)), .atom (.sym 10)), (.eql, .atom (.sym 10), .lit (.int .i64 (0)), .lit (.bool false)), (.gtr, .atom (.sym 8), .lit (.int .i64 (0)), .lit (.bool false)), (.gtr, .atom (.sym 9), .lit (.int .i64 (0)), .lit (.bool false)), (.neq, .atom (.sym 7), .atom (.sym 5), .lit (.bool (!ml))), (.neq, .atom (.sym 7), .atom (.sym 6), .lit (.bool (!mh))), (.eql, .atom (.sym 5), .atom (.sym 6), .lit (.bool true))]
def lbtoE0M : BT := []
def lbtoE0N : At → Option Nat
  | _ => none

set_option maxRecDepth 1000000 in
theorem lbtoE0Told : ∃ t : Tr Func, TabOK Tryd.prog t ∧ (∀ ml mh : Bool, (ml || mh) = true → isAV (.v (.one (.lit (.bool true)))) (evalCall ⟨Tryd.prog, true, t.get, orcD (lbtoE0D ml mh), (opH (bigHook Tryd.prog true) (opH (symHook Tryd.prog lbtoE0N (fun _ _ _ => none)) (tabHook (lbtoE0L ml mh) lbtoE0M)))⟩ 1000 3 [.agg [.atom (.sym 0), .atom (.sym 100), .atom (.sym 101)], .one (.atom (.sym 1)), .one (.atom (.sym 2))] .e 0) = true) :=
  ⟨(((((((((((((Tr.e).put 3 (some Tryd.f3)).put 15 (some Tryd.f15)).put 8 (some Tryd.f8)).put 13 (some Tryd.f13)).put 11 (some Tryd.f11)).put 12 (some Tryd.f12)).put 10 (some Tryd.f10)).put 9 (some Tryd.f9)).put 48 (some Tryd.f48)).put 16 (some Tryd.f16)).put 17 (some Tryd.f17)).put 18 (some Tryd.f18)).put 19 (some Tryd.f19),
   (TabOK.put (TabOK.put (TabOK.put (TabOK.put (TabOK.put (TabOK.put (TabOK.put (TabOK.put (TabOK.put (TabOK.put (TabOK.put (TabOK.put (TabOK.put (TabOK.e _) ⟨Tryd.func3, by decide +kernel, by decide +kernel⟩) ⟨Tryd.func15, by decide +kernel, by decide +kernel⟩) ⟨Tryd.func8, by decide +kernel, by decide +kernel⟩) ⟨Tryd.func13, by decide +kernel, by decide +kernel⟩) ⟨Tryd.func11, by decide +kernel, by decide +kernel⟩) ⟨Tryd.func12, by decide +kernel, by decide +kernel⟩) ⟨Tryd.func10, by decide +kernel, by decide +kernel⟩) ⟨Tryd.func9, by decide +kernel, by decide +kernel⟩) ⟨Tryd.func48, by decide +kernel, by decide +kernel⟩) ⟨Tryd.func16, by decide +kernel, by decide +kernel⟩) ⟨Tryd.func17, by decide +kernel, by decide +kernel⟩) ⟨Tryd.func18, by decide +kernel, by decide +kernel⟩) ⟨Tryd.func19, by decide +kernel, by decide +kernel⟩),
   by decide +kernel⟩

set_option maxHeartbeats 4000000 in
set_option maxRecDepth 100000 in
theorem lbtoE0_tab {w : World} (hR : Ru w) {vN vD : Value} {s : Bool} {xs ys : List Nat} {q : Rat} (rN : Rd w vN xs) (rD : Rd w vD ys) (hq : q = rawQ s xs ys) (bq : nr q ≤ 3) (k mode : Int)
    (k1 : -9223372036854775808 ≤ k) (k2 : k ≤ 9223372036854775807) (o1 : -9223372036854775808 ≤ mode) (o2 : mode ≤ 9223372036854775807) (hev : decide (k.tmod 2 = 0) = false) {lo hi mm : Nat} {ml mh : Bool}
    (g2 : ofN 2 (q / mkQ false (2 ^ (k % 900).toNat) 1) = (lo, 0)) (g3 : ofN 3 (q / mkQ false (2 ^ (k % 900).toNat) 1) = (hi, 0)) (gm : ofN (mode % 5) (q / mkQ false (2 ^ (k % 900).toNat) 1) = (mm, 0)) (hlo : lo < 18446744073709551616) (hhi : hi < 18446744073709551616) (flo : fsz lo < 9218868437227405312) (fhi : fsz hi < 9218868437227405312) (c1 : fvQ lo ≤ (q / mkQ false (2 ^ (k % 900).toNat) 1)) (c2 : (q / mkQ false (2 ^ (k % 900).toNat) 1) ≤ fvQ hi)
    (e1 : decide (mm = lo) = ml) (e2 : decide (mm = hi) = mh) (hml : (ml || mh) = true) (hE : fvQ lo = fvQ hi) (hE2 : lo = hi) :
    Calls Tryd.prog 3 #[.agg #[.bool s, vN, vD], .int .i64 k, .int .i64 mode] w fun e w' => e = .returned (.bool true) ∧ Below w.heap.size w w' := by
  have cM : ∀ (w : World), Rd w vN xs → Rd w vD ys → Calls Tryd.prog 13 #[.agg #[.bool s, vN, vD]] w fun e w' => ∃ v, e = .returned v ∧ RV w' v q ∧ Fwd w w' := fun w h1 h2 => by
    have := make2law_any (w := w) (a := .agg #[.bool s, vN, vD]) (s := s) (xs := xs) (ys := ys) ⟨vN, vD, rfl, h1, h2⟩; rwa [← hq] at this
  have hk1 : (k % 900).toNat < 900 := by omega
  have hk2 : (((k % 900).toNat : Nat) : Int) = k % 900 := by omega
  have bP : nl (2 ^ (k % 900).toNat) ≤ 37 := by have := nl_shl 1 (k % 900).toNat; rw [Nat.one_mul] at this; have := nl_two' (n := 1) (by decide); omega
  have hP0 : (2 ^ (k % 900).toNat) ≠ 0 := by have := Nat.two_pow_pos (k % 900).toNat; omega
  have bU : nr (mkQ false (2 ^ (k % 900).toNat) 1) ≤ 37 := by have := nr_mkQ false (2 ^ (k % 900).toNat) 1 (by omega); have := nl_two' (n := 1) (by decide); omega
  have hU0 : mkQ false (2 ^ (k % 900).toNat) 1 ≠ 0 := fun h => by have := mkQ_abs (neg := false) (n := (2 ^ (k % 900).toNat)) (d := 1) (by omega); rw [h, Nat.gcd_one_right, Nat.div_one] at this; exact hP0 this.symm
  have bX := nr_div (a := q) hU0
  have bl := nr_fvQ1 flo
  have bh := nr_fvQ1 fhi
  have cS : ∀ (w : World) (u : Value), Num w u 1 → Calls Tryd.prog 10 #[u, .int .i64 (k % 900)] w fun e w' => ∃ x, e = .returned x ∧ Num w' x (2 ^ (k % 900).toNat) ∧ Fwd w w' := fun w u h => by
    have := refShl_any (k % 900).toNat h (by have := nl_two' (n := 1) (by decide); omega) (by omega); rw [hk2, Nat.one_mul] at this; exact this
  have cOf : ∀ (w : World) (u : Value) (m : Int) (z : Nat), ofN m (q / mkQ false (2 ^ (k % 900).toNat) 1) = (z, 0) → Ru w → RV w u (q / mkQ false (2 ^ (k % 900).toNat) 1) → Calls Tryd.prog 16 #[u, .int .i64 m] w fun e w' => e = .returned (.tuple #[.int .u64 (z : Int), .int .i64 0]) ∧ Fwd w w' := fun w u m z hz hR hv => by
    have := ofP_any hR m hv (by omega); rw [hz] at this; exact this
  have cSa : ∀ (w : World) (u v : Value), RV w u (fvQ lo) → RV w v (fvQ hi) → Calls Tryd.prog 19 #[u, v] w fun e w' => e = .returned (.bool true) ∧ Fwd w w' := fun w u v h h' => by
    have := same2_num h h' (by omega) (by omega); rwa [decide_eq_true hE] at this
  obtain ⟨t, ht, hr⟩ := lbtoE0Told
  obtain ⟨dl, n', he⟩ := isAV_ok (hr ml mh hml)
  let ν : Nat → Rat := nuL [q, mkQ false (2 ^ (k % 900).toNat) 1, 0, (q / mkQ false (2 ^ (k % 900).toNat) 1), fvQ lo, fvQ hi] [1, (2 ^ (k % 900).toNat)]
  let σ : SymD := symR [.b s, .i k, .i mode, .i (k % 900), .i (mode % 5), .u lo, .u hi, .u mm, .i (cmpQ (fvQ lo) (q / mkQ false (2 ^ (k % 900).toNat) 1)), .i (cmpQ (q / mkQ false (2 ^ (k % 900).toNat) 1) (fvQ hi)), .i (k.tmod 2)] vN vD xs ys (rdC rN) (rdC rD)
  have hcx : CxOK (DomQ true ν σ ruG) w.heap.size ⟨Tryd.prog, true, t.get, orcD (lbtoE0D ml mh), (opH (bigHook Tryd.prog true) (opH (symHook Tryd.prog lbtoE0N (fun _ _ _ => none)) (tabHook (lbtoE0L ml mh) lbtoE0M)))⟩ := cxS_ok (M := (DomQ true ν σ ruG)) ht ⟨[
      orcT 8 [
        { args := [], ans := .v (.one (.lit (.bool true))), ok := by
            intro B ρ w S vs hS hr
            match vs, hr with
            | [], _ =>
              skip
              refine (known3_any (ru_of hS)).mono ?_
              rintro e w' ⟨rfl, hf⟩
              exact ⟨_, rfl, ⟨rfl, rfl⟩, hf⟩ }],
      orcT 13 [
        { args := [.agg [.atom (.sym 0), .atom (.sym 100), .atom (.sym 101)]], ans := .v (avQ (.v 0)), ok := by
            intro B ρ w S vs hS hr
            match vs, hr with
            | [u0], ⟨z0, _⟩ =>
              obtain ⟨us0, rfl, y0⟩ := z0
              match us0, y0 with
              | [v0_0, v0_1, v0_2], ⟨y0_0, y0_1, y0_2, _⟩ =>
              obtain ⟨rfl, f0_0⟩ : v0_0 = _ ∧ _ := y0_0
              obtain ⟨rfl, f0_1⟩ : v0_1 = _ ∧ _ := y0_1
              obtain ⟨rfl, f0_2⟩ : v0_2 = _ ∧ _ := y0_2
              refine (cM _ (f0_2 rfl rfl).1 (f0_2 rfl rfl).2).mono ?_
              rintro e w' ⟨v, rfl, g0, hf⟩
              exact ⟨_, rfl, (avQ_rel g0), hf⟩ }],
      orcT 11 [
        { args := [.one (.lit (.int .u64 1))], ans := .v (.one (.atom (.num (.v 10)))), ok := by
            intro B ρ w S vs hS hr
            match vs, hr with
            | [u0], ⟨z0, _⟩ =>
              obtain ⟨rfl, _⟩ : u0 = _ ∧ _ := z0
              refine (refOf_any w 1 (by decide)).mono ?_
              rintro e w' ⟨v, rfl, g0, hf⟩
              exact ⟨_, rfl, ⟨rfl, g0⟩, hf⟩ }],
      orcT 12 [
        { args := [.one (.atom (.sym 1)), .one (.lit (.int .i64 (900)))], ans := .v (.one (.atom (.sym 3))), ok := by
            intro B ρ w S vs hS hr
            match vs, hr with
            | [u0, u1], ⟨z0, z1, _⟩ =>
              obtain ⟨rfl, _⟩ : u0 = _ ∧ _ := z0
              obtain ⟨rfl, _⟩ : u1 = _ ∧ _ := z1
              refine ((within3_900 w k k1 k2).mono (R' := fun e w' => e = .returned (.int .i64 (k % 900)) ∧ Fwd w w') (fun e w' gg => ⟨gg.1, gg.2 ▸ Fwd.refl _⟩)).mono ?_
              rintro e w' ⟨rfl, hf⟩
              exact ⟨_, rfl, ⟨rfl, fun _ h => absurd h (by decide)⟩, hf⟩ },
        { args := [.one (.atom (.sym 2)), .one (.lit (.int .i64 (5)))], ans := .v (.one (.atom (.sym 4))), ok := by
            intro B ρ w S vs hS hr
            match vs, hr with
            | [u0, u1], ⟨z0, z1, _⟩ =>
              obtain ⟨rfl, _⟩ : u0 = _ ∧ _ := z0
              obtain ⟨rfl, _⟩ : u1 = _ ∧ _ := z1
              refine ((within3_5 w mode o1 o2).mono (R' := fun e w' => e = .returned (.int .i64 (mode % 5)) ∧ Fwd w w') (fun e w' gg => ⟨gg.1, gg.2 ▸ Fwd.refl _⟩)).mono ?_
              rintro e w' ⟨rfl, hf⟩
              exact ⟨_, rfl, ⟨rfl, fun _ h => absurd h (by decide)⟩, hf⟩ }],
      orcT 10 [
        { args := [.one (.atom (.num (.v 10))), .one (.atom (.sym 3))], ans := .v (.one (.atom (.num (.v 11)))), ok := by
            intro B ρ w S vs hS hr
            match vs, hr with
            | [u0, u1], ⟨z0, z1, _⟩ =>
              have k0 : Num w u0 _ := z0.2
              obtain ⟨rfl, _⟩ : u1 = _ ∧ _ := z1
              refine (cS _ _ k0).mono ?_
              rintro e w' ⟨v, rfl, g0, hf⟩
              exact ⟨_, rfl, ⟨rfl, g0⟩, hf⟩ }],
      orcT 9 [
        { args := [.one (.lit (.bool false)), .one (.atom (.num (.v 11))), .one (.atom (.num (.v 10)))], ans := .tup [avQ (.v 1), .one (.lit (.int .i64 (0)))], ok := by
            intro B ρ w S vs hS hr
            match vs, hr with
            | [u0, u1, u2], ⟨z0, z1, z2, _⟩ =>
              obtain ⟨rfl, _⟩ : u0 = _ ∧ _ := z0
              have k1 : Num w u1 _ := z1.2
              have k2 : Num w u2 _ := z2.2
              refine (make2_any (N := (2 ^ (k % 900).toNat)) (D := 1) false k1 k2 (by omega) (by have := nl_two' (n := 1) (by decide); omega) (by omega)).mono ?_
              rintro e w' ⟨v, rfl, g0, hf⟩
              exact ⟨_, rfl, ⟨[_, _], rfl, (avQ_rel g0), ⟨rfl, rfl⟩, trivial⟩, hf⟩ }],
      orcT 48 [
        { args := [avQ (.v 0), avQ (.v 1)], ans := .tup [avQ (.v 3), .one (.lit (.int .i64 (0)))], ok := by
            intro B ρ w S vs hS hr
            match vs, hr with
            | [u0, u1], ⟨z0, z1, _⟩ =>
              have k0 := avQ_rv z0
              have k1 := avQ_rv z1
              refine (quo2_any (p := q) (q := mkQ false (2 ^ (k % 900).toNat) 1) k0 k1 (by omega) (by omega) hU0).mono ?_
              rintro e w' ⟨v, rfl, g0, hf⟩
              exact ⟨_, rfl, ⟨[_, _], rfl, (avQ_rel g0), ⟨rfl, rfl⟩, trivial⟩, hf⟩ }],
      orcT 16 [
        { args := [avQ (.v 3), .one (.lit (.int .i64 (2)))], ans := .tup [.one (.atom (.sym 5)), .one (.lit (.int .i64 (0)))], ok := by
            intro B ρ w S vs hS hr
            match vs, hr with
            | [u0, u1], ⟨z0, z1, _⟩ =>
              have k0 := avQ_rv z0
              obtain ⟨rfl, _⟩ : u1 = _ ∧ _ := z1
              refine (cOf _ _ 2 lo g2 (ru_of hS) k0).mono ?_
              rintro e w' ⟨rfl, hf⟩
              exact ⟨_, rfl, ⟨[_, _], rfl, ⟨rfl, fun _ h => absurd h (by decide)⟩, ⟨rfl, rfl⟩, trivial⟩, hf⟩ },
        { args := [avQ (.v 3), .one (.lit (.int .i64 (3)))], ans := .tup [.one (.atom (.sym 6)), .one (.lit (.int .i64 (0)))], ok := by
            intro B ρ w S vs hS hr
            match vs, hr with
            | [u0, u1], ⟨z0, z1, _⟩ =>
              have k0 := avQ_rv z0
              obtain ⟨rfl, _⟩ : u1 = _ ∧ _ := z1
              refine (cOf _ _ 3 hi g3 (ru_of hS) k0).mono ?_
              rintro e w' ⟨rfl, hf⟩
              exact ⟨_, rfl, ⟨[_, _], rfl, ⟨rfl, fun _ h => absurd h (by decide)⟩, ⟨rfl, rfl⟩, trivial⟩, hf⟩ },
        { args := [avQ (.v 3), .one (.atom (.sym 4))], ans := .tup [.one (.atom (.sym 7)), .one (.lit (.int .i64 (0)))], ok := by
            intro B ρ w S vs hS hr
            match vs, hr with
            | [u0, u1], ⟨z0, z1, _⟩ =>
              have k0 := avQ_rv z0
              obtain ⟨rfl, _⟩ : u1 = _ ∧ _ := z1
              refine (cOf _ _ (mode % 5) mm gm (ru_of hS) k0).mono ?_
              rintro e w' ⟨rfl, hf⟩
              exact ⟨_, rfl, ⟨[_, _], rfl, ⟨rfl, fun _ h => absurd h (by decide)⟩, ⟨rfl, rfl⟩, trivial⟩, hf⟩ }],
      orcT 17 [
        { args := [.one (.atom (.sym 5))], ans := .tup [avQ (.v 4), .one (.lit (.int .i64 (0)))], ok := by
            intro B ρ w S vs hS hr
            match vs, hr with
            | [u0], ⟨z0, _⟩ =>
              obtain ⟨rfl, _⟩ : u0 = _ ∧ _ := z0
              refine (refRat_any lo hlo flo).mono ?_
              rintro e w' ⟨v, rfl, g0, hf⟩
              exact ⟨_, rfl, ⟨[_, _], rfl, (avQ_rel g0), ⟨rfl, rfl⟩, trivial⟩, hf⟩ },
        { args := [.one (.atom (.sym 6))], ans := .tup [avQ (.v 5), .one (.lit (.int .i64 (0)))], ok := by
            intro B ρ w S vs hS hr
            match vs, hr with
            | [u0], ⟨z0, _⟩ =>
              obtain ⟨rfl, _⟩ : u0 = _ ∧ _ := z0
              refine (refRat_any hi hhi fhi).mono ?_
              rintro e w' ⟨v, rfl, g0, hf⟩
              exact ⟨_, rfl, ⟨[_, _], rfl, (avQ_rel g0), ⟨rfl, rfl⟩, trivial⟩, hf⟩ }],
      orcT 18 [
        { args := [avQ (.v 4), avQ (.v 3)], ans := .v (.one (.atom (.sym 8))), ok := by
            intro B ρ w S vs hS hr
            match vs, hr with
            | [u0, u1], ⟨z0, z1, _⟩ =>
              have k0 := avQ_rv z0
              have k1 := avQ_rv z1
              refine (cmp2n (p := fvQ lo) (q := (q / mkQ false (2 ^ (k % 900).toNat) 1)) k0 k1 (by omega) (by omega)).mono ?_
              rintro e w' ⟨rfl, hf⟩
              exact ⟨_, rfl, ⟨rfl, fun _ h => absurd h (by decide)⟩, hf⟩ },
        { args := [avQ (.v 3), avQ (.v 5)], ans := .v (.one (.atom (.sym 9))), ok := by
            intro B ρ w S vs hS hr
            match vs, hr with
            | [u0, u1], ⟨z0, z1, _⟩ =>
              have k0 := avQ_rv z0
              have k1 := avQ_rv z1
              refine (cmp2n (p := (q / mkQ false (2 ^ (k % 900).toNat) 1)) (q := fvQ hi) k0 k1 (by omega) (by omega)).mono ?_
              rintro e w' ⟨rfl, hf⟩
              exact ⟨_, rfl, ⟨rfl, fun _ h => absurd h (by decide)⟩, hf⟩ }],
      orcT 19 [
        { args := [avQ (.v 4), avQ (.v 5)], ans := .v (.one (.lit (.bool true))), ok := by
            intro B ρ w S vs hS hr
            match vs, hr with
            | [u0, u1], ⟨z0, z1, _⟩ =>
              have k0 := avQ_rv z0
              have k1 := avQ_rv z1
              refine (cSa _ _ _ k0 k1).mono ?_
              rintro e w' ⟨rfl, hf⟩
              exact ⟨_, rfl, ⟨rfl, rfl⟩, hf⟩ }]], rfl⟩
    (opH_le (bigHook_le _ _) (opH_le (symHook_le _ _ _) (tabHook_le _ _)))
    (opH_ok (bigHook_ok _) (opH_ok (symHook_ok _ (fun h => by cases h) (fun h => by cases h)) (tabHook_ok _ (all_cons (BOk.mk rfl rfl rfl (fun i hi w h => by first | (cases hi; done) | (cases hi; exact absurd h (by decide))) rfl rfl (bo_remI k k1 k2)) (all_cons (BOk.mk rfl rfl rfl (fun i hi w h => by first | (cases hi; done) | (cases hi; exact absurd h (by decide))) rfl rfl (bo_eql hev)) (all_cons (BOk.mk rfl rfl rfl (fun i hi w h => by first | (cases hi; done) | (cases hi; exact absurd h (by decide))) rfl rfl (bo_gtr (by rw [cmpQ_above]; exact decide_eq_false (by grind)))) (all_cons (BOk.mk rfl rfl rfl (fun i hi w h => by first | (cases hi; done) | (cases hi; exact absurd h (by decide))) rfl rfl (bo_gtr (by rw [cmpQ_above]; exact decide_eq_false (by grind)))) (all_cons (BOk.mk rfl rfl rfl (fun i hi w h => by first | (cases hi; done) | (cases hi; exact absurd h (by decide))) rfl rfl (bo_neq (by rw [← e1, Bool.not_not]; exact decide_eq_decide.2 Int.natCast_inj))) (all_cons (BOk.mk rfl rfl rfl (fun i hi w h => by first | (cases hi; done) | (cases hi; exact absurd h (by decide))) rfl rfl (bo_neq (by rw [← e2, Bool.not_not]; exact decide_eq_decide.2 Int.natCast_inj))) (all_cons (BOk.mk rfl rfl rfl (fun i hi w h => by first | (cases hi; done) | (cases hi; exact absurd h (by decide))) rfl rfl (bo_eql (by rw [hE2]; simp))) all_nil))))))) all_nil)))
  refine (told_call (M := (DomQ true ν σ ruG)) (cx := ⟨Tryd.prog, true, t.get, orcD (lbtoE0D ml mh), (opH (bigHook Tryd.prog true) (opH (symHook Tryd.prog lbtoE0N (fun _ _ _ => none)) (tabHook (lbtoE0L ml mh) lbtoE0M)))⟩) (xs := [.agg [.atom (.sym 0), .atom (.sym 100), .atom (.sym 101)], .one (.atom (.sym 1)), .one (.atom (.sym 2))]) (vs := [.agg #[.bool s, vN, vD], .int .i64 k, .int .i64 mode]) Tryd.checked.mixed hcx (fun hg => ruG_ok hR hg) ⟨⟨[.bool s, vN, vD], rfl, ⟨rfl, fun _ h => absurd h (by decide)⟩, ⟨rfl, fun _ h => absurd h (by decide)⟩, ⟨rfl, fun _ _ => ⟨rN, rD⟩⟩, trivial⟩, ⟨rfl, fun _ h => absurd h (by decide)⟩, ⟨rfl, fun _ h => absurd h (by decide)⟩, trivial⟩ he).mono ?_
  rintro e w' ⟨v, ρ', rfl, hv, hbel⟩
  obtain ⟨rfl, _⟩ : v = _ ∧ _ := hv
  exact ⟨rfl, hbel⟩

def lbtoX1D (ml : Bool) (mh : Bool) : List (FuncId × Ans) :=
  [(8, ansT [([], .v (.one (.lit (.bool true))))]),
   (13, ansT [([.agg [.atom (.sym 0), .atom (.sym 100), .atom (.sym 101)]], .v (avQ (.v 0)))]),
   (11, ansT [([.one (.lit (.int .u64 1))], .v (.one (.atom (.num (.v 10)))))]),
   (12, ansT [([.one (.atom (.sym 1)), .one (.lit (.int .i64 (900)))], .v (.one (.atom (.sym 3)))), ([.one (.atom (.sym 2)), .one (.lit (.int .i64 (5)))], .v (.one (.atom (.sym 4))))]),
   (10, ansT [([.one (.atom (.num (.v 10))), .one (.atom (.sym 3))], .v (.one (.atom (.num (.v 11)))))]),
   (9, ansT [([.one (.lit (.bool false)), .one (.atom (.num (.v 11))), .one (.atom (.num (.v 10)))], .tup [avQ (.v 1), .one (.lit (.int .i64 (0)))])]),
   (48, ansT [([avQ (.v 0), avQ (.v 1)], .tup [avQ (.v 3), .one (.lit (.int .i64 (0)))])]),
   (16, ansT [([avQ (.v 3), .one (.lit (.int .i64 (2)))], .tup [.one (.atom (.sym 5)), .one (.lit (.int .i64 (1)))]), ([avQ (.v 3), .one (.lit (.int .i64 (3)))], .tup [.one (.atom (.sym 6)), .one (.lit (.int .i64 (1)))]), ([avQ (.v 3), .one (.atom (.sym 4))], .tup [.one (.atom (.sym 7)), .one (.lit (.int .i64 (1)))])]),
   (17, ansT [([.one (.atom (.sym 5))], .tup [avQ (.v 4), .one (.lit (.int .i64 (0)))]), ([.one (.atom (.sym 6))], .tup [avQ (.v 5), .one (.lit (.int .i64 (0)))])]),
   (18, ansT [([avQ (.v 4), avQ (.v 3)], .v (.one (.atom (.sym 8)))), ([avQ (.v 3), avQ (.v 5)], .v (.one (.atom (.sym 9))))]),
   (19, ansT [([avQ (.v 4), avQ (.v 5)], .v (.one (.lit (.bool false))))]),
   (20, ansT [([.one (.atom (.sym 5)), .one (.lit (.bool true))], .v (.one (.atom (.sym 6))))])]
def lbtoX1L (ml : Bool) (mh : Bool) : BT := [(.rem, .atom (.sym 1), .lit (.int .i64 (2)), .atom (.sym 10)), (.eql, .atom (.sym 10), .lit (.int .i64 (0)), .lit (.bool false)), (.gtr, .atom (.sym 8), .lit (.int .i64 (0)), .lit (.bool false)), (.gtr, .atom (.sym 9), .lit (.int .i64 (0)), .lit (.bool false)), (.neq, .atom (.sym 7), .atom (.sym 5), .lit (.bool (!ml))), (.neq, .atom (.sym 7), .atom (.sym 6), .lit (.bool (!mh))), (.eql, .atom (.sym 6), .atom (.sym 6), .lit (.bool true))]
def lbtoX1M : BT := []
def lbtoX1N : At → Option Nat
  | _ => none

set_option maxRecDepth 1000000 in
theorem lbtoX1Told : ∃ t : Tr Func, TabOK Tryd.prog t ∧ (∀ ml mh : Bool, (ml || mh) = true → isAV (.v (.one (.lit (.bool true)))) (evalCall ⟨Tryd.prog, true, t.get, orcD (lbtoX1D ml mh), (opH (bigHook Tryd.prog true) (opH (symHook Tryd.prog lbtoX1N (fun _ _ _ => none)) (tabHook (lbtoX1L ml mh) lbtoX1M)))⟩ 1000 3 [.agg [.atom (.sym 0), .atom (.sym 100), .atom (.sym 101)], .one (.atom (.sym 1)), .one (.atom (.sym 2))] .e 0) = true) :=
  ⟨((((((((((((((Tr.e).put 3 (some Tryd.f3)).put 15 (some Tryd.f15)).put 8 (some Tryd.f8)).put 13 (some Tryd.f13)).put 11 (some Tryd.f11)).put 12 (some Tryd.f12)).put 10 (some Tryd.f10)).put 9 (some Tryd.f9)).put 48 (some Tryd.f48)).put 16 (some Tryd.f16)).put 17 (some Tryd.f17)).put 18 (some Tryd.f18)).put 19 (some Tryd.f19)).put 20 (some Tryd.f20),
   (TabOK.put (TabOK.put (TabOK.put (TabOK.put (TabOK.put (TabOK.put (TabOK.put (TabOK.put (TabOK.put (TabOK.put (TabOK.put (TabOK.put (TabOK.put (TabOK.put (TabOK.e _) ⟨Tryd.func3, by decide +kernel, by decide +kernel⟩) ⟨Tryd.func15, by decide +kernel, by decide +kernel⟩) ⟨Tryd.func8, by decide +kernel, by decide +kernel⟩) ⟨Tryd.func13, by decide +kernel, by decide +kernel⟩) ⟨Tryd.func11, by decide +kernel, by decide +kernel⟩) ⟨Tryd.func12, by decide +kernel, by decide +kernel⟩) ⟨Tryd.func10, by decide +kernel, by decide +kernel⟩) ⟨Tryd.func9, by decide +kernel, by decide +kernel⟩) ⟨Tryd.func48, by decide +kernel, by decide +kernel⟩) ⟨Tryd.func16, by decide +kernel, by decide +kernel⟩) ⟨Tryd.func17, by decide +kernel, by decide +kernel⟩) ⟨Tryd.func18, by decide +kernel, by decide +kernel⟩) ⟨Tryd.func19, by decide +kernel, by decide +kernel⟩) ⟨Tryd.func20, by decide +kernel, by decide +kernel⟩),
   by decide +kernel⟩

set_option maxHeartbeats 4000000 in
set_option maxRecDepth 100000 in
theorem lbtoX1_tab {w : World} (hR : Ru w) {vN vD : Value} {s : Bool} {xs ys : List Nat} {q : Rat} (rN : Rd w vN xs) (rD : Rd w vD ys) (hq : q = rawQ s xs ys) (bq : nr q ≤ 3) (k mode : Int)
    (k1 : -9223372036854775808 ≤ k) (k2 : k ≤ 9223372036854775807) (o1 : -9223372036854775808 ≤ mode) (o2 : mode ≤ 9223372036854775807) (hev : decide (k.tmod 2 = 0) = false) {lo hi mm : Nat} {ml mh : Bool}
    (g2 : ofN 2 (q / mkQ false (2 ^ (k % 900).toNat) 1) = (lo, 1)) (g3 : ofN 3 (q / mkQ false (2 ^ (k % 900).toNat) 1) = (hi, 1)) (gm : ofN (mode % 5) (q / mkQ false (2 ^ (k % 900).toNat) 1) = (mm, 1)) (hlo : lo < 18446744073709551616) (hhi : hi < 18446744073709551616) (flo : fsz lo < 9218868437227405312) (fhi : fsz hi < 9218868437227405312) (c1 : fvQ lo ≤ (q / mkQ false (2 ^ (k % 900).toNat) 1)) (c2 : (q / mkQ false (2 ^ (k % 900).toNat) 1) ≤ fvQ hi)
    (e1 : decide (mm = lo) = ml) (e2 : decide (mm = hi) = mh) (hml : (ml || mh) = true) (hE : fvQ lo ≠ fvQ hi) (hE2 : nxF lo true = hi) :
    Calls Tryd.prog 3 #[.agg #[.bool s, vN, vD], .int .i64 k, .int .i64 mode] w fun e w' => e = .returned (.bool true) ∧ Below w.heap.size w w' := by
  have cM : ∀ (w : World), Rd w vN xs → Rd w vD ys → Calls Tryd.prog 13 #[.agg #[.bool s, vN, vD]] w fun e w' => ∃ v, e = .returned v ∧ RV w' v q ∧ Fwd w w' := fun w h1 h2 => by
    have := make2law_any (w := w) (a := .agg #[.bool s, vN, vD]) (s := s) (xs := xs) (ys := ys) ⟨vN, vD, rfl, h1, h2⟩; rwa [← hq] at this
  have hk1 : (k % 900).toNat < 900 := by omega
  have hk2 : (((k % 900).toNat : Nat) : Int) = k % 900 := by omega
  have bP : nl (2 ^ (k % 900).toNat) ≤ 37 := by have := nl_shl 1 (k % 900).toNat; rw [Nat.one_mul] at this; have := nl_two' (n := 1) (by decide); omega
  have hP0 : (2 ^ (k % 900).toNat) ≠ 0 := by have := Nat.two_pow_pos (k % 900).toNat; omega
  have bU : nr (mkQ false (2 ^ (k % 900).toNat) 1) ≤ 37 := by have := nr_mkQ false (2 ^ (k % 900).toNat) 1 (by omega); have := nl_two' (n := 1) (by decide); omega
  have hU0 : mkQ false (2 ^ (k % 900).toNat) 1 ≠ 0 := fun h => by have := mkQ_abs (neg := false) (n := (2 ^ (k % 900).toNat)) (d := 1) (by omega); rw [h, Nat.gcd_one_right, Nat.div_one] at this; exact hP0 this.symm
  have bX := nr_div (a := q) hU0
  have bl := nr_fvQ1 flo
  have bh := nr_fvQ1 fhi
  have cS : ∀ (w : World) (u : Value), Num w u 1 → Calls Tryd.prog 10 #[u, .int .i64 (k % 900)] w fun e w' => ∃ x, e = .returned x ∧ Num w' x (2 ^ (k % 900).toNat) ∧ Fwd w w' := fun w u h => by
    have := refShl_any (k % 900).toNat h (by have := nl_two' (n := 1) (by decide); omega) (by omega); rw [hk2, Nat.one_mul] at this; exact this
  have cOf : ∀ (w : World) (u : Value) (m : Int) (z : Nat), ofN m (q / mkQ false (2 ^ (k % 900).toNat) 1) = (z, 1) → Ru w → RV w u (q / mkQ false (2 ^ (k % 900).toNat) 1) → Calls Tryd.prog 16 #[u, .int .i64 m] w fun e w' => e = .returned (.tuple #[.int .u64 (z : Int), .int .i64 1]) ∧ Fwd w w' := fun w u m z hz hR hv => by
    have := ofP_any hR m hv (by omega); rw [hz] at this; exact this
  have cSa : ∀ (w : World) (u v : Value), RV w u (fvQ lo) → RV w v (fvQ hi) → Calls Tryd.prog 19 #[u, v] w fun e w' => e = .returned (.bool false) ∧ Fwd w w' := fun w u v h h' => by
    have := same2_num h h' (by omega) (by omega); rwa [decide_eq_false hE] at this
  obtain ⟨t, ht, hr⟩ := lbtoX1Told
  obtain ⟨dl, n', he⟩ := isAV_ok (hr ml mh hml)
  let ν : Nat → Rat := nuL [q, mkQ false (2 ^ (k % 900).toNat) 1, 0, (q / mkQ false (2 ^ (k % 900).toNat) 1), fvQ lo, fvQ hi] [1, (2 ^ (k % 900).toNat)]
  let σ : SymD := symR [.b s, .i k, .i mode, .i (k % 900), .i (mode % 5), .u lo, .u hi, .u mm, .i (cmpQ (fvQ lo) (q / mkQ false (2 ^ (k % 900).toNat) 1)), .i (cmpQ (q / mkQ false (2 ^ (k % 900).toNat) 1) (fvQ hi)), .i (k.tmod 2)] vN vD xs ys (rdC rN) (rdC rD)
  have hcx : CxOK (DomQ true ν σ ruG) w.heap.size ⟨Tryd.prog, true, t.get, orcD (lbtoX1D ml mh), (opH (bigHook Tryd.prog true) (opH (symHook Tryd.prog lbtoX1N (fun _ _ _ => none)) (tabHook (lbtoX1L ml mh) lbtoX1M)))⟩ := cxS_ok (M := (DomQ true ν σ ruG)) ht ⟨[
      orcT 8 [
        { args := [], ans := .v (.one (.lit (.bool true))), ok := by
            intro B ρ w S vs hS hr
            match vs, hr with
            | [], _ =>
              skip
              refine (known3_any (ru_of hS)).mono ?_
              rintro e w' ⟨rfl, hf⟩
              exact ⟨_, rfl, ⟨rfl, rfl⟩, hf⟩ }],
      orcT 13 [
        { args := [.agg [.atom (.sym 0), .atom (.sym 100), .atom (.sym 101)]], ans := .v (avQ (.v 0)), ok := by
            intro B ρ w S vs hS hr
            match vs, hr with
            | [u0], ⟨z0, _⟩ =>
              obtain ⟨us0, rfl, y0⟩ := z0
              match us0, y0 with
              | [v0_0, v0_1, v0_2], ⟨y0_0, y0_1, y0_2, _⟩ =>
              obtain ⟨rfl, f0_0⟩ : v0_0 = _ ∧ _ := y0_0
              obtain ⟨rfl, f0_1⟩ : v0_1 = _ ∧ _ := y0_1
              obtain ⟨rfl, f0_2⟩ : v0_2 = _ ∧ _ := y0_2
              refine (cM _ (f0_2 rfl rfl).1 (f0_2 rfl rfl).2).mono ?_
              rintro e w' ⟨v, rfl, g0, hf⟩
              exact ⟨_, rfl, (avQ_rel g0), hf⟩ }],
      orcT 11 [
        { args := [.one (.lit (.int .u64 1))], ans := .v (.one (.atom (.num (.v 10)))), ok := by
            intro B ρ w S vs hS hr
            match vs, hr with
            | [u0], ⟨z0, _⟩ =>
              obtain ⟨rfl, _⟩ : u0 = _ ∧ _ := z0
              refine (refOf_any w 1 (by decide)).mono ?_
              rintro e w' ⟨v, rfl, g0, hf⟩
              exact ⟨_, rfl, ⟨rfl, g0⟩, hf⟩ }],
      orcT 12 [
        { args := [.one (.atom (.sym 1)), .one (.lit (.int .i64 (900)))], ans := .v (.one (.atom (.sym 3))), ok := by
            intro B ρ w S vs hS hr
            match vs, hr with
            | [u0, u1], ⟨z0, z1, _⟩ =>
              obtain ⟨rfl, _⟩ : u0 = _ ∧ _ := z0
              obtain ⟨rfl, _⟩ : u1 = _ ∧ _ := z1
              refine ((within3_900 w k k1 k2).mono (R' := fun e w' => e = .returned (.int .i64 (k % 900)) ∧ Fwd w w') (fun e w' gg => ⟨gg.1, gg.2 ▸ Fwd.refl _⟩)).mono ?_
              rintro e w' ⟨rfl, hf⟩
              exact ⟨_, rfl, ⟨rfl, fun _ h => absurd h (by decide)⟩, hf⟩ },
        { args := [.one (.atom (.sym 2)), .one (.lit (.int .i64 (5)))], ans := .v (.one (.atom (.sym 4))), ok := by
            intro B ρ w S vs hS hr
            match vs, hr with
            | [u0, u1], ⟨z0, z1, _⟩ =>
              obtain ⟨rfl, _⟩ : u0 = _ ∧ _ := z0
              obtain ⟨rfl, _⟩ : u1 = _ ∧ _ := z1
              refine ((within3_5 w mode o1 o2).mono (R' := fun e w' => e = .returned (.int .i64 (mode % 5)) ∧ Fwd w w') (fun e w' gg => ⟨gg.1, gg.2 ▸ Fwd.refl _⟩)).mono ?_
              rintro e w' ⟨rfl, hf⟩
              exact ⟨_, rfl, ⟨rfl, fun _ h => absurd h (by decide)⟩, hf⟩ }],
      orcT 10 [
        { args := [.one (.atom (.num (.v 10))), .one (.atom (.sym 3))], ans := .v (.one (.atom (.num (.v 11)))), ok := by
            intro B ρ w S vs hS hr
            match vs, hr with
            | [u0, u1], ⟨z0, z1, _⟩ =>
              have k0 : Num w u0 _ := z0.2
              obtain ⟨rfl, _⟩ : u1 = _ ∧ _ := z1
              refine (cS _ _ k0).mono ?_
              rintro e w' ⟨v, rfl, g0, hf⟩
              exact ⟨_, rfl, ⟨rfl, g0⟩, hf⟩ }],
      orcT 9 [
        { args := [.one (.lit (.bool false)), .one (.atom (.num (.v 11))), .one (.atom (.num (.v 10)))], ans := .tup [avQ (.v 1), .one (.lit (.int .i64 (0)))], ok := by
            intro B ρ w S vs hS hr
            match vs, hr with
            | [u0, u1, u2], ⟨z0, z1, z2, _⟩ =>
              obtain ⟨rfl, _⟩ : u0 = _ ∧ _ := z0
              have k1 : Num w u1 _ := z1.2
              have k2 : Num w u2 _ := z2.2
              refine (make2_any (N := (2 ^ (k % 900).toNat)) (D := 1) false k1 k2 (by omega) (by have := nl_two' (n := 1) (by decide); omega) (by omega)).mono ?_
              rintro e w' ⟨v, rfl, g0, hf⟩
              exact ⟨_, rfl, ⟨[_, _], rfl, (avQ_rel g0), ⟨rfl, rfl⟩, trivial⟩, hf⟩ }],
      orcT 48 [
        { args := [avQ (.v 0), avQ (.v 1)], ans := .tup [avQ (.v 3), .one (.lit (.int .i64 (0)))], ok := by
            intro B ρ w S vs hS hr
            match vs, hr with
            | [u0, u1], ⟨z0, z1, _⟩ =>
              have k0 := avQ_rv z0
              have k1 := avQ_rv z1
              refine (quo2_any (p := q) (q := mkQ false (2 ^ (k % 900).toNat) 1) k0 k1 (by omega) (by omega) hU0).mono ?_
              rintro e w' ⟨v, rfl, g0, hf⟩
              exact ⟨_, rfl, ⟨[_, _], rfl, (avQ_rel g0), ⟨rfl, rfl⟩, trivial⟩, hf⟩ }],
      orcT 16 [
        { args := [avQ (.v 3), .one (.lit (.int .i64 (2)))], ans := .tup [.one (.atom (.sym 5)), .one (.lit (.int .i64 (1)))], ok := by
            intro B ρ w S vs hS hr
            match vs, hr with
            | [u0, u1], ⟨z0, z1, _⟩ =>
              have k0 := avQ_rv z0
              obtain ⟨rfl, _⟩ : u1 = _ ∧ _ := z1
              refine (cOf _ _ 2 lo g2 (ru_of hS) k0).mono ?_
              rintro e w' ⟨rfl, hf⟩
              exact ⟨_, rfl, ⟨[_, _], rfl, ⟨rfl, fun _ h => absurd h (by decide)⟩, ⟨rfl, rfl⟩, trivial⟩, hf⟩ },
        { args := [avQ (.v 3), .one (.lit (.int .i64 (3)))], ans := .tup [.one (.atom (.sym 6)), .one (.lit (.int .i64 (1)))], ok := by
            intro B ρ w S vs hS hr
            match vs, hr with
            | [u0, u1], ⟨z0, z1, _⟩ =>
              have k0 := avQ_rv z0
              obtain ⟨rfl, _⟩ : u1 = _ ∧ _ := z1
              refine (cOf _ _ 3 hi g3 (ru_of hS) k0).mono ?_
              rintro e w' ⟨rfl, hf⟩
              exact ⟨_, rfl, ⟨[_, _], rfl, ⟨rfl, fun _ h => absurd h (by decide)⟩, ⟨rfl, rfl⟩, trivial⟩, hf⟩ },
        { args := [avQ (.v 3), .one (.atom (.sym 4))], ans := .tup [.one (.atom (.sym 7)), .one (.lit (.int .i64 (1)))], ok := by
            intro B ρ w S vs hS hr
            match vs, hr with
            | [u0, u1], ⟨z0, z1, _⟩ =>
              have k0 := avQ_rv z0
              obtain ⟨rfl, _⟩ : u1 = _ ∧ _ := z1
              refine (cOf _ _ (mode % 5) mm gm (ru_of hS) k0).mono ?_
              rintro e w' ⟨rfl, hf⟩
              exact ⟨_, rfl, ⟨[_, _], rfl, ⟨rfl, fun _ h => absurd h (by decide)⟩, ⟨rfl, rfl⟩, trivial⟩, hf⟩ }],
      orcT 17 [
        { args := [.one (.atom (.sym 5))], ans := .tup [avQ (.v 4), .one (.lit (.int .i64 (0)))], ok := by
            intro B ρ w S vs hS hr
            match vs, hr with
            | [u0], ⟨z0, _⟩ =>
              obtain ⟨rfl, _⟩ : u0 = _ ∧ _ := z0
              refine (refRat_any lo hlo flo).mono ?_
              rintro e w' ⟨v, rfl, g0, hf⟩
              exact ⟨_, rfl, ⟨[_, _], rfl, (avQ_rel g0), ⟨rfl, rfl⟩, trivial⟩, hf⟩ },
        { args := [.one (.atom (.sym 6))], ans := .tup [avQ (.v 5), .one (.lit (.int .i64 (0)))], ok := by
            intro B ρ w S vs hS hr
            match vs, hr with
            | [u0], ⟨z0, _⟩ =>
              obtain ⟨rfl, _⟩ : u0 = _ ∧ _ := z0
              refine (refRat_any hi hhi fhi).mono ?_
              rintro e w' ⟨v, rfl, g0, hf⟩
              exact ⟨_, rfl, ⟨[_, _], rfl, (avQ_rel g0), ⟨rfl, rfl⟩, trivial⟩, hf⟩ }],
      orcT 18 [
        { args := [avQ (.v 4), avQ (.v 3)], ans := .v (.one (.atom (.sym 8))), ok := by
            intro B ρ w S vs hS hr
            match vs, hr with
            | [u0, u1], ⟨z0, z1, _⟩ =>
              have k0 := avQ_rv z0
              have k1 := avQ_rv z1
              refine (cmp2n (p := fvQ lo) (q := (q / mkQ false (2 ^ (k % 900).toNat) 1)) k0 k1 (by omega) (by omega)).mono ?_
              rintro e w' ⟨rfl, hf⟩
              exact ⟨_, rfl, ⟨rfl, fun _ h => absurd h (by decide)⟩, hf⟩ },
        { args := [avQ (.v 3), avQ (.v 5)], ans := .v (.one (.atom (.sym 9))), ok := by
            intro B ρ w S vs hS hr
            match vs, hr with
            | [u0, u1], ⟨z0, z1, _⟩ =>
              have k0 := avQ_rv z0
              have k1 := avQ_rv z1
              refine (cmp2n (p := (q / mkQ false (2 ^ (k % 900).toNat) 1)) (q := fvQ hi) k0 k1 (by omega) (by omega)).mono ?_
              rintro e w' ⟨rfl, hf⟩
              exact ⟨_, rfl, ⟨rfl, fun _ h => absurd h (by decide)⟩, hf⟩ }],
      orcT 19 [
        { args := [avQ (.v 4), avQ (.v 5)], ans := .v (.one (.lit (.bool false))), ok := by
            intro B ρ w S vs hS hr
            match vs, hr with
            | [u0, u1], ⟨z0, z1, _⟩ =>
              have k0 := avQ_rv z0
              have k1 := avQ_rv z1
              refine (cSa _ _ _ k0 k1).mono ?_
              rintro e w' ⟨rfl, hf⟩
              exact ⟨_, rfl, ⟨rfl, rfl⟩, hf⟩ }],
      orcT 20 [
        { args := [.one (.atom (.sym 5)), .one (.lit (.bool true))], ans := .v (.one (.atom (.sym 6))), ok := by
            intro B ρ w S vs hS hr
            match vs, hr with
            | [u0, u1], ⟨z0, z1, _⟩ =>
              obtain ⟨rfl, _⟩ : u0 = _ ∧ _ := z0
              obtain ⟨rfl, _⟩ : u1 = _ ∧ _ := z1
              refine ((next3_any (w := w) lo true hlo).mono (R' := fun e w' => e = .returned (.int .u64 (hi : Nat)) ∧ Fwd w w') (fun e w' gg => ⟨by rw [gg.1, hE2], gg.2 ▸ Fwd.refl _⟩)).mono ?_
              rintro e w' ⟨rfl, hf⟩
              exact ⟨_, rfl, ⟨rfl, fun _ h => absurd h (by decide)⟩, hf⟩ }]], rfl⟩
    (opH_le (bigHook_le _ _) (opH_le (symHook_le _ _ _) (tabHook_le _ _)))
    (opH_ok (bigHook_ok _) (opH_ok (symHook_ok _ (fun h => by cases h) (fun h => by cases h)) (tabHook_ok _ (all_cons (BOk.mk rfl rfl rfl (fun i hi w h => by first | (cases hi; done) | (cases hi; exact absurd h (by decide))) rfl rfl (bo_remI k k1 k2)) (all_cons (BOk.mk rfl rfl rfl (fun i hi w h => by first | (cases hi; done) | (cases hi; exact absurd h (by decide))) rfl rfl (bo_eql hev)) (all_cons (BOk.mk rfl rfl rfl (fun i hi w h => by first | (cases hi; done) | (cases hi; exact absurd h (by decide))) rfl rfl (bo_gtr (by rw [cmpQ_above]; exact decide_eq_false (by grind)))) (all_cons (BOk.mk rfl rfl rfl (fun i hi w h => by first | (cases hi; done) | (cases hi; exact absurd h (by decide))) rfl rfl (bo_gtr (by rw [cmpQ_above]; exact decide_eq_false (by grind)))) (all_cons (BOk.mk rfl rfl rfl (fun i hi w h => by first | (cases hi; done) | (cases hi; exact absurd h (by decide))) rfl rfl (bo_neq (by rw [← e1, Bool.not_not]; exact decide_eq_decide.2 Int.natCast_inj))) (all_cons (BOk.mk rfl rfl rfl (fun i hi w h => by first | (cases hi; done) | (cases hi; exact absurd h (by decide))) rfl rfl (bo_neq (by rw [← e2, Bool.not_not]; exact decide_eq_decide.2 Int.natCast_inj))) (all_cons (BOk.mk rfl rfl rfl (fun i hi w h => by first | (cases hi; done) | (cases hi; exact absurd h (by decide))) rfl rfl (bo_eql (by simp))) all_nil))))))) all_nil)))
  refine (told_call (M := (DomQ true ν σ ruG)) (cx := ⟨Tryd.prog, true, t.get, orcD (lbtoX1D ml mh), (opH (bigHook Tryd.prog true) (opH (symHook Tryd.prog lbtoX1N (fun _ _ _ => none)) (tabHook (lbtoX1L ml mh) lbtoX1M)))⟩) (xs := [.agg [.atom (.sym 0), .atom (.sym 100), .atom (.sym 101)], .one (.atom (.sym 1)), .one (.atom (.sym 2))]) (vs := [.agg #[.bool s, vN, vD], .int .i64 k, .int .i64 mode]) Tryd.checked.mixed hcx (fun hg => ruG_ok hR hg) ⟨⟨[.bool s, vN, vD], rfl, ⟨rfl, fun _ h => absurd h (by decide)⟩, ⟨rfl, fun _ h => absurd h (by decide)⟩, ⟨rfl, fun _ _ => ⟨rN, rD⟩⟩, trivial⟩, ⟨rfl, fun _ h => absurd h (by decide)⟩, ⟨rfl, fun _ h => absurd h (by decide)⟩, trivial⟩ he).mono ?_
  rintro e w' ⟨v, ρ', rfl, hv, hbel⟩
  obtain ⟨rfl, _⟩ : v = _ ∧ _ := hv
  exact ⟨rfl, hbel⟩

def lbtoX3D (ml : Bool) (mh : Bool) : List (FuncId × Ans) :=
  [(8, ansT [([], .v (.one (.lit (.bool true))))]),
   (13, ansT [([.agg [.atom (.sym 0), .atom (.sym 100), .atom (.sym 101)]], .v (avQ (.v 0)))]),
   (11, ansT [([.one (.lit (.int .u64 1))], .v (.one (.atom (.num (.v 10)))))]),
   (12, ansT [([.one (.atom (.sym 1)), .one (.lit (.int .i64 (900)))], .v (.one (.atom (.sym 3)))), ([.one (.atom (.sym 2)), .one (.lit (.int .i64 (5)))], .v (.one (.atom (.sym 4))))]),
   (10, ansT [([.one (.atom (.num (.v 10))), .one (.atom (.sym 3))], .v (.one (.atom (.num (.v 11)))))]),
   (9, ansT [([.one (.lit (.bool false)), .one (.atom (.num (.v 11))), .one (.atom (.num (.v 10)))], .tup [avQ (.v 1), .one (.lit (.int .i64 (0)))])]),
   (48, ansT [([avQ (.v 0), avQ (.v 1)], .tup [avQ (.v 3), .one (.lit (.int .i64 (0)))])]),
   (16, ansT [([avQ (.v 3), .one (.lit (.int .i64 (2)))], .tup [.one (.atom (.sym 5)), .one (.lit (.int .i64 (3)))]), ([avQ (.v 3), .one (.lit (.int .i64 (3)))], .tup [.one (.atom (.sym 6)), .one (.lit (.int .i64 (3)))]), ([avQ (.v 3), .one (.atom (.sym 4))], .tup [.one (.atom (.sym 7)), .one (.lit (.int .i64 (3)))])]),
   (17, ansT [([.one (.atom (.sym 5))], .tup [avQ (.v 4), .one (.lit (.int .i64 (0)))]), ([.one (.atom (.sym 6))], .tup [avQ (.v 5), .one (.lit (.int .i64 (0)))])]),
   (18, ansT [([avQ (.v 4), avQ (.v 3)], .v (.one (.atom (.sym 8)))), ([avQ (.v 3), avQ (.v 5)], .v (.one (.atom (.sym 9))))]),
   (19, ansT [([avQ (.v 4), avQ (.v 5)], .v (.one (.lit (.bool false))))]),
   (20, ansT [([.one (.atom (.sym 5)), .one (.lit (.bool true))], .v (.one (.atom (.sym 6))))])]
def lbtoX3L (ml : Bool) (mh : Bool) : BT := [(.rem, .atom (.sym 1), .lit (.int .i64 (2)), .atom (.sym 10)), (.eql, .atom (.sym 10), .lit (.int .i64 (0)), .lit (.bool false)), (.gtr, .atom (.sym 8), .lit (.int .i64 (0)), .lit (.bool false)), (.gtr, .atom (.sym 9), .lit (.int .i64 (0)), .lit (.bool false)), (.neq, .atom (.sym 7), .atom (.sym 5), .lit (.bool (!ml))), (.neq, .atom (.sym 7), .atom (.sym 6), .lit (.bool (!mh))), (.eql, .atom (.sym 6), .atom (.sym 6), .lit (.bool true))]
def lbtoX3M : BT := []
def lbtoX3N : At → Option Nat
  | _ => none

set_option maxRecDepth 1000000 in
theorem lbtoX3Told : ∃ t : Tr Func, TabOK Tryd.prog t ∧ (∀ ml mh : Bool, (ml || mh) = true → isAV (.v (.one (.lit (.bool true)))) (evalCall ⟨Tryd.prog, true, t.get, orcD (lbtoX3D ml mh), (opH (bigHook Tryd.prog true) (opH (symHook Tryd.prog lbtoX3N (fun _ _ _ => none)) (tabHook (lbtoX3L ml mh) lbtoX3M)))⟩ 1000 3 [.agg [.atom (.sym 0), .atom (.sym 100), .atom (.sym 101)], .one (.atom (.sym 1)), .one (.atom (.sym 2))] .e 0) = true) :=
  ⟨((((((((((((((Tr.e).put 3 (some Tryd.f3)).put 15 (some Tryd.f15)).put 8 (some Tryd.f8)).put 13 (some Tryd.f13)).put 11 (some Tryd.f11)).put 12 (some Tryd.f12)).put 10 (some Tryd.f10)).put 9 (some Tryd.f9)).put 48 (some Tryd.f48)).put 16 (some Tryd.f16)).put 17 (some Tryd.f17)).put 18 (some Tryd.f18)).put 19 (some Tryd.f19)).put 20 (some Tryd.f20),
   (TabOK.put (TabOK.put (TabOK.put (TabOK.put (TabOK.put (TabOK.put (TabOK.put (TabOK.put (TabOK.put (TabOK.put (TabOK.put (TabOK.put (TabOK.put (TabOK.put (TabOK.e _) ⟨Tryd.func3, by decide +kernel, by decide +kernel⟩) ⟨Tryd.func15, by decide +kernel, by decide +kernel⟩) ⟨Tryd.func8, by decide +kernel, by decide +kernel⟩) ⟨Tryd.func13, by decide +kernel, by decide +kernel⟩) ⟨Tryd.func11, by decide +kernel, by decide +kernel⟩) ⟨Tryd.func12, by decide +kernel, by decide +kernel⟩) ⟨Tryd.func10, by decide +kernel, by decide +kernel⟩) ⟨Tryd.func9, by decide +kernel, by decide +kernel⟩) ⟨Tryd.func48, by decide +kernel, by decide +kernel⟩) ⟨Tryd.func16, by decide +kernel, by decide +kernel⟩) ⟨Tryd.func17, by decide +kernel, by decide +kernel⟩) ⟨Tryd.func18, by decide +kernel, by decide +kernel⟩) ⟨Tryd.func19, by decide +kernel, by decide +kernel⟩) ⟨Tryd.func20, by decide +kernel, by decide +kernel⟩),
   by decide +kernel⟩

set_option maxHeartbeats 4000000 in
set_option maxRecDepth 100000 in
theorem lbtoX3_tab {w : World} (hR : Ru w) {vN vD : Value} {s : Bool} {xs ys : List Nat} {q : Rat} (rN : Rd w vN xs) (rD : Rd w vD ys) (hq : q = rawQ s xs ys) (bq : nr q ≤ 3) (k mode : Int)
    (k1 : -9223372036854775808 ≤ k) (k2 : k ≤ 9223372036854775807) (o1 : -9223372036854775808 ≤ mode) (o2 : mode ≤ 9223372036854775807) (hev : decide (k.tmod 2 = 0) = false) {lo hi mm : Nat} {ml mh : Bool}
    (g2 : ofN 2 (q / mkQ false (2 ^ (k % 900).toNat) 1) = (lo, 3)) (g3 : ofN 3 (q / mkQ false (2 ^ (k % 900).toNat) 1) = (hi, 3)) (gm : ofN (mode % 5) (q / mkQ false (2 ^ (k % 900).toNat) 1) = (mm, 3)) (hlo : lo < 18446744073709551616) (hhi : hi < 18446744073709551616) (flo : fsz lo < 9218868437227405312) (fhi : fsz hi < 9218868437227405312) (c1 : fvQ lo ≤ (q / mkQ false (2 ^ (k % 900).toNat) 1)) (c2 : (q / mkQ false (2 ^ (k % 900).toNat) 1) ≤ fvQ hi)
    (e1 : decide (mm = lo) = ml) (e2 : decide (mm = hi) = mh) (hml : (ml || mh) = true) (hE : fvQ lo ≠ fvQ hi) (hE2 : nxF lo true = hi) :
    Calls Tryd.prog 3 #[.agg #[.bool s, vN, vD], .int .i64 k, .int .i64 mode] w fun e w' => e = .returned (.bool true) ∧ Below w.heap.size w w' := by
  have cM : ∀ (w : World), Rd w vN xs → Rd w vD ys → Calls Tryd.prog 13 #[.agg #[.bool s, vN, vD]] w fun e w' => ∃ v, e = .returned v ∧ RV w' v q ∧ Fwd w w' := fun w h1 h2 => by
    have := make2law_any (w := w) (a := .agg #[.bool s, vN, vD]) (s := s) (xs := xs) (ys := ys) ⟨vN, vD, rfl, h1, h2⟩; rwa [← hq] at this
  have hk1 : (k % 900).toNat < 900 := by omega
  have hk2 : (((k % 900).toNat : Nat) : Int) = k % 900 := by omega
  have bP : nl (2 ^ (k % 900).toNat) ≤ 37 := by have := nl_shl 1 (k % 900).toNat; rw [Nat.one_mul] at this; have := nl_two' (n := 1) (by decide); omega
  have hP0 : (2 ^ (k % 900).toNat) ≠ 0 := by have := Nat.two_pow_pos (k % 900).toNat; omega
  have bU : nr (mkQ false (2 ^ (k % 900).toNat) 1) ≤ 37 := by have := nr_mkQ false (2 ^ (k % 900).toNat) 1 (by omega); have := nl_two' (n := 1) (by decide); omega
  have hU0 : mkQ false (2 ^ (k % 900).toNat) 1 ≠ 0 := fun h => by have := mkQ_abs (neg := false) (n := (2 ^ (k % 900).toNat)) (d := 1) (by omega); rw [h, Nat.gcd_one_right, Nat.div_one] at this; exact hP0 this.symm
  have bX := nr_div (a := q) hU0
  have bl := nr_fvQ1 flo
  have bh := nr_fvQ1 fhi
  have cS : ∀ (w : World) (u : Value), Num w u 1 → Calls Tryd.prog 10 #[u, .int .i64 (k % 900)] w fun e w' => ∃ x, e = .returned x ∧ Num w' x (2 ^ (k % 900).toNat) ∧ Fwd w w' := fun w u h => by
    have := refShl_any (k % 900).toNat h (by have := nl_two' (n := 1) (by decide); omega) (by omega); rw [hk2, Nat.one_mul] at this; exact this
  have cOf : ∀ (w : World) (u : Value) (m : Int) (z : Nat), ofN m (q / mkQ false (2 ^ (k % 900).toNat) 1) = (z, 3) → Ru w → RV w u (q / mkQ false (2 ^ (k % 900).toNat) 1) → Calls Tryd.prog 16 #[u, .int .i64 m] w fun e w' => e = .returned (.tuple #[.int .u64 (z : Int), .int .i64 3]) ∧ Fwd w w' := fun w u m z hz hR hv => by
    have := ofP_any hR m hv (by omega); rw [hz] at this; exact this
  have cSa : ∀ (w : World) (u v : Value), RV w u (fvQ lo) → RV w v (fvQ hi) → Calls Tryd.prog 19 #[u, v] w fun e w' => e = .returned (.bool false) ∧ Fwd w w' := fun w u v h h' => by
    have := same2_num h h' (by omega) (by omega); rwa [decide_eq_false hE] at this
  obtain ⟨t, ht, hr⟩ := lbtoX3Told
  obtain ⟨dl, n', he⟩ := isAV_ok (hr ml mh hml)
  let ν : Nat → Rat := nuL [q, mkQ false (2 ^ (k % 900).toNat) 1, 0, (q / mkQ false (2 ^ (k % 900).toNat) 1), fvQ lo, fvQ hi] [1, (2 ^ (k % 900).toNat)]
  let σ : SymD := symR [.b s, .i k, .i mode, .i (k % 900), .i (mode % 5), .u lo, .u hi, .u mm, .i (cmpQ (fvQ lo) (q / mkQ false (2 ^ (k % 900).toNat) 1)), .i (cmpQ (q / mkQ false (2 ^ (k % 900).toNat) 1) (fvQ hi)), .i (k.tmod 2)] vN vD xs ys (rdC rN) (rdC rD)
  have hcx : CxOK (DomQ true ν σ ruG) w.heap.size ⟨Tryd.prog, true, t.get, orcD (lbtoX3D ml mh), (opH (bigHook Tryd.prog true) (opH (symHook Tryd.prog lbtoX3N (fun _ _ _ => none)) (tabHook (lbtoX3L ml mh) lbtoX3M)))⟩ := cxS_ok (M := (DomQ true ν σ ruG)) ht ⟨[
      orcT 8 [
        { args := [], ans := .v (.one (.lit (.bool true))), ok := by
            intro B ρ w S vs hS hr
            match vs, hr with
            | [], _ =>
              skip
              refine (known3_any (ru_of hS)).mono ?_
              rintro e w' ⟨rfl, hf⟩
              exact ⟨_, rfl, ⟨rfl, rfl⟩, hf⟩ }],
      orcT 13 [
        { args := [.agg [.atom (.sym 0), .atom (.sym 100), .atom (.sym 101)]], ans := .v (avQ (.v 0)), ok := by
            intro B ρ w S vs hS hr
            match vs, hr with
            | [u0], ⟨z0, _⟩ =>
              obtain ⟨us0, rfl, y0⟩ := z0
              match us0, y0 with
              | [v0_0, v0_1, v0_2], ⟨y0_0, y0_1, y0_2, _⟩ =>
              obtain ⟨rfl, f0_0⟩ : v0_0 = _ ∧ _ := y0_0
              obtain ⟨rfl, f0_1⟩ : v0_1 = _ ∧ _ := y0_1
              obtain ⟨rfl, f0_2⟩ : v0_2 = _ ∧ _ := y0_2
              refine (cM _ (f0_2 rfl rfl).1 (f0_2 rfl rfl).2).mono ?_
              rintro e w' ⟨v, rfl, g0, hf⟩
              exact ⟨_, rfl, (avQ_rel g0), hf⟩ }],
      orcT 11 [
        { args := [.one (.lit (.int .u64 1))], ans := .v (.one (.atom (.num (.v 10)))), ok := by
            intro B ρ w S vs hS hr
            match vs, hr with
            | [u0], ⟨z0, _⟩ =>
              obtain ⟨rfl, _⟩ : u0 = _ ∧ _ := z0
              refine (refOf_any w 1 (by decide)).mono ?_
              rintro e w' ⟨v, rfl, g0, hf⟩
              exact ⟨_, rfl, ⟨rfl, g0⟩, hf⟩ }],
      orcT 12 [
        { args := [.one (.atom (.sym 1)), .one (.lit (.int .i64 (900)))], ans := .v (.one (.atom (.sym 3))), ok := by
            intro B ρ w S vs hS hr
            match vs, hr with
            | [u0, u1], ⟨z0, z1, _⟩ =>
              obtain ⟨rfl, _⟩ : u0 = _ ∧ _ := z0
              obtain ⟨rfl, _⟩ : u1 = _ ∧ _ := z1
              refine ((within3_900 w k k1 k2).mono (R' := fun e w' => e = .returned (.int .i64 (k % 900)) ∧ Fwd w w') (fun e w' gg => ⟨gg.1, gg.2 ▸ Fwd.refl _⟩)).mono ?_
              rintro e w' ⟨rfl, hf⟩
              exact ⟨_, rfl, ⟨rfl, fun _ h => absurd h (by decide)⟩, hf⟩ },
        { args := [.one (.atom (.sym 2)), .one (.lit (.int .i64 (5)))], ans := .v (.one (.atom (.sym 4))), ok := by
            intro B ρ w S vs hS hr
            match vs, hr with
            | [u0, u1], ⟨z0, z1, _⟩ =>
              obtain ⟨rfl, _⟩ : u0 = _ ∧ _ := z0
              obtain ⟨rfl, _⟩ : u1 = _ ∧ _ := z1
              refine ((within3_5 w mode o1 o2).mono (R' := fun e w' => e = .returned (.int .i64 (mode % 5)) ∧ Fwd w w') (fun e w' gg => ⟨gg.1, gg.2 ▸ Fwd.refl _⟩)).mono ?_
              rintro e w' ⟨rfl, hf⟩
              exact ⟨_, rfl, ⟨rfl, fun _ h => absurd h (by decide)⟩, hf⟩ }],
      orcT 10 [
        { args := [.one (.atom (.num (.v 10))), .one (.atom (.sym 3))], ans := .v (.one (.atom (.num (.v 11)))), ok := by
            intro B ρ w S vs hS hr
            match vs, hr with
            | [u0, u1], ⟨z0, z1, _⟩ =>
              have k0 : Num w u0 _ := z0.2
              obtain ⟨rfl, _⟩ : u1 = _ ∧ _ := z1
              refine (cS _ _ k0).mono ?_
              rintro e w' ⟨v, rfl, g0, hf⟩
              exact ⟨_, rfl, ⟨rfl, g0⟩, hf⟩ }],
      orcT 9 [
        { args := [.one (.lit (.bool false)), .one (.atom (.num (.v 11))), .one (.atom (.num (.v 10)))], ans := .tup [avQ (.v 1), .one (.lit (.int .i64 (0)))], ok := by
            intro B ρ w S vs hS hr
            match vs, hr with
            | [u0, u1, u2], ⟨z0, z1, z2, _⟩ =>
              obtain ⟨rfl, _⟩ : u0 = _ ∧ _ := z0
              have k1 : Num w u1 _ := z1.2
              have k2 : Num w u2 _ := z2.2
              refine (make2_any (N := (2 ^ (k % 900).toNat)) (D := 1) false k1 k2 (by omega) (by have := nl_two' (n := 1) (by decide); omega) (by omega)).mono ?_
              rintro e w' ⟨v, rfl, g0, hf⟩
              exact ⟨_, rfl, ⟨[_, _], rfl, (avQ_rel g0), ⟨rfl, rfl⟩, trivial⟩, hf⟩ }],
      orcT 48 [
        { args := [avQ (.v 0), avQ (.v 1)], ans := .tup [avQ (.v 3), .one (.lit (.int .i64 (0)))], ok := by
            intro B ρ w S vs hS hr
            match vs, hr with
            | [u0, u1], ⟨z0, z1, _⟩ =>
              have k0 := avQ_rv z0
              have k1 := avQ_rv z1
              refine (quo2_any (p := q) (q := mkQ false (2 ^ (k % 900).toNat) 1) k0 k1 (by omega) (by omega) hU0).mono ?_
              rintro e w' ⟨v, rfl, g0, hf⟩
              exact ⟨_, rfl, ⟨[_, _], rfl, (avQ_rel g0), ⟨rfl, rfl⟩, trivial⟩, hf⟩ }],
      orcT 16 [
        { args := [avQ (.v 3), .one (.lit (.int .i64 (2)))], ans := .tup [.one (.atom (.sym 5)), .one (.lit (.int .i64 (3)))], ok := by
            intro B ρ w S vs hS hr
            match vs, hr with
            | [u0, u1], ⟨z0, z1, _⟩ =>
              have k0 := avQ_rv z0
              obtain ⟨rfl, _⟩ : u1 = _ ∧ _ := z1
              refine (cOf _ _ 2 lo g2 (ru_of hS) k0).mono ?_
              rintro e w' ⟨rfl, hf⟩
              exact ⟨_, rfl, ⟨[_, _], rfl, ⟨rfl, fun _ h => absurd h (by decide)⟩, ⟨rfl, rfl⟩, trivial⟩, hf⟩ },
        { args := [avQ (.v 3), .one (.lit (.int .i64 (3)))], ans := .tup [.one (.atom (.sym 6)), .one (.lit (.int .i64 (3)))], ok := by
            intro B ρ w S vs hS hr
            match vs, hr with
            | [u0, u1], ⟨z0, z1, _⟩ =>
              have k0 := avQ_rv z0
              obtain ⟨rfl, _⟩ : u1 = _ ∧ _ := z1
              refine (cOf _ _ 3 hi g3 (ru_of hS) k0).mono ?_
              rintro e w' ⟨rfl, hf⟩
              exact ⟨_, rfl, ⟨[_, _], rfl, ⟨rfl, fun _ h => absurd h (by decide)⟩, ⟨rfl, rfl⟩, trivial⟩, hf⟩ },
        { args := [avQ (.v 3), .one (.atom (.sym 4))], ans := .tup [.one (.atom (.sym 7)), .one (.lit (.int .i64 (3)))], ok := by
            intro B ρ w S vs hS hr
            match vs, hr with
            | [u0, u1], ⟨z0, z1, _⟩ =>
              have k0 := avQ_rv z0
              obtain ⟨rfl, _⟩ : u1 = _ ∧ _ := z1
              refine (cOf _ _ (mode % 5) mm gm (ru_of hS) k0).mono ?_
              rintro e w' ⟨rfl, hf⟩
              exact ⟨_, rfl, ⟨[_, _], rfl, ⟨rfl, fun _ h => absurd h (by decide)⟩, ⟨rfl, rfl⟩, trivial⟩, hf⟩ }],
      orcT 17 [
        { args := [.one (.atom (.sym 5))], ans := .tup [avQ (.v 4), .one (.lit (.int .i64 (0)))], ok := by
            intro B ρ w S vs hS hr
            match vs, hr with
            | [u0], ⟨z0, _⟩ =>
              obtain ⟨rfl, _⟩ : u0 = _ ∧ _ := z0
              refine (refRat_any lo hlo flo).mono ?_
              rintro e w' ⟨v, rfl, g0, hf⟩
              exact ⟨_, rfl, ⟨[_, _], rfl, (avQ_rel g0), ⟨rfl, rfl⟩, trivial⟩, hf⟩ },
        { args := [.one (.atom (.sym 6))], ans := .tup [avQ (.v 5), .one (.lit (.int .i64 (0)))], ok := by
            intro B ρ w S vs hS hr
            match vs, hr with
            | [u0], ⟨z0, _⟩ =>
              obtain ⟨rfl, _⟩ : u0 = _ ∧ _ := z0
              refine (refRat_any hi hhi fhi).mono ?_
              rintro e w' ⟨v, rfl, g0, hf⟩
              exact ⟨_, rfl, ⟨[_, _], rfl, (avQ_rel g0), ⟨rfl, rfl⟩, trivial⟩, hf⟩ }],
      orcT 18 [
        { args := [avQ (.v 4), avQ (.v 3)], ans := .v (.one (.atom (.sym 8))), ok := by
            intro B ρ w S vs hS hr
            match vs, hr with
            | [u0, u1], ⟨z0, z1, _⟩ =>
              have k0 := avQ_rv z0
              have k1 := avQ_rv z1
              refine (cmp2n (p := fvQ lo) (q := (q / mkQ false (2 ^ (k % 900).toNat) 1)) k0 k1 (by omega) (by omega)).mono ?_
              rintro e w' ⟨rfl, hf⟩
              exact ⟨_, rfl, ⟨rfl, fun _ h => absurd h (by decide)⟩, hf⟩ },
        { args := [avQ (.v 3), avQ (.v 5)], ans := .v (.one (.atom (.sym 9))), ok := by
            intro B ρ w S vs hS hr
            match vs, hr with
            | [u0, u1], ⟨z0, z1, _⟩ =>
              have k0 := avQ_rv z0
              have k1 := avQ_rv z1
              refine (cmp2n (p := (q / mkQ false (2 ^ (k % 900).toNat) 1)) (q := fvQ hi) k0 k1 (by omega) (by omega)).mono ?_
              rintro e w' ⟨rfl, hf⟩
              exact ⟨_, rfl, ⟨rfl, fun _ h => absurd h (by decide)⟩, hf⟩ }],
      orcT 19 [
        { args := [avQ (.v 4), avQ (.v 5)], ans := .v (.one (.lit (.bool false))), ok := by
            intro B ρ w S vs hS hr
            match vs, hr with
            | [u0, u1], ⟨z0, z1, _⟩ =>
              have k0 := avQ_rv z0
              have k1 := avQ_rv z1
              refine (cSa _ _ _ k0 k1).mono ?_
              rintro e w' ⟨rfl, hf⟩
              exact ⟨_, rfl, ⟨rfl, rfl⟩, hf⟩ }],
      orcT 20 [
        { args := [.one (.atom (.sym 5)), .one (.lit (.bool true))], ans := .v (.one (.atom (.sym 6))), ok := by
            intro B ρ w S vs hS hr
            match vs, hr with
            | [u0, u1], ⟨z0, z1, _⟩ =>
              obtain ⟨rfl, _⟩ : u0 = _ ∧ _ := z0
              obtain ⟨rfl, _⟩ : u1 = _ ∧ _ := z1
              refine ((next3_any (w := w) lo true hlo).mono (R' := fun e w' => e = .returned (.int .u64 (hi : Nat)) ∧ Fwd w w') (fun e w' gg => ⟨by rw [gg.1, hE2], gg.2 ▸ Fwd.refl _⟩)).mono ?_
              rintro e w' ⟨rfl, hf⟩
              exact ⟨_, rfl, ⟨rfl, fun _ h => absurd h (by decide)⟩, hf⟩ }]], rfl⟩
    (opH_le (bigHook_le _ _) (opH_le (symHook_le _ _ _) (tabHook_le _ _)))
    (opH_ok (bigHook_ok _) (opH_ok (symHook_ok _ (fun h => by cases h) (fun h => by cases h)) (tabHook_ok _ (all_cons (BOk.mk rfl rfl rfl (fun i hi w h => by first | (cases hi; done) | (cases hi; exact absurd h (by decide))) rfl rfl (bo_remI k k1 k2)) (all_cons (BOk.mk rfl rfl rfl (fun i hi w h => by first | (cases hi; done) | (cases hi; exact absurd h (by decide))) rfl rfl (bo_eql hev)) (all_cons (BOk.mk rfl rfl rfl (fun i hi w h => by first | (cases hi; done) | (cases hi; exact absurd h (by decide))) rfl rfl (bo_gtr (by rw [cmpQ_above]; exact decide_eq_false (by grind)))) (all_cons (BOk.mk rfl rfl rfl (fun i hi w h => by first | (cases hi; done) | (cases hi; exact absurd h (by decide))) rfl rfl (bo_gtr (by rw [cmpQ_above]; exact decide_eq_false (by grind)))) (all_cons (BOk.mk rfl rfl rfl (fun i hi w h => by first | (cases hi; done) | (cases hi; exact absurd h (by decide))) rfl rfl (bo_neq (by rw [← e1, Bool.not_not]; exact decide_eq_decide.2 Int.natCast_inj))) (all_cons (BOk.mk rfl rfl rfl (fun i hi w h => by first | (cases hi; done) | (cases hi; exact absurd h (by decide))) rfl rfl (bo_neq (by rw [← e2, Bool.not_not]; exact decide_eq_decide.2 Int.natCast_inj))) (all_cons (BOk.mk rfl rfl rfl (fun i hi w h => by first | (cases hi; done) | (cases hi; exact absurd h (by decide))) rfl rfl (bo_eql (by simp))) all_nil))))))) all_nil)))
  refine (told_call (M := (DomQ true ν σ ruG)) (cx := ⟨Tryd.prog, true, t.get, orcD (lbtoX3D ml mh), (opH (bigHook Tryd.prog true) (opH (symHook Tryd.prog lbtoX3N (fun _ _ _ => none)) (tabHook (lbtoX3L ml mh) lbtoX3M)))⟩) (xs := [.agg [.atom (.sym 0), .atom (.sym 100), .atom (.sym 101)], .one (.atom (.sym 1)), .one (.atom (.sym 2))]) (vs := [.agg #[.bool s, vN, vD], .int .i64 k, .int .i64 mode]) Tryd.checked.mixed hcx (fun hg => ruG_ok hR hg) ⟨⟨[.bool s, vN, vD], rfl, ⟨rfl, fun _ h => absurd h (by decide)⟩, ⟨rfl, fun _ h => absurd h (by decide)⟩, ⟨rfl, fun _ _ => ⟨rN, rD⟩⟩, trivial⟩, ⟨rfl, fun _ h => absurd h (by decide)⟩, ⟨rfl, fun _ h => absurd h (by decide)⟩, trivial⟩ he).mono ?_
  rintro e w' ⟨v, ρ', rfl, hv, hbel⟩
  obtain ⟨rfl, _⟩ : v = _ ∧ _ := hv
  exact ⟨rfl, hbel⟩

theorem floatBetween_walk {w : World} {va : Value} {sa : Bool} {xa ya : List Nat} {k mode : Int} (hR : Ru w) (hA : RawA w va sa xa ya) (hk : (Lit.int .i64 k).wf = true) (ho : (Lit.int .i64 mode).wf = true) :
    Calls Tryd.prog 3 #[va, .int .i64 k, .int .i64 mode] w fun e w' => e = .returned (.bool true) ∧ Below w.heap.size w w' := by
  obtain ⟨k1, k2⟩ := bounds_i64 hk
  obtain ⟨o1, o2⟩ := bounds_i64 ho
  obtain ⟨vN, vD, rfl, rN, rD⟩ := hA
  have bq := nr_rawQ sa rN.ok rD.ok
  have hz : ∀ e : Int, e ≤ 900 → szQ (rawQ sa xa ya * z2 e) < z2 1000 := fun e he => scaled_sz bq (z2_pos e) (z2_le he)
  have ho2 : ∀ {mm lo hi : Nat}, (mm = lo ∨ mm = hi) → (decide (mm = lo) || decide (mm = hi)) = true := fun h => by rcases h with h | h <;> simp [h]
  by_cases c : k.tmod 2 = 0
  · have hb : szQ (rawQ sa xa ya * mkQ false (2 ^ (k % 900).toNat) 1) < z2 1000 := by rw [pow_val]; exact hz _ (by omega)
    obtain ⟨lo, hi, mm, fl, g2, g3, gm, hlo, hhi, flo, fhi, c1, c2, hm, ⟨d1, d2, rfl⟩ | ⟨d1, -, d2, rfl | rfl⟩⟩ := between_ex _ hb (mode % 5)
    · exact lbteE0_tab hR rN rD rfl bq k mode k1 k2 o1 o2 (decide_eq_true c) g2 g3 gm hlo hhi flo fhi c1 c2 rfl rfl (ho2 hm) d1 d2
    · exact lbteX1_tab hR rN rD rfl bq k mode k1 k2 o1 o2 (decide_eq_true c) g2 g3 gm hlo hhi flo fhi c1 c2 rfl rfl (ho2 hm) d1 d2
    · exact lbteX3_tab hR rN rD rfl bq k mode k1 k2 o1 o2 (decide_eq_true c) g2 g3 gm hlo hhi flo fhi c1 c2 rfl rfl (ho2 hm) d1 d2
  · have hb : szQ (rawQ sa xa ya / mkQ false (2 ^ (k % 900).toNat) 1) < z2 1000 := by rw [pow_val, div_pow]; exact hz _ (by omega)
    obtain ⟨lo, hi, mm, fl, g2, g3, gm, hlo, hhi, flo, fhi, c1, c2, hm, ⟨d1, d2, rfl⟩ | ⟨d1, -, d2, rfl | rfl⟩⟩ := between_ex _ hb (mode % 5)
    · exact lbtoE0_tab hR rN rD rfl bq k mode k1 k2 o1 o2 (decide_eq_false c) g2 g3 gm hlo hhi flo fhi c1 c2 rfl rfl (ho2 hm) d1 d2
    · exact lbtoX1_tab hR rN rD rfl bq k mode k1 k2 o1 o2 (decide_eq_false c) g2 g3 gm hlo hhi flo fhi c1 c2 rfl rfl (ho2 hm) d1 d2
    · exact lbtoX3_tab hR rN rD rfl bq k mode k1 k2 o1 o2 (decide_eq_false c) g2 g3 gm hlo hhi flo fhi c1 c2 rfl rfl (ho2 hm) d1 d2
end Go.Proofs.YtcfhajnboamnnaaDoor
