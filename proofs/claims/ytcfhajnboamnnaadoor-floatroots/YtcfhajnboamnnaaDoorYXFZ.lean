/- Floats, mathematics: sums of values stand for what they are. -/
/- Floats, mathematics: sums of floats are the sums of their numbers, rounded. -/
import Derived.Test.YtcfhajnboamnnaaDoorYXFX
import Derived.Test.YtcfhajnboamnnaaDoorYXF34
import Derived.Test.YtcfhajnboamnnaaDoorKI
namespace Go.Proofs.YtcfhajnboamnnaaDoor
open Go.RowKit
set_option linter.unusedVariables false
/-- A size with a sign. -/
def sg (s : Bool) (r : Rat) : Rat := if s then -r else r
/-- What a finite value is. -/
def vlQ (v : Bool × Bool × Nat × Int) : Rat := sg v.1 ((v.2.2.1 : Rat) * z2 v.2.2.2)
theorem sg_neg (s : Bool) (r : Rat) : sg (!s) r = -(sg s r) := by
  cases s
  · rfl
  · show r = - -r; grind
theorem sg_zero (s : Bool) : sg s 0 = 0 := by cases s <;> rfl
theorem St_add {A b : Nat} {y : Rat} (hA : A % 2 = 0) (h : St b y) : St (A + b) ((A : Rat) + y) := by
  rcases h with h | ⟨h1, h2, h3⟩
  · left; rw [h, cast_add]
  · right; rw [cast_add]; exact ⟨by omega, by grind, by grind⟩
theorem cast_sub {A b : Nat} (h : b ≤ A) : ((A - b : Nat) : Rat) = (A : Rat) - (b : Rat) := by
  have := cast_add (A - b) b
  rw [Nat.sub_add_cancel h] at this
  grind
theorem St_sub {A b : Nat} {y : Rat} (hA : A % 2 = 0) (hb : b ≤ A) (h : St b y) : St (A - b) ((A : Rat) - y) := by
  rcases h with h | ⟨h1, h2, h3⟩
  · left; rw [h, cast_sub hb]
  · right; rw [cast_sub hb]; exact ⟨by omega, by grind, by grind⟩
theorem nat_ne {n : Nat} (h : n ≠ 0) : (0 : Rat) < (n : Rat) := nat_pos (by omega)
/-- What a sum of values comes to: a size above nought with a sign, or nought. -/
def IsSum (V : Bool × Bool × Nat × Int) (S : Rat) : Prop := (V.2.2.1 = 0 ∧ S = 0) ∨ (V.2.2.1 ≠ 0 ∧ ∃ r, 0 < r ∧ S = sg V.1 r ∧ Stands V.2.2.1 V.2.2.2 r)
theorem pl2_sum (s t : Bool) {A B : Nat} {x y : Int} (hA1 : 85070591730234615865843651857942052864 ≤ A) (hA2 : A < 170141183460469231731687303715884105728) (hA3 : A % 2 = 0) (hB1 : 85070591730234615865843651857942052864 ≤ B) (hB2 : B < 170141183460469231731687303715884105728) (hB3 : B % 2097152 = 0)
    (hxy : y ≤ x) : IsSum (pl2 s A x t B y) (sg s ((A : Rat) * z2 x) + sg t ((B : Rat) * z2 y)) := by
  obtain ⟨k, hk⟩ : ∃ k : Nat, x - y = (k : Int) := ⟨(x - y).toNat, by omega⟩
  have hk' : (x - y).toNat = k := by omega
  have hy : z2 y = z2 x * z2 (-(k : Int)) := by rw [← z2_add]; congr 1; omega
  have hst : St (dn B k) ((B : Rat) * z2 (-(k : Int))) := (show St B (B : Rat) from Or.inl rfl).dn k
  have hzx := z2_pos x
  have hzk := z2_pos (-(k : Int))
  have hbp := nat_ne (show B ≠ 0 by omega)
  have hap := nat_ne (show A ≠ 0 by omega)
  have hb : (B : Rat) * z2 y = (B : Rat) * z2 (-(k : Int)) * z2 x := by rw [hy]; grind
  have hyp : 0 < (B : Rat) * z2 (-(k : Int)) := Rat.mul_pos hbp hzk
  have hdle : dn B k ≤ B / 2 ^ k + 1 := by
    unfold dn; rw [or_stk]; split <;> omega
  have hxz : ∀ q : Rat, q * z2 x * z2 (-x) = q := fun q => by rw [Rat.mul_assoc, Rat.mul_comm (z2 x), z2_inv, Rat.mul_one]
  unfold pl2
  rw [hk', hb]
  generalize hyy : (B : Rat) * z2 (-(k : Int)) = Y at *
  by_cases c : s = t
  · subst c
    rw [if_pos rfl]
    right
    have hk2 : B / 2 ^ k ≤ B := Nat.div_le_self _ _
    refine ⟨by show A + dn B k ≠ 0; omega, ((A : Rat) + Y) * z2 x, Rat.mul_pos (by grind) hzx, ?_, by show A + dn B k < _; omega, by show A + dn B k ≠ 0; omega, Or.inr ⟨by show _ ≤ A + dn B k; omega, ?_⟩⟩
    · show _ = sg s _
      unfold sg; split <;> grind
    · show St (A + dn B k) _
      rw [hxz]
      exact St_add hA3 hst
  · rw [if_neg c]
    have ht : t = !s := by cases s <;> cases t <;> simp_all
    subst ht
    rw [sg_neg]
    by_cases k0 : k = 0
    · subst k0
      have hY : Y = (B : Rat) := by rw [← hyy]; rw [show -((0 : Nat) : Int) = 0 from rfl, z2_zero, Rat.mul_one]
      rw [dn_zero, hY]
      by_cases d : A < B
      · rw [if_pos d]
        right
        have hd := cast_sub (Nat.le_of_lt d)
        have hp := nat_ne (show B - A ≠ 0 by omega)
        refine ⟨by show B - A ≠ 0; omega, ((B - A : Nat) : Rat) * z2 x, Rat.mul_pos hp hzx, ?_, by show B - A < _; omega, by show B - A ≠ 0; omega, Or.inl rfl⟩
        show _ = sg (!s) _
        rw [sg_neg, hd]
        unfold sg; split <;> grind
      · rw [if_neg d]
        by_cases e : A = B
        · left
          refine ⟨by show A - B = 0; omega, ?_⟩
          rw [e]
          grind
        · right
          have hd := cast_sub (show B ≤ A by omega)
          have hp := nat_ne (show A - B ≠ 0 by omega)
          refine ⟨by show A - B ≠ 0; omega, ((A - B : Nat) : Rat) * z2 x, Rat.mul_pos hp hzx, ?_, by show A - B < _; omega, by show A - B ≠ 0; omega, Or.inl rfl⟩
          show _ = sg s _
          rw [hd]
          unfold sg; split <;> grind
    · have h2k : 2 ≤ 2 ^ k := by
        obtain ⟨j, rfl⟩ : ∃ j, k = j + 1 := ⟨k - 1, by omega⟩
        have := Nat.two_pow_pos j
        rw [Nat.pow_succ]; omega
      have hdiv : B / 2 ^ k ≤ B / 2 := Nat.div_le_div_left h2k (by omega)
      have hle : dn B k ≤ A := by omega
      rw [if_neg (by omega)]
      right
      have hYA : Y < (A : Rat) := by
        have h1 : Y * 2 ≤ (B : Rat) := by
          have e : Y * z2 (k : Int) = (B : Rat) := by
            rw [← hyy, Rat.mul_assoc, z2_inv, Rat.mul_one]
          have h3 : (2 : Rat) ≤ z2 (k : Int) := by
            rw [z2_nat]
            have : ((2 : Nat) : Rat) ≤ ((2 ^ k : Nat) : Rat) := Rat.natCast_le_natCast.2 h2k
            exact this
          have := Rat.mul_le_mul_of_nonneg_left h3 (Rat.le_of_lt hyp)
          grind
        have h2 : (B : Rat) < ((2 * A : Nat) : Rat) := Rat.natCast_lt_natCast.2 (by omega)
        rw [cast_mul] at h2
        have h4 : ((2 : Nat) : Rat) = 2 := rfl
        grind
      have hpos : 0 < (A : Rat) - Y := by grind
      by_cases c2 : B % 2 ^ k = 0
      · have ed : dn B k = B / 2 ^ k := by unfold dn; rw [or_stk, if_pos c2]
        have hB : (B : Rat) = ((B / 2 ^ k : Nat) : Rat) * z2 (k : Int) := by
          rw [z2_nat, ← cast_mul]
          congr 1
          have := Nat.div_add_mod B (2 ^ k)
          rw [c2, Nat.add_zero, Nat.mul_comm] at this
          exact this.symm
        have hY : Y = ((dn B k : Nat) : Rat) := by
          rw [ed, ← hyy, hB, Rat.mul_assoc, ← z2_add, show (k : Int) + -(k : Int) = 0 by omega, z2_zero, Rat.mul_one]
        have hne : A - dn B k ≠ 0 := by
          have : (dn B k : Rat) < (A : Rat) := by rw [← hY]; exact hYA
          have := nat_lt this
          omega
        have hd := cast_sub hle
        refine ⟨hne, ((A : Rat) - Y) * z2 x, Rat.mul_pos hpos hzx, ?_, by show A - dn B k < _; omega, hne, Or.inl ?_⟩
        · show _ = sg s _
          unfold sg; split <;> grind
        · show ((A - dn B k : Nat) : Rat) * z2 x = _
          rw [hd, hY]
      · have hk22 : 22 ≤ k := by
          by_cases hh : 22 ≤ k
          · exact hh
          · exfalso
            have h1 : 2 ^ k ∣ 2097152 := by
              rw [show (2097152 : Nat) = 2 ^ 21 from rfl]
              exact Nat.pow_dvd_pow 2 (by omega)
            have h2 : 2097152 ∣ B := Nat.dvd_of_mod_eq_zero hB3
            exact c2 (Nat.mod_eq_zero_of_dvd (Nat.dvd_trans h1 h2))
        have h22 : 4194304 ≤ 2 ^ k := by
          rw [show (4194304 : Nat) = 2 ^ 22 from rfl]
          exact Nat.pow_le_pow_right (by omega) hk22
        have hsm : B / 2 ^ k ≤ B / 4194304 := Nat.div_le_div_left h22 (by omega)
        refine ⟨by show A - dn B k ≠ 0; omega, ((A : Rat) - Y) * z2 x, Rat.mul_pos hpos hzx, ?_, by show A - dn B k < _; omega, by show A - dn B k ≠ 0; omega, Or.inr ⟨by show _ ≤ A - dn B k; omega, ?_⟩⟩
        · show _ = sg s _
          unfold sg; split <;> grind
        · show St (A - dn B k) _
          rw [hxz]
          exact St_sub hA3 hle hst
/-- A size, lifted, leaving one bit of room. -/
theorem lift1 {n : Nat} (h : n ≠ 0) (hn : n < 81129638414606681695789005144064) : 85070591730234615865843651857942052864 ≤ n * 2 ^ lsh n 1 ∧ n * 2 ^ lsh n 1 < 170141183460469231731687303715884105728 ∧ n * 2 ^ lsh n 1 % 2097152 = 0 := by
  have hb : blen n ≤ 106 := (blen_le_iff n 106).2 (by have e : (2 : Nat) ^ 106 = 81129638414606681695789005144064 := by decide
                                                      rw [e]; exact hn)
  have hp := blen_pos h
  have l1 : 2 ^ (blen n - 1) ≤ n := by
    have : ¬ n < 2 ^ (blen n - 1) := fun c => by have := (blen_le_iff n (blen n - 1)).2 c; omega
    omega
  have l2 := lt_blen n
  have e1 : 2 ^ (blen n - 1) * 2 ^ lsh n 1 = 85070591730234615865843651857942052864 := by
    rw [← Nat.pow_add, show blen n - 1 + lsh n 1 = 126 by unfold lsh; omega]
  have e2 : 2 ^ blen n * 2 ^ lsh n 1 = 170141183460469231731687303715884105728 := by
    rw [← Nat.pow_add, show blen n + lsh n 1 = 127 by unfold lsh; omega]
  have k1 := Nat.mul_le_mul_right (2 ^ lsh n 1) l1
  have k2 := Nat.mul_lt_mul_of_pos_right l2 (Nat.two_pow_pos (lsh n 1))
  rw [e1] at k1
  rw [e2] at k2
  refine ⟨k1, k2, ?_⟩
  obtain ⟨j, hj⟩ : ∃ j, lsh n 1 = j + 21 := ⟨lsh n 1 - 21, by unfold lsh; omega⟩
  rw [hj, Nat.pow_add, show (2 : Nat) ^ 21 = 2097152 from rfl, ← Nat.mul_assoc]
  exact Nat.mul_mod_left _ _
theorem lift_val (n : Nat) (x : Int) : ((n * 2 ^ lsh n 1 : Nat) : Rat) * z2 (x - (lsh n 1 : Int)) = (n : Rat) * z2 x := by
  rw [cast_mul, ← z2_nat, Rat.mul_assoc, ← z2_add]; congr 2; omega
theorem sum_comm {V : Bool × Bool × Nat × Int} {S T : Rat} (h : IsSum V S) (e : S = T) : IsSum V T := e ▸ h
/-- One value as a sum. -/
theorem one_sum (s : Bool) {n : Nat} (x : Int) (hn : n < 81129638414606681695789005144064) : IsSum (s, false, n, x) (vlQ (s, false, n, x)) := by
  by_cases c : n = 0
  · subst c
    left
    exact ⟨rfl, by show sg s (((0 : Nat) : Rat) * z2 x) = 0; rw [show ((0 : Nat) : Rat) = 0 from rfl, Rat.zero_mul, sg_zero]⟩
  · right
    exact ⟨c, (n : Rat) * z2 x, Rat.mul_pos (nat_ne c) (z2_pos x), rfl, by show n < _; omega, c, Or.inl rfl⟩
theorem plusV_sum (s t : Bool) {n k : Nat} (x y : Int) (hn : n < 81129638414606681695789005144064) (hk : k < 81129638414606681695789005144064) :
    IsSum (plusV (s, false, n, x) (t, false, k, y)) (vlQ (s, false, n, x) + vlQ (t, false, k, y)) := by
  have z : ∀ (s : Bool) (x : Int), vlQ (s, false, 0, x) = 0 := fun s x => by
    show sg s (((0 : Nat) : Rat) * z2 x) = 0; rw [show ((0 : Nat) : Rat) = 0 from rfl, Rat.zero_mul, sg_zero]
  unfold plusV
  simp only
  by_cases c : n = 0
  · subst c
    rw [if_pos rfl, z, Rat.zero_add]
    exact one_sum t y hk
  · rw [if_neg c]
    by_cases d : k = 0
    · subst d
      rw [if_pos rfl, z, Rat.add_zero]
      exact one_sum s x hn
    · rw [if_neg d]
      obtain ⟨a1, a2, a3⟩ := lift1 c hn
      obtain ⟨b1, b2, b3⟩ := lift1 d hk
      have e1 : vlQ (s, false, n, x) = sg s (((n * 2 ^ lsh n 1 : Nat) : Rat) * z2 (x - (lsh n 1 : Int))) := by rw [lift_val]; rfl
      have e2 : vlQ (t, false, k, y) = sg t (((k * 2 ^ lsh k 1 : Nat) : Rat) * z2 (y - (lsh k 1 : Int))) := by rw [lift_val]; rfl
      rw [e1, e2]
      split
      · rw [Rat.add_comm]
        exact pl2_sum t s b1 b2 (by omega) a1 a2 a3 (by omega)
      · exact pl2_sum s t a1 a2 (by omega) b1 b2 b3 (by omega)
/-- What a sum is, rounded. -/
theorem rd_sum {V : Bool × Bool × Nat × Int} {S : Rat} (h : IsSum V S) (hen : V.2.1 = false) (hS : S ≠ 0) {N D : Nat} (hD : D ≠ 0) {s : Bool} (hq : S = sg s (qt N D)) (hN : N ≠ 0) (m : Int) : rdV m V = ofR m s N D := by
  obtain ⟨t, en, n, x⟩ := V
  obtain rfl : en = false := hen
  rcases h with ⟨-, h⟩ | ⟨h0, r, hr, e, hs⟩
  · exact absurd h hS
  · have hqp : 0 < qt N D := by
      have := qt_floor (A := N) (B := D) (by omega)
      have h1 := qt_mul (A := N) (B := D) (by omega)
      have h2 := nat_ne hN
      have h3 := nat_ne hD
      by_cases c : qt N D ≤ 0
      · have := Rat.mul_le_mul_of_nonneg_right c (Rat.le_of_lt h3)
        rw [h1, Rat.zero_mul] at this
        grind
      · grind
    have hh : t = s ∧ r = qt N D := by
      rw [hq] at e
      simp only at e
      unfold sg at e
      cases s <;> cases t <;> simp only [Bool.false_eq_true, if_true, if_false] at e
      · exact ⟨rfl, by grind⟩
      · exfalso; grind
      · exfalso; grind
      · exact ⟨rfl, by grind⟩
    obtain ⟨rfl, rfl⟩ := hh
    exact ofR_rnd hN hD hs.rnd m t
end Go.Proofs.YtcfhajnboamnnaaDoor

namespace Go.Proofs.YtcfhajnboamnnaaDoor
open Go.RowKit
set_option linter.unusedVariables false
theorem sg_qt (q : Rat) : q = sg (negQ q) (qt q.num.natAbs q.den) := by
  have hd : 0 < q.den := Nat.pos_of_ne_zero q.den_nz
  have h1 : q * (q.den : Rat) = (q.num : Rat) := by
    have e : q = (q.num : Rat) / (q.den : Rat) := by rw [← Rat.mkRat_eq_div, Rat.mkRat_self]
    have h0 := nat_pos hd
    have : (q.num : Rat) / (q.den : Rat) * (q.den : Rat) = (q.num : Rat) := Rat.div_mul_cancel (by grind)
    rw [← e] at this
    exact this
  unfold sg negQ
  by_cases c : q.num < 0
  · rw [decide_eq_true c, if_pos rfl]
    have e : (-q) * (q.den : Rat) = ((q.num.natAbs : Nat) : Rat) := by
      have h2 : ((q.num.natAbs : Nat) : Rat) = -(q.num : Rat) := by
        have : ((q.num.natAbs : Int) : Rat) = ((-q.num : Int) : Rat) := by congr 1; omega
        rw [Rat.intCast_neg] at this
        exact this
      rw [h2, ← h1]; grind
    rw [← qt_unique hd e]; grind
  · rw [decide_eq_false c, if_neg (by simp)]
    refine qt_unique hd ?_
    rw [h1]
    have : ((q.num.natAbs : Int) : Rat) = ((q.num : Int) : Rat) := by congr 1; omega
    exact this.symm
/-- A number, rounded, as the second telling says. -/
def ofN (m : Int) (q : Rat) : Nat × Nat := ofR m (negQ q) q.num.natAbs q.den
theorem ofN_sum {V : Bool × Bool × Nat × Int} {S : Rat} (h : IsSum V S) (hen : V.2.1 = false) (hS : S ≠ 0) (m : Int) : rdV m V = ofN m S :=
  rd_sum h hen hS S.den_nz (sg_qt S) (fun c => hS ((natAbs_zero_iff S).1 c)) m
/-- A finite float as a number. -/
def fvQ (f : Nat) : Rat := mkQ (fneg f) (ratA f) (ratB f)
theorem mkQ_qt (s : Bool) (N : Nat) {D : Nat} (hD : D ≠ 0) : mkQ s N D = sg s (qt N D) := by
  unfold mkQ sgQ sg
  rw [Rat.mkRat_eq_div]
  cases s
  · rfl
  · simp only [if_true]
    unfold qt
    rw [Rat.intCast_neg, Rat.div_def, Rat.div_def, Rat.neg_mul]
    rfl
theorem fvQ_val (f : Nat) : fvQ f = sg (fneg f) ((vsz f : Rat) * z2 (vex f)) := by
  unfold fvQ
  rw [mkQ_qt _ _ (ratB_pos f)]
  congr 1
  unfold ratA ratB
  rw [qt_scale _ (by omega)]
  congr 1
  refine (qt_unique (by omega) ?_).symm
  show (vsz f : Rat) * ((1 : Nat) : Rat) = _
  rw [show ((1 : Nat) : Rat) = 1 from rfl, Rat.mul_one]
theorem valF_fin {f : Nat} (h : fsz f < 9218868437227405312) : valF f = (fneg f, false, vsz f, vex f) := by
  unfold valF; rw [if_neg (by omega)]
theorem valF_inf {f : Nat} (h : fsz f = 9218868437227405312) : valF f = (fneg f, true, 0, 0) := by
  unfold valF; rw [if_pos h]
theorem fvQ_zero {f : Nat} (h : fsz f = 0) : fvQ f = 0 := by
  rw [fvQ_val, vsz_zero h]
  rw [show ((0 : Nat) : Rat) = 0 from rfl, Rat.zero_mul, sg_zero]
theorem fvQ_ne {f : Nat} (h : fsz f ≠ 0) : fvQ f ≠ 0 := by
  rw [fvQ_val]
  have := Rat.mul_pos (nat_ne (vsz_ne h)) (z2_pos (vex f))
  unfold sg
  split <;> grind
theorem isNan_le {f : Nat} (h : fsz f ≤ 9218868437227405312) : isNan f = false := decide_eq_false (by omega)
theorem sgn_inf {f : Nat} (hf : f < 18446744073709551616) (h : fsz f = 9218868437227405312) : sgn (fneg f) + 9218868437227405312 = f := by
  have := sgn_fsz hf; rw [h] at this; exact this
theorem sgn_nought {f : Nat} (hf : f < 18446744073709551616) (h : fsz f = 0) : sgn (fneg f) = f := by
  have := sgn_fsz hf; rw [h] at this; exact this
theorem addF_inf {m : Int} {f g : Nat} (hf : f < 18446744073709551616) (hg : g < 18446744073709551616) (h : fsz f = 9218868437227405312) (k : fsz g ≤ 9218868437227405312) (hh : ¬ (fsz g = 9218868437227405312 ∧ f ≠ g)) : addF m f g = (f, 0) := by
  have e : addF m f g = addV m (valF f) (valF g) := by
    unfold addF; rw [isNan_le (by omega), isNan_le k]; exact if_neg (by simp)
  rw [e, valF_inf h]
  unfold addV
  have h1 : ¬ (true = true ∧ (valF g).2.1 = true ∧ fneg f ≠ (valF g).1) := by
    rintro ⟨-, a, b⟩
    by_cases c : fsz g = 9218868437227405312
    · rw [valF_inf c] at b
      have : f ≠ g := fun e => b (by rw [e])
      exact hh ⟨c, this⟩
    · rw [valF_fin (by omega)] at a; cases a
  rw [if_neg h1, if_pos rfl]
  unfold rdV
  rw [if_pos rfl, sgn_inf hf h]
theorem addF_two {m : Int} {f g : Nat} (hf : f < 18446744073709551616) (hg : g < 18446744073709551616) (h : fsz f = 9218868437227405312) (k : fsz g = 9218868437227405312) (hh : f ≠ g) : addF m f g = (9221120237041090560, 16) := by
  have e : addF m f g = addV m (valF f) (valF g) := by
    unfold addF; rw [isNan_le (by omega), isNan_le (by omega)]; exact if_neg (by simp)
  rw [e, valF_inf h, valF_inf k]
  have a := sgn_inf hf h
  have b := sgn_inf hg k
  have hne : fneg f ≠ fneg g := fun c => hh (by rw [c] at a; omega)
  exact if_pos ⟨rfl, rfl, hne⟩
theorem addF_nan {m : Int} {f g : Nat} (h : isNan f = true ∨ isNan g = true) : addF m f g = (9221120237041090560, 0) := by
  unfold addF; rw [if_pos (by simpa using h)]
/-- A sum of numbers, rounded, as the second telling says. -/
def sumN (m : Int) (S : Rat) : Nat × Nat := if S = 0 then (sgn (decide (m = 2)), 0) else ofN m S
theorem vsz_lt106 (f : Nat) : vsz f < 81129638414606681695789005144064 := Nat.lt_trans (vsz_lt f) (by decide)
theorem vlQ_fin {f : Nat} (h : fsz f < 9218868437227405312) : vlQ (valF f) = fvQ f := by rw [valF_fin h, fvQ_val]; rfl
/-- Of a value that is not nought, or one, and another one: the sum. -/
theorem addV_sum (m : Int) (s t : Bool) {n k : Nat} (x y : Int) (hn : n < 81129638414606681695789005144064) (hk : k < 81129638414606681695789005144064) (h : n ≠ 0 ∨ k ≠ 0) :
    addV m (s, false, n, x) (t, false, k, y) = sumN m (vlQ (s, false, n, x) + vlQ (t, false, k, y)) := by
  have hs := plusV_sum s t x y hn hk
  have he := plusV_en (s, false, n, x) (t, false, k, y) rfl rfl
  unfold addV sumN
  rw [if_neg (fun c => by cases c.1), if_neg (fun c => by cases c), if_neg (fun c => by cases c)]
  by_cases c : vlQ (s, false, n, x) + vlQ (t, false, k, y) = 0
  · rw [if_pos c]
    have h0 : (plusV (s, false, n, x) (t, false, k, y)).2.2.1 = 0 := by
      rcases hs with ⟨a, -⟩ | ⟨-, r, hr, e, -⟩
      · exact a
      · exfalso
        rw [c] at e
        unfold sg at e
        split at e <;> grind
    have hst : s ≠ t := by
      rintro rfl
      have p1 : 0 ≤ (n : Rat) * z2 x := Rat.mul_nonneg (by have : ((0 : Nat) : Rat) ≤ (n : Rat) := Rat.natCast_le_natCast.2 (Nat.zero_le _); exact this) (Rat.le_of_lt (z2_pos x))
      have p2 : 0 ≤ (k : Rat) * z2 y := Rat.mul_nonneg (by have : ((0 : Nat) : Rat) ≤ (k : Rat) := Rat.natCast_le_natCast.2 (Nat.zero_le _); exact this) (Rat.le_of_lt (z2_pos y))
      have p3 : 0 < (n : Rat) * z2 x + (k : Rat) * z2 y := by
        rcases h with h | h
        · have := Rat.mul_pos (nat_ne h) (z2_pos x); grind
        · have := Rat.mul_pos (nat_ne h) (z2_pos y); grind
      have e : vlQ (s, false, n, x) + vlQ (s, false, k, y) = sg s ((n : Rat) * z2 x + (k : Rat) * z2 y) := by
        show sg s _ + sg s _ = _
        unfold sg; split <;> grind
      rw [e] at c
      unfold sg at c
      split at c <;> grind
    rw [if_pos ⟨h0, hst⟩]
    rfl
  · rw [if_neg c]
    have h0 : (plusV (s, false, n, x) (t, false, k, y)).2.2.1 ≠ 0 := by
      rcases hs with ⟨-, a⟩ | ⟨a, -⟩
      · exact absurd a c
      · exact a
    rw [if_neg (fun d => h0 d.1)]
    exact ofN_sum hs he c m
theorem addF_fin (m : Int) {f g : Nat} (hf : fsz f < 9218868437227405312) (hg : fsz g < 9218868437227405312) (h : fsz f ≠ 0 ∨ fsz g ≠ 0) : addF m f g = sumN m (fvQ f + fvQ g) := by
  have e : addF m f g = addV m (valF f) (valF g) := by
    unfold addF; rw [isNan_le (by omega), isNan_le (by omega)]; exact if_neg (by simp)
  rw [e, ← vlQ_fin hf, ← vlQ_fin hg, valF_fin hf, valF_fin hg]
  exact addV_sum m _ _ _ _ (vsz_lt106 f) (vsz_lt106 g) (h.imp vsz_ne vsz_ne)
theorem addF_nought (m : Int) {f g : Nat} (hf : f < 18446744073709551616) (hg : g < 18446744073709551616) (h : fsz f = 0) (k : fsz g = 0) : addF m f g = if f = g then (f, 0) else (sgn (decide (m = 2)), 0) := by
  have e : addF m f g = addV m (valF f) (valF g) := by
    unfold addF; rw [isNan_le (by omega), isNan_le (by omega)]; exact if_neg (by simp)
  rw [e, valF_fin (by omega), valF_fin (by omega), vsz_zero h, vsz_zero k]
  unfold addV plusV
  rw [if_neg (fun c => by cases c.1), if_neg (fun c => by cases c), if_neg (fun c => by cases c)]
  simp only [if_true, true_and]
  have a := sgn_nought hf h
  have b := sgn_nought hg k
  by_cases c : f = g
  · subst c
    rw [if_neg (by simp), if_pos rfl]
    unfold rdV
    simp only [Bool.false_eq_true, if_false, if_true]
    rw [a]
  · rw [if_neg c]
    have : fneg f ≠ fneg g := fun d => c (by rw [← a, ← b, d])
    rw [if_pos this]
    rfl
end Go.Proofs.YtcfhajnboamnnaaDoor
