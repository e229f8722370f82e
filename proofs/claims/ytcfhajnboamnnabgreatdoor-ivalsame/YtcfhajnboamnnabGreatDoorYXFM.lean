/- Floats, mathematics: what rounding tells of sizes; sums, products of values. -/
/- Floats, mathematics: a quotient by words. -/
/- Floats, mathematics: a rational number as a value. -/
/- sfloat's round, of a number that is not nought. -/
import Derived.Test.YtcfhajnboamnnabGreatDoorYXF4
namespace Go.Proofs.YtcfhajnboamnnabGreatDoor
open Go.RowKit
set_option linter.unusedVariables false

theorem blen_mul {n : Nat} (k : Nat) (h : n ≠ 0) : blen (n * 2 ^ k) = blen n + k := by
  have hp := Nat.two_pow_pos k
  have h1 : 2 ^ k ≤ n * 2 ^ k := Nat.le_mul_of_pos_left _ (by omega)
  rw [blen_div _ k h1, Nat.mul_div_cancel _ hp]
theorem lsh_mul {n k r : Nat} (h : n ≠ 0) (hk : r + blen n + k ≤ 128) : lsh n r = lsh (n * 2 ^ k) r + k := by
  unfold lsh; rw [blen_mul k h]; omega
theorem lift_mul {n k r : Nat} (h : n ≠ 0) (hk : r + blen n + k ≤ 128) : n * 2 ^ k * 2 ^ lsh (n * 2 ^ k) r = n * 2 ^ lsh n r := by
  rw [lsh_mul h hk, Nat.mul_assoc, ← Nat.pow_add, Nat.add_comm k]
theorem blen_of_lt {n k : Nat} (h : n < 2 ^ k) : blen n ≤ k := (blen_le_iff n k).2 h
theorem hiP_mul {n k : Nat} (x : Int) (h : n ≠ 0) (hk : blen n + k ≤ 128) : hiP (n * 2 ^ k) (x - k) = hiP n x := by
  unfold hiP; rw [lsh_mul (k := k) (r := 0) h (by omega)]; omega
theorem kpt_mul {n k : Nat} (x : Int) (h : n ≠ 0) (hk : blen n + k ≤ 128) : kpt (n * 2 ^ k) (x - k) = kpt n x := by
  have e : x - (lsh n 0 : Nat) = x - k - (lsh (n * 2 ^ k) 0 : Nat) := by rw [lsh_mul (k := k) (r := 0) h (by omega)]; omega
  unfold kpt shP plP
  rw [lift_mul h (by omega), hiP_mul x h hk, e]
theorem szP_mul {n k : Nat} (m : Int) (s : Bool) (x : Int) (h : n ≠ 0) (hk : blen n + k ≤ 128) : szP m s (n * 2 ^ k) (x - k) = szP m s n x := by
  unfold szP fdP plP; rw [hiP_mul x h hk, kpt_mul x h hk]
theorem rnd_mul {n k : Nat} (m : Int) (s : Bool) (x : Int) (h : n ≠ 0) (hk : blen n + k ≤ 128) : rnd m s (n * 2 ^ k) (x - k) = rnd m s n x := by
  unfold rnd; rw [szP_mul m s x h hk]
theorem rndF_mul {n k : Nat} (m : Int) (s : Bool) (x : Int) (h : n ≠ 0) (hk : blen n + k ≤ 128) : rndF m s (n * 2 ^ k) (x - k) = rndF m s n x := by
  unfold rndF; rw [szP_mul m s x h hk, kpt_mul x h hk, hiP_mul x h hk]
theorem dn_mul (n j k : Nat) (h : k ≤ j) : dn (n * 2 ^ j) k = n * 2 ^ (j - k) := by
  have e : n * 2 ^ j = n * 2 ^ (j - k) * 2 ^ k := by rw [Nat.mul_assoc, ← Nat.pow_add, show j - k + k = j by omega]
  unfold dn
  rw [e, Nat.mul_div_cancel _ (Nat.two_pow_pos k), Nat.mul_mod_left]
  simp [stk]
/-- A size that no bit is lost of: nothing is added. -/
theorem grt_exact (m : Int) (s : Bool) (t : Nat) (h : t = 0 ∨ t = 4) : grt m s t = 0 := by
  unfold grt rAbove rBelow
  rcases h with rfl | rfl <;> cases s <;> simp <;> repeat' split
  all_goals simp
theorem fsz_lt (f : Nat) : fsz f < 9223372036854775808 := Nat.mod_lt _ (by omega)
theorem frac_fsz (f : Nat) : f % 4503599627370496 = fsz f % 4503599627370496 := by unfold fsz; omega
theorem sgn_fsz {f : Nat} (h : f < 18446744073709551616) : sgn (fneg f) + fsz f = f := by
  unfold sgn fneg fsz; split <;> simp at * <;> omega
theorem vsz_ne {f : Nat} (h : fsz f ≠ 0) : vsz f ≠ 0 := by
  unfold vsz; rw [frac_fsz]; split <;> omega
theorem vsz_lt (f : Nat) : vsz f < 9007199254740992 := by unfold vsz; split <;> omega
theorem vsz_zero {f : Nat} (h : fsz f = 0) : vsz f = 0 := by unfold vsz; rw [frac_fsz, h]; simp
theorem vex_ge (f : Nat) : -1074 ≤ vex f := by unfold vex; split <;> omega
theorem vex_le {f : Nat} (h : fsz f < 9218868437227405312) : vex f ≤ 971 := by unfold vex; split <;> omega
/-- A float's own number is told as it is. -/
theorem own_facts {f : Nat} (h0 : fsz f ≠ 0) (h1 : fsz f < 9218868437227405312) (m : Int) (s : Bool) : kpt (vsz f) (vex f) % 4 = 0 ∧ szP m s (vsz f) (vex f) = fsz f := by
  have hn := vsz_ne h0
  by_cases c : fsz f / 4503599627370496 = 0
  · have e1 : vsz f = fsz f := by unfold vsz; rw [if_pos c, frac_fsz]; omega
    have e2 : vex f = -1074 := by unfold vex; rw [if_pos c]
    have hb : blen (fsz f) ≤ 52 := blen_of_lt (show fsz f < 4503599627370496 by omega)
    have hl : lsh (vsz f) 0 = 128 - blen (fsz f) := by unfold lsh; rw [e1]; omega
    have hh : hiP (vsz f) (vex f) < -1074 := by unfold hiP; rw [hl, e2]; omega
    have hp : plP (vsz f) (vex f) = -1074 := by unfold plP; omega
    have hs : shP (vsz f) (vex f) = lsh (vsz f) 0 - 2 := by unfold shP; rw [hp, e2]; omega
    have hk : kpt (vsz f) (vex f) = fsz f * 4 := by
      unfold kpt; rw [hs, dn_mul _ _ _ (by omega), show lsh (vsz f) 0 - (lsh (vsz f) 0 - 2) = 2 by omega, e1]
    have hf : fdP (vsz f) (vex f) = 0 := by unfold fdP; rw [hp]; rfl
    refine ⟨by omega, ?_⟩
    unfold szP; rw [hf, hk, grt_exact _ _ _ (by omega)]; omega
  · have e1 : vsz f = fsz f % 4503599627370496 + 4503599627370496 := by unfold vsz; rw [if_neg c, frac_fsz]
    have e2 : vex f = -1074 + (((fsz f / 4503599627370496 : Nat) : Int) - 1) := by unfold vex; rw [if_neg c]
    have hb : blen (vsz f) = 53 := blen_eq (k := 52) (by rw [e1]; show 4503599627370496 ≤ _; omega) (by rw [e1]; show _ < 9007199254740992; omega)
    have hl : lsh (vsz f) 0 = 75 := by unfold lsh; rw [hb]
    have hh : hiP (vsz f) (vex f) = vex f := by unfold hiP; rw [hl]; omega
    have hp : plP (vsz f) (vex f) = vex f := by unfold plP; rw [hh, e2]; omega
    have hs : shP (vsz f) (vex f) = 73 := by unfold shP; rw [hp, hl]; omega
    have hk : kpt (vsz f) (vex f) = vsz f * 4 := by
      unfold kpt; rw [hs, hl, dn_mul _ _ _ (by omega)]
    have hf : fdP (vsz f) (vex f) = fsz f / 4503599627370496 - 1 := by unfold fdP; rw [hp, e2]; omega
    refine ⟨by omega, ?_⟩
    unfold szP; rw [hf, hk, grt_exact _ _ _ (by omega), e1]; omega
theorem own_rnd {f : Nat} (hf : f < 18446744073709551616) (h0 : fsz f ≠ 0) (h1 : fsz f < 9218868437227405312) (m : Int) : rnd m (fneg f) (vsz f) (vex f) = f ∧ rndF m (fneg f) (vsz f) (vex f) = 0 := by
  obtain ⟨a, b⟩ := own_facts h0 h1 m (fneg f)
  unfold rnd rndF
  rw [b, if_neg (by omega), if_neg (by omega), if_pos a]
  exact ⟨sgn_fsz hf, rfl⟩
/-- A value by its parts: its sign, whether it is endless, its size, its exponent. -/
def valF (f : Nat) : Bool × Bool × Nat × Int := if fsz f = 9218868437227405312 then (fneg f, true, 0, 0) else (fneg f, false, vsz f, vex f)
/-- A value, rounded: the float, the flags. -/
def rdV (m : Int) (v : Bool × Bool × Nat × Int) : Nat × Nat := if v.2.1 then (sgn v.1 + 9218868437227405312, 0) else if v.2.2.1 = 0 then (sgn v.1, 0) else (rnd m v.1 v.2.2.1 v.2.2.2, rndF m v.1 v.2.2.1 v.2.2.2)
/-- Of two lifted ones, the first one's exponent not the less. -/
def pl2 (s : Bool) (A : Nat) (x : Int) (t : Bool) (B : Nat) (y : Int) : Bool × Bool × Nat × Int :=
  if s = t then (s, false, A + dn B (x - y).toNat, x) else if A < dn B (x - y).toNat then (t, false, dn B (x - y).toNat - A, x) else (s, false, A - dn B (x - y).toNat, x)
def plusV (v w : Bool × Bool × Nat × Int) : Bool × Bool × Nat × Int :=
  if v.2.2.1 = 0 then w else if w.2.2.1 = 0 then v else
  if v.2.2.2 - (lsh v.2.2.1 1 : Int) < w.2.2.2 - (lsh w.2.2.1 1 : Int)
  then pl2 w.1 (w.2.2.1 * 2 ^ lsh w.2.2.1 1) (w.2.2.2 - (lsh w.2.2.1 1 : Int)) v.1 (v.2.2.1 * 2 ^ lsh v.2.2.1 1) (v.2.2.2 - (lsh v.2.2.1 1 : Int))
  else pl2 v.1 (v.2.2.1 * 2 ^ lsh v.2.2.1 1) (v.2.2.2 - (lsh v.2.2.1 1 : Int)) w.1 (w.2.2.1 * 2 ^ lsh w.2.2.1 1) (w.2.2.2 - (lsh w.2.2.1 1 : Int))
/-- A sum, rounded. -/
def addV (m : Int) (v w : Bool × Bool × Nat × Int) : Nat × Nat :=
  if v.2.1 = true ∧ w.2.1 = true ∧ v.1 ≠ w.1 then (9221120237041090560, 16) else if v.2.1 = true then rdV m v else if w.2.1 = true then rdV m w else
  if (plusV v w).2.2.1 = 0 ∧ v.1 ≠ w.1 then (sgn (rMinus m), 0) else rdV m (plusV v w)
/-- A product, if there is one. -/
def mulV (v w : Bool × Bool × Nat × Int) : Option (Bool × Bool × Nat × Int) :=
  if v.2.1 = true ∧ (w.2.1 = false ∧ w.2.2.1 = 0) ∨ (v.2.1 = false ∧ v.2.2.1 = 0) ∧ w.2.1 = true then none else
  if v.2.1 = true ∨ w.2.1 = true then some (v.1 != w.1, true, 0, 0) else some (v.1 != w.1, false, v.2.2.1 * w.2.2.1, v.2.2.2 + w.2.2.2)
def isNan (f : Nat) : Bool := decide (9218868437227405312 < fsz f)
def addF (m : Int) (f g : Nat) : Nat × Nat := if isNan f || isNan g then (9221120237041090560, 0) else addV m (valF f) (valF g)
/-- What comes of a product, or none. -/
def withMul (o : Option (Bool × Bool × Nat × Int)) (k : Bool × Bool × Nat × Int → Nat × Nat) : Nat × Nat := match o with | none => (9221120237041090560, 16) | some v => k v
def mulF (m : Int) (f g : Nat) : Nat × Nat := if isNan f || isNan g then (9221120237041090560, 0) else withMul (mulV (valF f) (valF g)) (rdV m)
def fmaF (m : Int) (f g h : Nat) : Nat × Nat := if isNan f || isNan g || isNan h then (9221120237041090560, 0) else withMul (mulV (valF f) (valF g)) (fun v => addV m v (valF h))

theorem pl2_comm (s : Bool) (A : Nat) (x : Int) (t : Bool) (B : Nat) (h : s = t ∨ A ≠ B) : pl2 s A x t B x = pl2 t B x s A x := by
  unfold pl2
  rw [show (x - x).toNat = 0 by omega, dn_zero, dn_zero]
  by_cases c : s = t
  · subst c; simp [Nat.add_comm]
  · have c' : ¬ t = s := fun h => c h.symm
    have : A ≠ B := h.resolve_left c
    simp only [if_neg c, if_neg c']
    by_cases d : A < B
    · simp only [if_pos d, if_neg (show ¬ B < A by omega)]
    · simp only [if_neg d, if_pos (show B < A by omega)]
theorem pl2_nought (s : Bool) (A : Nat) (x : Int) (t : Bool) (h : s ≠ t) : (pl2 s A x t A x).2.2.1 = 0 := by
  unfold pl2
  rw [show (x - x).toNat = 0 by omega, dn_zero, if_neg h, if_neg (by omega)]
  simp
theorem plusV_comm (v w : Bool × Bool × Nat × Int) (hv : v.2.1 = false) (hw : w.2.1 = false) : plusV v w = plusV w v ∨ ((plusV v w).2.2.1 = 0 ∧ (plusV w v).2.2.1 = 0 ∧ (v.2.2.1 = 0 ∨ v.1 ≠ w.1)) := by
  unfold plusV
  by_cases c : v.2.2.1 = 0
  · by_cases d : w.2.2.1 = 0
    · right; rw [if_pos c, if_pos d]; exact ⟨d, c, Or.inl c⟩
    · left; rw [if_pos c, if_neg d, if_pos c]
  · by_cases d : w.2.2.1 = 0
    · left; rw [if_neg c, if_pos d, if_pos d]
    · rw [if_neg c, if_neg d, if_neg d, if_neg c]
      generalize v.2.2.1 * 2 ^ lsh v.2.2.1 1 = A
      generalize w.2.2.1 * 2 ^ lsh w.2.2.1 1 = B
      generalize v.2.2.2 - (lsh v.2.2.1 1 : Int) = x
      generalize w.2.2.2 - (lsh w.2.2.1 1 : Int) = y
      by_cases e : x < y
      · left; rw [if_pos e, if_neg (by omega)]
      · by_cases f : y < x
        · left; rw [if_neg e, if_pos f]
        · obtain rfl : x = y := by omega
          rw [if_neg e, if_neg e]
          by_cases g : v.1 = w.1 ∨ A ≠ B
          · left; exact pl2_comm _ _ _ _ _ g
          · right
            have g1 : v.1 ≠ w.1 := fun h => g (Or.inl h)
            obtain rfl : A = B := Classical.byContradiction fun h => g (Or.inr h)
            exact ⟨pl2_nought _ _ _ _ g1, pl2_nought _ _ _ _ (fun h => g1 h.symm), Or.inr g1⟩
theorem plusV_en (v w : Bool × Bool × Nat × Int) (hv : v.2.1 = false) (hw : w.2.1 = false) : (plusV v w).2.1 = false := by
  unfold plusV pl2
  repeat' split
  all_goals first | assumption | rfl
theorem plusV_sign0 (v w : Bool × Bool × Nat × Int) (h : v.2.2.1 = 0) : plusV v w = w := by unfold plusV; rw [if_pos h]
theorem addV_comm (m : Int) (v w : Bool × Bool × Nat × Int) : addV m v w = addV m w v := by
  obtain ⟨s, en, n, x⟩ := v
  obtain ⟨t, em, k, y⟩ := w
  unfold addV
  cases en <;> cases em
  · have H := plusV_comm (s, false, n, x) (t, false, k, y) rfl rfl
    have E := plusV_en (s, false, n, x) (t, false, k, y) rfl rfl
    have E' := plusV_en (t, false, k, y) (s, false, n, x) rfl rfl
    simp only [Bool.false_eq_true, false_and, if_false] at H ⊢
    rcases H with H | ⟨H1, H2, H3⟩
    · rw [H]; simp only [ne_comm]
    · by_cases c : s = t
      · subst c
        simp only [ne_eq, not_true_eq_false, and_false, if_false]
        have h3 : n = 0 := by simpa using H3
        subst h3
        have h2 : k = 0 := by simpa [plusV] using H1
        subst h2
        unfold rdV plusV
        simp
      · rw [if_pos ⟨H1, c⟩, if_pos ⟨H2, fun h => c h.symm⟩]
  · simp
  · simp
  · by_cases c : s = t
    · subst c; simp [rdV]
    · simp only [true_and]; rw [if_pos c, if_pos (fun h => c h.symm)]
theorem mulV_comm (v w : Bool × Bool × Nat × Int) : mulV v w = mulV w v := by
  obtain ⟨s, en, n, x⟩ := v
  obtain ⟨t, em, k, y⟩ := w
  unfold mulV
  simp only
  have e1 : (s != t) = (t != s) := by cases s <;> cases t <;> rfl
  rw [e1, Nat.mul_comm n k, Int.add_comm x y]
  cases en <;> cases em <;> simp [and_comm, or_comm]
theorem addF_comm (m : Int) (f g : Nat) : addF m f g = addF m g f := by
  unfold addF; rw [Bool.or_comm, addV_comm]
theorem mulF_comm (m : Int) (f g : Nat) : mulF m f g = mulF m g f := by
  unfold mulF; rw [Bool.or_comm, mulV_comm]
theorem rdV_mul (m : Int) (s : Bool) {n k : Nat} (x : Int) (hk : blen n + k ≤ 128) : rdV m (s, false, n * 2 ^ k, x - k) = rdV m (s, false, n, x) := by
  unfold rdV
  simp only [Bool.false_eq_true, if_false]
  by_cases c : n = 0
  · subst c; simp
  · rw [if_neg c, if_neg (Nat.mul_ne_zero c (by have := Nat.two_pow_pos k; omega)), rnd_mul m s x c hk, rndF_mul m s x c hk]
theorem plusV_mul (s : Bool) {n k : Nat} (x : Int) (w : Bool × Bool × Nat × Int) (hk : blen n + k ≤ 127) (hn : n = 0 ∨ w.2.2.1 ≠ 0) : plusV (s, false, n * 2 ^ k, x - k) w = plusV (s, false, n, x) w := by
  unfold plusV
  simp only
  by_cases c : n = 0
  · subst c; simp
  · have c' : n * 2 ^ k ≠ 0 := Nat.mul_ne_zero c (by have := Nat.two_pow_pos k; omega)
    rw [if_neg c, if_neg c']
    have d : w.2.2.1 ≠ 0 := hn.resolve_left c
    rw [if_neg d, if_neg d]
    have e : x - (k : Int) - (lsh (n * 2 ^ k) 1 : Nat) = x - (lsh n 1 : Nat) := by rw [lsh_mul (k := k) (r := 1) c (by omega)]; omega
    rw [lift_mul c (by omega), e]
theorem addV_mul (m : Int) (s : Bool) {n k : Nat} (x : Int) (w : Bool × Bool × Nat × Int) (hk : blen n + k ≤ 127) : addV m (s, false, n * 2 ^ k, x - k) w = addV m (s, false, n, x) w := by
  by_cases h : n = 0 ∨ w.2.2.1 ≠ 0
  · unfold addV; rw [plusV_mul s x w hk h]; simp
  · have h1 : n ≠ 0 := fun c => h (Or.inl c)
    have h2 : w.2.2.1 = 0 := Classical.byContradiction fun c => h (Or.inr c)
    have h3 : n * 2 ^ k ≠ 0 := Nat.mul_ne_zero h1 (by have := Nat.two_pow_pos k; omega)
    have e1 : plusV (s, false, n * 2 ^ k, x - k) w = (s, false, n * 2 ^ k, x - k) := by unfold plusV; simp only; rw [if_neg h3, if_pos h2]
    have e2 : plusV (s, false, n, x) w = (s, false, n, x) := by unfold plusV; simp only; rw [if_neg h1, if_pos h2]
    unfold addV
    rw [e1, e2]
    simp only [Bool.false_eq_true, false_and, if_false]
    have i1 : ¬ (n * 2 ^ k = 0 ∧ s ≠ w.1) := fun c => h3 c.1
    have i2 : ¬ (n = 0 ∧ s ≠ w.1) := fun c => h1 c.1
    rw [rdV_mul m s x (by omega), if_neg i1, if_neg i2]
theorem valF_one : valF 4607182418800017408 = (false, false, 2 ^ 52, -52) := by decide +kernel
theorem blen_vsz (f : Nat) : blen (vsz f) ≤ 53 := blen_of_lt (vsz_lt f)
theorem fma_one (m : Int) (f h : Nat) : fmaF m f 4607182418800017408 h = addF m f h := by
  unfold fmaF addF
  have e : isNan 4607182418800017408 = false := by decide +kernel
  rw [e, Bool.or_false]
  by_cases c : isNan f || isNan h
  · rw [if_pos c, if_pos c]
  · rw [if_neg c, if_neg c, valF_one]
    unfold valF
    by_cases d : fsz f = 9218868437227405312
    · rw [if_pos d]; simp [mulV, withMul]
    · rw [if_neg d]
      have hb := blen_vsz f
      simp only [mulV, withMul, Bool.false_eq_true, false_and, and_false, or_self, if_false]
      have := addV_mul m (fneg f) (n := vsz f) (k := 52) (vex f) (if fsz h = 9218868437227405312 then (fneg h, true, 0, 0) else (fneg h, false, vsz h, vex h)) (by omega)
      rw [show (fneg f != false) = fneg f by cases fneg f <;> rfl, show vex f + -52 = vex f - ((52 : Nat) : Int) by omega]
      exact this
theorem mul_one (m : Int) {f : Nat} (hf : f < 18446744073709551616) : mulF m f 4607182418800017408 = (if isNan f then 9221120237041090560 else f, 0) := by
  unfold mulF
  have e : isNan 4607182418800017408 = false := by decide +kernel
  rw [e, Bool.or_false]
  by_cases c : isNan f
  · rw [if_pos c, if_pos c]
  · rw [if_neg c, if_neg c, valF_one]
    have c' : fsz f ≤ 9218868437227405312 := by simpa [isNan] using c
    unfold valF
    by_cases d : fsz f = 9218868437227405312
    · rw [if_pos d]
      simp only [mulV, withMul, rdV]
      have := sgn_fsz hf
      rw [d] at this
      simp [this]
    · rw [if_neg d]
      have hb := blen_vsz f
      simp only [mulV, withMul, Bool.false_eq_true, false_and, and_false, or_self, if_false]
      rw [show (fneg f != false) = fneg f by cases fneg f <;> rfl, show vex f + -52 = vex f - ((52 : Nat) : Int) by omega]
      rw [rdV_mul m (fneg f) (vex f) (by omega)]
      unfold rdV
      simp only [Bool.false_eq_true, if_false]
      by_cases z : fsz f = 0
      · have := sgn_fsz hf
        rw [z] at this
        rw [if_pos (vsz_zero z)]
        simp at this; rw [this]
      · rw [if_neg (vsz_ne z)]
        obtain ⟨a, b⟩ := own_rnd hf z (by omega) m
        rw [a, b]
end Go.Proofs.YtcfhajnboamnnabGreatDoor

namespace Go.Proofs.YtcfhajnboamnnabGreatDoor
open Go.RowKit
set_option linter.unusedVariables false

/-- Both lifted; the first one halved; by the second one's upper word. -/
def ovH (n : Nat) : Nat := dn (n * 2 ^ lsh n 0) 1
def ovY (k : Nat) : Nat := k * 2 ^ lsh k 0 / 18446744073709551616
def overV (v w : Bool × Bool × Nat × Int) : Bool × Bool × Nat × Int :=
  (v.1 != w.1, false, ovH v.2.2.1 / ovY w.2.2.1 * 18446744073709551616 + stk (ovH v.2.2.1 % ovY w.2.2.1), v.2.2.2 - (lsh v.2.2.1 0 : Int) + 1 - (w.2.2.2 - (lsh w.2.2.1 0 : Int)) - 128)
theorem lift0_ge {n : Nat} (h : n ≠ 0) (hb : blen n ≤ 128) : 170141183460469231731687303715884105728 ≤ n * 2 ^ lsh n 0 := by
  have hp := blen_pos h
  have h1 : 2 ^ (blen n - 1) ≤ n := by
    have : ¬ n < 2 ^ (blen n - 1) := fun c => by have := (blen_le_iff n (blen n - 1)).2 c; omega
    omega
  have h2 : 2 ^ (blen n - 1) * 2 ^ lsh n 0 ≤ n * 2 ^ lsh n 0 := Nat.mul_le_mul_right _ h1
  rw [← Nat.pow_add, show blen n - 1 + lsh n 0 = 127 by unfold lsh; omega] at h2
  exact h2
theorem ovY_facts {k : Nat} (h : k ≠ 0) (hk : k < 9007199254740992) : 9223372036854775808 ≤ ovY k ∧ ovY k < 18446744073709551616 ∧ k * 2 ^ lsh k 0 = ovY k * 18446744073709551616 + 0 := by
  have hb : blen k ≤ 53 := blen_of_lt hk
  have h1 := lift0_ge h (by omega)
  have h2 := lift_lt (r := 0) h (Nat.lt_trans hk (by decide))
  have e : k * 2 ^ lsh k 0 = k * 2 ^ (lsh k 0 - 64) * 18446744073709551616 := by
    rw [Nat.mul_assoc, show (18446744073709551616 : Nat) = 2 ^ 64 from rfl, ← Nat.pow_add, show lsh k 0 - 64 + 64 = lsh k 0 by unfold lsh; omega]
  unfold ovY
  rw [e] at h1 h2 ⊢
  generalize k * 2 ^ (lsh k 0 - 64) = z at *
  omega
theorem ovH_facts {n : Nat} (h : n ≠ 0) (hn : n < 9007199254740992) : 85070591730234615865843651857942052864 ≤ ovH n ∧ ovH n < 170141183460469231731687303715884105728 := by
  have hb : blen n ≤ 53 := blen_of_lt hn
  have h1 := lift0_ge h (by omega)
  have h2 := lift_lt (r := 0) h (Nat.lt_trans hn (by decide))
  have hl : 1 ≤ lsh n 0 := by unfold lsh; omega
  unfold ovH
  rw [dn_mul n (lsh n 0) 1 hl]
  have e : n * 2 ^ lsh n 0 = n * 2 ^ (lsh n 0 - 1) * 2 := by rw [Nat.mul_assoc, ← Nat.pow_succ, show (lsh n 0 - 1).succ = lsh n 0 by omega]
  rw [e] at h1 h2
  generalize n * 2 ^ (lsh n 0 - 1) = z at *
  omega
end Go.Proofs.YtcfhajnboamnnabGreatDoor

namespace Go.Proofs.YtcfhajnboamnnabGreatDoor
open Go.RowKit
set_option linter.unusedVariables false

/-- A rational number's size as the program's ratio tells it: the shift; both terms, shifted; the value. -/
def rtS (N D : Nat) : Int := 63 - ((blen N : Int) - (blen D : Int))
def rtN (N D : Nat) : Nat := N * 2 ^ (rtS N D).toNat
def rtD (N D : Nat) : Nat := D * 2 ^ (-(rtS N D)).toNat
def ratV (s : Bool) (N D : Nat) : Bool × Bool × Nat × Int := (s, false, rtN N D / rtD N D * 18446744073709551616 + stk (rtN N D % rtD N D), -(rtS N D) - 64)
theorem rtD_pos {N D : Nat} (h : D ≠ 0) : 0 < rtD N D := Nat.mul_pos (by omega) (Nat.two_pow_pos _)
theorem rt_lt {N D : Nat} (h : D ≠ 0) : rtN N D / rtD N D < 18446744073709551616 := by
  have hp := rtD_pos (N := N) h
  rw [Nat.div_lt_iff_lt_mul hp]
  have h1 := lt_blen N
  have h2 : 2 ^ (blen D - 1) ≤ D := by
    have hb := blen_pos h
    have : ¬ D < 2 ^ (blen D - 1) := fun c => by have := (blen_le_iff D (blen D - 1)).2 c; omega
    omega
  have hb := blen_pos h
  have h3 : rtN N D < 2 ^ (blen N + (rtS N D).toNat) := by
    unfold rtN; rw [Nat.pow_add]; exact Nat.mul_lt_mul_of_pos_right h1 (Nat.two_pow_pos _)
  have h4 : 2 ^ (blen D - 1 + (-(rtS N D)).toNat) ≤ rtD N D := by
    unfold rtD; rw [Nat.pow_add]; exact Nat.mul_le_mul_right _ h2
  have h5 : 2 ^ (blen N + (rtS N D).toNat) = 2 ^ 64 * 2 ^ (blen D - 1 + (-(rtS N D)).toNat) := by
    rw [← Nat.pow_add]; congr 1; unfold rtS; omega
  rw [h5] at h3
  exact Nat.lt_of_lt_of_le h3 (Nat.mul_le_mul_left _ h4)
theorem rtS_zero {D : Nat} : rtN 0 D = 0 := by unfold rtN; omega
end Go.Proofs.YtcfhajnboamnnabGreatDoor

namespace Go.Proofs.YtcfhajnboamnnabGreatDoor
open Go.RowKit
set_option linter.unusedVariables false

theorem wdown_at {w : World} {v : Value} {n k : Nat} {y : Int} (h : WV v n) (hk : k ≤ 9000000000000000000) (hy : y = (k : Int)) : Calls Tryz.prog 114 #[v, .int .i64 y] w fun e w' => ∃ x, e = .returned x ∧ WV x (dn n k) ∧ Fwd w w' := by
  subst hy; exact wdown_any h hk
theorem field_lo (a b : Int) (w : World) : (Instr.field 105 (.agg #[.int .u64 a, .int .u64 b]) 1).run Tryz.prog w = .ok (.int .u64 b) w := by kernel_rfl
theorem lifted0_any {w : World} {v : Value} {s en : Bool} {n : Nat} {x : Int} (h : VV v s en n x) (hn : n ≠ 0) (hx1 : -1000000 ≤ x) (hx2 : x ≤ 1000000) :
    Calls Tryz.prog 113 #[v, .int .i64 0] w fun e w' => ∃ u, e = .returned u ∧ Fwd w w' ∧ VV u s en (n * 2 ^ lsh n 0) (x - lsh n 0) :=
  lifted_any (r := 0) h hn (by have := (blen_le_iff n 128).2 h.lt; omega) hx1 hx2

set_option maxHeartbeats 8000000 in
set_option maxRecDepth 100000 in
theorem round_a {w : World} {v : Value} {s : Bool} {n : Nat} {x : Int} (m : Int) (h : VV v s false n x) (hn : n ≠ 0) (hx1 : -1000000 ≤ x) (hx2 : x ≤ 1000000) (cA : hiP n x < -1074) :
    Calls Tryz.prog 92 #[ruleV m, v] w fun e w' => e = .returned (.tuple #[.int .u64 (rnd m s n x : Nat), .int .i64 (rndF m s n x : Nat)]) ∧ Fwd w w' := by
  have hd := fun w => visNought_any (w := w) h
  have e0 : (!false && n == 0) = false := by simp [hn]
  simp only [e0] at hd
  clear e0
  have hc := fun w => lifted0_any (w := w) h hn hx1 hx2
  have hlt := lift_lt (r := 0) hn h.lt
  have hsh : lsh n 0 ≤ 127 := by have := blen_pos hn; unfold lsh; omega
  have hK := kpt_lt x hn h.lt
  obtain ⟨a, b, rfl, h1, h2, hab⟩ := h
  clear hab
  have hpl : plP n x = -1074 := by unfold plP; omega
  have hS : ((shP n x : Nat) : Int) = -1076 - (x - (lsh n 0 : Int)) := by unfold shP; rw [hpl]; unfold hiP at cA; omega
  have hfd : fdP n x = 0 := by unfold fdP; rw [hpl]; rfl
  have hKe : dn (n * 2 ^ lsh n 0) (shP n x) = kpt n x := rfl
  have hres : szP m s n x = kpt n x / 4 + grt m s (kpt n x % 8) := by unfold szP; rw [hfd, Nat.zero_mul, Nat.zero_add]
  have HR : Hid (rnd m s n x = sgn s + (if 9218868437227405312 ≤ szP m s n x then 9218868437227405311 + grt m s 7 else szP m s n x) ∧ rndF m s n x = if 9218868437227405312 ≤ szP m s n x then 5 else if kpt n x % 4 = 0 then 0 else if hiP n x < -1074 then 3 else 1) := hid ⟨rfl, rfl⟩
  have cA' : x - (lsh n 0 : Int) + 75 < -1074 := cA
  rw [hres, if_neg (by have := grt_lt m s (kpt n x % 8); omega), if_neg (by have := grt_lt m s (kpt n x % 8); omega), if_pos cA] at HR
  generalize rnd m s n x = RV at *
  generalize rndF m s n x = RF at *
  generalize kpt n x = K at *
  generalize shP n x = S at *
  clear hpl hfd hres cA
  have hX1 : -2000000 ≤ x - (lsh n 0 : Int) := by omega
  have hX2 : x - (lsh n 0 : Int) ≤ 1000000 := by omega
  generalize hXe : x - (lsh n 0 : Int) = X at *
  generalize n * 2 ^ lsh n 0 = N at *
  have hg := fun w => greater_any (w := w) m s (K % 8) (by omega)
  simp only [ruleV] at hg
  have hby := fun w => beyond_any (w := w) m s
  simp only [ruleV] at hby
  have hb1 := grt_lt m s (K % 8)
  have hb2 := grt_lt m s 7
  have ha7 := and7 K (by omega)
  have ha3 := and3 (K % 8) (by omega)
  rw [Nat.mod_mod_of_dvd K (by decide : 4 ∣ 8)] at ha3
  have hsl := sgn_lt s
  have hfl := fun w => field_lo 0 K w
  have hT8 : K % 8 < 8 := by omega
  have hT4 : K % 4 < 4 := by omega
  generalize K % 8 = T at *
  generalize K % 4 = Q at *
  have hk4 : K / 4 < 9007199254740992 := by omega
  have e4 : (K : Int) / 4 = ((K / 4 : Nat) : Int) := by omega
  generalize K / 4 = k4 at *
  generalize grt m s T = g at *
  have kR := (BlkV.made w 97 [.int .u8 (rAbove m), .int .u8 (rBelow m), .bool (rMinus m)]).alloc (.cells #[.bool s, .bool false, .int .u64 a, .int .u64 b, .int .i64 x] 107)
  have kV := BlkV.made' (w.alloc (.cells #[.int .u8 (rAbove m), .int .u8 (rBelow m), .bool (rMinus m)] 97)) (w.heap.size + 1) (by simp) 107 [.bool s, .bool false, .int .u64 a, .int .u64 b, .int .i64 x]
  have hF : Fwd w ((w.alloc (.cells #[.int .u8 (rAbove m), .int .u8 (rBelow m), .bool (rMinus m)] 97)).alloc (.cells #[.bool s, .bool false, .int .u64 a, .int .u64 b, .int .i64 x] 107)) := ((Fwd.refl w).alloc _).alloc _
  unfold ruleV
  go_enter Tryz.func92, Tryz.ntmps92
  go_wp2_with fail
  refine (hd _).mono ?_
  rintro e w1 ⟨rfl, hf⟩
  replace kR := kR.fwd hf
  replace kV := kV.fwd hf
  replace hF := hF.trans hf
  clear hf
  clear hd
  have c0 := BlkV.cell kV 0 rfl
  have c1 := BlkV.cell kV 1 rfl
  have c2 := BlkV.cell kV 2 rfl
  have c3 := BlkV.cell kV 3 rfl
  have c4 := BlkV.cell kV 4 rfl
  go_wp2_with fail
  refine (hc _).mono ?_
  rintro e w2 ⟨u, rfl, hf, a', b', rfl, g1, g2, hN⟩
  clear c0 c1 c2 c3 c4
  replace kR := kR.fwd hf
  replace kV := kV.fwd hf
  replace hF := hF.trans hf
  clear hf
  have c0 := BlkV.cell kV 0 rfl
  have cz0 := BlkV.frozen kV 0
  have c1 := BlkV.cell kV 1 rfl
  have cz1 := BlkV.frozen kV 1
  have c2 := BlkV.cell kV 2 rfl
  have cz2 := BlkV.frozen kV 2
  have c3 := BlkV.cell kV 3 rfl
  have cz3 := BlkV.frozen kV 3
  have c4 := BlkV.cell kV 4 rfl
  have cz4 := BlkV.frozen kV 4
  have hW : WV (.agg #[.int .u64 a', .int .u64 b']) N := ⟨a', b', rfl, g1, g2, hN⟩
  have hsg := fun w => sign_sgn (w := w) (v := .agg #[.bool s, .bool false, .int .u64 a', .int .u64 b', .int .i64 X]) (en := false) (n := N) (x := X) ⟨a', b', rfl, g1, g2, hN⟩
  clear hN hc
  have t0 := BlkV.set kV 0 (.bool s)
  have st0 := BlkV.cell t0 0 rfl
  have t1 := BlkV.set t0 1 (.bool false)
  have st1 := BlkV.cell t1 1 rfl
  have t2 := BlkV.set t1 2 (.int .u64 (a' : Int))
  have st2 := BlkV.cell t2 2 rfl
  have t3 := BlkV.set t2 3 (.int .u64 (b' : Int))
  have st3 := BlkV.cell t3 3 rfl
  have t4 := BlkV.set t3 4 (.int .i64 X)
  have st4 := BlkV.cell t4 4 rfl
  have o1 := ((((Only.set (w.heap.size + 1) w2 0 (.bool s)).setv 1 (.bool false)).setv 2 (.int .u64 (a' : Int))).setv 3 (.int .u64 (b' : Int))).setv 4 (.int .i64 X)
  replace kR := BlkV.only kR o1 (by omega)
  replace hF := hF.wrote o1 (by omega)
  go_wp2_with fail
  refine (wdown_at (k := S) hW (by omega) (by omega)).mono ?_
  rintro e w3 ⟨q, rfl, ⟨a2, b2, rfl, q1, q2, hq⟩, hf⟩
  obtain rfl : a2 = 0 := by omega
  obtain rfl : K = b2 := by omega
  clear hq hW
  clear c0 c1 c2 c3 c4 cz0 cz1 cz2 cz3 cz4 kV st0 st1 st2 st3 st4 t0 t1 t2 t3 o1
  have kV := t4
  clear t4
  replace kR := kR.fwd hf
  replace kV := kV.fwd hf
  replace hF := hF.trans hf
  clear hf
  have c0 := BlkV.cell kV 0 rfl
  have c1 := BlkV.cell kV 1 rfl
  have c2 := BlkV.cell kV 2 rfl
  have c3 := BlkV.cell kV 3 rfl
  have c4 := BlkV.cell kV 4 rfl
  have r0 := BlkV.cell kR 0 rfl
  have r1 := BlkV.cell kR 1 rfl
  have r2 := BlkV.cell kR 2 rfl
  go_wp2_with fail
  refine (hg _).mono ?_
  rintro e w4 ⟨rfl, hf⟩
  clear c0 c1 c2 c3 c4 r0 r1 r2
  replace kR := kR.fwd hf
  replace kV := kV.fwd hf
  replace hF := hF.trans hf
  clear hf
  have c0 := BlkV.cell kV 0 rfl
  have c1 := BlkV.cell kV 1 rfl
  have c2 := BlkV.cell kV 2 rfl
  have c3 := BlkV.cell kV 3 rfl
  have c4 := BlkV.cell kV 4 rfl
  have r0 := BlkV.cell kR 0 rfl
  have r1 := BlkV.cell kR 1 rfl
  have r2 := BlkV.cell kR 2 rfl
  clear hg
  obtain ⟨Z, hZ⟩ : ∃ Z : Nat, Z = k4 + g := ⟨_, rfl⟩
  have e5 : (k4 : Int) + g = Z := by omega
  have hzl : Z < 9218868437227405312 := by omega
  have i0 : decide (9218868437227405312 ≤ (Z : Int)) = false := decide_eq_false (by omega)
  have hon := or_sgn s Z (by omega)
  rw [← hZ] at HR
  have HZ := hid hZ
  clear hZ hk4
  generalize sgn s + Z = sz at *
  generalize sgn s = sg at *
  by_cases cq : Q = 0
  · have i1 : ((Q : Int) == 0) = true := by simp [cq]
    have HQ := hid cq
    clear cq
    go_wp2_with fail
    refine (hsg _).mono ?_
    rintro e w5 ⟨rfl, hf⟩
    go_wp2
    go_ret2
    have hr := HR.out
    rw [if_pos HQ.out] at hr
    exact ⟨ret_pair (by omega) (by omega), hF.trans hf⟩
  · have i1 : ((Q : Int) == 0) = false := by simp; omega
    have HQ := hid cq
    clear cq
    go_wp2_with fail
    refine (hsg _).mono ?_
    rintro e w5 ⟨rfl, hf⟩
    go_wp2
    go_ret2
    have hr := HR.out
    rw [if_neg HQ.out] at hr
    exact ⟨ret_pair (by omega) (by omega), hF.trans hf⟩
end Go.Proofs.YtcfhajnboamnnabGreatDoor
