/- Floats, mathematics: with the signs turned, and the modes towards the ends exchanged. -/
/- sfloat's Div in full; the law's turned. -/
/- Floats, mathematics: a rational number as a value. -/
import Derived.Test.YtfegepkhfckamaaGreatDoorXFO
import Derived.Test.YtfegepkhfckamaaGreatDoorKJ
import Derived.Test.YtfegepkhfckamaaGreatDoorXF22
namespace Go.Proofs.YtfegepkhfckamaaGreatDoor
open Go.RowKit
set_option linter.unusedVariables false

/-- The mode with the ends exchanged; a value with the other sign. -/
def tmode (m : Int) : Int := if m = 2 then 3 else if m = 3 then 2 else m
def nv (v : Bool × Bool × Nat × Int) : Bool × Bool × Nat × Int := (!v.1, v.2.1, v.2.2.1, v.2.2.2)
theorem grt_turn (m : Int) (s : Bool) (t : Nat) : grt (tmode m) (!s) t = grt m s t := by
  unfold grt tmode rAbove rBelow
  by_cases h2 : m = 2
  · subst h2; cases s <;> rfl
  · by_cases h3 : m = 3
    · subst h3; cases s <;> rfl
    · simp only [if_neg h2, if_neg h3]
      cases s <;> rfl
theorem szP_turn (m : Int) (s : Bool) (n : Nat) (x : Int) : szP (tmode m) (!s) n x = szP m s n x := by unfold szP; rw [grt_turn]
theorem rndF_turn (m : Int) (s : Bool) (n : Nat) (x : Int) : rndF (tmode m) (!s) n x = rndF m s n x := by unfold rndF; rw [szP_turn]
/-- Two floats are each other's negative, or both noughts, or no numbers. -/
def Turned (a b : Nat) : Prop := if a = 9221120237041090560 ∨ fsz a = 0 then b = a ∨ b = flipF a else a = flipF b
theorem turned_sgn (s : Bool) {z : Nat} (hz : z < 9223372036854775808) : Turned (sgn s + z) (sgn (!s) + z) := by
  have p1 : flipF z = 9223372036854775808 + z := by unfold flipF; rw [if_neg (by omega)]; omega
  have p2 : flipF (9223372036854775808 + z) = z := by unfold flipF; rw [if_pos (by omega)]; omega
  have e1 : flipF (sgn (!s) + z) = sgn s + z := by
    cases s
    · show flipF (9223372036854775808 + z) = 0 + z; rw [p2]; omega
    · show flipF (0 + z) = 9223372036854775808 + z; rw [Nat.zero_add, p1]
  have e2 : flipF (sgn s + z) = sgn (!s) + z := by
    cases s
    · show flipF (0 + z) = 9223372036854775808 + z; rw [Nat.zero_add, p1]
    · show flipF (9223372036854775808 + z) = 0 + z; rw [p2]; omega
  unfold Turned
  split
  · right; exact e2.symm
  · exact e1.symm
theorem turned_nan : Turned 9221120237041090560 9221120237041090560 := by unfold Turned; simp
theorem turned_noughts (s t : Bool) : Turned (sgn s) (sgn t) := by
  unfold Turned
  have : fsz (sgn s) = 0 := by unfold fsz sgn; cases s <;> rfl
  rw [if_pos (Or.inr this)]
  cases s <;> cases t <;> simp [sgn, flipF]
theorem szz_lt (m : Int) (s : Bool) (n : Nat) (x : Int) : (if 9218868437227405312 ≤ szP m s n x then 9218868437227405311 + grt m s 7 else szP m s n x) < 9223372036854775808 := by
  have := grt_lt m s 7
  split <;> omega
theorem rd_turn (m : Int) (v : Bool × Bool × Nat × Int) : Turned (rdV m v).1 (rdV (tmode m) (nv v)).1 ∧ (rdV m v).2 = (rdV (tmode m) (nv v)).2 := by
  obtain ⟨s, en, n, x⟩ := v
  unfold rdV nv
  simp only
  cases en
  · by_cases c : n = 0
    · subst c
      simp only [Bool.false_eq_true, if_false, if_true, and_true]
      exact turned_noughts _ _
    · simp only [Bool.false_eq_true, if_false, if_neg c]
      refine ⟨?_, (rndF_turn m s n x).symm⟩
      unfold rnd
      rw [szP_turn, grt_turn]
      exact turned_sgn s (szz_lt m s n x)
  · simp only [if_true, and_true]
    have hz : (9218868437227405312 : Nat) < 9223372036854775808 := by decide
    generalize (9218868437227405312 : Nat) = I at *
    exact turned_sgn s hz
theorem pl2_turn (s : Bool) (A : Nat) (x : Int) (t : Bool) (B : Nat) (y : Int) : pl2 (!s) A x (!t) B y = nv (pl2 s A x t B y) := by
  unfold pl2 nv
  by_cases c : s = t
  · subst c; simp
  · have c' : ¬ (!s) = (!t) := by cases s <;> cases t <;> simp_all
    rw [if_neg c, if_neg c']
    split <;> rfl
theorem plusV_turn (v w : Bool × Bool × Nat × Int) : plusV (nv v) (nv w) = nv (plusV v w) := by
  obtain ⟨s, en, n, x⟩ := v
  obtain ⟨t, em, k, y⟩ := w
  by_cases c : n = 0
  · simp [plusV, nv, c]
  · by_cases d : k = 0
    · simp [plusV, nv, c, d]
    · by_cases e : x - (lsh n 1 : Int) < y - (lsh k 1 : Int)
      · simp [plusV, nv, c, d, e, pl2_turn]
      · simp [plusV, nv, c, d, e, pl2_turn]
theorem addV_turn (m : Int) (v w : Bool × Bool × Nat × Int) : Turned (addV m v w).1 (addV (tmode m) (nv v) (nv w)).1 ∧ (addV m v w).2 = (addV (tmode m) (nv v) (nv w)).2 := by
  have e : ((nv v).1 ≠ (nv w).1) ↔ (v.1 ≠ w.1) := by unfold nv; cases v.1 <;> cases w.1 <;> simp
  unfold addV
  by_cases c : v.2.1 = true ∧ w.2.1 = true ∧ v.1 ≠ w.1
  · rw [if_pos c, if_pos (show (nv v).2.1 = true ∧ (nv w).2.1 = true ∧ (nv v).1 ≠ (nv w).1 from ⟨c.1, c.2.1, e.2 c.2.2⟩)]
    exact ⟨turned_nan, rfl⟩
  · have c' : ¬ ((nv v).2.1 = true ∧ (nv w).2.1 = true ∧ (nv v).1 ≠ (nv w).1) := fun h => c ⟨h.1, h.2.1, e.1 h.2.2⟩
    rw [if_neg c, if_neg c']
    by_cases d : v.2.1 = true
    · rw [if_pos d, if_pos (show (nv v).2.1 = true from d)]
      exact rd_turn m v
    · rw [if_neg d, if_neg (show ¬ (nv v).2.1 = true from d)]
      by_cases f : w.2.1 = true
      · rw [if_pos f, if_pos (show (nv w).2.1 = true from f)]
        exact rd_turn m w
      · rw [if_neg f, if_neg (show ¬ (nv w).2.1 = true from f), plusV_turn]
        by_cases g : (plusV v w).2.2.1 = 0 ∧ v.1 ≠ w.1
        · rw [if_pos g, if_pos (show (nv (plusV v w)).2.2.1 = 0 ∧ (nv v).1 ≠ (nv w).1 from ⟨g.1, e.2 g.2⟩)]
          exact ⟨turned_noughts _ _, rfl⟩
        · have g' : ¬ ((nv (plusV v w)).2.2.1 = 0 ∧ (nv v).1 ≠ (nv w).1) := fun h => g ⟨h.1, e.1 h.2⟩
          rw [if_neg g, if_neg g']
          exact rd_turn m _
theorem flip_facts {f : Nat} (hf : f < 18446744073709551616) : fsz (flipF f) = fsz f ∧ fneg (flipF f) = !(fneg f) := by
  unfold flipF fsz fneg
  by_cases c : 9223372036854775808 ≤ f
  · rw [if_pos c]; refine ⟨by omega, ?_⟩; simp [c]; omega
  · rw [if_neg c]; refine ⟨by omega, ?_⟩; simp [c]
theorem valF_flip {f : Nat} (hf : f < 18446744073709551616) : valF (flipF f) = nv (valF f) := by
  obtain ⟨h1, h2⟩ := flip_facts hf
  have h3 : flipF f % 4503599627370496 = f % 4503599627370496 := by unfold flipF; split <;> omega
  unfold valF vsz vex nv
  rw [h1, h2, h3]
  split <;> rfl
theorem nan_flip {f : Nat} (hf : f < 18446744073709551616) : isNan (flipF f) = isNan f := by unfold isNan; rw [(flip_facts hf).1]
theorem addF_turn (m : Int) {f g : Nat} (hf : f < 18446744073709551616) (hg : g < 18446744073709551616) : Turned (addF m f g).1 (addF (tmode m) (flipF f) (flipF g)).1 ∧ (addF m f g).2 = (addF (tmode m) (flipF f) (flipF g)).2 := by
  unfold addF
  rw [nan_flip hf, nan_flip hg, valF_flip hf, valF_flip hg]
  split
  · exact ⟨turned_nan, rfl⟩
  · exact addV_turn m _ _
theorem mulV_e1 {s en t em : Bool} {n k : Nat} {x y : Int} (c1 : en = true ∧ (em = false ∧ k = 0) ∨ (en = false ∧ n = 0) ∧ em = true) : mulV (s, en, n, x) (t, em, k, y) = none := if_pos c1
theorem mulV_e2 {s en t em : Bool} {n k : Nat} {x y : Int} (c1 : ¬ (en = true ∧ (em = false ∧ k = 0) ∨ (en = false ∧ n = 0) ∧ em = true)) (c2 : en = true ∨ em = true) : mulV (s, en, n, x) (t, em, k, y) = some (s != t, true, 0, 0) := (if_neg c1).trans (if_pos c2)
theorem mulV_e3 {s en t em : Bool} {n k : Nat} {x y : Int} (c1 : ¬ (en = true ∧ (em = false ∧ k = 0) ∨ (en = false ∧ n = 0) ∧ em = true)) (c2 : ¬ (en = true ∨ em = true)) : mulV (s, en, n, x) (t, em, k, y) = some (s != t, false, n * k, x + y) := (if_neg c1).trans (if_neg c2)
theorem mulV_turn (v w : Bool × Bool × Nat × Int) : mulV (nv v) w = (mulV v w).map nv := by
  obtain ⟨s, en, n, x⟩ := v
  obtain ⟨t, em, k, y⟩ := w
  have e : ((!s) != t) = !(s != t) := by cases s <;> cases t <;> rfl
  have e' : nv (s, en, n, x) = (!s, en, n, x) := rfl
  rw [e']
  by_cases c1 : en = true ∧ (em = false ∧ k = 0) ∨ (en = false ∧ n = 0) ∧ em = true
  · rw [mulV_e1 c1, mulV_e1 c1, Option.map_none]
  · by_cases c2 : en = true ∨ em = true
    · rw [mulV_e2 c1 c2, mulV_e2 c1 c2, Option.map_some, e]; rfl
    · rw [mulV_e3 c1 c2, mulV_e3 c1 c2, Option.map_some, e]; rfl
theorem mulF_turn (m : Int) {f g : Nat} (hf : f < 18446744073709551616) : Turned (mulF m f g).1 (mulF (tmode m) (flipF f) g).1 ∧ (mulF m f g).2 = (mulF (tmode m) (flipF f) g).2 := by
  unfold mulF
  rw [nan_flip hf, valF_flip hf, mulV_turn]
  by_cases c : (isNan f || isNan g) = true
  · simp only [c, if_true, and_true]; exact turned_nan
  · simp only [if_neg c]
    cases mulV (valF f) (valF g) with
    | none => simp only [Option.map_none, withMul, and_true]; exact turned_nan
    | some v => simp only [Option.map_some, withMul]; exact rd_turn m v
theorem overV_turn (v w : Bool × Bool × Nat × Int) : overV (nv v) w = nv (overV v w) := by
  unfold overV nv
  simp only
  congr 1
  cases v.1 <;> cases w.1 <;> rfl
theorem divV_e1 {s en t em : Bool} {n k : Nat} {x y m : Int} {o : Bool × Bool × Nat × Int} (c1 : (en = true ∧ em = true) ∨ ((en = false ∧ n = 0) ∧ em = false ∧ k = 0)) : divV m (s, en, n, x) (t, em, k, y) o = (9221120237041090560, 16) := if_pos c1
theorem divV_e2 {s en t em : Bool} {n k : Nat} {x y m : Int} {o : Bool × Bool × Nat × Int} (c1 : ¬ ((en = true ∧ em = true) ∨ ((en = false ∧ n = 0) ∧ em = false ∧ k = 0))) (c2 : en = true) : divV m (s, en, n, x) (t, em, k, y) o = rdV m (s != t, true, 0, 0) := (if_neg c1).trans (if_pos c2)
theorem divV_e3 {s en t em : Bool} {n k : Nat} {x y m : Int} {o : Bool × Bool × Nat × Int} (c1 : ¬ ((en = true ∧ em = true) ∨ ((en = false ∧ n = 0) ∧ em = false ∧ k = 0))) (c2 : ¬ en = true) (c3 : em = true ∨ n = 0) : divV m (s, en, n, x) (t, em, k, y) o = rdV m (s != t, false, 0, 0) := (if_neg c1).trans ((if_neg c2).trans (if_pos c3))
theorem divV_e4 {s en t em : Bool} {n k : Nat} {x y m : Int} {o : Bool × Bool × Nat × Int} (c1 : ¬ ((en = true ∧ em = true) ∨ ((en = false ∧ n = 0) ∧ em = false ∧ k = 0))) (c2 : ¬ en = true) (c3 : ¬ (em = true ∨ n = 0)) (c4 : k = 0) : divV m (s, en, n, x) (t, em, k, y) o = ((rdV m (s != t, true, 0, 0)).1, 8) := (if_neg c1).trans ((if_neg c2).trans ((if_neg c3).trans (if_pos c4)))
theorem divV_e5 {s en t em : Bool} {n k : Nat} {x y m : Int} {o : Bool × Bool × Nat × Int} (c1 : ¬ ((en = true ∧ em = true) ∨ ((en = false ∧ n = 0) ∧ em = false ∧ k = 0))) (c2 : ¬ en = true) (c3 : ¬ (em = true ∨ n = 0)) (c4 : ¬ k = 0) : divV m (s, en, n, x) (t, em, k, y) o = rdV m o := (if_neg c1).trans ((if_neg c2).trans ((if_neg c3).trans (if_neg c4)))
theorem divV_turn (m : Int) (v w o : Bool × Bool × Nat × Int) : Turned (divV m v w o).1 (divV (tmode m) (nv v) w (nv o)).1 ∧ (divV m v w o).2 = (divV (tmode m) (nv v) w (nv o)).2 := by
  obtain ⟨s, en, n, x⟩ := v
  obtain ⟨t, em, k, y⟩ := w
  have e : ((!s) != t) = !(s != t) := by cases s <;> cases t <;> rfl
  have e' : nv (s, en, n, x) = (!s, en, n, x) := rfl
  rw [e']
  have T1 := rd_turn m (s != t, true, 0, 0)
  have T2 := rd_turn m (s != t, false, 0, 0)
  rw [show nv (s != t, true, 0, 0) = (!(s != t), true, 0, 0) from rfl] at T1
  rw [show nv (s != t, false, 0, 0) = (!(s != t), false, 0, 0) from rfl] at T2
  by_cases c1 : (en = true ∧ em = true) ∨ ((en = false ∧ n = 0) ∧ em = false ∧ k = 0)
  · rw [divV_e1 c1, divV_e1 c1]; exact ⟨turned_nan, rfl⟩
  · by_cases c2 : en = true
    · rw [divV_e2 c1 c2, divV_e2 c1 c2, e]; exact T1
    · by_cases c3 : em = true ∨ n = 0
      · rw [divV_e3 c1 c2 c3, divV_e3 c1 c2 c3, e]; exact T2
      · by_cases c4 : k = 0
        · rw [divV_e4 c1 c2 c3 c4, divV_e4 c1 c2 c3 c4, e]; generalize rdV m (s != t, true, 0, 0) = A at *; generalize rdV (tmode m) (!(s != t), true, 0, 0) = B at *; exact ⟨T1.1, rfl⟩
        · rw [divV_e5 c1 c2 c3 c4, divV_e5 c1 c2 c3 c4]; exact rd_turn m o
theorem divF_turn (m : Int) {f g : Nat} (hf : f < 18446744073709551616) : Turned (divF m f g (overV (valF f) (valF g))).1 (divF (tmode m) (flipF f) g (overV (valF (flipF f)) (valF g))).1 ∧ (divF m f g (overV (valF f) (valF g))).2 = (divF (tmode m) (flipF f) g (overV (valF (flipF f)) (valF g))).2 := by
  unfold divF
  rw [nan_flip hf, valF_flip hf, overV_turn]
  by_cases c : (isNan f || isNan g) = true
  · simp only [c, if_true, and_true]; exact turned_nan
  · simp only [if_neg c]; exact divV_turn m _ _ _
end Go.Proofs.YtfegepkhfckamaaGreatDoor

namespace Go.Proofs.YtfegepkhfckamaaGreatDoor
open Go.RowKit
set_option linter.unusedVariables false
set_option linter.unusedSimpArgs false

/-- A quotient of floats. -/
def divG (m : Int) (f h : Nat) : Nat × Nat := divF m f h (overV (valF f) (valF h))

theorem over_small (v w : Bool × Bool × Nat × Int) (h1 : -10000 ≤ v.2.2.2 ∧ v.2.2.2 ≤ 10000) (h2 : -10000 ≤ w.2.2.2 ∧ w.2.2.2 ≤ 10000) : -1000000 ≤ (overV v w).2.2.2 ∧ (overV v w).2.2.2 ≤ 1000000 := by
  obtain ⟨s, en, n, x⟩ := v
  obtain ⟨t, em, k, y⟩ := w
  have l1 : lsh n 0 ≤ 128 := by unfold lsh; omega
  have l2 : lsh k 0 ≤ 128 := by unfold lsh; omega
  have e : (overV (s, en, n, x) (t, em, k, y)).2.2.2 = x - (lsh n 0 : Int) + 1 - (y - (lsh k 0 : Int)) - 128 := rfl
  rw [e]
  simp only at h1 h2
  omega

theorem divG_any {w : World} (hR : Ru w) (m : Int) (f h : Nat) (hf : f < 18446744073709551616) (hh : h < 18446744073709551616) :
    Calls Tryz.prog 20 #[.int .u64 f, .int .u64 h, .int .i64 m] w fun e w' => e = .returned (.tuple #[.int .u64 ((divG m f h).1 : Nat), .int .i64 ((divG m f h).2 : Nat)]) ∧ Fwd w w' := by
  obtain ⟨a1, a2, a3⟩ := valF_small f
  obtain ⟨b1, b2, b3⟩ := valF_small h
  refine divF_over hR m f h hf hh (overV (valF f) (valF h)) (over_small _ _ ⟨a2, a3⟩ ⟨b2, b3⟩) fun u v hu hv e1 e2 n1 n2 w => ?_
  generalize valF f = V at *
  generalize valF h = W at *
  obtain ⟨s, en, n, x⟩ := V
  obtain ⟨t, em, k, y⟩ := W
  simp only [VT] at hu hv e1 e2 n1 n2 a1 a2 a3 b1 b2 b3
  subst e1
  subst e2
  exact over_any hu hv n1 n2 a1 b1 (by omega) (by omega) (by omega) (by omega)

theorem ne_beq {a b : Nat} (h : ¬ b = a) : ((b : Int) == (a : Int)) = false := by
  have : (b : Int) ≠ (a : Int) := by omega
  simpa using this

theorem turned_flip {a b : Nat} (ha : a < 18446744073709551616) (h : a = flipF b) (hb : b < 18446744073709551616) : ((a : Int) == (flipF b : Int)) = true := by simp [h]

end Go.Proofs.YtfegepkhfckamaaGreatDoor

namespace Go.Proofs.YtfegepkhfckamaaGreatDoor
open Go.RowKit
set_option linter.unusedVariables false

/-- A rational number's size as the program's ratio tells it: the shift; both terms, shifted; the value. -/
def rtS (N D : Nat) : Int := 63 - ((blen N : Int) - (blen D : Int))
def rtN (N D : Nat) : Nat := N * 2 ^ (rtS N D).toNat
def rtD (N D : Nat) : Nat := D * 2 ^ (-(rtS N D)).toNat
def ratV (s : Bool) (N D : Nat) : Bool × Bool × Nat × Int := (s, false, rtN N D / rtD N D * 18446744073709551616 + stk (rtN N D % rtD N D), -(rtS N D) - 64)
theorem rtD_pos {N D : Nat} (h : D ≠ 0) : 0 < rtD N D := Nat.mul_pos (by omega) (Nat.two_pow_pos _)
theorem rt_lt {N D : Nat} (h : D ≠ 0) : rtN N D / rtD N D < 18446744073709551616 := by
  have hp := rtD_pos (N := N) h
  rw [Nat.div_lt_iff_lt_mul hp]
  have h1 := lt_blen N
  have h2 : 2 ^ (blen D - 1) ≤ D := by
    have hb := blen_pos h
    have : ¬ D < 2 ^ (blen D - 1) := fun c => by have := (blen_le_iff D (blen D - 1)).2 c; omega
    omega
  have hb := blen_pos h
  have h3 : rtN N D < 2 ^ (blen N + (rtS N D).toNat) := by
    unfold rtN; rw [Nat.pow_add]; exact Nat.mul_lt_mul_of_pos_right h1 (Nat.two_pow_pos _)
  have h4 : 2 ^ (blen D - 1 + (-(rtS N D)).toNat) ≤ rtD N D := by
    unfold rtD; rw [Nat.pow_add]; exact Nat.mul_le_mul_right _ h2
  have h5 : 2 ^ (blen N + (rtS N D).toNat) = 2 ^ 64 * 2 ^ (blen D - 1 + (-(rtS N D)).toNat) := by
    rw [← Nat.pow_add]; congr 1; unfold rtS; omega
  rw [h5] at h3
  exact Nat.lt_of_lt_of_le h3 (Nat.mul_le_mul_left _ h4)
theorem rtS_zero {D : Nat} : rtN 0 D = 0 := by unfold rtN; omega
end Go.Proofs.YtfegepkhfckamaaGreatDoor
