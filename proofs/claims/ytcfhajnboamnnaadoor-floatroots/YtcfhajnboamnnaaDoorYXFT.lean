/- Floats, mathematics: with the signs turned, and the modes towards the ends exchanged. -/
/- sfloat's Div in full; the law's turned. -/
/- Floats, mathematics: products, quotients, products and sums are those of their numbers, rounded. -/
import Derived.Test.YtcfhajnboamnnaaDoorYXFM
import Derived.Test.YtcfhajnboamnnaaDoorKJ
import Derived.Test.YtcfhajnboamnnaaDoorXF22
import Derived.Test.YtcfhajnboamnnaaDoorYXFZ
namespace Go.Proofs.YtcfhajnboamnnaaDoor
open Go.RowKit
set_option linter.unusedVariables false

/-- The mode with the ends exchanged; a value with the other sign. -/
def tmode (m : Int) : Int := if m = 2 then 3 else if m = 3 then 2 else m
def nv (v : Bool × Bool × Nat × Int) : Bool × Bool × Nat × Int := (!v.1, v.2.1, v.2.2.1, v.2.2.2)
theorem grt_turn (m : Int) (s : Bool) (t : Nat) : grt (tmode m) (!s) t = grt m s t := by
  unfold grt tmode rAbove rBelow
  by_cases h2 : m = 2
  · subst h2; cases s <;> rfl
  · by_cases h3 : m = 3
    · subst h3; cases s <;> rfl
    · simp only [if_neg h2, if_neg h3]
      cases s <;> rfl
theorem szP_turn (m : Int) (s : Bool) (n : Nat) (x : Int) : szP (tmode m) (!s) n x = szP m s n x := by unfold szP; rw [grt_turn]
theorem rndF_turn (m : Int) (s : Bool) (n : Nat) (x : Int) : rndF (tmode m) (!s) n x = rndF m s n x := by unfold rndF; rw [szP_turn]
/-- Two floats are each other's negative, or both noughts, or no numbers. -/
def Turned (a b : Nat) : Prop := if a = 9221120237041090560 ∨ fsz a = 0 then b = a ∨ b = flipF a else a = flipF b
theorem turned_sgn (s : Bool) {z : Nat} (hz : z < 9223372036854775808) : Turned (sgn s + z) (sgn (!s) + z) := by
  have p1 : flipF z = 9223372036854775808 + z := by unfold flipF; rw [if_neg (by omega)]; omega
  have p2 : flipF (9223372036854775808 + z) = z := by unfold flipF; rw [if_pos (by omega)]; omega
  have e1 : flipF (sgn (!s) + z) = sgn s + z := by
    cases s
    · show flipF (9223372036854775808 + z) = 0 + z; rw [p2]; omega
    · show flipF (0 + z) = 9223372036854775808 + z; rw [Nat.zero_add, p1]
  have e2 : flipF (sgn s + z) = sgn (!s) + z := by
    cases s
    · show flipF (0 + z) = 9223372036854775808 + z; rw [Nat.zero_add, p1]
    · show flipF (9223372036854775808 + z) = 0 + z; rw [p2]; omega
  unfold Turned
  split
  · right; exact e2.symm
  · exact e1.symm
theorem turned_nan : Turned 9221120237041090560 9221120237041090560 := by unfold Turned; simp
theorem turned_noughts (s t : Bool) : Turned (sgn s) (sgn t) := by
  unfold Turned
  have : fsz (sgn s) = 0 := by unfold fsz sgn; cases s <;> rfl
  rw [if_pos (Or.inr this)]
  cases s <;> cases t <;> simp [sgn, flipF]
theorem szz_lt (m : Int) (s : Bool) (n : Nat) (x : Int) : (if 9218868437227405312 ≤ szP m s n x then 9218868437227405311 + grt m s 7 else szP m s n x) < 9223372036854775808 := by
  have := grt_lt m s 7
  split <;> omega
theorem rd_turn (m : Int) (v : Bool × Bool × Nat × Int) : Turned (rdV m v).1 (rdV (tmode m) (nv v)).1 ∧ (rdV m v).2 = (rdV (tmode m) (nv v)).2 := by
  obtain ⟨s, en, n, x⟩ := v
  unfold rdV nv
  simp only
  cases en
  · by_cases c : n = 0
    · subst c
      simp only [Bool.false_eq_true, if_false, if_true, and_true]
      exact turned_noughts _ _
    · simp only [Bool.false_eq_true, if_false, if_neg c]
      refine ⟨?_, (rndF_turn m s n x).symm⟩
      unfold rnd
      rw [szP_turn, grt_turn]
      exact turned_sgn s (szz_lt m s n x)
  · simp only [if_true, and_true]
    have hz : (9218868437227405312 : Nat) < 9223372036854775808 := by decide
    generalize (9218868437227405312 : Nat) = I at *
    exact turned_sgn s hz
theorem pl2_turn (s : Bool) (A : Nat) (x : Int) (t : Bool) (B : Nat) (y : Int) : pl2 (!s) A x (!t) B y = nv (pl2 s A x t B y) := by
  unfold pl2 nv
  by_cases c : s = t
  · subst c; simp
  · have c' : ¬ (!s) = (!t) := by cases s <;> cases t <;> simp_all
    rw [if_neg c, if_neg c']
    split <;> rfl
theorem plusV_turn (v w : Bool × Bool × Nat × Int) : plusV (nv v) (nv w) = nv (plusV v w) := by
  obtain ⟨s, en, n, x⟩ := v
  obtain ⟨t, em, k, y⟩ := w
  by_cases c : n = 0
  · simp [plusV, nv, c]
  · by_cases d : k = 0
    · simp [plusV, nv, c, d]
    · by_cases e : x - (lsh n 1 : Int) < y - (lsh k 1 : Int)
      · simp [plusV, nv, c, d, e, pl2_turn]
      · simp [plusV, nv, c, d, e, pl2_turn]
theorem addV_turn (m : Int) (v w : Bool × Bool × Nat × Int) : Turned (addV m v w).1 (addV (tmode m) (nv v) (nv w)).1 ∧ (addV m v w).2 = (addV (tmode m) (nv v) (nv w)).2 := by
  have e : ((nv v).1 ≠ (nv w).1) ↔ (v.1 ≠ w.1) := by unfold nv; cases v.1 <;> cases w.1 <;> simp
  unfold addV
  by_cases c : v.2.1 = true ∧ w.2.1 = true ∧ v.1 ≠ w.1
  · rw [if_pos c, if_pos (show (nv v).2.1 = true ∧ (nv w).2.1 = true ∧ (nv v).1 ≠ (nv w).1 from ⟨c.1, c.2.1, e.2 c.2.2⟩)]
    exact ⟨turned_nan, rfl⟩
  · have c' : ¬ ((nv v).2.1 = true ∧ (nv w).2.1 = true ∧ (nv v).1 ≠ (nv w).1) := fun h => c ⟨h.1, h.2.1, e.1 h.2.2⟩
    rw [if_neg c, if_neg c']
    by_cases d : v.2.1 = true
    · rw [if_pos d, if_pos (show (nv v).2.1 = true from d)]
      exact rd_turn m v
    · rw [if_neg d, if_neg (show ¬ (nv v).2.1 = true from d)]
      by_cases f : w.2.1 = true
      · rw [if_pos f, if_pos (show (nv w).2.1 = true from f)]
        exact rd_turn m w
      · rw [if_neg f, if_neg (show ¬ (nv w).2.1 = true from f), plusV_turn]
        by_cases g : (plusV v w).2.2.1 = 0 ∧ v.1 ≠ w.1
        · rw [if_pos g, if_pos (show (nv (plusV v w)).2.2.1 = 0 ∧ (nv v).1 ≠ (nv w).1 from ⟨g.1, e.2 g.2⟩)]
          exact ⟨turned_noughts _ _, rfl⟩
        · have g' : ¬ ((nv (plusV v w)).2.2.1 = 0 ∧ (nv v).1 ≠ (nv w).1) := fun h => g ⟨h.1, e.1 h.2⟩
          rw [if_neg g, if_neg g']
          exact rd_turn m _
theorem flip_facts {f : Nat} (hf : f < 18446744073709551616) : fsz (flipF f) = fsz f ∧ fneg (flipF f) = !(fneg f) := by
  unfold flipF fsz fneg
  by_cases c : 9223372036854775808 ≤ f
  · rw [if_pos c]; refine ⟨by omega, ?_⟩; simp [c]; omega
  · rw [if_neg c]; refine ⟨by omega, ?_⟩; simp [c]
theorem valF_flip {f : Nat} (hf : f < 18446744073709551616) : valF (flipF f) = nv (valF f) := by
  obtain ⟨h1, h2⟩ := flip_facts hf
  have h3 : flipF f % 4503599627370496 = f % 4503599627370496 := by unfold flipF; split <;> omega
  unfold valF vsz vex nv
  rw [h1, h2, h3]
  split <;> rfl
theorem nan_flip {f : Nat} (hf : f < 18446744073709551616) : isNan (flipF f) = isNan f := by unfold isNan; rw [(flip_facts hf).1]
theorem addF_turn (m : Int) {f g : Nat} (hf : f < 18446744073709551616) (hg : g < 18446744073709551616) : Turned (addF m f g).1 (addF (tmode m) (flipF f) (flipF g)).1 ∧ (addF m f g).2 = (addF (tmode m) (flipF f) (flipF g)).2 := by
  unfold addF
  rw [nan_flip hf, nan_flip hg, valF_flip hf, valF_flip hg]
  split
  · exact ⟨turned_nan, rfl⟩
  · exact addV_turn m _ _
theorem mulV_e1 {s en t em : Bool} {n k : Nat} {x y : Int} (c1 : en = true ∧ (em = false ∧ k = 0) ∨ (en = false ∧ n = 0) ∧ em = true) : mulV (s, en, n, x) (t, em, k, y) = none := if_pos c1
theorem mulV_e2 {s en t em : Bool} {n k : Nat} {x y : Int} (c1 : ¬ (en = true ∧ (em = false ∧ k = 0) ∨ (en = false ∧ n = 0) ∧ em = true)) (c2 : en = true ∨ em = true) : mulV (s, en, n, x) (t, em, k, y) = some (s != t, true, 0, 0) := (if_neg c1).trans (if_pos c2)
theorem mulV_e3 {s en t em : Bool} {n k : Nat} {x y : Int} (c1 : ¬ (en = true ∧ (em = false ∧ k = 0) ∨ (en = false ∧ n = 0) ∧ em = true)) (c2 : ¬ (en = true ∨ em = true)) : mulV (s, en, n, x) (t, em, k, y) = some (s != t, false, n * k, x + y) := (if_neg c1).trans (if_neg c2)
theorem mulV_turn (v w : Bool × Bool × Nat × Int) : mulV (nv v) w = (mulV v w).map nv := by
  obtain ⟨s, en, n, x⟩ := v
  obtain ⟨t, em, k, y⟩ := w
  have e : ((!s) != t) = !(s != t) := by cases s <;> cases t <;> rfl
  have e' : nv (s, en, n, x) = (!s, en, n, x) := rfl
  rw [e']
  by_cases c1 : en = true ∧ (em = false ∧ k = 0) ∨ (en = false ∧ n = 0) ∧ em = true
  · rw [mulV_e1 c1, mulV_e1 c1, Option.map_none]
  · by_cases c2 : en = true ∨ em = true
    · rw [mulV_e2 c1 c2, mulV_e2 c1 c2, Option.map_some, e]; rfl
    · rw [mulV_e3 c1 c2, mulV_e3 c1 c2, Option.map_some, e]; rfl
theorem mulF_turn (m : Int) {f g : Nat} (hf : f < 18446744073709551616) : Turned (mulF m f g).1 (mulF (tmode m) (flipF f) g).1 ∧ (mulF m f g).2 = (mulF (tmode m) (flipF f) g).2 := by
  unfold mulF
  rw [nan_flip hf, valF_flip hf, mulV_turn]
  by_cases c : (isNan f || isNan g) = true
  · simp only [c, if_true, and_true]; exact turned_nan
  · simp only [if_neg c]
    cases mulV (valF f) (valF g) with
    | none => simp only [Option.map_none, withMul, and_true]; exact turned_nan
    | some v => simp only [Option.map_some, withMul]; exact rd_turn m v
theorem overV_turn (v w : Bool × Bool × Nat × Int) : overV (nv v) w = nv (overV v w) := by
  unfold overV nv
  simp only
  congr 1
  cases v.1 <;> cases w.1 <;> rfl
theorem divV_e1 {s en t em : Bool} {n k : Nat} {x y m : Int} {o : Bool × Bool × Nat × Int} (c1 : (en = true ∧ em = true) ∨ ((en = false ∧ n = 0) ∧ em = false ∧ k = 0)) : divV m (s, en, n, x) (t, em, k, y) o = (9221120237041090560, 16) := if_pos c1
theorem divV_e2 {s en t em : Bool} {n k : Nat} {x y m : Int} {o : Bool × Bool × Nat × Int} (c1 : ¬ ((en = true ∧ em = true) ∨ ((en = false ∧ n = 0) ∧ em = false ∧ k = 0))) (c2 : en = true) : divV m (s, en, n, x) (t, em, k, y) o = rdV m (s != t, true, 0, 0) := (if_neg c1).trans (if_pos c2)
theorem divV_e3 {s en t em : Bool} {n k : Nat} {x y m : Int} {o : Bool × Bool × Nat × Int} (c1 : ¬ ((en = true ∧ em = true) ∨ ((en = false ∧ n = 0) ∧ em = false ∧ k = 0))) (c2 : ¬ en = true) (c3 : em = true ∨ n = 0) : divV m (s, en, n, x) (t, em, k, y) o = rdV m (s != t, false, 0, 0) := (if_neg c1).trans ((if_neg c2).trans (if_pos c3))
theorem divV_e4 {s en t em : Bool} {n k : Nat} {x y m : Int} {o : Bool × Bool × Nat × Int} (c1 : ¬ ((en = true ∧ em = true) ∨ ((en = false ∧ n = 0) ∧ em = false ∧ k = 0))) (c2 : ¬ en = true) (c3 : ¬ (em = true ∨ n = 0)) (c4 : k = 0) : divV m (s, en, n, x) (t, em, k, y) o = ((rdV m (s != t, true, 0, 0)).1, 8) := (if_neg c1).trans ((if_neg c2).trans ((if_neg c3).trans (if_pos c4)))
theorem divV_e5 {s en t em : Bool} {n k : Nat} {x y m : Int} {o : Bool × Bool × Nat × Int} (c1 : ¬ ((en = true ∧ em = true) ∨ ((en = false ∧ n = 0) ∧ em = false ∧ k = 0))) (c2 : ¬ en = true) (c3 : ¬ (em = true ∨ n = 0)) (c4 : ¬ k = 0) : divV m (s, en, n, x) (t, em, k, y) o = rdV m o := (if_neg c1).trans ((if_neg c2).trans ((if_neg c3).trans (if_neg c4)))
theorem divV_turn (m : Int) (v w o : Bool × Bool × Nat × Int) : Turned (divV m v w o).1 (divV (tmode m) (nv v) w (nv o)).1 ∧ (divV m v w o).2 = (divV (tmode m) (nv v) w (nv o)).2 := by
  obtain ⟨s, en, n, x⟩ := v
  obtain ⟨t, em, k, y⟩ := w
  have e : ((!s) != t) = !(s != t) := by cases s <;> cases t <;> rfl
  have e' : nv (s, en, n, x) = (!s, en, n, x) := rfl
  rw [e']
  have T1 := rd_turn m (s != t, true, 0, 0)
  have T2 := rd_turn m (s != t, false, 0, 0)
  rw [show nv (s != t, true, 0, 0) = (!(s != t), true, 0, 0) from rfl] at T1
  rw [show nv (s != t, false, 0, 0) = (!(s != t), false, 0, 0) from rfl] at T2
  by_cases c1 : (en = true ∧ em = true) ∨ ((en = false ∧ n = 0) ∧ em = false ∧ k = 0)
  · rw [divV_e1 c1, divV_e1 c1]; exact ⟨turned_nan, rfl⟩
  · by_cases c2 : en = true
    · rw [divV_e2 c1 c2, divV_e2 c1 c2, e]; exact T1
    · by_cases c3 : em = true ∨ n = 0
      · rw [divV_e3 c1 c2 c3, divV_e3 c1 c2 c3, e]; exact T2
      · by_cases c4 : k = 0
        · rw [divV_e4 c1 c2 c3 c4, divV_e4 c1 c2 c3 c4, e]; generalize rdV m (s != t, true, 0, 0) = A at *; generalize rdV (tmode m) (!(s != t), true, 0, 0) = B at *; exact ⟨T1.1, rfl⟩
        · rw [divV_e5 c1 c2 c3 c4, divV_e5 c1 c2 c3 c4]; exact rd_turn m o
theorem divF_turn (m : Int) {f g : Nat} (hf : f < 18446744073709551616) : Turned (divF m f g (overV (valF f) (valF g))).1 (divF (tmode m) (flipF f) g (overV (valF (flipF f)) (valF g))).1 ∧ (divF m f g (overV (valF f) (valF g))).2 = (divF (tmode m) (flipF f) g (overV (valF (flipF f)) (valF g))).2 := by
  unfold divF
  rw [nan_flip hf, valF_flip hf, overV_turn]
  by_cases c : (isNan f || isNan g) = true
  · simp only [c, if_true, and_true]; exact turned_nan
  · simp only [if_neg c]; exact divV_turn m _ _ _
end Go.Proofs.YtcfhajnboamnnaaDoor

namespace Go.Proofs.YtcfhajnboamnnaaDoor
open Go.RowKit
set_option linter.unusedVariables false
set_option linter.unusedSimpArgs false

/-- A quotient of floats. -/
def divG (m : Int) (f h : Nat) : Nat × Nat := divF m f h (overV (valF f) (valF h))

theorem over_small (v w : Bool × Bool × Nat × Int) (h1 : -10000 ≤ v.2.2.2 ∧ v.2.2.2 ≤ 10000) (h2 : -10000 ≤ w.2.2.2 ∧ w.2.2.2 ≤ 10000) : -1000000 ≤ (overV v w).2.2.2 ∧ (overV v w).2.2.2 ≤ 1000000 := by
  obtain ⟨s, en, n, x⟩ := v
  obtain ⟨t, em, k, y⟩ := w
  have l1 : lsh n 0 ≤ 128 := by unfold lsh; omega
  have l2 : lsh k 0 ≤ 128 := by unfold lsh; omega
  have e : (overV (s, en, n, x) (t, em, k, y)).2.2.2 = x - (lsh n 0 : Int) + 1 - (y - (lsh k 0 : Int)) - 128 := rfl
  rw [e]
  simp only at h1 h2
  omega

theorem divG_any {w : World} (hR : Ru w) (m : Int) (f h : Nat) (hf : f < 18446744073709551616) (hh : h < 18446744073709551616) :
    Calls Tryd.prog 32 #[.int .u64 f, .int .u64 h, .int .i64 m] w fun e w' => e = .returned (.tuple #[.int .u64 ((divG m f h).1 : Nat), .int .i64 ((divG m f h).2 : Nat)]) ∧ Fwd w w' := by
  obtain ⟨a1, a2, a3⟩ := valF_small f
  obtain ⟨b1, b2, b3⟩ := valF_small h
  refine divF_over hR m f h hf hh (overV (valF f) (valF h)) (over_small _ _ ⟨a2, a3⟩ ⟨b2, b3⟩) fun u v hu hv e1 e2 n1 n2 w => ?_
  generalize valF f = V at *
  generalize valF h = W at *
  obtain ⟨s, en, n, x⟩ := V
  obtain ⟨t, em, k, y⟩ := W
  simp only [VT] at hu hv e1 e2 n1 n2 a1 a2 a3 b1 b2 b3
  subst e1
  subst e2
  exact over_any hu hv n1 n2 a1 b1 (by omega) (by omega) (by omega) (by omega)

theorem ne_beq {a b : Nat} (h : ¬ b = a) : ((b : Int) == (a : Int)) = false := by
  have : (b : Int) ≠ (a : Int) := by omega
  simpa using this

theorem turned_flip {a b : Nat} (ha : a < 18446744073709551616) (h : a = flipF b) (hb : b < 18446744073709551616) : ((a : Int) == (flipF b : Int)) = true := by simp [h]

end Go.Proofs.YtcfhajnboamnnaaDoor

namespace Go.Proofs.YtcfhajnboamnnaaDoor
open Go.RowKit
set_option linter.unusedVariables false
theorem mulF_val {m : Int} {f g : Nat} (hf : fsz f ≤ 9218868437227405312) (hg : fsz g ≤ 9218868437227405312) : mulF m f g = withMul (mulV (valF f) (valF g)) (rdV m) := by
  unfold mulF; rw [isNan_le hf, isNan_le hg]; exact if_neg (by simp)
theorem mulF_nan {m : Int} {f g : Nat} (h : isNan f = true ∨ isNan g = true) : mulF m f g = (9221120237041090560, 0) := by
  unfold mulF; exact if_pos (by simpa using h)
theorem mulV_bad {f g : Nat} (h : (fsz f = 9218868437227405312 ∧ fsz g = 0) ∨ (fsz f = 0 ∧ fsz g = 9218868437227405312)) : mulV (valF f) (valF g) = none := by
  unfold mulV
  rcases h with ⟨a, b⟩ | ⟨a, b⟩
  · rw [valF_inf a, valF_fin (by omega), vsz_zero b]
    exact if_pos (Or.inl ⟨rfl, rfl, rfl⟩)
  · rw [valF_inf b, valF_fin (by omega), vsz_zero a]
    exact if_pos (Or.inr ⟨⟨rfl, rfl⟩, rfl⟩)
theorem mulV_inf {f g : Nat} (h : (fsz f = 9218868437227405312 ∧ fsz g ≠ 0) ∨ (fsz f ≠ 0 ∧ fsz g = 9218868437227405312)) : mulV (valF f) (valF g) = some (fneg f != fneg g, true, 0, 0) := by
  have k : ∀ {g : Nat}, fsz g ≠ 0 → (valF g).2.1 = false → (valF g).2.2.1 ≠ 0 := fun {g} h e => by
    by_cases c : fsz g = 9218868437227405312
    · rw [valF_inf c] at e; cases e
    · unfold valF; rw [if_neg c]; exact vsz_ne h
  have sn : ∀ g, (valF g).1 = fneg g := fun g => by unfold valF; split <;> rfl
  unfold mulV
  rw [sn, sn]
  have en : ∀ {f : Nat}, fsz f = 9218868437227405312 → (valF f).2.1 = true := fun c => by rw [valF_inf c]
  rcases h with ⟨a, b⟩ | ⟨a, b⟩
  · rw [if_neg, if_pos (Or.inl (en a))]
    rintro (⟨-, c, d⟩ | ⟨⟨c, -⟩, -⟩)
    · exact k b c d
    · rw [en a] at c; cases c
  · rw [if_neg, if_pos (Or.inr (en b))]
    rintro (⟨-, c, -⟩ | ⟨⟨c, d⟩, -⟩)
    · rw [en b] at c; cases c
    · exact k a c d
theorem mulV_fin {f g : Nat} (hf : fsz f < 9218868437227405312) (hg : fsz g < 9218868437227405312) : mulV (valF f) (valF g) = some (fneg f != fneg g, false, vsz f * vsz g, vex f + vex g) := by
  rw [valF_fin hf, valF_fin hg]
  unfold mulV
  rw [if_neg (by rintro (⟨c, -⟩ | ⟨-, c⟩) <;> cases c), if_neg (by rintro (c | c) <;> cases c)]
theorem rdV_inf (m : Int) (s : Bool) : rdV m (s, true, 0, 0) = (sgn s + 9218868437227405312, 0) := by unfold rdV; exact if_pos rfl
theorem rdV_nought (m : Int) (s : Bool) (x : Int) : rdV m (s, false, 0, x) = (sgn s, 0) := by
  unfold rdV; rw [if_neg (fun c => by cases c)]; exact if_pos rfl
theorem sg_mul (s t : Bool) (a b : Rat) : sg s a * sg t b = sg (s != t) (a * b) := by
  cases s <;> cases t <;> show _ = _ <;> simp only [sg] <;> simp <;> grind
theorem fvQ_mul (f g : Nat) : fvQ f * fvQ g = vlQ (fneg f != fneg g, false, vsz f * vsz g, vex f + vex g) := by
  rw [fvQ_val, fvQ_val, sg_mul]
  show _ = sg _ (((vsz f * vsz g : Nat) : Rat) * z2 (vex f + vex g))
  congr 1
  rw [cast_mul, z2_add]
  grind
theorem mul106 (f g : Nat) : vsz f * vsz g < 81129638414606681695789005144064 := by
  have h := Nat.mul_lt_mul_of_lt_of_lt (vsz_lt f) (vsz_lt g)
  exact h
theorem mul_ne {f g : Nat} (hf : fsz f ≠ 0) (hg : fsz g ≠ 0) : vsz f * vsz g ≠ 0 := Nat.mul_ne_zero (vsz_ne hf) (vsz_ne hg)
theorem mulQ_ne {f g : Nat} (hf : fsz f ≠ 0) (hg : fsz g ≠ 0) : fvQ f * fvQ g ≠ 0 := by
  have a := fvQ_ne hf
  have b := fvQ_ne hg
  intro c
  rcases Rat.mul_eq_zero.1 c with h | h
  · exact a h
  · exact b h
theorem withMul_some (v : Bool × Bool × Nat × Int) (k : Bool × Bool × Nat × Int → Nat × Nat) : withMul (some v) k = k v := rfl
theorem mulF_fin (m : Int) {f g : Nat} (hf : fsz f < 9218868437227405312) (hg : fsz g < 9218868437227405312) (nf : fsz f ≠ 0) (ng : fsz g ≠ 0) : mulF m f g = ofN m (fvQ f * fvQ g) := by
  have hs := one_sum (fneg f != fneg g) (vex f + vex g) (mul106 f g)
  rw [← fvQ_mul] at hs
  have h := ofN_sum hs rfl (mulQ_ne nf ng) m
  rw [mulF_val (by omega) (by omega), mulV_fin hf hg, withMul_some, h]
/-- A quotient. -/
theorem ovq {n : Nat} (h : n ≠ 0) (hn : n < 9007199254740992) : ovH n = n * 2 ^ (lsh n 0 - 1) := by
  have hb : blen n ≤ 53 := blen_of_lt hn
  unfold ovH
  exact dn_mul n (lsh n 0) 1 (by unfold lsh; omega)
theorem ovr {k : Nat} (h : k ≠ 0) (hk : k < 9007199254740992) : ovY k = k * 2 ^ (lsh k 0 - 64) := by
  have hb : blen k ≤ 53 := blen_of_lt hk
  unfold ovY
  have e : k * 2 ^ lsh k 0 = k * 2 ^ (lsh k 0 - 64) * 18446744073709551616 := by
    rw [Nat.mul_assoc, show (18446744073709551616 : Nat) = 2 ^ 64 from rfl, ← Nat.pow_add, show lsh k 0 - 64 + 64 = lsh k 0 by unfold lsh; omega]
  rw [e]
  exact Nat.mul_div_cancel _ (by decide)
theorem over_rnd {n k : Nat} (x y : Int) (hn : n ≠ 0) (hk : k ≠ 0) (hn2 : n < 9007199254740992) (hk2 : k < 9007199254740992) :
    Rnd (ovH n / ovY k * 18446744073709551616 + stk (ovH n % ovY k)) (x - (lsh n 0 : Int) + 1 - (y - (lsh k 0 : Int)) - 128) (qt n k * z2 (x - y)) := by
  obtain ⟨a1, a2⟩ := ovH_facts hn hn2
  obtain ⟨b1, b2, -⟩ := ovY_facts hk hk2
  have hp : 0 < ovY k := by omega
  have q1 : 4611686018427387904 ≤ ovH n / ovY k := by
    rw [Nat.le_div_iff_mul_le hp]
    omega
  have q2 : ovH n / ovY k < 18446744073709551616 := by
    rw [Nat.div_lt_iff_lt_mul hp]
    omega
  have h := Coarse hp q1 q2 (x - (lsh n 0 : Int) + 1 - (y - (lsh k 0 : Int)) - 128)
  have hb1 : blen n ≤ 53 := blen_of_lt hn2
  have hb2 : blen k ≤ 53 := blen_of_lt hk2
  have e : qt (ovH n) (ovY k) * z2 (x - (lsh n 0 : Int) + 1 - (y - (lsh k 0 : Int)) - 128 + 64) = qt n k * z2 (x - y) := by
    have hk0 := nat_ne hk
    have e1 : qt (ovH n) (ovY k) = qt n k * z2 (((lsh n 0 - 1 : Nat) : Int) - ((lsh k 0 - 64 : Nat) : Int)) := by
      refine (qt_unique hp ?_).symm
      rw [ovq hn hn2, ovr hk hk2, cast_mul, cast_mul, ← z2_nat, ← z2_nat, ← qt_mul (A := n) (B := k) (by omega)]
      have : z2 ((lsh n 0 - 1 : Nat) : Int) = z2 (((lsh n 0 - 1 : Nat) : Int) - ((lsh k 0 - 64 : Nat) : Int)) * z2 ((lsh k 0 - 64 : Nat) : Int) := by rw [← z2_add]; congr 1; omega
      rw [this]
      grind
    rw [e1, Rat.mul_assoc, ← z2_add]
    congr 2
    unfold lsh
    omega
  rw [e] at h
  exact h
theorem sg_div (s t : Bool) {a b : Rat} (hb : b ≠ 0) : sg s a / sg t b = sg (s != t) (a / b) := by
  have h : sg t b ≠ 0 := by unfold sg; split <;> grind
  have e : sg (s != t) (a / b) * sg t b = sg s a := by
    rw [sg_mul, Rat.div_mul_cancel hb]
    cases s <;> cases t <;> rfl
  rw [← e, Rat.mul_div_cancel h]
theorem qt_pos {N D : Nat} (hN : N ≠ 0) (hD : D ≠ 0) : 0 < qt N D := by
  have h1 := qt_mul (A := N) (B := D) (by omega)
  have h2 := nat_ne hN
  have h3 := nat_ne hD
  by_cases c : qt N D ≤ 0
  · have := Rat.mul_le_mul_of_nonneg_right c (Rat.le_of_lt h3)
    rw [h1, Rat.zero_mul] at this
    grind
  · grind
/-- What stands for a size, rounded with a sign. -/
theorem ofN_rnd {V : Nat} {x : Int} {r q : Rat} (h : Rnd V x r) (hr : 0 < r) {s : Bool} (hq : q = sg s r) (m : Int) : rdV m (s, false, V, x) = ofN m q := by
  have hq0 : q ≠ 0 := by rw [hq]; unfold sg; split <;> grind
  have e := sg_qt q
  have hN : q.num.natAbs ≠ 0 := fun c => hq0 ((natAbs_zero_iff q).1 c)
  have hp := qt_pos hN q.den_nz
  have hh : negQ q = s ∧ qt q.num.natAbs q.den = r := by
    have e1 : sg (negQ q) (qt q.num.natAbs q.den) = sg s r := by rw [← e, hq]
    unfold sg at e1
    cases hs : negQ q <;> cases s <;> rw [hs] at e1 <;> simp only [Bool.false_eq_true, if_true, if_false] at e1
    · exact ⟨rfl, e1⟩
    · exfalso; grind
    · exfalso; grind
    · exact ⟨rfl, by grind⟩
  unfold ofN
  rw [hh.1]
  rw [← hh.2] at h
  exact ofR_rnd hN q.den_nz h m s
theorem div_fin (m : Int) {f g : Nat} (nf : fsz f ≠ 0) (ng : fsz g ≠ 0) (hf : fsz f < 9218868437227405312) (hg : fsz g < 9218868437227405312) : rdV m (overV (valF f) (valF g)) = ofN m (fvQ f / fvQ g) := by
  rw [valF_fin hf, valF_fin hg]
  have h := over_rnd (vex f) (vex g) (vsz_ne nf) (vsz_ne ng) (vsz_lt f) (vsz_lt g)
  have hk := nat_ne (vsz_ne ng)
  refine ofN_rnd h (Rat.mul_pos (qt_pos (vsz_ne nf) (vsz_ne ng)) (z2_pos _)) ?_ m
  have hb : (vsz g : Rat) * z2 (vex g) ≠ 0 := by have := Rat.mul_pos hk (z2_pos (vex g)); grind
  rw [fvQ_val, fvQ_val, sg_div _ _ hb]
  congr 1
  have e : qt (vsz f) (vsz g) * z2 (vex f - vex g) * ((vsz g : Rat) * z2 (vex g)) = (vsz f : Rat) * z2 (vex f) := by
    rw [← qt_mul (A := vsz f) (B := vsz g) (by have := vsz_ne ng; omega)]
    have : z2 (vex f) = z2 (vex f - vex g) * z2 (vex g) := by rw [← z2_add]; congr 1; omega
    rw [this]; grind
  rw [← e, Rat.mul_div_cancel hb]
/-- Quotients, by kinds. -/
theorem divG_val {m : Int} {f g : Nat} (hf : fsz f ≤ 9218868437227405312) (hg : fsz g ≤ 9218868437227405312) : divG m f g = divV m (valF f) (valF g) (overV (valF f) (valF g)) := by
  unfold divG divF; rw [isNan_le hf, isNan_le hg]; exact if_neg (by simp)
theorem divG_nan {m : Int} {f g : Nat} (h : isNan f = true ∨ isNan g = true) : divG m f g = (9221120237041090560, 0) := by
  unfold divG divF; exact if_pos (by simpa using h)
theorem divG_bad {m : Int} {f g : Nat} (h : (fsz f = 9218868437227405312 ∧ fsz g = 9218868437227405312) ∨ (fsz f = 0 ∧ fsz g = 0)) : divG m f g = (9221120237041090560, 16) := by
  have hf : fsz f ≤ 9218868437227405312 := by rcases h with h | h <;> omega
  have hg : fsz g ≤ 9218868437227405312 := by rcases h with h | h <;> omega
  rw [divG_val hf hg]
  generalize overV (valF f) (valF g) = o
  unfold divV
  rcases h with ⟨a, b⟩ | ⟨a, b⟩
  · rw [valF_inf a, valF_inf b]; exact if_pos (Or.inl ⟨rfl, rfl⟩)
  · rw [valF_fin (show fsz f < _ by omega), valF_fin (show fsz g < _ by omega), vsz_zero a, vsz_zero b]; exact if_pos (Or.inr ⟨⟨rfl, rfl⟩, rfl, rfl⟩)
theorem divG_inf {m : Int} {f g : Nat} (a : fsz f = 9218868437227405312) (b : fsz g < 9218868437227405312) : divG m f g = (sgn (fneg f != fneg g) + 9218868437227405312, 0) := by
  rw [divG_val (by omega) (by omega)]
  generalize overV (valF f) (valF g) = o
  rw [valF_inf a, valF_fin b]
  unfold divV
  rw [if_neg (by rintro (⟨-, c⟩ | ⟨⟨c, -⟩, -⟩) <;> cases c), if_pos rfl]
  exact rdV_inf m _
theorem divG_small {m : Int} {f g : Nat} (h : (fsz f < 9218868437227405312 ∧ fsz g = 9218868437227405312) ∨ (fsz f = 0 ∧ fsz g ≠ 0 ∧ fsz g < 9218868437227405312)) : divG m f g = (sgn (fneg f != fneg g), 0) := by
  have hf : fsz f < 9218868437227405312 := by rcases h with h | h <;> omega
  have hg : fsz g ≤ 9218868437227405312 := by rcases h with h | h <;> omega
  rw [divG_val (by omega) hg]
  generalize overV (valF f) (valF g) = o
  have sn : ∀ g, (valF g).1 = fneg g := fun g => by unfold valF; split <;> rfl
  have h1 : (valF f).2.1 = false := by rw [valF_fin hf]
  unfold divV
  rw [sn, sn]
  rcases h with ⟨a, b⟩ | ⟨a, b, c⟩
  · have h2 : (valF g).2.1 = true := by rw [valF_inf b]
    rw [if_neg (by rintro (⟨c, -⟩ | ⟨-, c, -⟩); (rw [h1] at c; cases c); (rw [h2] at c; cases c)), if_neg (by rw [h1]; simp), if_pos (Or.inl h2)]
    exact rdV_nought m _ _
  · have h2 : (valF g).2.2.1 ≠ 0 := by rw [valF_fin c]; exact vsz_ne b
    have h3 : (valF f).2.2.1 = 0 := by rw [valF_fin hf]; exact vsz_zero a
    rw [if_neg (by rintro (⟨c, -⟩ | ⟨-, -, c⟩); (rw [h1] at c; cases c); exact h2 c), if_neg (by rw [h1]; simp), if_pos (Or.inr h3)]
    exact rdV_nought m _ _
theorem divG_by {m : Int} {f g : Nat} (hf : fsz f < 9218868437227405312) (nf : fsz f ≠ 0) (h : fsz g = 0) : divG m f g = (sgn (fneg f != fneg g) + 9218868437227405312, 8) := by
  rw [divG_val (by omega) (by omega)]
  generalize overV (valF f) (valF g) = o
  rw [valF_fin hf, valF_fin (show fsz g < _ by omega), vsz_zero h]
  unfold divV
  have := vsz_ne nf
  rw [if_neg (by rintro (⟨c, -⟩ | ⟨⟨-, c⟩, -⟩); cases c; exact this c), if_neg (fun c => by cases c), if_neg (by rintro (c | c); cases c; exact this c)]
  rw [rdV_inf]
  exact if_pos rfl
theorem divG_fin (m : Int) {f g : Nat} (hf : fsz f < 9218868437227405312) (hg : fsz g < 9218868437227405312) (nf : fsz f ≠ 0) (ng : fsz g ≠ 0) : divG m f g = ofN m (fvQ f / fvQ g) := by
  rw [divG_val (by omega) (by omega), ← div_fin m nf ng hf hg]
  generalize overV (valF f) (valF g) = o
  rw [valF_fin hf, valF_fin hg]
  have a := vsz_ne nf
  have b := vsz_ne ng
  unfold divV
  rw [if_neg (by rintro (⟨c, -⟩ | ⟨⟨-, c⟩, -⟩); cases c; exact a c), if_neg (fun c => by cases c), if_neg (by rintro (c | c); cases c; exact a c)]
  exact if_neg b
/-- The product and sum, by kinds. -/
theorem fmaF_val {m : Int} {f g h : Nat} (hf : fsz f ≤ 9218868437227405312) (hg : fsz g ≤ 9218868437227405312) (hh : fsz h ≤ 9218868437227405312) : fmaF m f g h = withMul (mulV (valF f) (valF g)) (fun v => addV m v (valF h)) := by
  unfold fmaF; rw [isNan_le hf, isNan_le hg, isNan_le hh]; exact if_neg (by simp)
theorem fmaF_nan {m : Int} {f g h : Nat} (k : isNan f = true ∨ isNan g = true ∨ isNan h = true) : fmaF m f g h = (9221120237041090560, 0) := by
  unfold fmaF; exact if_pos (by rcases k with k | k | k <;> simp [k])
theorem addF_val {m : Int} {f g : Nat} (hf : fsz f ≤ 9218868437227405312) (hg : fsz g ≤ 9218868437227405312) : addF m f g = addV m (valF f) (valF g) := by
  unfold addF; rw [isNan_le hf, isNan_le hg]; exact if_neg (by simp)
theorem inf_facts (s : Bool) : fsz (sgn s + 9218868437227405312) = 9218868437227405312 ∧ fneg (sgn s + 9218868437227405312) = s ∧ sgn s + 9218868437227405312 < 18446744073709551616 := by cases s <;> decide +kernel
theorem nought_facts (s : Bool) : fsz (sgn s) = 0 ∧ fneg (sgn s) = s ∧ sgn s < 18446744073709551616 := by cases s <;> decide +kernel
theorem fmaF_inf {m : Int} {f g h : Nat} (k : (fsz f = 9218868437227405312 ∧ fsz g ≠ 0 ∧ fsz g ≤ 9218868437227405312) ∨ (fsz f ≠ 0 ∧ fsz f ≤ 9218868437227405312 ∧ fsz g = 9218868437227405312)) (hh : fsz h ≤ 9218868437227405312) :
    fmaF m f g h = addF m (sgn (fneg f != fneg g) + 9218868437227405312) h := by
  obtain ⟨i1, i2, -⟩ := inf_facts (fneg f != fneg g)
  rw [fmaF_val (by rcases k with k | k <;> omega) (by rcases k with k | k <;> omega) hh, mulV_inf (by rcases k with k | k; exact Or.inl ⟨k.1, k.2.1⟩; exact Or.inr ⟨k.1, k.2.2⟩), withMul_some, addF_val (by omega) hh, valF_inf i1, i2]
theorem fmaF_end {m : Int} {f g h : Nat} (hf : fsz f < 9218868437227405312) (hg : fsz g < 9218868437227405312) (hh : fsz h = 9218868437227405312) (hl : h < 18446744073709551616) : fmaF m f g h = (h, 0) := by
  rw [fmaF_val (by omega) (by omega) (by omega), mulV_fin hf hg, withMul_some, valF_inf hh]
  unfold addV
  rw [if_neg (fun c => by cases c.1), if_neg (fun c => by cases c), if_pos rfl, ← sgn_inf hl hh]
  rw [sgn_inf hl hh]
  have := rdV_inf m (fneg h)
  rw [sgn_inf hl hh] at this
  exact this
theorem addV_nought (m : Int) (s : Bool) (x y : Int) (w : Bool × Bool × Nat × Int) : addV m (s, false, 0, x) w = addV m (s, false, 0, y) w := by
  have e1 : plusV (s, false, 0, x) w = w := plusV_sign0 _ _ rfl
  have e2 : plusV (s, false, 0, y) w = w := plusV_sign0 _ _ rfl
  unfold addV
  rw [e1, e2]
  simp only [Bool.false_eq_true, false_and, if_false]
theorem fmaF_nought {m : Int} {f g h : Nat} (hf : fsz f < 9218868437227405312) (hg : fsz g < 9218868437227405312) (k : fsz f = 0 ∨ fsz g = 0) (hh : fsz h ≤ 9218868437227405312) : fmaF m f g h = addF m (sgn (fneg f != fneg g)) h := by
  obtain ⟨i1, i2, -⟩ := nought_facts (fneg f != fneg g)
  have e : vsz f * vsz g = 0 := by
    rcases k with k | k
    · rw [vsz_zero k, Nat.zero_mul]
    · rw [vsz_zero k, Nat.mul_zero]
  rw [fmaF_val (by omega) (by omega) hh, mulV_fin hf hg, withMul_some, e, addF_val (by omega) hh, valF_fin (f := sgn (fneg f != fneg g)) (by omega), i2, vsz_zero i1]
  exact addV_nought m _ _ _ _
theorem fmaF_fin (m : Int) {f g h : Nat} (hf : fsz f < 9218868437227405312) (hg : fsz g < 9218868437227405312) (hh : fsz h < 9218868437227405312) (nf : fsz f ≠ 0) (ng : fsz g ≠ 0) : fmaF m f g h = sumN m (fvQ f * fvQ g + fvQ h) := by
  rw [fmaF_val (by omega) (by omega) (by omega), mulV_fin hf hg, withMul_some, fvQ_mul, ← vlQ_fin hh, valF_fin hh]
  exact addV_sum m _ _ _ _ (mul106 f g) (vsz_lt106 h) (Or.inl (mul_ne nf ng))
theorem fmaF_prod (m : Int) {f g h : Nat} (hf : fsz f < 9218868437227405312) (hg : fsz g < 9218868437227405312) (hh : fsz h = 0) (nf : fsz f ≠ 0) (ng : fsz g ≠ 0) : fmaF m f g h = ofN m (fvQ f * fvQ g) := by
  rw [fmaF_fin m hf hg (by omega) nf ng, fvQ_zero hh, Rat.add_zero]
  unfold sumN
  exact if_neg (mulQ_ne nf ng)
end Go.Proofs.YtcfhajnboamnnaaDoor
