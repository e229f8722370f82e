/- Floats, mathematics: however a number stands, by a size and an exponent, it is rounded to the same. -/
/- Floats, mathematics: quotients stand for what they are; however a number stands, it is rounded as the second telling says. -/
import Derived.Test.YtcfhajnboamnnaaDoorYXFM
import Derived.Test.YtcfhajnboamnnaaDoorXFP
namespace Go.Proofs.YtcfhajnboamnnaaDoor
open Go.RowKit
set_option linter.unusedVariables false
/-- A power of two. -/
def z2 (e : Int) : Rat := (2 : Rat) ^ e
theorem z2_pos (e : Int) : 0 < z2 e := Rat.zpow_pos (by decide)
theorem z2_add (a b : Int) : z2 (a + b) = z2 a * z2 b := Rat.zpow_add (by decide) a b
theorem z2_zero : z2 0 = 1 := Rat.zpow_zero 2
theorem z2_nat (n : Nat) : z2 (n : Int) = ((2 ^ n : Nat) : Rat) := by
  unfold z2; rw [Rat.zpow_natCast]; rw [Rat.natCast_pow]; rfl
theorem z2_inv (a : Int) : z2 (-a) * z2 a = 1 := by rw [← z2_add, Int.add_left_neg, z2_zero]
theorem z2_le {a b : Int} (h : a ≤ b) : z2 a ≤ z2 b := by
  have e : z2 b = z2 a * z2 (b - a) := by rw [← z2_add]; congr 1; omega
  have h1 : (1 : Rat) ≤ z2 (b - a) := by
    obtain ⟨n, hn⟩ : ∃ n : Nat, b - a = (n : Int) := ⟨(b - a).toNat, by omega⟩
    rw [hn, z2_nat]
    have : ((1 : Nat) : Rat) ≤ ((2 ^ n : Nat) : Rat) := Rat.natCast_le_natCast.2 (Nat.two_pow_pos n)
    exact this
  have h2 := Rat.mul_le_mul_of_nonneg_left h1 (Rat.le_of_lt (z2_pos a))
  rw [e]; grind
theorem mulz_lt {a b : Rat} (h : a < b) (e : Int) : a * z2 e < b * z2 e := Rat.mul_lt_mul_of_pos_right h (z2_pos e)
theorem mulz_le {a b : Rat} (h : a ≤ b) (e : Int) : a * z2 e ≤ b * z2 e := Rat.mul_le_mul_of_nonneg_right h (Rat.le_of_lt (z2_pos e))
theorem mulz_lt_iff {a b : Rat} (e : Int) : a * z2 e < b * z2 e ↔ a < b := by
  constructor
  · intro h
    have h1 := mulz_lt h (-e)
    have h2 := z2_inv e
    have e1 : a * z2 e * z2 (-e) = a := by grind
    have e2 : b * z2 e * z2 (-e) = b := by grind
    rw [e1, e2] at h1; exact h1
  · exact fun h => mulz_lt h e
theorem mulz_le_iff {a b : Rat} (e : Int) : a * z2 e ≤ b * z2 e ↔ a ≤ b := by
  constructor
  · intro h
    have h1 := mulz_le h (-e)
    have h2 := z2_inv e
    have e1 : a * z2 e * z2 (-e) = a := by grind
    have e2 : b * z2 e * z2 (-e) = b := by grind
    rw [e1, e2] at h1; exact h1
  · exact fun h => mulz_le h e
theorem z2_lt_of {a b : Int} (h : z2 a < z2 b) : a < b := by
  by_cases c : a < b
  · exact c
  · have := z2_le (show b ≤ a by omega)
    grind
/-- A number, rounded to a whole one: itself, or the odd one that it is near. -/
def St (k : Nat) (y : Rat) : Prop := y = (k : Rat) ∨ (k % 2 = 1 ∧ (k : Rat) - 1 < y ∧ y < (k : Rat) + 1)
theorem nat_lt {a b : Nat} (h : (a : Rat) < (b : Rat)) : a < b := Rat.natCast_lt_natCast.1 h
theorem nat_le {a b : Nat} (h : (a : Rat) ≤ (b : Rat)) : a ≤ b := Rat.natCast_le_natCast.1 h
theorem cast_succ (a : Nat) : ((a + 1 : Nat) : Rat) = (a : Rat) + 1 := by rw [Rat.natCast_add]; rfl
theorem cast_add (a b : Nat) : ((a + b : Nat) : Rat) = (a : Rat) + (b : Rat) := Rat.natCast_add a b
theorem cast_mul (a b : Nat) : ((a * b : Nat) : Rat) = (a : Rat) * (b : Rat) := Rat.natCast_mul a b
theorem St.unique {k l : Nat} {y : Rat} (h : St k y) (g : St l y) : k = l := by
  have key : ∀ {a b : Nat}, (a : Rat) < (b : Rat) + 1 → a ≤ b := fun {a b} h => by
    have : (a : Rat) < ((b + 1 : Nat) : Rat) := by rw [cast_succ]; exact h
    have := nat_lt this; omega
  have key2 : ∀ {a b : Nat}, (a : Rat) < (b : Rat) + 2 → a ≤ b + 1 := fun {a b} h => by
    apply key; rw [cast_succ]; grind
  rcases h with h | ⟨h1, h2, h3⟩ <;> rcases g with g | ⟨g1, g2, g3⟩
  · have a1 := key (a := k) (b := l) (by grind)
    have a2 := key (a := l) (b := k) (by grind)
    omega
  · have a1 := key (a := k) (b := l) (by grind)
    have a2 := key (a := l) (b := k) (by grind)
    omega
  · have a1 := key (a := k) (b := l) (by grind)
    have a2 := key (a := l) (b := k) (by grind)
    omega
  · have a1 := key2 (a := k) (b := l) (by grind)
    have a2 := key2 (a := l) (b := k) (by grind)
    omega
theorem dn_odd {V k : Nat} (hV : V % 2 ^ k ≠ 0) : dn V k = V / 2 ^ k + (1 - V / 2 ^ k % 2) := by
  unfold dn; rw [or_stk, if_neg hV]
theorem St.dn {V : Nat} {y : Rat} (h : St V y) (k : Nat) : St (dn V k) (y * z2 (-(k : Int))) := by
  have hz := z2_inv (k : Int)
  have hp := z2_pos (-(k : Int))
  rw [z2_nat] at hz
  have hm := Nat.div_add_mod V (2 ^ k)
  have hlt := Nat.mod_lt V (Nat.two_pow_pos k)
  have e : (V : Rat) = ((2 ^ k : Nat) : Rat) * ((V / 2 ^ k : Nat) : Rat) + ((V % 2 ^ k : Nat) : Rat) := by
    rw [← cast_mul, ← cast_add, hm]
  have hz2 := z2_pos (k : Int)
  rw [z2_nat] at hz2
  by_cases c : V % 2 ^ k = 0
  · by_cases k0 : k = 0
    · subst k0
      rw [dn_zero, show -((0 : Nat) : Int) = 0 from rfl, z2_zero, Rat.mul_one]; exact h
    · rcases h with h | ⟨h1, -, -⟩
      · left
        have ed : Go.Proofs.YtcfhajnboamnnaaDoor.dn V k = V / 2 ^ k := by unfold Go.Proofs.YtcfhajnboamnnaaDoor.dn; rw [or_stk, if_pos c]
        rw [ed, h, e, c]
        generalize ((V / 2 ^ k : Nat) : Rat) = a
        generalize ((2 ^ k : Nat) : Rat) = P at *
        have : ((0 : Nat) : Rat) = 0 := rfl
        grind
      · exfalso
        obtain ⟨j, rfl⟩ : ∃ j, k = j + 1 := ⟨k - 1, by omega⟩
        have : V % 2 = 0 := by
          have := Nat.mod_mod_of_dvd V (show 2 ∣ 2 ^ (j + 1) from ⟨2 ^ j, by rw [Nat.pow_succ, Nat.mul_comm]⟩)
          rw [c] at this; omega
        omega
  · right
    have ed := dn_odd c
    have hy : ((2 ^ k : Nat) : Rat) * ((V / 2 ^ k : Nat) : Rat) < y ∧ y < ((2 ^ k : Nat) : Rat) * (((V / 2 ^ k : Nat) : Rat) + 1) := by
      have b1 : (1 : Rat) ≤ ((V % 2 ^ k : Nat) : Rat) := by
        have : ((1 : Nat) : Rat) ≤ ((V % 2 ^ k : Nat) : Rat) := Rat.natCast_le_natCast.2 (by omega)
        exact this
      have b2 : ((V % 2 ^ k : Nat) : Rat) + 1 ≤ ((2 ^ k : Nat) : Rat) := by
        rw [← cast_succ]; exact Rat.natCast_le_natCast.2 (by omega)
      rcases h with h | ⟨h1, h2, h3⟩ <;> grind
    have g1 := mulz_lt hy.1 (-(k : Int))
    have g2 := mulz_lt hy.2 (-(k : Int))
    generalize ((2 ^ k : Nat) : Rat) = P at *
    have c1 : P * ((V / 2 ^ k : Nat) : Rat) * z2 (-(k : Int)) = ((V / 2 ^ k : Nat) : Rat) := by grind
    have c2 : P * (((V / 2 ^ k : Nat) : Rat) + 1) * z2 (-(k : Int)) = ((V / 2 ^ k : Nat) : Rat) + 1 := by grind
    rw [c1] at g1
    rw [c2] at g2
    rw [ed]
    generalize V / 2 ^ k = a at *
    by_cases o : a % 2 = 1
    · rw [o]
      refine ⟨by omega, ?_, ?_⟩
      · show ((a : Nat) : Rat) - 1 < _; grind
      · show _ < ((a : Nat) : Rat) + 1; grind
    · have o' : a % 2 = 0 := by omega
      rw [o']
      refine ⟨by omega, ?_, ?_⟩
      · show ((a + 1 : Nat) : Rat) - 1 < _; rw [cast_succ]; grind
      · show _ < ((a + 1 : Nat) : Rat) + 1; rw [cast_succ]; grind
/-- A size and an exponent stand for a number: just, or, of many bits, to the odd. -/
def Stands (V : Nat) (x : Int) (r : Rat) : Prop := V < 340282366920938463463374607431768211456 ∧ V ≠ 0 ∧ ((V : Rat) * z2 x = r ∨ (36028797018963968 ≤ V ∧ St V (r * z2 (-x))))
/-- The exponent of a number's size. -/
def Lg (r : Rat) (p : Int) : Prop := z2 p ≤ r ∧ r < z2 (p + 1)
theorem Lg.unique {r : Rat} {p q : Int} (h : Lg r p) (g : Lg r q) : p = q := by
  have h1 := z2_lt_of (a := p) (b := q + 1) (by have := h.1; have := g.2; grind)
  have h2 := z2_lt_of (a := q) (b := p + 1) (by have := h.2; have := g.1; grind)
  omega
theorem Stands.st {V : Nat} {x : Int} {r : Rat} (h : Stands V x r) : St V (r * z2 (-x)) := by
  obtain ⟨-, -, h | h⟩ := h
  · left; rw [← h, Rat.mul_assoc, Rat.mul_comm (z2 x), z2_inv, Rat.mul_one]
  · exact h.2
theorem back_z (r : Rat) (x : Int) : r * z2 (-x) * z2 x = r := by rw [Rat.mul_assoc, z2_inv, Rat.mul_one]
theorem Stands.lg {V : Nat} {x : Int} {r : Rat} (h : Stands V x r) : Lg r ((blen V : Int) - 1 + x) := by
  have hs := h.st
  obtain ⟨hlt, h0, hc⟩ := h
  have hp := blen_pos h0
  have l1 : 2 ^ (blen V - 1) ≤ V := by
    have : ¬ V < 2 ^ (blen V - 1) := fun c => by have := (blen_le_iff V (blen V - 1)).2 c; omega
    omega
  have l2 := lt_blen V
  have key : ((2 ^ (blen V - 1) : Nat) : Rat) ≤ r * z2 (-x) ∧ r * z2 (-x) < ((2 ^ blen V : Nat) : Rat) := by
    rcases hc with hc | ⟨hc, -⟩
    · have e : r * z2 (-x) = (V : Rat) := by rw [← hc, Rat.mul_assoc, Rat.mul_comm (z2 x), z2_inv, Rat.mul_one]
      rw [e]
      exact ⟨Rat.natCast_le_natCast.2 l1, Rat.natCast_lt_natCast.2 l2⟩
    · rcases hs with hs | ⟨o, s1, s2⟩
      · rw [hs]; exact ⟨Rat.natCast_le_natCast.2 l1, Rat.natCast_lt_natCast.2 l2⟩
      · have hb : 2 ≤ blen V := by
          by_cases c : blen V ≤ 1
          · have := (blen_le_iff V 1).1 c; omega
          · omega
        have e1 : 2 ^ (blen V - 1) % 2 = 0 := by
          rw [show blen V - 1 = (blen V - 2) + 1 by omega, Nat.pow_succ]; omega
        have m1 : 2 ^ (blen V - 1) + 1 ≤ V := by
          have : V ≠ 2 ^ (blen V - 1) := fun c => by rw [← c] at e1; omega
          omega
        have m2 : V + 1 ≤ 2 ^ blen V := l2
        have m1' : ((2 ^ (blen V - 1) : Nat) : Rat) + 1 ≤ (V : Rat) := by rw [← cast_succ]; exact Rat.natCast_le_natCast.2 m1
        have m2' : (V : Rat) + 1 ≤ ((2 ^ blen V : Nat) : Rat) := by rw [← cast_succ]; exact Rat.natCast_le_natCast.2 m2
        grind
  obtain ⟨k1, k2⟩ := key
  have k1' := mulz_le k1 x
  have k2' := mulz_lt k2 x
  rw [back_z] at k1' k2'
  rw [← z2_nat, ← z2_add] at k1' k2'
  refine ⟨?_, ?_⟩
  · rw [show (blen V : Int) - 1 + x = ((blen V - 1 : Nat) : Int) + x by omega]; exact k1'
  · rw [show (blen V : Int) - 1 + x + 1 = ((blen V : Nat) : Int) + x by omega]; exact k2'
theorem Stands.hi {V : Nat} {x : Int} {r : Rat} (h : Stands V x r) {p : Int} (g : Lg r p) : hiP V x = p - 52 := by
  have h1 := h.lg.unique g
  have hp := blen_pos h.2.1
  have hb : blen V ≤ 128 := (blen_le_iff V 128).2 h.1
  unfold hiP lsh
  omega
theorem Stands.kpt {V : Nat} {x : Int} {r : Rat} (h : Stands V x r) : St (kpt V x) (r * z2 (2 - plP V x)) := by
  have hs := h.st
  obtain ⟨hlt, h0, hc⟩ := h
  have hp := blen_pos h0
  have hb : blen V ≤ 128 := (blen_le_iff V 128).2 hlt
  have hpl : x - (lsh V 0 : Int) + 75 ≤ plP V x := by unfold plP hiP; omega
  have hsh : (shP V x : Int) = plP V x - 2 - (x - (lsh V 0 : Int)) := by unfold shP; omega
  unfold Go.Proofs.YtcfhajnboamnnaaDoor.kpt
  rcases hc with hc | ⟨hc, -⟩
  · have e : St (V * 2 ^ lsh V 0) (r * z2 (-(x - (lsh V 0 : Int)))) := by
      left
      rw [← hc, cast_mul, ← z2_nat, Rat.mul_assoc, ← z2_add]
      congr 2; omega
    have e2 := e.dn (shP V x)
    rw [Rat.mul_assoc, ← z2_add] at e2
    rw [show 2 - plP V x = -(x - (lsh V 0 : Int)) + -(shP V x : Int) by omega]
    exact e2
  · have h56 : 56 ≤ blen V := by
      by_cases c : blen V ≤ 55
      · have := (blen_le_iff V 55).1 c
        have e : (2 : Nat) ^ 55 = 36028797018963968 := by decide
        rw [e] at this; omega
      · omega
    have hl : (lsh V 0 : Int) = 128 - blen V := by unfold lsh; omega
    obtain ⟨j, hj⟩ : ∃ j : Nat, (j : Int) = plP V x - 2 - x := ⟨(plP V x - 2 - x).toNat, by omega⟩
    have e1 : shP V x = j + lsh V 0 := by omega
    have e2 : Go.Proofs.YtcfhajnboamnnaaDoor.dn (V * 2 ^ lsh V 0) (j + lsh V 0) = Go.Proofs.YtcfhajnboamnnaaDoor.dn V j := by
      unfold Go.Proofs.YtcfhajnboamnnaaDoor.dn
      have hM : 0 < 2 ^ lsh V 0 := Nat.two_pow_pos _
      rw [Nat.pow_add, Nat.mul_div_mul_right _ _ hM, Nat.mul_mod_mul_right]
      congr 1
      unfold stk
      by_cases c : V % 2 ^ j = 0
      · rw [c]; simp
      · rw [if_neg c, if_neg (Nat.mul_ne_zero c (by omega))]
    rw [e1, e2]
    have e3 := hs.dn j
    rw [Rat.mul_assoc, ← z2_add] at e3
    rw [show 2 - plP V x = -x + -(j : Int) by omega]
    exact e3
/-- However a number stands, it is rounded to the same. -/
theorem rnd_stands {V W : Nat} {x y : Int} {r : Rat} (h : Stands V x r) (g : Stands W y r) (m : Int) (s : Bool) : rdV m (s, false, V, x) = rdV m (s, false, W, y) := by
  have h1 := h.hi h.lg
  have g1 := g.hi h.lg
  have e1 : hiP V x = hiP W y := by omega
  have e2 : plP V x = plP W y := by unfold plP; rw [e1]
  have e3 : Go.Proofs.YtcfhajnboamnnaaDoor.kpt V x = Go.Proofs.YtcfhajnboamnnaaDoor.kpt W y := by
    have := h.kpt
    rw [e2] at this
    exact this.unique g.kpt
  have e4 : szP m s V x = szP m s W y := by unfold szP fdP; rw [e2, e3]
  have k1 : rdV m (s, false, V, x) = (rnd m s V x, rndF m s V x) := by
    unfold rdV; rw [if_neg (fun h => by cases h), if_neg h.2.1]
  have k2 : rdV m (s, false, W, y) = (rnd m s W y, rndF m s W y) := by
    unfold rdV; rw [if_neg (fun h => by cases h), if_neg g.2.1]
  rw [k1, k2]
  unfold rnd rndF
  rw [e4, e3, e1]
end Go.Proofs.YtcfhajnboamnnaaDoor

namespace Go.Proofs.YtcfhajnboamnnaaDoor
open Go.RowKit
set_option linter.unusedVariables false
/-- Rounded, a size and an exponent are as this number is. -/
structure Rnd (V : Nat) (x : Int) (r : Rat) : Prop where
  ne : V ≠ 0
  lt : V < 340282366920938463463374607431768211456
  lg : ∃ p, Lg r p ∧ hiP V x = p - 52
  st : St (Go.Proofs.YtcfhajnboamnnaaDoor.kpt V x) (r * z2 (2 - plP V x))
theorem Stands.rnd {V : Nat} {x : Int} {r : Rat} (h : Stands V x r) : Rnd V x r := ⟨h.2.1, h.1, ⟨_, h.lg, h.hi h.lg⟩, h.kpt⟩
theorem Rnd.same {V W : Nat} {x y : Int} {r : Rat} (h : Rnd V x r) (g : Rnd W y r) (m : Int) (s : Bool) : rdV m (s, false, V, x) = rdV m (s, false, W, y) := by
  obtain ⟨p, h1, h2⟩ := h.lg
  obtain ⟨p', g1, g2⟩ := g.lg
  have e0 := h1.unique g1
  have e1 : hiP V x = hiP W y := by omega
  have e2 : plP V x = plP W y := by unfold plP; rw [e1]
  have e3 : Go.Proofs.YtcfhajnboamnnaaDoor.kpt V x = Go.Proofs.YtcfhajnboamnnaaDoor.kpt W y := by
    have := h.st
    rw [e2] at this
    exact this.unique g.st
  have e4 : szP m s V x = szP m s W y := by unfold szP fdP; rw [e2, e3]
  have k1 : rdV m (s, false, V, x) = (rnd m s V x, rndF m s V x) := by
    unfold rdV; rw [if_neg (fun h => by cases h), if_neg h.ne]
  have k2 : rdV m (s, false, W, y) = (rnd m s W y, rndF m s W y) := by
    unfold rdV; rw [if_neg (fun h => by cases h), if_neg g.ne]
  rw [k1, k2]
  unfold rnd rndF
  rw [e4, e3, e1]
/-- A quotient of natural numbers. -/
def qt (A B : Nat) : Rat := (A : Rat) / (B : Rat)
theorem nat_pos {B : Nat} (h : 0 < B) : (0 : Rat) < (B : Rat) := by
  have : ((0 : Nat) : Rat) < (B : Rat) := Rat.natCast_lt_natCast.2 h
  exact this
theorem qt_mul {A B : Nat} (h : 0 < B) : qt A B * (B : Rat) = (A : Rat) := by
  unfold qt
  have := nat_pos h
  rw [Rat.div_def, Rat.mul_assoc, Rat.inv_mul_cancel _ (by grind), Rat.mul_one]
theorem qt_unique {A B : Nat} {r : Rat} (h : 0 < B) (e : r * (B : Rat) = (A : Rat)) : r = qt A B := by
  have h1 := qt_mul (A := A) h
  have h2 := nat_pos h
  have : r * (B : Rat) = qt A B * (B : Rat) := by rw [e, h1]
  have h3 : (B : Rat) ≠ 0 := by grind
  calc r = r * (B : Rat) * (B : Rat)⁻¹ := by rw [Rat.mul_assoc, Rat.mul_inv_cancel _ h3, Rat.mul_one]
    _ = _ := by rw [this, Rat.mul_assoc, Rat.mul_inv_cancel _ h3, Rat.mul_one]
theorem mulp_lt {a b c : Rat} (hc : 0 < c) : a * c < b * c → a < b := fun h => by
  have h2 : (0 : Rat) < c⁻¹ := Rat.inv_pos.2 hc
  have h1 := Rat.mul_lt_mul_of_pos_right h h2
  have e : c * c⁻¹ = 1 := Rat.mul_inv_cancel _ (by grind)
  have e1 : a * c * c⁻¹ = a := by rw [Rat.mul_assoc, e, Rat.mul_one]
  have e2 : b * c * c⁻¹ = b := by rw [Rat.mul_assoc, e, Rat.mul_one]
  rw [e1, e2] at h1; exact h1
theorem mulp_le {a b c : Rat} (hc : 0 < c) (h : a * c ≤ b * c) : a ≤ b := by
  by_cases d : b < a
  · have := Rat.mul_lt_mul_of_pos_right d hc; grind
  · grind
theorem qt_floor {A B : Nat} (h : 0 < B) : ((A / B : Nat) : Rat) ≤ qt A B ∧ qt A B < ((A / B : Nat) : Rat) + 1 := by
  have h1 := qt_mul (A := A) h
  have h2 := nat_pos h
  have h3 : A / B * B ≤ A := Nat.div_mul_le_self A B
  have h4 : A < (A / B + 1) * B := by
    have := Nat.lt_div_mul_add (a := A) h
    rw [Nat.add_mul, Nat.one_mul]; exact this
  have h3' : ((A / B : Nat) : Rat) * (B : Rat) ≤ (A : Rat) := by rw [← cast_mul]; exact Rat.natCast_le_natCast.2 h3
  have h4' : (A : Rat) < (((A / B : Nat) : Rat) + 1) * (B : Rat) := by rw [← cast_succ, ← cast_mul]; exact Rat.natCast_lt_natCast.2 h4
  exact ⟨mulp_le h2 (by rw [h1]; exact h3'), mulp_lt h2 (by rw [h1]; exact h4')⟩
theorem qt_exact {A B : Nat} (h : 0 < B) (e : A % B = 0) : qt A B = ((A / B : Nat) : Rat) := by
  refine (qt_unique h ?_).symm
  rw [← cast_mul]
  congr 1
  have := Nat.div_add_mod A B
  rw [e, Nat.add_zero, Nat.mul_comm] at this
  exact this
theorem qt_strict {A B : Nat} (h : 0 < B) (e : A % B ≠ 0) : ((A / B : Nat) : Rat) < qt A B := by
  have h2 := nat_pos h
  have h1 := qt_mul (A := A) h
  refine mulp_lt h2 ?_
  rw [h1, ← cast_mul]
  refine Rat.natCast_lt_natCast.2 ?_
  have := Nat.div_add_mod A B
  rw [Nat.mul_comm]
  omega
theorem St_sf {A B : Nat} (h : 0 < B) : St (sf A B) (qt A B) := by
  unfold sf
  rw [or_stk]
  by_cases c : A % B = 0
  · left; rw [if_pos c]; exact qt_exact h c
  · right
    rw [if_neg c]
    have h1 := qt_strict h c
    have h2 := (qt_floor (A := A) h).2
    generalize A / B = a at *
    by_cases o : a % 2 = 1
    · rw [o]
      exact ⟨by omega, by show ((a : Nat) : Rat) - 1 < _; grind, h2⟩
    · rw [show a % 2 = 0 by omega]
      refine ⟨by omega, ?_, ?_⟩
      · show ((a + 1 : Nat) : Rat) - 1 < _; rw [cast_succ]; grind
      · show _ < ((a + 1 : Nat) : Rat) + 1; rw [cast_succ]; grind
theorem qt_pow {A B : Nat} (h : 0 < B) (j : Nat) : qt A (B * 2 ^ j) = qt A B * z2 (-(j : Int)) := by
  refine (qt_unique (Nat.mul_pos h (Nat.two_pow_pos j)) ?_).symm
  rw [cast_mul, ← z2_nat, ← qt_mul (A := A) h]
  have := z2_inv (j : Int)
  grind
theorem qt_scale (N : Nat) {D : Nat} (h : 0 < D) (e : Int) : qt (N * 2 ^ e.toNat) (D * 2 ^ (-e).toNat) = qt N D * z2 e := by
  refine (qt_unique (Nat.mul_pos h (Nat.two_pow_pos _)) ?_).symm
  rw [cast_mul, cast_mul, ← z2_nat, ← z2_nat, ← qt_mul (A := N) h]
  have : z2 (e.toNat : Int) = z2 e * z2 ((-e).toNat : Int) := by rw [← z2_add]; congr 1; omega
  rw [this]
  grind
/-- A quotient of so many bits, with a mark for what is lost, stands for it. -/
theorem Coarse {A B : Nat} (hB : 0 < B) (h1 : 4611686018427387904 ≤ A / B) (h2 : A / B < 18446744073709551616) (x : Int) : Rnd (A / B * 18446744073709551616 + stk (A % B)) x (qt A B * z2 (x + 64)) := by
  have hs := stk_lt (A % B)
  have hq : A / B ≠ 0 := by omega
  have hp := blen_pos hq
  have l1 : 2 ^ (blen (A / B) - 1) ≤ A / B := by
    have : ¬ A / B < 2 ^ (blen (A / B) - 1) := fun c => by have := (blen_le_iff (A / B) (blen (A / B) - 1)).2 c; omega
    omega
  have l2 := lt_blen (A / B)
  have hb1 : blen (A / B) = 63 ∨ blen (A / B) = 64 := by
    have a1 := (blen_le_iff (A / B) 64).2 h2
    have a2 : ¬ blen (A / B) ≤ 62 := fun c => by have := (blen_le_iff (A / B) 62).1 c; simp at this; omega
    omega
  have hb : lsh (A / B * 18446744073709551616 + stk (A % B)) 0 = 64 - blen (A / B) := by
    unfold lsh
    rcases hb1 with b | b
    · rw [b] at l1 l2 ⊢
      simp at l1 l2
      rw [blen_eq (k := 126) (by show 85070591730234615865843651857942052864 ≤ _; omega) (by show _ < 170141183460469231731687303715884105728; omega)]
    · rw [b] at l1 l2 ⊢
      simp at l1 l2
      rw [blen_eq (k := 127) (by show 170141183460469231731687303715884105728 ≤ _; omega) (by show _ < 340282366920938463463374607431768211456; omega)]
  have hf := qt_floor (A := A) hB
  have hlg : Lg (qt A B * z2 (x + 64)) ((blen (A / B) : Int) - 1 + (x + 64)) := by
    have k1 : z2 ((blen (A / B) : Int) - 1) ≤ qt A B := by
      rw [show (blen (A / B) : Int) - 1 = ((blen (A / B) - 1 : Nat) : Int) by omega, z2_nat]
      have : ((2 ^ (blen (A / B) - 1) : Nat) : Rat) ≤ ((A / B : Nat) : Rat) := Rat.natCast_le_natCast.2 l1
      grind
    have k2 : qt A B < z2 ((blen (A / B) : Nat) : Int) := by
      rw [z2_nat]
      have : ((A / B : Nat) : Rat) + 1 ≤ ((2 ^ blen (A / B) : Nat) : Rat) := by rw [← cast_succ]; exact Rat.natCast_le_natCast.2 l2
      grind
    refine ⟨?_, ?_⟩
    · rw [z2_add]; exact mulz_le k1 _
    · rw [show (blen (A / B) : Int) - 1 + (x + 64) + 1 = ((blen (A / B) : Nat) : Int) + (x + 64) by omega, show z2 (((blen (A / B) : Nat) : Int) + (x + 64)) = z2 ((blen (A / B) : Nat) : Int) * z2 (x + 64) from z2_add _ _]; exact mulz_lt k2 _
  have hhi : hiP (A / B * 18446744073709551616 + stk (A % B)) x = (blen (A / B) : Int) - 1 + (x + 64) - 52 := by
    unfold hiP; rw [hb]; omega
  refine ⟨by omega, by omega, ⟨_, hlg, hhi⟩, ?_⟩
  have hpl : (blen (A / B) : Int) - 1 + (x + 64) - 52 ≤ plP (A / B * 18446744073709551616 + stk (A % B)) x := by unfold plP; rw [hhi]; omega
  generalize hP : plP (A / B * 18446744073709551616 + stk (A % B)) x = P at *
  have hk : shP (A / B * 18446744073709551616 + stk (A % B)) x = (P - 2 - x - 64).toNat + (64 + lsh (A / B * 18446744073709551616 + stk (A % B)) 0) := by
    unfold shP
    rw [hP]
    omega
  have hj : ((P - 2 - x - 64).toNat : Int) = P - 2 - x - 64 := by omega
  unfold Go.Proofs.YtcfhajnboamnnaaDoor.kpt
  rw [hk, dn_sf]
  have := St_sf (A := A) (B := B * 2 ^ (P - 2 - x - 64).toNat) (Nat.mul_pos hB (Nat.two_pow_pos _))
  rw [qt_pow hB] at this
  rw [Rat.mul_assoc, ← z2_add]
  rw [show x + 64 + (2 - P) = -((P - 2 - x - 64).toNat : Int) by omega]
  exact this
/-- A number as the program tells it stands for itself. -/
theorem ratV_rnd {N D : Nat} (hN : N ≠ 0) (hD : D ≠ 0) (s : Bool) : Rnd (ratV s N D).2.2.1 (ratV s N D).2.2.2 (qt N D) := by
  have hp := rtD_pos (N := N) hD
  have h := Coarse hp (rt_ge hN hD) (rt_lt (N := N) hD) (-(rtS N D) - 64)
  have e : qt (rtN N D) (rtD N D) * z2 (-(rtS N D) - 64 + 64) = qt N D := by
    unfold rtN rtD
    rw [qt_scale N (by omega), Rat.mul_assoc, ← z2_add, show rtS N D + (-(rtS N D) - 64 + 64) = 0 by omega, z2_zero, Rat.mul_one]
  rw [e] at h
  exact h
/-- However a number stands, it is rounded as the second telling says. -/
theorem ofR_rnd {N D V : Nat} {x : Int} (hN : N ≠ 0) (hD : D ≠ 0) (h : Rnd V x (qt N D)) (m : Int) (s : Bool) : rdV m (s, false, V, x) = ofR m s N D := by
  rw [ofR_eq m s hD, if_neg hN]
  exact h.same (ratV_rnd hN hD s) m s
end Go.Proofs.YtcfhajnboamnnaaDoor
