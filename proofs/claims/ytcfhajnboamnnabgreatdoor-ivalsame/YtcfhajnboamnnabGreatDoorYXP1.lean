/- Plain mathematics of rational numbers as the program reckons with them: lowest terms found without the long products. -/
/- The program's rational numbers: isNought, isOne, signed, over, Make, size, Of. -/
import Derived.Test.YtcfhajnboamnnabGreatDoorKI
import Derived.Test.YtcfhajnboamnnabGreatDoorYKG
namespace Go.Proofs.YtcfhajnboamnnabGreatDoor

theorem mkQ_sign {s : Bool} {n d : Nat} (hd : d ≠ 0) : negQ (mkQ s n d) = (s && n / Nat.gcd n d != 0) := by
  unfold negQ
  rw [mkQ_num hd]
  generalize n / Nat.gcd n d = k
  rw [Bool.eq_iff_iff]
  cases s <;> simp [sgQ] <;> omega

/-- The sign and the size of a sum. -/
def plusS (s : Bool) (m : Nat) (t : Bool) (n : Nat) : Bool := if s = t then s else if m < n then t else s
def plusN (s : Bool) (m : Nat) (t : Bool) (n : Nat) : Nat := if s = t then m + n else if m < n then n - m else m - n
theorem plus_sgn (s : Bool) (m : Nat) (t : Bool) (n : Nat) : sgQ (plusS s m t n) (plusN s m t n) = sgQ s m + sgQ t n := by
  unfold plusS plusN
  by_cases h : m < n <;> cases s <;> cases t <;> simp [sgQ, h] <;> omega

/-- The sum, its lowest terms found by what both denominators share. -/
theorem Q_sum (a b : Rat) (s : Bool) (z : Nat) (hz : sgQ s z = a.num * ((b.den / Nat.gcd a.den b.den : Nat) : Int) + b.num * ((a.den / Nat.gcd a.den b.den : Nat) : Int)) :
    (a + b).num.natAbs = z / Nat.gcd z (Nat.gcd a.den b.den) ∧ (a + b).den = a.den / Nat.gcd a.den b.den * (b.den / Nat.gcd z (Nat.gcd a.den b.den)) ∧ negQ (a + b) = (s && z / Nat.gcd z (Nat.gcd a.den b.den) != 0) := by
  have hg0 : 0 < Nat.gcd a.den b.den := Nat.gcd_pos_of_pos_left _ a.den_pos
  have ha := Rat.add.aux a b rfl rfl rfl
  have hzn : (a.num * ((b.den / Nat.gcd a.den b.den : Nat) : Int) + b.num * ((a.den / Nat.gcd a.den b.den : Nat) : Int)).natAbs = z := by rw [← hz, sgQ_natAbs]
  simp only [hzn] at ha
  have hd0 : a.den / Nat.gcd a.den b.den * b.den ≠ 0 := Nat.mul_ne_zero (by have := Nat.div_pos (Nat.le_of_dvd a.den_pos (Nat.gcd_dvd_left a.den b.den)) hg0; omega) b.den_nz
  have hsum : a + b = mkQ s z (a.den / Nat.gcd a.den b.den * b.den) := by
    obtain ⟨x, hx⟩ := Nat.gcd_dvd_left a.den b.den
    obtain ⟨y, hy⟩ := Nat.gcd_dvd_right a.den b.den
    unfold mkQ
    rw [hz, Rat.add_def']
    have ex : a.den / Nat.gcd a.den b.den = x := by conv => lhs; lhs; rw [hx]
                                                    exact Nat.mul_div_cancel_left _ hg0
    have ey : b.den / Nat.gcd a.den b.den = y := by conv => lhs; lhs; rw [hy]
                                                    exact Nat.mul_div_cancel_left _ hg0
    rw [ex, ey]
    have hx0 : x ≠ 0 := by rintro rfl; have := a.den_pos; omega
    have e1 : a.num * (b.den : Int) + b.num * (a.den : Int) = (Nat.gcd a.den b.den : Int) * (a.num * (y : Int) + b.num * (x : Int)) := by
      conv => lhs; rw [show (b.den : Int) = (Nat.gcd a.den b.den : Int) * y from by exact_mod_cast hy, show (a.den : Int) = (Nat.gcd a.den b.den : Int) * x from by exact_mod_cast hx]
      grind
    have e2 : a.den * b.den = Nat.gcd a.den b.den * (x * b.den) := by conv => lhs; lhs; rw [hx]
                                                                      rw [Nat.mul_assoc]
    rw [e1, e2, Rat.mkRat_mul_left (by omega)]
  have hl : Nat.gcd z (a.den / Nat.gcd a.den b.den * b.den) = Nat.gcd z (Nat.gcd a.den b.den) := ha.symm
  refine ⟨?_, ?_, ?_⟩
  · rw [hsum, mkQ_abs hd0, hl]
  · rw [hsum, mkQ_den hd0, hl]
    exact Nat.mul_div_assoc _ (Nat.dvd_trans (Nat.gcd_dvd_right _ _) (Nat.gcd_dvd_right _ _))
  · rw [hsum, mkQ_sign hd0, hl]

/-- The product, both ways crosswise made shorter first. -/
theorem Q_times (a b : Rat) : (a * b).num.natAbs = a.num.natAbs / Nat.gcd a.num.natAbs b.den * (b.num.natAbs / Nat.gcd b.num.natAbs a.den) ∧
    (a * b).den = a.den / Nat.gcd b.num.natAbs a.den * (b.den / Nat.gcd a.num.natAbs b.den) ∧
    negQ (a * b) = ((negQ a != negQ b) && a.num.natAbs / Nat.gcd a.num.natAbs b.den * (b.num.natAbs / Nat.gcd b.num.natAbs a.den) != 0) := by
  have h1 : (a * b).num.natAbs = a.num.natAbs / Nat.gcd a.num.natAbs b.den * (b.num.natAbs / Nat.gcd b.num.natAbs a.den) := by
    show (Rat.mul a b).num.natAbs = _
    unfold Rat.mul
    simp only [Int.divExact_eq_tdiv, Int.natAbs_mul, Int.natAbs_tdiv, Int.natAbs_natCast]
    rfl
  refine ⟨h1, ?_, ?_⟩
  · show (Rat.mul a b).den = _
    unfold Rat.mul
    simp [Nat.divExact_eq_div]
  · rw [← h1, Q_mul]
    have hd0 := Nat.mul_ne_zero a.den_nz b.den_nz
    rw [mkQ_sign hd0, mkQ_abs hd0]

/-- One over a number. -/
theorem Q_inv {b : Rat} (hb : b ≠ 0) : negQ b⁻¹ = negQ b ∧ b⁻¹.num.natAbs = b.den ∧ b⁻¹.den = b.num.natAbs := by
  have hbn : b.num ≠ 0 := fun h => hb (Rat.num_eq_zero.1 h)
  have hd := b.den_pos
  refine ⟨?_, ?_, ?_⟩
  · unfold negQ
    rw [Rat.num_inv]
    rcases Int.lt_trichotomy b.num 0 with h | h | h
    · rw [Int.sign_eq_neg_one_of_neg h]; simp; omega
    · exact absurd h hbn
    · rw [Int.sign_eq_one_of_pos h]; simp; omega
  · rw [Rat.num_inv, Int.natAbs_mul, Int.natAbs_sign_of_ne_zero hbn]; simp
  · rw [Rat.den_inv, if_neg hbn]
theorem negQ_neg (q : Rat) : negQ (-q) = (!negQ q && q.num.natAbs != 0) := by
  unfold negQ
  rw [Rat.neg_num]
  rw [Bool.eq_iff_iff]
  by_cases h : q.num < 0
  · simp [h]; omega
  · have h2 : ¬ q.num < 0 := h
    simp only [h2, decide_false, Bool.not_false, Bool.true_and, bne_iff_ne, ne_eq, decide_eq_true_eq]; omega
def absQ (q : Rat) : Rat := if q < 0 then -q else q
theorem absQ_parts (q : Rat) : negQ (absQ q) = false ∧ (absQ q).num.natAbs = q.num.natAbs ∧ (absQ q).den = q.den := by
  unfold absQ
  by_cases h : q < 0
  · have h1 : negQ q = true := by rw [negQ_lt]; simpa using h
    rw [if_pos h, negQ_neg, h1]; simp
  · have h1 : negQ q = false := by rw [negQ_lt]; simpa using h
    rw [if_neg h, h1]; simp

end Go.Proofs.YtcfhajnboamnnabGreatDoor

namespace Go.Proofs.YtcfhajnboamnnabGreatDoor
open Go.RowKit
set_option linter.unusedVariables false

/-- A number stays, where a block that holds no limbs is written. -/
theorem Num.keepV {w w' : World} {v : Value} {n g : Nat} {T : TypeId} {cs : List Value} (h : Num w v n) (hb : BlkV w g T cs) (hcs : ∀ c ∈ cs, ∀ x, c ≠ .int .u32 x) (k : Only g w w') : Num w' v n := by
  refine ⟨h.1, ?_⟩
  rcases h.2 with e | ⟨b, off, cap, rfl, hc1, hc2, hc3, hc4⟩
  · exact .inl e
  · refine .inr ⟨b, off, cap, rfl, hc1, hc2, fun i hi => ?_, Nat.lt_of_lt_of_le hc4 k.size⟩
    have hc := hc3 i hi
    by_cases hbg : b = g
    · exfalso
      subst hbg
      unfold BlkV at hb
      simp only [World.cell?, hb] at hc
      have hm : ∃ c ∈ cs, c = .int .u32 (((lim n).getD i 0 : Nat) : Int) := by
        rw [List.getElem?_toArray] at hc
        exact ⟨_, List.mem_of_getElem? hc, rfl⟩
      obtain ⟨c, hm1, hm2⟩ := hm
      exact hcs c hm1 _ hm2
    · exact k.cell hc hbg
theorem RW.keepV {w w' : World} {v : Value} {s : Bool} {m d g : Nat} {T : TypeId} {cs : List Value} (h : RW w v s m d) (hb : BlkV w g T cs) (hcs : ∀ c ∈ cs, ∀ x, c ≠ .int .u32 x) (k : Only g w w') : RW w' v s m d := by
  obtain ⟨a, b, e, h3, h4⟩ := h
  exact ⟨a, b, e, h3.keepV hb hcs k, h4.keepV hb hcs k⟩
theorem RW.drew {w : World} {v : Value} {s : Bool} {m d : Nat} (h : RW w v s m d) : RW w.drew v s m d := h
theorem blen_one_iff (n : Nat) : (blen n == 1) = (n == 1) := by
  by_cases h0 : n = 0
  · subst h0; rfl
  · by_cases h1 : n = 1
    · subst h1; decide +kernel
    · have := blen_le_iff n 1
      have : ¬ blen n ≤ 1 := by rw [this]; omega
      rw [Bool.eq_iff_iff]; simp; omega
theorem blen_zero_iff (n : Nat) : (blen n == 0) = (n == 0) := by
  have := blen_le_iff n 0
  rw [Bool.eq_iff_iff]; simp; omega
theorem cast_beq (a b : Nat) : ((a : Int) == (b : Int)) = (a == b) := by rw [Bool.eq_iff_iff]; simp; omega

end Go.Proofs.YtcfhajnboamnnabGreatDoor
