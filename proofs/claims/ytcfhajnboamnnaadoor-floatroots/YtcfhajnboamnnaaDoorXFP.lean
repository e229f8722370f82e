/- Floats, mathematics: a number, rounded, as the second telling says, is rounded as the program does. -/
import Derived.Test.YtcfhajnboamnnaaDoorYXFM
namespace Go.Proofs.YtcfhajnboamnnaaDoor
open Go.RowKit
set_option linter.unusedVariables false
/-- What is left of a quotient, with a mark for what is lost. -/
def sf (A B : Nat) : Nat := A / B ||| stk (A % B)
theorem sf_scale (A B c : Nat) (hc : 0 < c) : sf (A * c) (B * c) = sf A B := by
  unfold sf
  rw [Nat.mul_div_mul_right _ _ hc, Nat.mul_mod_mul_right]
  congr 1
  unfold stk
  by_cases h : A % B = 0
  · rw [h]; simp
  · rw [if_neg h, if_neg (Nat.mul_ne_zero h (by omega))]
theorem sf_cross {A B C D : Nat} (hB : 0 < B) (hD : 0 < D) (h : A * D = C * B) : sf A B = sf C D := by
  rw [← sf_scale A B D hD, h, Nat.mul_comm B D, sf_scale C D B hB]
theorem mod_two (A B C : Nat) : A % (B * C) = 0 ↔ A % B = 0 ∧ A / B % C = 0 := by
  rw [Nat.mod_mul]
  by_cases hB : B = 0
  · subst hB; simp
  · constructor
    · intro h
      have h1 : A % B = 0 := by omega
      have h2 : B * (A / B % C) = 0 := by omega
      exact ⟨h1, (Nat.mul_eq_zero.1 h2).resolve_left hB⟩
    · rintro ⟨h1, h2⟩; rw [h1, h2]; rfl
theorem dn_sf (A B l j : Nat) : dn ((A / B * 18446744073709551616 + stk (A % B)) * 2 ^ l) (j + (64 + l)) = sf A (B * 2 ^ j) := by
  unfold dn sf
  have hM : 0 < 2 ^ l := Nat.two_pow_pos l
  have hs := stk_lt (A % B)
  have hz : stk (A % B) = 0 ↔ A % B = 0 := by unfold stk; split <;> simp_all
  have hj : 0 < 2 ^ j := Nat.two_pow_pos j
  rw [Nat.pow_add, Nat.pow_add, show (2 ^ 64 : Nat) = 18446744073709551616 from rfl, ← Nat.mul_assoc, Nat.mul_div_mul_right _ _ hM, Nat.mul_mod_mul_right]
  have e1 : (A / B * 18446744073709551616 + stk (A % B)) / (2 ^ j * 18446744073709551616) = A / (B * 2 ^ j) := by
    rw [Nat.mul_comm (2 ^ j), ← Nat.div_div_eq_div_mul, ← Nat.div_div_eq_div_mul]
    congr 1
    omega
  rw [e1]
  congr 1
  have e2 : (A / B * 18446744073709551616 + stk (A % B)) % (2 ^ j * 18446744073709551616) = 0 ↔ A % (B * 2 ^ j) = 0 := by
    rw [Nat.mul_comm (2 ^ j), mod_two, mod_two]
    have h1 : (A / B * 18446744073709551616 + stk (A % B)) % 18446744073709551616 = stk (A % B) := by omega
    have h2 : (A / B * 18446744073709551616 + stk (A % B)) / 18446744073709551616 = A / B := by omega
    rw [h1, h2, hz]
  unfold stk at e2 ⊢
  by_cases c : A % (B * 2 ^ j) = 0
  · rw [if_pos c, if_pos (by rw [e2.2 c, Nat.zero_mul])]
  · rw [if_neg c, if_neg (Nat.mul_ne_zero (fun h => c (e2.1 h)) (by omega))]
/-- The two bits behind a quotient. -/
def two (r d : Nat) : Nat := if r = 0 then 0 else if 2 * r < d then 1 else if 2 * r = d then 2 else 3
theorem two_lt (r d : Nat) : two r d < 4 := by
  unfold two
  repeat' split
  all_goals omega
theorem div_unique' {n d q r : Nat} (h : n = d * q + r) (hr : r < d) : n / d = q ∧ n % d = r := by
  subst h
  rw [Nat.add_comm, Nat.add_mul_div_left _ _ (by omega), Nat.add_mul_mod_self_left, Nat.div_eq_of_lt hr, Nat.mod_eq_of_lt hr]
  exact ⟨by omega, rfl⟩
theorem sf_four {n d : Nat} (hd : 0 < d) : sf (4 * n) d = 4 * (n / d) + two (n % d) d := by
  have h1 := Nat.div_add_mod n d
  have h2 := Nat.mod_lt n hd
  generalize n / d = q at *
  generalize n % d = r at *
  subst h1
  have e : 4 * (d * q + r) = d * (4 * q) + 4 * r := by rw [Nat.mul_add, ← Nat.mul_assoc, Nat.mul_comm 4 d, Nat.mul_assoc]
  have key : ∃ c e', 4 * r = d * c + e' ∧ e' < d ∧ c < 4 := by
    by_cases a1 : 4 * r < d
    · exact ⟨0, 4 * r, by omega, a1, by omega⟩
    · by_cases a2 : 4 * r < 2 * d
      · exact ⟨1, 4 * r - d, by omega, by omega, by omega⟩
      · by_cases a3 : 4 * r < 3 * d
        · exact ⟨2, 4 * r - 2 * d, by omega, by omega, by omega⟩
        · exact ⟨3, 4 * r - 3 * d, by omega, by omega, by omega⟩
  obtain ⟨c, e', k1, k2, k3⟩ := key
  have e2 : 4 * (d * q + r) = d * (4 * q + c) + e' := by rw [e, k1, Nat.mul_add d, Nat.add_assoc]
  obtain ⟨f1, f2⟩ := div_unique' e2 k2
  unfold sf
  rw [f1, f2, or_stk]
  unfold two
  obtain rfl | rfl | rfl | rfl : c = 0 ∨ c = 1 ∨ c = 2 ∨ c = 3 := by omega
  all_goals repeat' split
  all_goals omega
/-- The exponent of a number's size. -/
def pex (N D : Nat) : Int := (blen N : Int) - (blen D : Int) - (if N * 2 ^ (-((blen N : Int) - (blen D : Int))).toNat < D * 2 ^ ((blen N : Int) - (blen D : Int)).toNat then 1 else 0)
def ulpR (N D : Nat) : Int := max (pex N D - 52) (-1074)
def numR (N D : Nat) : Nat := N * 2 ^ (-(ulpR N D)).toNat
def denR (N D : Nat) : Nat := D * 2 ^ (ulpR N D).toNat
theorem denR_pos {N D : Nat} (h : D ≠ 0) : 0 < denR N D := Nat.mul_pos (by omega) (Nat.two_pow_pos _)
theorem blen_low {n : Nat} (h : n ≠ 0) : 2 ^ (blen n - 1) ≤ n := by
  have hp := blen_pos h
  have : ¬ n < 2 ^ (blen n - 1) := fun c => by have := (blen_le_iff n (blen n - 1)).2 c; omega
  omega
theorem rt_ge {N D : Nat} (hN : N ≠ 0) (hD : D ≠ 0) : 4611686018427387904 ≤ rtN N D / rtD N D := by
  have hp := rtD_pos (N := N) hD
  rw [Nat.le_div_iff_mul_le hp]
  have h1 := blen_low hN
  have h2 := lt_blen D
  have b1 := blen_pos hN
  have b2 := blen_pos hD
  have h3 : rtD N D ≤ 2 ^ (blen D + (-(rtS N D)).toNat) := by
    unfold rtD; rw [Nat.pow_add]; exact Nat.mul_le_mul_right _ (by omega)
  have h4 : 2 ^ (blen N - 1 + (rtS N D).toNat) ≤ rtN N D := by
    unfold rtN; rw [Nat.pow_add]; exact Nat.mul_le_mul_right _ h1
  have h5 : 2 ^ (blen N - 1 + (rtS N D).toNat) = 4611686018427387904 * 2 ^ (blen D + (-(rtS N D)).toNat) := by
    rw [show (4611686018427387904 : Nat) = 2 ^ 62 from rfl, ← Nat.pow_add]; congr 1; unfold rtS; omega
  rw [h5] at h4
  exact Nat.le_trans (Nat.mul_le_mul_left _ h3) h4
theorem pex_cond {N D : Nat} (hD : D ≠ 0) : N * 2 ^ (-((blen N : Int) - (blen D : Int))).toNat < D * 2 ^ ((blen N : Int) - (blen D : Int)).toNat ↔ rtN N D / rtD N D < 9223372036854775808 := by
  have hp := rtD_pos (N := N) hD
  rw [Nat.div_lt_iff_lt_mul hp]
  unfold rtN rtD rtS
  generalize hx : (blen N : Int) - (blen D : Int) = x
  have e : N * 2 ^ (63 - x).toNat * (D * 2 ^ x.toNat) = N * 2 ^ (-x).toNat * (9223372036854775808 * (D * 2 ^ (-(63 - x)).toNat)) := by
    rw [show (9223372036854775808 : Nat) = 2 ^ 63 from rfl]
    have : 2 ^ (63 - x).toNat * 2 ^ x.toNat = 2 ^ (-x).toNat * 2 ^ 63 * 2 ^ (-(63 - x)).toNat := by
      rw [← Nat.pow_add, ← Nat.pow_add, ← Nat.pow_add]; congr 1; omega
    calc N * 2 ^ (63 - x).toNat * (D * 2 ^ x.toNat) = N * D * (2 ^ (63 - x).toNat * 2 ^ x.toNat) := by ac_rfl
      _ = _ := by rw [this]; ac_rfl
  have q1 : 0 < D * 2 ^ x.toNat := Nat.mul_pos (by omega) (Nat.two_pow_pos _)
  have q2 : 0 < 9223372036854775808 * (D * 2 ^ (-(63 - x)).toNat) := Nat.mul_pos (by decide) (Nat.mul_pos (by omega) (Nat.two_pow_pos _))
  generalize N * 2 ^ (63 - x).toNat = A at *
  generalize D * 2 ^ x.toNat = d at *
  generalize N * 2 ^ (-x).toNat = n at *
  generalize 9223372036854775808 * (D * 2 ^ (-(63 - x)).toNat) = B at *
  constructor
  · intro h
    have h1 : n * B < d * B := Nat.mul_lt_mul_of_pos_right h q2
    rw [← e, Nat.mul_comm A d] at h1
    exact Nat.lt_of_mul_lt_mul_left h1
  · intro h
    have h1 : A * d < B * d := Nat.mul_lt_mul_of_pos_right h q1
    rw [e, Nat.mul_comm B d] at h1
    exact Nat.lt_of_mul_lt_mul_right h1
/-- What a number's value has, as the program rounds it. -/
theorem ratV_facts {N D : Nat} (hN : N ≠ 0) (hD : D ≠ 0) (s : Bool) :
    (ratV s N D).2.2.1 ≠ 0 ∧ hiP (ratV s N D).2.2.1 (ratV s N D).2.2.2 = pex N D - 52 ∧ plP (ratV s N D).2.2.1 (ratV s N D).2.2.2 = ulpR N D ∧
    kpt (ratV s N D).2.2.1 (ratV s N D).2.2.2 = 4 * (numR N D / denR N D) + two (numR N D % denR N D) (denR N D) := by
  have q1 := rt_ge hN hD
  have q2 := rt_lt (N := N) hD
  have hp := rtD_pos (N := N) hD
  have hd := denR_pos (N := N) hD
  have hc := pex_cond (N := N) hD
  have hpx : pex N D = 63 - rtS N D - (if rtN N D / rtD N D < 9223372036854775808 then 1 else 0) := by
    unfold pex; rw [show (63 - rtS N D : Int) = (blen N : Int) - (blen D : Int) by unfold rtS; omega]
    congr 1
    by_cases c : rtN N D / rtD N D < 9223372036854775808
    · rw [if_pos c, if_pos (hc.2 c)]
    · rw [if_neg c, if_neg (fun h => c (hc.1 h))]
  have hs := stk_lt (rtN N D % rtD N D)
  show rtN N D / rtD N D * 18446744073709551616 + stk (rtN N D % rtD N D) ≠ 0 ∧ hiP (rtN N D / rtD N D * 18446744073709551616 + stk (rtN N D % rtD N D)) (-(rtS N D) - 64) = _ ∧ plP (rtN N D / rtD N D * 18446744073709551616 + stk (rtN N D % rtD N D)) (-(rtS N D) - 64) = _ ∧ kpt (rtN N D / rtD N D * 18446744073709551616 + stk (rtN N D % rtD N D)) (-(rtS N D) - 64) = _
  have hb : lsh (rtN N D / rtD N D * 18446744073709551616 + stk (rtN N D % rtD N D)) 0 = (if rtN N D / rtD N D < 9223372036854775808 then 1 else 0) := by
    unfold lsh
    by_cases c : rtN N D / rtD N D < 9223372036854775808
    · rw [if_pos c, blen_eq (k := 126) (by show 85070591730234615865843651857942052864 ≤ _; omega) (by show _ < 170141183460469231731687303715884105728; omega)]
    · rw [if_neg c, blen_eq (k := 127) (by show 170141183460469231731687303715884105728 ≤ _; omega) (by show _ < 340282366920938463463374607431768211456; omega)]
  have hh : hiP (rtN N D / rtD N D * 18446744073709551616 + stk (rtN N D % rtD N D)) (-(rtS N D) - 64) = pex N D - 52 := by
    unfold hiP; rw [hb, hpx]; split <;> omega
  have hl : plP (rtN N D / rtD N D * 18446744073709551616 + stk (rtN N D % rtD N D)) (-(rtS N D) - 64) = ulpR N D := by
    unfold plP ulpR; rw [hh]
  refine ⟨by omega, hh, hl, ?_⟩
  rw [← sf_four hd]
  have hu : rtS N D + ulpR N D ≥ 10 := by
    have : pex N D - 52 ≤ ulpR N D := by unfold ulpR; omega
    split at hpx <;> omega
  have hk : shP (rtN N D / rtD N D * 18446744073709551616 + stk (rtN N D % rtD N D)) (-(rtS N D) - 64) = (ulpR N D - 2 + rtS N D).toNat + (64 + lsh (rtN N D / rtD N D * 18446744073709551616 + stk (rtN N D % rtD N D)) 0) := by
    unfold shP
    rw [hl]
    omega
  unfold kpt
  rw [hk, dn_sf]
  refine sf_cross (Nat.mul_pos hp (Nat.two_pow_pos _)) hd ?_
  unfold rtN rtD numR denR
  generalize ulpR N D = u at *
  generalize rtS N D = S at *
  have : 2 ^ S.toNat * 2 ^ u.toNat = 2 ^ 2 * 2 ^ (-u).toNat * 2 ^ (-S).toNat * 2 ^ (u - 2 + S).toNat := by
    rw [← Nat.pow_add, ← Nat.pow_add, ← Nat.pow_add, ← Nat.pow_add]; congr 1; omega
  calc N * 2 ^ S.toNat * (D * 2 ^ u.toNat) = N * D * (2 ^ S.toNat * 2 ^ u.toNat) := by ac_rfl
    _ = _ := by rw [this]; show _ = 2 ^ 2 * _ * _; ac_rfl
/-- Is the greater one taken? By what it is against half way, and whether the less one is odd. -/
def upR (m : Int) (s : Bool) (o : Int) (odd : Bool) : Bool :=
  if m = 1 then false else if m = 2 then s else if m = 3 then !s else if m = 4 then decide (0 ≤ o) else decide (0 < o) || decide (o = 0) && odd
/-- What is against half way. -/
def half (r d : Nat) : Int := if 2 * r < d then -1 else if 2 * r = d then 0 else 1
theorem grt_two (m : Int) (s : Bool) (q r d : Nat) : grt m s ((4 * q + two r d) % 8) = if r = 0 then 0 else if upR m s (half r d) (decide (q % 2 = 1)) then 1 else 0 := by
  have e : (4 * q + two r d) % 8 = 4 * (q % 2) + two r d := by have := two_lt r d; omega
  rw [e]
  have hq : q % 2 = 0 ∨ q % 2 = 1 := by omega
  unfold two half
  by_cases c0 : r = 0
  · rw [if_pos c0, if_pos c0]
    exact grt_exact _ _ _ (by omega)
  · rw [if_neg c0, if_neg c0]
    unfold grt rAbove rBelow upR
    rcases hq with h | h <;> rw [h] <;> cases s <;> (repeat' split) <;> simp_all
/-- Laid together: v times 2^u. -/
def packT (m : Int) (s : Bool) (v : Nat) (u : Int) (fl : Nat) : Nat × Nat :=
  if v < 4503599627370496 then (sgn s + v, fl) else
  if 971 < u then (sgn s + (9218868437227405311 + grt m s 7), 5) else
  (sgn s + ((u + 1075).toNat * 4503599627370496 + v % 4503599627370496), fl)
def packR (m : Int) (s : Bool) (v : Nat) (u : Int) (fl : Nat) : Nat × Nat :=
  if v = 9007199254740992 then packT m s 4503599627370496 (u + 1) fl else packT m s v u fl
def flR (N D : Nat) : Nat := if numR N D % denR N D = 0 then 0 else if pex N D < -1022 then 3 else 1
def upN (m : Int) (s : Bool) (N D : Nat) : Nat := if numR N D % denR N D = 0 then 0 else if upR m s (half (numR N D % denR N D) (denR N D)) (decide (numR N D / denR N D % 2 = 1)) then 1 else 0
/-- A number, rounded, as the second telling says. -/
def ofR (m : Int) (s : Bool) (N D : Nat) : Nat × Nat :=
  if N = 0 then (0, 0) else packR m s (numR N D / denR N D + upN m s N D) (ulpR N D) (flR N D)
theorem numR_lt {N D : Nat} (hN : N ≠ 0) (hD : D ≠ 0) : numR N D / denR N D < 9007199254740992 ∧ (-1074 < ulpR N D → 4503599627370496 ≤ numR N D / denR N D) := by
  obtain ⟨h0, h1, h2, h3⟩ := ratV_facts hN hD false
  have hlt : (ratV false N D).2.2.1 < 340282366920938463463374607431768211456 := by
    have q2 := rt_lt (N := N) hD
    have hs := stk_lt (rtN N D % rtD N D)
    show rtN N D / rtD N D * 18446744073709551616 + stk (rtN N D % rtD N D) < _
    omega
  have h4 := kpt_lt (ratV false N D).2.2.2 h0 hlt
  have ht := two_lt (numR N D % denR N D) (denR N D)
  rw [h3] at h4
  refine ⟨by omega, fun hu => ?_⟩
  have hd := denR_pos (N := N) hD
  rw [Nat.le_div_iff_mul_le hd]
  have hu2 : ulpR N D = pex N D - 52 := by unfold ulpR at hu ⊢; omega
  have hc := pex_cond (N := N) hD
  unfold numR denR
  rw [hu2]
  unfold pex
  generalize hx : (blen N : Int) - (blen D : Int) = x
  rw [hx] at hc
  by_cases c : N * 2 ^ (-x).toNat < D * 2 ^ x.toNat
  · rw [if_pos c]
    have hq := rt_ge hN hD
    have hp := rtD_pos (N := N) hD
    rw [Nat.le_div_iff_mul_le hp] at hq
    unfold rtN rtD rtS at hq
    rw [hx] at hq
    have e : N * 2 ^ (-(x - 1 - 52)).toNat * (4611686018427387904 * (D * 2 ^ (-(63 - x)).toNat)) = 4503599627370496 * (D * 2 ^ (x - 1 - 52).toNat) * (N * 2 ^ (63 - x).toNat) := by
      rw [show (4503599627370496 : Nat) = 2 ^ 52 from rfl, show (4611686018427387904 : Nat) = 2 ^ 62 from rfl]
      have : 2 ^ (-(x - 1 - 52)).toNat * 2 ^ 62 * 2 ^ (-(63 - x)).toNat = 2 ^ 52 * 2 ^ (x - 1 - 52).toNat * 2 ^ (63 - x).toNat := by
        rw [← Nat.pow_add, ← Nat.pow_add, ← Nat.pow_add, ← Nat.pow_add]; congr 1; omega
      calc _ = N * D * (2 ^ (-(x - 1 - 52)).toNat * 2 ^ 62 * 2 ^ (-(63 - x)).toNat) := by ac_rfl
        _ = _ := by rw [this]; ac_rfl
    have p1 : 0 < N * 2 ^ (63 - x).toNat := Nat.mul_pos (by omega) (Nat.two_pow_pos _)
    have h5 := Nat.mul_le_mul_left (N * 2 ^ (-(x - 1 - 52)).toNat) hq
    rw [e] at h5
    exact Nat.le_of_mul_le_mul_right h5 p1
  · rw [if_neg c]
    have hge : D * 2 ^ x.toNat ≤ N * 2 ^ (-x).toNat := by omega
    have e : N * 2 ^ (-(x - 0 - 52)).toNat * (D * 2 ^ x.toNat) = 4503599627370496 * (D * 2 ^ (x - 0 - 52).toNat) * (N * 2 ^ (-x).toNat) := by
      rw [show (4503599627370496 : Nat) = 2 ^ 52 from rfl]
      have : 2 ^ (-(x - 0 - 52)).toNat * 2 ^ x.toNat = 2 ^ 52 * 2 ^ (x - 0 - 52).toNat * 2 ^ (-x).toNat := by
        rw [← Nat.pow_add, ← Nat.pow_add, ← Nat.pow_add]; congr 1; omega
      calc _ = N * D * (2 ^ (-(x - 0 - 52)).toNat * 2 ^ x.toNat) := by ac_rfl
        _ = _ := by rw [this]; ac_rfl
    have p1 : 0 < N * 2 ^ (-x).toNat := Nat.mul_pos (by omega) (Nat.two_pow_pos _)
    have h5 := Nat.mul_le_mul_left (N * 2 ^ (-(x - 0 - 52)).toNat) hge
    rw [e] at h5
    exact Nat.le_of_mul_le_mul_right h5 p1
/-- Packed, it is as the program lays it. -/
theorem pack_eq (m : Int) (s : Bool) {v : Nat} {u : Int} (fl B : Nat) (hv : v ≤ 9007199254740992) (hu : -1074 ≤ u) (hg : -1074 < u → 4503599627370496 ≤ v) (hB : B = (min (u + 1074) 2046).toNat * 4503599627370496 + v) :
    packR m s v u fl = (sgn s + (if 9218868437227405312 ≤ B then 9218868437227405311 + grt m s 7 else B), if 9218868437227405312 ≤ B then 5 else fl) := by
  unfold packR packT
  generalize grt m s 7 = g
  generalize sgn s = z
  by_cases c1 : v = 9007199254740992
  · rw [if_pos c1, if_neg (by omega)]
    by_cases c2 : 971 < u + 1
    · rw [if_pos c2, if_pos (by omega), if_pos (by omega)]
    · rw [if_neg c2, if_neg (by omega), if_neg (by omega)]
      have : (u + 1 + 1075).toNat * 4503599627370496 + 4503599627370496 % 4503599627370496 = B := by omega
      rw [this]
  · rw [if_neg c1]
    by_cases c0 : v < 4503599627370496
    · have hu0 : u = -1074 := by
        by_cases h : -1074 < u
        · have := hg h; omega
        · omega
      have : B = v := by omega
      rw [if_pos c0, if_neg (by omega), if_neg (by omega), this]
    · rw [if_neg c0]
      by_cases c2 : 971 < u
      · rw [if_pos c2, if_pos (by omega), if_pos (by omega)]
      · rw [if_neg c2, if_neg (by omega), if_neg (by omega)]
        have : (u + 1075).toNat * 4503599627370496 + v % 4503599627370496 = B := by omega
        rw [this]
theorem flags_eq (q r d : Nat) (p : Int) : (if r = 0 then 0 else if p < -1022 then 3 else 1 : Nat) = if (4 * q + two r d) % 4 = 0 then 0 else if p - 52 < -1074 then 3 else 1 := by
  have h := two_lt r d
  have h0 : two r d = 0 ↔ r = 0 := by
    unfold two
    constructor
    · intro h; by_cases c : r = 0
      · exact c
      · rw [if_neg c] at h; split at h
        · omega
        · split at h <;> omega
    · intro c; rw [if_pos c]
  by_cases c : r = 0
  · rw [if_pos c, if_pos (by have := h0.2 c; omega)]
  · have c' : ¬ (4 * q + two r d) % 4 = 0 := fun e => c (h0.1 (by omega))
    rw [if_neg c, if_neg c']
    by_cases k3 : p < -1022
    · have k4 : p - 52 < -1074 := by omega
      rw [if_pos k3, if_pos k4]
    · have k4 : ¬ p - 52 < -1074 := by omega
      rw [if_neg k3, if_neg k4]
theorem ofR_eq (m : Int) (s : Bool) {N D : Nat} (hD : D ≠ 0) : ofR m s N D = if N = 0 then (0, 0) else rdV m (ratV s N D) := by
  unfold ofR
  by_cases c : N = 0
  · rw [if_pos c, if_pos c]
  · rw [if_neg c, if_neg c]
    obtain ⟨h0, h1, h2, h3⟩ := ratV_facts c hD s
    obtain ⟨g1, g2⟩ := numR_lt c hD
    have hup : upN m s N D ≤ 1 := by
      unfold upN
      repeat' split
      all_goals omega
    have hul : -1074 ≤ ulpR N D := by unfold ulpR; omega
    rw [pack_eq m s _ _ (by omega) hul (fun h => by have := g2 h; omega) rfl]
    have e0 : (ratV s N D).2.1 = false := rfl
    have e1 : (ratV s N D).1 = s := rfl
    have hgr := grt_two m s (numR N D / denR N D) (numR N D % denR N D) (denR N D)
    have hs : szP m s (ratV s N D).2.2.1 (ratV s N D).2.2.2 = (min (ulpR N D + 1074) 2046).toNat * 4503599627370496 + (numR N D / denR N D + upN m s N D) := by
      unfold szP fdP
      rw [h2, h3, hgr]
      have := two_lt (numR N D % denR N D) (denR N D)
      unfold upN
      omega
    have hf : flR N D = _ := flags_eq (numR N D / denR N D) (numR N D % denR N D) (denR N D) (pex N D)
    have hr : rdV m (ratV s N D) = (rnd m s (ratV s N D).2.2.1 (ratV s N D).2.2.2, rndF m s (ratV s N D).2.2.1 (ratV s N D).2.2.2) := by
      unfold rdV
      rw [e0, if_neg (fun h => by cases h), if_neg h0, e1]
    rw [hr]
    unfold rnd rndF
    rw [hs, h3, h1, hf]
end Go.Proofs.YtcfhajnboamnnaaDoor
