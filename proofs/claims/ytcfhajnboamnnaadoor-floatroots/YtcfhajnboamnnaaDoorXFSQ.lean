/- Floats, mathematics: a root rounded once, two ways of reckoning it. -/
import Derived.Test.YtcfhajnboamnnaaDoorXFP
import Derived.Test.YtcfhajnboamnnaaDoorYXFM
import Derived.Test.YtcfhajnboamnnaaDoorYXF29
import Derived.Test.YtcfhajnboamnnaaDoorKA
namespace Go.Proofs.YtcfhajnboamnnaaDoor
open Go.RowKit
set_option linter.unusedVariables false
set_option linter.unusedSimpArgs false
/-- A root as the second telling reckons it: the last place; the number whose root is taken. -/
def rU (n : Nat) (x : Int) : Int := ((blen n : Int) - 1 + x) / 2 - 52
def rN (n : Nat) (x : Int) : Nat := n * 2 ^ (x - 2 * rU n x).toNat
def sqUp (m : Int) (N : Nat) : Nat := if sqN N * sqN N = N then 0 else if upR m false (cmpW ((N * 4 : Nat) : Int) (((2 * sqN N + 1) * (2 * sqN N + 1) : Nat) : Int)) (decide (sqN N % 2 = 1)) then 1 else 0
def sqFl (N : Nat) : Nat := if sqN N * sqN N = N then 0 else 1
theorem sq_le {a b : Nat} (h : a * a ≤ b * b) : a ≤ b := by
  by_cases c : a ≤ b
  · exact c
  · have := Nat.mul_lt_mul_of_lt_of_lt (show b < a by omega) (show b < a by omega)
    omega
theorem sq_lt {a b : Nat} (h : a * a < b * b) : a < b := by
  by_cases c : a < b
  · exact c
  · have := Nat.mul_le_mul (show b ≤ a by omega) (show b ≤ a by omega)
    omega
theorem lay_L {n : Nat} {x : Int} (hn : n ≠ 0) (hb : n < 9007199254740992) : rtL n x = rN n x * 4194304 ∧ rtX n x / 2 = rU n x - 11 ∧ 85070591730234615865843651857942052864 ≤ rtL n x ∧ rtL n x < 340282366920938463463374607431768211456 ∧ rtX n x % 2 = 0 := by
  have hbl : blen n ≤ 53 := blen_of_lt hb
  have hp := blen_pos hn
  have hlt := lift_lt (r := rtR n x) hn (Nat.lt_trans hb (by decide))
  have l1 : 2 ^ (blen n - 1) ≤ n := by
    have : ¬ n < 2 ^ (blen n - 1) := fun c => by have := (blen_le_iff n (blen n - 1)).2 c; omega
    omega
  have hr : rtR n x = 0 ∨ rtR n x = 1 := by unfold rtR; split <;> simp
  have hl : (lsh n (rtR n x) : Int) = 128 - (blen n : Int) - (rtR n x : Int) := by unfold lsh; omega
  have hl0 : (lsh n 0 : Int) = 128 - (blen n : Int) := by unfold lsh; omega
  have hX : rtX n x = x - 128 + (blen n : Int) + (rtR n x : Int) := by unfold rtX; omega
  have hev : rtX n x % 2 = 0 := by
    rw [hX]
    unfold rtR
    split <;> simp <;> omega
  have hu : rtX n x / 2 = rU n x - 11 := by
    unfold rU
    rw [hX] at hev ⊢
    rcases hr with h | h <;> rw [h] at hev ⊢ <;> simp at hev ⊢ <;> omega
  have he : lsh n (rtR n x) = (x - 2 * rU n x).toNat + 22 := by
    have h1 : 2 * (rtX n x / 2) = rtX n x := by omega
    omega
  refine ⟨?_, hu, ?_, hlt, hev⟩
  · unfold rtL rN
    rw [he, Nat.pow_add, show (2 : Nat) ^ 22 = 4194304 from rfl, ← Nat.mul_assoc]
  · unfold rtL
    have h2 : 2 ^ (blen n - 1) * 2 ^ lsh n (rtR n x) ≤ n * 2 ^ lsh n (rtR n x) := Nat.mul_le_mul_right _ l1
    rw [← Nat.pow_add] at h2
    refine Nat.le_trans ?_ h2
    rw [show (85070591730234615865843651857942052864 : Nat) = 2 ^ 126 from by decide]
    exact Nat.pow_le_pow_right (by omega) (by omega)
/-- What a root keeps: the root of the second telling, and two bits. -/
theorem root_kept {N L s q : Nat} (hL : L = N * 4194304) (hs1 : s * s ≤ L) (hs2 : L < (s + 1) * (s + 1)) (hq1 : q * q ≤ N) (hq2 : N < (q + 1) * (q + 1)) :
    s / 2048 = q ∧ (s / 512 ||| stk ((s * 18446744073709551616 + stk (L - s * s)) % 9444732965739290427392)) = 4 * q + (if q * q = N then 0 else if N * 4 < (2 * q + 1) * (2 * q + 1) then 1 else 3) := by
  have a1 : 2048 * q ≤ s := by
    have e : (2048 * q) * (2048 * q) = q * q * 4194304 := by rw [show 2048 * q * (2048 * q) = 2048 * 2048 * (q * q) by ac_rfl]; omega
    have h1 : (2048 * q) * (2048 * q) < (s + 1) * (s + 1) := by omega
    have := sq_lt h1
    omega
  have a2 : s < 2048 * (q + 1) := by
    have e : (2048 * (q + 1)) * (2048 * (q + 1)) = (q + 1) * (q + 1) * 4194304 := by rw [show 2048 * (q + 1) * (2048 * (q + 1)) = 2048 * 2048 * ((q + 1) * (q + 1)) by ac_rfl]; omega
    have h1 : s * s < (2048 * (q + 1)) * (2048 * (q + 1)) := by omega
    exact sq_lt h1
  have hd : s / 2048 = q := by omega
  refine ⟨hd, ?_⟩
  have hst := stk_lt (L - s * s)
  have hmod : (s * 18446744073709551616 + stk (L - s * s)) % 9444732965739290427392 = 0 ↔ s % 512 = 0 ∧ L = s * s := by
    have hz : stk (L - s * s) = 0 ↔ L = s * s := by
      unfold stk
      constructor
      · intro h; split at h <;> omega
      · intro h; rw [if_pos (by omega)]
    rw [← hz]
    omega
  have e1 : (1024 * (2 * q + 1)) * (1024 * (2 * q + 1)) = (2 * q + 1) * (2 * q + 1) * 1048576 := by rw [show 1024 * (2 * q + 1) * (1024 * (2 * q + 1)) = 1024 * 1024 * ((2 * q + 1) * (2 * q + 1)) by ac_rfl]; omega
  have e0 : (2048 * q) * (2048 * q) = q * q * 4194304 := by rw [show 2048 * q * (2048 * q) = 2048 * 2048 * (q * q) by ac_rfl]; omega
  rw [or_stk]
  by_cases c : q * q = N
  · rw [if_pos c]
    have hs : s = 2048 * q := by
      have h1 : s * s ≤ (2048 * q) * (2048 * q) := by omega
      have := sq_le h1
      omega
    rw [if_pos (hmod.2 ⟨by omega, by rw [hs]; omega⟩)]
    omega
  · rw [if_neg c]
    by_cases d : N * 4 < (2 * q + 1) * (2 * q + 1)
    · rw [if_pos d]
      have h1 : s < 1024 * (2 * q + 1) := by
        have h2 : s * s < (1024 * (2 * q + 1)) * (1024 * (2 * q + 1)) := by omega
        exact sq_lt h2
      by_cases z : s % 512 = 0 ∧ L = s * s
      · rw [if_pos (hmod.2 z)]
        by_cases k : s < 2048 * q + 512
        · exfalso
          have hs : s = 2048 * q := by omega
          have h3 := z.2
          rw [hs] at h3
          omega
        · omega
      · rw [if_neg (fun h => z (hmod.1 h))]
        by_cases k : s < 2048 * q + 512
        · have : s / 512 = 4 * q := by omega
          rw [this]; omega
        · have : s / 512 = 4 * q + 1 := by omega
          rw [this]; omega
    · rw [if_neg d]
      have h1 : 1024 * (2 * q + 1) ≤ s := by
        have h2 : (1024 * (2 * q + 1)) * (1024 * (2 * q + 1)) < (s + 1) * (s + 1) := by omega
        have := sq_lt h2
        omega
      by_cases z : s % 512 = 0 ∧ L = s * s
      · rw [if_pos (hmod.2 z)]
        by_cases k : s < 2048 * q + 1536
        · exfalso
          have hs : s = 1024 * (2 * q + 1) := by omega
          have h3 := z.2
          rw [hs, e1] at h3
          have h4 : (2 * q + 1) * (2 * q + 1) = 4 * (q * q + q) + 1 := by grind
          omega
        · omega
      · rw [if_neg (fun h => z (hmod.1 h))]
        by_cases k : s < 2048 * q + 1536
        · have : s / 512 = 4 * q + 2 := by omega
          rw [this]; omega
        · have : s / 512 = 4 * q + 3 := by omega
          rw [this]; omega
theorem grt_root (m : Int) (N q : Nat) (hne : N * 4 ≠ (2 * q + 1) * (2 * q + 1)) : grt m false ((4 * q + (if q * q = N then 0 else if N * 4 < (2 * q + 1) * (2 * q + 1) then 1 else 3)) % 8) =
    if q * q = N then 0 else if upR m false (cmpW ((N * 4 : Nat) : Int) (((2 * q + 1) * (2 * q + 1) : Nat) : Int)) (decide (q % 2 = 1)) then 1 else 0 := by
  have hq : q % 2 = 0 ∨ q % 2 = 1 := by omega
  by_cases c : q * q = N
  · rw [if_pos c, if_pos c]
    exact grt_exact _ _ _ (by omega)
  · rw [if_neg c, if_neg c]
    by_cases d : N * 4 < (2 * q + 1) * (2 * q + 1)
    · have hc : cmpW ((N * 4 : Nat) : Int) (((2 * q + 1) * (2 * q + 1) : Nat) : Int) = -1 := by unfold cmpW; rw [if_pos (by omega)]
      rw [if_pos d, hc]
      have e : (4 * q + 1) % 8 = 4 * (q % 2) + 1 := by omega
      rw [e]
      unfold grt rAbove rBelow upR
      rcases hq with h | h <;> rw [h] <;> (repeat' split) <;> simp_all
    · have hc : cmpW ((N * 4 : Nat) : Int) (((2 * q + 1) * (2 * q + 1) : Nat) : Int) = 1 := by unfold cmpW; rw [if_neg (by omega), if_pos (by omega)]
      rw [if_neg d, hc]
      have e : (4 * q + 3) % 8 = 4 * (q % 2) + 3 := by omega
      rw [e]
      unfold grt rAbove rBelow upR
      rcases hq with h | h <;> rw [h] <;> (repeat' split) <;> simp_all
/-- The root, rounded, is as the second telling says. -/
theorem sqrt_eq (m : Int) {n : Nat} {x : Int} (hn : n ≠ 0) (hb : n < 9007199254740992) (x1 : -1074 ≤ x) :
    rdV m (rootV n x) = packR m false (sqN (rN n x) + sqUp m (rN n x)) (rU n x) (sqFl (rN n x)) ∧ sqN (rN n x) < 9007199254740992 ∧ 4503599627370496 ≤ sqN (rN n x) := by
  obtain ⟨hL, hy, hL1, hL2, hev⟩ := lay_L (x := x) hn hb
  obtain ⟨s1, s2⟩ := sqN_spec (rtL n x)
  obtain ⟨q1, q2⟩ := sqN_spec (rN n x)
  obtain ⟨hd, hk⟩ := root_kept hL s1 s2 q1 q2
  have hV : rootV n x = (false, false, sqN (rtL n x) * 18446744073709551616 + stk (rtL n x - sqN (rtL n x) * sqN (rtL n x)), rtX n x / 2 - 64) := rfl
  have hs63 : 9223372036854775808 ≤ sqN (rtL n x) := by
    have h : 9223372036854775808 * 9223372036854775808 < (sqN (rtL n x) + 1) * (sqN (rtL n x) + 1) := by omega
    have := sq_lt h
    omega
  have hs64 : sqN (rtL n x) < 18446744073709551616 := by
    have h : sqN (rtL n x) * sqN (rtL n x) < 18446744073709551616 * 18446744073709551616 := by omega
    exact sq_lt h
  have hbl : blen n ≤ 53 := blen_of_lt hb
  have hp := blen_pos hn
  have hu : -1074 ≤ rU n x := by unfold rU; omega
  have hodd : rN n x * 4 ≠ (2 * sqN (rN n x) + 1) * (2 * sqN (rN n x) + 1) := by
    intro h
    have h4 : (2 * sqN (rN n x) + 1) * (2 * sqN (rN n x) + 1) = 4 * (sqN (rN n x) * sqN (rN n x) + sqN (rN n x)) + 1 := by grind
    omega
  have hg := grt_root m (rN n x) (sqN (rN n x)) hodd
  rw [hy] at hV
  generalize sqN (rtL n x) = s at *
  generalize hq : sqN (rN n x) = q at *
  have hst := stk_lt (rtL n x - s * s)
  generalize hT : stk (rtL n x - s * s) = T at *
  have hlsh : lsh (s * 18446744073709551616 + T) 0 = 0 := by
    unfold lsh
    rw [blen_eq (k := 127) (by show 170141183460469231731687303715884105728 ≤ _; omega) (by show _ < 340282366920938463463374607431768211456; omega)]
  have hhi : hiP (s * 18446744073709551616 + T) (rU n x - 11 - 64) = rU n x := by unfold hiP; rw [hlsh]; omega
  have hpl : plP (s * 18446744073709551616 + T) (rU n x - 11 - 64) = rU n x := by unfold plP; rw [hhi]; omega
  have hsh : shP (s * 18446744073709551616 + T) (rU n x - 11 - 64) = 73 := by unfold shP; rw [hpl, hlsh]; omega
  have hkp : kpt (s * 18446744073709551616 + T) (rU n x - 11 - 64) = 4 * q + (if q * q = rN n x then 0 else if rN n x * 4 < (2 * q + 1) * (2 * q + 1) then 1 else 3) := by
    unfold kpt dn
    rw [hsh, hlsh, Nat.pow_zero, Nat.mul_one]
    have e73 : (2 : Nat) ^ 73 = 9444732965739290427392 := by decide
    rw [e73, show (s * 18446744073709551616 + T) / 9444732965739290427392 = s / 512 by omega]
    exact hk
  have htw : (if q * q = rN n x then 0 else if rN n x * 4 < (2 * q + 1) * (2 * q + 1) then 1 else 3 : Nat) < 4 := by
    repeat' split
    all_goals omega
  have hq53 : q < 9007199254740992 := by omega
  have hq52 : 4503599627370496 ≤ q := by omega
  refine ⟨?_, hq53, hq52⟩
  have hup : sqUp m (rN n x) ≤ 1 := by
    unfold sqUp
    repeat' split
    all_goals omega
  have hupe : sqUp m (rN n x) = grt m false (kpt (s * 18446744073709551616 + T) (rU n x - 11 - 64) % 8) := by
    rw [hkp, hg]
    unfold sqUp
    rw [hq]
  rw [pack_eq m false _ _ (by omega) hu (fun h => by omega) rfl, hV]
  have hsz : szP m false (s * 18446744073709551616 + T) (rU n x - 11 - 64) = (min (rU n x + 1074) 2046).toNat * 4503599627370496 + (q + sqUp m (rN n x)) := by
    unfold szP fdP
    rw [hpl, ← hupe, hkp]
    omega
  have hne : s * 18446744073709551616 + T ≠ 0 := by omega
  have hr : rdV m (false, false, s * 18446744073709551616 + T, rU n x - 11 - 64) = (rnd m false (s * 18446744073709551616 + T) (rU n x - 11 - 64), rndF m false (s * 18446744073709551616 + T) (rU n x - 11 - 64)) := by
    unfold rdV
    rw [if_neg (fun h => by cases h), if_neg hne]
  rw [hr]
  unfold rnd rndF
  rw [hsz, hkp, hhi]
  have hfl : sqFl (rN n x) = if (4 * q + (if q * q = rN n x then 0 else if rN n x * 4 < (2 * q + 1) * (2 * q + 1) then 1 else 3)) % 4 = 0 then 0 else if rU n x < -1074 then 3 else 1 := by
    unfold sqFl
    rw [hq]
    by_cases c : q * q = rN n x
    · rw [if_pos c, if_pos c, if_pos (by omega)]
    · rw [if_neg c, if_neg c]
      by_cases d : rN n x * 4 < (2 * q + 1) * (2 * q + 1)
      · rw [if_pos d, if_neg (by omega), if_neg (by omega)]
      · rw [if_neg d, if_neg (by omega), if_neg (by omega)]
  rw [hfl]
end Go.Proofs.YtcfhajnboamnnaaDoor
