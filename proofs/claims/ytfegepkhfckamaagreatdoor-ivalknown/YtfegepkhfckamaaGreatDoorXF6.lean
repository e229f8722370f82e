/- sfloat's round. -/
import Derived.Test.YtfegepkhfckamaaGreatDoorXF5
namespace Go.Proofs.YtfegepkhfckamaaGreatDoor
open Go.RowKit
set_option linter.unusedVariables false

theorem dn_lt {n j k : Nat} (hj : 1 ≤ j) (h : n < 2 ^ (j + k)) : dn n k < 2 ^ j := by
  unfold dn
  refine Nat.or_lt_two_pow ?_ (Nat.lt_of_lt_of_le (stk_lt _) ?_)
  · rw [Nat.div_lt_iff_lt_mul (Nat.two_pow_pos k), ← Nat.pow_add]; exact h
  · exact Nat.pow_le_pow_right (n := 2) (by omega) hj
/-- Its last place's exponent, if there were no least one; the place; what is kept; the size; the float; the flags. -/
def hiP (n : Nat) (x : Int) : Int := x - lsh n 0 + 75
def plP (n : Nat) (x : Int) : Int := max (hiP n x) (-1074)
def shP (n : Nat) (x : Int) : Nat := (plP n x - 2 - (x - lsh n 0)).toNat
def kpt (n : Nat) (x : Int) : Nat := dn (n * 2 ^ lsh n 0) (shP n x)
def fdP (n : Nat) (x : Int) : Nat := (min (plP n x + 1074) 2046).toNat
def szP (m : Int) (s : Bool) (n : Nat) (x : Int) : Nat := fdP n x * 4503599627370496 + kpt n x / 4 + grt m s (kpt n x % 8)
def sgn (s : Bool) : Nat := if s then 9223372036854775808 else 0
def rnd (m : Int) (s : Bool) (n : Nat) (x : Int) : Nat := sgn s + (if 9218868437227405312 ≤ szP m s n x then 9218868437227405311 + grt m s 7 else szP m s n x)
def rndF (m : Int) (s : Bool) (n : Nat) (x : Int) : Nat := if 9218868437227405312 ≤ szP m s n x then 5 else if kpt n x % 4 = 0 then 0 else if hiP n x < -1074 then 3 else 1
theorem kpt_lt {n : Nat} (x : Int) (h : n ≠ 0) (hn : n < 340282366920938463463374607431768211456) : kpt n x < 36028797018963968 := by
  unfold kpt
  refine dn_lt (j := 55) (by omega) (Nat.lt_of_lt_of_le (lift_lt h hn) ?_)
  refine Nat.pow_le_pow_right (n := 2) (i := 128) (by omega) ?_
  unfold shP plP hiP
  omega
theorem grt_lt (m : Int) (s : Bool) (t : Nat) : grt m s t < 2 := Nat.mod_lt _ (by omega)
theorem or_sgn (s : Bool) (z : Nat) (hz : z < 9223372036854775808) : bits .or .u64 (sgn s : Int) (z : Int) = ((sgn s + z : Nat) : Int) := by
  unfold sgn
  cases s
  · rw [bits_or_u64_nat _ _ (by decide) (by omega)]; simp
  · rw [bits_or_u64_nat _ _ (by decide) (by omega)]
    have e := or_add 1 z 63 hz
    rw [show (1 * 2 ^ 63 : Nat) = 9223372036854775808 from rfl] at e
    simp only [if_true]
    rw [e]
theorem and7 (x : Nat) (hx : x < 18446744073709551616) : bits .and .u64 (x : Int) 7 = ((x % 8 : Nat) : Int) := by
  have h := bits_and_u64_nat x 7 hx (by decide)
  rw [show (7 : Nat) = 2 ^ 3 - 1 from rfl, Nat.and_two_pow_sub_one_eq_mod] at h
  exact h
theorem and3 (x : Nat) (hx : x < 18446744073709551616) : bits .and .u64 (x : Int) 3 = ((x % 4 : Nat) : Int) := by
  have h := bits_and_u64_nat x 3 hx (by decide)
  rw [show (3 : Nat) = 2 ^ 2 - 1 from rfl, Nat.and_two_pow_sub_one_eq_mod] at h
  exact h
theorem sign_sgn {w : World} {v : Value} {s en : Bool} {n : Nat} {x : Int} (h : VV v s en n x) : Calls Tryz.prog 58 #[v] w fun e w' => e = .returned (.int .u64 (sgn s : Nat)) ∧ Fwd w w' := vsign_any h
theorem sgn_lt (s : Bool) : sgn s < 18446744073709551616 := by unfold sgn; split <;> omega

set_option maxHeartbeats 8000000 in
set_option maxRecDepth 100000 in
theorem round_end {w : World} {v : Value} {s : Bool} {n : Nat} {x : Int} (m : Int) (h : VV v s true n x) :
    Calls Tryz.prog 46 #[ruleV m, v] w fun e w' => e = .returned (.tuple #[.int .u64 ((sgn s + 9218868437227405312 : Nat) : Int), .int .i64 0]) ∧ Fwd w w' := by
  have hc := fun w => sign_sgn (w := w) h
  have ho : bits .or .u64 (sgn s : Int) 9218868437227405312 = ((sgn s + 9218868437227405312 : Nat) : Int) := or_sgn s 9218868437227405312 (by omega)
  have hl := sgn_lt s
  generalize sgn s = g at *
  generalize g + 9218868437227405312 = g' at *
  obtain ⟨a, b, rfl, h1, h2, hab⟩ := h
  clear hab
  unfold ruleV
  go_enter Tryz.func46, Tryz.ntmps46
  go_wp2_with fail
  refine (hc _).mono ?_
  rintro e w1 ⟨rfl, hf⟩
  go_wp2
  go_ret2
  exact ⟨rfl, (((Fwd.refl w).alloc _).alloc _).trans hf⟩

set_option maxHeartbeats 8000000 in
set_option maxRecDepth 100000 in
theorem round_nought {w : World} {v : Value} {s : Bool} {x : Int} (m : Int) (h : VV v s false 0 x) :
    Calls Tryz.prog 46 #[ruleV m, v] w fun e w' => e = .returned (.tuple #[.int .u64 (sgn s : Nat), .int .i64 0]) ∧ Fwd w w' := by
  have hc := fun w => sign_sgn (w := w) h
  have hd := fun w => visNought_any (w := w) h
  have hl := sgn_lt s
  generalize sgn s = g at *
  obtain ⟨a, b, rfl, h1, h2, hab⟩ := h
  obtain rfl : a = 0 := by omega
  obtain rfl : b = 0 := by omega
  clear hab
  have kR := (BlkV.made w 63 [.int .u8 (rAbove m), .int .u8 (rBelow m), .bool (rMinus m)]).alloc (.cells #[.bool s, .bool false, .int .u64 0, .int .u64 0, .int .i64 x] 80)
  have kV := BlkV.made' (w.alloc (.cells #[.int .u8 (rAbove m), .int .u8 (rBelow m), .bool (rMinus m)] 63)) (w.heap.size + 1) (by simp) 80 [.bool s, .bool false, .int .u64 0, .int .u64 0, .int .i64 x]
  have hF : Fwd w ((w.alloc (.cells #[.int .u8 (rAbove m), .int .u8 (rBelow m), .bool (rMinus m)] 63)).alloc (.cells #[.bool s, .bool false, .int .u64 0, .int .u64 0, .int .i64 x] 80)) := ((Fwd.refl w).alloc _).alloc _
  unfold ruleV
  go_enter Tryz.func46, Tryz.ntmps46
  go_wp2_with fail
  refine (hd _).mono ?_
  rintro e w1 ⟨rfl, hf⟩
  replace kV := kV.fwd hf
  replace hF := hF.trans hf
  clear hf
  have c0 := BlkV.cell kV 0 rfl
  have c1 := BlkV.cell kV 1 rfl
  have c2 := BlkV.cell kV 2 rfl
  have c3 := BlkV.cell kV 3 rfl
  have c4 := BlkV.cell kV 4 rfl
  go_wp2_with fail
  refine (hc _).mono ?_
  rintro e w2 ⟨rfl, hf⟩
  go_wp2
  go_ret2
  exact ⟨rfl, hF.trans hf⟩
end Go.Proofs.YtfegepkhfckamaaGreatDoor
