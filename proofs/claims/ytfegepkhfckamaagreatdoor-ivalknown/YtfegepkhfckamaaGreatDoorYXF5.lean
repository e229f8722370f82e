/- sfloat's lifted. -/
/- sfloat's round. -/
/- sfloat's round, of a number that is not nought. -/
import Derived.Test.YtfegepkhfckamaaGreatDoorXF4
namespace Go.Proofs.YtfegepkhfckamaaGreatDoor
open Go.RowKit
set_option linter.unusedVariables false

/-- The shift that leaves so much room. -/
def lsh (n r : Nat) : Nat := 128 - blen n - r
theorem blen_pos {n : Nat} (h : n ≠ 0) : 1 ≤ blen n := by unfold blen; rw [if_neg h]; omega
theorem lt_blen (n : Nat) : n < 2 ^ blen n := (blen_le_iff n _).1 (Nat.le_refl _)
theorem lift_lt {n r : Nat} (h : n ≠ 0) (hn : n < 340282366920938463463374607431768211456) : n * 2 ^ lsh n r < 340282366920938463463374607431768211456 := by
  have hb : blen n ≤ 128 := (blen_le_iff n 128).2 hn
  have h1 := lt_blen n
  have h2 : n * 2 ^ lsh n r < 2 ^ blen n * 2 ^ lsh n r := Nat.mul_lt_mul_of_pos_right h1 (Nat.two_pow_pos _)
  rw [← Nat.pow_add] at h2
  have h3 : 2 ^ (blen n + lsh n r) ≤ 2 ^ 128 := Nat.pow_le_pow_right (by omega) (by unfold lsh; omega)
  exact Nat.lt_of_lt_of_le h2 h3

set_option maxHeartbeats 4000000 in
set_option maxRecDepth 100000 in
theorem lifted_any {w : World} {v : Value} {s en : Bool} {n r : Nat} {x : Int} (h : VV v s en n x) (hn : n ≠ 0) (hr : r + blen n ≤ 128) (hx1 : -1000000 ≤ x) (hx2 : x ≤ 1000000) :
    Calls Tryz.prog 59 #[v, .int .i64 r] w fun e w' => ∃ u, e = .returned u ∧ Fwd w w' ∧ VV u s en (n * 2 ^ lsh n r) (x - lsh n r) := by
  have hlt := lift_lt (r := r) hn h.lt
  have hp := blen_pos hn
  obtain ⟨a, b, rfl, h1, h2, hab⟩ := h
  have hw : WV (.agg #[.int .u64 a, .int .u64 b]) n := ⟨a, b, rfl, h1, h2, hab⟩
  have hs : lsh n r ≤ 127 := by unfold lsh; omega
  have hsub : ((128 - blen n : Nat) : Int) - r = (lsh n r : Int) := by unfold lsh; omega
  have hlen : 128 - blen n ≤ 128 := by omega
  have hrr : r ≤ 128 := by omega
  have c1 := fun w => wfree_any (w := w) hw
  have c2 := fun w => wup_any (w := w) hw hs hlt
  generalize lsh n r = k at *
  generalize n * 2 ^ k = N at *
  generalize 128 - blen n = fr at *
  clear hw hlt hab hn hp hr
  have kB : BlkV ((w.alloc (.cells #[.bool s, .bool en, .int .u64 a, .int .u64 b, .int .i64 x] 80)).alloc (.cells #[.bool false, .bool false, .int .u64 0, .int .u64 0, .int .i64 0] 80)) w.heap.size 80 [.bool s, .bool en, .int .u64 a, .int .u64 b, .int .i64 x] := (BlkV.made w _ [.bool s, .bool en, .int .u64 a, .int .u64 b, .int .i64 x]).alloc _
  have kR : BlkV ((w.alloc (.cells #[.bool s, .bool en, .int .u64 a, .int .u64 b, .int .i64 x] 80)).alloc (.cells #[.bool false, .bool false, .int .u64 0, .int .u64 0, .int .i64 0] 80)) (w.heap.size + 1) 80 [.bool false, .bool false, .int .u64 0, .int .u64 0, .int .i64 0] := BlkV.made' _ _ (by simp) _ [.bool false, .bool false, .int .u64 0, .int .u64 0, .int .i64 0]
  have hF : Fwd w ((w.alloc (.cells #[.bool s, .bool en, .int .u64 a, .int .u64 b, .int .i64 x] 80)).alloc (.cells #[.bool false, .bool false, .int .u64 0, .int .u64 0, .int .i64 0] 80)) := ((Fwd.refl w).alloc _).alloc _
  go_enter Tryz.func59, Tryz.ntmps59
  go_wp2_with fail
  refine (c1 _).mono ?_
  rintro e w1 ⟨rfl, hf1⟩
  replace kB := kB.fwd hf1
  replace kR := kR.fwd hf1
  replace hF := hF.trans hf1
  clear hf1
  have b2 := BlkV.cell kB 2 rfl
  have b3 := BlkV.cell kB 3 rfl
  go_wp2_with fail
  refine (c2 _).mono ?_
  rintro e w2 ⟨u, rfl, ⟨a', b', rfl, g1, g2, hN⟩, hf2⟩
  replace kB := kB.fwd hf2
  replace kR := kR.fwd hf2
  replace hF := hF.trans hf2
  clear hf2 b2 b3
  have HN := hid hN
  clear hN
  have b0 := BlkV.cell kB 0 rfl
  have b1 := BlkV.cell kB 1 rfl
  have b2 := BlkV.cell kB 2 rfl
  have b3 := BlkV.cell kB 3 rfl
  have b4 := BlkV.cell kB 4 rfl
  have z2 := BlkV.frozen kB 2
  have z3 := BlkV.frozen kB 3
  have z4 := BlkV.frozen kB 4
  have r0 := BlkV.cell kR 0 rfl
  have r1 := BlkV.cell kR 1 rfl
  have r2 := BlkV.cell kR 2 rfl
  have r3 := BlkV.cell kR 3 rfl
  have r4 := BlkV.cell kR 4 rfl
  have y0 := BlkV.frozen kR 0
  have y1 := BlkV.frozen kR 1
  have y2 := BlkV.frozen kR 2
  have y3 := BlkV.frozen kR 3
  have y4 := BlkV.frozen kR 4
  go_wp2
  have o1 := ((Only.set w.heap.size w2 2 (.int .u64 (a' : Int))).setv 3 (.int .u64 (b' : Int))).setv 4 (.int .i64 (x - k))
  have kR3 := BlkV.only kR o1 (by omega)
  have t0 := BlkV.set kR3 0 (.bool s)
  have st0 := BlkV.cell t0 0 rfl
  have t1 := BlkV.set t0 1 (.bool en)
  have st1 := BlkV.cell t1 1 rfl
  have t2 := BlkV.set t1 2 (.int .u64 (a' : Int))
  have st2 := BlkV.cell t2 2 rfl
  have t3 := BlkV.set t2 3 (.int .u64 (b' : Int))
  have st3 := BlkV.cell t3 3 rfl
  have t4 := BlkV.set t3 4 (.int .i64 (x - k))
  have st4 := BlkV.cell t4 4 rfl
  refine bodyPost_ret (by simp [results, Tryz.results59, go_sem, st0, st1, st2, st3, st4]; try rfl) rfl ?_
  exact ⟨_, rfl, ((((((((hF.set (by omega)).set (by omega)).set (by omega)).set (by omega)).set (by omega)).set (by omega)).set (by omega)).set (by omega)), ⟨a', b', rfl, g1, g2, HN.out⟩⟩
end Go.Proofs.YtfegepkhfckamaaGreatDoor

namespace Go.Proofs.YtfegepkhfckamaaGreatDoor
open Go.RowKit
set_option linter.unusedVariables false

theorem dn_lt {n j k : Nat} (hj : 1 ≤ j) (h : n < 2 ^ (j + k)) : dn n k < 2 ^ j := by
  unfold dn
  refine Nat.or_lt_two_pow ?_ (Nat.lt_of_lt_of_le (stk_lt _) ?_)
  · rw [Nat.div_lt_iff_lt_mul (Nat.two_pow_pos k), ← Nat.pow_add]; exact h
  · exact Nat.pow_le_pow_right (n := 2) (by omega) hj
/-- Its last place's exponent, if there were no least one; the place; what is kept; the size; the float; the flags. -/
def hiP (n : Nat) (x : Int) : Int := x - lsh n 0 + 75
def plP (n : Nat) (x : Int) : Int := max (hiP n x) (-1074)
def shP (n : Nat) (x : Int) : Nat := (plP n x - 2 - (x - lsh n 0)).toNat
def kpt (n : Nat) (x : Int) : Nat := dn (n * 2 ^ lsh n 0) (shP n x)
def fdP (n : Nat) (x : Int) : Nat := (min (plP n x + 1074) 2046).toNat
def szP (m : Int) (s : Bool) (n : Nat) (x : Int) : Nat := fdP n x * 4503599627370496 + kpt n x / 4 + grt m s (kpt n x % 8)
def sgn (s : Bool) : Nat := if s then 9223372036854775808 else 0
def rnd (m : Int) (s : Bool) (n : Nat) (x : Int) : Nat := sgn s + (if 9218868437227405312 ≤ szP m s n x then 9218868437227405311 + grt m s 7 else szP m s n x)
def rndF (m : Int) (s : Bool) (n : Nat) (x : Int) : Nat := if 9218868437227405312 ≤ szP m s n x then 5 else if kpt n x % 4 = 0 then 0 else if hiP n x < -1074 then 3 else 1
theorem kpt_lt {n : Nat} (x : Int) (h : n ≠ 0) (hn : n < 340282366920938463463374607431768211456) : kpt n x < 36028797018963968 := by
  unfold kpt
  refine dn_lt (j := 55) (by omega) (Nat.lt_of_lt_of_le (lift_lt h hn) ?_)
  refine Nat.pow_le_pow_right (n := 2) (i := 128) (by omega) ?_
  unfold shP plP hiP
  omega
theorem grt_lt (m : Int) (s : Bool) (t : Nat) : grt m s t < 2 := Nat.mod_lt _ (by omega)
theorem or_sgn (s : Bool) (z : Nat) (hz : z < 9223372036854775808) : bits .or .u64 (sgn s : Int) (z : Int) = ((sgn s + z : Nat) : Int) := by
  unfold sgn
  cases s
  · rw [bits_or_u64_nat _ _ (by decide) (by omega)]; simp
  · rw [bits_or_u64_nat _ _ (by decide) (by omega)]
    have e := or_add 1 z 63 hz
    rw [show (1 * 2 ^ 63 : Nat) = 9223372036854775808 from rfl] at e
    simp only [if_true]
    rw [e]
theorem and7 (x : Nat) (hx : x < 18446744073709551616) : bits .and .u64 (x : Int) 7 = ((x % 8 : Nat) : Int) := by
  have h := bits_and_u64_nat x 7 hx (by decide)
  rw [show (7 : Nat) = 2 ^ 3 - 1 from rfl, Nat.and_two_pow_sub_one_eq_mod] at h
  exact h
theorem and3 (x : Nat) (hx : x < 18446744073709551616) : bits .and .u64 (x : Int) 3 = ((x % 4 : Nat) : Int) := by
  have h := bits_and_u64_nat x 3 hx (by decide)
  rw [show (3 : Nat) = 2 ^ 2 - 1 from rfl, Nat.and_two_pow_sub_one_eq_mod] at h
  exact h
theorem sign_sgn {w : World} {v : Value} {s en : Bool} {n : Nat} {x : Int} (h : VV v s en n x) : Calls Tryz.prog 58 #[v] w fun e w' => e = .returned (.int .u64 (sgn s : Nat)) ∧ Fwd w w' := vsign_any h
theorem sgn_lt (s : Bool) : sgn s < 18446744073709551616 := by unfold sgn; split <;> omega

set_option maxHeartbeats 8000000 in
set_option maxRecDepth 100000 in
theorem round_end {w : World} {v : Value} {s : Bool} {n : Nat} {x : Int} (m : Int) (h : VV v s true n x) :
    Calls Tryz.prog 46 #[ruleV m, v] w fun e w' => e = .returned (.tuple #[.int .u64 ((sgn s + 9218868437227405312 : Nat) : Int), .int .i64 0]) ∧ Fwd w w' := by
  have hc := fun w => sign_sgn (w := w) h
  have ho : bits .or .u64 (sgn s : Int) 9218868437227405312 = ((sgn s + 9218868437227405312 : Nat) : Int) := or_sgn s 9218868437227405312 (by omega)
  have hl := sgn_lt s
  generalize sgn s = g at *
  generalize g + 9218868437227405312 = g' at *
  obtain ⟨a, b, rfl, h1, h2, hab⟩ := h
  clear hab
  unfold ruleV
  go_enter Tryz.func46, Tryz.ntmps46
  go_wp2_with fail
  refine (hc _).mono ?_
  rintro e w1 ⟨rfl, hf⟩
  go_wp2
  go_ret2
  exact ⟨rfl, (((Fwd.refl w).alloc _).alloc _).trans hf⟩

set_option maxHeartbeats 8000000 in
set_option maxRecDepth 100000 in
theorem round_nought {w : World} {v : Value} {s : Bool} {x : Int} (m : Int) (h : VV v s false 0 x) :
    Calls Tryz.prog 46 #[ruleV m, v] w fun e w' => e = .returned (.tuple #[.int .u64 (sgn s : Nat), .int .i64 0]) ∧ Fwd w w' := by
  have hc := fun w => sign_sgn (w := w) h
  have hd := fun w => visNought_any (w := w) h
  have hl := sgn_lt s
  generalize sgn s = g at *
  obtain ⟨a, b, rfl, h1, h2, hab⟩ := h
  obtain rfl : a = 0 := by omega
  obtain rfl : b = 0 := by omega
  clear hab
  have kR := (BlkV.made w 63 [.int .u8 (rAbove m), .int .u8 (rBelow m), .bool (rMinus m)]).alloc (.cells #[.bool s, .bool false, .int .u64 0, .int .u64 0, .int .i64 x] 80)
  have kV := BlkV.made' (w.alloc (.cells #[.int .u8 (rAbove m), .int .u8 (rBelow m), .bool (rMinus m)] 63)) (w.heap.size + 1) (by simp) 80 [.bool s, .bool false, .int .u64 0, .int .u64 0, .int .i64 x]
  have hF : Fwd w ((w.alloc (.cells #[.int .u8 (rAbove m), .int .u8 (rBelow m), .bool (rMinus m)] 63)).alloc (.cells #[.bool s, .bool false, .int .u64 0, .int .u64 0, .int .i64 x] 80)) := ((Fwd.refl w).alloc _).alloc _
  unfold ruleV
  go_enter Tryz.func46, Tryz.ntmps46
  go_wp2_with fail
  refine (hd _).mono ?_
  rintro e w1 ⟨rfl, hf⟩
  replace kV := kV.fwd hf
  replace hF := hF.trans hf
  clear hf
  have c0 := BlkV.cell kV 0 rfl
  have c1 := BlkV.cell kV 1 rfl
  have c2 := BlkV.cell kV 2 rfl
  have c3 := BlkV.cell kV 3 rfl
  have c4 := BlkV.cell kV 4 rfl
  go_wp2_with fail
  refine (hc _).mono ?_
  rintro e w2 ⟨rfl, hf⟩
  go_wp2
  go_ret2
  exact ⟨rfl, hF.trans hf⟩
end Go.Proofs.YtfegepkhfckamaaGreatDoor

namespace Go.Proofs.YtfegepkhfckamaaGreatDoor
open Go.RowKit
set_option linter.unusedVariables false

theorem wdown_at {w : World} {v : Value} {n k : Nat} {y : Int} (h : WV v n) (hk : k ≤ 9000000000000000000) (hy : y = (k : Int)) : Calls Tryz.prog 60 #[v, .int .i64 y] w fun e w' => ∃ x, e = .returned x ∧ WV x (dn n k) ∧ Fwd w w' := by
  subst hy; exact wdown_any h hk
theorem field_lo (a b : Int) (w : World) : (Instr.field 78 (.agg #[.int .u64 a, .int .u64 b]) 1).run Tryz.prog w = .ok (.int .u64 b) w := by kernel_rfl
theorem lifted0_any {w : World} {v : Value} {s en : Bool} {n : Nat} {x : Int} (h : VV v s en n x) (hn : n ≠ 0) (hx1 : -1000000 ≤ x) (hx2 : x ≤ 1000000) :
    Calls Tryz.prog 59 #[v, .int .i64 0] w fun e w' => ∃ u, e = .returned u ∧ Fwd w w' ∧ VV u s en (n * 2 ^ lsh n 0) (x - lsh n 0) :=
  lifted_any (r := 0) h hn (by have := (blen_le_iff n 128).2 h.lt; omega) hx1 hx2

set_option maxHeartbeats 8000000 in
set_option maxRecDepth 100000 in
theorem round_a {w : World} {v : Value} {s : Bool} {n : Nat} {x : Int} (m : Int) (h : VV v s false n x) (hn : n ≠ 0) (hx1 : -1000000 ≤ x) (hx2 : x ≤ 1000000) (cA : hiP n x < -1074) :
    Calls Tryz.prog 46 #[ruleV m, v] w fun e w' => e = .returned (.tuple #[.int .u64 (rnd m s n x : Nat), .int .i64 (rndF m s n x : Nat)]) ∧ Fwd w w' := by
  have hd := fun w => visNought_any (w := w) h
  have e0 : (!false && n == 0) = false := by simp [hn]
  simp only [e0] at hd
  clear e0
  have hc := fun w => lifted0_any (w := w) h hn hx1 hx2
  have hlt := lift_lt (r := 0) hn h.lt
  have hsh : lsh n 0 ≤ 127 := by have := blen_pos hn; unfold lsh; omega
  have hK := kpt_lt x hn h.lt
  obtain ⟨a, b, rfl, h1, h2, hab⟩ := h
  clear hab
  have hpl : plP n x = -1074 := by unfold plP; omega
  have hS : ((shP n x : Nat) : Int) = -1076 - (x - (lsh n 0 : Int)) := by unfold shP; rw [hpl]; unfold hiP at cA; omega
  have hfd : fdP n x = 0 := by unfold fdP; rw [hpl]; rfl
  have hKe : dn (n * 2 ^ lsh n 0) (shP n x) = kpt n x := rfl
  have hres : szP m s n x = kpt n x / 4 + grt m s (kpt n x % 8) := by unfold szP; rw [hfd, Nat.zero_mul, Nat.zero_add]
  have HR : Hid (rnd m s n x = sgn s + (if 9218868437227405312 ≤ szP m s n x then 9218868437227405311 + grt m s 7 else szP m s n x) ∧ rndF m s n x = if 9218868437227405312 ≤ szP m s n x then 5 else if kpt n x % 4 = 0 then 0 else if hiP n x < -1074 then 3 else 1) := hid ⟨rfl, rfl⟩
  have cA' : x - (lsh n 0 : Int) + 75 < -1074 := cA
  rw [hres, if_neg (by have := grt_lt m s (kpt n x % 8); omega), if_neg (by have := grt_lt m s (kpt n x % 8); omega), if_pos cA] at HR
  generalize rnd m s n x = RV at *
  generalize rndF m s n x = RF at *
  generalize kpt n x = K at *
  generalize shP n x = S at *
  clear hpl hfd hres cA
  have hX1 : -2000000 ≤ x - (lsh n 0 : Int) := by omega
  have hX2 : x - (lsh n 0 : Int) ≤ 1000000 := by omega
  generalize hXe : x - (lsh n 0 : Int) = X at *
  generalize n * 2 ^ lsh n 0 = N at *
  have hg := fun w => greater_any (w := w) m s (K % 8) (by omega)
  simp only [ruleV] at hg
  have hby := fun w => beyond_any (w := w) m s
  simp only [ruleV] at hby
  have hb1 := grt_lt m s (K % 8)
  have hb2 := grt_lt m s 7
  have ha7 := and7 K (by omega)
  have ha3 := and3 (K % 8) (by omega)
  rw [Nat.mod_mod_of_dvd K (by decide : 4 ∣ 8)] at ha3
  have hsl := sgn_lt s
  have hfl := fun w => field_lo 0 K w
  have hT8 : K % 8 < 8 := by omega
  have hT4 : K % 4 < 4 := by omega
  generalize K % 8 = T at *
  generalize K % 4 = Q at *
  have hk4 : K / 4 < 9007199254740992 := by omega
  have e4 : (K : Int) / 4 = ((K / 4 : Nat) : Int) := by omega
  generalize K / 4 = k4 at *
  generalize grt m s T = g at *
  have kR := (BlkV.made w 63 [.int .u8 (rAbove m), .int .u8 (rBelow m), .bool (rMinus m)]).alloc (.cells #[.bool s, .bool false, .int .u64 a, .int .u64 b, .int .i64 x] 80)
  have kV := BlkV.made' (w.alloc (.cells #[.int .u8 (rAbove m), .int .u8 (rBelow m), .bool (rMinus m)] 63)) (w.heap.size + 1) (by simp) 80 [.bool s, .bool false, .int .u64 a, .int .u64 b, .int .i64 x]
  have hF : Fwd w ((w.alloc (.cells #[.int .u8 (rAbove m), .int .u8 (rBelow m), .bool (rMinus m)] 63)).alloc (.cells #[.bool s, .bool false, .int .u64 a, .int .u64 b, .int .i64 x] 80)) := ((Fwd.refl w).alloc _).alloc _
  unfold ruleV
  go_enter Tryz.func46, Tryz.ntmps46
  go_wp2_with fail
  refine (hd _).mono ?_
  rintro e w1 ⟨rfl, hf⟩
  replace kR := kR.fwd hf
  replace kV := kV.fwd hf
  replace hF := hF.trans hf
  clear hf
  clear hd
  have c0 := BlkV.cell kV 0 rfl
  have c1 := BlkV.cell kV 1 rfl
  have c2 := BlkV.cell kV 2 rfl
  have c3 := BlkV.cell kV 3 rfl
  have c4 := BlkV.cell kV 4 rfl
  go_wp2_with fail
  refine (hc _).mono ?_
  rintro e w2 ⟨u, rfl, hf, a', b', rfl, g1, g2, hN⟩
  clear c0 c1 c2 c3 c4
  replace kR := kR.fwd hf
  replace kV := kV.fwd hf
  replace hF := hF.trans hf
  clear hf
  have c0 := BlkV.cell kV 0 rfl
  have cz0 := BlkV.frozen kV 0
  have c1 := BlkV.cell kV 1 rfl
  have cz1 := BlkV.frozen kV 1
  have c2 := BlkV.cell kV 2 rfl
  have cz2 := BlkV.frozen kV 2
  have c3 := BlkV.cell kV 3 rfl
  have cz3 := BlkV.frozen kV 3
  have c4 := BlkV.cell kV 4 rfl
  have cz4 := BlkV.frozen kV 4
  have hW : WV (.agg #[.int .u64 a', .int .u64 b']) N := ⟨a', b', rfl, g1, g2, hN⟩
  have hsg := fun w => sign_sgn (w := w) (v := .agg #[.bool s, .bool false, .int .u64 a', .int .u64 b', .int .i64 X]) (en := false) (n := N) (x := X) ⟨a', b', rfl, g1, g2, hN⟩
  clear hN hc
  have t0 := BlkV.set kV 0 (.bool s)
  have st0 := BlkV.cell t0 0 rfl
  have t1 := BlkV.set t0 1 (.bool false)
  have st1 := BlkV.cell t1 1 rfl
  have t2 := BlkV.set t1 2 (.int .u64 (a' : Int))
  have st2 := BlkV.cell t2 2 rfl
  have t3 := BlkV.set t2 3 (.int .u64 (b' : Int))
  have st3 := BlkV.cell t3 3 rfl
  have t4 := BlkV.set t3 4 (.int .i64 X)
  have st4 := BlkV.cell t4 4 rfl
  have o1 := ((((Only.set (w.heap.size + 1) w2 0 (.bool s)).setv 1 (.bool false)).setv 2 (.int .u64 (a' : Int))).setv 3 (.int .u64 (b' : Int))).setv 4 (.int .i64 X)
  replace kR := BlkV.only kR o1 (by omega)
  replace hF := hF.wrote o1 (by omega)
  go_wp2_with fail
  refine (wdown_at (k := S) hW (by omega) (by omega)).mono ?_
  rintro e w3 ⟨q, rfl, ⟨a2, b2, rfl, q1, q2, hq⟩, hf⟩
  obtain rfl : a2 = 0 := by omega
  obtain rfl : K = b2 := by omega
  clear hq hW
  clear c0 c1 c2 c3 c4 cz0 cz1 cz2 cz3 cz4 kV st0 st1 st2 st3 st4 t0 t1 t2 t3 o1
  have kV := t4
  clear t4
  replace kR := kR.fwd hf
  replace kV := kV.fwd hf
  replace hF := hF.trans hf
  clear hf
  have c0 := BlkV.cell kV 0 rfl
  have c1 := BlkV.cell kV 1 rfl
  have c2 := BlkV.cell kV 2 rfl
  have c3 := BlkV.cell kV 3 rfl
  have c4 := BlkV.cell kV 4 rfl
  have r0 := BlkV.cell kR 0 rfl
  have r1 := BlkV.cell kR 1 rfl
  have r2 := BlkV.cell kR 2 rfl
  go_wp2_with fail
  refine (hg _).mono ?_
  rintro e w4 ⟨rfl, hf⟩
  clear c0 c1 c2 c3 c4 r0 r1 r2
  replace kR := kR.fwd hf
  replace kV := kV.fwd hf
  replace hF := hF.trans hf
  clear hf
  have c0 := BlkV.cell kV 0 rfl
  have c1 := BlkV.cell kV 1 rfl
  have c2 := BlkV.cell kV 2 rfl
  have c3 := BlkV.cell kV 3 rfl
  have c4 := BlkV.cell kV 4 rfl
  have r0 := BlkV.cell kR 0 rfl
  have r1 := BlkV.cell kR 1 rfl
  have r2 := BlkV.cell kR 2 rfl
  clear hg
  obtain ⟨Z, hZ⟩ : ∃ Z : Nat, Z = k4 + g := ⟨_, rfl⟩
  have e5 : (k4 : Int) + g = Z := by omega
  have hzl : Z < 9218868437227405312 := by omega
  have i0 : decide (9218868437227405312 ≤ (Z : Int)) = false := decide_eq_false (by omega)
  have hon := or_sgn s Z (by omega)
  rw [← hZ] at HR
  have HZ := hid hZ
  clear hZ hk4
  generalize sgn s + Z = sz at *
  generalize sgn s = sg at *
  by_cases cq : Q = 0
  · have i1 : ((Q : Int) == 0) = true := by simp [cq]
    have HQ := hid cq
    clear cq
    go_wp2_with fail
    refine (hsg _).mono ?_
    rintro e w5 ⟨rfl, hf⟩
    go_wp2
    go_ret2
    have hr := HR.out
    rw [if_pos HQ.out] at hr
    exact ⟨ret_pair (by omega) (by omega), hF.trans hf⟩
  · have i1 : ((Q : Int) == 0) = false := by simp; omega
    have HQ := hid cq
    clear cq
    go_wp2_with fail
    refine (hsg _).mono ?_
    rintro e w5 ⟨rfl, hf⟩
    go_wp2
    go_ret2
    have hr := HR.out
    rw [if_neg HQ.out] at hr
    exact ⟨ret_pair (by omega) (by omega), hF.trans hf⟩
end Go.Proofs.YtfegepkhfckamaaGreatDoor
