/- sfloat's value: valueOf, isNought, sign; sfloat's rule: ruleOf, greater, beyond; isNone. -/
/- sfloat's lifted. -/
/- sfloat's round. -/
import Derived.Test.YtcfhajnboamnnabGreatDoorYXF2
namespace Go.Proofs.YtcfhajnboamnnabGreatDoor
open Go.RowKit
set_option linter.unusedVariables false

/-- A float's parts: its sign, its size, its fields. -/
def fneg (f : Nat) : Bool := decide (9223372036854775808 ≤ f)
def fsz (f : Nat) : Nat := f % 9223372036854775808
theorem and_two_pow_bit (a k : Nat) : a &&& 2 ^ k = (a / 2 ^ k % 2) * 2 ^ k := by
  rcases Nat.mod_two_eq_zero_or_one (a / 2 ^ k) with e | e
  · rw [e, Nat.zero_mul]
    apply Nat.eq_of_testBit_eq
    intro i
    rw [Nat.testBit_and, Nat.testBit_two_pow, Nat.zero_testBit]
    by_cases h : k = i
    · subst h; simp [Nat.testBit_eq_decide_div_mod_eq, e]
    · simp [h]
  · rw [e, Nat.one_mul]
    apply Nat.eq_of_testBit_eq
    intro i
    rw [Nat.testBit_and, Nat.testBit_two_pow]
    by_cases h : k = i
    · subst h; simp [Nat.testBit_eq_decide_div_mod_eq, e]
    · simp [h]
theorem and_sign (f : Nat) (hf : f < 18446744073709551616) : bits .and .u64 (f : Int) 9223372036854775808 = ((if 9223372036854775808 ≤ f then 9223372036854775808 else 0 : Nat) : Int) := by
  have h := bits_and_u64_nat f 9223372036854775808 hf (by decide)
  rw [show (9223372036854775808 : Nat) = 2 ^ 63 from rfl, and_two_pow_bit, show (2 : Nat) ^ 63 = 9223372036854775808 from rfl] at h
  refine Eq.trans h ?_
  congr 1
  split <;> omega
theorem and_sign_ne (f : Nat) (hf : f < 18446744073709551616) : (bits .and .u64 (f : Int) 9223372036854775808 != 0) = fneg f := by
  rw [and_sign f hf]; unfold fneg
  by_cases c : 9223372036854775808 ≤ f
  · simp [c]
  · simp [c]
theorem andNot_sign (f : Nat) (hf : f < 18446744073709551616) : bits .andNot .u64 (f : Int) 9223372036854775808 = (fsz f : Int) := by
  have h := u64_andNot_nat f 9223372036854775808 hf (by decide)
  rw [show 18446744073709551615 - 9223372036854775808 = 2 ^ 63 - 1 from rfl, Nat.and_two_pow_sub_one_eq_mod] at h
  exact h
theorem and_frac (f : Nat) (hf : f < 18446744073709551616) : bits .and .u64 (f : Int) 4503599627370495 = ((f % 4503599627370496 : Nat) : Int) := by
  have h := bits_and_u64_nat f 4503599627370495 hf (by decide)
  rw [show (4503599627370495 : Nat) = 2 ^ 52 - 1 from rfl, Nat.and_two_pow_sub_one_eq_mod] at h
  exact h
theorem or_lead (m : Nat) (hm : m < 4503599627370496) : bits .or .u64 (m : Int) 4503599627370496 = ((m + 4503599627370496 : Nat) : Int) := by
  have h := bits_or_u64_nat m 4503599627370496 (by omega) (by decide)
  have e := or_add 1 m 52 hm
  rw [Nat.or_comm, show (1 * 2 ^ 52 : Nat) = 4503599627370496 from rfl] at e
  rw [e, Nat.add_comm] at h
  exact h
theorem and_one (x : Nat) (hx : x < 18446744073709551616) : bits .and .u64 (x : Int) 1 = ((x % 2 : Nat) : Int) := by
  have h := bits_and_u64_nat x 1 hx (by decide)
  rw [show (1 : Nat) = 2 ^ 1 - 1 from rfl, Nat.and_two_pow_sub_one_eq_mod] at h
  exact h

/-- The struct v is a value: its sign, whether it is endless, its size, its exponent. -/
def VV (v : Value) (s en : Bool) (n : Nat) (x : Int) : Prop := ∃ a b : Nat, v = .agg #[.bool s, .bool en, .int .u64 a, .int .u64 b, .int .i64 x] ∧ a < 18446744073709551616 ∧ b < 18446744073709551616 ∧ n = a * 18446744073709551616 + b
theorem VV.lt {v : Value} {s en : Bool} {n : Nat} {x : Int} (h : VV v s en n x) : n < 340282366920938463463374607431768211456 := by
  obtain ⟨a, b, -, h1, h2, rfl⟩ := h; omega
/-- A finite float's size and exponent. -/
def vsz (f : Nat) : Nat := if fsz f / 4503599627370496 = 0 then f % 4503599627370496 else f % 4503599627370496 + 4503599627370496
def vex (f : Nat) : Int := if fsz f / 4503599627370496 = 0 then -1074 else -1074 + (((fsz f / 4503599627370496 : Nat) : Int) - 1)

theorem isNone_any {w : World} (f : Nat) (hf : f < 18446744073709551616) : Calls Tryz.prog 88 #[.int .u64 f] w fun e w' => e = .returned (.bool (decide (9218868437227405312 < fsz f))) ∧ w' = w := by
  have h1 := andNot_sign f hf
  go_enter Tryz.func88, Tryz.ntmps88
  go_wp2
  go_ret
  exact ⟨ret_bool (by rw [Bool.eq_iff_iff]; simp; omega), rfl⟩

set_option maxHeartbeats 4000000 in
set_option maxRecDepth 100000 in
theorem valueOf_any {w : World} (f : Nat) (hf : f < 18446744073709551616) : Calls Tryz.prog 108 #[.int .u64 f] w fun e w' => ∃ v, e = .returned v ∧ Fwd w w' ∧ (if fsz f = 9218868437227405312 then VV v (fneg f) true 0 0 else VV v (fneg f) false (vsz f) (vex f)) := by
  have hS := and_sign_ne f hf
  have hZ := andNot_sign f hf
  have hM := and_frac f hf
  have hz : fsz f < 9223372036854775808 := Nat.mod_lt _ (by omega)
  have hm : f % 4503599627370496 < 4503599627370496 := Nat.mod_lt _ (by omega)
  have hO := or_lead _ hm
  have hE : (fsz f : Int) / 4503599627370496 = ((fsz f / 4503599627370496 : Nat) : Int) := by omega
  unfold vsz vex
  by_cases c : fsz f = 9218868437227405312
  · have hI : ((fsz f : Int) == 9218868437227405312) = true := by simp; omega
    simp only [if_pos c]
    generalize fsz f = z at *
    generalize fneg f = s at *
    go_enter Tryz.func108, Tryz.ntmps108
    go_wp2
    refine bodyPost_ret (by simp [results, Tryz.results108, go_sem]; try rfl) rfl ?_
    exact ⟨_, rfl, ((Fwd.refl w).alloc _).alloc _, ⟨0, 0, rfl, by omega, by omega, rfl⟩⟩
  · have hI : ((fsz f : Int) == 9218868437227405312) = false := by simp; omega
    simp only [if_neg c]
    by_cases d : fsz f / 4503599627370496 = 0
    · have hN : (((fsz f / 4503599627370496 : Nat) : Int) != 0) = false := by rw [d]; rfl
      simp only [if_pos d]
      generalize fsz f = z at *
      generalize fneg f = s at *
      generalize z / 4503599627370496 = e at *
      generalize f % 4503599627370496 = m at *
      clear d
      go_enter Tryz.func108, Tryz.ntmps108
      go_wp2
      refine bodyPost_ret (by simp [results, Tryz.results108, go_sem]; try rfl) rfl ?_
      exact ⟨_, rfl, ((Fwd.refl w).alloc _).alloc _, ⟨0, m, rfl, by omega, by omega, by omega⟩⟩
    · have hN : (((fsz f / 4503599627370496 : Nat) : Int) != 0) = true := by simp; omega
      have he : fsz f / 4503599627370496 < 2048 := by omega
      simp only [if_neg d]
      generalize fsz f = z at *
      generalize fneg f = s at *
      generalize z / 4503599627370496 = e at *
      generalize f % 4503599627370496 = m at *
      have hm2 : m + 4503599627370496 < 18446744073709551616 := by omega
      generalize m + 4503599627370496 = m' at *
      go_enter Tryz.func108, Tryz.ntmps108
      go_wp2
      refine bodyPost_ret (by simp [results, Tryz.results108, go_sem]; try rfl) rfl ?_
      exact ⟨_, rfl, ((Fwd.refl w).alloc _).alloc _, ⟨0, m', rfl, by omega, by omega, by omega⟩⟩

theorem visNought_any {w : World} {v : Value} {s en : Bool} {n : Nat} {x : Int} (h : VV v s en n x) : Calls Tryz.prog 109 #[v] w fun e w' => e = .returned (.bool (!en && n == 0)) ∧ Fwd w w' := by
  obtain ⟨a, b, rfl, h1, h2, hn⟩ := h
  have hc := fun w => wisNought_any (w := w) (v := .agg #[.int .u64 a, .int .u64 b]) (n := n) ⟨a, b, rfl, h1, h2, hn⟩
  clear hn
  generalize (n == 0) = q at *
  cases en
  · go_enter Tryz.func109, Tryz.ntmps109
    go_wp2_with fail
    refine (hc _).mono ?_
    rintro e w1 ⟨rfl, hf⟩
    go_wp2
    go_ret
    exact ⟨ret_bool (by simp), ((Fwd.refl w).alloc _).trans hf⟩
  · go_enter Tryz.func109, Tryz.ntmps109
    go_wp2
    go_ret
    exact ⟨ret_bool (by simp), (Fwd.refl w).alloc _⟩

theorem vsign_any {w : World} {v : Value} {s en : Bool} {n : Nat} {x : Int} (h : VV v s en n x) : Calls Tryz.prog 112 #[v] w fun e w' => e = .returned (.int .u64 ((if s then 9223372036854775808 else 0 : Nat) : Int)) ∧ Fwd w w' := by
  obtain ⟨a, b, rfl, h1, h2, rfl⟩ := h
  cases s <;>
  · go_enter Tryz.func112, Tryz.ntmps112
    go_wp2
    go_ret
    exact ⟨rfl, (Fwd.refl w).alloc _⟩

/-- The rules' table, by the mode. -/
def rAbove (m : Int) : Nat := if m = 1 then 0 else if m = 2 then 0 else if m = 3 then 238 else if m = 4 then 204 else 200
def rBelow (m : Int) : Nat := if m = 1 then 0 else if m = 2 then 238 else if m = 3 then 0 else if m = 4 then 204 else 200
def rMinus (m : Int) : Bool := decide (m = 2)
def ruleV (m : Int) : Value := .agg #[.int .u8 (rAbove m), .int .u8 (rBelow m), .bool (rMinus m)]
def rulesL : List Value := [.int .u8 200, .int .u8 200, .bool false, .int .u8 0, .int .u8 0, .bool false, .int .u8 0, .int .u8 238, .bool true, .int .u8 238, .int .u8 0, .bool false, .int .u8 204, .int .u8 204, .bool false]
/-- The table of rules lies where the program lays it. -/
def Ru (w : World) : Prop := ∀ (i : Nat) v, rulesL[i]? = some v → w.cell? ⟨0, i, none⟩ = some v
theorem Ru.fwd {w w' : World} (h : Ru w) (k : Fwd w w') : Ru w' := fun i v hi => k.cell (h i v hi)
theorem Ru.drew {w : World} (h : Ru w) : Ru w.drew := h

set_option maxHeartbeats 4000000 in
set_option maxRecDepth 100000 in
theorem ruleOf_any {w : World} (m : Int) (hR : Ru w) : Calls Tryz.prog 84 #[.int .i64 m] w fun e w' => e = .returned (ruleV m) ∧ Fwd w w' := by
  have hR' : Ru (w.alloc (.cells #[.int .u8 0, .int .u8 0, .bool false] 97)) := hR.fwd ((Fwd.refl w).alloc _)
  have q0 := hR' 0 _ rfl
  have q1 := hR' 1 _ rfl
  have q2 := hR' 2 _ rfl
  have q3 := hR' 3 _ rfl
  have q4 := hR' 4 _ rfl
  have q5 := hR' 5 _ rfl
  have q6 := hR' 6 _ rfl
  have q7 := hR' 7 _ rfl
  have q8 := hR' 8 _ rfl
  have q9 := hR' 9 _ rfl
  have q10 := hR' 10 _ rfl
  have q11 := hR' 11 _ rfl
  have q12 := hR' 12 _ rfl
  have q13 := hR' 13 _ rfl
  have q14 := hR' 14 _ rfl
  have p0 := hR 0 _ rfl
  have p1 := hR 1 _ rfl
  have p2 := hR 2 _ rfl
  have p3 := hR 3 _ rfl
  have p4 := hR 4 _ rfl
  have p5 := hR 5 _ rfl
  have p6 := hR 6 _ rfl
  have p7 := hR 7 _ rfl
  have p8 := hR 8 _ rfl
  have p9 := hR 9 _ rfl
  have p10 := hR 10 _ rfl
  have p11 := hR 11 _ rfl
  have p12 := hR 12 _ rfl
  have p13 := hR 13 _ rfl
  have p14 := hR 14 _ rfl
  by_cases c : m < 0 ∨ 5 ≤ m
  · have e1 : ruleV m = .agg #[.int .u8 200, .int .u8 200, .bool false] := by
      have h1 : m ≠ 1 := by omega
      have h2 : m ≠ 2 := by omega
      have h3 : m ≠ 3 := by omega
      have h4 : m ≠ 4 := by omega
      simp [ruleV, rAbove, rBelow, rMinus, h1, h2, h3, h4]
    rw [e1]
    by_cases c1 : m < 0
    · go_enter Tryz.func84, Tryz.ntmps84
      go_wp2
      refine bodyPost_ret (by simp [results, Tryz.results84, go_sem]; try rfl) rfl ?_
      exact ⟨rfl, (Fwd.refl w).alloc _⟩
    · have c2 : 5 ≤ m := by omega
      go_enter Tryz.func84, Tryz.ntmps84
      go_wp2
      refine bodyPost_ret (by simp [results, Tryz.results84, go_sem]; try rfl) rfl ?_
      exact ⟨rfl, (Fwd.refl w).alloc _⟩
  · obtain rfl | rfl | rfl | rfl | rfl : m = 0 ∨ m = 1 ∨ m = 2 ∨ m = 3 ∨ m = 4 := by omega
    all_goals clear c
    all_goals go_enter Tryz.func84, Tryz.ntmps84
    all_goals go_wp2
    all_goals refine bodyPost_ret (by simp [results, Tryz.results84, go_sem]; try rfl) rfl ?_
    all_goals exact ⟨rfl, (Fwd.refl w).alloc _⟩

/-- Is the greater size taken? -/
def grt (m : Int) (s : Bool) (t : Nat) : Nat := (if s then rBelow m else rAbove m) / 2 ^ t % 2
theorem rAbove_lt (m : Int) : rAbove m < 256 := by unfold rAbove; repeat' split
                                                   all_goals omega
theorem rBelow_lt (m : Int) : rBelow m < 256 := by unfold rBelow; repeat' split
                                                   all_goals omega

set_option maxHeartbeats 4000000 in
set_option maxRecDepth 100000 in
theorem greater_any {w : World} (m : Int) (s : Bool) (t : Nat) (ht : t < 8) : Calls Tryz.prog 115 #[ruleV m, .bool s, .int .u64 t] w fun e w' => e = .returned (.int .u64 (grt m s t : Nat)) ∧ Fwd w w' := by
  unfold ruleV grt
  have ha := rAbove_lt m
  have hb := rBelow_lt m
  generalize rAbove m = a at *
  generalize rBelow m = b at *
  have e1 : (a : Int) / 2 ^ t = ((a / 2 ^ t : Nat) : Int) := by rw [Int.natCast_ediv]; congr 1
  have e2 : (b : Int) / 2 ^ t = ((b / 2 ^ t : Nat) : Int) := by rw [Int.natCast_ediv]; congr 1
  have e3 := and_one (a / 2 ^ t) (Nat.lt_of_le_of_lt (Nat.div_le_self _ _) (by omega))
  have e4 := and_one (b / 2 ^ t) (Nat.lt_of_le_of_lt (Nat.div_le_self _ _) (by omega))
  rw [← e1] at e3
  rw [← e2] at e4
  clear e1 e2
  obtain rfl | rfl | rfl | rfl | rfl | rfl | rfl | rfl : t = 0 ∨ t = 1 ∨ t = 2 ∨ t = 3 ∨ t = 4 ∨ t = 5 ∨ t = 6 ∨ t = 7 := by omega
  all_goals simp only [Nat.reducePow, Int.reducePow, Nat.div_one, Int.ediv_one] at e3 e4 ⊢
  all_goals cases s
  all_goals go_enter Tryz.func115, Tryz.ntmps115
  all_goals go_wp2
  all_goals go_ret
  all_goals exact ⟨ret_int (by first | rfl | omega), (Fwd.refl w).alloc _⟩

set_option maxHeartbeats 4000000 in
set_option maxRecDepth 100000 in
theorem beyond_any {w : World} (m : Int) (s : Bool) : Calls Tryz.prog 116 #[ruleV m, .bool s] w fun e w' => e = .returned (.int .u64 ((9218868437227405311 + grt m s 7 : Nat) : Int)) ∧ Fwd w w' := by
  have hg : grt m s 7 < 2 := Nat.mod_lt _ (by omega)
  have hc := fun w => greater_any (w := w) m s 7 (by omega)
  unfold ruleV at *
  generalize grt m s 7 = g at *
  go_enter Tryz.func116, Tryz.ntmps116
  go_wp2_with fail
  refine (hc _).mono ?_
  rintro e w1 ⟨rfl, hf⟩
  go_wp2
  go_ret
  exact ⟨ret_int (by omega), ((Fwd.refl w).alloc _).trans hf⟩
end Go.Proofs.YtcfhajnboamnnabGreatDoor

namespace Go.Proofs.YtcfhajnboamnnabGreatDoor
open Go.RowKit
set_option linter.unusedVariables false

/-- The shift that leaves so much room. -/
def lsh (n r : Nat) : Nat := 128 - blen n - r
theorem blen_pos {n : Nat} (h : n ≠ 0) : 1 ≤ blen n := by unfold blen; rw [if_neg h]; omega
theorem lt_blen (n : Nat) : n < 2 ^ blen n := (blen_le_iff n _).1 (Nat.le_refl _)
theorem lift_lt {n r : Nat} (h : n ≠ 0) (hn : n < 340282366920938463463374607431768211456) : n * 2 ^ lsh n r < 340282366920938463463374607431768211456 := by
  have hb : blen n ≤ 128 := (blen_le_iff n 128).2 hn
  have h1 := lt_blen n
  have h2 : n * 2 ^ lsh n r < 2 ^ blen n * 2 ^ lsh n r := Nat.mul_lt_mul_of_pos_right h1 (Nat.two_pow_pos _)
  rw [← Nat.pow_add] at h2
  have h3 : 2 ^ (blen n + lsh n r) ≤ 2 ^ 128 := Nat.pow_le_pow_right (by omega) (by unfold lsh; omega)
  exact Nat.lt_of_lt_of_le h2 h3

set_option maxHeartbeats 4000000 in
set_option maxRecDepth 100000 in
theorem lifted_any {w : World} {v : Value} {s en : Bool} {n r : Nat} {x : Int} (h : VV v s en n x) (hn : n ≠ 0) (hr : r + blen n ≤ 128) (hx1 : -1000000 ≤ x) (hx2 : x ≤ 1000000) :
    Calls Tryz.prog 113 #[v, .int .i64 r] w fun e w' => ∃ u, e = .returned u ∧ Fwd w w' ∧ VV u s en (n * 2 ^ lsh n r) (x - lsh n r) := by
  have hlt := lift_lt (r := r) hn h.lt
  have hp := blen_pos hn
  obtain ⟨a, b, rfl, h1, h2, hab⟩ := h
  have hw : WV (.agg #[.int .u64 a, .int .u64 b]) n := ⟨a, b, rfl, h1, h2, hab⟩
  have hs : lsh n r ≤ 127 := by unfold lsh; omega
  have hsub : ((128 - blen n : Nat) : Int) - r = (lsh n r : Int) := by unfold lsh; omega
  have hlen : 128 - blen n ≤ 128 := by omega
  have hrr : r ≤ 128 := by omega
  have c1 := fun w => wfree_any (w := w) hw
  have c2 := fun w => wup_any (w := w) hw hs hlt
  generalize lsh n r = k at *
  generalize n * 2 ^ k = N at *
  generalize 128 - blen n = fr at *
  clear hw hlt hab hn hp hr
  have kB : BlkV ((w.alloc (.cells #[.bool s, .bool en, .int .u64 a, .int .u64 b, .int .i64 x] 107)).alloc (.cells #[.bool false, .bool false, .int .u64 0, .int .u64 0, .int .i64 0] 107)) w.heap.size 107 [.bool s, .bool en, .int .u64 a, .int .u64 b, .int .i64 x] := (BlkV.made w _ [.bool s, .bool en, .int .u64 a, .int .u64 b, .int .i64 x]).alloc _
  have kR : BlkV ((w.alloc (.cells #[.bool s, .bool en, .int .u64 a, .int .u64 b, .int .i64 x] 107)).alloc (.cells #[.bool false, .bool false, .int .u64 0, .int .u64 0, .int .i64 0] 107)) (w.heap.size + 1) 107 [.bool false, .bool false, .int .u64 0, .int .u64 0, .int .i64 0] := BlkV.made' _ _ (by simp) _ [.bool false, .bool false, .int .u64 0, .int .u64 0, .int .i64 0]
  have hF : Fwd w ((w.alloc (.cells #[.bool s, .bool en, .int .u64 a, .int .u64 b, .int .i64 x] 107)).alloc (.cells #[.bool false, .bool false, .int .u64 0, .int .u64 0, .int .i64 0] 107)) := ((Fwd.refl w).alloc _).alloc _
  go_enter Tryz.func113, Tryz.ntmps113
  go_wp2_with fail
  refine (c1 _).mono ?_
  rintro e w1 ⟨rfl, hf1⟩
  replace kB := kB.fwd hf1
  replace kR := kR.fwd hf1
  replace hF := hF.trans hf1
  clear hf1
  have b2 := BlkV.cell kB 2 rfl
  have b3 := BlkV.cell kB 3 rfl
  go_wp2_with fail
  refine (c2 _).mono ?_
  rintro e w2 ⟨u, rfl, ⟨a', b', rfl, g1, g2, hN⟩, hf2⟩
  replace kB := kB.fwd hf2
  replace kR := kR.fwd hf2
  replace hF := hF.trans hf2
  clear hf2 b2 b3
  have HN := hid hN
  clear hN
  have b0 := BlkV.cell kB 0 rfl
  have b1 := BlkV.cell kB 1 rfl
  have b2 := BlkV.cell kB 2 rfl
  have b3 := BlkV.cell kB 3 rfl
  have b4 := BlkV.cell kB 4 rfl
  have z2 := BlkV.frozen kB 2
  have z3 := BlkV.frozen kB 3
  have z4 := BlkV.frozen kB 4
  have r0 := BlkV.cell kR 0 rfl
  have r1 := BlkV.cell kR 1 rfl
  have r2 := BlkV.cell kR 2 rfl
  have r3 := BlkV.cell kR 3 rfl
  have r4 := BlkV.cell kR 4 rfl
  have y0 := BlkV.frozen kR 0
  have y1 := BlkV.frozen kR 1
  have y2 := BlkV.frozen kR 2
  have y3 := BlkV.frozen kR 3
  have y4 := BlkV.frozen kR 4
  go_wp2
  have o1 := ((Only.set w.heap.size w2 2 (.int .u64 (a' : Int))).setv 3 (.int .u64 (b' : Int))).setv 4 (.int .i64 (x - k))
  have kR3 := BlkV.only kR o1 (by omega)
  have t0 := BlkV.set kR3 0 (.bool s)
  have st0 := BlkV.cell t0 0 rfl
  have t1 := BlkV.set t0 1 (.bool en)
  have st1 := BlkV.cell t1 1 rfl
  have t2 := BlkV.set t1 2 (.int .u64 (a' : Int))
  have st2 := BlkV.cell t2 2 rfl
  have t3 := BlkV.set t2 3 (.int .u64 (b' : Int))
  have st3 := BlkV.cell t3 3 rfl
  have t4 := BlkV.set t3 4 (.int .i64 (x - k))
  have st4 := BlkV.cell t4 4 rfl
  refine bodyPost_ret (by simp [results, Tryz.results113, go_sem, st0, st1, st2, st3, st4]; try rfl) rfl ?_
  exact ⟨_, rfl, ((((((((hF.set (by omega)).set (by omega)).set (by omega)).set (by omega)).set (by omega)).set (by omega)).set (by omega)).set (by omega)), ⟨a', b', rfl, g1, g2, HN.out⟩⟩
end Go.Proofs.YtcfhajnboamnnabGreatDoor

namespace Go.Proofs.YtcfhajnboamnnabGreatDoor
open Go.RowKit
set_option linter.unusedVariables false

theorem dn_lt {n j k : Nat} (hj : 1 ≤ j) (h : n < 2 ^ (j + k)) : dn n k < 2 ^ j := by
  unfold dn
  refine Nat.or_lt_two_pow ?_ (Nat.lt_of_lt_of_le (stk_lt _) ?_)
  · rw [Nat.div_lt_iff_lt_mul (Nat.two_pow_pos k), ← Nat.pow_add]; exact h
  · exact Nat.pow_le_pow_right (n := 2) (by omega) hj
/-- Its last place's exponent, if there were no least one; the place; what is kept; the size; the float; the flags. -/
def hiP (n : Nat) (x : Int) : Int := x - lsh n 0 + 75
def plP (n : Nat) (x : Int) : Int := max (hiP n x) (-1074)
def shP (n : Nat) (x : Int) : Nat := (plP n x - 2 - (x - lsh n 0)).toNat
def kpt (n : Nat) (x : Int) : Nat := dn (n * 2 ^ lsh n 0) (shP n x)
def fdP (n : Nat) (x : Int) : Nat := (min (plP n x + 1074) 2046).toNat
def szP (m : Int) (s : Bool) (n : Nat) (x : Int) : Nat := fdP n x * 4503599627370496 + kpt n x / 4 + grt m s (kpt n x % 8)
def sgn (s : Bool) : Nat := if s then 9223372036854775808 else 0
def rnd (m : Int) (s : Bool) (n : Nat) (x : Int) : Nat := sgn s + (if 9218868437227405312 ≤ szP m s n x then 9218868437227405311 + grt m s 7 else szP m s n x)
def rndF (m : Int) (s : Bool) (n : Nat) (x : Int) : Nat := if 9218868437227405312 ≤ szP m s n x then 5 else if kpt n x % 4 = 0 then 0 else if hiP n x < -1074 then 3 else 1
theorem kpt_lt {n : Nat} (x : Int) (h : n ≠ 0) (hn : n < 340282366920938463463374607431768211456) : kpt n x < 36028797018963968 := by
  unfold kpt
  refine dn_lt (j := 55) (by omega) (Nat.lt_of_lt_of_le (lift_lt h hn) ?_)
  refine Nat.pow_le_pow_right (n := 2) (i := 128) (by omega) ?_
  unfold shP plP hiP
  omega
theorem grt_lt (m : Int) (s : Bool) (t : Nat) : grt m s t < 2 := Nat.mod_lt _ (by omega)
theorem or_sgn (s : Bool) (z : Nat) (hz : z < 9223372036854775808) : bits .or .u64 (sgn s : Int) (z : Int) = ((sgn s + z : Nat) : Int) := by
  unfold sgn
  cases s
  · rw [bits_or_u64_nat _ _ (by decide) (by omega)]; simp
  · rw [bits_or_u64_nat _ _ (by decide) (by omega)]
    have e := or_add 1 z 63 hz
    rw [show (1 * 2 ^ 63 : Nat) = 9223372036854775808 from rfl] at e
    simp only [if_true]
    rw [e]
theorem and7 (x : Nat) (hx : x < 18446744073709551616) : bits .and .u64 (x : Int) 7 = ((x % 8 : Nat) : Int) := by
  have h := bits_and_u64_nat x 7 hx (by decide)
  rw [show (7 : Nat) = 2 ^ 3 - 1 from rfl, Nat.and_two_pow_sub_one_eq_mod] at h
  exact h
theorem and3 (x : Nat) (hx : x < 18446744073709551616) : bits .and .u64 (x : Int) 3 = ((x % 4 : Nat) : Int) := by
  have h := bits_and_u64_nat x 3 hx (by decide)
  rw [show (3 : Nat) = 2 ^ 2 - 1 from rfl, Nat.and_two_pow_sub_one_eq_mod] at h
  exact h
theorem sign_sgn {w : World} {v : Value} {s en : Bool} {n : Nat} {x : Int} (h : VV v s en n x) : Calls Tryz.prog 112 #[v] w fun e w' => e = .returned (.int .u64 (sgn s : Nat)) ∧ Fwd w w' := vsign_any h
theorem sgn_lt (s : Bool) : sgn s < 18446744073709551616 := by unfold sgn; split <;> omega

set_option maxHeartbeats 8000000 in
set_option maxRecDepth 100000 in
theorem round_end {w : World} {v : Value} {s : Bool} {n : Nat} {x : Int} (m : Int) (h : VV v s true n x) :
    Calls Tryz.prog 92 #[ruleV m, v] w fun e w' => e = .returned (.tuple #[.int .u64 ((sgn s + 9218868437227405312 : Nat) : Int), .int .i64 0]) ∧ Fwd w w' := by
  have hc := fun w => sign_sgn (w := w) h
  have ho : bits .or .u64 (sgn s : Int) 9218868437227405312 = ((sgn s + 9218868437227405312 : Nat) : Int) := or_sgn s 9218868437227405312 (by omega)
  have hl := sgn_lt s
  generalize sgn s = g at *
  generalize g + 9218868437227405312 = g' at *
  obtain ⟨a, b, rfl, h1, h2, hab⟩ := h
  clear hab
  unfold ruleV
  go_enter Tryz.func92, Tryz.ntmps92
  go_wp2_with fail
  refine (hc _).mono ?_
  rintro e w1 ⟨rfl, hf⟩
  go_wp2
  go_ret2
  exact ⟨rfl, (((Fwd.refl w).alloc _).alloc _).trans hf⟩

set_option maxHeartbeats 8000000 in
set_option maxRecDepth 100000 in
theorem round_nought {w : World} {v : Value} {s : Bool} {x : Int} (m : Int) (h : VV v s false 0 x) :
    Calls Tryz.prog 92 #[ruleV m, v] w fun e w' => e = .returned (.tuple #[.int .u64 (sgn s : Nat), .int .i64 0]) ∧ Fwd w w' := by
  have hc := fun w => sign_sgn (w := w) h
  have hd := fun w => visNought_any (w := w) h
  have hl := sgn_lt s
  generalize sgn s = g at *
  obtain ⟨a, b, rfl, h1, h2, hab⟩ := h
  obtain rfl : a = 0 := by omega
  obtain rfl : b = 0 := by omega
  clear hab
  have kR := (BlkV.made w 97 [.int .u8 (rAbove m), .int .u8 (rBelow m), .bool (rMinus m)]).alloc (.cells #[.bool s, .bool false, .int .u64 0, .int .u64 0, .int .i64 x] 107)
  have kV := BlkV.made' (w.alloc (.cells #[.int .u8 (rAbove m), .int .u8 (rBelow m), .bool (rMinus m)] 97)) (w.heap.size + 1) (by simp) 107 [.bool s, .bool false, .int .u64 0, .int .u64 0, .int .i64 x]
  have hF : Fwd w ((w.alloc (.cells #[.int .u8 (rAbove m), .int .u8 (rBelow m), .bool (rMinus m)] 97)).alloc (.cells #[.bool s, .bool false, .int .u64 0, .int .u64 0, .int .i64 x] 107)) := ((Fwd.refl w).alloc _).alloc _
  unfold ruleV
  go_enter Tryz.func92, Tryz.ntmps92
  go_wp2_with fail
  refine (hd _).mono ?_
  rintro e w1 ⟨rfl, hf⟩
  replace kV := kV.fwd hf
  replace hF := hF.trans hf
  clear hf
  have c0 := BlkV.cell kV 0 rfl
  have c1 := BlkV.cell kV 1 rfl
  have c2 := BlkV.cell kV 2 rfl
  have c3 := BlkV.cell kV 3 rfl
  have c4 := BlkV.cell kV 4 rfl
  go_wp2_with fail
  refine (hc _).mono ?_
  rintro e w2 ⟨rfl, hf⟩
  go_wp2
  go_ret2
  exact ⟨rfl, hF.trans hf⟩
end Go.Proofs.YtcfhajnboamnnabGreatDoor
