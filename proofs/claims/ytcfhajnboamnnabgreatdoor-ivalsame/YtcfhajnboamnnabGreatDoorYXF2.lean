/- Numbers of two words: sfloat's wide. -/
/- sfloat's down: a number of two words, shifted, with a last bit for what was lost. -/
import Derived.Test.YtcfhajnboamnnabGreatDoorYXB1
import Derived.Deep.RegionHeld3
import Derived.Deep.DeepCutAuto
namespace Go.Proofs.YtcfhajnboamnnabGreatDoor
open Go.RowKit
set_option linter.unusedVariables false

/-- The struct v is the number n, of two words. -/
def WV (v : Value) (n : Nat) : Prop := ∃ a b : Nat, v = .agg #[.int .u64 a, .int .u64 b] ∧ a < 18446744073709551616 ∧ b < 18446744073709551616 ∧ n = a * 18446744073709551616 + b
theorem WV.lt {v : Value} {n : Nat} (h : WV v n) : n < 340282366920938463463374607431768211456 := by
  obtain ⟨a, b, -, h1, h2, rfl⟩ := h; omega

theorem ret_bool {a b : Bool} (h : a = b) : Ending.returned (.bool a) = .returned (.bool b) := by rw [h]
theorem wisNought_any {w : World} {v : Value} {n : Nat} (h : WV v n) : Calls Tryz.prog 124 #[v] w fun e w' => e = .returned (.bool (n == 0)) ∧ Fwd w w' := by
  obtain ⟨a, b, rfl, h1, h2, rfl⟩ := h
  have e := bits_or_u64_nat a b h1 h2
  have e2 : (((a ||| b : Nat) : Int) == 0) = (a * 18446744073709551616 + b == 0) := by
    rw [Bool.eq_iff_iff]; simp only [beq_iff_eq, Int.natCast_eq_zero, Nat.or_eq_zero_iff]; omega
  rw [← e] at e2
  have H := hid e2
  clear e e2
  go_enter Tryz.func124, Tryz.ntmps124
  go_wp2
  go_ret
  exact ⟨ret_bool H.out, (Fwd.refl w).alloc _⟩

theorem wless_any {w : World} {u v : Value} {n m : Nat} (h : WV u n) (g : WV v m) : Calls Tryz.prog 142 #[u, v] w fun e w' => e = .returned (.bool (decide (n < m))) ∧ Fwd w w' := by
  obtain ⟨a, b, rfl, h1, h2, rfl⟩ := h
  obtain ⟨c, d, rfl, g1, g2, rfl⟩ := g
  have E : Hid (decide (a * 18446744073709551616 + b < c * 18446744073709551616 + d) = (decide (a < c) || (decide (a = c) && decide (b < d)))) := hid (by rw [Bool.eq_iff_iff]; simp; omega)
  rw [E.out]
  by_cases k1 : a < c
  · go_enter Tryz.func142, Tryz.ntmps142
    have i1 : decide (a < c) = true := decide_eq_true k1
    go_wp2
    go_ret
    exact ⟨by simp [i1], ((Fwd.refl w).alloc _).alloc _⟩
  · by_cases k2 : a = c
    · subst k2
      go_enter Tryz.func142, Tryz.ntmps142
      go_wp2
      go_ret
      exact ⟨by simp, ((Fwd.refl w).alloc _).alloc _⟩
    · go_enter Tryz.func142, Tryz.ntmps142
      have i1 : decide (a < c) = false := decide_eq_false k1
      have i2 : ((a : Int) == (c : Int)) = false := by simp; omega
      go_wp2
      go_ret
      exact ⟨by simp [k1, k2], ((Fwd.refl w).alloc _).alloc _⟩

set_option maxHeartbeats 4000000 in
set_option maxRecDepth 100000 in
theorem wplus_any {w : World} {u v : Value} {n m : Nat} (h : WV u n) (g : WV v m) (hl : n + m < 340282366920938463463374607431768211456) : Calls Tryz.prog 141 #[u, v] w fun e w' => ∃ x, e = .returned x ∧ WV x (n + m) ∧ Fwd w w' := by
  obtain ⟨a, b, rfl, h1, h2, rfl⟩ := h
  obtain ⟨c, d, rfl, g1, g2, rfl⟩ := g
  have r1 := fun w => add64_run0 b d w
  have r2 := fun w => add64_run a c ((b + d) / 18446744073709551616) (by omega) w
  generalize E1 : (b + d) % 18446744073709551616 = lo at r1
  generalize E2 : (b + d) / 18446744073709551616 = cy at r1 r2
  generalize E3 : (a + c + cy) % 18446744073709551616 = hi at r2
  generalize E4 : (a + c + cy) / 18446744073709551616 = cz at r2
  have H := hid (And.intro (And.intro E1 E2) (And.intro E3 E4))
  have HL := hid hl
  clear E1 E2 E3 E4 hl
  go_enter Tryz.func141, Tryz.ntmps141
  go_wp2
  refine bodyPost_ret (by simp [results, Tryz.results141, go_sem]; try rfl) rfl ?_
  obtain ⟨⟨E1, E2⟩, E3, E4⟩ := H.out
  have hl := HL.out
  exact ⟨_, rfl, ⟨hi, lo, rfl, by omega, by omega, by omega⟩, (((Fwd.refl w).alloc _).alloc _).alloc _⟩

set_option maxHeartbeats 4000000 in
set_option maxRecDepth 100000 in
theorem wminus_any {w : World} {u v : Value} {n m : Nat} (h : WV u n) (g : WV v m) (hl : m ≤ n) : Calls Tryz.prog 143 #[u, v] w fun e w' => ∃ x, e = .returned x ∧ WV x (n - m) ∧ Fwd w w' := by
  obtain ⟨a, b, rfl, h1, h2, rfl⟩ := h
  obtain ⟨c, d, rfl, g1, g2, rfl⟩ := g
  have r1 := fun w => sub64_run0 b d w
  have r2 := fun w => sub64_run a c (if b < d then 1 else 0) (by split <;> omega) w
  generalize E1 : (b + 18446744073709551616 - d) % 18446744073709551616 = lo at r1
  generalize E2 : (if b < d then 1 else 0 : Nat) = cy at r1 r2
  generalize E3 : (a + 18446744073709551616 - c - cy) % 18446744073709551616 = hi at r2
  generalize E4 : (if a < c + cy then 1 else 0 : Nat) = cz at r2
  have H := hid (And.intro (And.intro E1 E2) (And.intro E3 E4))
  have HL := hid hl
  clear E1 E2 E3 E4 hl
  go_enter Tryz.func143, Tryz.ntmps143
  go_wp2
  refine bodyPost_ret (by simp [results, Tryz.results143, go_sem]; try rfl) rfl ?_
  obtain ⟨⟨E1, E2⟩, E3, E4⟩ := H.out
  have hl := HL.out
  split at E2 <;> split at E4
  all_goals
  first
  |   exact ⟨_, rfl, ⟨hi, lo, rfl, by omega, by omega, by omega⟩, (((Fwd.refl w).alloc _).alloc _).alloc _⟩

set_option maxHeartbeats 4000000 in
set_option maxRecDepth 100000 in
theorem wfree_any {w : World} {v : Value} {n : Nat} (h : WV v n) : Calls Tryz.prog 126 #[v] w fun e w' => e = .returned (.int .i64 ((128 - blen n : Nat) : Int)) ∧ Fwd w w' := by
  obtain ⟨a, b, rfl, h1, h2, rfl⟩ := h
  go_enter Tryz.func126, Tryz.ntmps126
  by_cases k : a = 0
  · subst k
    have hb : blen b ≤ 64 := (blen_le_iff b 64).2 (by omega)
    go_wp2_with fail
    refine (lead64_any _ b h2).mono ?_
    rintro e w1 ⟨rfl, rfl⟩
    go_wp2
    go_ret
    exact ⟨ret_int (by rw [Nat.zero_mul, Nat.zero_add]; omega), (Fwd.refl w).alloc _⟩
  · have i1 : ((a : Int) == 0) = false := by simp; omega
    have hb : blen a ≤ 64 := (blen_le_iff a 64).2 (by omega)
    have hd := blen_div (a * 18446744073709551616 + b) 64 (by show 18446744073709551616 ≤ _; omega)
    rw [show (a * 18446744073709551616 + b) / 2 ^ 64 = a from (by omega : (a * 18446744073709551616 + b) / 18446744073709551616 = a)] at hd
    have H := hid hd
    clear hd
    go_wp2_with fail
    refine (lead64_any _ a h1).mono ?_
    rintro e w1 ⟨rfl, rfl⟩
    go_wp2
    go_ret
    exact ⟨ret_int (by rw [H.out]; omega), (Fwd.refl w).alloc _⟩

set_option maxHeartbeats 4000000 in
set_option maxRecDepth 100000 in
theorem product_any {w : World} {x y : Nat} (hx : x < 18446744073709551616) (hy : y < 18446744073709551616) : Calls Tryz.prog 144 #[.int .u64 x, .int .u64 y] w fun e w' => ∃ v, e = .returned v ∧ WV v (x * y) ∧ Fwd w w' := by
  have hl : x * y < 340282366920938463463374607431768211456 := by
    have : x * y ≤ 18446744073709551615 * 18446744073709551615 := Nat.mul_le_mul (by omega) (by omega)
    omega
  go_enter Tryz.func144, Tryz.ntmps144
  go_wp2_with fail
  refine (mul64_any _ x y hx hy).mono ?_
  generalize E : x * y = p at hl ⊢
  have e1 : p / 18446744073709551616 < 18446744073709551616 := by omega
  have e2 : p % 18446744073709551616 < 18446744073709551616 := by omega
  have e3 : p = p / 18446744073709551616 * 18446744073709551616 + p % 18446744073709551616 := by omega
  generalize p / 18446744073709551616 = q at e1 e3
  generalize p % 18446744073709551616 = r at e2 e3
  rintro e w1 ⟨rfl, rfl⟩
  have HE := hid (E.trans e3)
  clear e3 E hl
  go_wp2
  refine bodyPost_ret (by simp [results, Tryz.results144, go_sem]; try rfl) rfl ?_
  exact ⟨_, rfl, ⟨q, r, rfl, e1, e2, HE.out⟩, (Fwd.refl w).alloc _⟩

theorem or_add (a b k : Nat) (hb : b < 2 ^ k) : a * 2 ^ k ||| b = a * 2 ^ k + b := by
  rw [Nat.mul_comm, Nat.two_pow_add_eq_or_of_lt hb]
theorem up_math (a b k : Nat) (ha : a < 18446744073709551616) (hb : b < 18446744073709551616) (hk : k < 64) (hl : (a * 18446744073709551616 + b) * 2 ^ k < 340282366920938463463374607431768211456) :
    b / 2 ^ (64 - k) < 18446744073709551616 ∧ (a * 2 ^ k % 18446744073709551616 ||| b / 2 ^ (64 - k)) = a * 2 ^ k + b / 2 ^ (64 - k) ∧ a * 2 ^ k + b / 2 ^ (64 - k) < 18446744073709551616 ∧ (a * 18446744073709551616 + b) * 2 ^ k = (a * 2 ^ k + b / 2 ^ (64 - k)) * 18446744073709551616 + b * 2 ^ k % 18446744073709551616 := by
  have e : 18446744073709551616 = 2 ^ k * 2 ^ (64 - k) := by rw [← Nat.pow_add, show k + (64 - k) = 64 by omega]
  have hp : 0 < 2 ^ k := Nat.two_pow_pos k
  have hq : 0 < 2 ^ (64 - k) := Nat.two_pow_pos _
  have h1 : b / 2 ^ (64 - k) < 2 ^ k := by rw [Nat.div_lt_iff_lt_mul hq, ← e]; exact hb
  have h2 : (a * 18446744073709551616 + b) * 2 ^ k = (a * 2 ^ k) * 18446744073709551616 + b * 2 ^ k := by grind
  have h3 : b * 2 ^ k / 18446744073709551616 = b / 2 ^ (64 - k) := by rw [e, Nat.mul_comm b, Nat.mul_div_mul_left _ _ hp]
  have h4 : a * 2 ^ k < 18446744073709551616 := by rw [h2] at hl; omega
  have h5 : b / 2 ^ (64 - k) ≤ b := Nat.div_le_self _ _
  rw [Nat.mod_eq_of_lt h4, or_add _ _ _ h1, h2]
  rw [h2] at hl
  generalize a * 2 ^ k = p at *
  generalize b * 2 ^ k = q at *
  refine ⟨by omega, rfl, by omega, by omega⟩
set_option maxHeartbeats 4000000 in
set_option maxRecDepth 100000 in
theorem wup_any {w : World} {v : Value} {n k : Nat} (h : WV v n) (hk : k ≤ 127) (hl : n * 2 ^ k < 340282366920938463463374607431768211456) : Calls Tryz.prog 127 #[v, .int .i64 k] w fun e w' => ∃ x, e = .returned x ∧ WV x (n * 2 ^ k) ∧ Fwd w w' := by
  obtain ⟨a, b, rfl, h1, h2, rfl⟩ := h
  by_cases c : 64 ≤ k
  · have i1 : decide (64 ≤ (k : Int)) = true := decide_eq_true (by omega)
    have e1 : IntKind.u64.wrap ((b : Int) * 2 ^ (k - 64)) = ((b * 2 ^ (k - 64) % 18446744073709551616 : Nat) : Int) := by
      rw [← wrapAny]; congr 1
    have e2 : 2 ^ k = 18446744073709551616 * 2 ^ (k - 64) := by rw [show 18446744073709551616 = 2 ^ 64 from rfl, ← Nat.pow_add]; congr 1; omega
    have e3 : b * 2 ^ (k - 64) < 18446744073709551616 ∧ (a * 18446744073709551616 + b) * 2 ^ k = (b * 2 ^ (k - 64)) * 18446744073709551616 := by
      rw [e2, ← Nat.mul_assoc, Nat.mul_right_comm] at hl
      have h3 : (a * 18446744073709551616 + b) * 2 ^ (k - 64) < 18446744073709551616 := by omega
      have hp : 1 ≤ 2 ^ (k - 64) := Nat.one_le_two_pow
      have ha : a = 0 := by
        rcases Nat.eq_zero_or_pos a with h | h
        · exact h
        · exfalso
          have := Nat.le_mul_of_pos_right (a * 18446744073709551616 + b) hp
          omega
      subst ha
      rw [Nat.zero_mul, Nat.zero_add] at h3 ⊢
      exact ⟨h3, by rw [e2]; grind⟩
    rw [Nat.mod_eq_of_lt e3.1] at e1
    generalize b * 2 ^ (k - 64) = q at e1 e3
    have HE := hid e3
    clear e3 e2 hl
    go_enter Tryz.func127, Tryz.ntmps127
    go_wp2
    refine bodyPost_ret (by simp [results, Tryz.results127, go_sem]; try rfl) rfl ?_
    exact ⟨_, rfl, ⟨q, 0, rfl, HE.out.1, by omega, by rw [HE.out.2, Nat.add_zero]⟩, ((Fwd.refl w).alloc _).alloc _⟩
  · have i1 : decide (64 ≤ (k : Int)) = false := decide_eq_false (by omega)
    have e1 : IntKind.u64.wrap ((a : Int) * 2 ^ k) = ((a * 2 ^ k % 18446744073709551616 : Nat) : Int) := by rw [← wrapAny]; congr 1
    have e2 : IntKind.u64.wrap ((b : Int) * 2 ^ k) = ((b * 2 ^ k % 18446744073709551616 : Nat) : Int) := by rw [← wrapAny]; congr 1
    have e3 : (b : Int) / 2 ^ (64 - k) = ((b / 2 ^ (64 - k) : Nat) : Int) := by rw [Int.natCast_ediv]; congr 1
    have K := up_math a b k h1 h2 (by omega) hl
    have e4 : bits BinOp.or IntKind.u64 (IntKind.u64.wrap ((a : Int) * 2 ^ k)) ((b : Int) / 2 ^ (64 - k)) = ((a * 2 ^ k + b / 2 ^ (64 - k) : Nat) : Int) := by
      rw [e1, e3, bits_or_u64_nat _ _ (by omega) K.1, K.2.1]
    have HE := hid (And.intro K.2.2.1 (And.intro (Nat.mod_lt (b * 2 ^ k) (by omega : 0 < 18446744073709551616)) K.2.2.2))
    clear K hl
    generalize a * 2 ^ k + b / 2 ^ (64 - k) = p at e4 HE
    generalize b * 2 ^ k % 18446744073709551616 = q at e2 HE
    clear e1 e3
    go_enter Tryz.func127, Tryz.ntmps127
    go_wp2
    go_region
    go_wp2
    refine bodyPost_ret (by simp [results, Tryz.results127, go_sem]; try rfl) rfl ?_
    exact ⟨_, rfl, ⟨_, _, rfl, HE.out.1, HE.out.2.1, HE.out.2.2⟩, (((Fwd.refl w).alloc _).alloc _).drew⟩
end Go.Proofs.YtcfhajnboamnnabGreatDoor

namespace Go.Proofs.YtcfhajnboamnnabGreatDoor
open Go.RowKit
set_option linter.unusedVariables false

/-- One, if there is anything. -/
def stk (n : Nat) : Nat := if n = 0 then 0 else 1
theorem stk_lt (n : Nat) : stk n < 2 := by unfold stk; split <;> omega
/-- n by 2^k, its last bit set if something was lost. -/
def dn (n k : Nat) : Nat := n / 2 ^ k ||| stk (n % 2 ^ k)
theorem or_one (q : Nat) : q ||| 1 = q + (1 - q % 2) := by
  have h := Nat.div_add_mod q 2
  rcases Nat.mod_two_eq_zero_or_one q with e | e
  · rw [e] at h ⊢
    have : q = (q / 2) * 2 ^ 1 := by omega
    rw [this, or_add _ 1 1 (by omega)]
  · rw [e]
    apply Nat.eq_of_testBit_eq
    intro i
    rw [Nat.testBit_or]
    cases i with
    | zero => simp [Nat.testBit_zero, e]
    | succ i => simp [Nat.testBit_succ]
theorem or_stk (q m : Nat) : q ||| stk m = if m = 0 then q else q + (1 - q % 2) := by
  unfold stk; split
  · simp
  · exact or_one q
theorem dn_zero (n : Nat) : dn n 0 = n := by simp [dn, stk, Nat.mod_one]
theorem dn_step (hi lo k : Nat) (hl : lo < 18446744073709551616) : dn (hi ||| stk lo) k = dn (hi * 18446744073709551616 + lo) (64 + k) := by
  cases k with
  | zero =>
    rw [dn_zero]
    unfold dn
    rw [Nat.add_zero, show 2 ^ 64 = 18446744073709551616 from rfl, show (hi * 18446744073709551616 + lo) / 18446744073709551616 = hi by omega, show (hi * 18446744073709551616 + lo) % 18446744073709551616 = lo by omega]
  | succ k =>
    have e1 : (hi * 18446744073709551616 + lo) / 2 ^ (64 + (k + 1)) = hi / 2 ^ (k + 1) := by
      rw [Nat.pow_add, ← Nat.div_div_eq_div_mul, show (hi * 18446744073709551616 + lo) / 2 ^ 64 = hi from (by omega : (hi * 18446744073709551616 + lo) / 18446744073709551616 = hi)]
    have e2 : (hi * 18446744073709551616 + lo) % 2 ^ (64 + (k + 1)) = (hi % 2 ^ (k + 1)) * 18446744073709551616 + lo := by
      rw [Nat.pow_add, Nat.mod_mul, show (hi * 18446744073709551616 + lo) / 2 ^ 64 = hi from (by omega : (hi * 18446744073709551616 + lo) / 18446744073709551616 = hi), show (hi * 18446744073709551616 + lo) % 2 ^ 64 = lo from (by omega : (hi * 18446744073709551616 + lo) % 18446744073709551616 = lo), show (2 : Nat) ^ 64 = 18446744073709551616 from rfl]
      omega
    have e3 : (hi ||| stk lo) / 2 ^ (k + 1) = hi / 2 ^ (k + 1) := by
      rw [or_stk]; split
      · rfl
      · rw [Nat.pow_succ', ← Nat.div_div_eq_div_mul, ← Nat.div_div_eq_div_mul]
        congr 1; omega
    have e4 : stk ((hi ||| stk lo) % 2 ^ (k + 1)) = stk ((hi % 2 ^ (k + 1)) * 18446744073709551616 + lo) := by
      rw [or_stk]
      split
      · rename_i h; subst h; unfold stk
        have : hi % 2 ^ (k + 1) = 0 ↔ hi % 2 ^ (k + 1) * 18446744073709551616 + 0 = 0 := by omega
        by_cases c : hi % 2 ^ (k + 1) = 0
        · rw [if_pos c, if_pos (this.1 c)]
        · rw [if_neg c, if_neg (fun h => c (this.2 h))]
      · rename_i h
        have : (hi + (1 - hi % 2)) % 2 ^ (k + 1) ≠ 0 := by
          intro h2
          have h3 : (hi + (1 - hi % 2)) % 2 ^ (k + 1) % 2 = (hi + (1 - hi % 2)) % 2 := Nat.mod_mod_of_dvd _ ⟨2 ^ k, by rw [Nat.pow_succ']⟩
          rw [h2] at h3; omega
        unfold stk
        rw [if_neg this, if_neg (by omega)]
    unfold dn
    rw [e1, e2, e3, e4]
theorem dn_far (n k : Nat) (h : n < 2 ^ k) : dn n k = stk n := by
  unfold dn; rw [Nat.div_eq_of_lt h, Nat.mod_eq_of_lt h]; simp
theorem dn_math (a b k : Nat) (ha : a < 18446744073709551616) (hb : b < 18446744073709551616) (hk : k < 64) :
    (a * 2 ^ (64 - k) % 18446744073709551616 ||| b / 2 ^ k ||| stk (b * 2 ^ (64 - k) % 18446744073709551616)) < 18446744073709551616 ∧ a / 2 ^ k < 18446744073709551616 ∧
    dn (a * 18446744073709551616 + b) k = a / 2 ^ k * 18446744073709551616 + (a * 2 ^ (64 - k) % 18446744073709551616 ||| b / 2 ^ k ||| stk (b * 2 ^ (64 - k) % 18446744073709551616)) := by
  have e : 18446744073709551616 = 2 ^ k * 2 ^ (64 - k) := by rw [← Nat.pow_add, show k + (64 - k) = 64 by omega]
  have hp : 0 < 2 ^ k := Nat.two_pow_pos k
  have hq : 0 < 2 ^ (64 - k) := Nat.two_pow_pos _
  have h1 : a * 2 ^ (64 - k) % 18446744073709551616 = (a % 2 ^ k) * 2 ^ (64 - k) := by rw [e, Nat.mul_mod_mul_right]
  have h2 : b * 2 ^ (64 - k) % 18446744073709551616 = (b % 2 ^ k) * 2 ^ (64 - k) := by rw [e, Nat.mul_mod_mul_right]
  have h3 : b / 2 ^ k < 2 ^ (64 - k) := by rw [Nat.div_lt_iff_lt_mul hp, Nat.mul_comm, ← e]; exact hb
  have h4 : stk (b % 2 ^ k * 2 ^ (64 - k)) = stk (b % 2 ^ k) := by
    unfold stk
    by_cases c : b % 2 ^ k = 0
    · rw [c]; simp
    · rw [if_neg c, if_neg (Nat.mul_ne_zero c (by omega))]
  have h5 : (a * 18446744073709551616 + b) / 2 ^ k = a * 2 ^ (64 - k) + b / 2 ^ k := by
    rw [e, show a * (2 ^ k * 2 ^ (64 - k)) + b = b + 2 ^ k * (a * 2 ^ (64 - k)) by grind, Nat.add_mul_div_left _ _ hp]; omega
  have h6 : (a * 18446744073709551616 + b) % 2 ^ k = b % 2 ^ k := by
    rw [e, show a * (2 ^ k * 2 ^ (64 - k)) + b = b + 2 ^ k * (a * 2 ^ (64 - k)) by grind, Nat.add_mul_mod_self_left]
  have h7 : a * 2 ^ (64 - k) = a / 2 ^ k * 18446744073709551616 + (a % 2 ^ k) * 2 ^ (64 - k) := by
    have := Nat.div_add_mod a (2 ^ k)
    rw [e, ← Nat.mul_assoc, ← Nat.add_mul, Nat.mul_comm (a / 2 ^ k), this]
  have h8 : (a % 2 ^ k) * 2 ^ (64 - k) + 2 ^ (64 - k) ≤ 18446744073709551616 := by
    have : (a % 2 ^ k + 1) * 2 ^ (64 - k) ≤ 2 ^ k * 2 ^ (64 - k) := Nat.mul_le_mul_right _ (Nat.mod_lt _ hp)
    rw [Nat.add_mul, Nat.one_mul, ← e] at this; exact this
  rw [h1, h2, h4, or_add _ _ _ h3]
  have h9 : a / 2 ^ k ≤ a := Nat.div_le_self _ _
  unfold dn
  rw [h5, h6, h7, or_stk, or_stk]
  generalize a % 2 ^ k * 2 ^ (64 - k) = p at *
  generalize 2 ^ (64 - k) = q at *
  generalize b / 2 ^ k = r at *
  generalize a / 2 ^ k = s at *
  have hodd : (p + r) % 2 = 1 ∨ p + r + 1 < 18446744073709551616 := by omega
  split
  · refine ⟨by omega, by omega, by omega⟩
  · refine ⟨by omega, by omega, by omega⟩

theorem or_stk_lt (a b : Nat) (h : a < 18446744073709551616) : a ||| stk b < 18446744073709551616 := Nat.or_lt_two_pow (n := 64) h (Nat.lt_trans (stk_lt b) (by decide))
theorem only_set2 (g : Nat) (w : World) (a b : Value) : Only g w ((w.setCell ⟨g, 0, none⟩ a).setCell ⟨g, 1, none⟩ b) := (Only.set _ _ _ _).setv _ _
theorem rest_stk (w : World) (x : Nat) (hx : x < 18446744073709551616) : Calls Tryz.prog 121 #[.int .u64 x] w fun e w' => e = .returned (.int .u64 (stk x : Nat)) ∧ w' = w := rest_any w x hx

set_option maxHeartbeats 4000000 in
set_option maxRecDepth 100000 in
theorem wdown_any {w : World} {v : Value} {n : Nat} {k : Nat} (h : WV v n) (hk : k ≤ 9000000000000000000) : Calls Tryz.prog 114 #[v, .int .i64 k] w fun e w' => ∃ x, e = .returned x ∧ WV x (dn n k) ∧ Fwd w w' := by
  have hn := h.lt
  obtain ⟨a, b, rfl, h1, h2, hab⟩ := h
  have k0 : BlkV ((w.alloc (.cells #[.int .u64 a, .int .u64 b] 105)).alloc (.cells #[.int .u64 0, .int .u64 0] 105)) w.heap.size 105 [.int .u64 a, .int .u64 b] := (BlkV.made w _ [.int .u64 a, .int .u64 b]).alloc _
  have k1 : BlkV ((w.alloc (.cells #[.int .u64 a, .int .u64 b] 105)).alloc (.cells #[.int .u64 0, .int .u64 0] 105)) (w.heap.size + 1) 105 [.int .u64 0, .int .u64 0] := BlkV.made' _ _ (by simp) _ [.int .u64 0, .int .u64 0]
  have HA := hid hab
  have HN := hid hn
  clear hn hab
  by_cases c : k ≤ 128
  · have hc : (k : Int) ≤ 128 := by omega
    go_enter Tryz.func114, Tryz.ntmps114
    go_wp2
    go_loopw [1] (fun kv wr => ∃ (i a b : Nat), kv = .int .i64 i ∧ i ≤ 128 ∧ a < 18446744073709551616 ∧ b < 18446744073709551616 ∧ dn (a * 18446744073709551616 + b) i = dn n k ∧ BlkV wr w.heap.size 105 [.int .u64 a, .int .u64 b] ∧ BlkV wr (w.heap.size + 1) 105 [.int .u64 0, .int .u64 0] ∧ Fwd w wr) (fun kv _ => (intOf kv).toNat)
    case atStart => exact ⟨k, a, b, rfl, by omega, h1, h2, by rw [← HA.out], k0, k1, ((Fwd.refl w).alloc _).alloc _⟩
    case round =>
      clear k0 k1 h1 h2 HA HN
      obtain ⟨i, a, b, rfl, hi, h1, h2, heq, k0, k1, hF⟩ := hrel
      have HE := hid heq
      clear heq
      have c0 := BlkV.cell k0 0 rfl
      have c1 := BlkV.cell k0 1 rfl
      have z0 := BlkV.frozen k0 0
      have z1 := BlkV.frozen k0 1
      by_cases hlt : 64 ≤ i
      · have hi1 : (64 : Int) ≤ i := by omega
        have hs := stk_lt b
        have e1 := bits_or_u64_nat a (stk b) h1 (by omega)
        have HO := hid (or_stk_lt a b h1)
        go_wp2_with fail
        go_region_with (go_at_call 121; refine (rest_stk _ b h2).mono ?_; rintro e w1 ⟨rfl, rfl⟩)
        all_goals go_wp2
        all_goals go_roundw
        all_goals first
          | (show _ < _; simp [intOf] <;> omega)
          | (have hon := only_set2 w.heap.size wr (.int .u64 0) (.int .u64 ((a ||| stk b : Nat) : Int))
             refine ⟨i - 64, 0, a ||| stk b, by go_num, by omega, by omega, HO.out, ?_, ((BlkV.set k0 0 (.int .u64 0)).set 1 (.int .u64 ((a ||| stk b : Nat) : Int))).drewN 1, (BlkV.only k1 hon (by omega)).drewN 1, (hF.wrote hon (Nat.le_refl _)).drew⟩
             rw [Nat.zero_mul, Nat.zero_add, dn_step a b (i - 64) h2, show 64 + (i - 64) = i by omega]
             exact HE.out)
      · have hi1 : ¬ (64 : Int) ≤ i := by omega
        have e1 : IntKind.u64.wrap ((b : Int) * 2 ^ (64 - i)) = ((b * 2 ^ (64 - i) % 18446744073709551616 : Nat) : Int) := by rw [← wrapAny]; congr 1
        have e2 : IntKind.u64.wrap ((a : Int) * 2 ^ (64 - i)) = ((a * 2 ^ (64 - i) % 18446744073709551616 : Nat) : Int) := by rw [← wrapAny]; congr 1
        have e3 : (b : Int) / 2 ^ i = ((b / 2 ^ i : Nat) : Int) := by rw [Int.natCast_ediv]; congr 1
        have e4 : (a : Int) / 2 ^ i = ((a / 2 ^ i : Nat) : Int) := by rw [Int.natCast_ediv]; congr 1
        have K := dn_math a b i h1 h2 (by omega)
        have hL : b * 2 ^ (64 - i) % 18446744073709551616 < 18446744073709551616 := Nat.mod_lt _ (by omega)
        have hA : a * 2 ^ (64 - i) % 18446744073709551616 < 18446744073709551616 := Nat.mod_lt _ (by omega)
        have hB : b / 2 ^ i < 18446744073709551616 := Nat.lt_of_le_of_lt (Nat.div_le_self _ _) h2
        generalize b * 2 ^ (64 - i) % 18446744073709551616 = L at e1 K hL
        generalize a * 2 ^ (64 - i) % 18446744073709551616 = A at e2 K hA
        generalize b / 2 ^ i = B at e3 K hB
        generalize a / 2 ^ i = D at e4 K
        have hs := stk_lt L
        have hw : IntKind.i64.wrap (64 - (i : Int)) = ((64 - i : Nat) : Int) := by simp [IntKind.wrap, IntKind.bits, IntKind.signed]; omega
        have e5 := bits_or_u64_nat A B hA hB
        have hAB : A ||| B < 18446744073709551616 := Nat.or_lt_two_pow (n := 64) hA hB
        have e6 := bits_or_u64_nat (A ||| B) (stk L) hAB (by omega)
        generalize A ||| B = P at e5 e6 K
        generalize P ||| stk L = R at e6 K
        have HK := hid K
        clear K
        go_wp2_with fail
        clear c0 c1 z0 z1
        have r0' := BlkV.cell k1 0 rfl
        have r1' := BlkV.cell k1 1 rfl
        have z0' := BlkV.frozen k1 0
        have z1' := BlkV.frozen k1 1
        have c0' := BlkV.cell k0 0 rfl
        have c1' := BlkV.cell k0 1 rfl
        have k1' := k1
        replace k0 := k0.drew
        replace k1 := k1.drew
        have c0 := BlkV.cell k0 0 rfl
        have c1 := BlkV.cell k0 1 rfl
        have r0 := BlkV.cell k1 0 rfl
        have r1 := BlkV.cell k1 1 rfl
        have z0 := BlkV.frozen k1 0
        have z1 := BlkV.frozen k1 1
        go_region_held3 (fun w' => w'.cell? ⟨w.heap.size, 0, none⟩ = some (.int .u64 a) ∧ w'.cell? ⟨w.heap.size, 1, none⟩ = some (.int .u64 b))
          (first | exact ⟨by with_reducible assumption, by with_reducible assumption⟩ | exact ⟨(farset (by simp; try omega) (farset (by simp; try omega) (by with_reducible assumption))), (farset (by simp; try omega) (farset (by simp; try omega) (by with_reducible assumption)))⟩)
          (first | (go_at_call 121; refine (rest_stk _ L hL).mono ?_; rintro e w1 ⟨rfl, rfl⟩))
        go_wp2
        have hz0 := BlkV.set k1' 0 (.int .u64 (D : Int))
        have hz := hz0.set 1 (.int .u64 (R : Int))
        have hon := only_set2 (w.heap.size + 1) wr (.int .u64 (D : Int)) (.int .u64 (R : Int))
        have s0 := BlkV.cell hz0 0 rfl
        have r0 := BlkV.cell hz 0 rfl
        have r1 := BlkV.cell hz 1 rfl
        refine bodyPost_ret (by simp [results, Tryz.results114, go_sem, r0, r1]; try rfl) rfl ?_
        exact ⟨_, rfl, ⟨D, R, rfl, HK.out.2.1, HK.out.1, HE.out.symm.trans HK.out.2.2⟩, (hF.wrote hon (by omega)).drew⟩
  · have hc : 128 < (k : Int) := by omega
    have hK : dn n k = dn n 128 := by
      have := Nat.pow_le_pow_right (n := 2) (by decide) (show 128 ≤ k by omega)
      rw [dn_far n 128 HN.out, dn_far n k (Nat.lt_of_lt_of_le HN.out this)]
    rw [hK]
    clear hK
    go_enter Tryz.func114, Tryz.ntmps114
    go_wp2
    go_loopw [1] (fun kv wr => ∃ (i a b : Nat), kv = .int .i64 i ∧ i ≤ 128 ∧ a < 18446744073709551616 ∧ b < 18446744073709551616 ∧ dn (a * 18446744073709551616 + b) i = dn n 128 ∧ BlkV wr w.heap.size 105 [.int .u64 a, .int .u64 b] ∧ BlkV wr (w.heap.size + 1) 105 [.int .u64 0, .int .u64 0] ∧ Fwd w wr) (fun kv _ => (intOf kv).toNat)
    case atStart => exact ⟨128, a, b, rfl, by omega, h1, h2, by rw [← HA.out], k0, k1, ((Fwd.refl w).alloc _).alloc _⟩
    case round =>
      clear k0 k1 h1 h2 HA HN
      obtain ⟨i, a, b, rfl, hi, h1, h2, heq, k0, k1, hF⟩ := hrel
      have HE := hid heq
      clear heq
      have c0 := BlkV.cell k0 0 rfl
      have c1 := BlkV.cell k0 1 rfl
      have z0 := BlkV.frozen k0 0
      have z1 := BlkV.frozen k0 1
      by_cases hlt : 64 ≤ i
      · have hi1 : (64 : Int) ≤ i := by omega
        have hs := stk_lt b
        have e1 := bits_or_u64_nat a (stk b) h1 (by omega)
        have HO := hid (or_stk_lt a b h1)
        go_wp2_with fail
        go_region_with (go_at_call 121; refine (rest_stk _ b h2).mono ?_; rintro e w1 ⟨rfl, rfl⟩)
        all_goals go_wp2
        all_goals go_roundw
        all_goals first
          | (show _ < _; simp [intOf] <;> omega)
          | (have hon := only_set2 w.heap.size wr (.int .u64 0) (.int .u64 ((a ||| stk b : Nat) : Int))
             refine ⟨i - 64, 0, a ||| stk b, by go_num, by omega, by omega, HO.out, ?_, ((BlkV.set k0 0 (.int .u64 0)).set 1 (.int .u64 ((a ||| stk b : Nat) : Int))).drewN 1, (BlkV.only k1 hon (by omega)).drewN 1, (hF.wrote hon (Nat.le_refl _)).drew⟩
             rw [Nat.zero_mul, Nat.zero_add, dn_step a b (i - 64) h2, show 64 + (i - 64) = i by omega]
             exact HE.out)
      · have hi1 : ¬ (64 : Int) ≤ i := by omega
        have e1 : IntKind.u64.wrap ((b : Int) * 2 ^ (64 - i)) = ((b * 2 ^ (64 - i) % 18446744073709551616 : Nat) : Int) := by rw [← wrapAny]; congr 1
        have e2 : IntKind.u64.wrap ((a : Int) * 2 ^ (64 - i)) = ((a * 2 ^ (64 - i) % 18446744073709551616 : Nat) : Int) := by rw [← wrapAny]; congr 1
        have e3 : (b : Int) / 2 ^ i = ((b / 2 ^ i : Nat) : Int) := by rw [Int.natCast_ediv]; congr 1
        have e4 : (a : Int) / 2 ^ i = ((a / 2 ^ i : Nat) : Int) := by rw [Int.natCast_ediv]; congr 1
        have K := dn_math a b i h1 h2 (by omega)
        have hL : b * 2 ^ (64 - i) % 18446744073709551616 < 18446744073709551616 := Nat.mod_lt _ (by omega)
        have hA : a * 2 ^ (64 - i) % 18446744073709551616 < 18446744073709551616 := Nat.mod_lt _ (by omega)
        have hB : b / 2 ^ i < 18446744073709551616 := Nat.lt_of_le_of_lt (Nat.div_le_self _ _) h2
        generalize b * 2 ^ (64 - i) % 18446744073709551616 = L at e1 K hL
        generalize a * 2 ^ (64 - i) % 18446744073709551616 = A at e2 K hA
        generalize b / 2 ^ i = B at e3 K hB
        generalize a / 2 ^ i = D at e4 K
        have hs := stk_lt L
        have hw : IntKind.i64.wrap (64 - (i : Int)) = ((64 - i : Nat) : Int) := by simp [IntKind.wrap, IntKind.bits, IntKind.signed]; omega
        have e5 := bits_or_u64_nat A B hA hB
        have hAB : A ||| B < 18446744073709551616 := Nat.or_lt_two_pow (n := 64) hA hB
        have e6 := bits_or_u64_nat (A ||| B) (stk L) hAB (by omega)
        generalize A ||| B = P at e5 e6 K
        generalize P ||| stk L = R at e6 K
        have HK := hid K
        clear K
        go_wp2_with fail
        clear c0 c1 z0 z1
        have r0' := BlkV.cell k1 0 rfl
        have r1' := BlkV.cell k1 1 rfl
        have z0' := BlkV.frozen k1 0
        have z1' := BlkV.frozen k1 1
        have c0' := BlkV.cell k0 0 rfl
        have c1' := BlkV.cell k0 1 rfl
        have k1' := k1
        replace k0 := k0.drew
        replace k1 := k1.drew
        have c0 := BlkV.cell k0 0 rfl
        have c1 := BlkV.cell k0 1 rfl
        have r0 := BlkV.cell k1 0 rfl
        have r1 := BlkV.cell k1 1 rfl
        have z0 := BlkV.frozen k1 0
        have z1 := BlkV.frozen k1 1
        go_region_held3 (fun w' => w'.cell? ⟨w.heap.size, 0, none⟩ = some (.int .u64 a) ∧ w'.cell? ⟨w.heap.size, 1, none⟩ = some (.int .u64 b))
          (first | exact ⟨by with_reducible assumption, by with_reducible assumption⟩ | exact ⟨(farset (by simp; try omega) (farset (by simp; try omega) (by with_reducible assumption))), (farset (by simp; try omega) (farset (by simp; try omega) (by with_reducible assumption)))⟩)
          (first | (go_at_call 121; refine (rest_stk _ L hL).mono ?_; rintro e w1 ⟨rfl, rfl⟩))
        go_wp2
        have hz0 := BlkV.set k1' 0 (.int .u64 (D : Int))
        have hz := hz0.set 1 (.int .u64 (R : Int))
        have hon := only_set2 (w.heap.size + 1) wr (.int .u64 (D : Int)) (.int .u64 (R : Int))
        have s0 := BlkV.cell hz0 0 rfl
        have r0 := BlkV.cell hz 0 rfl
        have r1 := BlkV.cell hz 1 rfl
        refine bodyPost_ret (by simp [results, Tryz.results114, go_sem, r0, r1]; try rfl) rfl ?_
        exact ⟨_, rfl, ⟨D, R, rfl, HK.out.2.1, HK.out.1, HE.out.symm.trans HK.out.2.2⟩, (hF.wrote hon (by omega)).drew⟩
end Go.Proofs.YtcfhajnboamnnabGreatDoor
