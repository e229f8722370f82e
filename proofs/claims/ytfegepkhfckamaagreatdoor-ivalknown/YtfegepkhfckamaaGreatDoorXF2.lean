/- Numbers of two words: sfloat's wide. -/
import Derived.Test.YtfegepkhfckamaaGreatDoorXF1
import Derived.Deep.RegionHeld3
namespace Go.Proofs.YtfegepkhfckamaaGreatDoor
open Go.RowKit
set_option linter.unusedVariables false

/-- The struct v is the number n, of two words. -/
def WV (v : Value) (n : Nat) : Prop := ∃ a b : Nat, v = .agg #[.int .u64 a, .int .u64 b] ∧ a < 18446744073709551616 ∧ b < 18446744073709551616 ∧ n = a * 18446744073709551616 + b
theorem WV.lt {v : Value} {n : Nat} (h : WV v n) : n < 340282366920938463463374607431768211456 := by
  obtain ⟨a, b, -, h1, h2, rfl⟩ := h; omega

theorem ret_bool {a b : Bool} (h : a = b) : Ending.returned (.bool a) = .returned (.bool b) := by rw [h]
theorem wisNought_any {w : World} {v : Value} {n : Nat} (h : WV v n) : Calls Tryz.prog 68 #[v] w fun e w' => e = .returned (.bool (n == 0)) ∧ Fwd w w' := by
  obtain ⟨a, b, rfl, h1, h2, rfl⟩ := h
  have e := bits_or_u64_nat a b h1 h2
  have e2 : (((a ||| b : Nat) : Int) == 0) = (a * 18446744073709551616 + b == 0) := by
    rw [Bool.eq_iff_iff]; simp only [beq_iff_eq, Int.natCast_eq_zero, Nat.or_eq_zero_iff]; omega
  rw [← e] at e2
  have H := hid e2
  clear e e2
  go_enter Tryz.func68, Tryz.ntmps68
  go_wp2
  go_ret
  exact ⟨ret_bool H.out, (Fwd.refl w).alloc _⟩

theorem wless_any {w : World} {u v : Value} {n m : Nat} (h : WV u n) (g : WV v m) : Calls Tryz.prog 83 #[u, v] w fun e w' => e = .returned (.bool (decide (n < m))) ∧ Fwd w w' := by
  obtain ⟨a, b, rfl, h1, h2, rfl⟩ := h
  obtain ⟨c, d, rfl, g1, g2, rfl⟩ := g
  have E : Hid (decide (a * 18446744073709551616 + b < c * 18446744073709551616 + d) = (decide (a < c) || (decide (a = c) && decide (b < d)))) := hid (by rw [Bool.eq_iff_iff]; simp; omega)
  rw [E.out]
  by_cases k1 : a < c
  · go_enter Tryz.func83, Tryz.ntmps83
    have i1 : decide (a < c) = true := decide_eq_true k1
    go_wp2
    go_ret
    exact ⟨by simp [i1], ((Fwd.refl w).alloc _).alloc _⟩
  · by_cases k2 : a = c
    · subst k2
      go_enter Tryz.func83, Tryz.ntmps83
      go_wp2
      go_ret
      exact ⟨by simp, ((Fwd.refl w).alloc _).alloc _⟩
    · go_enter Tryz.func83, Tryz.ntmps83
      have i1 : decide (a < c) = false := decide_eq_false k1
      have i2 : ((a : Int) == (c : Int)) = false := by simp; omega
      go_wp2
      go_ret
      exact ⟨by simp [k1, k2], ((Fwd.refl w).alloc _).alloc _⟩

set_option maxHeartbeats 4000000 in
set_option maxRecDepth 100000 in
theorem wplus_any {w : World} {u v : Value} {n m : Nat} (h : WV u n) (g : WV v m) (hl : n + m < 340282366920938463463374607431768211456) : Calls Tryz.prog 82 #[u, v] w fun e w' => ∃ x, e = .returned x ∧ WV x (n + m) ∧ Fwd w w' := by
  obtain ⟨a, b, rfl, h1, h2, rfl⟩ := h
  obtain ⟨c, d, rfl, g1, g2, rfl⟩ := g
  have r1 := fun w => add64_run0 b d w
  have r2 := fun w => add64_run a c ((b + d) / 18446744073709551616) (by omega) w
  generalize E1 : (b + d) % 18446744073709551616 = lo at r1
  generalize E2 : (b + d) / 18446744073709551616 = cy at r1 r2
  generalize E3 : (a + c + cy) % 18446744073709551616 = hi at r2
  generalize E4 : (a + c + cy) / 18446744073709551616 = cz at r2
  have H := hid (And.intro (And.intro E1 E2) (And.intro E3 E4))
  have HL := hid hl
  clear E1 E2 E3 E4 hl
  go_enter Tryz.func82, Tryz.ntmps82
  go_wp2
  refine bodyPost_ret (by simp [results, Tryz.results82, go_sem]; try rfl) rfl ?_
  obtain ⟨⟨E1, E2⟩, E3, E4⟩ := H.out
  have hl := HL.out
  exact ⟨_, rfl, ⟨hi, lo, rfl, by omega, by omega, by omega⟩, (((Fwd.refl w).alloc _).alloc _).alloc _⟩

set_option maxHeartbeats 4000000 in
set_option maxRecDepth 100000 in
theorem wminus_any {w : World} {u v : Value} {n m : Nat} (h : WV u n) (g : WV v m) (hl : m ≤ n) : Calls Tryz.prog 84 #[u, v] w fun e w' => ∃ x, e = .returned x ∧ WV x (n - m) ∧ Fwd w w' := by
  obtain ⟨a, b, rfl, h1, h2, rfl⟩ := h
  obtain ⟨c, d, rfl, g1, g2, rfl⟩ := g
  have r1 := fun w => sub64_run0 b d w
  have r2 := fun w => sub64_run a c (if b < d then 1 else 0) (by split <;> omega) w
  generalize E1 : (b + 18446744073709551616 - d) % 18446744073709551616 = lo at r1
  generalize E2 : (if b < d then 1 else 0 : Nat) = cy at r1 r2
  generalize E3 : (a + 18446744073709551616 - c - cy) % 18446744073709551616 = hi at r2
  generalize E4 : (if a < c + cy then 1 else 0 : Nat) = cz at r2
  have H := hid (And.intro (And.intro E1 E2) (And.intro E3 E4))
  have HL := hid hl
  clear E1 E2 E3 E4 hl
  go_enter Tryz.func84, Tryz.ntmps84
  go_wp2
  refine bodyPost_ret (by simp [results, Tryz.results84, go_sem]; try rfl) rfl ?_
  obtain ⟨⟨E1, E2⟩, E3, E4⟩ := H.out
  have hl := HL.out
  split at E2 <;> split at E4
  all_goals
  first
  |   exact ⟨_, rfl, ⟨hi, lo, rfl, by omega, by omega, by omega⟩, (((Fwd.refl w).alloc _).alloc _).alloc _⟩

set_option maxHeartbeats 4000000 in
set_option maxRecDepth 100000 in
theorem wfree_any {w : World} {v : Value} {n : Nat} (h : WV v n) : Calls Tryz.prog 73 #[v] w fun e w' => e = .returned (.int .i64 ((128 - blen n : Nat) : Int)) ∧ Fwd w w' := by
  obtain ⟨a, b, rfl, h1, h2, rfl⟩ := h
  go_enter Tryz.func73, Tryz.ntmps73
  by_cases k : a = 0
  · subst k
    have hb : blen b ≤ 64 := (blen_le_iff b 64).2 (by omega)
    go_wp2_with fail
    refine (lead64_any _ b h2).mono ?_
    rintro e w1 ⟨rfl, rfl⟩
    go_wp2
    go_ret
    exact ⟨ret_int (by rw [Nat.zero_mul, Nat.zero_add]; omega), (Fwd.refl w).alloc _⟩
  · have i1 : ((a : Int) == 0) = false := by simp; omega
    have hb : blen a ≤ 64 := (blen_le_iff a 64).2 (by omega)
    have hd := blen_div (a * 18446744073709551616 + b) 64 (by show 18446744073709551616 ≤ _; omega)
    rw [show (a * 18446744073709551616 + b) / 2 ^ 64 = a from (by omega : (a * 18446744073709551616 + b) / 18446744073709551616 = a)] at hd
    have H := hid hd
    clear hd
    go_wp2_with fail
    refine (lead64_any _ a h1).mono ?_
    rintro e w1 ⟨rfl, rfl⟩
    go_wp2
    go_ret
    exact ⟨ret_int (by rw [H.out]; omega), (Fwd.refl w).alloc _⟩

set_option maxHeartbeats 4000000 in
set_option maxRecDepth 100000 in
theorem product_any {w : World} {x y : Nat} (hx : x < 18446744073709551616) (hy : y < 18446744073709551616) : Calls Tryz.prog 85 #[.int .u64 x, .int .u64 y] w fun e w' => ∃ v, e = .returned v ∧ WV v (x * y) ∧ Fwd w w' := by
  have hl : x * y < 340282366920938463463374607431768211456 := by
    have : x * y ≤ 18446744073709551615 * 18446744073709551615 := Nat.mul_le_mul (by omega) (by omega)
    omega
  go_enter Tryz.func85, Tryz.ntmps85
  go_wp2_with fail
  refine (mul64_any _ x y hx hy).mono ?_
  generalize E : x * y = p at hl ⊢
  have e1 : p / 18446744073709551616 < 18446744073709551616 := by omega
  have e2 : p % 18446744073709551616 < 18446744073709551616 := by omega
  have e3 : p = p / 18446744073709551616 * 18446744073709551616 + p % 18446744073709551616 := by omega
  generalize p / 18446744073709551616 = q at e1 e3
  generalize p % 18446744073709551616 = r at e2 e3
  rintro e w1 ⟨rfl, rfl⟩
  have HE := hid (E.trans e3)
  clear e3 E hl
  go_wp2
  refine bodyPost_ret (by simp [results, Tryz.results85, go_sem]; try rfl) rfl ?_
  exact ⟨_, rfl, ⟨q, r, rfl, e1, e2, HE.out⟩, (Fwd.refl w).alloc _⟩

theorem or_add (a b k : Nat) (hb : b < 2 ^ k) : a * 2 ^ k ||| b = a * 2 ^ k + b := by
  rw [Nat.mul_comm, Nat.two_pow_add_eq_or_of_lt hb]
theorem up_math (a b k : Nat) (ha : a < 18446744073709551616) (hb : b < 18446744073709551616) (hk : k < 64) (hl : (a * 18446744073709551616 + b) * 2 ^ k < 340282366920938463463374607431768211456) :
    b / 2 ^ (64 - k) < 18446744073709551616 ∧ (a * 2 ^ k % 18446744073709551616 ||| b / 2 ^ (64 - k)) = a * 2 ^ k + b / 2 ^ (64 - k) ∧ a * 2 ^ k + b / 2 ^ (64 - k) < 18446744073709551616 ∧ (a * 18446744073709551616 + b) * 2 ^ k = (a * 2 ^ k + b / 2 ^ (64 - k)) * 18446744073709551616 + b * 2 ^ k % 18446744073709551616 := by
  have e : 18446744073709551616 = 2 ^ k * 2 ^ (64 - k) := by rw [← Nat.pow_add, show k + (64 - k) = 64 by omega]
  have hp : 0 < 2 ^ k := Nat.two_pow_pos k
  have hq : 0 < 2 ^ (64 - k) := Nat.two_pow_pos _
  have h1 : b / 2 ^ (64 - k) < 2 ^ k := by rw [Nat.div_lt_iff_lt_mul hq, ← e]; exact hb
  have h2 : (a * 18446744073709551616 + b) * 2 ^ k = (a * 2 ^ k) * 18446744073709551616 + b * 2 ^ k := by grind
  have h3 : b * 2 ^ k / 18446744073709551616 = b / 2 ^ (64 - k) := by rw [e, Nat.mul_comm b, Nat.mul_div_mul_left _ _ hp]
  have h4 : a * 2 ^ k < 18446744073709551616 := by rw [h2] at hl; omega
  have h5 : b / 2 ^ (64 - k) ≤ b := Nat.div_le_self _ _
  rw [Nat.mod_eq_of_lt h4, or_add _ _ _ h1, h2]
  rw [h2] at hl
  generalize a * 2 ^ k = p at *
  generalize b * 2 ^ k = q at *
  refine ⟨by omega, rfl, by omega, by omega⟩
set_option maxHeartbeats 4000000 in
set_option maxRecDepth 100000 in
theorem wup_any {w : World} {v : Value} {n k : Nat} (h : WV v n) (hk : k ≤ 127) (hl : n * 2 ^ k < 340282366920938463463374607431768211456) : Calls Tryz.prog 74 #[v, .int .i64 k] w fun e w' => ∃ x, e = .returned x ∧ WV x (n * 2 ^ k) ∧ Fwd w w' := by
  obtain ⟨a, b, rfl, h1, h2, rfl⟩ := h
  by_cases c : 64 ≤ k
  · have i1 : decide (64 ≤ (k : Int)) = true := decide_eq_true (by omega)
    have e1 : IntKind.u64.wrap ((b : Int) * 2 ^ (k - 64)) = ((b * 2 ^ (k - 64) % 18446744073709551616 : Nat) : Int) := by
      rw [← wrapAny]; congr 1
    have e2 : 2 ^ k = 18446744073709551616 * 2 ^ (k - 64) := by rw [show 18446744073709551616 = 2 ^ 64 from rfl, ← Nat.pow_add]; congr 1; omega
    have e3 : b * 2 ^ (k - 64) < 18446744073709551616 ∧ (a * 18446744073709551616 + b) * 2 ^ k = (b * 2 ^ (k - 64)) * 18446744073709551616 := by
      rw [e2, ← Nat.mul_assoc, Nat.mul_right_comm] at hl
      have h3 : (a * 18446744073709551616 + b) * 2 ^ (k - 64) < 18446744073709551616 := by omega
      have hp : 1 ≤ 2 ^ (k - 64) := Nat.one_le_two_pow
      have ha : a = 0 := by
        rcases Nat.eq_zero_or_pos a with h | h
        · exact h
        · exfalso
          have := Nat.le_mul_of_pos_right (a * 18446744073709551616 + b) hp
          omega
      subst ha
      rw [Nat.zero_mul, Nat.zero_add] at h3 ⊢
      exact ⟨h3, by rw [e2]; grind⟩
    rw [Nat.mod_eq_of_lt e3.1] at e1
    generalize b * 2 ^ (k - 64) = q at e1 e3
    have HE := hid e3
    clear e3 e2 hl
    go_enter Tryz.func74, Tryz.ntmps74
    go_wp2
    refine bodyPost_ret (by simp [results, Tryz.results74, go_sem]; try rfl) rfl ?_
    exact ⟨_, rfl, ⟨q, 0, rfl, HE.out.1, by omega, by rw [HE.out.2, Nat.add_zero]⟩, ((Fwd.refl w).alloc _).alloc _⟩
  · have i1 : decide (64 ≤ (k : Int)) = false := decide_eq_false (by omega)
    have e1 : IntKind.u64.wrap ((a : Int) * 2 ^ k) = ((a * 2 ^ k % 18446744073709551616 : Nat) : Int) := by rw [← wrapAny]; congr 1
    have e2 : IntKind.u64.wrap ((b : Int) * 2 ^ k) = ((b * 2 ^ k % 18446744073709551616 : Nat) : Int) := by rw [← wrapAny]; congr 1
    have e3 : (b : Int) / 2 ^ (64 - k) = ((b / 2 ^ (64 - k) : Nat) : Int) := by rw [Int.natCast_ediv]; congr 1
    have K := up_math a b k h1 h2 (by omega) hl
    have e4 : bits BinOp.or IntKind.u64 (IntKind.u64.wrap ((a : Int) * 2 ^ k)) ((b : Int) / 2 ^ (64 - k)) = ((a * 2 ^ k + b / 2 ^ (64 - k) : Nat) : Int) := by
      rw [e1, e3, bits_or_u64_nat _ _ (by omega) K.1, K.2.1]
    have HE := hid (And.intro K.2.2.1 (And.intro (Nat.mod_lt (b * 2 ^ k) (by omega : 0 < 18446744073709551616)) K.2.2.2))
    clear K hl
    generalize a * 2 ^ k + b / 2 ^ (64 - k) = p at e4 HE
    generalize b * 2 ^ k % 18446744073709551616 = q at e2 HE
    clear e1 e3
    go_enter Tryz.func74, Tryz.ntmps74
    go_wp2
    go_region
    go_wp2
    refine bodyPost_ret (by simp [results, Tryz.results74, go_sem]; try rfl) rfl ?_
    exact ⟨_, rfl, ⟨_, _, rfl, HE.out.1, HE.out.2.1, HE.out.2.2⟩, (((Fwd.refl w).alloc _).alloc _).drew⟩
end Go.Proofs.YtfegepkhfckamaaGreatDoor
