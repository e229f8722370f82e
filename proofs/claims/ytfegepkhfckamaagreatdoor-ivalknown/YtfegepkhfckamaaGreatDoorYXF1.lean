/- Words of 64 bits: sfloat's rest; math/bits' Add64, Sub64, Len64, LeadingZeros64, Mul64. -/
/- Numbers of two words: sfloat's wide. -/
import Derived.Test.YtfegepkhfckamaaGreatDoorXB1
import Derived.Test.YtfegepkhfckamaaGreatDoorYXK1
import Derived.Laws.Externs
import Derived.Deep.RegionHeld3
namespace Go.Proofs.YtfegepkhfckamaaGreatDoor
open Go.RowKit
set_option linter.unusedVariables false

theorem rest_any (w : World) (x : Nat) (hx : x < 18446744073709551616) : Calls Tryz.prog 67 #[.int .u64 x] w fun e w' => e = .returned (.int .u64 ((if x = 0 then 0 else 1 : Nat) : Int)) ∧ w' = w := by
  go_enter Tryz.func67, Tryz.ntmps67
  by_cases h : x = 0
  · subst h
    go_wp2
    go_ret
    exact ⟨rfl, rfl⟩
  · have i1 : ((x : Int) == 0) = false := by simp; omega
    rw [if_neg h]
    go_wp2
    go_ret
    exact ⟨rfl, rfl⟩

/-- The model's entry for math/bits.Sub64. -/
def sub64Entry' : Array Value → Sem Value := fun args => do
  let (x, y, b) ← Extern.MathBitsCarry.three "Sub64" args
  pure (Extern.MathBitsCarry.pair ((x + Extern.MathBitsCarry.m64 - y - b) % Extern.MathBitsCarry.m64) (if x < y + b then 1 else 0))
theorem run_sub64' {P : Program} (x y b : Nat) (hb : b ≤ 1) (w : World) :
    (sub64Entry' #[.int .u64 x, .int .u64 y, .int .u64 b]).run P w =
      .ok (.tuple #[.int .u64 (((x + 18446744073709551616 - y - b) % 18446744073709551616 : Nat) : Int), .int .u64 ((if x < y + b then 1 else 0 : Nat) : Int)]) w := by
  have : b = 0 ∨ b = 1 := by omega
  rcases this with rfl | rfl <;> rfl

theorem add64_run (x y c : Nat) (hc : c ≤ 1) (w : World) : (callFunc 91 #[.int .u64 x, .int .u64 y, .int .u64 c]).run Tryz.prog w = .ok (.value (.tuple #[.int .u64 (((x + y + c) % 18446744073709551616 : Nat) : Int), .int .u64 (((x + y + c) / 18446744073709551616 : Nat) : Int)])) w := by
  rw [run_callFunc_extern Tryz.func91 (by kernel_rfl) (by kernel_rfl) (by kernel_rfl) (e := add64Entry) (by kernel_rfl), run_add64 x y c (by omega) (by omega) (by omega) (by omega)]
  simp only [Result.andThen]
  congr 5 <;> omega

theorem sub64_run (x y b : Nat) (hb : b ≤ 1) (w : World) : (callFunc 92 #[.int .u64 x, .int .u64 y, .int .u64 b]).run Tryz.prog w = .ok (.value (.tuple #[.int .u64 (((x + 18446744073709551616 - y - b) % 18446744073709551616 : Nat) : Int), .int .u64 ((if x < y + b then 1 else 0 : Nat) : Int)])) w := by
  rw [run_callFunc_extern Tryz.func92 (by kernel_rfl) (by kernel_rfl) (by kernel_rfl) (e := sub64Entry') (by kernel_rfl), run_sub64' x y b hb]
  rfl

set_option maxHeartbeats 4000000 in
set_option maxRecDepth 100000 in
theorem len64_any (w : World) (x : Nat) (hx : x < 18446744073709551616) : Calls Tryz.prog 90 #[.int .u64 x] w fun e w' => e = .returned (.int .i64 (blen x)) ∧ w' = w := by
  go_enter Tryz.func90, Tryz.ntmps90
  generalize hT : (ByteArray.mk (List.append (List.append _ _) (List.append _ _)).toArray) = T
  have hsz : T.size = 256 := by rw [← hT]; decide +kernel
  have hall : ∀ i : Fin 256, (T[i.val]?).map (·.toNat) = some (blen i.val) := by rw [← hT]; decide +kernel
  clear hT
  have HS := hid hsz
  have HA := hid hall
  clear hsz hall
  have E := hid (And.intro (fun y (h : 4294967296 ≤ y) => blen_div y 32 h) (And.intro (fun y (h : 65536 ≤ y) => blen_div y 16 h) (fun y (h : 256 ≤ y) => blen_div y 8 h)))
  by_cases h32 : x < 4294967296
  · have i32 : decide (4294967296 ≤ (x : Int)) = false := decide_eq_false (by omega)
    by_cases h16 : x < 65536
    · have i16 : decide (65536 ≤ (x : Int)) = false := decide_eq_false (by omega)
      by_cases h8 : x < 256
      · have i8 : decide (256 ≤ (x : Int)) = false := decide_eq_false (by omega)
        have hy : x < 256 := by omega
        have hb : blen (x) ≤ 8 := (blen_le_iff _ 8).2 (by omega)
        have HE : Hid (blen x = blen (x) + 0) := hid (by rfl)
        go_wp2_with (with_reducible refine law_tab (by with_unfolding_all rfl) (.tmp 21) (by with_unfolding_all rfl) HS.out HA.out .u8 _ (x) (by with_unfolding_all rfl) (by omega) hy ?_)
        go_ret
        exact ⟨ret_int (by have := HE.out; omega), rfl⟩
      · have i8 : 256 ≤ (x : Int) := by omega
        have hy : x / 256 < 256 := by omega
        have hb : blen (x / 256) ≤ 8 := (blen_le_iff _ 8).2 (by omega)
        have HE : Hid (blen x = blen (x / 256) + 8) := hid (by rw [E.out.2.2 (x) (by omega)])
        go_wp2_with (with_reducible refine law_tab (by with_unfolding_all rfl) (.tmp 21) (by with_unfolding_all rfl) HS.out HA.out .u8 _ (x / 256) (by with_unfolding_all rfl) (by omega) hy ?_)
        go_ret
        exact ⟨ret_int (by have := HE.out; omega), rfl⟩
    · have i16 : 65536 ≤ (x : Int) := by omega
      by_cases h8 : x / 65536 < 256
      · have i8 : decide (256 ≤ (x : Int) / 65536) = false := decide_eq_false (by omega)
        have hy : x / 65536 < 256 := by omega
        have hb : blen (x / 65536) ≤ 8 := (blen_le_iff _ 8).2 (by omega)
        have HE : Hid (blen x = blen (x / 65536) + 16) := hid (by rw [E.out.2.1 (x) (by omega)])
        go_wp2_with (with_reducible refine law_tab (by with_unfolding_all rfl) (.tmp 21) (by with_unfolding_all rfl) HS.out HA.out .u8 _ (x / 65536) (by with_unfolding_all rfl) (by omega) hy ?_)
        go_ret
        exact ⟨ret_int (by have := HE.out; omega), rfl⟩
      · have i8 : 256 ≤ (x : Int) / 65536 := by omega
        have hy : x / 65536 / 256 < 256 := by omega
        have hb : blen (x / 65536 / 256) ≤ 8 := (blen_le_iff _ 8).2 (by omega)
        have HE : Hid (blen x = blen (x / 65536 / 256) + 24) := hid (by rw [E.out.2.1 (x) (by omega), E.out.2.2 (x / 65536) (by omega)])
        go_wp2_with (with_reducible refine law_tab (by with_unfolding_all rfl) (.tmp 21) (by with_unfolding_all rfl) HS.out HA.out .u8 _ (x / 65536 / 256) (by with_unfolding_all rfl) (by omega) hy ?_)
        go_ret
        exact ⟨ret_int (by have := HE.out; omega), rfl⟩
  · have i32 : 4294967296 ≤ (x : Int) := by omega
    by_cases h16 : x / 4294967296 < 65536
    · have i16 : decide (65536 ≤ (x : Int) / 4294967296) = false := decide_eq_false (by omega)
      by_cases h8 : x / 4294967296 < 256
      · have i8 : decide (256 ≤ (x : Int) / 4294967296) = false := decide_eq_false (by omega)
        have hy : x / 4294967296 < 256 := by omega
        have hb : blen (x / 4294967296) ≤ 8 := (blen_le_iff _ 8).2 (by omega)
        have HE : Hid (blen x = blen (x / 4294967296) + 32) := hid (by rw [E.out.1 (x) (by omega)])
        go_wp2_with (with_reducible refine law_tab (by with_unfolding_all rfl) (.tmp 21) (by with_unfolding_all rfl) HS.out HA.out .u8 _ (x / 4294967296) (by with_unfolding_all rfl) (by omega) hy ?_)
        go_ret
        exact ⟨ret_int (by have := HE.out; omega), rfl⟩
      · have i8 : 256 ≤ (x : Int) / 4294967296 := by omega
        have hy : x / 4294967296 / 256 < 256 := by omega
        have hb : blen (x / 4294967296 / 256) ≤ 8 := (blen_le_iff _ 8).2 (by omega)
        have HE : Hid (blen x = blen (x / 4294967296 / 256) + 40) := hid (by rw [E.out.1 (x) (by omega), E.out.2.2 (x / 4294967296) (by omega)])
        go_wp2_with (with_reducible refine law_tab (by with_unfolding_all rfl) (.tmp 21) (by with_unfolding_all rfl) HS.out HA.out .u8 _ (x / 4294967296 / 256) (by with_unfolding_all rfl) (by omega) hy ?_)
        go_ret
        exact ⟨ret_int (by have := HE.out; omega), rfl⟩
    · have i16 : 65536 ≤ (x : Int) / 4294967296 := by omega
      by_cases h8 : x / 4294967296 / 65536 < 256
      · have i8 : decide (256 ≤ (x : Int) / 4294967296 / 65536) = false := decide_eq_false (by omega)
        have hy : x / 4294967296 / 65536 < 256 := by omega
        have hb : blen (x / 4294967296 / 65536) ≤ 8 := (blen_le_iff _ 8).2 (by omega)
        have HE : Hid (blen x = blen (x / 4294967296 / 65536) + 48) := hid (by rw [E.out.1 (x) (by omega), E.out.2.1 (x / 4294967296) (by omega)])
        go_wp2_with (with_reducible refine law_tab (by with_unfolding_all rfl) (.tmp 21) (by with_unfolding_all rfl) HS.out HA.out .u8 _ (x / 4294967296 / 65536) (by with_unfolding_all rfl) (by omega) hy ?_)
        go_ret
        exact ⟨ret_int (by have := HE.out; omega), rfl⟩
      · have i8 : 256 ≤ (x : Int) / 4294967296 / 65536 := by omega
        have hy : x / 4294967296 / 65536 / 256 < 256 := by omega
        have hb : blen (x / 4294967296 / 65536 / 256) ≤ 8 := (blen_le_iff _ 8).2 (by omega)
        have HE : Hid (blen x = blen (x / 4294967296 / 65536 / 256) + 56) := hid (by rw [E.out.1 (x) (by omega), E.out.2.1 (x / 4294967296) (by omega), E.out.2.2 (x / 4294967296 / 65536) (by omega)])
        go_wp2_with (with_reducible refine law_tab (by with_unfolding_all rfl) (.tmp 21) (by with_unfolding_all rfl) HS.out HA.out .u8 _ (x / 4294967296 / 65536 / 256) (by with_unfolding_all rfl) (by omega) hy ?_)
        go_ret
        exact ⟨ret_int (by have := HE.out; omega), rfl⟩

theorem lead64_any (w : World) (x : Nat) (hx : x < 18446744073709551616) : Calls Tryz.prog 81 #[.int .u64 x] w fun e w' => e = .returned (.int .i64 ((64 - blen x : Nat) : Int)) ∧ w' = w := by
  have hb : blen x ≤ 64 := (blen_le_iff x 64).2 (by omega)
  go_enter Tryz.func81, Tryz.ntmps81
  go_wp2_with fail
  refine (len64_any _ x hx).mono ?_
  rintro e w1 ⟨rfl, rfl⟩
  go_wp2
  go_ret
  exact ⟨ret_int (by omega), rfl⟩

theorem and32 (x : Nat) (hx : x < 18446744073709551616) : bits .and .u64 (x : Int) 4294967295 = ((x % 4294967296 : Nat) : Int) := by
  have h := bits_and_u64_nat x 4294967295 hx (by decide)
  rw [show (4294967295 : Nat) = 2 ^ 32 - 1 from rfl, Nat.and_two_pow_sub_one_eq_mod] at h
  exact h
theorem wrapN (n : Nat) (h : n < 18446744073709551616) : IntKind.u64.wrap (n : Int) = n := by rw [IntKind.wrap_u64]; omega
theorem wrapAny (n : Nat) : IntKind.u64.wrap (n : Int) = ((n % 18446744073709551616 : Nat) : Int) := by rw [IntKind.wrap_u64]; omega
theorem ret_pair {k l : IntKind} {a b c d : Int} (h : a = c) (g : b = d) : Ending.returned (.tuple #[.int k a, .int l b]) = .returned (.tuple #[.int k c, .int l d]) := by rw [h, g]
theorem mul64_hi (a b c d : Nat) (ha : a < 4294967296) (hb : b < 4294967296) (hc : c < 4294967296) (hd : d < 4294967296) :
    b * d < 18446744073709551616 ∧ a * d < 18446744073709551616 ∧ a * d + b * d / 4294967296 < 18446744073709551616 ∧ b * c < 18446744073709551616 ∧ (a * d + b * d / 4294967296) % 4294967296 + b * c < 18446744073709551616 ∧ a * c < 18446744073709551616 ∧ a * c + (a * d + b * d / 4294967296) / 4294967296 < 18446744073709551616 ∧
    a * c + (a * d + b * d / 4294967296) / 4294967296 + ((a * d + b * d / 4294967296) % 4294967296 + b * c) / 4294967296 < 18446744073709551616 ∧
    a * c + (a * d + b * d / 4294967296) / 4294967296 + ((a * d + b * d / 4294967296) % 4294967296 + b * c) / 4294967296 = (a * 4294967296 + b) * (c * 4294967296 + d) / 18446744073709551616 := by
  have e : (a * 4294967296 + b) * (c * 4294967296 + d) = (a * c) * 18446744073709551616 + (a * d + b * c) * 4294967296 + b * d := by grind
  rw [e]
  have l1 : a * c ≤ 4294967295 * 4294967295 := Nat.mul_le_mul (by omega) (by omega)
  have l2 : a * d ≤ 4294967295 * 4294967295 := Nat.mul_le_mul (by omega) (by omega)
  have l3 : b * c ≤ 4294967295 * 4294967295 := Nat.mul_le_mul (by omega) (by omega)
  have l4 : b * d ≤ 4294967295 * 4294967295 := Nat.mul_le_mul (by omega) (by omega)
  generalize a * c = p at *
  generalize a * d = q at *
  generalize b * c = r at *
  generalize b * d = s at *
  omega

set_option maxHeartbeats 4000000 in
set_option maxRecDepth 100000 in
theorem mul64_any (w : World) (x y : Nat) (hx : x < 18446744073709551616) (hy : y < 18446744073709551616) : Calls Tryz.prog 93 #[.int .u64 x, .int .u64 y] w fun e w' => e = .returned (.tuple #[.int .u64 ((x * y / 18446744073709551616 : Nat) : Int), .int .u64 ((x * y % 18446744073709551616 : Nat) : Int)]) ∧ w' = w := by
  have X := and32 x hx
  have Y := and32 y hy
  have X1 : (x : Int) / 4294967296 = ((x / 4294967296 : Nat) : Int) := by omega
  have Y1 : (y : Int) / 4294967296 = ((y / 4294967296 : Nat) : Int) := by omega
  have L : IntKind.u64.wrap ((x : Int) * y) = ((x * y % 18446744073709551616 : Nat) : Int) := by rw [← Int.natCast_mul]; exact wrapAny _
  have K := mul64_hi (x / 4294967296) (x % 4294967296) (y / 4294967296) (y % 4294967296) (by omega) (by omega) (by omega) (by omega)
  rw [show x / 4294967296 * 4294967296 + x % 4294967296 = x by omega, show y / 4294967296 * 4294967296 + y % 4294967296 = y by omega] at K
  generalize x / 4294967296 = a at *
  generalize x % 4294967296 = b at *
  generalize y / 4294967296 = c at *
  generalize y % 4294967296 = d at *
  obtain ⟨k1, k2, k3, k4, k5, k6, k7, k8, k9⟩ := K
  have HX := hid (And.intro X X1)
  have HY := hid (And.intro Y Y1)
  have HL := hid L
  have HK := hid k9
  clear X X1 Y Y1 L k9
  go_enter Tryz.func93, Tryz.ntmps93
  go_wp2
  go_ret2
  refine ⟨ret_pair ?_ HL.out, rfl⟩
  simp only [HX.out.1, HX.out.2, HY.out.1, HY.out.2]
  simp only [← Int.natCast_mul, wrapN _ k1, wrapN _ k2, wrapN _ k4, wrapN _ k6]
  rw [show ((b * d : Nat) : Int) / 4294967296 = ((b * d / 4294967296 : Nat) : Int) from rfl, ← Int.natCast_add, wrapN _ k3, and32 _ k3]
  rw [show ((a * d + b * d / 4294967296 : Nat) : Int) / 4294967296 = (((a * d + b * d / 4294967296) / 4294967296 : Nat) : Int) from rfl, ← Int.natCast_add, wrapN _ k7, ← Int.natCast_add, wrapN _ k5]
  rw [show (((a * d + b * d / 4294967296) % 4294967296 + b * c : Nat) : Int) / 4294967296 = ((((a * d + b * d / 4294967296) % 4294967296 + b * c) / 4294967296 : Nat) : Int) from rfl, ← Int.natCast_add, wrapN _ k8, HK.out]

theorem add64_run0 (x y : Nat) (w : World) : (callFunc 91 #[.int .u64 x, .int .u64 y, .int .u64 0]).run Tryz.prog w = .ok (.value (.tuple #[.int .u64 (((x + y) % 18446744073709551616 : Nat) : Int), .int .u64 (((x + y) / 18446744073709551616 : Nat) : Int)])) w := add64_run x y 0 (by omega) w

theorem sub64_run0 (x y : Nat) (w : World) : (callFunc 92 #[.int .u64 x, .int .u64 y, .int .u64 0]).run Tryz.prog w = .ok (.value (.tuple #[.int .u64 (((x + 18446744073709551616 - y) % 18446744073709551616 : Nat) : Int), .int .u64 ((if x < y then 1 else 0 : Nat) : Int)])) w := sub64_run x y 0 (by omega) w
end Go.Proofs.YtfegepkhfckamaaGreatDoor

namespace Go.Proofs.YtfegepkhfckamaaGreatDoor
open Go.RowKit
set_option linter.unusedVariables false

/-- The struct v is the number n, of two words. -/
def WV (v : Value) (n : Nat) : Prop := ∃ a b : Nat, v = .agg #[.int .u64 a, .int .u64 b] ∧ a < 18446744073709551616 ∧ b < 18446744073709551616 ∧ n = a * 18446744073709551616 + b
theorem WV.lt {v : Value} {n : Nat} (h : WV v n) : n < 340282366920938463463374607431768211456 := by
  obtain ⟨a, b, -, h1, h2, rfl⟩ := h; omega

theorem ret_bool {a b : Bool} (h : a = b) : Ending.returned (.bool a) = .returned (.bool b) := by rw [h]
theorem wisNought_any {w : World} {v : Value} {n : Nat} (h : WV v n) : Calls Tryz.prog 68 #[v] w fun e w' => e = .returned (.bool (n == 0)) ∧ Fwd w w' := by
  obtain ⟨a, b, rfl, h1, h2, rfl⟩ := h
  have e := bits_or_u64_nat a b h1 h2
  have e2 : (((a ||| b : Nat) : Int) == 0) = (a * 18446744073709551616 + b == 0) := by
    rw [Bool.eq_iff_iff]; simp only [beq_iff_eq, Int.natCast_eq_zero, Nat.or_eq_zero_iff]; omega
  rw [← e] at e2
  have H := hid e2
  clear e e2
  go_enter Tryz.func68, Tryz.ntmps68
  go_wp2
  go_ret
  exact ⟨ret_bool H.out, (Fwd.refl w).alloc _⟩

theorem wless_any {w : World} {u v : Value} {n m : Nat} (h : WV u n) (g : WV v m) : Calls Tryz.prog 83 #[u, v] w fun e w' => e = .returned (.bool (decide (n < m))) ∧ Fwd w w' := by
  obtain ⟨a, b, rfl, h1, h2, rfl⟩ := h
  obtain ⟨c, d, rfl, g1, g2, rfl⟩ := g
  have E : Hid (decide (a * 18446744073709551616 + b < c * 18446744073709551616 + d) = (decide (a < c) || (decide (a = c) && decide (b < d)))) := hid (by rw [Bool.eq_iff_iff]; simp; omega)
  rw [E.out]
  by_cases k1 : a < c
  · go_enter Tryz.func83, Tryz.ntmps83
    have i1 : decide (a < c) = true := decide_eq_true k1
    go_wp2
    go_ret
    exact ⟨by simp [i1], ((Fwd.refl w).alloc _).alloc _⟩
  · by_cases k2 : a = c
    · subst k2
      go_enter Tryz.func83, Tryz.ntmps83
      go_wp2
      go_ret
      exact ⟨by simp, ((Fwd.refl w).alloc _).alloc _⟩
    · go_enter Tryz.func83, Tryz.ntmps83
      have i1 : decide (a < c) = false := decide_eq_false k1
      have i2 : ((a : Int) == (c : Int)) = false := by simp; omega
      go_wp2
      go_ret
      exact ⟨by simp [k1, k2], ((Fwd.refl w).alloc _).alloc _⟩

set_option maxHeartbeats 4000000 in
set_option maxRecDepth 100000 in
theorem wplus_any {w : World} {u v : Value} {n m : Nat} (h : WV u n) (g : WV v m) (hl : n + m < 340282366920938463463374607431768211456) : Calls Tryz.prog 82 #[u, v] w fun e w' => ∃ x, e = .returned x ∧ WV x (n + m) ∧ Fwd w w' := by
  obtain ⟨a, b, rfl, h1, h2, rfl⟩ := h
  obtain ⟨c, d, rfl, g1, g2, rfl⟩ := g
  have r1 := fun w => add64_run0 b d w
  have r2 := fun w => add64_run a c ((b + d) / 18446744073709551616) (by omega) w
  generalize E1 : (b + d) % 18446744073709551616 = lo at r1
  generalize E2 : (b + d) / 18446744073709551616 = cy at r1 r2
  generalize E3 : (a + c + cy) % 18446744073709551616 = hi at r2
  generalize E4 : (a + c + cy) / 18446744073709551616 = cz at r2
  have H := hid (And.intro (And.intro E1 E2) (And.intro E3 E4))
  have HL := hid hl
  clear E1 E2 E3 E4 hl
  go_enter Tryz.func82, Tryz.ntmps82
  go_wp2
  refine bodyPost_ret (by simp [results, Tryz.results82, go_sem]; try rfl) rfl ?_
  obtain ⟨⟨E1, E2⟩, E3, E4⟩ := H.out
  have hl := HL.out
  exact ⟨_, rfl, ⟨hi, lo, rfl, by omega, by omega, by omega⟩, (((Fwd.refl w).alloc _).alloc _).alloc _⟩

set_option maxHeartbeats 4000000 in
set_option maxRecDepth 100000 in
theorem wminus_any {w : World} {u v : Value} {n m : Nat} (h : WV u n) (g : WV v m) (hl : m ≤ n) : Calls Tryz.prog 84 #[u, v] w fun e w' => ∃ x, e = .returned x ∧ WV x (n - m) ∧ Fwd w w' := by
  obtain ⟨a, b, rfl, h1, h2, rfl⟩ := h
  obtain ⟨c, d, rfl, g1, g2, rfl⟩ := g
  have r1 := fun w => sub64_run0 b d w
  have r2 := fun w => sub64_run a c (if b < d then 1 else 0) (by split <;> omega) w
  generalize E1 : (b + 18446744073709551616 - d) % 18446744073709551616 = lo at r1
  generalize E2 : (if b < d then 1 else 0 : Nat) = cy at r1 r2
  generalize E3 : (a + 18446744073709551616 - c - cy) % 18446744073709551616 = hi at r2
  generalize E4 : (if a < c + cy then 1 else 0 : Nat) = cz at r2
  have H := hid (And.intro (And.intro E1 E2) (And.intro E3 E4))
  have HL := hid hl
  clear E1 E2 E3 E4 hl
  go_enter Tryz.func84, Tryz.ntmps84
  go_wp2
  refine bodyPost_ret (by simp [results, Tryz.results84, go_sem]; try rfl) rfl ?_
  obtain ⟨⟨E1, E2⟩, E3, E4⟩ := H.out
  have hl := HL.out
  split at E2 <;> split at E4
  all_goals
  first
  |   exact ⟨_, rfl, ⟨hi, lo, rfl, by omega, by omega, by omega⟩, (((Fwd.refl w).alloc _).alloc _).alloc _⟩

set_option maxHeartbeats 4000000 in
set_option maxRecDepth 100000 in
theorem wfree_any {w : World} {v : Value} {n : Nat} (h : WV v n) : Calls Tryz.prog 73 #[v] w fun e w' => e = .returned (.int .i64 ((128 - blen n : Nat) : Int)) ∧ Fwd w w' := by
  obtain ⟨a, b, rfl, h1, h2, rfl⟩ := h
  go_enter Tryz.func73, Tryz.ntmps73
  by_cases k : a = 0
  · subst k
    have hb : blen b ≤ 64 := (blen_le_iff b 64).2 (by omega)
    go_wp2_with fail
    refine (lead64_any _ b h2).mono ?_
    rintro e w1 ⟨rfl, rfl⟩
    go_wp2
    go_ret
    exact ⟨ret_int (by rw [Nat.zero_mul, Nat.zero_add]; omega), (Fwd.refl w).alloc _⟩
  · have i1 : ((a : Int) == 0) = false := by simp; omega
    have hb : blen a ≤ 64 := (blen_le_iff a 64).2 (by omega)
    have hd := blen_div (a * 18446744073709551616 + b) 64 (by show 18446744073709551616 ≤ _; omega)
    rw [show (a * 18446744073709551616 + b) / 2 ^ 64 = a from (by omega : (a * 18446744073709551616 + b) / 18446744073709551616 = a)] at hd
    have H := hid hd
    clear hd
    go_wp2_with fail
    refine (lead64_any _ a h1).mono ?_
    rintro e w1 ⟨rfl, rfl⟩
    go_wp2
    go_ret
    exact ⟨ret_int (by rw [H.out]; omega), (Fwd.refl w).alloc _⟩

set_option maxHeartbeats 4000000 in
set_option maxRecDepth 100000 in
theorem product_any {w : World} {x y : Nat} (hx : x < 18446744073709551616) (hy : y < 18446744073709551616) : Calls Tryz.prog 85 #[.int .u64 x, .int .u64 y] w fun e w' => ∃ v, e = .returned v ∧ WV v (x * y) ∧ Fwd w w' := by
  have hl : x * y < 340282366920938463463374607431768211456 := by
    have : x * y ≤ 18446744073709551615 * 18446744073709551615 := Nat.mul_le_mul (by omega) (by omega)
    omega
  go_enter Tryz.func85, Tryz.ntmps85
  go_wp2_with fail
  refine (mul64_any _ x y hx hy).mono ?_
  generalize E : x * y = p at hl ⊢
  have e1 : p / 18446744073709551616 < 18446744073709551616 := by omega
  have e2 : p % 18446744073709551616 < 18446744073709551616 := by omega
  have e3 : p = p / 18446744073709551616 * 18446744073709551616 + p % 18446744073709551616 := by omega
  generalize p / 18446744073709551616 = q at e1 e3
  generalize p % 18446744073709551616 = r at e2 e3
  rintro e w1 ⟨rfl, rfl⟩
  have HE := hid (E.trans e3)
  clear e3 E hl
  go_wp2
  refine bodyPost_ret (by simp [results, Tryz.results85, go_sem]; try rfl) rfl ?_
  exact ⟨_, rfl, ⟨q, r, rfl, e1, e2, HE.out⟩, (Fwd.refl w).alloc _⟩

theorem or_add (a b k : Nat) (hb : b < 2 ^ k) : a * 2 ^ k ||| b = a * 2 ^ k + b := by
  rw [Nat.mul_comm, Nat.two_pow_add_eq_or_of_lt hb]
theorem up_math (a b k : Nat) (ha : a < 18446744073709551616) (hb : b < 18446744073709551616) (hk : k < 64) (hl : (a * 18446744073709551616 + b) * 2 ^ k < 340282366920938463463374607431768211456) :
    b / 2 ^ (64 - k) < 18446744073709551616 ∧ (a * 2 ^ k % 18446744073709551616 ||| b / 2 ^ (64 - k)) = a * 2 ^ k + b / 2 ^ (64 - k) ∧ a * 2 ^ k + b / 2 ^ (64 - k) < 18446744073709551616 ∧ (a * 18446744073709551616 + b) * 2 ^ k = (a * 2 ^ k + b / 2 ^ (64 - k)) * 18446744073709551616 + b * 2 ^ k % 18446744073709551616 := by
  have e : 18446744073709551616 = 2 ^ k * 2 ^ (64 - k) := by rw [← Nat.pow_add, show k + (64 - k) = 64 by omega]
  have hp : 0 < 2 ^ k := Nat.two_pow_pos k
  have hq : 0 < 2 ^ (64 - k) := Nat.two_pow_pos _
  have h1 : b / 2 ^ (64 - k) < 2 ^ k := by rw [Nat.div_lt_iff_lt_mul hq, ← e]; exact hb
  have h2 : (a * 18446744073709551616 + b) * 2 ^ k = (a * 2 ^ k) * 18446744073709551616 + b * 2 ^ k := by grind
  have h3 : b * 2 ^ k / 18446744073709551616 = b / 2 ^ (64 - k) := by rw [e, Nat.mul_comm b, Nat.mul_div_mul_left _ _ hp]
  have h4 : a * 2 ^ k < 18446744073709551616 := by rw [h2] at hl; omega
  have h5 : b / 2 ^ (64 - k) ≤ b := Nat.div_le_self _ _
  rw [Nat.mod_eq_of_lt h4, or_add _ _ _ h1, h2]
  rw [h2] at hl
  generalize a * 2 ^ k = p at *
  generalize b * 2 ^ k = q at *
  refine ⟨by omega, rfl, by omega, by omega⟩
set_option maxHeartbeats 4000000 in
set_option maxRecDepth 100000 in
theorem wup_any {w : World} {v : Value} {n k : Nat} (h : WV v n) (hk : k ≤ 127) (hl : n * 2 ^ k < 340282366920938463463374607431768211456) : Calls Tryz.prog 74 #[v, .int .i64 k] w fun e w' => ∃ x, e = .returned x ∧ WV x (n * 2 ^ k) ∧ Fwd w w' := by
  obtain ⟨a, b, rfl, h1, h2, rfl⟩ := h
  by_cases c : 64 ≤ k
  · have i1 : decide (64 ≤ (k : Int)) = true := decide_eq_true (by omega)
    have e1 : IntKind.u64.wrap ((b : Int) * 2 ^ (k - 64)) = ((b * 2 ^ (k - 64) % 18446744073709551616 : Nat) : Int) := by
      rw [← wrapAny]; congr 1
    have e2 : 2 ^ k = 18446744073709551616 * 2 ^ (k - 64) := by rw [show 18446744073709551616 = 2 ^ 64 from rfl, ← Nat.pow_add]; congr 1; omega
    have e3 : b * 2 ^ (k - 64) < 18446744073709551616 ∧ (a * 18446744073709551616 + b) * 2 ^ k = (b * 2 ^ (k - 64)) * 18446744073709551616 := by
      rw [e2, ← Nat.mul_assoc, Nat.mul_right_comm] at hl
      have h3 : (a * 18446744073709551616 + b) * 2 ^ (k - 64) < 18446744073709551616 := by omega
      have hp : 1 ≤ 2 ^ (k - 64) := Nat.one_le_two_pow
      have ha : a = 0 := by
        rcases Nat.eq_zero_or_pos a with h | h
        · exact h
        · exfalso
          have := Nat.le_mul_of_pos_right (a * 18446744073709551616 + b) hp
          omega
      subst ha
      rw [Nat.zero_mul, Nat.zero_add] at h3 ⊢
      exact ⟨h3, by rw [e2]; grind⟩
    rw [Nat.mod_eq_of_lt e3.1] at e1
    generalize b * 2 ^ (k - 64) = q at e1 e3
    have HE := hid e3
    clear e3 e2 hl
    go_enter Tryz.func74, Tryz.ntmps74
    go_wp2
    refine bodyPost_ret (by simp [results, Tryz.results74, go_sem]; try rfl) rfl ?_
    exact ⟨_, rfl, ⟨q, 0, rfl, HE.out.1, by omega, by rw [HE.out.2, Nat.add_zero]⟩, ((Fwd.refl w).alloc _).alloc _⟩
  · have i1 : decide (64 ≤ (k : Int)) = false := decide_eq_false (by omega)
    have e1 : IntKind.u64.wrap ((a : Int) * 2 ^ k) = ((a * 2 ^ k % 18446744073709551616 : Nat) : Int) := by rw [← wrapAny]; congr 1
    have e2 : IntKind.u64.wrap ((b : Int) * 2 ^ k) = ((b * 2 ^ k % 18446744073709551616 : Nat) : Int) := by rw [← wrapAny]; congr 1
    have e3 : (b : Int) / 2 ^ (64 - k) = ((b / 2 ^ (64 - k) : Nat) : Int) := by rw [Int.natCast_ediv]; congr 1
    have K := up_math a b k h1 h2 (by omega) hl
    have e4 : bits BinOp.or IntKind.u64 (IntKind.u64.wrap ((a : Int) * 2 ^ k)) ((b : Int) / 2 ^ (64 - k)) = ((a * 2 ^ k + b / 2 ^ (64 - k) : Nat) : Int) := by
      rw [e1, e3, bits_or_u64_nat _ _ (by omega) K.1, K.2.1]
    have HE := hid (And.intro K.2.2.1 (And.intro (Nat.mod_lt (b * 2 ^ k) (by omega : 0 < 18446744073709551616)) K.2.2.2))
    clear K hl
    generalize a * 2 ^ k + b / 2 ^ (64 - k) = p at e4 HE
    generalize b * 2 ^ k % 18446744073709551616 = q at e2 HE
    clear e1 e3
    go_enter Tryz.func74, Tryz.ntmps74
    go_wp2
    go_region
    go_wp2
    refine bodyPost_ret (by simp [results, Tryz.results74, go_sem]; try rfl) rfl ?_
    exact ⟨_, rfl, ⟨_, _, rfl, HE.out.1, HE.out.2.1, HE.out.2.2⟩, (((Fwd.refl w).alloc _).alloc _).drew⟩
end Go.Proofs.YtfegepkhfckamaaGreatDoor
