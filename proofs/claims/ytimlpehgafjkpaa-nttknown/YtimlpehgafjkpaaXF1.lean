/- Words of 64 bits: sfloat's rest; math/bits' Add64, Sub64, Len64, LeadingZeros64, Mul64. -/
import Derived.Test.YtimlpehgafjkpaaXB1
import Derived.Test.YtimlpehgafjkpaaXK1
import Derived.Laws.Externs
namespace Go.Proofs.Ytimlpehgafjkpaa
open Go.RowKit
set_option linter.unusedVariables false

/-- The model's entry for math/bits.Sub64. -/
def sub64Entry' : Array Value → Sem Value := fun args => do
  let (x, y, b) ← Extern.MathBitsCarry.three "Sub64" args
  pure (Extern.MathBitsCarry.pair ((x + Extern.MathBitsCarry.m64 - y - b) % Extern.MathBitsCarry.m64) (if x < y + b then 1 else 0))
theorem run_sub64' {P : Program} (x y b : Nat) (hb : b ≤ 1) (w : World) :
    (sub64Entry' #[.int .u64 x, .int .u64 y, .int .u64 b]).run P w =
      .ok (.tuple #[.int .u64 (((x + 18446744073709551616 - y - b) % 18446744073709551616 : Nat) : Int), .int .u64 ((if x < y + b then 1 else 0 : Nat) : Int)]) w := by
  have : b = 0 ∨ b = 1 := by omega
  rcases this with rfl | rfl <;> rfl

set_option maxHeartbeats 4000000 in
set_option maxRecDepth 100000 in
theorem len64_any (w : World) (x : Nat) (hx : x < 18446744073709551616) : Calls Try.prog 39 #[.int .u64 x] w fun e w' => e = .returned (.int .i64 (blen x)) ∧ w' = w := by
  go_enter Try.func39, Try.ntmps39
  generalize hT : (ByteArray.mk (List.append (List.append _ _) (List.append _ _)).toArray) = T
  have hsz : T.size = 256 := by rw [← hT]; decide +kernel
  have hall : ∀ i : Fin 256, (T[i.val]?).map (·.toNat) = some (blen i.val) := by rw [← hT]; decide +kernel
  clear hT
  have HS := hid hsz
  have HA := hid hall
  clear hsz hall
  have E := hid (And.intro (fun y (h : 4294967296 ≤ y) => blen_div y 32 h) (And.intro (fun y (h : 65536 ≤ y) => blen_div y 16 h) (fun y (h : 256 ≤ y) => blen_div y 8 h)))
  by_cases h32 : x < 4294967296
  · have i32 : decide (4294967296 ≤ (x : Int)) = false := decide_eq_false (by omega)
    by_cases h16 : x < 65536
    · have i16 : decide (65536 ≤ (x : Int)) = false := decide_eq_false (by omega)
      by_cases h8 : x < 256
      · have i8 : decide (256 ≤ (x : Int)) = false := decide_eq_false (by omega)
        have hy : x < 256 := by omega
        have hb : blen (x) ≤ 8 := (blen_le_iff _ 8).2 (by omega)
        have HE : Hid (blen x = blen (x) + 0) := hid (by rfl)
        go_wp2_with (with_reducible refine law_tab (by with_unfolding_all rfl) (.tmp 21) (by with_unfolding_all rfl) HS.out HA.out .u8 _ (x) (by with_unfolding_all rfl) (by omega) hy ?_)
        go_ret
        exact ⟨ret_int (by have := HE.out; omega), rfl⟩
      · have i8 : 256 ≤ (x : Int) := by omega
        have hy : x / 256 < 256 := by omega
        have hb : blen (x / 256) ≤ 8 := (blen_le_iff _ 8).2 (by omega)
        have HE : Hid (blen x = blen (x / 256) + 8) := hid (by rw [E.out.2.2 (x) (by omega)])
        go_wp2_with (with_reducible refine law_tab (by with_unfolding_all rfl) (.tmp 21) (by with_unfolding_all rfl) HS.out HA.out .u8 _ (x / 256) (by with_unfolding_all rfl) (by omega) hy ?_)
        go_ret
        exact ⟨ret_int (by have := HE.out; omega), rfl⟩
    · have i16 : 65536 ≤ (x : Int) := by omega
      by_cases h8 : x / 65536 < 256
      · have i8 : decide (256 ≤ (x : Int) / 65536) = false := decide_eq_false (by omega)
        have hy : x / 65536 < 256 := by omega
        have hb : blen (x / 65536) ≤ 8 := (blen_le_iff _ 8).2 (by omega)
        have HE : Hid (blen x = blen (x / 65536) + 16) := hid (by rw [E.out.2.1 (x) (by omega)])
        go_wp2_with (with_reducible refine law_tab (by with_unfolding_all rfl) (.tmp 21) (by with_unfolding_all rfl) HS.out HA.out .u8 _ (x / 65536) (by with_unfolding_all rfl) (by omega) hy ?_)
        go_ret
        exact ⟨ret_int (by have := HE.out; omega), rfl⟩
      · have i8 : 256 ≤ (x : Int) / 65536 := by omega
        have hy : x / 65536 / 256 < 256 := by omega
        have hb : blen (x / 65536 / 256) ≤ 8 := (blen_le_iff _ 8).2 (by omega)
        have HE : Hid (blen x = blen (x / 65536 / 256) + 24) := hid (by rw [E.out.2.1 (x) (by omega), E.out.2.2 (x / 65536) (by omega)])
        go_wp2_with (with_reducible refine law_tab (by with_unfolding_all rfl) (.tmp 21) (by with_unfolding_all rfl) HS.out HA.out .u8 _ (x / 65536 / 256) (by with_unfolding_all rfl) (by omega) hy ?_)
        go_ret
        exact ⟨ret_int (by have := HE.out; omega), rfl⟩
  · have i32 : 4294967296 ≤ (x : Int) := by omega
    by_cases h16 : x / 4294967296 < 65536
    · have i16 : decide (65536 ≤ (x : Int) / 4294967296) = false := decide_eq_false (by omega)
      by_cases h8 : x / 4294967296 < 256
      · have i8 : decide (256 ≤ (x : Int) / 4294967296) = false := decide_eq_false (by omega)
        have hy : x / 4294967296 < 256 := by omega
        have hb : blen (x / 4294967296) ≤ 8 := (blen_le_iff _ 8).2 (by omega)
        have HE : Hid (blen x = blen (x / 4294967296) + 32) := hid (by rw [E.out.1 (x) (by omega)])
        go_wp2_with (with_reducible refine law_tab (by with_unfolding_all rfl) (.tmp 21) (by with_unfolding_all rfl) HS.out HA.out .u8 _ (x / 4294967296) (by with_unfolding_all rfl) (by omega) hy ?_)
        go_ret
        exact ⟨ret_int (by have := HE.out; omega), rfl⟩
      · have i8 : 256 ≤ (x : Int) / 4294967296 := by omega
        have hy : x / 4294967296 / 256 < 256 := by omega
        have hb : blen (x / 4294967296 / 256) ≤ 8 := (blen_le_iff _ 8).2 (by omega)
        have HE : Hid (blen x = blen (x / 4294967296 / 256) + 40) := hid (by rw [E.out.1 (x) (by omega), E.out.2.2 (x / 4294967296) (by omega)])
        go_wp2_with (with_reducible refine law_tab (by with_unfolding_all rfl) (.tmp 21) (by with_unfolding_all rfl) HS.out HA.out .u8 _ (x / 4294967296 / 256) (by with_unfolding_all rfl) (by omega) hy ?_)
        go_ret
        exact ⟨ret_int (by have := HE.out; omega), rfl⟩
    · have i16 : 65536 ≤ (x : Int) / 4294967296 := by omega
      by_cases h8 : x / 4294967296 / 65536 < 256
      · have i8 : decide (256 ≤ (x : Int) / 4294967296 / 65536) = false := decide_eq_false (by omega)
        have hy : x / 4294967296 / 65536 < 256 := by omega
        have hb : blen (x / 4294967296 / 65536) ≤ 8 := (blen_le_iff _ 8).2 (by omega)
        have HE : Hid (blen x = blen (x / 4294967296 / 65536) + 48) := hid (by rw [E.out.1 (x) (by omega), E.out.2.1 (x / 4294967296) (by omega)])
        go_wp2_with (with_reducible refine law_tab (by with_unfolding_all rfl) (.tmp 21) (by with_unfolding_all rfl) HS.out HA.out .u8 _ (x / 4294967296 / 65536) (by with_unfolding_all rfl) (by omega) hy ?_)
        go_ret
        exact ⟨ret_int (by have := HE.out; omega), rfl⟩
      · have i8 : 256 ≤ (x : Int) / 4294967296 / 65536 := by omega
        have hy : x / 4294967296 / 65536 / 256 < 256 := by omega
        have hb : blen (x / 4294967296 / 65536 / 256) ≤ 8 := (blen_le_iff _ 8).2 (by omega)
        have HE : Hid (blen x = blen (x / 4294967296 / 65536 / 256) + 56) := hid (by rw [E.out.1 (x) (by omega), E.out.2.1 (x / 4294967296) (by omega), E.out.2.2 (x / 4294967296 / 65536) (by omega)])
        go_wp2_with (with_reducible refine law_tab (by with_unfolding_all rfl) (.tmp 21) (by with_unfolding_all rfl) HS.out HA.out .u8 _ (x / 4294967296 / 65536 / 256) (by with_unfolding_all rfl) (by omega) hy ?_)
        go_ret
        exact ⟨ret_int (by have := HE.out; omega), rfl⟩

theorem and32 (x : Nat) (hx : x < 18446744073709551616) : bits .and .u64 (x : Int) 4294967295 = ((x % 4294967296 : Nat) : Int) := by
  have h := bits_and_u64_nat x 4294967295 hx (by decide)
  rw [show (4294967295 : Nat) = 2 ^ 32 - 1 from rfl, Nat.and_two_pow_sub_one_eq_mod] at h
  exact h
theorem wrapN (n : Nat) (h : n < 18446744073709551616) : IntKind.u64.wrap (n : Int) = n := by rw [IntKind.wrap_u64]; omega
theorem wrapAny (n : Nat) : IntKind.u64.wrap (n : Int) = ((n % 18446744073709551616 : Nat) : Int) := by rw [IntKind.wrap_u64]; omega
theorem ret_pair {k l : IntKind} {a b c d : Int} (h : a = c) (g : b = d) : Ending.returned (.tuple #[.int k a, .int l b]) = .returned (.tuple #[.int k c, .int l d]) := by rw [h, g]
theorem mul64_hi (a b c d : Nat) (ha : a < 4294967296) (hb : b < 4294967296) (hc : c < 4294967296) (hd : d < 4294967296) :
    b * d < 18446744073709551616 ∧ a * d < 18446744073709551616 ∧ a * d + b * d / 4294967296 < 18446744073709551616 ∧ b * c < 18446744073709551616 ∧ (a * d + b * d / 4294967296) % 4294967296 + b * c < 18446744073709551616 ∧ a * c < 18446744073709551616 ∧ a * c + (a * d + b * d / 4294967296) / 4294967296 < 18446744073709551616 ∧
    a * c + (a * d + b * d / 4294967296) / 4294967296 + ((a * d + b * d / 4294967296) % 4294967296 + b * c) / 4294967296 < 18446744073709551616 ∧
    a * c + (a * d + b * d / 4294967296) / 4294967296 + ((a * d + b * d / 4294967296) % 4294967296 + b * c) / 4294967296 = (a * 4294967296 + b) * (c * 4294967296 + d) / 18446744073709551616 := by
  have e : (a * 4294967296 + b) * (c * 4294967296 + d) = (a * c) * 18446744073709551616 + (a * d + b * c) * 4294967296 + b * d := by grind
  rw [e]
  have l1 : a * c ≤ 4294967295 * 4294967295 := Nat.mul_le_mul (by omega) (by omega)
  have l2 : a * d ≤ 4294967295 * 4294967295 := Nat.mul_le_mul (by omega) (by omega)
  have l3 : b * c ≤ 4294967295 * 4294967295 := Nat.mul_le_mul (by omega) (by omega)
  have l4 : b * d ≤ 4294967295 * 4294967295 := Nat.mul_le_mul (by omega) (by omega)
  generalize a * c = p at *
  generalize a * d = q at *
  generalize b * c = r at *
  generalize b * d = s at *
  omega

end Go.Proofs.Ytimlpehgafjkpaa
