/- Contract of nat's bitsFrom. -/
import Derived.Test.YtbkphjmhmfgpgabDoorG2
namespace Go.Proofs.YtbkphjmhmfgpgabDoor
open Go.RowKit
set_option linter.unusedVariables false

theorem or64 (a b k : Nat) (ha : a < 18446744073709551616) (hb : b < 18446744073709551616) (hk : a < 2 ^ k) (hd : b % 2 ^ k = 0) : bits .or .u64 (a : Int) (b : Int) = ((a + b : Nat) : Int) := by
  rw [u64_or_nat _ _ ha hb, Nat.or_comm, nat_join k _ _ hd hk, Nat.add_comm]

/-- The limbs from i on. -/
theorem limbs_from (V i : Nat) : V / 4294967296 ^ i % 4294967296 + V / 4294967296 ^ (i + 1) % 4294967296 * 4294967296 = V / 4294967296 ^ i % 18446744073709551616 ∧ V / 4294967296 ^ (i + 2) % 4294967296 = V / 4294967296 ^ i / 18446744073709551616 % 4294967296 := by
  have e1 : V / 4294967296 ^ (i + 1) = V / 4294967296 ^ i / 4294967296 := by rw [Nat.pow_succ, Nat.div_div_eq_div_mul]
  have e2 : V / 4294967296 ^ (i + 2) = V / 4294967296 ^ i / 18446744073709551616 := by rw [Nat.pow_succ, Nat.pow_succ, Nat.div_div_eq_div_mul, Nat.mul_assoc]
  rw [e1, e2]
  generalize V / 4294967296 ^ i = W
  omega

theorem bits_at {V i p x2 : Nat} (hp : p < 32) (hx : x2 = V / 4294967296 ^ (i + 2) % 4294967296) :
    V / 4294967296 ^ i % 18446744073709551616 / 2 ^ p + x2 * 2 ^ (64 - p) % 18446744073709551616 = V / 2 ^ (32 * i + p) % 18446744073709551616 ∧ V / 4294967296 ^ i % 18446744073709551616 / 2 ^ p < 2 ^ (64 - p) ∧ x2 * 2 ^ (64 - p) % 18446744073709551616 % 2 ^ (64 - p) = 0 := by
  rw [(limbs_from V i).2] at hx
  have hQR : 2 ^ p * 2 ^ (64 - p) = 18446744073709551616 := by rw [← Nat.pow_add, show p + (64 - p) = 64 by omega]
  have hdv : 2 ^ p ∣ 4294967296 := ⟨2 ^ (32 - p), by rw [← Nat.pow_add, show p + (32 - p) = 32 by omega]⟩
  have h := mod_join (V / 4294967296 ^ i % 18446744073709551616) (V / 4294967296 ^ i / 18446744073709551616) (2 ^ p) (2 ^ (64 - p)) x2 hQR (Nat.mod_lt _ (by omega)) hdv (Nat.two_pow_pos _) hx
  refine ⟨?_, h.2⟩
  rw [h.1, Nat.mod_add_div, Nat.pow_add, ← pow32, ← Nat.div_div_eq_div_mul]

set_option maxHeartbeats 4000000 in
theorem bitsFrom_any {w : World} {v : Value} {xs : List Nat} (h : Rd w v xs) (sh : Nat) (hl : sh + 64 ≤ 32 * xs.length) (hl2 : xs.length ≤ 100000000) :
    Calls Tryd.prog 59 #[v, .int .i64 sh] w fun e w' => e = .returned (.int .u64 ((val xs / 2 ^ sh % 18446744073709551616 : Nat) : Int)) ∧ Fwd w w' := by
  obtain ⟨ao, cap, rfl, h1, h2, hok, hc⟩ := h.parts
  unfold maxLen at h2
  obtain ⟨i, hi⟩ : ∃ i, i = sh / 32 := ⟨_, rfl⟩
  obtain ⟨p, hp⟩ : ∃ p, p = sh % 32 := ⟨_, rfl⟩
  have hp32 : p < 32 := by omega
  have hsh : sh = 32 * i + p := by omega
  have ei : (sh : Int) / 32 = (i : Int) := by omega
  have ep : (sh : Int) % 32 = (p : Int) := by omega
  have hil : i + 1 < xs.length := by omega
  have hil2 : p ≠ 0 → i + 2 < xs.length := by omega
  have hil3 : (i : Int) + 1 < xs.length := by omega
  have HSH := hid hsh
  clear hi hp hsh
  obtain ⟨b, off, rfl, hc0⟩ := hc i (by omega)
  obtain ⟨b', off', e', hc1⟩ := hc (i + 1) (by omega)
  cases e'
  have hl0 := limbs_from (val xs) i
  rw [val_mod_pow xs hok, val_mod_pow xs hok, val_mod_pow xs hok] at hl0
  have hx0b := hok.getD i
  have hx1b := hok.getD (i + 1)
  obtain ⟨x0, hx0⟩ : ∃ x, x = xs.getD i 0 := ⟨_, rfl⟩
  obtain ⟨x1, hx1⟩ : ∃ x, x = xs.getD (i + 1) 0 := ⟨_, rfl⟩
  rw [← hx0] at hc0 hx0b hl0
  rw [← hx1] at hc1 hx1b hl0
  have hor := or_join2 x0 x1 hx0b hx1b
  obtain ⟨t, ht⟩ : ∃ t, t = x1 * 4294967296 + x0 := ⟨_, rfl⟩
  rw [← ht] at hor
  have htb : t < 18446744073709551616 := by omega
  have htV : t = val xs / 4294967296 ^ i % 18446744073709551616 := by rw [← hl0.1, ht]; omega
  have HTV := hid htV
  have htb2 := u64_le htb
  clear ht hx0 hx1 htV
  have hc1' : w.cell? ⟨b, off + i + 1, none⟩ = some (.int .u32 (x1 : Int)) := hc1
  by_cases hp0 : p = 0
  · subst hp0
    go_enter Tryd.func59, Tryd.ntmps59
    go_wp2_with fail
    go_quiet (fail)
    go_wp2
    go_ret
    refine ⟨?_, (Fwd.refl w).drewN _⟩
    rw [HTV.out, HSH.out, Nat.add_zero, pow32]
    rfl
  · obtain ⟨b', off', e', hc2⟩ := hc (i + 2) (hil2 hp0)
    cases e'
    have hx2b := hok.getD (i + 2)
    obtain ⟨x2, hx2⟩ : ∃ x, x = xs.getD (i + 2) 0 := ⟨_, rfl⟩
    rw [← hx2] at hc2 hx2b hl0
    have hB := bits_at (V := val xs) (i := i) (x2 := x2) hp32 (by rw [hx2, val_mod_pow xs hok])
    rw [← HTV.out, ← HSH.out] at hB
    have hor2 := or64 (t / 2 ^ p) (x2 * 2 ^ (64 - p) % 18446744073709551616) (64 - p) (by have := Nat.div_le_self t (2 ^ p); omega) (by omega) hB.2.1 hB.2.2
    rw [hB.1] at hor2
    have hp1 : ((p : Int) == 0) = false := by simp; omega
    have hil4 : (i : Int) + 2 < xs.length := by have := hil2 hp0; omega
    clear hB hx2 hc hil2 hl0 hp0
    go_enter Tryd.func59, Tryd.ntmps59
    go_wp2_with fail
    go_quiet (fail)
    go_wp2_with fail
    have hf1 := (Fwd.refl w).drewN nq
    have hc2' := hf1.cell hc2
    have HF1 := hid hf1
    clear hc2 hf1 hc0 hc1 hc1'
    generalize w.drewN nq = wq at *
    have HOR2 := hid hor2
    clear hor2
    go_quiet (fail)
    go_wp2
    go_ret
    refine ⟨?_, HF1.out.drewN _⟩
    have e1 : (x2 : Int) * 2 ^ (64 - p) % 18446744073709551616 = ((x2 * 2 ^ (64 - p) % 18446744073709551616 : Nat) : Int) := by rw [cast_pow2]; simp
    have h3 := HOR2.out
    rw [← e1, ← shr_cast, ← IntKind.wrap_u64] at h3
    exact ret_int h3

end Go.Proofs.YtbkphjmhmfgpgabDoor
