/- Contracts of ntt's remainders and powers, and of the second telling's. -/
import Derived.Test.YtimlpehgafjkpaaXNT2
import Derived.Test.YtimlpehgafjkpaaXK1
namespace Go.Proofs.Ytimlpehgafjkpaa
open Go.RowKit
set_option linter.unusedVariables false
set_option linter.unusedSimpArgs false

theorem rt_int {k : IntKind} {a b : Int} (h : a = b) : Ending.returned (.int k a) = .returned (.int k b) := by rw [h]

theorem prod_lt {a b : Nat} (ha : a < 4294967296) (hb : b < 4294967296) : a * b < 18446744073709551616 := by
  have := Nat.mul_lt_mul'' ha hb
  omega

theorem times_any (w : World) (a b : Nat) (ha : a < 4294967296) (hb : b < 4294967296) :
    Calls Try.prog 30 #[.int .u32 a, .int .u32 b] w fun e w' => e = .returned (.int .u32 ((a * b % 998244353 : Nat) : Int)) ∧ w' = w := by
  have hp := prod_lt ha hb
  have hm : a * b % 998244353 < 998244353 := Nat.mod_lt _ (by omega)
  obtain ⟨p, hpp⟩ : ∃ p, p = a * b := ⟨_, rfl⟩
  have hc : (a : Int) * (b : Int) = (p : Int) := by rw [hpp]; simp
  rw [← hpp] at hp hm ⊢
  have HP := hid hpp
  clear hpp
  go_enter Try.func30, Try.ntmps30
  go_wp2
  go_ret
  refine ⟨rt_int ?_, rfl⟩
  omega

theorem times8_any (w : World) (a b : Nat) (ha : a < 4294967296) (hb : b < 4294967296) :
    Calls Try.prog 21 #[.int .u32 a, .int .u32 b] w fun e w' => e = .returned (.int .u32 ((a * b % 998244353 : Nat) : Int)) ∧ w' = w := by
  have hp := prod_lt ha hb
  have hm : a * b % 998244353 < 998244353 := Nat.mod_lt _ (by omega)
  obtain ⟨p, hpp⟩ : ∃ p, p = a * b := ⟨_, rfl⟩
  have hc : (a : Int) * (b : Int) = (p : Int) := by rw [hpp]; simp
  rw [← hpp] at hp hm ⊢
  have HP := hid hpp
  clear hpp
  go_enter Try.func21, Try.ntmps21
  go_wp2
  go_ret
  refine ⟨rt_int ?_, rfl⟩
  omega

theorem plus_rem (w : World) (a b : Nat) (ha : a < 1000000000) (hb : b < 1000000000) :
    Calls Try.prog 36 #[.int .u32 a, .int .u32 b] w fun e w' => e = .returned (.int .u32 (((a + b) % 998244353 : Nat) : Int)) ∧ w' = w := by
  go_enter Try.func36, Try.ntmps36
  go_wp2
  go_ret
  refine ⟨rt_int ?_, rfl⟩
  omega

theorem minus_rem (w : World) (a b : Nat) (ha : a < 998244353) (hb : b < 998244353) :
    Calls Try.prog 37 #[.int .u32 a, .int .u32 b] w fun e w' => e = .returned (.int .u32 (((a + (998244353 - b)) % 998244353 : Nat) : Int)) ∧ w' = w := by
  obtain ⟨d, hd⟩ : ∃ d, d = 998244353 - b := ⟨_, rfl⟩
  have hc : (998244353 : Int) - (b : Int) = (d : Int) := by omega
  rw [← hd]
  have HD := hid hd
  have hd2 : d ≤ 998244353 := by omega
  clear hd
  go_enter Try.func37, Try.ntmps37
  go_wp2_with fail
  refine (plus_rem _ a d (by omega) (by omega)).mono ?_
  rintro e w1 ⟨rfl, rfl⟩
  go_wp2_with fail
  go_ret
  exact ⟨rfl, rfl⟩

set_option maxHeartbeats 1000000 in
theorem power_rem (w : World) (a n : Nat) (ha : a < 4294967296) (hn : n < 18446744073709551616) :
    Calls Try.prog 19 #[.int .u32 a, .int .u64 n] w fun e w' => e = .returned (.int .u32 (vF (cF a ^ n) : Nat)) ∧ w' = w := by
  go_enter Try.func19, Try.ntmps19
  go_wp2_with fail
  go_loopw [1, 5, 6] (fun nv av sv wr => ∃ k s t : Nat, nv = .int .u64 k ∧ av = .int .u32 t ∧ sv = .int .u32 s ∧ k ≤ n ∧ s < 4294967296 ∧ t < 998244353 ∧ cF t * cF s ^ k = cF a ^ n ∧ wr = w)
    (fun nv _ _ _ => (intOf nv).toNat)
  case atStart =>
    refine ⟨n, a, 1, rfl, rfl, rfl, Nat.le_refl _, ha, by omega, ?_, rfl⟩
    rw [cF_one]; grind
  case round =>
    obtain ⟨k, s, t, rfl, rfl, rfl, hk, hs, ht, hval, rfl⟩ := hrel
    have HV := hid hval
    clear hval
    by_cases h0 : k = 0
    · subst h0
      go_wp2_with fail
      go_ret
      refine ⟨?_, rfl⟩
      have := HV.out
      rw [rpow_zero] at this
      have h2 : cF t = cF a ^ n := by rw [← this]; grind
      rw [← h2, vF_c_lt ht]
      rfl
    · have hk1 : 0 < k := by omega
      have half : cF s ^ k = (if k % 2 = 1 then cF s else 1) * cF (s * s % 998244353) ^ (k / 2) := by
        rw [cF_mod, cF_mul, mul_rpow, ← rpow_add]
        split
        · rename_i h
          have e : k = 1 + (k / 2 + k / 2) := by omega
          rw [show cF s ^ k = cF s ^ (1 + (k / 2 + k / 2)) by rw [← e], rpow_add, rpow_one]
        · rename_i h
          have e : k = k / 2 + k / 2 := by omega
          rw [← e]; grind
      have HH := hid half
      clear half
      have hsm : s * s % 998244353 < 998244353 := Nat.mod_lt _ (by omega)
      have htm : t * s % 998244353 < 998244353 := Nat.mod_lt _ (by omega)
      rcases Nat.mod_two_eq_zero_or_one k with h2 | h2
      · go_wp2_with fail
        refine (times_any _ s s hs hs).mono ?_
        rintro e w1 ⟨rfl, rfl⟩
        go_wp2_with fail
        go_roundw
        case rel =>
          refine ⟨k / 2, s * s % 998244353, t, by go_num, rfl, rfl, by omega, by omega, ht, ?_, trivial⟩
          have := HH.out
          rw [if_neg (by omega)] at this
          rw [← HV.out, this]; grind
        case measure => simp [intOf]; omega
      · go_wp2_with fail
        refine (times_any _ t s (by omega) hs).mono ?_
        rintro e w1 ⟨rfl, rfl⟩
        go_wp2_with fail
        refine (times_any _ s s hs hs).mono ?_
        rintro e w2 ⟨rfl, rfl⟩
        go_wp2_with fail
        go_roundw
        case rel =>
          refine ⟨k / 2, s * s % 998244353, t * s % 998244353, by go_num, rfl, rfl, by omega, by omega, htm, ?_, trivial⟩
          have := HH.out
          rw [if_pos h2] at this
          rw [← HV.out, this, cF_mod, cF_mul]; grind
        case measure => simp [intOf]; omega

/-- What undoes a remainder. -/
def ivF (a : F) : F := a ^ 998244351
theorem power_inv (w : World) (a : Nat) (ha : a < 4294967296) :
    Calls Try.prog 19 #[.int .u32 a, .int .u64 998244351] w fun e w' => e = .returned (.int .u32 (vF (ivF (cF a)) : Nat)) ∧ w' = w :=
  power_rem w a 998244351 ha (by omega)

theorem inverse_rem (w : World) (a : Nat) (ha : a < 4294967296) :
    Calls Try.prog 20 #[.int .u32 a] w fun e w' => e = .returned (.int .u32 (vF (ivF (cF a)) : Nat)) ∧ w' = w := by
  go_enter Try.func20, Try.ntmps20
  go_wp2_with fail
  refine (power_inv _ a ha).mono ?_
  rintro e w1 ⟨rfl, rfl⟩
  go_wp2_with fail
  go_ret
  exact ⟨rfl, rfl⟩

/-- A power, of an inverse where the exponent is below nought. -/
def powF (a : F) (n : Int) : F := if n < 0 then (ivF a) ^ n.natAbs else a ^ n.natAbs

theorem Pow_any (w : World) (a : Nat) (n : Int) (ha : a < 4294967296) (h1 : -9223372036854775808 ≤ n) (h2 : n ≤ 9223372036854775807) :
    Calls Try.prog 10 #[.int .u32 a, .int .i64 n] w fun e w' => e = .returned (.int .u32 (vF (powF (cF a) n) : Nat)) ∧ w' = w := by
  have hl : vF (ivF (cF a)) < 998244353 := vF_lt _
  obtain ⟨k, hk⟩ : ∃ k, k = n.natAbs := ⟨_, rfl⟩
  unfold powF
  rw [← hk]
  by_cases h0 : n < 0
  · rw [if_pos h0]
    have HK : Hid (IntKind.u64.wrap (wrap64 (-n)) = (k : Int)) := hid (by rw [IntKind.wrap_u64]; unfold wrap64; omega)
    go_enter Try.func10, Try.ntmps10
    go_wp2_with fail
    refine (inverse_rem _ a ha).mono ?_
    rintro e w1 ⟨rfl, rfl⟩
    go_wp2_with fail
    rw [HK.out]
    refine (power_rem _ (vF (ivF (cF a))) k (by omega) (by omega)).mono ?_
    rintro e w2 ⟨rfl, rfl⟩
    rw [cF_v]
    go_wp2_with fail
    go_ret
    refine ⟨?_, rfl⟩
    exact rt_int (by rw [hk])
  · rw [if_neg h0]
    have hn : n = (k : Int) := by omega
    clear hk
    subst hn
    go_enter Try.func10, Try.ntmps10
    go_wp2_with fail
    refine (power_rem _ a k ha (by omega)).mono ?_
    rintro e w1 ⟨rfl, rfl⟩
    go_wp2_with fail
    go_ret
    exact ⟨rfl, rfl⟩

end Go.Proofs.Ytimlpehgafjkpaa
