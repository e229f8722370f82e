/- The walk of NttPowers. -/
import Derived.Test.YtimlpehgafjkpaaXNT20
namespace Go.Proofs.Ytimlpehgafjkpaa
open Go.RowKit Go.Maps
set_option linter.unusedVariables false
set_option linter.unusedSimpArgs false

theorem tmod_gt (a b : Int) (hb : 0 < b) : -b < a.tmod b := by
  by_cases h : 0 ≤ a
  · have := Int.tmod_nonneg b h; omega
  · have e : a = -(-a) := by omega
    rw [e, Int.neg_tmod]
    have := Int.tmod_lt_of_pos (-a) hb
    omega
theorem pow_undo {a : Nat} (h : a % 998244353 ≠ 0) (m : Int) : powF (cF a) (-m) * powF (cF a) m = 1 := by
  have hi := iv_mul h
  have key : ∀ k : Nat, ivF (cF a) ^ k * cF a ^ k = 1 := fun k => by rw [← mul_rpow, hi, one_rpow]
  unfold powF
  by_cases h0 : m = 0
  · subst h0
    rw [if_neg (by omega), if_neg (by omega)]
    show cF a ^ 0 * cF a ^ 0 = 1
    rw [rpow_zero]; grind
  · by_cases h1 : m < 0
    · rw [if_neg (by omega), if_pos h1, Int.natAbs_neg]
      have := key m.natAbs
      generalize ivF (cF a) ^ m.natAbs = x at *
      generalize cF a ^ m.natAbs = y at *
      grind
    · rw [if_pos (by omega), if_neg h1, Int.natAbs_neg]
      exact key m.natAbs
theorem zero_rpow (k : Nat) (h : 0 < k) : (0 : F) ^ k = 0 := by
  obtain ⟨j, rfl⟩ : ∃ j, k = j + 1 := ⟨k - 1, by omega⟩
  rw [rpow_succ]; grind
theorem pow_nought {a : Nat} (h : a % 998244353 = 0) (m : Int) : powF (cF a) (-m) * powF (cF a) m = if m = 0 then 1 else 0 := by
  rw [cF_eq_zero.2 h]
  unfold powF
  by_cases h0 : m = 0
  · subst h0
    rw [if_neg (by omega), if_neg (by omega), if_pos rfl]
    show (0 : F) ^ 0 * 0 ^ 0 = 1
    rw [rpow_zero]; grind
  · rw [if_neg h0]
    by_cases h1 : m < 0
    · rw [if_neg (by omega), zero_rpow _ (by omega)]; grind
    · rw [if_neg h1, zero_rpow m.natAbs (by omega)]; grind
theorem rem_lt {x y : F} : vF x * vF y % 998244353 = vF (x * y) := by
  refine vF_of (Nat.mod_lt _ (by omega)) ?_
  rw [cF_mod, cF_mul, cF_v, cF_v]

set_option maxHeartbeats 4000000 in
theorem nttPowers_walk {w : World} {a0 n0 m0 : Int} (ha : (Lit.int .u32 a0).wf = true) (hn : (Lit.int .i64 n0).wf = true) (hm : (Lit.int .i64 m0).wf = true) :
    Calls Try.prog 3 #[.int .u32 a0, .int .i64 n0, .int .i64 m0] w fun e w' => e = .returned (.bool true) ∧ Below w.heap.size w w' := by
  have b0 := bounds_u32 ha
  obtain ⟨a, rfl⟩ : ∃ a : Nat, a0 = (a : Int) := ⟨a0.toNat, by omega⟩
  clear ha hn hm
  obtain ⟨n, hn⟩ : ∃ n, n = n0.tmod 1099511627776 := ⟨_, rfl⟩
  obtain ⟨m, hm⟩ : ∃ m, m = m0.tmod 1000 := ⟨_, rfl⟩
  have hn1 : -1099511627776 < n ∧ n < 1099511627776 := by
    rw [hn]
    have h1 := Int.tmod_lt_of_pos n0 (show (0 : Int) < 1099511627776 by omega)
    have h2 := tmod_gt n0 1099511627776 (by omega)
    exact ⟨h2, h1⟩
  have hm1 : -1000 < m ∧ m < 1000 := by
    rw [hm]
    have h1 := Int.tmod_lt_of_pos m0 (show (0 : Int) < 1000 by omega)
    have h2 := tmod_gt m0 1000 (by omega)
    exact ⟨h2, h1⟩
  have hn2 : n0.tmod 1099511627776 = n := hn.symm
  have hm2 : m0.tmod 1000 = m := hm.symm
  have hal : a < 4294967296 := by omega
  obtain ⟨p, hp⟩ : ∃ p, p = vF (powF (cF a) n) := ⟨_, rfl⟩
  obtain ⟨q, hq⟩ : ∃ q, q = vF (powF (cF a) m) := ⟨_, rfl⟩
  obtain ⟨r, hr⟩ : ∃ r, r = vF (powF (cF a) (-m)) := ⟨_, rfl⟩
  have hql : q < 998244353 := by rw [hq]; exact vF_lt _
  have hrl : r < 998244353 := by rw [hr]; exact vF_lt _
  have c1 : Hid (∀ w', Calls Try.prog 10 #[.int .u32 (a : Int), .int .i64 n] w' fun e w'' => e = .returned (.int .u32 (p : Int)) ∧ w'' = w') := hid fun w' => by rw [hp]; exact Pow_any w' a n hal (by omega) (by omega)
  have c2 : Hid (∀ w', Calls Try.prog 11 #[.int .u32 (a : Int), .int .i64 n] w' fun e w'' => e = .returned (.int .u32 (p : Int)) ∧ w'' = w') := hid fun w' => by rw [hp]; exact Pow8_any w' a n hal (by omega) (by omega)
  have c3 : Hid (∀ w', Calls Try.prog 10 #[.int .u32 (a : Int), .int .i64 m] w' fun e w'' => e = .returned (.int .u32 (q : Int)) ∧ w'' = w') := hid fun w' => by rw [hq]; exact Pow_any w' a m hal (by omega) (by omega)
  have c4 : Hid (∀ w', Calls Try.prog 11 #[.int .u32 (a : Int), .int .i64 m] w' fun e w'' => e = .returned (.int .u32 (q : Int)) ∧ w'' = w') := hid fun w' => by rw [hq]; exact Pow8_any w' a m hal (by omega) (by omega)
  have c5 : Hid (∀ w', Calls Try.prog 10 #[.int .u32 (a : Int), .int .i64 (-m)] w' fun e w'' => e = .returned (.int .u32 (r : Int)) ∧ w'' = w') := hid fun w' => by rw [hr]; exact Pow_any w' a (-m) hal (by omega) (by omega)
  have hx : r * q % 998244353 = vF (powF (cF a) (-m) * powF (cF a) m) := by rw [hr, hq]; exact rem_lt
  obtain ⟨x, hxx⟩ : ∃ x, x = r * q % 998244353 := ⟨_, rfl⟩
  rw [← hxx] at hx
  have hrq : r * q < 18446744073709551616 := prod_lt (by omega) (by omega)
  obtain ⟨y, hy⟩ : ∃ y, y = r * q := ⟨_, rfl⟩
  have hyi : (r : Int) * (q : Int) = (y : Int) := by rw [hy]; simp
  rw [← hy] at hxx hrq
  have hyx : (y : Int).tmod 998244353 = (x : Int) := by rw [Int.tmod_eq_emod_of_nonneg (by omega)]; omega
  have hyx2 : (y : Int) % 998244353 = (x : Int) := by omega
  have hfin : Hid (if a % 998244353 = 0 then (x = if m = 0 then 1 else 0) else x = 1) := by
    refine hid ?_
    rw [hx]
    split
    · rename_i h
      rw [pow_nought h m]
      split <;> rfl
    · rename_i h
      rw [pow_undo h m]; rfl
  have hneg : wrap64 (0 - m) = -m := by unfold wrap64; omega
  clear hp hq hr hx hxx hy hn hm
  go_enter Try.func3, Try.ntmps3
  go_wp2_with fail
  refine (known8_any _).mono ?_
  rintro e w1 ⟨rfl, hf⟩
  have HF := hid hf
  clear hf
  go_wp2_with fail
  obtain ⟨a1, ha1⟩ : ∃ a1, a1 = a % 998244353 := ⟨_, rfl⟩
  have hai : (a : Int) % 998244353 = (a1 : Int) := by omega
  rw [← ha1] at hfin
  clear ha1
  by_cases hA : a1 = 0
  · subst hA
    by_cases hM : m = 0
    · subst hM
      have hx1 := hfin.out
      rw [if_pos rfl, if_pos rfl] at hx1
      subst hx1
      refine (c1.out _).mono ?_
      rintro e w2 ⟨rfl, hww⟩
      rw [hww]
      clear hww w2
      go_wp2_with fail
      refine (c2.out _).mono ?_
      rintro e w2 ⟨rfl, hww⟩
      rw [hww]
      clear hww w2
      go_wp2_with fail
      refine (c3.out _).mono ?_
      rintro e w2 ⟨rfl, hww⟩
      rw [hww]
      clear hww w2
      go_wp2_with fail
      refine (c4.out _).mono ?_
      rintro e w2 ⟨rfl, hww⟩
      rw [hww]
      clear hww w2
      go_wp2_with fail
      refine (c5.out _).mono ?_
      rintro e w2 ⟨rfl, hww⟩
      rw [hww]
      clear hww w2
      go_wp2_with fail
      refine (c3.out _).mono ?_
      rintro e w2 ⟨rfl, hww⟩
      rw [hww]
      clear hww w2
      go_wp2_with fail
      go_ret
      exact ⟨rfl, HF.out⟩
    · have hx1 := hfin.out
      rw [if_pos rfl, if_neg hM] at hx1
      subst hx1
      have i1 : (m == 0) = false := beq_eq_false_iff_ne.2 hM
      refine (c1.out _).mono ?_
      rintro e w2 ⟨rfl, hww⟩
      rw [hww]
      clear hww w2
      go_wp2_with fail
      refine (c2.out _).mono ?_
      rintro e w2 ⟨rfl, hww⟩
      rw [hww]
      clear hww w2
      go_wp2_with fail
      refine (c3.out _).mono ?_
      rintro e w2 ⟨rfl, hww⟩
      rw [hww]
      clear hww w2
      go_wp2_with fail
      refine (c4.out _).mono ?_
      rintro e w2 ⟨rfl, hww⟩
      rw [hww]
      clear hww w2
      go_wp2_with fail
      refine (c5.out _).mono ?_
      rintro e w2 ⟨rfl, hww⟩
      rw [hww]
      clear hww w2
      go_wp2_with fail
      refine (c3.out _).mono ?_
      rintro e w2 ⟨rfl, hww⟩
      rw [hww]
      clear hww w2
      go_wp2_with fail
      go_ret
      exact ⟨rfl, HF.out⟩
  · have hx1 := hfin.out
    rw [if_neg hA] at hx1
    subst hx1
    have i1 : ((a1 : Int) == 0) = false := beq_eq_false_iff_ne.2 (by omega)
    have i2 : ((a1 : Int) != 0) = true := bne_iff_ne.2 (by omega)
    refine (c1.out _).mono ?_
    rintro e w2 ⟨rfl, hww⟩
    rw [hww]
    clear hww w2
    go_wp2_with fail
    refine (c2.out _).mono ?_
    rintro e w2 ⟨rfl, hww⟩
    rw [hww]
    clear hww w2
    go_wp2_with fail
    refine (c3.out _).mono ?_
    rintro e w2 ⟨rfl, hww⟩
    rw [hww]
    clear hww w2
    go_wp2_with fail
    refine (c4.out _).mono ?_
    rintro e w2 ⟨rfl, hww⟩
    rw [hww]
    clear hww w2
    go_wp2_with fail
    refine (c5.out _).mono ?_
    rintro e w2 ⟨rfl, hww⟩
    rw [hww]
    clear hww w2
    go_wp2_with fail
    refine (c3.out _).mono ?_
    rintro e w2 ⟨rfl, hww⟩
    rw [hww]
    clear hww w2
    go_wp2_with fail
    go_ret
    exact ⟨rfl, HF.out⟩
end Go.Proofs.Ytimlpehgafjkpaa
