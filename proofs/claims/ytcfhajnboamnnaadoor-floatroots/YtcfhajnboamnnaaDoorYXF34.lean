/- The second telling of floats: up, pack. -/
/- The second telling's Next. -/
/- Floats, mathematics: a float's number is rounded to it again. -/
import Derived.Test.YtcfhajnboamnnaaDoorYXFM
import Derived.Test.YtcfhajnboamnnaaDoorXFP
namespace Go.Proofs.YtcfhajnboamnnaaDoor
open Go.RowKit
set_option linter.unusedVariables false
set_option linter.unusedSimpArgs false

set_option maxHeartbeats 4000000 in
set_option maxRecDepth 20000 in
theorem up3_any {w : World} (s : Bool) (o : Int) (odd : Bool) (m : Int) : Calls Tryd.prog 64 #[.bool s, .int .i64 o, .bool odd, .int .i64 m] w fun e w' => e = .returned (.bool (upR m s o odd)) ∧ w' = w := by
  by_cases c : m < 1 ∨ 4 < m
  · have i1 : (m == 1) = false := by have : m ≠ 1 := (by omega); simpa using this
    have i2 : (m == 2) = false := by have : m ≠ 2 := (by omega); simpa using this
    have i3 : (m == 3) = false := by have : m ≠ 3 := (by omega); simpa using this
    have i4 : (m == 4) = false := by have : m ≠ 4 := (by omega); simpa using this
    have e : upR m s o odd = (decide (0 < o) || decide (o = 0) && odd) := by
      unfold upR; rw [if_neg (by omega), if_neg (by omega), if_neg (by omega), if_neg (by omega)]
    rw [e]
    clear c e
    by_cases p : 0 < o
    · rw [decide_eq_true p, Bool.true_or]
      go_enter Tryd.func64, Tryd.ntmps64
      go_wp2
      go_ret
      first | exact ⟨rfl, rfl⟩ | exact ⟨ret_bool (by simp), rfl⟩
    · by_cases q : o = 0
      · subst q
        rw [decide_eq_false (by omega), decide_eq_true rfl, Bool.true_and, Bool.false_or]
        clear p
        go_enter Tryd.func64, Tryd.ntmps64
        go_wp2
        go_ret
        first | exact ⟨rfl, rfl⟩ | exact ⟨ret_bool (by simp), rfl⟩
      · rw [decide_eq_false p, decide_eq_false q, Bool.false_and, Bool.false_or]
        have q' : (o == 0) = false := by simpa using q
        go_enter Tryd.func64, Tryd.ntmps64
        go_wp2
        go_ret
        first | exact ⟨rfl, rfl⟩ | exact ⟨ret_bool (by simp), rfl⟩
  · obtain rfl | rfl | rfl | rfl : m = 1 ∨ m = 2 ∨ m = 3 ∨ m = 4 := by omega
    · go_enter Tryd.func64, Tryd.ntmps64
      go_wp2
      go_ret
      first | exact ⟨rfl, rfl⟩ | exact ⟨ret_bool (by simp), rfl⟩
    · go_enter Tryd.func64, Tryd.ntmps64
      go_wp2
      go_ret
      first | exact ⟨rfl, rfl⟩ | exact ⟨ret_bool (by simp), rfl⟩
    · go_enter Tryd.func64, Tryd.ntmps64
      go_wp2
      go_ret
      first | exact ⟨rfl, rfl⟩ | exact ⟨ret_bool (by simp), rfl⟩
    · by_cases p : 0 ≤ o
      · have e : upR 4 s o odd = true := decide_eq_true p
        rw [e]
        go_enter Tryd.func64, Tryd.ntmps64
        go_wp2
        go_ret
        first | exact ⟨rfl, rfl⟩ | exact ⟨ret_bool (by simp), rfl⟩
      · have e : upR 4 s o odd = false := decide_eq_false p
        rw [e]
        go_enter Tryd.func64, Tryd.ntmps64
        go_wp2
        go_ret
        first | exact ⟨rfl, rfl⟩ | exact ⟨ret_bool (by simp), rfl⟩

/-- Is the greatest one told? -/
def bigR (m : Int) (s : Bool) : Bool := decide (m = 1) || decide (m = 2) && !s || decide (m = 3) && s
theorem bigR_grt (m : Int) (s : Bool) : 9218868437227405311 + grt m s 7 = if bigR m s then 9218868437227405311 else 9218868437227405312 := by
  unfold bigR grt rAbove rBelow
  by_cases m1 : m = 1
  · subst m1; cases s <;> rfl
  · by_cases m2 : m = 2
    · subst m2; cases s <;> rfl
    · by_cases m3 : m = 3
      · subst m3; cases s <;> rfl
      · by_cases m4 : m = 4
        · subst m4; cases s <;> rfl
        · simp only [if_neg m1, if_neg m2, if_neg m3, if_neg m4, decide_eq_false m1, decide_eq_false m2, decide_eq_false m3]
          cases s <;> rfl

set_option maxHeartbeats 8000000 in
set_option maxRecDepth 20000 in
theorem pack3_over {w : World} (s : Bool) (v : Nat) (u : Int) (m : Int) (fl : Nat) (hv : v < 9007199254740992) (h0 : 4503599627370496 ≤ v) (hu1 : 971 < u) (hu2 : u ≤ 100000) :
    Calls Tryd.prog 65 #[.bool s, .int .u64 v, .int .i64 u, .int .i64 m, .int .i64 fl] w fun e w' => e = .returned (.tuple #[.int .u64 ((sgn s + (if bigR m s then 9218868437227405311 else 9218868437227405312) : Nat) : Int), .int .i64 5]) ∧ w' = w := by
  have v1 : ((v : Int) == 9007199254740992) = false := by have : (v : Int) ≠ 9007199254740992 := (by omega); simpa using this
  have v2 : ¬ (v : Int) < 4503599627370496 := by omega
  have u1 : IntKind.i64.wrap (u + 52) = u + 52 := by simp [IntKind.wrap, IntKind.bits, IntKind.signed]; omega
  have u2 : (1023 : Int) < u + 52 := by omega
  clear hv h0 hu1 hu2
  have hs1 := fun w => signed3_any (w := w) s 9218868437227405311 (by omega)
  have hs2 := fun w => signed3_any (w := w) s 9218868437227405312 (by omega)
  by_cases d : m < 1 ∨ 3 < m
  · have i1 : (m == 1) = false := by have : m ≠ 1 := (by omega); simpa using this
    have i2 : (m == 2) = false := by have : m ≠ 2 := (by omega); simpa using this
    have i3 : (m == 3) = false := by have : m ≠ 3 := (by omega); simpa using this
    have e : bigR m s = false := by
      unfold bigR; rw [decide_eq_false (show ¬ m = 1 by omega), decide_eq_false (show ¬ m = 2 by omega), decide_eq_false (show ¬ m = 3 by omega)]; cases s <;> rfl
    rw [e]
    clear e d
    go_enter Tryd.func65, Tryd.ntmps65
    go_wp2_with fail
    refine (hs2 _).mono ?_
    rintro e wq ⟨rfl, rfl⟩
    go_wp2
    go_ret2
    exact ⟨rfl, rfl⟩
  · obtain rfl | rfl | rfl : m = 1 ∨ m = 2 ∨ m = 3 := by omega
    all_goals cases s
    · go_enter Tryd.func65, Tryd.ntmps65
      go_wp2_with fail
      refine (hs1 _).mono ?_
      rintro e wq ⟨rfl, rfl⟩
      go_wp2
      go_ret2
      exact ⟨rfl, rfl⟩
    · go_enter Tryd.func65, Tryd.ntmps65
      go_wp2_with fail
      refine (hs1 _).mono ?_
      rintro e wq ⟨rfl, rfl⟩
      go_wp2
      go_ret2
      exact ⟨rfl, rfl⟩
    · go_enter Tryd.func65, Tryd.ntmps65
      go_wp2_with fail
      refine (hs1 _).mono ?_
      rintro e wq ⟨rfl, rfl⟩
      go_wp2
      go_ret2
      exact ⟨rfl, rfl⟩
    · go_enter Tryd.func65, Tryd.ntmps65
      go_wp2_with fail
      refine (hs2 _).mono ?_
      rintro e wq ⟨rfl, rfl⟩
      go_wp2
      go_ret2
      exact ⟨rfl, rfl⟩
    · go_enter Tryd.func65, Tryd.ntmps65
      go_wp2_with fail
      refine (hs2 _).mono ?_
      rintro e wq ⟨rfl, rfl⟩
      go_wp2
      go_ret2
      exact ⟨rfl, rfl⟩
    · go_enter Tryd.func65, Tryd.ntmps65
      go_wp2_with fail
      refine (hs1 _).mono ?_
      rintro e wq ⟨rfl, rfl⟩
      go_wp2
      go_ret2
      exact ⟨rfl, rfl⟩

set_option maxHeartbeats 8000000 in
set_option maxRecDepth 20000 in
theorem pack3_over' {w : World} (s : Bool) (u : Int) (m : Int) (fl : Nat) (hu1 : 971 < u + 1) (hu2 : u ≤ 100000) :
    Calls Tryd.prog 65 #[.bool s, .int .u64 9007199254740992, .int .i64 u, .int .i64 m, .int .i64 fl] w fun e w' => e = .returned (.tuple #[.int .u64 ((sgn s + (if bigR m s then 9218868437227405311 else 9218868437227405312) : Nat) : Int), .int .i64 5]) ∧ w' = w := by
  have u0 : IntKind.i64.wrap (u + 1) = u + 1 := by simp [IntKind.wrap, IntKind.bits, IntKind.signed]; omega
  have u1 : IntKind.i64.wrap (u + 1 + 52) = u + 1 + 52 := by simp [IntKind.wrap, IntKind.bits, IntKind.signed]; omega
  have u2 : (1023 : Int) < u + 1 + 52 := by omega
  clear hu1 hu2
  have hs1 := fun w => signed3_any (w := w) s 9218868437227405311 (by omega)
  have hs2 := fun w => signed3_any (w := w) s 9218868437227405312 (by omega)
  by_cases d : m < 1 ∨ 3 < m
  · have i1 : (m == 1) = false := by have : m ≠ 1 := (by omega); simpa using this
    have i2 : (m == 2) = false := by have : m ≠ 2 := (by omega); simpa using this
    have i3 : (m == 3) = false := by have : m ≠ 3 := (by omega); simpa using this
    have e : bigR m s = false := by
      unfold bigR; rw [decide_eq_false (show ¬ m = 1 by omega), decide_eq_false (show ¬ m = 2 by omega), decide_eq_false (show ¬ m = 3 by omega)]; cases s <;> rfl
    rw [e]
    clear e d
    go_enter Tryd.func65, Tryd.ntmps65
    go_wp2_with fail
    refine (hs2 _).mono ?_
    rintro e wq ⟨rfl, rfl⟩
    go_wp2
    go_ret2
    exact ⟨rfl, rfl⟩
  · obtain rfl | rfl | rfl : m = 1 ∨ m = 2 ∨ m = 3 := by omega
    all_goals cases s
    · go_enter Tryd.func65, Tryd.ntmps65
      go_wp2_with fail
      refine (hs1 _).mono ?_
      rintro e wq ⟨rfl, rfl⟩
      go_wp2
      go_ret2
      exact ⟨rfl, rfl⟩
    · go_enter Tryd.func65, Tryd.ntmps65
      go_wp2_with fail
      refine (hs1 _).mono ?_
      rintro e wq ⟨rfl, rfl⟩
      go_wp2
      go_ret2
      exact ⟨rfl, rfl⟩
    · go_enter Tryd.func65, Tryd.ntmps65
      go_wp2_with fail
      refine (hs1 _).mono ?_
      rintro e wq ⟨rfl, rfl⟩
      go_wp2
      go_ret2
      exact ⟨rfl, rfl⟩
    · go_enter Tryd.func65, Tryd.ntmps65
      go_wp2_with fail
      refine (hs2 _).mono ?_
      rintro e wq ⟨rfl, rfl⟩
      go_wp2
      go_ret2
      exact ⟨rfl, rfl⟩
    · go_enter Tryd.func65, Tryd.ntmps65
      go_wp2_with fail
      refine (hs2 _).mono ?_
      rintro e wq ⟨rfl, rfl⟩
      go_wp2
      go_ret2
      exact ⟨rfl, rfl⟩
    · go_enter Tryd.func65, Tryd.ntmps65
      go_wp2_with fail
      refine (hs1 _).mono ?_
      rintro e wq ⟨rfl, rfl⟩
      go_wp2
      go_ret2
      exact ⟨rfl, rfl⟩

set_option maxHeartbeats 8000000 in
set_option maxRecDepth 20000 in
theorem pack3_low {w : World} (s : Bool) (v : Nat) (u : Int) (m : Int) (fl : Nat) (h0 : v < 4503599627370496) :
    Calls Tryd.prog 65 #[.bool s, .int .u64 v, .int .i64 u, .int .i64 m, .int .i64 fl] w fun e w' => e = .returned (.tuple #[.int .u64 ((sgn s + v : Nat) : Int), .int .i64 fl]) ∧ w' = w := by
  have v1 : ((v : Int) == 9007199254740992) = false := by have : (v : Int) ≠ 9007199254740992 := (by omega); simpa using this
  have v2 : (v : Int) < 4503599627370496 := by omega
  go_enter Tryd.func65, Tryd.ntmps65
  go_wp2_with fail
  refine (signed3_any s v (by omega)).mono ?_
  rintro e wq ⟨rfl, rfl⟩
  go_wp2
  go_ret2
  exact ⟨rfl, rfl⟩

theorem lay_bits (u : Int) (v : Nat) (h1 : -1074 ≤ u) (h2 : u ≤ 971) : (u + 1075).toNat * 4503599627370496 + v % 4503599627370496 < 9223372036854775808 := by omega
theorem or_eq {a b c : Nat} (ha : a < 18446744073709551616) (hb : b < 18446744073709551616) (h : a ||| b = c) : bits .or .u64 (a : Int) (b : Int) = (c : Int) := by rw [bits_or_u64_nat a b ha hb, h]
theorem lay_or {x r : Nat} (hx : x < 2047) (hr : r < 4503599627370496) : ∃ g z : Nat, IntKind.u64.wrap ((x : Int) * 4503599627370496) = (g : Int) ∧ bits .or .u64 (g : Int) (r : Int) = (z : Int) ∧ z = x * 4503599627370496 + r := by
  obtain ⟨g, hg⟩ : ∃ g : Nat, g = x * 4503599627370496 := ⟨_, rfl⟩
  have hgl : g < 18446744073709551616 := by omega
  have e1 : (x : Int) * 4503599627370496 = (g : Int) := by omega
  have e2 : IntKind.u64.wrap (g : Int) = (g : Int) := by
    simp [IntKind.wrap, IntKind.bits, IntKind.signed]; omega
  refine ⟨g, g + r, by rw [e1, e2], or_eq hgl (by omega) ?_, by rw [hg]⟩
  have := or_add x r 52 hr
  rw [show (2 : Nat) ^ 52 = 4503599627370496 from rfl, ← hg] at this
  exact this

set_option maxHeartbeats 8000000 in
set_option maxRecDepth 20000 in
theorem pack3_fin {w : World} (s : Bool) (v : Nat) (u : Int) (m : Int) (fl : Nat) (hv : v < 9007199254740992) (h0 : 4503599627370496 ≤ v) (hu1 : -1074 ≤ u) (hu2 : u ≤ 971) :
    Calls Tryd.prog 65 #[.bool s, .int .u64 v, .int .i64 u, .int .i64 m, .int .i64 fl] w fun e w' => e = .returned (.tuple #[.int .u64 ((sgn s + ((u + 1075).toNat * 4503599627370496 + v % 4503599627370496) : Nat) : Int), .int .i64 fl]) ∧ w' = w := by
  have v1 : ((v : Int) == 9007199254740992) = false := by have : (v : Int) ≠ 9007199254740992 := (by omega); simpa using this
  have v2 : ¬ (v : Int) < 4503599627370496 := by omega
  have u1 : IntKind.i64.wrap (u + 52) = u + 52 := by simp [IntKind.wrap, IntKind.bits, IntKind.signed]; omega
  have u2 : ¬ (1023 : Int) < u + 52 := by omega
  have hz := lay_bits u v hu1 hu2
  obtain ⟨x, hx⟩ : ∃ x : Nat, x = (u + 1075).toNat := ⟨_, rfl⟩
  have u3 : IntKind.i64.wrap (u + 52 + 1023) = (x : Int) := by simp [IntKind.wrap, IntKind.bits, IntKind.signed]; omega
  have u4 : IntKind.u64.wrap (x : Int) = (x : Int) := by simp [IntKind.wrap, IntKind.bits, IntKind.signed]; omega
  have a1 := and_frac v (by omega)
  obtain ⟨g, z, u5, a2, hzz⟩ := lay_or (x := x) (r := v % 4503599627370496) (by omega) (by omega)
  rw [← hx, ← hzz] at hz ⊢
  generalize v % 4503599627370496 = r at *
  clear hx hu1 hu2 h0 hv hzz
  go_enter Tryd.func65, Tryd.ntmps65
  go_wp2_with fail
  refine (signed3_any s _ hz).mono ?_
  rintro e wq ⟨rfl, rfl⟩
  go_wp2
  go_ret2
  exact ⟨rfl, rfl⟩

set_option maxHeartbeats 8000000 in
set_option maxRecDepth 20000 in
theorem pack3_fin' {w : World} (s : Bool) (u : Int) (m : Int) (fl : Nat) (hu1 : -1074 ≤ u) (hu2 : u + 1 ≤ 971) :
    Calls Tryd.prog 65 #[.bool s, .int .u64 9007199254740992, .int .i64 u, .int .i64 m, .int .i64 fl] w fun e w' => e = .returned (.tuple #[.int .u64 ((sgn s + ((u + 1 + 1075).toNat * 4503599627370496 + 4503599627370496 % 4503599627370496) : Nat) : Int), .int .i64 fl]) ∧ w' = w := by
  have u0 : IntKind.i64.wrap (u + 1) = u + 1 := by simp [IntKind.wrap, IntKind.bits, IntKind.signed]; omega
  have u1 : IntKind.i64.wrap (u + 1 + 52) = u + 1 + 52 := by simp [IntKind.wrap, IntKind.bits, IntKind.signed]; omega
  have u2 : ¬ (1023 : Int) < u + 1 + 52 := by omega
  have hz := lay_bits (u + 1) 0 (by omega) hu2
  obtain ⟨x, hx⟩ : ∃ x : Nat, x = (u + 1 + 1075).toNat := ⟨_, rfl⟩
  have u3 : IntKind.i64.wrap (u + 1 + 52 + 1023) = (x : Int) := by simp [IntKind.wrap, IntKind.bits, IntKind.signed]; omega
  have u4 : IntKind.u64.wrap (x : Int) = (x : Int) := by simp [IntKind.wrap, IntKind.bits, IntKind.signed]; omega
  have a1 : bits .and .u64 4503599627370496 4503599627370495 = 0 := by decide +kernel
  obtain ⟨g, z, u5, a2, hzz⟩ := lay_or (x := x) (r := 0) (by omega) (by omega)
  have a2' : bits .or .u64 (g : Int) 0 = (z : Int) := a2
  clear a2
  have e0 : (4503599627370496 : Nat) % 4503599627370496 = 0 := by decide
  have e1 : (0 : Nat) % 4503599627370496 = 0 := by decide
  rw [e1] at hz
  rw [e0]
  rw [← hx, ← hzz] at hz ⊢
  clear hx hu1 hu2 hzz e0 e1
  go_enter Tryd.func65, Tryd.ntmps65
  go_wp2_with fail
  refine (signed3_any s _ hz).mono ?_
  rintro e wq ⟨rfl, rfl⟩
  go_wp2
  go_ret2
  exact ⟨rfl, rfl⟩

theorem pack3_any {w : World} (s : Bool) (v : Nat) (u : Int) (m : Int) (fl : Nat) (hv : v ≤ 9007199254740992) (hu1 : -1074 ≤ u) (hu2 : u ≤ 100000) :
    Calls Tryd.prog 65 #[.bool s, .int .u64 v, .int .i64 u, .int .i64 m, .int .i64 fl] w fun e w' => e = .returned (.tuple #[.int .u64 ((packR m s v u fl).1 : Nat), .int .i64 ((packR m s v u fl).2 : Nat)]) ∧ w' = w := by
  unfold packR packT
  rw [bigR_grt]
  by_cases c1 : v = 9007199254740992
  · subst c1
    rw [if_pos rfl, if_neg (by omega)]
    by_cases c2 : 971 < u + 1
    · rw [if_pos c2]
      exact pack3_over' s u m fl c2 hu2
    · rw [if_neg c2]
      exact pack3_fin' s u m fl hu1 (by omega)
  · rw [if_neg c1]
    by_cases c0 : v < 4503599627370496
    · rw [if_pos c0]
      exact pack3_low s v u m fl c0
    · rw [if_neg c0]
      by_cases c2 : 971 < u
      · rw [if_pos c2]
        exact pack3_over s v u m fl (by omega) (by omega) c2 hu2
      · rw [if_neg c2]
        exact pack3_fin s v u m fl (by omega) (by omega) hu1 (by omega)
end Go.Proofs.YtcfhajnboamnnaaDoor

namespace Go.Proofs.YtcfhajnboamnnaaDoor
open Go.RowKit
set_option linter.unusedVariables false
set_option linter.unusedSimpArgs false

set_option maxHeartbeats 4000000 in
theorem next3_any {w : World} (f : Nat) (up : Bool) (hf : f < 18446744073709551616) : Calls Tryd.prog 20 #[.int .u64 f, .bool up] w fun e w' => e = .returned (.int .u64 (nxF f up : Nat)) ∧ w' = w := by
  have hz : fsz f = f % 9223372036854775808 := rfl
  have n1 := fun w => none3_any (w := w) f hf
  have n2 := fun w => nought3_any (w := w) f hf
  have n3 := fun w => endless3_any (w := w) f hf
  have n4 := fun w => minus3_any (w := w) f hf
  have n5 := fun w => signed3_any (w := w) (!up) 1 (by omega)
  unfold nxF
  by_cases c : isNan f = true
  · rw [if_pos c]
    simp only [c] at n1
    clear c hz n2 n3 n4 n5
    go_enter Tryd.func20, Tryd.ntmps20
    go_wp2_with fail
    refine (n1 _).mono ?_
    rintro e wq ⟨rfl, rfl⟩
    go_wp2
    go_ret
    exact ⟨rfl, rfl⟩
  · rw [if_neg c]
    have c' : isNan f = false := by simpa using c
    have hle : fsz f ≤ 9218868437227405312 := by
      have : ¬ 9218868437227405312 < fsz f := fun h => c (decide_eq_true h)
      omega
    simp only [c'] at n1
    clear c c'
    by_cases d : fsz f = 0
    · rw [if_pos d]
      simp only [decide_eq_true d] at n2
      clear d hz hle n3 n4
      cases up
      · simp only [sgn, Bool.not_false, if_true] at n5
        go_enter Tryd.func20, Tryd.ntmps20
        go_wp2_with fail
        refine (n1 _).mono ?_
        rintro e wq ⟨rfl, rfl⟩
        go_wp2_with fail
        refine (n2 _).mono ?_
        rintro e wq ⟨rfl, rfl⟩
        go_wp2_with fail
        refine (n5 _).mono ?_
        rintro e wq ⟨rfl, rfl⟩
        go_wp2
        go_ret
        exact ⟨ret_int (by first | rfl | simp), rfl⟩
      · simp only [sgn, Bool.not_true, Bool.false_eq_true, if_false] at n5
        go_enter Tryd.func20, Tryd.ntmps20
        go_wp2_with fail
        refine (n1 _).mono ?_
        rintro e wq ⟨rfl, rfl⟩
        go_wp2_with fail
        refine (n2 _).mono ?_
        rintro e wq ⟨rfl, rfl⟩
        go_wp2_with fail
        refine (n5 _).mono ?_
        rintro e wq ⟨rfl, rfl⟩
        go_wp2
        go_ret
        exact ⟨ret_int (by first | rfl | simp), rfl⟩
    · rw [if_neg d]
      simp only [decide_eq_false d] at n2
      have hw1 := nx_one d hz hf
      by_cases s : fneg f = up
      · rw [if_pos s]
        have i2 : (fneg f == up) = true := by simp [s]
        clear s n5
        by_cases t : fsz f = 9218868437227405312
        · simp only [decide_eq_true t] at n3
          clear d hz hle t
          generalize fneg f = s at *
          generalize f - 1 = f' at *
          go_enter Tryd.func20, Tryd.ntmps20
          go_wp2_with fail
          refine (n1 _).mono ?_
          rintro e wq ⟨rfl, rfl⟩
          go_wp2_with fail
          refine (n2 _).mono ?_
          rintro e wq ⟨rfl, rfl⟩
          go_wp2_with fail
          refine (n3 _).mono ?_
          rintro e wq ⟨rfl, rfl⟩
          go_wp2_with fail
          refine (n4 _).mono ?_
          rintro e wq ⟨rfl, rfl⟩
          go_wp2_with fail
          refine (n4 _).mono ?_
          rintro e wq ⟨rfl, rfl⟩
          go_wp2
          go_ret
          exact ⟨ret_int (by first | rfl | omega), rfl⟩
        · simp only [decide_eq_false t] at n3
          clear d hz hle t
          generalize fneg f = s at *
          generalize f - 1 = f' at *
          go_enter Tryd.func20, Tryd.ntmps20
          go_wp2_with fail
          refine (n1 _).mono ?_
          rintro e wq ⟨rfl, rfl⟩
          go_wp2_with fail
          refine (n2 _).mono ?_
          rintro e wq ⟨rfl, rfl⟩
          go_wp2_with fail
          refine (n3 _).mono ?_
          rintro e wq ⟨rfl, rfl⟩
          go_wp2_with fail
          refine (n4 _).mono ?_
          rintro e wq ⟨rfl, rfl⟩
          go_wp2
          go_ret
          exact ⟨ret_int (by first | rfl | omega), rfl⟩
      · rw [if_neg s]
        have i2 : (fneg f == up) = false := by simpa using s
        clear n5
        by_cases t : fsz f = 9218868437227405312
        · rw [if_pos t]
          simp only [decide_eq_true t] at n3
          clear s d hz hle t hw1
          generalize fneg f = s at *
          go_enter Tryd.func20, Tryd.ntmps20
          go_wp2_with fail
          refine (n1 _).mono ?_
          rintro e wq ⟨rfl, rfl⟩
          go_wp2_with fail
          refine (n2 _).mono ?_
          rintro e wq ⟨rfl, rfl⟩
          go_wp2_with fail
          refine (n3 _).mono ?_
          rintro e wq ⟨rfl, rfl⟩
          go_wp2_with fail
          refine (n4 _).mono ?_
          rintro e wq ⟨rfl, rfl⟩
          go_wp2
          go_ret
          exact ⟨rfl, rfl⟩
        · rw [if_neg t]
          simp only [decide_eq_false t] at n3
          have hw2 := nx_more (f := f) (by omega)
          clear s d hz hle t hw1
          generalize fneg f = s at *
          generalize hf1 : f + 1 = f1 at *
          clear hf1
          go_enter Tryd.func20, Tryd.ntmps20
          go_wp2_with fail
          refine (n1 _).mono ?_
          rintro e wq ⟨rfl, rfl⟩
          go_wp2_with fail
          refine (n2 _).mono ?_
          rintro e wq ⟨rfl, rfl⟩
          go_wp2_with fail
          refine (n3 _).mono ?_
          rintro e wq ⟨rfl, rfl⟩
          go_wp2_with fail
          refine (n4 _).mono ?_
          rintro e wq ⟨rfl, rfl⟩
          go_wp2
          go_ret
          exact ⟨ret_int (by first | rfl | omega), rfl⟩
theorem nxF_lt {f : Nat} (up : Bool) (hf : f < 18446744073709551616) : nxF f up < 18446744073709551616 := by
  have hz : fsz f = f % 9223372036854775808 := rfl
  unfold nxF
  split
  · decide
  · rename_i c
    have : ¬ 9218868437227405312 < fsz f := fun h => c (decide_eq_true h)
    split
    · split <;> decide
    · split
      · omega
      · split <;> omega
end Go.Proofs.YtcfhajnboamnnaaDoor

namespace Go.Proofs.YtcfhajnboamnnaaDoor
open Go.RowKit
set_option linter.unusedVariables false

theorem dvd_two_pow {g : Nat} (t : Nat) (h : g ∣ 2 ^ t) : ∃ i, i ≤ t ∧ g = 2 ^ i := by
  induction t generalizing g with
  | zero => exact ⟨0, Nat.le_refl _, Nat.eq_one_of_dvd_one h⟩
  | succ t ih =>
    by_cases c : g % 2 = 0
    · obtain ⟨k, hk⟩ : ∃ k, g = 2 * k := ⟨g / 2, by omega⟩
      rw [hk, Nat.pow_succ, Nat.mul_comm (2 ^ t) 2] at h
      obtain ⟨i, hi, e⟩ := ih (Nat.dvd_of_mul_dvd_mul_left (by omega) h)
      exact ⟨i + 1, by omega, by rw [hk, e, Nat.pow_succ]; omega⟩
    · have hc : Nat.Coprime g 2 := by
        have e : g % 2 = 1 := by omega
        unfold Nat.Coprime
        rw [Nat.gcd_comm, Nat.gcd_rec, e]; decide
      exact ⟨0, by omega, Nat.eq_one_of_dvd_one ((Nat.Coprime.pow_right (t + 1) hc).dvd_of_dvd_mul_left (by rw [Nat.mul_one]; exact h))⟩
theorem blen_two_pow (j : Nat) : blen (2 ^ j) = j + 1 := blen_eq (Nat.le_refl _) (Nat.pow_lt_pow_right (by omega) (by omega))
/-- A number as the program's ratio tells it, where its terms are a size times a power of two. -/
theorem ratV_pow (s : Bool) {N n j : Nat} {x : Int} (hn : n ≠ 0) (hb : blen n ≤ 53) (hN : (∃ i, n = N * 2 ^ i ∧ -x = ((i + j : Nat) : Int)) ∨ (j = 0 ∧ ∃ e : Nat, x = (e : Int) ∧ N = n * 2 ^ e)) :
    ratV s N (2 ^ j) = (s, false, n * 2 ^ (128 - blen n), x - ((128 - blen n : Nat) : Int)) := by
  have q : rtN N (2 ^ j) = n * 2 ^ (64 - blen n) * rtD N (2 ^ j) ∧ -(rtS N (2 ^ j)) - 64 = x - ((128 - blen n : Nat) : Int) := by
    rcases hN with ⟨i, h1, h2⟩ | ⟨h1, e, h2, h3⟩
    · have hN0 : N ≠ 0 := fun c => hn (by rw [h1, c, Nat.zero_mul])
      have bn : blen n = blen N + i := by rw [h1, blen_mul i hN0]
      have hS : rtS N (2 ^ j) = 64 - (blen N : Int) + j := by unfold rtS; rw [blen_two_pow]; omega
      have hp : (rtS N (2 ^ j)).toNat = 64 - blen n + i + j := by rw [hS]; omega
      have hm : (-(rtS N (2 ^ j))).toNat = 0 := by rw [hS]; omega
      refine ⟨?_, by rw [hS]; omega⟩
      unfold rtN rtD
      rw [hp, hm, Nat.pow_zero, Nat.mul_one, Nat.pow_add, Nat.pow_add]
      generalize 2 ^ (64 - blen n) = a
      rw [h1]
      generalize 2 ^ i = b
      generalize 2 ^ j = c
      rw [Nat.mul_comm a b, ← Nat.mul_assoc, ← Nat.mul_assoc]
    · subst h1
      have bN : blen N = blen n + e := by rw [h3, blen_mul e hn]
      have hS : rtS N (2 ^ 0) = 64 - (blen N : Int) := by unfold rtS; rw [blen_two_pow]; omega
      refine ⟨?_, by rw [hS]; omega⟩
      unfold rtN rtD
      by_cases c : 0 ≤ rtS N (2 ^ 0)
      · have hp : (rtS N (2 ^ 0)).toNat = 64 - blen n - e := by rw [hS]; omega
        have hm : (-(rtS N (2 ^ 0))).toNat = 0 := by omega
        rw [hp, hm, h3]
        have e1 : 64 - blen n = e + (64 - blen n - e) := by omega
        rw [Nat.pow_zero, Nat.mul_one, Nat.mul_assoc, ← Nat.pow_add]
        congr 2
        omega
      · have hp : (rtS N (2 ^ 0)).toNat = 0 := by omega
        have hm : (-(rtS N (2 ^ 0))).toNat = blen n + e - 64 := by rw [hS]; omega
        rw [hp, hm, h3, Nat.pow_zero, Nat.mul_one, Nat.one_mul, Nat.mul_assoc, ← Nat.pow_add]
        congr 2
        omega
  have hd := rtD_pos (N := N) (D := 2 ^ j) (by have := Nat.two_pow_pos j; omega)
  unfold ratV
  rw [q.2, q.1, Nat.mul_div_cancel _ hd, Nat.mul_mod_left]
  have e2 : n * 2 ^ (64 - blen n) * 18446744073709551616 = n * 2 ^ (128 - blen n) := by
    rw [show (18446744073709551616 : Nat) = 2 ^ 64 from rfl, Nat.mul_assoc, ← Nat.pow_add]; congr 2; omega
  rw [e2]
  simp [stk]
/-- A finite float's number, above and below. -/
def ratA (f : Nat) : Nat := vsz f * 2 ^ (vex f).toNat
def ratB (f : Nat) : Nat := 1 * 2 ^ (-(vex f)).toNat
theorem ratB_pos (f : Nat) : ratB f ≠ 0 := by unfold ratB; have := Nat.two_pow_pos (-(vex f)).toNat; omega
/-- A float's own number, in lowest terms, is rounded to it. -/
theorem back_own {f : Nat} (hf : f < 18446744073709551616) (h0 : fsz f ≠ 0) (h1 : fsz f < 9218868437227405312) (m : Int) :
    rdV m (ratV (fneg f) (ratA f / Nat.gcd (ratA f) (ratB f)) (ratB f / Nat.gcd (ratA f) (ratB f))) = (f, 0) := by
  have hn := vsz_ne h0
  have hb : blen (vsz f) ≤ 53 := blen_vsz f
  obtain ⟨o1, o2⟩ := own_rnd hf h0 h1 m
  have key : ∃ N j, ratA f / Nat.gcd (ratA f) (ratB f) = N ∧ ratB f / Nat.gcd (ratA f) (ratB f) = 2 ^ j ∧ ((∃ i, vsz f = N * 2 ^ i ∧ -(vex f) = ((i + j : Nat) : Int)) ∨ (j = 0 ∧ ∃ e : Nat, vex f = (e : Int) ∧ N = vsz f * 2 ^ e)) := by
    by_cases c : 0 ≤ vex f
    · have e1 : ratB f = 1 := by unfold ratB; rw [show (-(vex f)).toNat = 0 by omega]
      rw [e1, Nat.gcd_one_right, Nat.div_one, Nat.div_one]
      exact ⟨_, 0, rfl, rfl, Or.inr ⟨rfl, (vex f).toNat, by omega, rfl⟩⟩
    · have e1 : ratB f = 2 ^ (-(vex f)).toNat := by unfold ratB; rw [Nat.one_mul]
      have e2 : ratA f = vsz f := by unfold ratA; rw [show (vex f).toNat = 0 by omega, Nat.pow_zero, Nat.mul_one]
      obtain ⟨i, hi, hg⟩ := dvd_two_pow (g := Nat.gcd (ratA f) (ratB f)) (-(vex f)).toNat (by rw [← e1]; exact Nat.gcd_dvd_right _ _)
      have hd : 2 ^ i ∣ vsz f := by rw [← hg, ← e2]; exact Nat.gcd_dvd_left _ _
      rw [hg, e1, e2]
      refine ⟨_, (-(vex f)).toNat - i, rfl, ?_, Or.inl ⟨i, (Nat.div_mul_cancel hd).symm, by omega⟩⟩
      rw [Nat.pow_div hi (by omega)]
  obtain ⟨N, j, k1, k2, k3⟩ := key
  rw [k1, k2, ratV_pow (fneg f) hn hb k3, rdV_mul m (fneg f) (vex f) (by omega)]
  unfold rdV
  rw [if_neg (fun h => by cases h), if_neg hn, o1, o2]
theorem back_nought (m : Int) : rdV m (ratV false 0 1) = (0, 0) := by
  have e : ratV false 0 1 = (false, false, 0, -(rtS 0 1) - 64) := by
    unfold ratV
    rw [rtS_zero]
    simp [stk]
  rw [e]
  unfold rdV
  rw [if_neg (fun h => by cases h), if_pos rfl]
  rfl
end Go.Proofs.YtcfhajnboamnnaaDoor
