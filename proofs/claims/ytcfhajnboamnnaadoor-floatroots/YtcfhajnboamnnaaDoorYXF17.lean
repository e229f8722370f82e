/- The laws of floats: within, Make, known. -/
/- The third law's within, Make: answers that hang on no world. -/
import Derived.Test.YtcfhajnboamnnaaDoorKJ
import Derived.Test.YtcfhajnboamnnaaDoorYXEVW
namespace Go.Proofs.YtcfhajnboamnnaaDoor
open Go.RowKit
set_option linter.unusedVariables false
set_option linter.unusedSimpArgs false

set_option maxHeartbeats 1000000 in
/-- within: a number from 0 on, below n. -/
theorem within3_any (w : World) (a : Int) (n : Nat) (hn : 0 < n) (hn2 : n ≤ 1000000000) (ha1 : -9223372036854775808 ≤ a) (ha2 : a ≤ 9223372036854775807) :
    Calls Tryd.prog 12 #[.int .i64 a, .int .i64 n] w fun e w' => ∃ k : Nat, k < n ∧ e = .returned (.int .i64 k) ∧ w = w' := by
  by_cases h0 : 0 ≤ a
  · have h1 : a % n < n := Int.emod_lt_of_pos _ (by omega)
    have h2 : 0 ≤ a % n := Int.emod_nonneg _ (by omega)
    have hnz : (n : Int) ≠ 0 := by omega
    go_enter Tryd.func12, Tryd.ntmps12
    go_wp2
    go_ret
    refine ⟨(a % n).toNat, by omega, ret_int (by omega), rfl⟩
  · have hb : ∃ b : Int, a = -b ∧ 0 < b := ⟨-a, by omega, by omega⟩
    obtain ⟨b, hb, hb0⟩ := hb
    have h3 : a.tmod n = -(b % n) := by rw [hb, Int.neg_tmod, Int.tmod_eq_emod_of_nonneg (by omega)]
    have h1 : b % n < n := Int.emod_lt_of_pos _ (by omega)
    have h2 : 0 ≤ b % n := Int.emod_nonneg _ (by omega)
    have hnz : (n : Int) ≠ 0 := by omega
    obtain ⟨t, ht⟩ : ∃ t, t = b % n := ⟨_, rfl⟩
    rw [← ht] at h1 h2 h3
    clear ht hb
    by_cases ht0 : t = 0
    · have h4 : ¬ (-t < 0) := by omega
      have HT := hid ht0
      subst ht0
      simp only [Int.neg_zero] at h3
      go_enter Tryd.func12, Tryd.ntmps12
      go_wp2
      go_ret
      exact ⟨0, hn, ret_int (by omega), rfl⟩
    · have h4 : -t < 0 := by omega
      go_enter Tryd.func12, Tryd.ntmps12
      go_wp2
      go_ret
      exact ⟨(n - t).toNat, by omega, ret_int (by omega), rfl⟩

theorem bits_nat (op : BinOp) (a b : Int) : ∃ x : Nat, x < 18446744073709551616 ∧ bits op .u64 a b = (x : Int) := by
  unfold bits
  simp only [IntKind.wrap_u64]
  refine ⟨(_ % 18446744073709551616 : Int).toNat, ?_, (Int.toNat_of_nonneg (Int.emod_nonneg _ (by decide))).symm⟩
  have := Int.emod_lt_of_pos ((match op with | .and => BitVec.ofInt IntKind.u64.bits a &&& BitVec.ofInt IntKind.u64.bits b | .or => BitVec.ofInt IntKind.u64.bits a ||| BitVec.ofInt IntKind.u64.bits b | .xor => BitVec.ofInt IntKind.u64.bits a ^^^ BitVec.ofInt IntKind.u64.bits b | _ => BitVec.ofInt IntKind.u64.bits a &&& ~~~BitVec.ofInt IntKind.u64.bits b).toNat : Int) (show (0 : Int) < 18446744073709551616 by decide)
  omega
theorem ret_u64 {z : Int} {w : World} (h : ∃ x : Nat, x < 18446744073709551616 ∧ z = (x : Int)) : ∃ x : Nat, x < 18446744073709551616 ∧ Ending.returned (.int .u64 z) = .returned (.int .u64 x) ∧ w = w := by
  obtain ⟨x, hx, rfl⟩ := h; exact ⟨x, hx, rfl, rfl⟩

set_option maxHeartbeats 4000000 in
set_option maxRecDepth 100000 in
theorem make3_any (w : World) (f : Nat) (n : Int) (hf : f < 18446744073709551616) (hn1 : -9223372036854775808 ≤ n) (hn2 : n ≤ 9223372036854775807) :
    Calls Tryd.prog 21 #[.int .u64 f, .int .i64 n] w fun e w' => ∃ x : Nat, x < 18446744073709551616 ∧ e = .returned (.int .u64 x) ∧ w = w' := by
  go_enter Tryd.func21, Tryd.ntmps21
  go_wp2_with fail
  refine (within3_any _ n 12 (by omega) (by omega) hn1 hn2).mono ?_
  rintro e w1 ⟨k, hk, rfl, rfl⟩
  clear hn1 hn2
  obtain rfl | rfl | rfl | rfl | rfl | rfl | rfl | rfl | rfl | rfl | rfl | rfl : k = 0 ∨ k = 1 ∨ k = 2 ∨ k = 3 ∨ k = 4 ∨ k = 5 ∨ k = 6 ∨ k = 7 ∨ k = 8 ∨ k = 9 ∨ k = 10 ∨ k = 11 := by omega
  all_goals clear hk
  all_goals go_wp2
  all_goals go_ret
  all_goals first
    | exact ret_u64 (bits_nat _ _ _)
    | exact ⟨f, hf, rfl, rfl⟩

theorem known_div : divF 0 4607182418800017408 0 (false, false, 0, 0) = (9218868437227405312, 8) := by decide +kernel
theorem known_add : addF 0 4607182418800017408 4607182418800017408 = (4611686018427387904, 0) := by decide +kernel
theorem known_nought : (valF 0).2.2.1 = 0 := by decide +kernel

set_option maxHeartbeats 4000000 in
set_option maxRecDepth 100000 in
theorem known3_any {w : World} (hR : Ru w) : Calls Tryd.prog 8 #[] w fun e w' => e = .returned (.bool true) ∧ Fwd w w' := by
  have c1 := divF_over hR 0 4607182418800017408 0 (by decide) (by decide) (false, false, 0, 0) (by decide) (fun _ _ _ _ _ _ _ h => absurd known_nought h)
  rw [known_div] at c1
  have c2 := fun (w1 : World) (hR : Ru w1) => addF_any hR 0 4607182418800017408 4607182418800017408 (by decide) (by decide)
  rw [known_add] at c2
  go_enter Tryd.func8, Tryd.ntmps8
  go_wp2_with fail
  refine c1.mono ?_
  rintro e w1 ⟨rfl, hf1⟩
  go_wp2_with fail
  refine (c2 w1 (hR.fwd hf1)).mono ?_
  rintro e w2 ⟨rfl, hf2⟩
  go_wp2
  go_ret
  exact ⟨rfl, hf1.trans hf2⟩
end Go.Proofs.YtcfhajnboamnnaaDoor

namespace Go.Proofs.YtcfhajnboamnnaaDoor
open Go.RowKit Go.Ev
set_option linter.unusedVariables false
set_option linter.unusedSimpArgs false

set_option maxHeartbeats 1000000 in
/-- within: what is left by 12. -/
theorem within3_12 (w : World) (a : Int) (ha1 : -9223372036854775808 ≤ a) (ha2 : a ≤ 9223372036854775807) :
    Calls Tryd.prog 12 #[.int .i64 a, .int .i64 12] w fun e w' => e = .returned (.int .i64 (a % 12)) ∧ w = w' := by
  by_cases h0 : 0 ≤ a
  · have h1 : a % 12 < 12 := Int.emod_lt_of_pos _ (by omega)
    have h2 : 0 ≤ a % 12 := Int.emod_nonneg _ (by omega)
    go_enter Tryd.func12, Tryd.ntmps12
    go_wp2
    go_ret
    exact ⟨rfl, rfl⟩
  · have hb : ∃ b : Int, a = -b ∧ 0 < b := ⟨-a, by omega, by omega⟩
    obtain ⟨b, hb, hb0⟩ := hb
    have h3 : a.tmod 12 = -(b % 12) := by rw [hb, Int.neg_tmod, Int.tmod_eq_emod_of_nonneg (by omega)]
    have h1 : b % 12 < 12 := Int.emod_lt_of_pos _ (by omega)
    have h2 : 0 ≤ b % 12 := Int.emod_nonneg _ (by omega)
    obtain ⟨t, ht⟩ : ∃ t, t = b % 12 := ⟨_, rfl⟩
    obtain ⟨r, hr⟩ : ∃ r, r = a % 12 := ⟨_, rfl⟩
    have h5 : r = if t = 0 then 0 else 12 - t := by split <;> omega
    rw [← hr]
    rw [← ht] at h1 h2 h3
    clear ht hb hr
    by_cases ht0 : t = 0
    · have h4 : ¬ (-t < 0) := by omega
      rw [if_pos ht0] at h5
      subst h5
      have HT := hid ht0
      subst ht0
      simp only [Int.neg_zero] at h3
      go_enter Tryd.func12, Tryd.ntmps12
      go_wp2
      go_ret
      exact ⟨rfl, rfl⟩
    · have h4 : -t < 0 := by omega
      rw [if_neg ht0] at h5
      subst h5
      go_enter Tryd.func12, Tryd.ntmps12
      go_wp2
      go_ret
      refine ⟨?_, rfl⟩
      have e : -t + 12 = 12 - t := by omega
      simp only [e]
      rfl

set_option maxHeartbeats 1000000 in
/-- within: what is left by 5. -/
theorem within3_5 (w : World) (a : Int) (ha1 : -9223372036854775808 ≤ a) (ha2 : a ≤ 9223372036854775807) :
    Calls Tryd.prog 12 #[.int .i64 a, .int .i64 5] w fun e w' => e = .returned (.int .i64 (a % 5)) ∧ w = w' := by
  by_cases h0 : 0 ≤ a
  · have h1 : a % 5 < 5 := Int.emod_lt_of_pos _ (by omega)
    have h2 : 0 ≤ a % 5 := Int.emod_nonneg _ (by omega)
    go_enter Tryd.func12, Tryd.ntmps12
    go_wp2
    go_ret
    exact ⟨rfl, rfl⟩
  · have hb : ∃ b : Int, a = -b ∧ 0 < b := ⟨-a, by omega, by omega⟩
    obtain ⟨b, hb, hb0⟩ := hb
    have h3 : a.tmod 5 = -(b % 5) := by rw [hb, Int.neg_tmod, Int.tmod_eq_emod_of_nonneg (by omega)]
    have h1 : b % 5 < 5 := Int.emod_lt_of_pos _ (by omega)
    have h2 : 0 ≤ b % 5 := Int.emod_nonneg _ (by omega)
    obtain ⟨t, ht⟩ : ∃ t, t = b % 5 := ⟨_, rfl⟩
    obtain ⟨r, hr⟩ : ∃ r, r = a % 5 := ⟨_, rfl⟩
    have h5 : r = if t = 0 then 0 else 5 - t := by split <;> omega
    rw [← hr]
    rw [← ht] at h1 h2 h3
    clear ht hb hr
    by_cases ht0 : t = 0
    · have h4 : ¬ (-t < 0) := by omega
      rw [if_pos ht0] at h5
      subst h5
      have HT := hid ht0
      subst ht0
      simp only [Int.neg_zero] at h3
      go_enter Tryd.func12, Tryd.ntmps12
      go_wp2
      go_ret
      exact ⟨rfl, rfl⟩
    · have h4 : -t < 0 := by omega
      rw [if_neg ht0] at h5
      subst h5
      go_enter Tryd.func12, Tryd.ntmps12
      go_wp2
      go_ret
      refine ⟨?_, rfl⟩
      have e : -t + 5 = 5 - t := by omega
      simp only [e]
      rfl


/-- Bits, sums, shifts of 64 bits. -/
def bt (op : BinOp) (a b : Nat) : Nat := (bits op .u64 (a : Int) (b : Int)).toNat
theorem bt_eq (op : BinOp) (a b : Nat) : bits op .u64 (a : Int) (b : Int) = ((bt op a b : Nat) : Int) ∧ bt op a b < 18446744073709551616 := by
  obtain ⟨x, hx, e⟩ := bits_nat op (a : Int) (b : Int)
  have : bt op a b = x := by unfold bt; rw [e]; rfl
  rw [this]
  exact ⟨e, hx⟩
def ad (a b : Nat) : Nat := (a + b) % 18446744073709551616
def sb (a b : Nat) : Nat := (((a : Int) - (b : Int)) % 18446744073709551616).toNat
def sl (a k : Nat) : Nat := (a * 2 ^ k) % 18446744073709551616
theorem bo_and (a b : Nat) (t : TypeId) : binOp .and t (.int .u64 (a : Int)) (.int .u64 (b : Int)) = pure (.int .u64 ((bt .and a b : Nat) : Int)) := by
  rw [binOp_and, ← (bt_eq .and a b).1]; rfl
theorem bo_or (a b : Nat) (t : TypeId) : binOp .or t (.int .u64 (a : Int)) (.int .u64 (b : Int)) = pure (.int .u64 ((bt .or a b : Nat) : Int)) := by
  rw [binOp_or, ← (bt_eq .or a b).1]; rfl
theorem bo_ad (a b : Nat) (t : TypeId) : binOp .add t (.int .u64 (a : Int)) (.int .u64 (b : Int)) = pure (.int .u64 ((ad a b : Nat) : Int)) := by
  refine bo_add ?_ t
  unfold ad
  simp [IntKind.wrap, IntKind.bits, IntKind.signed]
theorem bo_sb (a b : Nat) (t : TypeId) : binOp .sub t (.int .u64 (a : Int)) (.int .u64 (b : Int)) = pure (.int .u64 ((sb a b : Nat) : Int)) := by
  refine bo_sub ?_ t
  unfold sb
  have : IntKind.u64.wrap ((a : Int) - (b : Int)) = ((a : Int) - (b : Int)) % 18446744073709551616 := by simp [IntKind.wrap, IntKind.bits, IntKind.signed]
  rw [this]
  omega
theorem bo_shl (a k : Nat) (hk : k ≤ 64) (yk : IntKind) (t : TypeId) : binOp .shl t (.int .u64 (a : Int)) (.int yk (k : Int)) = pure (.int .u64 ((sl a k : Nat) : Int)) := by
  rw [binOp_shl, shift_shl _ _ _ _ (by omega) (by simp [IntKind.bits]; omega)]
  rfl
theorem bo_shr (a k : Nat) (hk : k ≤ 64) (yk : IntKind) (t : TypeId) : binOp .shr t (.int .u64 (a : Int)) (.int yk (k : Int)) = pure (.int .u64 ((a / 2 ^ k : Nat) : Int)) := by
  rw [binOp_shr, shift_shr _ _ _ _ (by omega) (by simp [IntKind.bits]; omega)]
  rfl

/-- The law's float of raw bits. -/
def mkU (f k : Nat) : Nat := [(bt .and f 9223372036854775808), (bt .or (bt .and f 9223372036854775808) 9218868437227405312), (bt .or (bt .or (bt .or (bt .and f 9223372036854775808) 9218868437227405312) (bt .and f 65535)) 1), (bt .or (bt .and f 9223372036854775808) (bt .and f 255)), (bt .or (bt .and f 9223372036854775808) (ad 4503599627370492 (bt .and f 7))), (bt .or (bt .and f 9223372036854775808) (sb 9218868437227405311 (bt .and f 7))), (bt .or (bt .or (bt .and f 9223372036854775808) (sl (sb (ad 1023 (bt .and (f / 2 ^ 32) 31)) 16) 52)) (sl (bt .and f 255) 44)), (bt .or (bt .or (bt .and f 9223372036854775808) (sl (sb (ad 1023 (bt .and (f / 2 ^ 32) 31)) 16) 52)) (sl (bt .and f 255) 44)), (bt .or (bt .or (bt .and f 9223372036854775808) (sl (sb (ad 1023 (bt .and (f / 2 ^ 32) 31)) 16) 52)) (sl (bt .and f 255) 44)), (bt .or (bt .or (bt .and f 9223372036854775808) (sl (sb (ad 1023 (bt .and (f / 2 ^ 32) 127)) 64) 52)) (bt .and f 4503599627370495)), f, f].getD k 0
theorem mkU_lt {f : Nat} (hf : f < 18446744073709551616) (k : Nat) : mkU f k < 18446744073709551616 := by
  have hb := fun op a b => (bt_eq op a b).2
  match k with
  | 0 => show (bt .and f 9223372036854775808) < _; exact hb _ _ _
  | 1 => show (bt .or (bt .and f 9223372036854775808) 9218868437227405312) < _; exact hb _ _ _
  | 2 => show (bt .or (bt .or (bt .or (bt .and f 9223372036854775808) 9218868437227405312) (bt .and f 65535)) 1) < _; exact hb _ _ _
  | 3 => show (bt .or (bt .and f 9223372036854775808) (bt .and f 255)) < _; exact hb _ _ _
  | 4 => show (bt .or (bt .and f 9223372036854775808) (ad 4503599627370492 (bt .and f 7))) < _; exact hb _ _ _
  | 5 => show (bt .or (bt .and f 9223372036854775808) (sb 9218868437227405311 (bt .and f 7))) < _; exact hb _ _ _
  | 6 => show (bt .or (bt .or (bt .and f 9223372036854775808) (sl (sb (ad 1023 (bt .and (f / 2 ^ 32) 31)) 16) 52)) (sl (bt .and f 255) 44)) < _; exact hb _ _ _
  | 7 => show (bt .or (bt .or (bt .and f 9223372036854775808) (sl (sb (ad 1023 (bt .and (f / 2 ^ 32) 31)) 16) 52)) (sl (bt .and f 255) 44)) < _; exact hb _ _ _
  | 8 => show (bt .or (bt .or (bt .and f 9223372036854775808) (sl (sb (ad 1023 (bt .and (f / 2 ^ 32) 31)) 16) 52)) (sl (bt .and f 255) 44)) < _; exact hb _ _ _
  | 9 => show (bt .or (bt .or (bt .and f 9223372036854775808) (sl (sb (ad 1023 (bt .and (f / 2 ^ 32) 127)) 64) 52)) (bt .and f 4503599627370495)) < _; exact hb _ _ _
  | 10 => exact hf
  | 11 => exact hf
  | k + 12 => show (0 : Nat) < _; omega

def mk3D (k : Nat) : List (FuncId × Ans) :=
  [(12, ansT [([.one (.atom (.sym 1)), .one (.lit (.int .i64 (12)))], .v (.one (.lit (.int .i64 (k : Nat)))))])]
def mk3L (k : Nat) : BT := [(.and, .atom (.sym 0), .lit (.int .u64 9223372036854775808), .atom (.sym 2)), (.or, .atom (.sym 2), .lit (.int .u64 9218868437227405312), .atom (.sym 3)), (.and, .atom (.sym 0), .lit (.int .u64 65535), .atom (.sym 4)), (.or, .atom (.sym 3), .atom (.sym 4), .atom (.sym 5)), (.or, .atom (.sym 5), .lit (.int .u64 1), .atom (.sym 6)), (.and, .atom (.sym 0), .lit (.int .u64 255), .atom (.sym 7)), (.or, .atom (.sym 2), .atom (.sym 7), .atom (.sym 8)), (.and, .atom (.sym 0), .lit (.int .u64 7), .atom (.sym 9)), (.add, .lit (.int .u64 4503599627370492), .atom (.sym 9), .atom (.sym 10)), (.or, .atom (.sym 2), .atom (.sym 10), .atom (.sym 11)), (.sub, .lit (.int .u64 9218868437227405311), .atom (.sym 9), .atom (.sym 12)), (.or, .atom (.sym 2), .atom (.sym 12), .atom (.sym 13)), (.shr, .atom (.sym 0), .lit (.int .u64 32), .atom (.sym 14)), (.and, .atom (.sym 14), .lit (.int .u64 31), .atom (.sym 15)), (.add, .lit (.int .u64 1023), .atom (.sym 15), .atom (.sym 16)), (.sub, .atom (.sym 16), .lit (.int .u64 16), .atom (.sym 17)), (.shl, .atom (.sym 17), .lit (.int .u64 52), .atom (.sym 18)), (.or, .atom (.sym 2), .atom (.sym 18), .atom (.sym 19)), (.shl, .atom (.sym 7), .lit (.int .u64 44), .atom (.sym 20)), (.or, .atom (.sym 19), .atom (.sym 20), .atom (.sym 21)), (.and, .atom (.sym 14), .lit (.int .u64 127), .atom (.sym 22)), (.add, .lit (.int .u64 1023), .atom (.sym 22), .atom (.sym 23)), (.sub, .atom (.sym 23), .lit (.int .u64 64), .atom (.sym 24)), (.shl, .atom (.sym 24), .lit (.int .u64 52), .atom (.sym 25)), (.or, .atom (.sym 2), .atom (.sym 25), .atom (.sym 26)), (.and, .atom (.sym 0), .lit (.int .u64 4503599627370495), .atom (.sym 27)), (.or, .atom (.sym 26), .atom (.sym 27), .atom (.sym 28))]
def mk3M : BT := []
def mk3N : At → Option Nat
  | _ => none

set_option maxRecDepth 1000000 in
theorem mk3Told : ∃ t : Tr Func, TabOK Tryd.prog t ∧ (∀ k, k < 12 → isAV (.v (.one (.atom (.sym ([2, 3, 6, 8, 11, 13, 21, 21, 21, 28, 0, 0].getD k 0))))) (evalCall ⟨Tryd.prog, true, t.get, orcD (mk3D k), (opH (bigHook Tryd.prog true) (opH (symHook Tryd.prog mk3N (fun _ _ _ => none)) (tabHook (mk3L k) mk3M)))⟩ 1000 21 [.one (.atom (.sym 0)), .one (.atom (.sym 1))] .e 0) = true) :=
  ⟨((Tr.e).put 21 (some Tryd.f21)).put 12 (some Tryd.f12),
   (TabOK.put (TabOK.put (TabOK.e _) ⟨Tryd.func21, by decide +kernel, by decide +kernel⟩) ⟨Tryd.func12, by decide +kernel, by decide +kernel⟩),
   by decide +kernel⟩

set_option maxHeartbeats 4000000 in
set_option maxRecDepth 100000 in
theorem mk3_tab {w : World} (f : Nat) (n : Int) (hf : f < 18446744073709551616) (hn1 : -9223372036854775808 ≤ n) (hn2 : n ≤ 9223372036854775807) {k : Nat} (hk : k < 12) (hnk : n % 12 = (k : Int)) :
    Calls Tryd.prog 21 #[.int .u64 f, .int .i64 n] w fun e w' => e = .returned (.int .u64 ((mkU f k : Nat) : Int)) ∧ Below w.heap.size w w' := by
  have cW : ∀ (w : World), Calls Tryd.prog 12 #[.int .i64 n, .int .i64 12] w fun e w' => e = .returned (.int .i64 (k : Int)) ∧ Fwd w w' := fun w => (within3_12 w n hn1 hn2).mono fun e w' gg => ⟨by rw [gg.1, hnk], gg.2 ▸ Fwd.refl _⟩
  obtain ⟨t, ht, hr⟩ := mk3Told
  obtain ⟨dl, n', he⟩ := isAV_ok (hr _ hk)
  let ν : Nat → Rat := nuL [] []
  let σ : SymD := symL [.u f, .i n, .u (bt .and f 9223372036854775808), .u (bt .or (bt .and f 9223372036854775808) 9218868437227405312), .u (bt .and f 65535), .u (bt .or (bt .or (bt .and f 9223372036854775808) 9218868437227405312) (bt .and f 65535)), .u (bt .or (bt .or (bt .or (bt .and f 9223372036854775808) 9218868437227405312) (bt .and f 65535)) 1), .u (bt .and f 255), .u (bt .or (bt .and f 9223372036854775808) (bt .and f 255)), .u (bt .and f 7), .u (ad 4503599627370492 (bt .and f 7)), .u (bt .or (bt .and f 9223372036854775808) (ad 4503599627370492 (bt .and f 7))), .u (sb 9218868437227405311 (bt .and f 7)), .u (bt .or (bt .and f 9223372036854775808) (sb 9218868437227405311 (bt .and f 7))), .u (f / 2 ^ 32), .u (bt .and (f / 2 ^ 32) 31), .u (ad 1023 (bt .and (f / 2 ^ 32) 31)), .u (sb (ad 1023 (bt .and (f / 2 ^ 32) 31)) 16), .u (sl (sb (ad 1023 (bt .and (f / 2 ^ 32) 31)) 16) 52), .u (bt .or (bt .and f 9223372036854775808) (sl (sb (ad 1023 (bt .and (f / 2 ^ 32) 31)) 16) 52)), .u (sl (bt .and f 255) 44), .u (bt .or (bt .or (bt .and f 9223372036854775808) (sl (sb (ad 1023 (bt .and (f / 2 ^ 32) 31)) 16) 52)) (sl (bt .and f 255) 44)), .u (bt .and (f / 2 ^ 32) 127), .u (ad 1023 (bt .and (f / 2 ^ 32) 127)), .u (sb (ad 1023 (bt .and (f / 2 ^ 32) 127)) 64), .u (sl (sb (ad 1023 (bt .and (f / 2 ^ 32) 127)) 64) 52), .u (bt .or (bt .and f 9223372036854775808) (sl (sb (ad 1023 (bt .and (f / 2 ^ 32) 127)) 64) 52)), .u (bt .and f 4503599627370495), .u (bt .or (bt .or (bt .and f 9223372036854775808) (sl (sb (ad 1023 (bt .and (f / 2 ^ 32) 127)) 64) 52)) (bt .and f 4503599627370495))]
  have hcx : CxOK (DomQ true ν σ (fun _ => none)) w.heap.size ⟨Tryd.prog, true, t.get, orcD (mk3D k), (opH (bigHook Tryd.prog true) (opH (symHook Tryd.prog mk3N (fun _ _ _ => none)) (tabHook (mk3L k) mk3M)))⟩ := cxS_ok (M := (DomQ true ν σ (fun _ => none))) ht ⟨[
      orcT 12 [
        { args := [.one (.atom (.sym 1)), .one (.lit (.int .i64 (12)))], ans := .v (.one (.lit (.int .i64 (k : Nat)))), ok := by
            intro B ρ w S vs hS hr
            match vs, hr with
            | [u0, u1], ⟨z0, z1, _⟩ =>
              obtain ⟨rfl, _⟩ : u0 = _ ∧ _ := z0
              obtain ⟨rfl, _⟩ : u1 = _ ∧ _ := z1
              refine (cW _).mono ?_
              rintro e w' ⟨rfl, hf⟩
              exact ⟨_, rfl, ⟨rfl, rfl⟩, hf⟩ }]], rfl⟩
    (opH_le (bigHook_le _ _) (opH_le (symHook_le _ _ _) (tabHook_le _ _)))
    (opH_ok (bigHook_ok _) (opH_ok (symHook_ok _ (fun h => by cases h) (fun h => by cases h)) (tabHook_ok _ (all_cons (BOk.mk rfl rfl rfl (fun _ _ _ => trivial) rfl rfl (bo_and _ _)) (all_cons (BOk.mk rfl rfl rfl (fun _ _ _ => trivial) rfl rfl (bo_or _ _)) (all_cons (BOk.mk rfl rfl rfl (fun _ _ _ => trivial) rfl rfl (bo_and _ _)) (all_cons (BOk.mk rfl rfl rfl (fun _ _ _ => trivial) rfl rfl (bo_or _ _)) (all_cons (BOk.mk rfl rfl rfl (fun _ _ _ => trivial) rfl rfl (bo_or _ _)) (all_cons (BOk.mk rfl rfl rfl (fun _ _ _ => trivial) rfl rfl (bo_and _ _)) (all_cons (BOk.mk rfl rfl rfl (fun _ _ _ => trivial) rfl rfl (bo_or _ _)) (all_cons (BOk.mk rfl rfl rfl (fun _ _ _ => trivial) rfl rfl (bo_and _ _)) (all_cons (BOk.mk rfl rfl rfl (fun _ _ _ => trivial) rfl rfl (bo_ad _ _)) (all_cons (BOk.mk rfl rfl rfl (fun _ _ _ => trivial) rfl rfl (bo_or _ _)) (all_cons (BOk.mk rfl rfl rfl (fun _ _ _ => trivial) rfl rfl (bo_sb _ _)) (all_cons (BOk.mk rfl rfl rfl (fun _ _ _ => trivial) rfl rfl (bo_or _ _)) (all_cons (BOk.mk rfl rfl rfl (fun _ _ _ => trivial) rfl rfl (bo_shr _ 32 (by omega) _)) (all_cons (BOk.mk rfl rfl rfl (fun _ _ _ => trivial) rfl rfl (bo_and _ _)) (all_cons (BOk.mk rfl rfl rfl (fun _ _ _ => trivial) rfl rfl (bo_ad _ _)) (all_cons (BOk.mk rfl rfl rfl (fun _ _ _ => trivial) rfl rfl (bo_sb _ _)) (all_cons (BOk.mk rfl rfl rfl (fun _ _ _ => trivial) rfl rfl (bo_shl _ 52 (by omega) _)) (all_cons (BOk.mk rfl rfl rfl (fun _ _ _ => trivial) rfl rfl (bo_or _ _)) (all_cons (BOk.mk rfl rfl rfl (fun _ _ _ => trivial) rfl rfl (bo_shl _ 44 (by omega) _)) (all_cons (BOk.mk rfl rfl rfl (fun _ _ _ => trivial) rfl rfl (bo_or _ _)) (all_cons (BOk.mk rfl rfl rfl (fun _ _ _ => trivial) rfl rfl (bo_and _ _)) (all_cons (BOk.mk rfl rfl rfl (fun _ _ _ => trivial) rfl rfl (bo_ad _ _)) (all_cons (BOk.mk rfl rfl rfl (fun _ _ _ => trivial) rfl rfl (bo_sb _ _)) (all_cons (BOk.mk rfl rfl rfl (fun _ _ _ => trivial) rfl rfl (bo_shl _ 52 (by omega) _)) (all_cons (BOk.mk rfl rfl rfl (fun _ _ _ => trivial) rfl rfl (bo_or _ _)) (all_cons (BOk.mk rfl rfl rfl (fun _ _ _ => trivial) rfl rfl (bo_and _ _)) (all_cons (BOk.mk rfl rfl rfl (fun _ _ _ => trivial) rfl rfl (bo_or _ _)) all_nil))))))))))))))))))))))))))) all_nil)))
  refine (told_call (M := (DomQ true ν σ (fun _ => none))) (cx := ⟨Tryd.prog, true, t.get, orcD (mk3D k), (opH (bigHook Tryd.prog true) (opH (symHook Tryd.prog mk3N (fun _ _ _ => none)) (tabHook (mk3L k) mk3M)))⟩) (xs := [.one (.atom (.sym 0)), .one (.atom (.sym 1))]) (vs := [.int .u64 f, .int .i64 n]) Tryd.checked.mixed hcx (fun hg => by cases hg) ⟨⟨rfl, fun _ => trivial⟩, ⟨rfl, fun _ => trivial⟩, trivial⟩ he).mono ?_
  rintro e w' ⟨v, ρ', rfl, hv, hbel⟩
  match k, hk, hv with
  | 0, _, hv => obtain ⟨rfl, _⟩ : v = _ ∧ _ := hv; exact ⟨rfl, hbel⟩
  | 1, _, hv => obtain ⟨rfl, _⟩ : v = _ ∧ _ := hv; exact ⟨rfl, hbel⟩
  | 2, _, hv => obtain ⟨rfl, _⟩ : v = _ ∧ _ := hv; exact ⟨rfl, hbel⟩
  | 3, _, hv => obtain ⟨rfl, _⟩ : v = _ ∧ _ := hv; exact ⟨rfl, hbel⟩
  | 4, _, hv => obtain ⟨rfl, _⟩ : v = _ ∧ _ := hv; exact ⟨rfl, hbel⟩
  | 5, _, hv => obtain ⟨rfl, _⟩ : v = _ ∧ _ := hv; exact ⟨rfl, hbel⟩
  | 6, _, hv => obtain ⟨rfl, _⟩ : v = _ ∧ _ := hv; exact ⟨rfl, hbel⟩
  | 7, _, hv => obtain ⟨rfl, _⟩ : v = _ ∧ _ := hv; exact ⟨rfl, hbel⟩
  | 8, _, hv => obtain ⟨rfl, _⟩ : v = _ ∧ _ := hv; exact ⟨rfl, hbel⟩
  | 9, _, hv => obtain ⟨rfl, _⟩ : v = _ ∧ _ := hv; exact ⟨rfl, hbel⟩
  | 10, _, hv => obtain ⟨rfl, _⟩ : v = _ ∧ _ := hv; exact ⟨rfl, hbel⟩
  | 11, _, hv => obtain ⟨rfl, _⟩ : v = _ ∧ _ := hv; exact ⟨rfl, hbel⟩

/-- It is one float, in any world. -/
theorem make3_fix (f : Nat) (n : Int) (hf : f < 18446744073709551616) (hn1 : -9223372036854775808 ≤ n) (hn2 : n ≤ 9223372036854775807) :
    ∃ x : Nat, x < 18446744073709551616 ∧ ∀ w : World, Calls Tryd.prog 21 #[.int .u64 f, .int .i64 n] w fun e w' => e = .returned (.int .u64 x) ∧ Fwd w w' :=
  ⟨mkU f (n % 12).toNat, mkU_lt hf _, fun w => mk3_tab f n hf hn1 hn2 (k := (n % 12).toNat) (by omega) (by omega)⟩
end Go.Proofs.YtcfhajnboamnnaaDoor
