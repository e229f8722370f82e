/- The laws of floats: within, Make, known. -/
/- Floats, mathematics: by any mode it is what it is by Down, or by Up. -/
import Derived.Test.YtcfhajnboamnnabGreatDoorKJ
import Derived.Test.YtcfhajnboamnnabGreatDoorYXF26
namespace Go.Proofs.YtcfhajnboamnnabGreatDoor
open Go.RowKit
set_option linter.unusedVariables false
set_option linter.unusedSimpArgs false

set_option maxHeartbeats 1000000 in
/-- within: a number from 0 on, below n. -/
theorem within3_any (w : World) (a : Int) (n : Nat) (hn : 0 < n) (hn2 : n ≤ 1000000000) (ha1 : -9223372036854775808 ≤ a) (ha2 : a ≤ 9223372036854775807) :
    Calls Tryz.prog 51 #[.int .i64 a, .int .i64 n] w fun e w' => ∃ k : Nat, k < n ∧ e = .returned (.int .i64 k) ∧ w = w' := by
  by_cases h0 : 0 ≤ a
  · have h1 : a % n < n := Int.emod_lt_of_pos _ (by omega)
    have h2 : 0 ≤ a % n := Int.emod_nonneg _ (by omega)
    have hnz : (n : Int) ≠ 0 := by omega
    go_enter Tryz.func51, Tryz.ntmps51
    go_wp2
    go_ret
    refine ⟨(a % n).toNat, by omega, ret_int (by omega), rfl⟩
  · have hb : ∃ b : Int, a = -b ∧ 0 < b := ⟨-a, by omega, by omega⟩
    obtain ⟨b, hb, hb0⟩ := hb
    have h3 : a.tmod n = -(b % n) := by rw [hb, Int.neg_tmod, Int.tmod_eq_emod_of_nonneg (by omega)]
    have h1 : b % n < n := Int.emod_lt_of_pos _ (by omega)
    have h2 : 0 ≤ b % n := Int.emod_nonneg _ (by omega)
    have hnz : (n : Int) ≠ 0 := by omega
    obtain ⟨t, ht⟩ : ∃ t, t = b % n := ⟨_, rfl⟩
    rw [← ht] at h1 h2 h3
    clear ht hb
    by_cases ht0 : t = 0
    · have h4 : ¬ (-t < 0) := by omega
      have HT := hid ht0
      subst ht0
      simp only [Int.neg_zero] at h3
      go_enter Tryz.func51, Tryz.ntmps51
      go_wp2
      go_ret
      exact ⟨0, hn, ret_int (by omega), rfl⟩
    · have h4 : -t < 0 := by omega
      go_enter Tryz.func51, Tryz.ntmps51
      go_wp2
      go_ret
      exact ⟨(n - t).toNat, by omega, ret_int (by omega), rfl⟩

theorem bits_nat (op : BinOp) (a b : Int) : ∃ x : Nat, x < 18446744073709551616 ∧ bits op .u64 a b = (x : Int) := by
  unfold bits
  simp only [IntKind.wrap_u64]
  refine ⟨(_ % 18446744073709551616 : Int).toNat, ?_, (Int.toNat_of_nonneg (Int.emod_nonneg _ (by decide))).symm⟩
  have := Int.emod_lt_of_pos ((match op with | .and => BitVec.ofInt IntKind.u64.bits a &&& BitVec.ofInt IntKind.u64.bits b | .or => BitVec.ofInt IntKind.u64.bits a ||| BitVec.ofInt IntKind.u64.bits b | .xor => BitVec.ofInt IntKind.u64.bits a ^^^ BitVec.ofInt IntKind.u64.bits b | _ => BitVec.ofInt IntKind.u64.bits a &&& ~~~BitVec.ofInt IntKind.u64.bits b).toNat : Int) (show (0 : Int) < 18446744073709551616 by decide)
  omega
theorem ret_u64 {z : Int} {w : World} (h : ∃ x : Nat, x < 18446744073709551616 ∧ z = (x : Int)) : ∃ x : Nat, x < 18446744073709551616 ∧ Ending.returned (.int .u64 z) = .returned (.int .u64 x) ∧ w = w := by
  obtain ⟨x, hx, rfl⟩ := h; exact ⟨x, hx, rfl, rfl⟩

set_option maxHeartbeats 4000000 in
set_option maxRecDepth 100000 in
theorem make3_any (w : World) (f : Nat) (n : Int) (hf : f < 18446744073709551616) (hn1 : -9223372036854775808 ≤ n) (hn2 : n ≤ 9223372036854775807) :
    Calls Tryz.prog 13 #[.int .u64 f, .int .i64 n] w fun e w' => ∃ x : Nat, x < 18446744073709551616 ∧ e = .returned (.int .u64 x) ∧ w = w' := by
  go_enter Tryz.func13, Tryz.ntmps13
  go_wp2_with fail
  refine (within3_any _ n 12 (by omega) (by omega) hn1 hn2).mono ?_
  rintro e w1 ⟨k, hk, rfl, rfl⟩
  clear hn1 hn2
  obtain rfl | rfl | rfl | rfl | rfl | rfl | rfl | rfl | rfl | rfl | rfl | rfl : k = 0 ∨ k = 1 ∨ k = 2 ∨ k = 3 ∨ k = 4 ∨ k = 5 ∨ k = 6 ∨ k = 7 ∨ k = 8 ∨ k = 9 ∨ k = 10 ∨ k = 11 := by omega
  all_goals clear hk
  all_goals go_wp2
  all_goals go_ret
  all_goals first
    | exact ret_u64 (bits_nat _ _ _)
    | exact ⟨f, hf, rfl, rfl⟩

theorem known_div : divF 0 4607182418800017408 0 (false, false, 0, 0) = (9218868437227405312, 8) := by decide +kernel
theorem known_add : addF 0 4607182418800017408 4607182418800017408 = (4611686018427387904, 0) := by decide +kernel
theorem known_nought : (valF 0).2.2.1 = 0 := by decide +kernel

end Go.Proofs.YtcfhajnboamnnabGreatDoor

namespace Go.Proofs.YtcfhajnboamnnabGreatDoor
open Go.RowKit
set_option linter.unusedVariables false

/-- By any mode it is that by Down, or that by Up; Cut is the one that is smaller in size. -/
def ModesOk (g : Int → Nat) : Prop :=
  (∀ k : Nat, k < 5 → g k = g 2 ∨ g k = g 3) ∧ (g 2 = g 3 ∨ ((cmpF (g 2) (g 3)).2 = true ∧ (cmpF (g 2) (g 3)).1 ≤ 0 ∧ (g 1 = (if 9223372036854775808 ≤ g 2 then g 3 else g 2) ∨ (cmpF (g 2) (g 3)).1 = 0)))
theorem modes_const {g : Int → Nat} (h : ∀ k : Int, g k = g 2) : ModesOk g := ⟨fun k _ => Or.inl (h k), Or.inl (h 3).symm⟩
theorem below5 {P : Int → Prop} (h0 : P 0) (h1 : P 1) (h2 : P 2) (h3 : P 3) (h4 : P 4) (k : Nat) (hk : k < 5) : P k := by
  match k, hk with
  | 0, _ => exact h0
  | 1, _ => exact h1
  | 2, _ => exact h2
  | 3, _ => exact h3
  | 4, _ => exact h4
/-- A size beside the next one. -/
def upB (t : Nat) : Nat := if t % 4 = 0 then 0 else 1
theorem grt_pos : ∀ t : Nat, t < 8 → grt 1 false t = 0 ∧ grt 2 false t = 0 ∧ grt 3 false t = upB t ∧ (grt 0 false t = 0 ∨ (grt 0 false t = 1 ∧ upB t = 1)) ∧ (grt 4 false t = 0 ∨ (grt 4 false t = 1 ∧ upB t = 1)) := by decide
theorem grt_neg : ∀ t : Nat, t < 8 → grt 1 true t = 0 ∧ grt 3 true t = 0 ∧ grt 2 true t = upB t ∧ (grt 0 true t = 0 ∨ (grt 0 true t = 1 ∧ upB t = 1)) ∧ (grt 4 true t = 0 ∨ (grt 4 true t = 1 ∧ upB t = 1)) := by decide
def capB (B c d : Nat) : Nat := if 9218868437227405312 ≤ B + c then 9218868437227405311 + d else B + c
theorem upB_lt (t : Nat) : upB t = 0 ∨ upB t = 1 := by unfold upB; split <;> simp
theorem rk_pos {z : Nat} (h : z < 9223372036854775808) : rk (0 + z) = z := by
  have h1 : fneg (0 + z) = false := by unfold fneg; simp; omega
  have h2 : fsz (0 + z) = z := by unfold fsz; omega
  unfold rk; rw [h1, h2]; rfl
theorem rk_neg {z : Nat} (h : z < 9223372036854775808) : rk (9223372036854775808 + z) = -(z : Int) := by
  have h1 : fneg (9223372036854775808 + z) = true := by unfold fneg; simp
  have h2 : fsz (9223372036854775808 + z) = z := by unfold fsz; omega
  unfold rk; rw [h1, h2]; rfl
theorem nan_le {f : Nat} (h : fsz f ≤ 9218868437227405312) : isNan f = false := by unfold isNan; simp; omega
theorem cmp_num {f g : Nat} (hf : fsz f ≤ 9218868437227405312) (hg : fsz g ≤ 9218868437227405312) : cmpF f g = (cmpI (rk f) (rk g), true) := by
  unfold cmpF; rw [nan_le hf, nan_le hg]; rfl
theorem cmpI_le {x y : Int} (h : x ≤ y) : cmpI x y ≤ 0 := by
  unfold cmpI
  repeat' split
  all_goals omega
theorem capB_le (B c d : Nat) (hd : d ≤ 1) : capB B c d ≤ 9218868437227405312 := by unfold capB; split <;> omega
theorem capB_mono (B u : Nat) (hu : u = 0 ∨ u = 1) : capB B 0 0 ≤ capB B u 1 := by
  unfold capB
  repeat' split
  all_goals omega
theorem capB_any {B u c : Nat} (h : c = 0 ∨ (c = 1 ∧ u = 1)) (hu : u = 0 ∨ u = 1) : capB B c 1 = capB B 0 0 ∨ capB B c 1 = capB B u 1 := by
  unfold capB; repeat' split
  all_goals omega
theorem rnd_modes (s : Bool) (n : Nat) (x : Int) : ModesOk (fun m => rnd m s n x) := by
  have ht : kpt n x % 8 < 8 := Nat.mod_lt _ (by omega)
  have hu := upB_lt (kpt n x % 8)
  have e : ∀ m, rnd m s n x = sgn s + capB (fdP n x * 4503599627370496 + kpt n x / 4) (grt m s (kpt n x % 8)) (grt m s 7) := fun m => rfl
  cases s
  · obtain ⟨g1, g2, g3, g0, g4⟩ := grt_pos _ ht
    obtain ⟨b1, b2, b3, b0, b4⟩ := grt_pos 7 (by omega)
    replace b0 : grt 0 false 7 = 1 := by decide
    replace b4 : grt 4 false 7 = 1 := by decide
    replace b3 : grt 3 false 7 = 1 := by decide
    unfold ModesOk
    simp only [e]
    generalize fdP n x * 4503599627370496 + kpt n x / 4 = B at *
    generalize upB (kpt n x % 8) = u at *
    have hs : sgn false = 0 := rfl
    have m0 := capB_any (B := B) g0 hu
    have m4 := capB_any (B := B) g4 hu
    rw [g1, g2, g3, b1, b2, b3, hs]
    have l1 := capB_le B 0 0 (by omega)
    have l2 := capB_le B u 1 (by omega)
    have l3 := capB_mono B u hu
    refine ⟨below5 (P := fun k => 0 + capB B (grt k false (kpt n x % 8)) (grt k false 7) = 0 + capB B 0 0 ∨ 0 + capB B (grt k false (kpt n x % 8)) (grt k false 7) = 0 + capB B u 1) ?_ ?_ ?_ ?_ ?_, Or.inr ?_⟩
    · rw [b0]; rcases m0 with h | h <;> rw [h] <;> simp
    · rw [g1, b1]; left; rfl
    · rw [g2, b2]; left; rfl
    · rw [g3, b3]; right; rfl
    · rw [b4]; rcases m4 with h | h <;> rw [h] <;> simp
    · generalize capB B 0 0 = L at *
      generalize capB B u 1 = H at *
      rw [cmp_num (by unfold fsz; omega) (by unfold fsz; omega), rk_pos (by omega), rk_pos (by omega)]
      refine ⟨rfl, cmpI_le (by omega), Or.inl ?_⟩
      rw [if_neg (by omega)]
  · obtain ⟨g1, g3, g2, g0, g4⟩ := grt_neg _ ht
    obtain ⟨b1, b3, b2, b0, b4⟩ := grt_neg 7 (by omega)
    replace b0 : grt 0 true 7 = 1 := by decide
    replace b4 : grt 4 true 7 = 1 := by decide
    replace b2 : grt 2 true 7 = 1 := by decide
    unfold ModesOk
    simp only [e]
    generalize fdP n x * 4503599627370496 + kpt n x / 4 = B at *
    generalize upB (kpt n x % 8) = u at *
    have hs : sgn true = 9223372036854775808 := rfl
    have m0 := capB_any (B := B) g0 hu
    have m4 := capB_any (B := B) g4 hu
    rw [g1, g2, g3, b1, b2, b3, hs]
    have l1 := capB_le B 0 0 (by omega)
    have l2 := capB_le B u 1 (by omega)
    have l3 := capB_mono B u hu
    refine ⟨below5 (P := fun k => 9223372036854775808 + capB B (grt k true (kpt n x % 8)) (grt k true 7) = 9223372036854775808 + capB B u 1 ∨ 9223372036854775808 + capB B (grt k true (kpt n x % 8)) (grt k true 7) = 9223372036854775808 + capB B 0 0) ?_ ?_ ?_ ?_ ?_, Or.inr ?_⟩
    · rw [b0]; rcases m0 with h | h <;> rw [h] <;> simp
    · rw [g1, b1]; right; rfl
    · rw [g2, b2]; left; rfl
    · rw [g3, b3]; right; rfl
    · rw [b4]; rcases m4 with h | h <;> rw [h] <;> simp
    · generalize capB B 0 0 = L at *
      generalize capB B u 1 = H at *
      rw [cmp_num (by unfold fsz; omega) (by unfold fsz; omega), rk_neg (by omega), rk_neg (by omega)]
      refine ⟨rfl, cmpI_le (by omega), Or.inl ?_⟩
      rw [if_pos (by omega)]
theorem rdV_modes (v : Bool × Bool × Nat × Int) : ModesOk (fun m => (rdV m v).1) := by
  obtain ⟨s, en, n, x⟩ := v
  cases en
  · by_cases c : n = 0
    · refine modes_const fun k => ?_
      unfold rdV; simp only [c, Bool.false_eq_true, if_false, if_true]
    · have e : ∀ m, (rdV m (s, false, n, x)).1 = rnd m s n x := fun m => by unfold rdV; simp only [Bool.false_eq_true, if_false, if_neg c]
      simp only [e]
      exact rnd_modes s n x
  · refine modes_const fun k => ?_
    unfold rdV; simp only [if_true]
theorem noughts_modes : ModesOk (fun m => sgn (rMinus m)) := by
  have h2 : sgn (rMinus 2) = 9223372036854775808 := by decide
  have h3 : sgn (rMinus 3) = 0 := by decide
  have h0 : sgn (rMinus 0) = 0 := by decide
  have h1 : sgn (rMinus 1) = 0 := by decide
  have h4 : sgn (rMinus 4) = 0 := by decide
  refine ⟨below5 (P := fun k => sgn (rMinus k) = sgn (rMinus 2) ∨ sgn (rMinus k) = sgn (rMinus 3)) ?_ ?_ ?_ ?_ ?_, Or.inr ?_⟩
  · right; rw [h0, h3]
  · right; rw [h1, h3]
  · left; rfl
  · right; rfl
  · right; rw [h4, h3]
  · show (cmpF (sgn (rMinus 2)) (sgn (rMinus 3))).2 = true ∧ (cmpF (sgn (rMinus 2)) (sgn (rMinus 3))).1 ≤ 0 ∧ (_ ∨ (cmpF (sgn (rMinus 2)) (sgn (rMinus 3))).1 = 0)
    rw [h2, h3]
    have e : cmpF 9223372036854775808 0 = (0, true) := by decide +kernel
    rw [e]
    exact ⟨rfl, by decide, Or.inr rfl⟩
theorem addF_modes (f g : Nat) : ModesOk (fun m => (addF m f g).1) := by
  unfold addF
  by_cases c : (isNan f || isNan g) = true
  · simp only [c, if_true]; exact modes_const fun _ => rfl
  · simp only [if_neg c]
    generalize valF f = v
    generalize valF g = w
    unfold addV
    by_cases c1 : v.2.1 = true ∧ w.2.1 = true ∧ v.1 ≠ w.1
    · simp only [if_pos c1]; exact modes_const fun _ => rfl
    · simp only [if_neg c1]
      by_cases c2 : v.2.1 = true
      · simp only [if_pos c2]; exact rdV_modes v
      · simp only [if_neg c2]
        by_cases c3 : w.2.1 = true
        · simp only [if_pos c3]; exact rdV_modes w
        · simp only [if_neg c3]
          by_cases c4 : (plusV v w).2.2.1 = 0 ∧ v.1 ≠ w.1
          · simp only [if_pos c4]; exact noughts_modes
          · simp only [if_neg c4]; exact rdV_modes _
theorem mulF_modes (f g : Nat) : ModesOk (fun m => (mulF m f g).1) := by
  unfold mulF
  by_cases c : (isNan f || isNan g) = true
  · simp only [c, if_true]; exact modes_const fun _ => rfl
  · simp only [if_neg c]
    cases mulV (valF f) (valF g) with
    | none => simp only [withMul]; exact modes_const fun _ => rfl
    | some v => simp only [withMul]; exact rdV_modes v
theorem divF_modes (f g : Nat) (o : Bool × Bool × Nat × Int) : ModesOk (fun m => (divF m f g o).1) := by
  unfold divF
  by_cases c : (isNan f || isNan g) = true
  · simp only [c, if_true]; exact modes_const fun _ => rfl
  · simp only [if_neg c]
    generalize valF f = v
    generalize valF g = w
    unfold divV
    by_cases c1 : (v.2.1 = true ∧ w.2.1 = true) ∨ ((v.2.1 = false ∧ v.2.2.1 = 0) ∧ w.2.1 = false ∧ w.2.2.1 = 0)
    · simp only [if_pos c1]; exact modes_const fun _ => rfl
    · simp only [if_neg c1]
      by_cases c2 : v.2.1 = true
      · simp only [if_pos c2]; exact rdV_modes _
      · simp only [if_neg c2]
        by_cases c3 : w.2.1 = true ∨ v.2.2.1 = 0
        · simp only [if_pos c3]; exact rdV_modes _
        · simp only [if_neg c3]
          by_cases c4 : w.2.2.1 = 0
          · simp only [if_pos c4]; exact rdV_modes _
          · simp only [if_neg c4]; exact rdV_modes _
end Go.Proofs.YtcfhajnboamnnabGreatDoor
