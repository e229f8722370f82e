/- sfloat's down: a number of two words, shifted, with a last bit for what was lost. -/
import Derived.Test.YtfegepkhfckamaaGreatDoorYXF1
import Derived.Deep.DeepCutAuto
namespace Go.Proofs.YtfegepkhfckamaaGreatDoor
open Go.RowKit
set_option linter.unusedVariables false

/-- One, if there is anything. -/
def stk (n : Nat) : Nat := if n = 0 then 0 else 1
theorem stk_lt (n : Nat) : stk n < 2 := by unfold stk; split <;> omega
/-- n by 2^k, its last bit set if something was lost. -/
def dn (n k : Nat) : Nat := n / 2 ^ k ||| stk (n % 2 ^ k)
theorem or_one (q : Nat) : q ||| 1 = q + (1 - q % 2) := by
  have h := Nat.div_add_mod q 2
  rcases Nat.mod_two_eq_zero_or_one q with e | e
  · rw [e] at h ⊢
    have : q = (q / 2) * 2 ^ 1 := by omega
    rw [this, or_add _ 1 1 (by omega)]
  · rw [e]
    apply Nat.eq_of_testBit_eq
    intro i
    rw [Nat.testBit_or]
    cases i with
    | zero => simp [Nat.testBit_zero, e]
    | succ i => simp [Nat.testBit_succ]
theorem or_stk (q m : Nat) : q ||| stk m = if m = 0 then q else q + (1 - q % 2) := by
  unfold stk; split
  · simp
  · exact or_one q
theorem dn_zero (n : Nat) : dn n 0 = n := by simp [dn, stk, Nat.mod_one]
theorem dn_step (hi lo k : Nat) (hl : lo < 18446744073709551616) : dn (hi ||| stk lo) k = dn (hi * 18446744073709551616 + lo) (64 + k) := by
  cases k with
  | zero =>
    rw [dn_zero]
    unfold dn
    rw [Nat.add_zero, show 2 ^ 64 = 18446744073709551616 from rfl, show (hi * 18446744073709551616 + lo) / 18446744073709551616 = hi by omega, show (hi * 18446744073709551616 + lo) % 18446744073709551616 = lo by omega]
  | succ k =>
    have e1 : (hi * 18446744073709551616 + lo) / 2 ^ (64 + (k + 1)) = hi / 2 ^ (k + 1) := by
      rw [Nat.pow_add, ← Nat.div_div_eq_div_mul, show (hi * 18446744073709551616 + lo) / 2 ^ 64 = hi from (by omega : (hi * 18446744073709551616 + lo) / 18446744073709551616 = hi)]
    have e2 : (hi * 18446744073709551616 + lo) % 2 ^ (64 + (k + 1)) = (hi % 2 ^ (k + 1)) * 18446744073709551616 + lo := by
      rw [Nat.pow_add, Nat.mod_mul, show (hi * 18446744073709551616 + lo) / 2 ^ 64 = hi from (by omega : (hi * 18446744073709551616 + lo) / 18446744073709551616 = hi), show (hi * 18446744073709551616 + lo) % 2 ^ 64 = lo from (by omega : (hi * 18446744073709551616 + lo) % 18446744073709551616 = lo), show (2 : Nat) ^ 64 = 18446744073709551616 from rfl]
      omega
    have e3 : (hi ||| stk lo) / 2 ^ (k + 1) = hi / 2 ^ (k + 1) := by
      rw [or_stk]; split
      · rfl
      · rw [Nat.pow_succ', ← Nat.div_div_eq_div_mul, ← Nat.div_div_eq_div_mul]
        congr 1; omega
    have e4 : stk ((hi ||| stk lo) % 2 ^ (k + 1)) = stk ((hi % 2 ^ (k + 1)) * 18446744073709551616 + lo) := by
      rw [or_stk]
      split
      · rename_i h; subst h; unfold stk
        have : hi % 2 ^ (k + 1) = 0 ↔ hi % 2 ^ (k + 1) * 18446744073709551616 + 0 = 0 := by omega
        by_cases c : hi % 2 ^ (k + 1) = 0
        · rw [if_pos c, if_pos (this.1 c)]
        · rw [if_neg c, if_neg (fun h => c (this.2 h))]
      · rename_i h
        have : (hi + (1 - hi % 2)) % 2 ^ (k + 1) ≠ 0 := by
          intro h2
          have h3 : (hi + (1 - hi % 2)) % 2 ^ (k + 1) % 2 = (hi + (1 - hi % 2)) % 2 := Nat.mod_mod_of_dvd _ ⟨2 ^ k, by rw [Nat.pow_succ']⟩
          rw [h2] at h3; omega
        unfold stk
        rw [if_neg this, if_neg (by omega)]
    unfold dn
    rw [e1, e2, e3, e4]
theorem dn_far (n k : Nat) (h : n < 2 ^ k) : dn n k = stk n := by
  unfold dn; rw [Nat.div_eq_of_lt h, Nat.mod_eq_of_lt h]; simp
theorem dn_math (a b k : Nat) (ha : a < 18446744073709551616) (hb : b < 18446744073709551616) (hk : k < 64) :
    (a * 2 ^ (64 - k) % 18446744073709551616 ||| b / 2 ^ k ||| stk (b * 2 ^ (64 - k) % 18446744073709551616)) < 18446744073709551616 ∧ a / 2 ^ k < 18446744073709551616 ∧
    dn (a * 18446744073709551616 + b) k = a / 2 ^ k * 18446744073709551616 + (a * 2 ^ (64 - k) % 18446744073709551616 ||| b / 2 ^ k ||| stk (b * 2 ^ (64 - k) % 18446744073709551616)) := by
  have e : 18446744073709551616 = 2 ^ k * 2 ^ (64 - k) := by rw [← Nat.pow_add, show k + (64 - k) = 64 by omega]
  have hp : 0 < 2 ^ k := Nat.two_pow_pos k
  have hq : 0 < 2 ^ (64 - k) := Nat.two_pow_pos _
  have h1 : a * 2 ^ (64 - k) % 18446744073709551616 = (a % 2 ^ k) * 2 ^ (64 - k) := by rw [e, Nat.mul_mod_mul_right]
  have h2 : b * 2 ^ (64 - k) % 18446744073709551616 = (b % 2 ^ k) * 2 ^ (64 - k) := by rw [e, Nat.mul_mod_mul_right]
  have h3 : b / 2 ^ k < 2 ^ (64 - k) := by rw [Nat.div_lt_iff_lt_mul hp, Nat.mul_comm, ← e]; exact hb
  have h4 : stk (b % 2 ^ k * 2 ^ (64 - k)) = stk (b % 2 ^ k) := by
    unfold stk
    by_cases c : b % 2 ^ k = 0
    · rw [c]; simp
    · rw [if_neg c, if_neg (Nat.mul_ne_zero c (by omega))]
  have h5 : (a * 18446744073709551616 + b) / 2 ^ k = a * 2 ^ (64 - k) + b / 2 ^ k := by
    rw [e, show a * (2 ^ k * 2 ^ (64 - k)) + b = b + 2 ^ k * (a * 2 ^ (64 - k)) by grind, Nat.add_mul_div_left _ _ hp]; omega
  have h6 : (a * 18446744073709551616 + b) % 2 ^ k = b % 2 ^ k := by
    rw [e, show a * (2 ^ k * 2 ^ (64 - k)) + b = b + 2 ^ k * (a * 2 ^ (64 - k)) by grind, Nat.add_mul_mod_self_left]
  have h7 : a * 2 ^ (64 - k) = a / 2 ^ k * 18446744073709551616 + (a % 2 ^ k) * 2 ^ (64 - k) := by
    have := Nat.div_add_mod a (2 ^ k)
    rw [e, ← Nat.mul_assoc, ← Nat.add_mul, Nat.mul_comm (a / 2 ^ k), this]
  have h8 : (a % 2 ^ k) * 2 ^ (64 - k) + 2 ^ (64 - k) ≤ 18446744073709551616 := by
    have : (a % 2 ^ k + 1) * 2 ^ (64 - k) ≤ 2 ^ k * 2 ^ (64 - k) := Nat.mul_le_mul_right _ (Nat.mod_lt _ hp)
    rw [Nat.add_mul, Nat.one_mul, ← e] at this; exact this
  rw [h1, h2, h4, or_add _ _ _ h3]
  have h9 : a / 2 ^ k ≤ a := Nat.div_le_self _ _
  unfold dn
  rw [h5, h6, h7, or_stk, or_stk]
  generalize a % 2 ^ k * 2 ^ (64 - k) = p at *
  generalize 2 ^ (64 - k) = q at *
  generalize b / 2 ^ k = r at *
  generalize a / 2 ^ k = s at *
  have hodd : (p + r) % 2 = 1 ∨ p + r + 1 < 18446744073709551616 := by omega
  split
  · refine ⟨by omega, by omega, by omega⟩
  · refine ⟨by omega, by omega, by omega⟩

theorem or_stk_lt (a b : Nat) (h : a < 18446744073709551616) : a ||| stk b < 18446744073709551616 := Nat.or_lt_two_pow (n := 64) h (Nat.lt_trans (stk_lt b) (by decide))
theorem only_set2 (g : Nat) (w : World) (a b : Value) : Only g w ((w.setCell ⟨g, 0, none⟩ a).setCell ⟨g, 1, none⟩ b) := (Only.set _ _ _ _).setv _ _
theorem rest_stk (w : World) (x : Nat) (hx : x < 18446744073709551616) : Calls Tryz.prog 67 #[.int .u64 x] w fun e w' => e = .returned (.int .u64 (stk x : Nat)) ∧ w' = w := rest_any w x hx

set_option maxHeartbeats 4000000 in
set_option maxRecDepth 100000 in
theorem wdown_any {w : World} {v : Value} {n : Nat} {k : Nat} (h : WV v n) (hk : k ≤ 9000000000000000000) : Calls Tryz.prog 60 #[v, .int .i64 k] w fun e w' => ∃ x, e = .returned x ∧ WV x (dn n k) ∧ Fwd w w' := by
  have hn := h.lt
  obtain ⟨a, b, rfl, h1, h2, hab⟩ := h
  have k0 : BlkV ((w.alloc (.cells #[.int .u64 a, .int .u64 b] 78)).alloc (.cells #[.int .u64 0, .int .u64 0] 78)) w.heap.size 78 [.int .u64 a, .int .u64 b] := (BlkV.made w _ [.int .u64 a, .int .u64 b]).alloc _
  have k1 : BlkV ((w.alloc (.cells #[.int .u64 a, .int .u64 b] 78)).alloc (.cells #[.int .u64 0, .int .u64 0] 78)) (w.heap.size + 1) 78 [.int .u64 0, .int .u64 0] := BlkV.made' _ _ (by simp) _ [.int .u64 0, .int .u64 0]
  have HA := hid hab
  have HN := hid hn
  clear hn hab
  by_cases c : k ≤ 128
  · have hc : (k : Int) ≤ 128 := by omega
    go_enter Tryz.func60, Tryz.ntmps60
    go_wp2
    go_loopw [1] (fun kv wr => ∃ (i a b : Nat), kv = .int .i64 i ∧ i ≤ 128 ∧ a < 18446744073709551616 ∧ b < 18446744073709551616 ∧ dn (a * 18446744073709551616 + b) i = dn n k ∧ BlkV wr w.heap.size 78 [.int .u64 a, .int .u64 b] ∧ BlkV wr (w.heap.size + 1) 78 [.int .u64 0, .int .u64 0] ∧ Fwd w wr) (fun kv _ => (intOf kv).toNat)
    case atStart => exact ⟨k, a, b, rfl, by omega, h1, h2, by rw [← HA.out], k0, k1, ((Fwd.refl w).alloc _).alloc _⟩
    case round =>
      clear k0 k1 h1 h2 HA HN
      obtain ⟨i, a, b, rfl, hi, h1, h2, heq, k0, k1, hF⟩ := hrel
      have HE := hid heq
      clear heq
      have c0 := BlkV.cell k0 0 rfl
      have c1 := BlkV.cell k0 1 rfl
      have z0 := BlkV.frozen k0 0
      have z1 := BlkV.frozen k0 1
      by_cases hlt : 64 ≤ i
      · have hi1 : (64 : Int) ≤ i := by omega
        have hs := stk_lt b
        have e1 := bits_or_u64_nat a (stk b) h1 (by omega)
        have HO := hid (or_stk_lt a b h1)
        go_wp2_with fail
        go_region_with (go_at_call 67; refine (rest_stk _ b h2).mono ?_; rintro e w1 ⟨rfl, rfl⟩)
        all_goals go_wp2
        all_goals go_roundw
        all_goals first
          | (show _ < _; simp [intOf] <;> omega)
          | (have hon := only_set2 w.heap.size wr (.int .u64 0) (.int .u64 ((a ||| stk b : Nat) : Int))
             refine ⟨i - 64, 0, a ||| stk b, by go_num, by omega, by omega, HO.out, ?_, ((BlkV.set k0 0 (.int .u64 0)).set 1 (.int .u64 ((a ||| stk b : Nat) : Int))).drewN 1, (BlkV.only k1 hon (by omega)).drewN 1, (hF.wrote hon (Nat.le_refl _)).drew⟩
             rw [Nat.zero_mul, Nat.zero_add, dn_step a b (i - 64) h2, show 64 + (i - 64) = i by omega]
             exact HE.out)
      · have hi1 : ¬ (64 : Int) ≤ i := by omega
        have e1 : IntKind.u64.wrap ((b : Int) * 2 ^ (64 - i)) = ((b * 2 ^ (64 - i) % 18446744073709551616 : Nat) : Int) := by rw [← wrapAny]; congr 1
        have e2 : IntKind.u64.wrap ((a : Int) * 2 ^ (64 - i)) = ((a * 2 ^ (64 - i) % 18446744073709551616 : Nat) : Int) := by rw [← wrapAny]; congr 1
        have e3 : (b : Int) / 2 ^ i = ((b / 2 ^ i : Nat) : Int) := by rw [Int.natCast_ediv]; congr 1
        have e4 : (a : Int) / 2 ^ i = ((a / 2 ^ i : Nat) : Int) := by rw [Int.natCast_ediv]; congr 1
        have K := dn_math a b i h1 h2 (by omega)
        have hL : b * 2 ^ (64 - i) % 18446744073709551616 < 18446744073709551616 := Nat.mod_lt _ (by omega)
        have hA : a * 2 ^ (64 - i) % 18446744073709551616 < 18446744073709551616 := Nat.mod_lt _ (by omega)
        have hB : b / 2 ^ i < 18446744073709551616 := Nat.lt_of_le_of_lt (Nat.div_le_self _ _) h2
        generalize b * 2 ^ (64 - i) % 18446744073709551616 = L at e1 K hL
        generalize a * 2 ^ (64 - i) % 18446744073709551616 = A at e2 K hA
        generalize b / 2 ^ i = B at e3 K hB
        generalize a / 2 ^ i = D at e4 K
        have hs := stk_lt L
        have hw : IntKind.i64.wrap (64 - (i : Int)) = ((64 - i : Nat) : Int) := by simp [IntKind.wrap, IntKind.bits, IntKind.signed]; omega
        have e5 := bits_or_u64_nat A B hA hB
        have hAB : A ||| B < 18446744073709551616 := Nat.or_lt_two_pow (n := 64) hA hB
        have e6 := bits_or_u64_nat (A ||| B) (stk L) hAB (by omega)
        generalize A ||| B = P at e5 e6 K
        generalize P ||| stk L = R at e6 K
        have HK := hid K
        clear K
        go_wp2_with fail
        clear c0 c1 z0 z1
        have r0' := BlkV.cell k1 0 rfl
        have r1' := BlkV.cell k1 1 rfl
        have z0' := BlkV.frozen k1 0
        have z1' := BlkV.frozen k1 1
        have c0' := BlkV.cell k0 0 rfl
        have c1' := BlkV.cell k0 1 rfl
        have k1' := k1
        replace k0 := k0.drew
        replace k1 := k1.drew
        have c0 := BlkV.cell k0 0 rfl
        have c1 := BlkV.cell k0 1 rfl
        have r0 := BlkV.cell k1 0 rfl
        have r1 := BlkV.cell k1 1 rfl
        have z0 := BlkV.frozen k1 0
        have z1 := BlkV.frozen k1 1
        go_region_held3 (fun w' => w'.cell? ⟨w.heap.size, 0, none⟩ = some (.int .u64 a) ∧ w'.cell? ⟨w.heap.size, 1, none⟩ = some (.int .u64 b))
          (first | exact ⟨by with_reducible assumption, by with_reducible assumption⟩ | exact ⟨(farset (by simp; try omega) (farset (by simp; try omega) (by with_reducible assumption))), (farset (by simp; try omega) (farset (by simp; try omega) (by with_reducible assumption)))⟩)
          (first | (go_at_call 67; refine (rest_stk _ L hL).mono ?_; rintro e w1 ⟨rfl, rfl⟩))
        go_wp2
        have hz0 := BlkV.set k1' 0 (.int .u64 (D : Int))
        have hz := hz0.set 1 (.int .u64 (R : Int))
        have hon := only_set2 (w.heap.size + 1) wr (.int .u64 (D : Int)) (.int .u64 (R : Int))
        have s0 := BlkV.cell hz0 0 rfl
        have r0 := BlkV.cell hz 0 rfl
        have r1 := BlkV.cell hz 1 rfl
        refine bodyPost_ret (by simp [results, Tryz.results60, go_sem, r0, r1]; try rfl) rfl ?_
        exact ⟨_, rfl, ⟨D, R, rfl, HK.out.2.1, HK.out.1, HE.out.symm.trans HK.out.2.2⟩, (hF.wrote hon (by omega)).drew⟩
  · have hc : 128 < (k : Int) := by omega
    have hK : dn n k = dn n 128 := by
      have := Nat.pow_le_pow_right (n := 2) (by decide) (show 128 ≤ k by omega)
      rw [dn_far n 128 HN.out, dn_far n k (Nat.lt_of_lt_of_le HN.out this)]
    rw [hK]
    clear hK
    go_enter Tryz.func60, Tryz.ntmps60
    go_wp2
    go_loopw [1] (fun kv wr => ∃ (i a b : Nat), kv = .int .i64 i ∧ i ≤ 128 ∧ a < 18446744073709551616 ∧ b < 18446744073709551616 ∧ dn (a * 18446744073709551616 + b) i = dn n 128 ∧ BlkV wr w.heap.size 78 [.int .u64 a, .int .u64 b] ∧ BlkV wr (w.heap.size + 1) 78 [.int .u64 0, .int .u64 0] ∧ Fwd w wr) (fun kv _ => (intOf kv).toNat)
    case atStart => exact ⟨128, a, b, rfl, by omega, h1, h2, by rw [← HA.out], k0, k1, ((Fwd.refl w).alloc _).alloc _⟩
    case round =>
      clear k0 k1 h1 h2 HA HN
      obtain ⟨i, a, b, rfl, hi, h1, h2, heq, k0, k1, hF⟩ := hrel
      have HE := hid heq
      clear heq
      have c0 := BlkV.cell k0 0 rfl
      have c1 := BlkV.cell k0 1 rfl
      have z0 := BlkV.frozen k0 0
      have z1 := BlkV.frozen k0 1
      by_cases hlt : 64 ≤ i
      · have hi1 : (64 : Int) ≤ i := by omega
        have hs := stk_lt b
        have e1 := bits_or_u64_nat a (stk b) h1 (by omega)
        have HO := hid (or_stk_lt a b h1)
        go_wp2_with fail
        go_region_with (go_at_call 67; refine (rest_stk _ b h2).mono ?_; rintro e w1 ⟨rfl, rfl⟩)
        all_goals go_wp2
        all_goals go_roundw
        all_goals first
          | (show _ < _; simp [intOf] <;> omega)
          | (have hon := only_set2 w.heap.size wr (.int .u64 0) (.int .u64 ((a ||| stk b : Nat) : Int))
             refine ⟨i - 64, 0, a ||| stk b, by go_num, by omega, by omega, HO.out, ?_, ((BlkV.set k0 0 (.int .u64 0)).set 1 (.int .u64 ((a ||| stk b : Nat) : Int))).drewN 1, (BlkV.only k1 hon (by omega)).drewN 1, (hF.wrote hon (Nat.le_refl _)).drew⟩
             rw [Nat.zero_mul, Nat.zero_add, dn_step a b (i - 64) h2, show 64 + (i - 64) = i by omega]
             exact HE.out)
      · have hi1 : ¬ (64 : Int) ≤ i := by omega
        have e1 : IntKind.u64.wrap ((b : Int) * 2 ^ (64 - i)) = ((b * 2 ^ (64 - i) % 18446744073709551616 : Nat) : Int) := by rw [← wrapAny]; congr 1
        have e2 : IntKind.u64.wrap ((a : Int) * 2 ^ (64 - i)) = ((a * 2 ^ (64 - i) % 18446744073709551616 : Nat) : Int) := by rw [← wrapAny]; congr 1
        have e3 : (b : Int) / 2 ^ i = ((b / 2 ^ i : Nat) : Int) := by rw [Int.natCast_ediv]; congr 1
        have e4 : (a : Int) / 2 ^ i = ((a / 2 ^ i : Nat) : Int) := by rw [Int.natCast_ediv]; congr 1
        have K := dn_math a b i h1 h2 (by omega)
        have hL : b * 2 ^ (64 - i) % 18446744073709551616 < 18446744073709551616 := Nat.mod_lt _ (by omega)
        have hA : a * 2 ^ (64 - i) % 18446744073709551616 < 18446744073709551616 := Nat.mod_lt _ (by omega)
        have hB : b / 2 ^ i < 18446744073709551616 := Nat.lt_of_le_of_lt (Nat.div_le_self _ _) h2
        generalize b * 2 ^ (64 - i) % 18446744073709551616 = L at e1 K hL
        generalize a * 2 ^ (64 - i) % 18446744073709551616 = A at e2 K hA
        generalize b / 2 ^ i = B at e3 K hB
        generalize a / 2 ^ i = D at e4 K
        have hs := stk_lt L
        have hw : IntKind.i64.wrap (64 - (i : Int)) = ((64 - i : Nat) : Int) := by simp [IntKind.wrap, IntKind.bits, IntKind.signed]; omega
        have e5 := bits_or_u64_nat A B hA hB
        have hAB : A ||| B < 18446744073709551616 := Nat.or_lt_two_pow (n := 64) hA hB
        have e6 := bits_or_u64_nat (A ||| B) (stk L) hAB (by omega)
        generalize A ||| B = P at e5 e6 K
        generalize P ||| stk L = R at e6 K
        have HK := hid K
        clear K
        go_wp2_with fail
        clear c0 c1 z0 z1
        have r0' := BlkV.cell k1 0 rfl
        have r1' := BlkV.cell k1 1 rfl
        have z0' := BlkV.frozen k1 0
        have z1' := BlkV.frozen k1 1
        have c0' := BlkV.cell k0 0 rfl
        have c1' := BlkV.cell k0 1 rfl
        have k1' := k1
        replace k0 := k0.drew
        replace k1 := k1.drew
        have c0 := BlkV.cell k0 0 rfl
        have c1 := BlkV.cell k0 1 rfl
        have r0 := BlkV.cell k1 0 rfl
        have r1 := BlkV.cell k1 1 rfl
        have z0 := BlkV.frozen k1 0
        have z1 := BlkV.frozen k1 1
        go_region_held3 (fun w' => w'.cell? ⟨w.heap.size, 0, none⟩ = some (.int .u64 a) ∧ w'.cell? ⟨w.heap.size, 1, none⟩ = some (.int .u64 b))
          (first | exact ⟨by with_reducible assumption, by with_reducible assumption⟩ | exact ⟨(farset (by simp; try omega) (farset (by simp; try omega) (by with_reducible assumption))), (farset (by simp; try omega) (farset (by simp; try omega) (by with_reducible assumption)))⟩)
          (first | (go_at_call 67; refine (rest_stk _ L hL).mono ?_; rintro e w1 ⟨rfl, rfl⟩))
        go_wp2
        have hz0 := BlkV.set k1' 0 (.int .u64 (D : Int))
        have hz := hz0.set 1 (.int .u64 (R : Int))
        have hon := only_set2 (w.heap.size + 1) wr (.int .u64 (D : Int)) (.int .u64 (R : Int))
        have s0 := BlkV.cell hz0 0 rfl
        have r0 := BlkV.cell hz 0 rfl
        have r1 := BlkV.cell hz 1 rfl
        refine bodyPost_ret (by simp [results, Tryz.results60, go_sem, r0, r1]; try rfl) rfl ?_
        exact ⟨_, rfl, ⟨D, R, rfl, HK.out.2.1, HK.out.1, HE.out.symm.trans HK.out.2.2⟩, (hF.wrote hon (by omega)).drew⟩
end Go.Proofs.YtfegepkhfckamaaGreatDoor
