/- Binary digits: math/bits.Len32, nat's Bits, and the second telling's. -/
import Derived.Test.YtbkphjmhmfgpgabDoorW10
import Derived.Lib.Tables
import Derived.Deep.Cut
namespace Go.Proofs.YtbkphjmhmfgpgabDoor
open Go.RowKit
set_option linter.unusedVariables false

/-- How many binary digits. -/
def blen (n : Nat) : Nat := if n = 0 then 0 else Nat.log2 n + 1
theorem blen_zero : blen 0 = 0 := rfl
theorem blen_le_iff (n k : Nat) : blen n ≤ k ↔ n < 2 ^ k := by
  unfold blen
  split
  · rename_i h; subst h; simp [Nat.two_pow_pos]
  · rename_i h; rw [← Nat.log2_lt h]; omega
theorem blen_eq {n k : Nat} (h1 : 2 ^ k ≤ n) (h2 : n < 2 ^ (k + 1)) : blen n = k + 1 := by
  have a := (blen_le_iff n (k + 1)).2 h2
  have b : ¬ blen n ≤ k := fun h => by have := (blen_le_iff n k).1 h; omega
  omega
theorem blen_div (n k : Nat) (h : 2 ^ k ≤ n) : blen n = blen (n / 2 ^ k) + k := by
  have hp := Nat.two_pow_pos k
  have h1 : ∀ j, blen n ≤ j + k ↔ blen (n / 2 ^ k) ≤ j := by
    intro j
    rw [blen_le_iff, blen_le_iff, Nat.div_lt_iff_lt_mul hp, Nat.pow_add]
  have h2 : ¬ blen n ≤ k := fun h' => by have := (blen_le_iff n k).1 h'; omega
  have a := (h1 (blen (n / 2 ^ k))).2 (Nat.le_refl _)
  have b := (h1 (blen n - k)).1 (by omega)
  omega
theorem len8_blen : ∀ i : Fin 256, Lib.len8 (i.val : Int) = (blen i.val : Int) := by decide +kernel

theorem ret_int {k : IntKind} {a b : Int} (h : a = b) : Ending.returned (.int k a) = .returned (.int k b) := by rw [h]
theorem blen_half {x : Nat} (h : 0 < x) : blen x = blen (x / 2) + 1 := by
  by_cases h1 : x = 1
  · subst h1; decide
  · exact blen_div x 1 (by omega)
theorem top_limb {n : Nat} (h : n ≠ 0) : n / 4294967296 ^ (nl n - 1) = (lim n).getD (nl n - 1) 0 := by
  have hp : nl n = nl (n / 4294967296) + 1 := nl_pos h
  have h1 := val_split (lim n) (nl n - 1) (by show nl n - 1 ≤ nl n; omega)
  have h2 := val_drop_cons (xs := lim n) (k := nl n - 1) (by show nl n - 1 < nl n; omega)
  have h3 : (lim n).drop (nl n - 1 + 1) = [] := List.drop_eq_nil_of_le (by show nl n ≤ _; omega)
  rw [h3, val, Nat.mul_zero, Nat.add_zero] at h2
  rw [val_lim, h2] at h1
  have h4 := val_take_lt (ok_lim n) (nl n - 1)
  generalize 4294967296 ^ (nl n - 1) = P at *
  generalize (lim n).getD (nl n - 1) 0 = t at *
  generalize val ((lim n).take (nl n - 1)) = l at *
  rw [h1, Nat.add_mul_div_left _ _ (by omega), Nat.div_eq_of_lt h4]; omega
theorem pow32 (k : Nat) : 4294967296 ^ k = 2 ^ (32 * k) := by rw [Nat.pow_mul]
theorem blen_limbs {n : Nat} (h : n ≠ 0) : blen n = 32 * (nl n - 1) + blen ((lim n).getD (nl n - 1) 0) := by
  have h1 := nl_ge_pow h
  rw [pow32] at h1
  rw [blen_div n (32 * (nl n - 1)) h1, ← pow32, top_limb h]; omega
theorem blen_nl (n : Nat) : blen n ≤ 32 * nl n := by
  rw [blen_le_iff, ← pow32]; exact lt_pow_nl n

theorem run_str (w : World) (s : ByteArray) (hs : s.size = 256) (k : IntKind) (y b : Nat) (hy : y < 256) (hb : (s[y]?).map (·.toNat) = some b) : (Instr.index 9 (.string s) (.int k (y : Int))).run Tryd.prog w = .ok (.int .u8 (b : Nat)) w := by
  have hi : 0 ≤ (y : Int) ∧ (y : Int) < (s.size : Int) := by rw [hs]; omega
  have h2 : y < s.size := by rw [hs]; omega
  rw [run_index_string w 9 s k y Tryd.underlying9, dif_pos hi]
  simp only [Int.toNat_natCast]
  congr 2
  have h4 : s[y]? = some s[y] := getElem?_pos s y h2
  rw [h4] at hb
  simp at hb
  rw [hb]

/-- A byte of a constant table. -/
theorem law_tab {w : World} {ops : Array Oper} {rest : List Oper} {o : Oper} {a : Act} {Q : Exit → Act → World → Prop} (hgd : o.guard = none) {s : ByteArray} (x : Operand)
    (ho : o.op = .index 9 (.const (.string s)) x) (hs : s.size = 256) (hall : ∀ i : Fin 256, (s[i.val]?).map (·.toNat) = some (blen i.val)) (k : IntKind) (v : Int) (y : Nat) (hx : a.eval x = .int k v) (hv : v = (y : Int)) (hy : y < 256)
    (h : wpList Tryd.prog ops Q rest (a.put o.dst (.int .u8 (blen y : Nat))) w) : wpList Tryd.prog ops Q (o :: rest) a w := by
  subst hv
  refine wpList_plain hgd fun K hK => ?_
  have hrun := run_str w s hs k y (blen y) hy (hall ⟨y, hy⟩)
  have hc : a.eval (.const (.string s)) = .string s := rfl
  unfold Oper.wp
  simp [execOp, ho, hx, hc, hrun, Result.andThen]
  exact hK _ _ h

set_option maxHeartbeats 1000000 in
set_option maxRecDepth 100000 in
theorem len32_any (w : World) (x : Nat) (hx : x < 4294967296) : Calls Tryd.prog 50 #[.int .u32 x] w fun e w' => e = .returned (.int .i64 (blen x)) ∧ w' = w := by
  go_enter Tryd.func50, Tryd.ntmps50
  generalize hT : (ByteArray.mk (List.append (List.append _ _) (List.append _ _)).toArray) = T
  have hsz : T.size = 256 := by rw [← hT]; decide +kernel
  have hall : ∀ i : Fin 256, (T[i.val]?).map (·.toNat) = some (blen i.val) := by rw [← hT]; decide +kernel
  clear hT
  have HS := hid hsz
  have HA := hid hall
  clear hsz hall
  have e16 : 65536 ≤ x → blen x = blen (x / 65536) + 16 := fun h => blen_div x 16 h
  have e8 : ∀ y, 256 ≤ y → blen y = blen (y / 256) + 8 := fun y h => blen_div y 8 h
  have E := hid (And.intro e16 e8)
  clear e16 e8
  by_cases h1 : x < 65536
  · by_cases h2 : x < 256
    · have hb : blen x ≤ 8 := (blen_le_iff x 8).2 (by omega)
      have i1 : decide (65536 ≤ (x : Int)) = false := decide_eq_false (by omega)
      have i2 : decide (256 ≤ (x : Int)) = false := decide_eq_false (by omega)
      go_wp2_with (with_reducible refine law_tab (by with_unfolding_all rfl) (.tmp 15) (by with_unfolding_all rfl) HS.out HA.out .u8 _ x (by with_unfolding_all rfl) (by omega) h2 ?_)
      go_ret
      exact ⟨by simp, rfl⟩
    · have hy : x / 256 < 256 := by omega
      have hb : blen (x / 256) ≤ 8 := (blen_le_iff _ 8).2 (by omega)
      have HE := hid (E.out.2 x (by omega))
      have i1 : decide (65536 ≤ (x : Int)) = false := decide_eq_false (by omega)
      have i2 : 256 ≤ (x : Int) := by omega
      go_wp2_with (with_reducible refine law_tab (by with_unfolding_all rfl) (.tmp 15) (by with_unfolding_all rfl) HS.out HA.out .u8 _ (x / 256) (by with_unfolding_all rfl) (by omega) hy ?_)
      go_ret
      exact ⟨ret_int (by rw [HE.out]; omega), rfl⟩
  · by_cases h2 : x / 65536 < 256
    · have hb : blen (x / 65536) ≤ 8 := (blen_le_iff _ 8).2 (by omega)
      have HE := hid (E.out.1 (by omega))
      have i1 : 65536 ≤ (x : Int) := by omega
      have i2 : (x : Int) / 65536 < 256 := by omega
      go_wp2_with (with_reducible refine law_tab (by with_unfolding_all rfl) (.tmp 15) (by with_unfolding_all rfl) HS.out HA.out .u8 _ (x / 65536) (by with_unfolding_all rfl) (by omega) h2 ?_)
      go_ret
      exact ⟨ret_int (by rw [HE.out]; omega), rfl⟩
    · have hy : x / 65536 / 256 < 256 := by omega
      have hb : blen (x / 65536 / 256) ≤ 8 := (blen_le_iff _ 8).2 (by omega)
      have HE := hid ((E.out.1 (by omega)).trans (by rw [E.out.2 (x / 65536) (by omega)]))
      have i1 : 65536 ≤ (x : Int) := by omega
      have i2 : 256 ≤ (x : Int) / 65536 := by omega
      go_wp2_with (with_reducible refine law_tab (by with_unfolding_all rfl) (.tmp 15) (by with_unfolding_all rfl) HS.out HA.out .u8 _ (x / 65536 / 256) (by with_unfolding_all rfl) (by omega) hy ?_)
      go_ret
      exact ⟨ret_int (by rw [HE.out]; omega), rfl⟩

set_option maxHeartbeats 1000000 in
theorem bits_any {w : World} {a : Value} {n : Nat} (ha : Num w a n) (hn : nl n ≤ 100000000) :
    Calls Tryd.prog 22 #[a] w fun e w' => e = .returned (.int .i64 (blen n)) ∧ Fwd w w' := by
  go_enter Tryd.func22, Tryd.ntmps22
  go_wp2_with fail
  refine (trim_num ha).mono ?_
  rintro e w1 ⟨va, rfl, hna, hoa, rfl⟩
  obtain ⟨ao, ca, rfl, hca, hcma, hcella⟩ := hna.parts
  unfold maxLen at hcma
  clear ha hoa hna
  by_cases h0 : n = 0
  · have h1 : nl n = 0 := by rw [h0, nl_zero]
    have HB : Hid (blen n = 0) := hid (by rw [h0]; rfl)
    rw [h1]
    clear h0
    go_wp2
    go_ret
    exact ⟨by rw [HB.out]; rfl, Fwd.refl _⟩
  · have hpos : 0 < nl n := by rw [nl_pos h0]; omega
    have hne : ((nl n : Int) == 0) = false := by simp; omega
    have HB := hid (blen_limbs h0)
    obtain ⟨ab, aof, rfl, hxk⟩ := hcella (nl n - 1) (by omega)
    obtain ⟨x, hx⟩ : ∃ x, x = (lim n).getD (nl n - 1) 0 := ⟨_, rfl⟩
    rw [← hx] at hxk HB
    have hxb : x < 4294967296 := by rw [hx]; exact (ok_lim n).getD _
    have hbx : blen x ≤ 32 := (blen_le_iff x 32).2 (by omega)
    clear h0 hx
    go_wp2_with fail
    refine (len32_any _ x hxb).mono ?_
    rintro e w1 ⟨rfl, hw⟩
    subst hw
    go_wp2
    go_ret
    exact ⟨ret_int (by rw [HB.out]; omega), Fwd.refl _⟩

set_option maxHeartbeats 1000000 in
theorem refBits_any {w : World} {a : Value} {n : Nat} (ha : Num w a n) (hn : nl n ≤ 100000000) :
    Calls Tryd.prog 40 #[a] w fun e w' => e = .returned (.int .i64 (blen n)) ∧ w = w' := by
  obtain ⟨ao, ca, rfl, hca, hcma, hcella⟩ := ha.parts
  unfold maxLen at hcma
  clear ha
  by_cases h0 : n = 0
  · have h1 : nl n = 0 := by rw [h0, nl_zero]
    have HB : Hid (blen n = 0) := hid (by rw [h0]; rfl)
    rw [h1]
    clear h0
    go_enter Tryd.func40, Tryd.ntmps40
    go_wp2
    go_ret
    exact ⟨by rw [HB.out]; rfl, rfl⟩
  · have hpos : 0 < nl n := by rw [nl_pos h0]; omega
    have hne : ((nl n : Int) == 0) = false := by simp; omega
    have HB := hid (blen_limbs h0)
    obtain ⟨ab, aof, rfl, hxk⟩ := hcella (nl n - 1) (by omega)
    obtain ⟨x, hx⟩ : ∃ x, x = (lim n).getD (nl n - 1) 0 := ⟨_, rfl⟩
    rw [← hx] at hxk HB
    have hxb : x < 4294967296 := by rw [hx]; exact (ok_lim n).getD _
    have hbx : blen x ≤ 32 := (blen_le_iff x 32).2 (by omega)
    clear h0 hx
    go_enter Tryd.func40, Tryd.ntmps40
    go_wp2
    go_loop [3, 4] (fun nv xv => ∃ j y : Nat, nv = .int .i64 (32 * ((nl n : Int) - 1) + j) ∧ xv = .int .u32 y ∧ y < 4294967296 ∧ j ≤ 32 ∧ blen y + j = blen x) (fun _ xv => (intOf xv).toNat)
    case atStart => exact ⟨0, x, by go_num, rfl, hxb, by omega, by omega⟩
    case round =>
      obtain ⟨j, y, rfl, rfl, hy, hj, he⟩ := hrel
      have HE := hid he
      clear he
      by_cases hy0 : y = 0
      · have hy1 : (y : Int) ≤ 0 := by omega
        have HY := hid hy0
        clear hy0
        go_wp2
        go_ret
        refine ⟨ret_int ?_, rfl⟩
        have h5 := HE.out
        rw [HY.out, blen_zero] at h5
        rw [HB.out]; omega
      · have hy1 : 0 < (y : Int) := by omega
        have hh := blen_half (x := y) (by omega)
        have HE2 : Hid (blen (y / 2) + (j + 1) = blen x ∧ j + 1 ≤ 32) := by
          have h5 := HE.out
          exact ⟨by omega, by omega⟩
        clear hh hy0
        go_wp2
        go_round
        case rel => exact ⟨j + 1, y / 2, by go_num, by go_num, by omega, HE2.out.2, HE2.out.1⟩
        case measure => simp [intOf] <;> omega

end Go.Proofs.YtbkphjmhmfgpgabDoor
