/- Div, whatever the divisor; limbs that are written out. -/
import Derived.Test.YtbkphjmhmfgpgabDoorD8
import Derived.Test.YtbkphjmhmfgpgabDoorD6
namespace Go.Proofs.YtbkphjmhmfgpgabDoor
open Go.RowKit
set_option linter.unusedVariables false

/-- What is left; nought where the divisor is. -/
def remV (m n : Nat) : Nat := if n = 0 then 0 else m % n
/-- The error beside it. -/
def divE (n : Nat) : Int := if n = 0 then 5 else 0
theorem nl_remV (m n : Nat) : nl (remV m n) ≤ nl m := by
  unfold remV
  split
  · rw [nl_zero]; omega
  · exact nl_mono (Nat.mod_le _ _)
theorem nl_div (m n : Nat) : nl (m / n) ≤ nl m := nl_mono (Nat.div_le_self _ _)

theorem div_each {w : World} {a b : Value} {m n : Nat} (ha : Num w a m) (hb : Num w b n) (hm : nl m ≤ 10000000) (hn : nl n ≤ 10000000) :
    Calls Tryd.prog 11 #[a, b] w fun e w' => ∃ q r, e = .returned (.tuple #[q, r, .int .i64 (divE n)]) ∧ Num w' q (m / n) ∧ Num w' r (remV m n) ∧ Fwd w w' := by
  by_cases h : n = 0
  · subst h
    refine (div_zero ha hb).mono ?_
    rintro e w1 ⟨rfl, hf⟩
    exact ⟨_, _, rfl, by rw [Nat.div_zero]; exact num_nil _, num_nil _, hf⟩
  · refine (div_any ha hb hm hn h).mono ?_
    rintro e w1 ⟨q, r, rfl, hq, hr, hf⟩
    exact ⟨q, r, by rw [divE, if_neg h], hq, by rw [remV, if_neg h]; exact hr, hf⟩

set_option maxHeartbeats 2000000 in
theorem refDiv_zero {w : World} {a b : Value} {m : Nat} (ha : Num w a m) (hb : Num w b 0) :
    Calls Tryd.prog 17 #[a, b] w fun e w' => e = .returned (.tuple #[.slice none 0 0, .slice none 0 0, .int .i64 5]) ∧ Fwd w w' := by
  obtain ⟨bo, cb, rfl, hcb, hcmb, hcellb⟩ := hb.parts
  unfold maxLen at hcmb
  clear hcellb
  have h0 : nl 0 = 0 := nl_zero
  rw [h0]
  go_enter Tryd.func17, Tryd.ntmps17
  go_wp2
  go_ret3
  exact ⟨rfl, Fwd.refl _⟩

theorem refDiv_each {w : World} {a b : Value} {m n : Nat} (ha : Num w a m) (hb : Num w b n) (hm : nl m ≤ 30000) (hn : nl n ≤ 30000) :
    Calls Tryd.prog 17 #[a, b] w fun e w' => ∃ q r, e = .returned (.tuple #[q, r, .int .i64 (divE n)]) ∧ Num w' q (m / n) ∧ Num w' r (remV m n) ∧ Fwd w w' := by
  by_cases h : n = 0
  · subst h
    refine (refDiv_zero ha hb).mono ?_
    rintro e w1 ⟨rfl, hf⟩
    exact ⟨_, _, rfl, by rw [Nat.div_zero]; exact num_nil _, num_nil _, hf⟩
  · refine (refDiv_any ha hb hm hn h).mono ?_
    rintro e w1 ⟨q, r, rfl, hq, hr, hf⟩
    exact ⟨q, r, by rw [divE, if_neg h], hq, by rw [remV, if_neg h]; exact hr, hf⟩

/-- Limbs that the text itself lays. -/
theorem num_lit (w : World) (L : List Nat) (n : Nat) (h : L = lim n) (c : Nat) (hc : c = L.length) (hs : c ≤ 1000) (o : Array Value) (ho : o = (cellsOf L).toArray) : Num (w.alloc (.cells o 33)) (.slice (some ⟨w.heap.size, 0, none⟩) c c) n := by
  subst hc
  have hb := Blk.lit w L (by rw [h]; exact ok_lim n) o ho
  have := Blk.rdAll hb L.length (Nat.le_refl _) (le_maxLen (by omega))
  unfold Num
  rwa [← h]

theorem gcd_mul_right' (x y k : Nat) : Nat.gcd (x * k) (y * k) = Nat.gcd x y * k := Nat.gcd_mul_right _ _ _
theorem gcd_parts {x y : Nat} (h : Nat.gcd x y ≠ 0) : Nat.gcd (x / Nat.gcd x y) (y / Nat.gcd x y) = 1 := by
  rw [Nat.gcd_div (Nat.gcd_dvd_left _ _) (Nat.gcd_dvd_right _ _)]
  exact Nat.div_self (Nat.pos_of_ne_zero h)
theorem nl_gcd_left (x y : Nat) (h : x ≠ 0) : nl (Nat.gcd x y) ≤ nl x := nl_mono (Nat.le_of_dvd (Nat.pos_of_ne_zero h) (Nat.gcd_dvd_left _ _))
theorem nl_gcd (x y : Nat) : nl (Nat.gcd x y) ≤ max (nl x) (nl y) := by
  by_cases h : x = 0
  · subst h; rw [Nat.gcd_zero_left]; omega
  · have := nl_gcd_left x y h; omega

end Go.Proofs.YtbkphjmhmfgpgabDoor
