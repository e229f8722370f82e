/- Contracts of nat's divide and Div. -/
import Derived.Test.YtbkphjmhmfgpgabDoorD5
namespace Go.Proofs.YtbkphjmhmfgpgabDoor
open Go.RowKit
set_option linter.unusedVariables false

theorem nl_is_one {n : Nat} (h : nl n = 1) : (lim n).getD 0 0 = n ∧ 0 < n ∧ n < 4294967296 := by
  have h1 := (nl_le_iff n 1).1 (by omega)
  have h0 : n ≠ 0 := by rintro rfl; rw [nl_zero] at h; omega
  refine ⟨?_, by omega, by simpa using h1⟩
  rw [lim_pos h0]
  simp at h1 ⊢
  omega

set_option maxHeartbeats 2000000 in
theorem divide_any {w : World} {a b : Value} {m n : Nat} (ha : Num w a m) (hb : Num w b n) (hm : nl m ≤ 10000000) (hn : nl n ≤ 10000000) (hn0 : n ≠ 0) :
    Calls Tryd.prog 32 #[a, b] w fun e w' => ∃ q r, e = .returned (.tuple #[q, r]) ∧ Num w' q (m / n) ∧ Num w' r (m % n) ∧ Fwd w w' := by
  obtain ⟨bo, cb, rfl, hcb, hcmb, hcellb⟩ := hb.parts
  unfold maxLen at hcmb
  have HN0 := hid hn0
  clear hn0
  go_enter Tryd.func32, Tryd.ntmps32
  go_wp2_with fail
  refine (cmp_any ha hb (by omega) (by omega)).mono ?_
  rintro e w1 ⟨rfl, hf1⟩
  have ha1 := ha.fwd hf1
  have hb1 := hb.fwd hf1
  by_cases hlt : m < n
  · rw [cmpI_lt (by omega)]
    have HL := hid hlt
    clear hlt
    go_wp2_with fail
    refine (clone_any ha1 (show nl m ≤ _ by omega)).mono ?_
    rintro e w2 ⟨rfl, hblk, hf2⟩
    have hr : Num w2 (.slice (some ⟨w1.heap.size, 0, none⟩) (lim m).length (lim m).length) m := Blk.rdAll hblk _ (Nat.le_refl _) (le_maxLen (by show nl m ≤ _; omega))
    clear hblk
    go_wp2
    go_ret2
    exact ⟨_, _, rfl, by rw [Nat.div_eq_of_lt HL.out]; exact Rd.nil _, by rw [Nat.mod_eq_of_lt HL.out]; exact hr, hf1.trans hf2⟩
  · have hc : 0 ≤ cmpI m n := by
      by_cases h : n < m
      · rw [cmpI_gt (by omega)]; omega
      · rw [cmpI_eq (by omega)]; omega
    have HL : Hid (n ≤ m) := hid (by omega)
    clear hlt
    generalize cmpI m n = c at *
    by_cases h1 : nl n = 1
    · obtain ⟨bb, bof, rfl, hxk⟩ := hcellb 0 (by omega)
      have hx := nl_is_one h1
      rw [hx.1] at hxk
      have hxk1 := hf1.cell hxk
      have HX := hid hx.2
      obtain ⟨hx2, hx3⟩ := hx.2
      have HN := hid h1
      have hpos : 0 < nl n := by omega
      have hnl : ((nl n : Int) == 1) = true := by simp; omega
      clear hx hxk h1
      go_wp2_with fail
      refine (clone_any ha1 (show nl m ≤ _ by omega)).mono ?_
      rintro e w2 ⟨rfl, hblk, hf2⟩
      have HB : Hid (Blk w2 w1.heap.size ([] ++ (lim m ++ []))) := hid (by simpa using hblk)
      have hxk2 := hf2.cell hxk1
      simp only [Nat.add_zero] at hxk2
      have hlm : (lim m).length ≤ 1000000000 := by show nl m ≤ _; omega
      clear hblk hxk1
      go_wp2_with fail
      refine (divideByLimb_any HB.out rfl rfl (Nat.le_refl _) (le_maxLen (by omega)) hlm hx2 hx3).mono ?_
      rintro e w3 ⟨r, zs, rfl, hzl, hbz, hon, hr, hval⟩
      have hz : Rd w3 (.slice (some ⟨w1.heap.size, 0, none⟩) (lim m).length (lim m).length) zs := by
        have h3 := Blk.rd hbz (lim m).length (by omega) (le_maxLen (by omega))
        rwa [hzl] at h3
      rw [val_lim] at hval
      have HV := hid hval
      have HF3 := hid ((hf1.trans hf2).wrote hon hf1.size)
      clear hval hbz hzl hxk2 hon
      have hr2 : r < 4294967296 := by omega
      go_wp2_with fail
      refine (trim_any hz).mono ?_
      rintro e w4 ⟨v, rfl, hn3, _, hw4⟩
      rw [← hw4]
      clear hw4 w4
      go_wp2_with fail
      refine (of_any w3 r (by omega)).mono ?_
      rintro e w4 ⟨u, rfl, hnu, hf4⟩
      go_wp2
      go_ret2
      have hq : val zs = m / n ∧ r = m % n := by
        rw [HV.out, Nat.mul_comm]
        exact ⟨by rw [Nat.mul_add_div hx2, Nat.div_eq_of_lt hr]; rfl, by rw [Nat.mul_add_mod, Nat.mod_eq_of_lt hr]⟩
      exact ⟨v, u, rfl, by rw [← hq.1]; exact hn3.fwd hf4, by rw [← hq.2]; exact hnu, HF3.out.trans hf4⟩
    · have hnl : ((nl n : Int) == 1) = false := by simp; omega
      have h2 : 2 ≤ nl n := by have := nl_pos HN0.out; omega
      clear h1
      go_wp2_with fail
      refine (divideLong_any ha1 hb1 (by omega) h2 HL.out).mono ?_
      rintro e w2 ⟨q, r, rfl, hq, hr, hf2⟩
      go_wp2
      go_ret2
      exact ⟨q, r, rfl, hq, hr, hf1.trans hf2⟩

set_option maxHeartbeats 2000000 in
theorem div_any {w : World} {a b : Value} {m n : Nat} (ha : Num w a m) (hb : Num w b n) (hm : nl m ≤ 10000000) (hn : nl n ≤ 10000000) (hn0 : n ≠ 0) :
    Calls Tryd.prog 11 #[a, b] w fun e w' => ∃ q r, e = .returned (.tuple #[q, r, .int .i64 0]) ∧ Num w' q (m / n) ∧ Num w' r (m % n) ∧ Fwd w w' := by
  have hp : 0 < nl n := by rw [nl_pos hn0]; omega
  have hne : ((nl n : Int) == 0) = false := by simp; omega
  have HN0 := hid hn0
  clear hn0
  go_enter Tryd.func11, Tryd.ntmps11
  go_wp2_with fail
  refine (trim_num ha).mono ?_
  rintro e w1 ⟨va, rfl, hna, hoa, hw⟩
  rw [← hw]
  clear hw w1
  go_wp2_with fail
  refine (trim_num hb).mono ?_
  rintro e w1 ⟨vb, rfl, hnb, hob, hw⟩
  rw [← hw]
  clear hw w1 ha hb hoa hob
  obtain ⟨bo, cb, rfl, hcb, hcmb, hcellb⟩ := hnb.parts
  unfold maxLen at hcmb
  clear hcellb
  go_wp2_with fail
  refine (divide_any hna hnb hm hn HN0.out).mono ?_
  rintro e w2 ⟨q, r, rfl, hq, hr, hf2⟩
  go_wp2
  go_ret3
  exact ⟨q, r, rfl, hq, hr, hf2⟩

set_option maxHeartbeats 2000000 in
theorem div_zero {w : World} {a b : Value} {m : Nat} (ha : Num w a m) (hb : Num w b 0) :
    Calls Tryd.prog 11 #[a, b] w fun e w' => e = .returned (.tuple #[.slice none 0 0, .slice none 0 0, .int .i64 5]) ∧ Fwd w w' := by
  go_enter Tryd.func11, Tryd.ntmps11
  go_wp2_with fail
  refine (trim_num ha).mono ?_
  rintro e w1 ⟨va, rfl, hna, hoa, hw⟩
  rw [← hw]
  clear hw w1
  go_wp2_with fail
  refine (trim_num hb).mono ?_
  rintro e w1 ⟨vb, rfl, hnb, hob, hw⟩
  rw [← hw]
  clear hw w1 ha hb hoa hob
  obtain ⟨bo, cb, rfl, hcb, hcmb, hcellb⟩ := hnb.parts
  unfold maxLen at hcmb
  clear hcellb
  have h0 : nl 0 = 0 := nl_zero
  rw [h0]
  go_wp2
  go_ret3
  exact ⟨rfl, Fwd.refl _⟩

end Go.Proofs.YtbkphjmhmfgpgabDoor
