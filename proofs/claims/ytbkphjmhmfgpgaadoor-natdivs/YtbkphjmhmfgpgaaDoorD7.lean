/- Contract of the second telling's Div: a bit of the quotient at a time. -/
import Derived.Test.YtbkphjmhmfgpgaaDoorS3
namespace Go.Proofs.YtbkphjmhmfgpgaaDoor
open Go.RowKit
set_option linter.unusedVariables false

theorem blen_ge {n : Nat} (hn : n ≠ 0) : 2 ^ (blen n - 1) ≤ n ∧ 0 < blen n := by
  have hb : 0 < blen n := by
    rcases Nat.eq_zero_or_pos (blen n) with h | h
    · have := (blen_le_iff n 0).1 (by omega)
      simp at this; omega
    · exact h
  refine ⟨?_, hb⟩
  rcases Nat.lt_or_ge n (2 ^ (blen n - 1)) with h | h
  · have := (blen_le_iff n (blen n - 1)).2 h
    omega
  · exact h

theorem bits_start {m n k : Nat} (hn : n ≠ 0) (hk : blen m = blen n + k) : m < n * 2 ^ (k + 1) := by
  have h1 := (blen_le_iff m (blen m)).1 (Nat.le_refl _)
  obtain ⟨h2, hb⟩ := blen_ge hn
  have e : 2 ^ blen m = 2 ^ (blen n - 1) * 2 ^ (k + 1) := by rw [← Nat.pow_add]; congr 1; omega
  rw [e] at h1
  exact Nat.lt_of_lt_of_le h1 (Nat.mul_le_mul_right _ h2)

theorem val_set_add {zs : List Nat} {j d : Nat} (hj : j < zs.length) : val (zs.set j (zs.getD j 0 + d)) = val zs + 4294967296 ^ j * d := by
  rw [val_split (zs.set j _) (j + 1) (by rw [set_len]; omega), val_split zs (j + 1) (by omega), set_val hj, drop_set_succ, val_take_succ zs j, Nat.mul_add]
  omega

theorem bit_limb {zs : List Nat} (hok : Ok zs) {i : Nat} (hd : val zs % 2 ^ (i + 1) = 0) : zs.getD (i / 32) 0 % 2 ^ (i % 32 + 1) = 0 := by
  rw [← val_mod_pow zs hok, pow32]
  obtain ⟨c, hc⟩ := Nat.dvd_of_mod_eq_zero hd
  have e : val zs = 2 ^ (32 * (i / 32)) * (2 ^ (i % 32 + 1) * c) := by
    rw [hc, ← Nat.mul_assoc, ← Nat.pow_add]; congr 2; omega
  rw [e, Nat.mul_div_cancel_left _ (Nat.two_pow_pos _)]
  have hdv : 2 ^ (i % 32 + 1) ∣ 4294967296 := ⟨2 ^ (31 - i % 32), by rw [← Nat.pow_add, show i % 32 + 1 + (31 - i % 32) = 32 by omega]⟩
  rw [Nat.mod_mod_of_dvd _ hdv]; exact Nat.mul_mod_right _ _

theorem bit_room {x s : Nat} (hs : s < 32) (hx : x < 4294967296) (hd : x % 2 ^ (s + 1) = 0) : x + 2 ^ s < 4294967296 ∧ 2 ^ s < 2 ^ (s + 1) ∧ 2 ^ s < 4294967296 := by
  obtain ⟨c, rfl⟩ := Nat.dvd_of_mod_eq_zero hd
  have e : 4294967296 = 2 ^ (s + 1) * 2 ^ (31 - s) := by rw [← Nat.pow_add, show s + 1 + (31 - s) = 32 by omega]
  have hp := Nat.two_pow_pos s
  have h2 : 2 ^ (s + 1) = 2 * 2 ^ s := by rw [Nat.pow_succ, Nat.mul_comm]
  have hc : c < 2 ^ (31 - s) := by
    rw [e] at hx
    exact Nat.lt_of_mul_lt_mul_left hx
  have hm : 2 ^ (s + 1) * (c + 1) ≤ 2 ^ (s + 1) * 2 ^ (31 - s) := Nat.mul_le_mul_left _ hc
  rw [← e, Nat.mul_add, Nat.mul_one] at hm
  exact ⟨by omega, by omega, by omega⟩

theorem or_bit (x s : Nat) (hs : s < 32) (hx : x < 4294967296) (hd : x % 2 ^ (s + 1) = 0) : bits .or .u32 (x : Int) ((2 ^ s : Nat) : Int) = ((x + 2 ^ s : Nat) : Int) := by
  obtain ⟨h1, h2, h3⟩ := bit_room hs hx hd
  rw [u32_or_nat _ _ hx h3, nat_join (s + 1) _ _ hd h2]

theorem bit_yes {m n Q r i : Nat} (h : m = Q * n + r) (hd : Q % 2 ^ (i + 1) = 0) (hr : r < n * 2 ^ (i + 1)) (hle : n * 2 ^ i ≤ r) : m = (Q + 2 ^ i) * n + (r - n * 2 ^ i) ∧ (Q + 2 ^ i) % 2 ^ i = 0 ∧ r - n * 2 ^ i < n * 2 ^ i := by
  rw [Nat.pow_succ, ← Nat.mul_assoc] at hr
  refine ⟨?_, ?_, by omega⟩
  · rw [Nat.add_mul, Nat.mul_comm (2 ^ i) n]; omega
  · obtain ⟨c, rfl⟩ := Nat.dvd_of_mod_eq_zero hd
    rw [Nat.add_mod_right, Nat.pow_succ, Nat.mul_assoc]; exact Nat.mul_mod_right _ _
theorem bit_no {Q i : Nat} (hd : Q % 2 ^ (i + 1) = 0) : Q % 2 ^ i = 0 := by
  obtain ⟨c, rfl⟩ := Nat.dvd_of_mod_eq_zero hd
  rw [Nat.pow_succ, Nat.mul_assoc]; exact Nat.mul_mod_right _ _
theorem half_pow (n i : Nat) : n * 2 ^ (i + 1) / 2 = n * 2 ^ i := by
  rw [Nat.pow_succ, ← Nat.mul_assoc]; exact Nat.mul_div_cancel _ (by omega)

set_option maxHeartbeats 4000000 in
theorem refDiv_any {w : World} {a b : Value} {m n : Nat} (ha : Num w a m) (hb : Num w b n) (hm : nl m ≤ 30000) (hn : nl n ≤ 30000) (hn0 : n ≠ 0) :
    Calls Tryd.prog 30 #[a, b] w fun e w' => ∃ q r, e = .returned (.tuple #[q, r, .int .i64 0]) ∧ Num w' q (m / n) ∧ Num w' r (m % n) ∧ Fwd w w' := by
  have hp : 0 < nl n := by rw [nl_pos hn0]; omega
  have hne : ((nl n : Int) == 0) = false := by simp; omega
  obtain ⟨bo, cb, rfl, hcb, hcmb, hcellb⟩ := hb.parts
  unfold maxLen at hcmb
  clear hcellb
  have hbm := blen_nl m
  have hbn := blen_nl n
  have HN0 := hid hn0
  clear hn0
  by_cases hlt : blen m < blen n
  · have HL : Hid (m < n) := hid (by
      have h1 := (blen_le_iff m (blen n - 1)).1 (by omega)
      have h2 := blen_ge HN0.out
      omega)
    go_enter Tryd.func30, Tryd.ntmps30
    go_wp2_with fail
    refine (refBits_any ha (by omega)).mono ?_
    rintro e w1 ⟨rfl, rfl⟩
    go_wp2_with fail
    refine (refBits_any hb (by omega)).mono ?_
    rintro e w1 ⟨rfl, rfl⟩
    go_wp2_with fail
    refine (refTrim_any ha (show nl m ≤ _ by omega)).mono ?_
    rintro e w1 ⟨v, rfl, hv, hf⟩
    rw [val_lim] at hv
    go_wp2
    go_ret3
    exact ⟨_, _, rfl, by rw [Nat.div_eq_of_lt HL.out]; exact num_nil _, by rw [Nat.mod_eq_of_lt HL.out]; exact hv, hf⟩
  · obtain ⟨k, hk⟩ : ∃ k, blen m = blen n + k := ⟨blen m - blen n, by omega⟩
    have hk2 : k ≤ 1000000 := by omega
    have hst := hid (bits_start HN0.out hk)
    have hkz : (blen m : Int) - (blen n : Int) = (k : Int) := by omega
    have HK := hid hk
    clear hlt hk
    go_enter Tryd.func30, Tryd.ntmps30
    go_wp2_with fail
    refine (refBits_any ha (by omega)).mono ?_
    rintro e w1 ⟨rfl, rfl⟩
    go_wp2_with fail
    refine (refBits_any hb (by omega)).mono ?_
    rintro e w1 ⟨rfl, rfl⟩
    obtain ⟨h, hh⟩ : ∃ h, h = k / 32 := ⟨_, rfl⟩
    have ek : (k : Int) / 32 = (h : Int) := by omega
    have HH := hid hh
    have hh2 : h ≤ 40000 := by omega
    clear hh
    go_wp2_with (first | (at_make; refine law_make rfl _ _ rfl .i64 .i64 _ _ (h + 1) rfl rfl (by omega) (by omega) (by omega) ?_))
    intro w1 hb1 hf1
    have HB1 := hid hb1
    have hra := ha.fwd hf1
    have hrb := hb.fwd hf1
    clear ha hb
    go_wp2_with fail
    have hlt1 : w.heap.size < w1.heap.size := hb1.lt
    refine (refTrim_new hra (show nl m ≤ _ by omega)).mono ?_
    rintro e w2 ⟨vr, rfl, hr2, hf2, hnr⟩
    rw [val_lim] at hr2
    have hrb2 := hrb.fwd hf2
    clear hra hrb
    go_wp2_with fail
    have hor0 := hid (hnr.off hlt1)
    refine (refShl_new k hrb2 (by omega) (by omega)).mono ?_
    rintro e w3 ⟨vd, rfl, hd3, hf3, hnd⟩
    have hod0 := hid (hnd.off (Nat.lt_of_lt_of_le hlt1 hf2.size))
    have hr3 := hr2.fwd hf3
    have HB3 := hid ((HB1.out.fwd hf2).fwd hf3)
    have HF3 := hid ((hf1.trans hf2).trans hf3)
    clear hr2 hrb2 hf1 hf2 hf3 HB1 hb1 hnr hnd hlt1
    go_wp2
    go_loopw [9, 10, 11] (fun r d i wr => ∃ (t R : Nat) (zs : List Nat), t ≤ k + 1 ∧ i = .int .i64 ((t : Int) - 1) ∧ Num wr r R ∧ nl R ≤ 30000 ∧ Num wr d (n * 2 ^ t / 2) ∧ Off r w.heap.size ∧ Off d w.heap.size ∧ zs.length = h + 1 ∧ Blk wr w.heap.size ([] ++ (zs ++ [])) ∧ Fwd w wr ∧
        m = val zs * n + R ∧ val zs % 2 ^ t = 0 ∧ R < n * 2 ^ t) (fun _ _ i _ => (intOf i + 1).toNat)
    case atStart =>
      refine ⟨k + 1, m, List.replicate (h + 1) 0, by omega, by go_num, hr3, hm, by rw [half_pow]; exact hd3, hor0.out, hod0.out, by simp, by simpa using HB3.out, HF3.out, by rw [val_replicate]; omega, by rw [val_replicate]; exact Nat.zero_mod _, hst.out⟩
    case round =>
      obtain ⟨t, R, zs, ht, rfl, hr, hR, hd, hofr, hofd, hzl, hbz, hfw, hmv, hmod, hlt⟩ := hrel
      have HOF := hid (And.intro hofr hofd)
      clear hofr hofd
      have H := hid (And.intro hzl (And.intro hbz (And.intro hfw (And.intro hmv (And.intro hmod hlt)))))
      clear hzl hbz hfw hmv hmod hlt
      cases t with
      | zero =>
        have hz : Rd wr (.slice (some ⟨w.heap.size, 0, none⟩) (h + 1) (h + 1)) zs := by
          have h3 := Blk.rd H.out.2.1 (h + 1) (by rw [H.out.1]; exact Nat.le_refl _) (le_maxLen (by omega))
          rwa [H.out.1] at h3
        go_wp2_with fail
        refine (refTrim_any hz (by rw [H.out.1]; omega)).mono ?_
        rintro e w4 ⟨vq, rfl, hq, hf4⟩
        obtain ⟨q1, q2, q3, q4, q5, q6⟩ := H.out
        simp only [Nat.pow_zero, Nat.mul_one] at q6
        have hqv : val zs = m / n ∧ R = m % n := by
          have h1 : m / n = val zs := by
            rw [q4, Nat.mul_comm, Nat.mul_add_div (by omega), Nat.div_eq_of_lt q6]; rfl
          have h2 := Nat.div_add_mod m n
          rw [h1, Nat.mul_comm] at h2
          exact ⟨h1.symm, by omega⟩
        have HQ := hid (And.intro hqv.1 hqv.2)
        have HF := hid (q3.trans hf4)
        have hr4 := hr.fwd hf4
        clear hqv q1 q2 q3 q4 q5 q6 H
        go_wp2
        go_ret3
        exact ⟨_, _, rfl, by rw [← HQ.out.1]; exact hq, by rw [← HQ.out.2]; exact hr4, HF.out⟩
      | succ t =>
        rw [half_pow] at hd
        have hnd : nl (n * 2 ^ t) ≤ 100000 := by
          have h1 := nl_shl n t
          omega
        obtain ⟨D, hD⟩ : ∃ D, D = n * 2 ^ t := ⟨_, rfl⟩
        rw [← hD] at hd hnd
        have HD := hid hD
        clear hD
        by_cases hle : D ≤ R
        · have hcm : decide ((0 : Int) ≤ cmpI (R : Int) (D : Int)) = true := by
            apply decide_eq_true
            rcases Nat.lt_or_ge D R with h1 | h1
            · rw [cmpI_gt (by omega)]; omega
            · rw [cmpI_eq (by omega)]; omega
          obtain ⟨j, hj⟩ : ∃ j, j = t / 32 := ⟨_, rfl⟩
          obtain ⟨s, hs⟩ : ∃ s, s = t % 32 := ⟨_, rfl⟩
          have hs32 : s < 32 := by omega
          have hjh : j ≤ h := by have := HH.out; omega
          have et1 : (t : Int) / 32 = (j : Int) := by omega
          have et2 : (t : Int) % 32 = (s : Int) := by omega
          have HJ := hid (show t = 32 * j + s by omega)
          have hbit : zs.getD j 0 % 2 ^ (s + 1) = 0 := by
            have := bit_limb (H.out.2.1.okMid) H.out.2.2.2.2.1
            rw [hj, hs]; exact this
          have hxb : zs.getD j 0 < 4294967296 := H.out.2.1.okMid.getD _
          obtain ⟨x, hx⟩ : ∃ x, x = zs.getD j 0 := ⟨_, rfl⟩
          rw [← hx] at hbit hxb
          have hor : bits .or .u32 (x : Int) ((2 : Int) ^ s % 4294967296) = ((x + 2 ^ s : Nat) : Int) := by
            have h1 := or_bit x s hs32 hxb hbit
            have h2 := (bit_room hs32 hxb hbit).2.2
            rw [cast_pow2, show ((2 ^ s : Nat) : Int) % 4294967296 = ((2 ^ s : Nat) : Int) by omega]
            exact h1
          have HRM := hid (bit_room hs32 hxb hbit)
          have HX := hid hx
          clear hx hj hs hbit
          have HLE := hid hle
          go_wp2_with fail
          refine (refCmp_any hr hd (by omega) (by omega)).mono ?_
          rintro e w4 ⟨rfl, hf4⟩
          have hr4 := hr.fwd hf4
          have hd4 := hd.fwd hf4
          go_wp2_with fail
          refine (refLess_new hr4 hd4 (by omega) (by omega) hle).mono ?_
          rintro e w5 ⟨v5, rfl, hr5, hf5, hn5⟩
          have ho5 := hid (hn5.off (Nat.lt_of_lt_of_le H.out.2.1.lt hf4.size))
          have hd5 := hd4.fwd hf5
          have hf45 := hf4.trans hf5
          have hb5 := H.out.2.1.fwd hf45
          have hlj : j < zs.length := by rw [H.out.1]; omega
          have hzk := hb5.mid j hlj
          have hfz := hb5.frozen (0 + j)
          simp only [List.length_nil, Nat.zero_add] at hzk hfz
          rw [← HX.out] at hzk
          have HB5 := hid hb5
          have HLJ := hid hlj
          have HF5 := hid hf45
          clear hr hd hr4 hd4 hb5 hlj hf4 hf5 hf45 hn5
          go_wp2_with fail
          rw [show (x : Int) + 2 ^ s = ((x + 2 ^ s : Nat) : Int) by simp]
          have honly := Only.set w.heap.size w5 j (.int .u32 ((x + 2 ^ s : Nat) : Int))
          have hd6 := Rd.only hd5 honly HOF.out.2
          have hr6 := Rd.only hr5 honly ho5.out
          have hb6 := HB5.out.setAt j HLJ.out _ (x + 2 ^ s) rfl HRM.out.1
          simp only [List.length_nil, Nat.zero_add] at hb6
          have HF6 := hid ((H.out.2.2.1.trans HF5.out).wrote honly (Nat.le_refl _))
          have HB6 := hid hb6
          clear hb6 honly hd5 hr5 HB5
          generalize w5.setCell ⟨w.heap.size, j, none⟩ (.int .u32 ((x + 2 ^ s : Nat) : Int)) = w6 at *
          refine (refShr_new 1 hd6 (by omega) (by omega)).mono ?_
          rintro e w7 ⟨v7, rfl, hd7, hf7, hn7⟩
          have ho7 := hid (hn7.off HB6.out.lt)
          have hr7 := Num.fwd hr6 hf7
          go_wp2
          go_roundw
          case rel =>
            obtain ⟨q1, q2, q3, q4, q5, q6⟩ := H.out
            rw [HD.out] at hd7 hr7
            have hle2 := HLE.out
            rw [HD.out] at hle2
            obtain ⟨y1, y2, y3⟩ := bit_yes q4 q5 q6 hle2
            have hvs : val (zs.set j (x + 2 ^ s)) = val zs + 2 ^ t := by
              rw [HX.out, val_set_add HLJ.out, pow32, ← Nat.pow_add, HJ.out]
            refine ⟨t, R - n * 2 ^ t, zs.set j (x + 2 ^ s), by omega, by go_num, hr7, Nat.le_trans (nl_sub _ _) hR, hd7, ho5.out, ho7.out, by rw [set_len]; exact q1, HB6.out.fwd hf7, HF6.out.trans hf7, by rw [hvs]; exact y1, by rw [hvs]; exact y2, y3⟩
          case measure => simp [intOf] <;> omega
        · have hcm : decide ((0 : Int) ≤ cmpI (R : Int) (D : Int)) = false := by
            apply decide_eq_false
            rw [cmpI_lt (by omega)]; omega
          have HLE := hid hle
          clear hle
          go_wp2_with fail
          refine (refCmp_any hr hd (by omega) (by omega)).mono ?_
          rintro e w4 ⟨rfl, hf4⟩
          have hr4 := hr.fwd hf4
          have hd4 := hd.fwd hf4
          clear hr hd
          go_wp2_with fail
          refine (refShr_new 1 hd4 (by omega) (by omega)).mono ?_
          rintro e w5 ⟨v5, rfl, hd5, hf5, hn5⟩
          have ho5 := hid (hn5.off (Nat.lt_of_lt_of_le H.out.2.1.lt hf4.size))
          go_wp2
          go_roundw
          case rel =>
            obtain ⟨q1, q2, q3, q4, q5, q6⟩ := H.out
            refine ⟨t, R, zs, by omega, by go_num, hr4.fwd hf5, hR, by rw [HD.out] at hd5; exact hd5, HOF.out.1, ho5.out, q1, (q2.fwd hf4).fwd hf5, (q3.trans hf4).trans hf5, q4, bit_no q5, ?_⟩
            have := HLE.out
            rw [HD.out] at this; omega
          case measure => simp [intOf] <;> omega

end Go.Proofs.YtbkphjmhmfgpgaaDoor
