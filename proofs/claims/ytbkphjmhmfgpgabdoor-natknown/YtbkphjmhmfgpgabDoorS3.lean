/- The second telling of shifts; within. -/
import Derived.Test.YtbkphjmhmfgpgabDoorS2
namespace Go.Proofs.YtbkphjmhmfgpgabDoor
open Go.RowKit
set_option linter.unusedVariables false

theorem or_shl (x c r : Nat) (hr : r < 32) (hc : c < 2 ^ r) : bits .or .u32 (c : Int) ((x : Int) * 2 ^ r % 4294967296) = ((x * 2 ^ r % 4294967296 + c : Nat) : Int) := by
  have hp := pow_split r hr
  have h1 : 1 ≤ 2 ^ (32 - r) := Nat.two_pow_pos _
  have hle : 2 ^ r ≤ 4294967296 := by
    have := Nat.mul_le_mul_right (2 ^ r) h1; omega
  rw [show (x : Int) * 2 ^ r % 4294967296 = ((x * 2 ^ r % 4294967296 : Nat) : Int) by rw [cast_pow2]; simp, u32_or_nat _ _ (by omega) (by omega), Nat.or_comm, nat_join r _ _ ?_ hc]
  rw [Nat.mod_mod_of_dvd _ ⟨2 ^ (32 - r), by rw [Nat.mul_comm]; exact hp⟩]
  exact Nat.mul_mod_left _ _

set_option maxHeartbeats 2000000 in
theorem refShl_new {w : World} {a : Value} {m : Nat} (k : Nat) (ha : Num w a m) (hm : nl m ≤ 10000000) (hk : k ≤ 1048576) :
    Calls Tryd.prog 41 #[a, .int .i64 k] w fun e w' => ∃ v, e = .returned v ∧ Num w' v (m * 2 ^ k) ∧ Fwd w w' ∧ New w v := by
  obtain ⟨ao, ca, rfl, hca, hcma, hcella⟩ := ha.parts
  unfold maxLen at hcma
  have hk1 : decide ((1048576 : Int) < (k : Int)) = false := decide_eq_false (by omega)
  by_cases h0 : m = 0
  · have h1 : nl m = 0 := by rw [h0, nl_zero]
    have HN := hid h0
    have ha2 : Rd w (.slice ao 0 ca) (lim m) := by have := ha; rw [h1] at this; exact this
    have HA := hid ha2
    rw [h1]
    clear h0 ha ha2
    go_enter Tryd.func41, Tryd.ntmps41
    go_wp2_with fail
    refine (refTrim_new HA.out (show nl m ≤ _ by omega)).mono ?_
    rintro e w1 ⟨v, rfl, hv, hf1, hnw⟩
    rw [val_lim] at hv
    go_wp2
    go_ret
    refine ⟨_, rfl, ?_, hf1, hnw⟩
    rw [HN.out, Nat.zero_mul, ← HN.out]; exact hv
  · have hpos : 0 < nl m := by rw [nl_pos h0]; omega
    have hne : ((nl m : Int) == 0) = false := by simp; omega
    clear h0
    obtain ⟨h, hh⟩ : ∃ h, h = k / 32 := ⟨_, rfl⟩
    obtain ⟨r, hr⟩ : ∃ r, r = k % 32 := ⟨_, rfl⟩
    have hr32 : r < 32 := by omega
    have hkk : k = 32 * h + r := by omega
    have HKK := hid hkk
    have hh2 : h ≤ 32768 := by omega
    have ek1 : (k : Int) / 32 = (h : Int) := by omega
    have ek2 : (k : Int) % 32 = (r : Int) := by omega
    clear hkk hh hr
    go_enter Tryd.func41, Tryd.ntmps41
    go_wp2_with (first | (at_make; refine law_make rfl _ _ rfl .i64 .i64 _ _ (nl m + h + 1) rfl rfl (by omega) (by omega) (by omega) ?_))
    intro w1 hb1 hf1
    have HB1 := hid hb1
    clear hb1
    obtain ⟨p, hp⟩ : ∃ p, p = 2 ^ r := ⟨_, rfl⟩
    have hp0 : 0 < p := by rw [hp]; exact Nat.two_pow_pos _
    have hpd : 4294967296 % p = 0 := by rw [hp, pow_split r hr32]; exact Nat.mul_mod_left _ _
    have hpl : p ≤ 2147483648 := by rw [hp]; exact Nat.pow_le_pow_right (by omega) (by omega : r ≤ 31)
    have HP := hid (And.intro hp (And.intro hp0 (And.intro hpd hpl)))
    clear hp hp0 hpd hpl
    go_wp2
    go_loopw [8] (fun iv wr => ∃ (i c : Nat) (zs : List Nat), i ≤ nl m ∧ iv = .int .i64 i ∧ c < p ∧ zs.length = nl m + h + 1 ∧ zs.getD (i + h) 0 = c ∧ Blk wr w.heap.size ([] ++ (zs ++ [])) ∧ Only w.heap.size w1 wr ∧ val (zs.drop (i + h + 1)) = 0 ∧
        val (zs.take (i + h)) + c * 4294967296 ^ (i + h) = p * (4294967296 ^ h * val ((lim m).take i))) (fun iv _ => nl m - (intOf iv).toNat)
    case atStart =>
      refine ⟨0, 0, List.replicate (nl m + h + 1) 0, by omega, rfl, HP.out.2.1, by simp, ?_, by simpa using HB1.out, Only.refl _ _, by rw [List.drop_replicate, val_replicate], ?_⟩
      · rw [List.getD_eq_getElem?_getD, List.getElem?_replicate]; split <;> rfl
      · rw [List.take_replicate, val_replicate]; simp [val]
    case round =>
      obtain ⟨i, c, zs, hi, rfl, hc, hzl, hgc, hbz, hon, htop, hv⟩ := hrel
      have H := hid (And.intro hzl (And.intro hgc (And.intro hbz (And.intro hon (And.intro htop (And.intro hv hc))))))
      clear hzl hgc hbz hon htop hv hc
      by_cases hlt : i < nl m
      · obtain ⟨ab, aof, rfl, hxk⟩ := hcella i hlt
        obtain ⟨x, hx⟩ : ∃ x, x = (lim m).getD i 0 := ⟨_, rfl⟩
        rw [← hx] at hxk
        have hxb : x < 4294967296 := by rw [hx]; exact (ok_lim m).getD _
        have HX := hid hx
        clear hx
        have hxk1 := H.out.2.2.2.1.cell (hf1.cell hxk) (by have := World.block_lt_of_cell? w _ hxk; simp at this; simp; omega)
        have hlz : i + h < zs.length := by rw [H.out.1]; omega
        have hlz2 : i + h + 1 < zs.length := by rw [H.out.1]; omega
        have hz1 := H.out.2.2.1.mid (i + h) hlz
        have hz2 := H.out.2.2.1.mid (i + h + 1) hlz2
        have hf1' := H.out.2.2.1.frozen (0 + (i + h))
        have hf2' := H.out.2.2.1.frozen (0 + (i + h + 1))
        simp only [List.length_nil, Nat.zero_add] at hz1 hz2 hf1' hf2'
        rw [H.out.2.1] at hz1
        have hor := or_shl x c r hr32 (by rw [← HP.out.1]; exact H.out.2.2.2.2.2.2)
        have hxp : x * p ≤ 9223372036854775807 := by
          have := Nat.mul_le_mul (show x ≤ 4294967295 by omega) HP.out.2.2.2
          omega
        have hbd : (x : Int) * 2 ^ r ≤ 9223372036854775807 := by
          rw [cast_pow2, ← HP.out.1, ← Int.natCast_mul]; omega
        have hbd0 : 0 ≤ (x : Int) * 2 ^ r := by
          rw [cast_pow2, ← Int.natCast_mul]; omega
        have HL := hid (And.intro hlz hlz2)
        clear hlz hlz2 hxp
        go_wp2
        go_roundw
        case rel =>
          obtain ⟨q1, q2, q3, q4, q5, q6, q7⟩ := H.out
          obtain ⟨hp, hp0, hpd, hpl⟩ := HP.out
          have hpe : p * (4294967296 / p) = 4294967296 := Nat.mul_div_cancel' (Nat.dvd_of_mod_eq_zero hpd)
          have hq0 : 0 < 4294967296 / p := by
            rcases Nat.eq_zero_or_pos (4294967296 / p) with h0 | h0
            · rw [h0] at hpe; omega
            · exact h0
          have hlow : x * p % 4294967296 + c < 4294967296 := by
            generalize 4294967296 / p = q at *
            have hm : x * p % 4294967296 = p * (x % q) := by rw [← hpe, Nat.mul_comm x p, Nat.mul_mod_mul_left]
            have hxq := Nat.mod_lt x hq0
            have h7 : p * (x % q) + p ≤ p * q := by rw [← Nat.mul_succ]; exact Nat.mul_le_mul_left _ hxq
            omega
          have hce : x * p / 4294967296 = x / (4294967296 / p) := by
            conv => lhs; rw [← hpe, Nat.mul_comm p (4294967296 / p)]
            exact Nat.mul_div_mul_right _ _ hp0
          have hcar : x / (4294967296 / p) < p := by rw [Nat.div_lt_iff_lt_mul hq0, hpe]; exact hxb
          have i1 : (x : Int) * 2 ^ r % 4294967296 + (c : Int) = ((x * p % 4294967296 + c : Nat) : Int) := by rw [cast_pow2, ← hp]; simp
          have i2 : (x : Int) * 2 ^ r / 4294967296 = ((x / (4294967296 / p) : Nat) : Int) := by rw [← hce, cast_pow2, ← hp]; simp
          rw [i1, i2]
          have hb3 := q3.setAt (i + h) HL.out.1 ((x * p % 4294967296 + c : Nat) : Int) (x * p % 4294967296 + c) rfl hlow
          have hb4 := hb3.setAt (i + h + 1) (by rw [set_len]; exact HL.out.2) ((x / (4294967296 / p) : Nat) : Int) (x / (4294967296 / p)) rfl (by omega)
          simp only [List.length_nil, Nat.zero_add] at hb4
          have ei : i + 1 + h = i + h + 1 := by omega
          refine ⟨i + 1, x / (4294967296 / p), (zs.set (i + h) (x * p % 4294967296 + c)).set (i + h + 1) (x / (4294967296 / p)), by omega, by go_num, hcar, by rw [set_len, set_len]; exact q1, ?_, hb4, (q4.setv _ _).setv _ _, ?_, ?_⟩
          · rw [ei]; simp [HL.out.2]
          · rw [ei, drop_set_succ, List.drop_set_of_lt (by omega)]
            have e5 := val_drop_cons (xs := zs) (k := i + h + 1) HL.out.2
            rw [q5] at e5; omega
          · rw [ei, List.take_set_of_le (Nat.le_refl _), set_val HL.out.1, val_take_succ (lim m), ← HX.out, Nat.pow_succ]
            have e6 := up_step (P := 4294967296 ^ (i + h)) (X := 4294967296 ^ h * val ((lim m).take i)) (x := x) q6 q7 hpd hp0 hxb
            rw [e6, Nat.pow_add]; grind
        case measure => simp [intOf] <;> omega
      · have hz : Rd wr (.slice (some ⟨w.heap.size, 0, none⟩) (nl m + h + 1) (nl m + h + 1)) zs := by
          have h3 := Blk.rd H.out.2.2.1 (nl m + h + 1) (by rw [H.out.1]; exact Nat.le_refl _) (le_maxLen (by omega))
          rwa [H.out.1] at h3
        go_wp2_with fail
        refine (refTrim_new hz (by rw [H.out.1]; omega)).mono ?_
        rintro e w2 ⟨v, rfl, hnv, hf2, hnw⟩
        have hvz : val zs = m * 2 ^ k := by
          obtain ⟨q1, q2, q3, q4, q5, q6, q7⟩ := H.out
          have hie : i = nl m := by omega
          rw [hie] at q2 q5 q6
          have e7 := val_split zs (nl m + h) (by omega)
          have e8 := val_drop_cons (xs := zs) (k := nl m + h) (by omega)
          rw [q2, q5, Nat.mul_zero, Nat.add_zero] at e8
          rw [e8] at e7
          rw [val_take_all (xs := lim m) (show nl m ≤ nl m from Nat.le_refl _), val_lim] at q6
          rw [e7, Nat.mul_comm (4294967296 ^ (nl m + h)) c, q6, HP.out.1, HKK.out, Nat.pow_add, pow32]; grind
        rw [hvz] at hnv
        clear hvz
        go_wp2
        go_ret
        exact ⟨_, rfl, hnv, (hf1.wrote H.out.2.2.2.1 (Nat.le_refl _)).trans hf2, hnw.up (hf1.wrote H.out.2.2.2.1 (Nat.le_refl _))⟩

theorem refShl_any {w : World} {a : Value} {m : Nat} (k : Nat) (ha : Num w a m) (hm : nl m ≤ 10000000) (hk : k ≤ 1048576) :
    Calls Tryd.prog 41 #[a, .int .i64 k] w fun e w' => ∃ v, e = .returned v ∧ Num w' v (m * 2 ^ k) ∧ Fwd w w' :=
  (refShl_new k ha hm hk).mono fun e w' ⟨v, h1, h2, h3, _⟩ => ⟨v, h1, h2, h3⟩

/-- A limb of a number that is shifted down. -/
theorem down_limb (V i r : Nat) (hr : r < 32) : V / 2 ^ r / 4294967296 ^ i % 4294967296 = (V / 4294967296 ^ i % 4294967296 + 4294967296 * (V / 4294967296 ^ (i + 1) % 4294967296)) / 2 ^ r % 4294967296 := by
  have hp := pow_split r hr
  have hp0 : 0 < 2 ^ r := Nat.two_pow_pos _
  rw [Nat.div_div_eq_div_mul, Nat.mul_comm, ← Nat.div_div_eq_div_mul, Nat.pow_succ, ← Nat.div_div_eq_div_mul]
  generalize V / 4294967296 ^ i = U
  generalize 2 ^ r = p at *
  generalize 2 ^ (32 - r) = q at *
  have e1 : U = (U % 4294967296 + 4294967296 * (U / 4294967296 % 4294967296)) + p * (4294967296 * (q * (U / 4294967296 / 4294967296))) := by
    have a1 := Nat.div_add_mod U 4294967296
    have a2 := Nat.div_add_mod (U / 4294967296) 4294967296
    have a3 : p * (4294967296 * (q * (U / 4294967296 / 4294967296))) = 4294967296 * (4294967296 * (U / 4294967296 / 4294967296)) := by
      conv => rhs; rw [hp]
      grind
    rw [a3]; omega
  conv => lhs; rw [e1]
  rw [Nat.add_mul_div_left _ _ hp0, Nat.add_mul_mod_self_left]

theorem val_mod_pow (xs : List Nat) (hok : Ok xs) (h : Nat) : val xs / 4294967296 ^ h % 4294967296 = xs.getD h 0 := by
  by_cases hh : h < xs.length
  · rw [val_div_pow xs hok h (by omega), val_drop_cons hh]
    have := hok.getD h
    omega
  · have h1 := val_lt hok
    have h2 : 4294967296 ^ xs.length ≤ 4294967296 ^ h := Nat.pow_le_pow_right (by omega) (by omega)
    rw [Nat.div_eq_of_lt (by omega), List.getD_eq_getElem?_getD, List.getElem?_eq_none (by omega)]; rfl

theorem num_limb (m h : Nat) : (lim m).getD h 0 = m / 4294967296 ^ h % 4294967296 := by
  rw [← val_mod_pow (lim m) (ok_lim m) h, val_lim]

set_option maxHeartbeats 2000000 in
theorem refShr_new {w : World} {a : Value} {m : Nat} (k : Nat) (ha : Num w a m) (hm : nl m ≤ 10000000) (hk : k ≤ 1048576) :
    Calls Tryd.prog 43 #[a, .int .i64 k] w fun e w' => ∃ v, e = .returned v ∧ Num w' v (m / 2 ^ k) ∧ Fwd w w' ∧ New w v := by
  obtain ⟨ao, ca, rfl, hca, hcma, hcella⟩ := ha.parts
  unfold maxLen at hcma
  clear hcella
  have hk1 : decide ((1048576 : Int) < (k : Int)) = false := decide_eq_false (by omega)
  obtain ⟨h, hh⟩ : ∃ h, h = k / 32 := ⟨_, rfl⟩
  obtain ⟨r, hr⟩ : ∃ r, r = k % 32 := ⟨_, rfl⟩
  have hr32 : r < 32 := by omega
  have hkk : k = 32 * h + r := by omega
  have HKK := hid hkk
  have hh2 : h ≤ 32768 := by omega
  have ek1 : (k : Int) / 32 = (h : Int) := by omega
  have ek2 : (k : Int) % 32 = (r : Int) := by omega
  clear hkk hh hr
  by_cases hle : nl m ≤ h
  · have hz : m / 2 ^ k = 0 := by
      apply Nat.div_eq_of_lt
      have h1 := (nl_le_iff m h).1 hle
      rw [pow32] at h1
      exact Nat.lt_of_lt_of_le h1 (Nat.pow_le_pow_right (by omega) (by have := HKK.out; omega))
    have HZ := hid hz
    clear hz
    go_enter Tryd.func43, Tryd.ntmps43
    go_wp2
    go_ret
    refine ⟨_, rfl, ?_, Fwd.refl _, by intro b hb; simp [Value.ownBlock] at hb⟩
    rw [HZ.out]; exact num_nil _
  · have hgt : h < nl m := by omega
    clear hle
    go_enter Tryd.func43, Tryd.ntmps43
    go_wp2_with (first | (at_make; refine law_make rfl _ _ rfl .i64 .i64 _ _ (nl m - h) rfl rfl (by omega) (by omega) (by omega) ?_))
    intro w1 hb1 hf1
    have HB1 := hid hb1
    have hra := ha.fwd hf1
    have hoa := ha.off (Nat.le_refl w.heap.size)
    clear hb1
    obtain ⟨V, hV⟩ : ∃ V, V = m / 4294967296 ^ h := ⟨_, rfl⟩
    have hVl : ∀ i, (lim m).getD (i + h) 0 = V / 4294967296 ^ i % 4294967296 := by
      intro i
      rw [num_limb, hV, Nat.div_div_eq_div_mul, ← Nat.pow_add, Nat.add_comm]
    have hVk : V / 2 ^ r = m / 2 ^ k := by rw [hV, Nat.div_div_eq_div_mul, pow32, ← Nat.pow_add, HKK.out]
    have hVb : V < 4294967296 ^ (nl m - h) := by
      rw [hV, Nat.div_lt_iff_lt_mul (Nat.pow_pos (by omega)), ← Nat.pow_add, show nl m - h + h = nl m by omega]
      exact lt_pow_nl m
    have HV := hid (And.intro hVl (And.intro hVk hVb))
    clear hVl hVk hVb hV
    go_wp2
    go_loopw [8] (fun iv wr => ∃ (i : Nat) (zs : List Nat), i ≤ nl m - h ∧ iv = .int .i64 i ∧ zs.length = nl m - h ∧ Blk wr w.heap.size ([] ++ (zs ++ [])) ∧ Only w.heap.size w1 wr ∧
        val (zs.take i) = V / 2 ^ r % 4294967296 ^ i) (fun iv _ => nl m - h - (intOf iv).toNat)
    case atStart => exact ⟨0, List.replicate (nl m - h) 0, by omega, rfl, by simp, by simpa using HB1.out, Only.refl _ _, by simp [val, Nat.mod_one]⟩
    case round =>
      obtain ⟨i, zs, hi, rfl, hzl, hbz, hon, hv⟩ := hrel
      have H := hid (And.intro hzl (And.intro hbz (And.intro hon hv)))
      clear hzl hbz hon hv
      by_cases hlt : i < nl m - h
      · have hlz : i < zs.length := by rw [H.out.1]; exact hlt
        have hzk := H.out.2.1.mid i hlz
        have hfz := H.out.2.1.frozen (0 + i)
        simp only [List.length_nil, Nat.zero_add] at hzk hfz
        have HL := hid hlz
        clear hlz
        have hra2 := hra.only H.out.2.2.1 hoa
        obtain ⟨x, hx⟩ : ∃ x, x = (lim m).getD (i + h) 0 := ⟨_, rfl⟩
        obtain ⟨y, hy⟩ : ∃ y, y = (lim m).getD (i + h + 1) 0 := ⟨_, rfl⟩
        have hxb : x < 4294967296 := by rw [hx]; exact (ok_lim m).getD _
        have hyb : y < 4294967296 := by rw [hy]; exact (ok_lim m).getD _
        have c1 := refAt_any hra2 (i + h) (by omega)
        have c2 := refAt_any hra2 (i + h + 1) (by omega)
        rw [← hx] at c1
        rw [← hy] at c2
        simp only [Int.natCast_add, Int.natCast_one] at c1 c2
        have C1 := hid c1
        have C2 := hid c2
        have HX := hid hx
        have HY := hid hy
        have hor := or_join2 x y hxb hyb
        obtain ⟨t, ht⟩ : ∃ t, t = y * 4294967296 + x := ⟨_, rfl⟩
        rw [← ht] at hor
        have htb : t < 18446744073709551616 := by omega
        have HT := hid ht
        clear c1 c2 hx hy ht
        go_wp2_with fail
        refine C1.out.mono ?_
        rintro e w2 ⟨rfl, rfl⟩
        go_wp2_with fail
        refine C2.out.mono ?_
        rintro e w2 ⟨rfl, rfl⟩
        go_wp2
        go_roundw
        case rel =>
          obtain ⟨q1, q2, q3, q4⟩ := H.out
          have hb3 := q2.setAt i HL.out ((t : Int) / 2 ^ r % 4294967296) (t / 2 ^ r % 4294967296) (by rw [shr_cast]; simp) (by omega)
          simp only [List.length_nil, Nat.zero_add] at hb3
          refine ⟨i + 1, zs.set i (t / 2 ^ r % 4294967296), by omega, by go_num, by rw [set_len]; exact q1, hb3, q3.setv _ _, ?_⟩
          rw [set_val HL.out, q4, Nat.mod_pow_succ, down_limb V i r hr32]
          have hxv : x = V / 4294967296 ^ i % 4294967296 := by rw [HX.out]; exact HV.out.1 i
          have hyv : y = V / 4294967296 ^ (i + 1) % 4294967296 := by rw [HY.out, ← HV.out.1 (i + 1)]; congr 1; omega
          rw [HT.out, ← hxv, ← hyv, Nat.mul_comm y, Nat.add_comm (4294967296 * y)]
        case measure => simp [intOf] <;> omega
      · have hz : Rd wr (.slice (some ⟨w.heap.size, 0, none⟩) (nl m - h) (nl m - h)) zs := by
          have h3 := Blk.rd H.out.2.1 (nl m - h) (by rw [H.out.1]; exact Nat.le_refl _) (le_maxLen (by omega))
          rwa [H.out.1] at h3
        go_wp2_with fail
        refine (refTrim_new hz (by rw [H.out.1]; omega)).mono ?_
        rintro e w2 ⟨v, rfl, hnv, hf2, hnw⟩
        have hvz : val zs = m / 2 ^ k := by
          obtain ⟨q1, q2, q3, q4⟩ := H.out
          have hie : i = nl m - h := by omega
          rw [hie, val_take_all (by omega)] at q4
          rw [q4, ← HV.out.2.1]
          exact Nat.mod_eq_of_lt (Nat.lt_of_le_of_lt (Nat.div_le_self _ _) HV.out.2.2)
        rw [hvz] at hnv
        clear hvz
        go_wp2
        go_ret
        exact ⟨_, rfl, hnv, (hf1.wrote H.out.2.2.1 (Nat.le_refl _)).trans hf2, hnw.up (hf1.wrote H.out.2.2.1 (Nat.le_refl _))⟩

theorem refShr_any {w : World} {a : Value} {m : Nat} (k : Nat) (ha : Num w a m) (hm : nl m ≤ 10000000) (hk : k ≤ 1048576) :
    Calls Tryd.prog 43 #[a, .int .i64 k] w fun e w' => ∃ v, e = .returned v ∧ Num w' v (m / 2 ^ k) ∧ Fwd w w' :=
  (refShr_new k ha hm hk).mono fun e w' ⟨v, h1, h2, h3, _⟩ => ⟨v, h1, h2, h3⟩

set_option maxHeartbeats 1000000 in
/-- within: a number from 0 on, below n. -/
theorem within_any (w : World) (a : Int) (n : Nat) (hn : 0 < n) (hn2 : n ≤ 1000000000) (ha1 : -9223372036854775808 ≤ a) (ha2 : a ≤ 9223372036854775807) :
    Calls Tryd.prog 28 #[.int .i64 a, .int .i64 n] w fun e w' => ∃ k : Nat, k < n ∧ e = .returned (.int .i64 k) ∧ w = w' := by
  by_cases h0 : 0 ≤ a
  · have h1 : a % n < n := Int.emod_lt_of_pos _ (by omega)
    have h2 : 0 ≤ a % n := Int.emod_nonneg _ (by omega)
    have hnz : (n : Int) ≠ 0 := by omega
    go_enter Tryd.func28, Tryd.ntmps28
    go_wp2
    go_ret
    refine ⟨(a % n).toNat, by omega, ret_int (by omega), rfl⟩
  · have hb : ∃ b : Int, a = -b ∧ 0 < b := ⟨-a, by omega, by omega⟩
    obtain ⟨b, hb, hb0⟩ := hb
    have h3 : a.tmod n = -(b % n) := by rw [hb, Int.neg_tmod, Int.tmod_eq_emod_of_nonneg (by omega)]
    have h1 : b % n < n := Int.emod_lt_of_pos _ (by omega)
    have h2 : 0 ≤ b % n := Int.emod_nonneg _ (by omega)
    have hnz : (n : Int) ≠ 0 := by omega
    obtain ⟨t, ht⟩ : ∃ t, t = b % n := ⟨_, rfl⟩
    rw [← ht] at h1 h2 h3
    clear ht hb
    by_cases ht0 : t = 0
    · have h4 : ¬ (-t < 0) := by omega
      have HT := hid ht0
      subst ht0
      simp only [Int.neg_zero] at h3
      go_enter Tryd.func28, Tryd.ntmps28
      go_wp2
      go_ret
      exact ⟨0, hn, ret_int (by omega), rfl⟩
    · have h4 : -t < 0 := by omega
      go_enter Tryd.func28, Tryd.ntmps28
      go_wp2
      go_ret
      exact ⟨(n - t).toNat, by omega, ret_int (by omega), rfl⟩

end Go.Proofs.YtbkphjmhmfgpgabDoor
