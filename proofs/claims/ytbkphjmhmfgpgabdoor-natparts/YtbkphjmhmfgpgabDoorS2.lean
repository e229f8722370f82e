/- Shifts of nat: moveDown, Shl, Shr. -/
import Derived.Test.YtbkphjmhmfgpgabDoorS1
import Derived.Deep.Cut
namespace Go.Proofs.YtbkphjmhmfgpgabDoor
open Go.RowKit
set_option linter.unusedVariables false

theorem or_down (x c r : Nat) (hr : r < 32) (hx : x < 4294967296) (hc : c < 4294967296) (hd : c % 2 ^ (32 - r) = 0) : bits .or .u32 ((x : Int) / 2 ^ r) (c : Int) = ((x / 2 ^ r + c : Nat) : Int) := by
  have hlt : x / 2 ^ r < 2 ^ (32 - r) := by
    rw [Nat.div_lt_iff_lt_mul (Nat.two_pow_pos _), ← pow_split r hr]; exact hx
  have hle : x / 2 ^ r ≤ x := Nat.div_le_self _ _
  rw [shr_cast, u32_or_nat _ _ (by omega) hc, Nat.or_comm, nat_join (32 - r) _ _ hd hlt, Nat.add_comm]

theorem shl_down (x r : Nat) (hr : r < 32) : (x : Int) * 2 ^ (32 - r) % 4294967296 = ((x % 2 ^ r * 2 ^ (32 - r) : Nat) : Int) := by
  rw [cast_pow2]
  have e : x * 2 ^ (32 - r) % 4294967296 = x % 2 ^ r * 2 ^ (32 - r) := by
    conv => lhs; rw [pow_split r hr, Nat.mul_comm (2 ^ (32 - r)) (2 ^ r)]
    rw [Nat.mul_mod_mul_right]
  rw [← e]; simp

/-- One round of a shift down. -/
theorem down_step (x V r : Nat) (hr : r < 32) : (x + 4294967296 * V) / 2 ^ r = (x / 2 ^ r + V % 2 ^ r * 2 ^ (32 - r)) + 4294967296 * (V / 2 ^ r) ∧ (x + 4294967296 * V) % 2 ^ r = x % 2 ^ r := by
  have hp := pow_split r hr
  have hp0 : 0 < 2 ^ r := Nat.two_pow_pos _
  generalize hP : 2 ^ r = p at *
  generalize 2 ^ (32 - r) = q at *
  have hV := Nat.div_add_mod V p
  have e1 : x + 4294967296 * V = x + p * (q * V) := by rw [hp]; grind
  rw [e1]
  refine ⟨?_, Nat.add_mul_mod_self_left _ _ _⟩
  rw [Nat.add_mul_div_left _ _ hp0]
  have e2 : q * V = V % p * q + 4294967296 * (V / p) := by
    rw [hp]
    generalize V / p = a at *
    generalize V % p = b at *
    rw [← hV]; grind
  omega

theorem val_div_pow (xs : List Nat) (hok : Ok xs) (h : Nat) (hh : h ≤ xs.length) : val xs / 4294967296 ^ h = val (xs.drop h) := by
  have h1 := val_split xs h hh
  have h2 := val_take_lt hok h
  rw [h1, Nat.add_mul_div_left _ _ (Nat.pow_pos (by omega)), Nat.div_eq_of_lt h2]; omega

set_option maxHeartbeats 4000000 in
theorem moveDown_any {w : World} {len off g : Nat} {xs post : List Nat} (k : Nat) (hb : Blk w g ([] ++ (xs ++ post))) (hlen : len = xs.length) (hofs : off = 0)
    (hs : xs.length ≤ 1000000000) (hk : k ≤ 1048576) (hwh : k / 32 < xs.length) :
    Calls Tryd.prog 52 #[.slice (some ⟨g, off, none⟩) len len, .int .i64 k] w fun e w' =>
      e = .returned (.tuple #[]) ∧ ∃ zs, zs.length = xs.length ∧ Blk w' g ([] ++ (zs ++ post)) ∧ Only g w w' ∧ val zs = val xs / 2 ^ k := by
  subst hlen hofs
  obtain ⟨h, hh⟩ : ∃ h, h = k / 32 := ⟨_, rfl⟩
  obtain ⟨r, hr⟩ : ∃ r, r = k % 32 := ⟨_, rfl⟩
  have hr32 : r < 32 := by omega
  have hkk : k = 32 * h + r := by omega
  have hhn : h < xs.length := by omega
  have HKK := hid hkk
  have hD : Rd w (.slice (some ⟨g, h, none⟩) (xs.length - h) (xs.length - h)) (xs.drop h) := by
    have hb' : Blk w g (xs.take h ++ (xs.drop h ++ post)) := by
      rw [← List.append_assoc, List.take_append_drop]; simpa using hb
    have h3 := Blk.rd hb' (xs.length - h) (by rw [List.length_drop]; omega) (le_maxLen (by omega))
    rwa [List.length_take, Nat.min_eq_left (by omega), List.length_drop] at h3
  have HB := hid hb
  have HD := hid hD
  have hok : Ok xs := hb.okMid
  have HOK := hid hok
  clear hb hD hok
  go_enter Tryd.func52, Tryd.ntmps52
  have ek1 : (k : Int) / 32 = (h : Int) := by omega
  have ek2 : (k : Int) % 32 = (r : Int) := by omega
  have hkn : (h : Int) < xs.length := by omega
  clear hkk hh hr
  go_wp2_with (with_reducible refine law_copyM (by with_unfolding_all rfl) (.tmp 17) (.tmp 20) (by with_unfolding_all rfl) g 0 xs.length xs.length _ (by with_unfolding_all rfl) (by with_unfolding_all rfl) [] xs post (xs.drop h) HB.out rfl rfl HD.out ?_)
  intro w1 hb1 ho1
  have HB1 : Hid (Blk w1 g (xs.drop h ++ (xs.drop (xs.length - h) ++ post))) := by
    rw [List.take_of_length_le (by rw [List.length_drop]; omega)] at hb1
    exact hid hb1
  have hmin : min (xs.length - h) xs.length = xs.length - h := by omega
  have HO1 := hid ho1
  clear hb1 ho1
  have hYl : (xs.drop h).length = xs.length - h := List.length_drop
  have HYL := hid hYl
  clear hYl
  obtain ⟨D, hDe⟩ : ∃ D, D = xs.drop h := ⟨_, rfl⟩
  have hvD : val D = val xs / 4294967296 ^ h := by rw [hDe, val_div_pow xs HOK.out h (by omega)]
  have hDl : D.length = xs.length - h := by rw [hDe]; exact HYL.out
  have HVD := hid (And.intro hvD hDl)
  have HDE := hid hDe
  clear hvD hDl hDe
  by_cases h0 : h = 0
  · go_wp2_with (with_reducible refine law_clear (by with_unfolding_all rfl) (.tmp 24) (by with_unfolding_all rfl) g 0 0 0 (by with_unfolding_all rfl) [] [] (xs.drop h ++ (xs.drop (xs.length - h) ++ post)) (by simpa using HB1.out) rfl rfl ?_)
    intro w2 hb2 ho2
    have HB2 : Hid (Blk w2 g ([] ++ (D ++ (List.replicate h 0 ++ post)))) := by
      rw [HDE.out, h0]
      exact hid (by simpa using hb2)
    have HO2 := hid (HO1.out.trans ho2)
    clear hb2 ho2
    go_wp2
    go_loopw [7, 8] (fun cv iv wr => ∃ (j c : Nat) (zs : List Nat), j ≤ xs.length - h ∧ iv = .int .i64 ((j : Int) - 1) ∧ cv = .int .u32 c ∧ c < 4294967296 ∧ c = val (D.drop j) % 2 ^ r * 2 ^ (32 - r) ∧ zs.length = D.length ∧ Blk wr g ([] ++ (zs ++ (List.replicate h 0 ++ post))) ∧ Only g w wr ∧ zs.take j = D.take j ∧
        val (zs.drop j) = val (D.drop j) / 2 ^ r) (fun _ iv _ => (intOf iv + 1).toNat)
    case atStart =>
      refine ⟨xs.length - h, 0, D, by omega, by go_num, rfl, by omega, ?_, rfl, HB2.out, HO2.out, rfl, ?_⟩
      · rw [List.drop_eq_nil_of_le (by rw [HVD.out.2]; exact Nat.le_refl _)]; simp [val]
      · rw [List.drop_eq_nil_of_le (by rw [HVD.out.2]; exact Nat.le_refl _)]; simp [val]
    case round =>
      obtain ⟨j, c, zs, hj, rfl, rfl, hc, hce, hzl, hbz, hon, htk, hv⟩ := hrel
      have H := hid (And.intro hce (And.intro hzl (And.intro hbz (And.intro hon (And.intro htk hv)))))
      clear hce hzl hbz hon htk hv
      cases j with
      | zero =>
        go_wp2
        go_returns
        obtain ⟨q1, q2, q3, q4, q5, q6⟩ := H.out
        refine ⟨rfl, zs ++ List.replicate h 0, ?_, by simpa using q3, q4, ?_⟩
        · rw [List.length_append, List.length_replicate, q2, HVD.out.2]; omega
        · simp only [List.drop_zero] at q6
          rw [val_append, val_replicate, Nat.mul_zero, Nat.add_zero, q6, HVD.out.1, Nat.div_div_eq_div_mul, pow32, ← Nat.pow_add, HKK.out]
      | succ j =>
        have hlz : j < zs.length := by rw [H.out.2.1, HVD.out.2]; omega
        have hzk := H.out.2.2.1.mid j hlz
        have hfz := H.out.2.2.1.frozen (0 + j)
        simp only [List.length_nil, Nat.zero_add] at hzk hfz
        have e0 : zs.getD j 0 = D.getD j 0 := by
          have h1 := congrArg (fun l => l[j]?) H.out.2.2.2.2.1
          simp only [List.getElem?_take] at h1
          rw [if_pos (by omega), if_pos (by omega)] at h1
          rw [List.getD_eq_getElem?_getD, List.getD_eq_getElem?_getD, h1]
        rw [e0] at hzk
        clear e0
        obtain ⟨x, hx⟩ : ∃ x, x = D.getD j 0 := ⟨_, rfl⟩
        have hxb : x < 4294967296 := by rw [hx]; exact HB2.out.okMid.getD _
        rw [← hx] at hzk
        have HX := hid hx
        have HL := hid hlz
        clear hx hlz
        have hcd : c % 2 ^ (32 - r) = 0 := by rw [H.out.1]; exact Nat.mul_mod_left _ _
        have hor := or_down x c r hr32 hxb hc hcd
        have hsh := shl_down x r hr32
        have HJ := hid (down_step x (val (D.drop (j + 1))) r hr32)
        clear hcd
        go_wp2
        go_roundw
        case rel =>
          obtain ⟨q1, q2, q3, q4, q5, q6⟩ := H.out
          have e1 := val_drop_cons (xs := D) (k := j) (by rw [← q2]; exact HL.out)
          rw [← HX.out] at e1
          have hlow : x / 2 ^ r + c < 4294967296 := by
            have h1 : x / 2 ^ r < 2 ^ (32 - r) := by
              rw [Nat.div_lt_iff_lt_mul (Nat.two_pow_pos _), ← pow_split r hr32]; exact hxb
            have h2 : val (D.drop (j + 1)) % 2 ^ r < 2 ^ r := Nat.mod_lt _ (Nat.two_pow_pos _)
            have h3 : (val (D.drop (j + 1)) % 2 ^ r + 1) * 2 ^ (32 - r) ≤ 2 ^ r * 2 ^ (32 - r) := Nat.mul_le_mul_right _ h2
            rw [Nat.mul_comm (2 ^ r), ← pow_split r hr32, Nat.add_mul, ← q1] at h3
            omega
          have hc2 : x % 2 ^ r * 2 ^ (32 - r) < 4294967296 := by
            have h2 : x % 2 ^ r < 2 ^ r := Nat.mod_lt _ (Nat.two_pow_pos _)
            have h3 : (x % 2 ^ r + 1) * 2 ^ (32 - r) ≤ 2 ^ r * 2 ^ (32 - r) := Nat.mul_le_mul_right _ h2
            have h4 : 0 < 2 ^ (32 - r) := Nat.two_pow_pos _
            rw [Nat.mul_comm (2 ^ r), ← pow_split r hr32, Nat.add_mul] at h3
            omega
          have hb3 := q3.setAt j HL.out ((x / 2 ^ r + c : Nat) : Int) (x / 2 ^ r + c) rfl hlow
          simp only [List.length_nil, Nat.zero_add] at hb3
          refine ⟨j, x % 2 ^ r * 2 ^ (32 - r), zs.set j (x / 2 ^ r + c), by omega, by go_num, by rw [shl_down x r hr32], hc2, ?_, by rw [set_len]; exact q2, hb3, q4.setv _ _, ?_, ?_⟩
          · rw [e1, HJ.out.2]
          · rw [List.take_set_of_le (Nat.le_refl _)]
            have h1 := congrArg (List.take j) q5
            simpa [List.take_take] using h1
          · have e2 := val_drop_cons (xs := zs.set j (x / 2 ^ r + c)) (k := j) (by rw [set_len]; exact HL.out)
            rw [e2, drop_set_succ, q6, e1, HJ.out.1, show (zs.set j (x / 2 ^ r + c)).getD j 0 = x / 2 ^ r + c by simp [HL.out], q1]
        case measure => simp [intOf] <;> omega
  · go_wp2_with (with_reducible refine law_clear (by with_unfolding_all rfl) (.tmp 24) (by with_unfolding_all rfl) g (xs.length - h) (xs.length - (xs.length - h)) (xs.length - (xs.length - h)) (by with_unfolding_all rfl) (xs.drop h) (xs.drop (xs.length - h)) post HB1.out (by rw [List.length_drop]) (by rw [List.length_drop]) ?_)
    intro w2 hb2 ho2
    have HB2 : Hid (Blk w2 g ([] ++ (D ++ (List.replicate h 0 ++ post)))) := by
      rw [HDE.out]
      have e : xs.length - (xs.length - h) = h := by omega
      rw [e] at hb2
      exact hid (by simpa using hb2)
    have HO2 := hid (HO1.out.trans ho2)
    clear hb2 ho2
    go_wp2
    go_loopw [7, 8] (fun cv iv wr => ∃ (j c : Nat) (zs : List Nat), j ≤ xs.length - h ∧ iv = .int .i64 ((j : Int) - 1) ∧ cv = .int .u32 c ∧ c < 4294967296 ∧ c = val (D.drop j) % 2 ^ r * 2 ^ (32 - r) ∧ zs.length = D.length ∧ Blk wr g ([] ++ (zs ++ (List.replicate h 0 ++ post))) ∧ Only g w wr ∧ zs.take j = D.take j ∧
        val (zs.drop j) = val (D.drop j) / 2 ^ r) (fun _ iv _ => (intOf iv + 1).toNat)
    case atStart =>
      refine ⟨xs.length - h, 0, D, by omega, by go_num, rfl, by omega, ?_, rfl, HB2.out, HO2.out, rfl, ?_⟩
      · rw [List.drop_eq_nil_of_le (by rw [HVD.out.2]; exact Nat.le_refl _)]; simp [val]
      · rw [List.drop_eq_nil_of_le (by rw [HVD.out.2]; exact Nat.le_refl _)]; simp [val]
    case round =>
      obtain ⟨j, c, zs, hj, rfl, rfl, hc, hce, hzl, hbz, hon, htk, hv⟩ := hrel
      have H := hid (And.intro hce (And.intro hzl (And.intro hbz (And.intro hon (And.intro htk hv)))))
      clear hce hzl hbz hon htk hv
      cases j with
      | zero =>
        go_wp2
        go_returns
        obtain ⟨q1, q2, q3, q4, q5, q6⟩ := H.out
        refine ⟨rfl, zs ++ List.replicate h 0, ?_, by simpa using q3, q4, ?_⟩
        · rw [List.length_append, List.length_replicate, q2, HVD.out.2]; omega
        · simp only [List.drop_zero] at q6
          rw [val_append, val_replicate, Nat.mul_zero, Nat.add_zero, q6, HVD.out.1, Nat.div_div_eq_div_mul, pow32, ← Nat.pow_add, HKK.out]
      | succ j =>
        have hlz : j < zs.length := by rw [H.out.2.1, HVD.out.2]; omega
        have hzk := H.out.2.2.1.mid j hlz
        have hfz := H.out.2.2.1.frozen (0 + j)
        simp only [List.length_nil, Nat.zero_add] at hzk hfz
        have e0 : zs.getD j 0 = D.getD j 0 := by
          have h1 := congrArg (fun l => l[j]?) H.out.2.2.2.2.1
          simp only [List.getElem?_take] at h1
          rw [if_pos (by omega), if_pos (by omega)] at h1
          rw [List.getD_eq_getElem?_getD, List.getD_eq_getElem?_getD, h1]
        rw [e0] at hzk
        clear e0
        obtain ⟨x, hx⟩ : ∃ x, x = D.getD j 0 := ⟨_, rfl⟩
        have hxb : x < 4294967296 := by rw [hx]; exact HB2.out.okMid.getD _
        rw [← hx] at hzk
        have HX := hid hx
        have HL := hid hlz
        clear hx hlz
        have hcd : c % 2 ^ (32 - r) = 0 := by rw [H.out.1]; exact Nat.mul_mod_left _ _
        have hor := or_down x c r hr32 hxb hc hcd
        have hsh := shl_down x r hr32
        have HJ := hid (down_step x (val (D.drop (j + 1))) r hr32)
        clear hcd
        go_wp2
        go_roundw
        case rel =>
          obtain ⟨q1, q2, q3, q4, q5, q6⟩ := H.out
          have e1 := val_drop_cons (xs := D) (k := j) (by rw [← q2]; exact HL.out)
          rw [← HX.out] at e1
          have hlow : x / 2 ^ r + c < 4294967296 := by
            have h1 : x / 2 ^ r < 2 ^ (32 - r) := by
              rw [Nat.div_lt_iff_lt_mul (Nat.two_pow_pos _), ← pow_split r hr32]; exact hxb
            have h2 : val (D.drop (j + 1)) % 2 ^ r < 2 ^ r := Nat.mod_lt _ (Nat.two_pow_pos _)
            have h3 : (val (D.drop (j + 1)) % 2 ^ r + 1) * 2 ^ (32 - r) ≤ 2 ^ r * 2 ^ (32 - r) := Nat.mul_le_mul_right _ h2
            rw [Nat.mul_comm (2 ^ r), ← pow_split r hr32, Nat.add_mul, ← q1] at h3
            omega
          have hc2 : x % 2 ^ r * 2 ^ (32 - r) < 4294967296 := by
            have h2 : x % 2 ^ r < 2 ^ r := Nat.mod_lt _ (Nat.two_pow_pos _)
            have h3 : (x % 2 ^ r + 1) * 2 ^ (32 - r) ≤ 2 ^ r * 2 ^ (32 - r) := Nat.mul_le_mul_right _ h2
            have h4 : 0 < 2 ^ (32 - r) := Nat.two_pow_pos _
            rw [Nat.mul_comm (2 ^ r), ← pow_split r hr32, Nat.add_mul] at h3
            omega
          have hb3 := q3.setAt j HL.out ((x / 2 ^ r + c : Nat) : Int) (x / 2 ^ r + c) rfl hlow
          simp only [List.length_nil, Nat.zero_add] at hb3
          refine ⟨j, x % 2 ^ r * 2 ^ (32 - r), zs.set j (x / 2 ^ r + c), by omega, by go_num, by rw [shl_down x r hr32], hc2, ?_, by rw [set_len]; exact q2, hb3, q4.setv _ _, ?_, ?_⟩
          · rw [e1, HJ.out.2]
          · rw [List.take_set_of_le (Nat.le_refl _)]
            have h1 := congrArg (List.take j) q5
            simpa [List.take_take] using h1
          · have e2 := val_drop_cons (xs := zs.set j (x / 2 ^ r + c)) (k := j) (by rw [set_len]; exact HL.out)
            rw [e2, drop_set_succ, q6, e1, HJ.out.1, show (zs.set j (x / 2 ^ r + c)).getD j 0 = x / 2 ^ r + c by simp [HL.out], q1]
        case measure => simp [intOf] <;> omega

set_option maxHeartbeats 2000000 in
theorem moveDown_all {w : World} {len off g : Nat} {xs post : List Nat} (k : Nat) (hb : Blk w g ([] ++ (xs ++ post))) (hlen : len = xs.length) (hofs : off = 0)
    (hs : xs.length ≤ 1000000000) (hk : k ≤ 1048576) (hwh : xs.length ≤ k / 32) :
    Calls Tryd.prog 52 #[.slice (some ⟨g, off, none⟩) len len, .int .i64 k] w fun e w' =>
      e = .returned (.tuple #[]) ∧ ∃ zs, zs.length = xs.length ∧ Blk w' g ([] ++ (zs ++ post)) ∧ Only g w w' ∧ val zs = val xs / 2 ^ k := by
  subst hlen hofs
  obtain ⟨h, hh⟩ : ∃ h, h = k / 32 := ⟨_, rfl⟩
  have hz : val xs / 2 ^ k = 0 := by
    apply Nat.div_eq_of_lt
    have h1 := val_lt hb.okMid
    rw [pow32] at h1
    exact Nat.lt_of_lt_of_le h1 (Nat.pow_le_pow_right (by omega) (by omega))
  have HZ := hid hz
  have HB := hid hb
  have HR : Hid (Rd w (.slice (some ⟨g, 0, none⟩) 0 0) []) := hid (Blk.rd (pre := []) (xs := []) (post := xs ++ post) (by simpa using hb) 0 (by simp) (by simp))
  have ek1 : (k : Int) / 32 = (h : Int) := by omega
  have hkn : (xs.length : Int) ≤ h := by omega
  clear hb hz hh
  have hcs : ((xs.length ≤ h ∧ h ≤ xs.length) ∧ 0 < xs.length) ∨ (xs.length < h ∧ 0 < xs.length) ∨ xs.length = 0 := by omega
  rcases hcs with ⟨⟨hn0, hn1⟩, hp⟩ | ⟨hn0, hp⟩ | hn0
  rotate_right 1
  · obtain rfl := List.eq_nil_of_length_eq_zero hn0
    have HB1 : Hid (Blk w g ([] ++ ([] ++ post))) := HB
    by_cases hh0 : (0 : Int) < h
    all_goals
      go_enter Tryd.func52, Tryd.ntmps52
      go_wp2_with (with_reducible refine law_copyM (by with_unfolding_all rfl) (.tmp 17) (.tmp 20) (by with_unfolding_all rfl) g 0 0 0 _ (by with_unfolding_all rfl) (by with_unfolding_all rfl) [] [] post [] HB.out rfl rfl HR.out ?_)
    all_goals
      intro w1 hb1 ho1
      have HB1 : Hid (Blk w1 g ([] ++ ([] ++ post))) := hid hb1
      have HO1 := hid ho1
      clear hb1 ho1
      go_wp2_with (with_reducible refine law_clear (by with_unfolding_all rfl) (.tmp 24) (by with_unfolding_all rfl) g 0 0 0 (by with_unfolding_all rfl) [] [] post HB1.out rfl rfl ?_)
    all_goals
      intro w2 hb2 ho2
      have HB2 : Hid (Blk w2 g ([] ++ ([] ++ post))) := hid hb2
      have HO2 := hid (HO1.out.trans ho2)
      clear hb2 ho2
      go_wp2
      go_rounds 1
      go_returns
      exact ⟨rfl, [], by simp, HB2.out, HO2.out, by rw [HZ.out]; rfl⟩
  all_goals
    go_enter Tryd.func52, Tryd.ntmps52
    go_wp2_with (with_reducible refine law_copyM (by with_unfolding_all rfl) (.tmp 17) (.tmp 20) (by with_unfolding_all rfl) g 0 xs.length xs.length _ (by with_unfolding_all rfl) (by with_unfolding_all rfl) [] xs post [] HB.out rfl rfl HR.out ?_)
  all_goals
    intro w1 hb1 ho1
    have HB1 : Hid (Blk w1 g ([] ++ (xs ++ post))) := hid hb1
    have HO1 := hid ho1
    clear hb1 ho1
    go_wp2_with (with_reducible refine law_clear (by with_unfolding_all rfl) (.tmp 24) (by with_unfolding_all rfl) g 0 xs.length xs.length (by with_unfolding_all rfl) [] xs post HB1.out rfl rfl ?_)
  all_goals
    intro w2 hb2 ho2
    have HB2 : Hid (Blk w2 g ([] ++ (List.replicate xs.length 0 ++ post))) := hid hb2
    have HO2 := hid (HO1.out.trans ho2)
    clear hb2 ho2
    go_wp2
    go_rounds 1
    go_returns
    exact ⟨rfl, List.replicate xs.length 0, by simp, HB2.out, HO2.out, by rw [val_replicate, HZ.out]⟩

theorem moveDown_each {w : World} {len off g : Nat} {xs post : List Nat} (k : Nat) (hb : Blk w g ([] ++ (xs ++ post))) (hlen : len = xs.length) (hofs : off = 0)
    (hs : xs.length ≤ 1000000000) (hk : k ≤ 1048576) :
    Calls Tryd.prog 52 #[.slice (some ⟨g, off, none⟩) len len, .int .i64 k] w fun e w' =>
      e = .returned (.tuple #[]) ∧ ∃ zs, zs.length = xs.length ∧ Blk w' g ([] ++ (zs ++ post)) ∧ Only g w w' ∧ val zs = val xs / 2 ^ k := by
  by_cases h : k / 32 < xs.length
  · exact moveDown_any k hb hlen hofs hs hk h
  · exact moveDown_all k hb hlen hofs hs hk (by omega)

theorem nl_shl (m k : Nat) : nl (m * 2 ^ k) ≤ nl m + k / 32 + 1 := by
  rw [nl_le_iff]
  have h1 := lt_pow_nl m
  have h2 : 2 ^ k < 4294967296 ^ (k / 32 + 1) := by
    rw [pow32]; exact Nat.pow_lt_pow_right (by omega) (by omega)
  have := Nat.mul_lt_mul'' h1 h2
  rw [Nat.add_assoc, Nat.pow_add]; exact this

set_option maxHeartbeats 2000000 in
theorem shl_any {w : World} {a : Value} {m : Nat} (k : Nat) (ha : Num w a m) (hm : nl m ≤ 10000000) (hk : k ≤ 1048576) :
    Calls Tryd.prog 24 #[a, .int .i64 k] w fun e w' => ∃ v, e = .returned v ∧ Num w' v (m * 2 ^ k) ∧ Fwd w w' := by
  have hk1 : decide ((1048576 : Int) < (k : Int)) = false := decide_eq_false (by omega)
  go_enter Tryd.func24, Tryd.ntmps24
  go_wp2_with fail
  refine (trim_num ha).mono ?_
  rintro e w1 ⟨va, rfl, hna, hoa, rfl⟩
  clear ha hoa
  go_wp2_with fail
  refine (widen_any _ hna (by omega) (by show nl m + _ ≤ _; omega)).mono ?_
  rintro e w1 ⟨t, ht, rfl, hblk, hf1⟩
  have hte : ((k : Int) / 32 + 1).toNat = k / 32 + 1 := by omega
  rw [hte] at ht hblk
  have hv : val (lim m ++ List.replicate (k / 32 + 1) 0) = m := by rw [val_append, val_replicate, val_lim]; omega
  have hl : (lim m ++ List.replicate (k / 32 + 1) 0).length = t := by rw [ht, List.length_append, List.length_replicate]
  have hfit : val (lim m ++ List.replicate (k / 32 + 1) 0) * 2 ^ k < 4294967296 ^ (lim m ++ List.replicate (k / 32 + 1) 0).length := by
    rw [hv, hl, ht, ← nl_le_iff]; have := nl_shl m k; show _ ≤ nl m + (k / 32 + 1); omega
  have ht2 : t ≤ 1000000000 := by have : t = nl m + (k / 32 + 1) := ht; omega
  have HB : Hid (Blk w1 w.heap.size ([] ++ ((lim m ++ List.replicate (k / 32 + 1) 0) ++ []))) := hid (by simpa using hblk)
  have HF := hid (And.intro hfit (And.intro hl hv))
  clear hblk hfit hl hv ht hte
  have hkz : k / 32 < (lim m ++ List.replicate (k / 32 + 1) 0).length := by rw [List.length_append, List.length_replicate]; omega
  generalize lim m ++ List.replicate (k / 32 + 1) 0 = Z at *
  go_wp2_with fail
  refine (moveUp_any k HB.out HF.out.2.1.symm rfl (Nat.le_of_eq HF.out.2.1) (le_maxLen (by omega)) (by rw [HF.out.2.1]; exact ht2) hk hkz HF.out.1).mono ?_
  rintro e w2 ⟨rfl, zs, hzl, hbz, hon, hval⟩
  have hz : Rd w2 (.slice (some ⟨w.heap.size, 0, none⟩) t t) zs := by
    have h3 := Blk.rd hbz t (by rw [hzl, HF.out.2.1]; exact Nat.le_refl _) (le_maxLen (by omega))
    rwa [hzl, HF.out.2.1] at h3
  rw [HF.out.2.2] at hval
  have HV := hid hval
  clear hval hbz hzl
  go_wp2_with fail
  refine (trim_any hz).mono ?_
  rintro e w3 ⟨v, rfl, hn3, _, rfl⟩
  rw [HV.out] at hn3
  go_wp2
  go_ret
  exact ⟨_, rfl, hn3, hf1.wrote hon (Nat.le_refl _)⟩

set_option maxHeartbeats 2000000 in
theorem shr_any {w : World} {a : Value} {m : Nat} (k : Nat) (ha : Num w a m) (hm : nl m ≤ 10000000) (hk : k ≤ 1048576) :
    Calls Tryd.prog 25 #[a, .int .i64 k] w fun e w' => ∃ v, e = .returned v ∧ Num w' v (m / 2 ^ k) ∧ Fwd w w' := by
  have hk1 : decide ((1048576 : Int) < (k : Int)) = false := decide_eq_false (by omega)
  go_enter Tryd.func25, Tryd.ntmps25
  go_wp2_with fail
  refine (trim_num ha).mono ?_
  rintro e w1 ⟨va, rfl, hna, hoa, rfl⟩
  clear ha hoa
  go_wp2_with fail
  refine (clone_any hna (show nl m ≤ _ by omega)).mono ?_
  rintro e w1 ⟨rfl, hblk, hf1⟩
  have HB : Hid (Blk w1 w.heap.size ([] ++ (lim m ++ []))) := hid (by simpa using hblk)
  have hlm : (lim m).length ≤ 1000000000 := show nl m ≤ _ by omega
  clear hblk
  go_wp2_with fail
  refine (moveDown_each k HB.out rfl rfl hlm hk).mono ?_
  rintro e w2 ⟨rfl, zs, hzl, hbz, hon, hval⟩
  have hz : Rd w2 (.slice (some ⟨w.heap.size, 0, none⟩) (lim m).length (lim m).length) zs := by
    have h3 := Blk.rd hbz (lim m).length (by omega) (le_maxLen (by omega))
    rwa [hzl] at h3
  rw [val_lim] at hval
  have HV := hid hval
  clear hval hbz hzl
  go_wp2_with fail
  refine (trim_any hz).mono ?_
  rintro e w3 ⟨v, rfl, hn3, _, rfl⟩
  rw [HV.out] at hn3
  go_wp2
  go_ret
  exact ⟨_, rfl, hn3, hf1.wrote hon (Nat.le_refl _)⟩

set_option maxHeartbeats 2000000 in
/-- A shift out of bounds leaves the number. -/
theorem shl_odd {w : World} {a : Value} {m : Nat} (k : Int) (ha : Num w a m) (hm : nl m ≤ 10000000) (hk : k < 0 ∨ 1048576 < k) :
    Calls Tryd.prog 24 #[a, .int .i64 k] w fun e w' => ∃ v, e = .returned v ∧ Num w' v m ∧ Fwd w w' := by
  rcases hk with hk | hk
  · go_enter Tryd.func24, Tryd.ntmps24
    go_wp2_with fail
    refine (trim_num ha).mono ?_
    rintro e w1 ⟨va, rfl, hna, hoa, rfl⟩
    clear ha hoa
    go_wp2_with fail
    refine (clone_any hna (show nl m ≤ _ by omega)).mono ?_
    rintro e w1 ⟨rfl, hblk, hf1⟩
    go_wp2
    go_ret
    exact ⟨_, rfl, Blk.rdAll hblk _ (Nat.le_refl _) (le_maxLen (show nl m ≤ _ by omega)), hf1⟩
  · have hk0 : decide (k < 0) = false := decide_eq_false (by omega)
    have hk1 : decide ((1048576 : Int) < k) = true := decide_eq_true hk
    go_enter Tryd.func24, Tryd.ntmps24
    go_wp2_with fail
    refine (trim_num ha).mono ?_
    rintro e w1 ⟨va, rfl, hna, hoa, rfl⟩
    clear ha hoa
    go_wp2_with fail
    refine (clone_any hna (show nl m ≤ _ by omega)).mono ?_
    rintro e w1 ⟨rfl, hblk, hf1⟩
    go_wp2
    go_ret
    exact ⟨_, rfl, Blk.rdAll hblk _ (Nat.le_refl _) (le_maxLen (show nl m ≤ _ by omega)), hf1⟩

set_option maxHeartbeats 2000000 in
theorem shr_odd {w : World} {a : Value} {m : Nat} (k : Int) (ha : Num w a m) (hm : nl m ≤ 10000000) (hk : k < 0 ∨ 1048576 < k) :
    Calls Tryd.prog 25 #[a, .int .i64 k] w fun e w' => ∃ v, e = .returned v ∧ Num w' v m ∧ Fwd w w' := by
  rcases hk with hk | hk
  · go_enter Tryd.func25, Tryd.ntmps25
    go_wp2_with fail
    refine (trim_num ha).mono ?_
    rintro e w1 ⟨va, rfl, hna, hoa, rfl⟩
    clear ha hoa
    go_wp2_with fail
    refine (clone_any hna (show nl m ≤ _ by omega)).mono ?_
    rintro e w1 ⟨rfl, hblk, hf1⟩
    go_wp2
    go_ret
    exact ⟨_, rfl, Blk.rdAll hblk _ (Nat.le_refl _) (le_maxLen (show nl m ≤ _ by omega)), hf1⟩
  · have hk0 : decide (k < 0) = false := decide_eq_false (by omega)
    have hk1 : decide ((1048576 : Int) < k) = true := decide_eq_true hk
    go_enter Tryd.func25, Tryd.ntmps25
    go_wp2_with fail
    refine (trim_num ha).mono ?_
    rintro e w1 ⟨va, rfl, hna, hoa, rfl⟩
    clear ha hoa
    go_wp2_with fail
    refine (clone_any hna (show nl m ≤ _ by omega)).mono ?_
    rintro e w1 ⟨rfl, hblk, hf1⟩
    go_wp2
    go_ret
    exact ⟨_, rfl, Blk.rdAll hblk _ (Nat.le_refl _) (le_maxLen (show nl m ≤ _ by omega)), hf1⟩

end Go.Proofs.YtbkphjmhmfgpgabDoor
