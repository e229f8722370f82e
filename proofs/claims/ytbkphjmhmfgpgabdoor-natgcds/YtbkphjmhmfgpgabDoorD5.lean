/- Contract of nat's divideLong. -/
import Derived.Test.YtbkphjmhmfgpgabDoorD4
namespace Go.Proofs.YtbkphjmhmfgpgabDoor
open Go.RowKit
set_option linter.unusedVariables false

set_option maxHeartbeats 4000000 in
theorem divideLong_any {w : World} {a b : Value} {m n : Nat} (ha : Num w a m) (hb : Num w b n) (hm : nl m ≤ 10000000) (hn : 2 ≤ nl n) (hle : n ≤ m) :
    Calls Tryd.prog 57 #[a, b] w fun e w' => ∃ q r, e = .returned (.tuple #[q, r]) ∧ Num w' q (m / n) ∧ Num w' r (m % n) ∧ Fwd w w' := by
  have hnn : nl n ≤ nl m := nl_mono hle
  have hn0 : n ≠ 0 := by rintro rfl; rw [nl_zero] at hn; omega
  obtain ⟨ao, ca, rfl, hca, hcma, hcella⟩ := ha.parts
  obtain ⟨bo, cb, rfl, hcb, hcmb, hcellb⟩ := hb.parts
  unfold maxLen at hcma hcmb
  obtain ⟨bb, bof, rfl, hxk⟩ := hcellb (nl n - 1) (by omega)
  obtain ⟨k, hk⟩ : ∃ k, k = 32 - blen ((lim n).getD (nl n - 1) 0) := ⟨_, rfl⟩
  have hfit := shift_fits hn0 hk
  obtain ⟨x, hx⟩ : ∃ x, x = (lim n).getD (nl n - 1) 0 := ⟨_, rfl⟩
  rw [← hx] at hxk hk
  have hxb : x < 4294967296 := by rw [hx]; exact (ok_lim n).getD _
  have hk32 := hfit.1
  have HFIT := hid hfit.2
  have HK := hid hk
  have HLE := hid hle
  have HN0 := hid hn0
  clear hx hk hfit hle hn0 hcella hcellb
  go_enter Tryd.func57, Tryd.ntmps57
  go_wp2_with fail
  refine (lead32_any _ x hxb).mono ?_
  rintro e w1 ⟨rfl, hw⟩
  rw [hw, ← HK.out]
  clear hxk hw w1
  go_wp2_with fail
  refine (clone_any hb (show nl n ≤ _ by omega)).mono ?_
  rintro e w1 ⟨rfl, hblk1, hf1⟩
  have hlt1 := hblk1.lt
  have HB1 := hid hblk1
  clear hblk1
  have e0 : (lim n).length = nl n := rfl
  rw [e0]
  clear e0
  go_wp2_with fail
  refine (widen_any _ (ha.fwd hf1) (by omega) (by show nl m + _ ≤ _; omega)).mono ?_
  rintro e w2 ⟨t, ht, rfl, hblk2, hf2⟩
  have ht2 : t = nl m + 1 := ht
  subst ht2
  have hlt2 := hblk2.lt
  have HB2 : Hid (Blk w2 w1.heap.size (lim m ++ [0])) := hblk2
  have HB1a : Hid (Blk w2 w.heap.size ([] ++ (lim n ++ []))) := hid (by simpa using HB1.out.fwd hf2)
  clear hblk2 ht HB1
  have HF2 := hid (hf1.trans hf2)
  have hs2 := hf2.size
  have hs1 := hf1.size
  clear ha hb
  have hgw : w.heap.size ≤ w.heap.size := Nat.le_refl _
  have hgw2 : w.heap.size ≤ w1.heap.size := hs1
  generalize hg1 : w.heap.size = g1 at *
  generalize hg2 : w1.heap.size = g2 at *
  go_wp2_with fail
  refine (moveUp_any k HB1a.out rfl rfl (Nat.le_refl _) (le_maxLen (by show nl n ≤ _; omega)) (by show nl n ≤ _; omega) (by omega) (by show _ < nl n; omega) (by rw [val_lim]; exact HFIT.out)).mono ?_
  rintro e w3 ⟨rfl, ys, hyl, hby, hon3, hvy⟩
  have HB3 : Hid (Blk w3 g1 ys) := hid (by simpa using hby)
  have HB2a : Hid (Blk w3 g2 ([] ++ ((lim m ++ [0]) ++ []))) := hid (by simpa using HB2.out.only hon3 (by omega))
  rw [val_lim] at hvy
  have HY := hid (And.intro (show ys.length = nl n from hyl) hvy)
  have hs3 := hon3.size
  have HF3 := hid (HF2.out.wrote hon3 (by omega))
  have hl2 : (lim m ++ [0]).length = nl m + 1 := by rw [List.length_append]; rfl
  have HL2 := hid hl2
  have HVM : Hid (val (lim m ++ [0]) = m) := hid (by rw [val_append, val_lim]; simp [val])
  clear hby hyl hvy hon3 HB1a HB2 HF2 hl2
  generalize lim m ++ [0] = X0 at *
  go_wp2_with fail
  refine (moveUp_any k HB2a.out HL2.out.symm rfl (Nat.le_of_eq HL2.out) (le_maxLen (by omega)) (by rw [HL2.out]; omega) (by omega) (by rw [HL2.out]; omega) (by rw [HL2.out, HVM.out]; exact fit_more m k hk32)).mono ?_
  rintro e w4 ⟨rfl, R0, hRl, hbR, hon4, hvR⟩
  have HB4 : Hid (Blk w4 g2 R0) := hid (by simpa using hbR)
  have HB3a : Hid (Blk w4 g1 ys) := hid (HB3.out.only hon4 (by omega))
  rw [HL2.out] at hRl
  rw [HVM.out] at hvR
  have HR0 := hid (And.intro hRl hvR)
  have hs4 := hon4.size
  have HF4 := hid (HF3.out.wrote hon4 (by omega))
  clear hbR hRl hvR hon4 HB2a HB3 HF3
  go_wp2_with (first | (at_make; refine law_make rfl _ _ rfl .i64 .i64 _ _ (nl m - nl n + 1) rfl rfl (by omega) (by omega) (by omega) ?_))
  intro w5 hb5 hf5
  have HB5 := hid (And.intro hb5 (And.intro (HB4.out.fwd hf5) (HB3a.out.fwd hf5)))
  have HF5 := hid (HF4.out.trans hf5)
  have hg3 : g2 < w4.heap.size := by omega
  clear hb5 hf5 HB4 HB3a HF4
  generalize w4.heap.size = g3 at *
  have hDn : n * 2 ^ k < 4294967296 ^ nl n := HFIT.out
  have hge : 4294967296 ^ (nl n - 1) ≤ n * 2 ^ k := Nat.le_trans (nl_ge_pow HN0.out) (Nat.le_mul_of_pos_right _ (Nat.two_pow_pos k))
  have hst := long_start (k := k) HN0.out hnn
  have hend := fun q r => @long_end m n k q r
  obtain ⟨D, hD⟩ : ∃ D, D = n * 2 ^ k := ⟨_, rfl⟩
  obtain ⟨M, hM⟩ : ∃ M, M = m * 2 ^ k := ⟨_, rfl⟩
  rw [← hD] at hDn hge hst hend HY
  rw [← hM] at hst hend HR0
  have HD := hid (And.intro hDn (And.intro hge (And.intro hst hend)))
  clear hD hM hDn hge hst hend HFIT
  go_wp2
  go_loopw [10] (fun i wr => ∃ (j : Nat) (Q R : List Nat), j ≤ nl m - nl n + 1 ∧ i = .int .i64 ((j : Int) - 1) ∧ Q.length = nl m - nl n + 1 ∧ R.length = nl m + 1 ∧ Blk wr g3 Q ∧ Blk wr g2 R ∧ Blk wr g1 ys ∧ Fwd w wr ∧ val R < 4294967296 ^ j * D ∧
      M = val (Q.drop j) * (4294967296 ^ j * D) + val R) (fun i _ => (intOf i + 1).toNat)
  case atStart =>
    exact ⟨nl m - nl n + 1, List.replicate (nl m - nl n + 1) 0, R0, by omega, by go_num, by simp, HR0.out.1, HB5.out.1, HB5.out.2.1, HB5.out.2.2, HF5.out, by rw [HR0.out.2]; exact HD.out.2.2.1, by rw [List.drop_eq_nil_of_le (by simp)]; simp [val]; exact HR0.out.2.symm⟩
  case round =>
    obtain ⟨j, Q, R, hj, rfl, hQl, hRl, hbQ, hbR, hbY, hfw, hlt, hval⟩ := hrel
    cases j with
    | zero =>
      have H := hid (And.intro hQl (And.intro hRl (And.intro hbQ (And.intro hbR (And.intro hfw (And.intro hlt hval))))))
      clear hQl hRl hbQ hbR hfw hlt hval
      have hb0 : Blk wr g2 ([] ++ (R.take (nl n) ++ R.drop (nl n))) := by
        rw [List.nil_append, List.take_append_drop]; exact H.out.2.2.2.1
      have hl0 : (R.take (nl n)).length = nl n := by rw [List.length_take, H.out.2.1]; omega
      have hv0 : val (R.take (nl n)) = val R := small_take (Nat.lt_trans (by have := H.out.2.2.2.2.2.1; simpa using this) HD.out.1) (by rw [H.out.2.1]; omega)
      have HB0 := hid (And.intro hb0 (And.intro hl0 hv0))
      clear hb0 hl0 hv0 hbY
      go_wp2_with fail
      refine (moveDown_each k HB0.out.1 HB0.out.2.1.symm rfl (by rw [HB0.out.2.1]; omega) (by omega)).mono ?_
      rintro e w6 ⟨rfl, zs, hzl, hbz, hon, hvz⟩
      rw [HB0.out.2.1] at hzl
      rw [HB0.out.2.2] at hvz
      have hq := H.out.2.2.1.only hon (by omega)
      have hrq : Rd w6 (.slice (some ⟨g3, 0, none⟩) (nl m - nl n + 1) (nl m - nl n + 1)) Q := by
        have := hq.rdAll (nl m - nl n + 1) (by rw [H.out.1]; exact Nat.le_refl _) (le_maxLen (by omega))
        rwa [H.out.1] at this
      have hrr : Rd w6 (.slice (some ⟨g2, 0, none⟩) (nl n) (nl n)) zs := by
        have := Blk.rd hbz (nl n) (by rw [hzl]; exact Nat.le_refl _) (le_maxLen (by omega))
        rwa [hzl] at this
      have hE := HD.out.2.2.2 (val Q) (val R) (by have := H.out.2.2.2.2.2.2; simpa using this) (by have := H.out.2.2.2.2.2.1; simpa using this)
      have HF6 := hid (H.out.2.2.2.2.1.wrote hon (by omega))
      have HV := hid (And.intro hvz hE)
      clear hq hbz hzl hvz hE hon
      go_wp2_with fail
      refine (trim_any hrq).mono ?_
      rintro e w7 ⟨v1, rfl, hn1, _, hw7⟩
      rw [← hw7]
      clear hw7 w7
      go_wp2_with fail
      refine (trim_any hrr).mono ?_
      rintro e w7 ⟨v2, rfl, hn2, _, hw7⟩
      rw [← hw7]
      clear hw7 w7
      rw [HV.out.2.1] at hn1
      rw [HV.out.1, HV.out.2.2] at hn2
      go_wp2
      go_ret2
      exact ⟨v1, v2, rfl, hn1, hn2, HF6.out⟩
    | succ i =>
      have hij : i + nl n ≤ nl m := by omega
      have hA : (R.take i).length = i := by rw [List.length_take, hRl]; omega
      have hxl : ((R.drop i).take (nl n + 1)).length = nl n + 1 := by rw [List.length_take, List.length_drop, hRl]; omega
      have hcut := cut3 R i (nl n + 1)
      generalize R.take i = A at *
      generalize (R.drop i).take (nl n + 1) = xs at *
      generalize R.drop (i + (nl n + 1)) = post at *
      subst hcut
      have H := hid (And.intro hQl (And.intro hRl (And.intro hbQ (And.intro hbR (And.intro hbY (And.intro hfw (And.intro hlt (And.intro hval (And.intro hA hxl)))))))))
      have hff := long_fits (p := nl n - 2) hA (by rw [hxl]; omega) (by rw [show nl n - 2 + 2 = nl n by omega]; exact HD.out.1) hlt
      have HFF := hid hff
      clear hQl hRl hbQ hbR hfw hlt hval hbY hA hxl hff
      have hyr : Rd wr (.slice (some ⟨g1, 0, none⟩) (nl n) (nl n)) ys := by
        have := H.out.2.2.2.2.1.rdAll (nl n) (by rw [HY.out.1]; exact Nat.le_refl _) (le_maxLen (by omega))
        rwa [HY.out.1] at this
      have htp : 0 < ys.getD (nl n - 2 + 1) 0 := top_pos hyr.ok (by rw [HY.out.1]; omega) (by rw [HY.out.2, show nl n - 2 + 1 = nl n - 1 by omega]; exact HD.out.2.1)
      have hlx : i + nl n + 1 - i = xs.length := by rw [H.out.2.2.2.2.2.2.2.2.2]; omega
      have HP := hid (And.intro htp hlx)
      clear htp hlx
      go_wp2_with fail
      refine (nextDigit_any (p := nl n - 2) H.out.2.2.2.1 HP.out.2 H.out.2.2.2.2.2.2.2.2.1.symm (by rw [HP.out.2]; exact Nat.le_refl _) (le_maxLen (by omega)) hyr (by simp [Off, Value.ownBlock]; omega)
        (by rw [H.out.2.2.2.2.2.2.2.2.2]; omega) (by rw [HY.out.1]; omega) (by omega) HP.out.1 (by rw [HY.out.2]; exact HFF.out.1)).mono ?_
      rintro e w6 ⟨d, zs, rfl, hzl, hbz, hon, hd, hxv, hzv⟩
      rw [HY.out.2] at hxv hzv
      have hq := H.out.2.2.1.only hon (by omega)
      have hcq := hq.cell i (by rw [H.out.1]; omega)
      have hfq := hq.frozen i
      have hby6 := H.out.2.2.2.2.1.only hon (by omega)
      have HF6 := hid (H.out.2.2.2.2.2.1.wrote hon (by omega))
      have HZ := hid (And.intro hzl (And.intro hbz (And.intro hxv (And.intro hzv (And.intro hq hby6)))))
      clear hzl hbz hxv hzv hq hby6 hon hyr
      go_wp2
      go_roundw
      case rel =>
        obtain ⟨q1, q2, q3, q4, q5, q6, q7, q8, q9, q10⟩ := H.out
        obtain ⟨z1, z2, z3, z4, z5, z6⟩ := HZ.out
        have ho := Only.set g3 w6 i (.int .u32 (d : Int))
        have hok : Ok A := fun x hx => q4.2 x (by simp [hx])
        have hnx := long_next q9 hok z1 HFF.out.2 q8 z3 z4
        have hlen : i < Q.length := by rw [q1]; omega
        refine ⟨i, Q.set i d, A ++ (zs ++ post), by omega, by go_num, by rw [set_len]; exact q1, ?_, z5.set i d hd, z2.only ho (by omega), z6.only ho (by omega), HF6.out.wrote ho (by omega), hnx.2, ?_⟩
        · rw [← q2]; simp only [List.length_append]; omega
        · rw [val_drop_cons (xs := Q.set i d) (k := i) (by rw [set_len]; exact hlen), drop_set_succ, show (Q.set i d).getD i 0 = d by simp [hlen]]
          exact hnx.1
      case measure => simp [intOf] <;> omega

end Go.Proofs.YtbkphjmhmfgpgabDoor
