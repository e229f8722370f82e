/- Contracts of nat's Add, Sub, Mul. -/
import Derived.Test.YtbkphjmhmfgpgabDoorW3
namespace Go.Proofs.YtbkphjmhmfgpgabDoor
open Go.RowKit
set_option linter.unusedVariables false

theorem Num.off {w : World} {g : Nat} {v : Value} {n : Nat} (h : Num w v n) (hg : w.heap.size ≤ g) : Off v g := Rd.off h hg

theorem le_maxLen {n : Nat} (h : n ≤ 9223372036854775807) : n ≤ maxLen := by unfold maxLen; omega

/-- What is left of Add when the longer one stands first. -/
theorem add_val {m n c : Nat} {zs : List Nat} (hok : Ok zs) (hl : zs.length = (lim m ++ List.replicate 1 0).length) (hle : nl n ≤ nl m) (h : val (lim m ++ List.replicate 1 0) + val (lim n) = val zs + c * 4294967296 ^ (lim m ++ List.replicate 1 0).length) : val zs = m + n := by
  rw [val_append, val_replicate, val_lim, val_lim] at h
  have h1 := lt_pow_nl m
  have h2 := (nl_le_iff n (nl m)).1 hle
  have e : (lim m ++ List.replicate 1 0).length = nl m + 1 := by simp [nl]
  rw [e, Nat.pow_succ] at h
  have hc : c = 0 := by
    rcases Nat.eq_zero_or_pos c with h0 | h0
    · exact h0
    · have : 1 * (4294967296 ^ nl m * 4294967296) ≤ c * (4294967296 ^ nl m * 4294967296) := Nat.mul_le_mul_right _ h0
      omega
  subst hc; omega

set_option maxHeartbeats 1000000 in
theorem add_any {w : World} {a b : Value} {m n : Nat} (ha : Num w a m) (hb : Num w b n) (hm : nl m ≤ 100000000) (hn : nl n ≤ 100000000) :
    Calls Tryd.prog 27 #[a, b] w fun e w' => ∃ v, e = .returned v ∧ Num w' v (m + n) ∧ Fwd w w' := by
  go_enter Tryd.func27, Tryd.ntmps27
  go_wp2_with fail
  refine (trim_num ha).mono ?_
  rintro e w1 ⟨va, rfl, hna, hoa, rfl⟩
  go_wp2_with fail
  refine (trim_num hb).mono ?_
  rintro e w1 ⟨vb, rfl, hnb, hob, rfl⟩
  clear ha hb hoa hob
  obtain ⟨ao, ca, rfl, hca, hcma, hcella⟩ := hna.parts
  obtain ⟨bo, cb, rfl, hcb, hcmb, hcellb⟩ := hnb.parts
  clear hcella hcellb hca hcb hcma hcmb
  by_cases hlt : nl m < nl n
  · have hle : nl m ≤ nl n := by omega
    go_wp2_with fail
    refine (widen_any 1 hnb (by omega) (by show nl n + 1 ≤ _; omega)).mono ?_
    rintro e w1 ⟨k, hk, rfl, hblk, hf1⟩
    have HK : Hid (k = (lim n ++ List.replicate 1 0).length) := by show _ = _; simp at hk ⊢; exact hk
    have hk2 : k ≤ 1000000000 := by have : k = nl n + 1 := hk; omega
    clear hk
    have hblk2 : Blk w1 w.heap.size ([] ++ ((lim n ++ List.replicate 1 0) ++ [])) := by simpa using hblk
    have HB : Hid (Blk w1 w.heap.size ([] ++ ((lim n ++ List.replicate 1 0) ++ []))) := hblk2
    clear hblk hblk2
    have ho := hna.off (Nat.le_refl w.heap.size)
    have hr := hna.fwd hf1
    go_wp2_with fail
    refine (addTo_any HB.out HK.out rfl (by rw [← HK.out]; exact Nat.le_refl _) (le_maxLen (by omega)) hr ho (by have : (lim m).length ≤ (lim n).length := (by exact hle); simp; omega) (by rw [← HK.out]; exact hk2)).mono ?_
    rintro e w2 ⟨rfl, zs, c, hzl, hbz, hon, hc, hval⟩
    have hz : Rd w2 (.slice (some ⟨w.heap.size, 0, none⟩) k k) zs := by
      have h3 := Blk.rd hbz k (by rw [hzl, ← HK.out]; exact Nat.le_refl _) (le_maxLen (by omega))
      rwa [hzl, ← HK.out] at h3
    have hv := add_val hz.ok hzl hle hval
    have HF : Hid (val zs = n + m) := hv
    clear hv hval hzl hbz
    go_wp2_with fail
    refine (trim_any hz).mono ?_
    rintro e w3 ⟨v, rfl, hn3, _, rfl⟩
    go_wp2
    go_ret
    rw [HF.out, Nat.add_comm] at hn3
    exact ⟨_, rfl, hn3, hf1.wrote hon (Nat.le_refl _)⟩
  · have hle : nl n ≤ nl m := by omega
    go_wp2_with fail
    refine (widen_any 1 hna (by omega) (by show nl m + 1 ≤ _; omega)).mono ?_
    rintro e w1 ⟨k, hk, rfl, hblk, hf1⟩
    have HK : Hid (k = (lim m ++ List.replicate 1 0).length) := by show _ = _; simp at hk ⊢; exact hk
    have hk2 : k ≤ 1000000000 := by have : k = nl m + 1 := hk; omega
    clear hk
    have hblk2 : Blk w1 w.heap.size ([] ++ ((lim m ++ List.replicate 1 0) ++ [])) := by simpa using hblk
    have HB : Hid (Blk w1 w.heap.size ([] ++ ((lim m ++ List.replicate 1 0) ++ []))) := hblk2
    clear hblk hblk2
    have ho := hnb.off (Nat.le_refl w.heap.size)
    have hr := hnb.fwd hf1
    go_wp2_with fail
    refine (addTo_any HB.out HK.out rfl (by rw [← HK.out]; exact Nat.le_refl _) (le_maxLen (by omega)) hr ho (by have : (lim n).length ≤ (lim m).length := (by exact hle); simp; omega) (by rw [← HK.out]; exact hk2)).mono ?_
    rintro e w2 ⟨rfl, zs, c, hzl, hbz, hon, hc, hval⟩
    have hz : Rd w2 (.slice (some ⟨w.heap.size, 0, none⟩) k k) zs := by
      have h3 := Blk.rd hbz k (by rw [hzl, ← HK.out]; exact Nat.le_refl _) (le_maxLen (by omega))
      rwa [hzl, ← HK.out] at h3
    have hv := add_val hz.ok hzl hle hval
    have HF : Hid (val zs = m + n) := hv
    clear hv hval hzl hbz
    go_wp2_with fail
    refine (trim_any hz).mono ?_
    rintro e w3 ⟨v, rfl, hn3, _, rfl⟩
    go_wp2
    go_ret
    rw [HF.out] at hn3
    exact ⟨_, rfl, hn3, hf1.wrote hon (Nat.le_refl _)⟩

set_option maxHeartbeats 1000000 in
theorem sub_less {w : World} {a b : Value} {m n : Nat} (ha : Num w a m) (hb : Num w b n) (hm : nl m ≤ 100000000) (hn : nl n ≤ 100000000) (h : m < n) :
    Calls Tryd.prog 18 #[a, b] w fun e w' => e = .returned (.tuple #[.slice none 0 0, .int .i64 1]) ∧ Fwd w w' := by
  go_enter Tryd.func18, Tryd.ntmps18
  go_wp2_with fail
  refine (trim_num ha).mono ?_
  rintro e w1 ⟨va, rfl, hna, hoa, rfl⟩
  go_wp2_with fail
  refine (trim_num hb).mono ?_
  rintro e w1 ⟨vb, rfl, hnb, hob, rfl⟩
  clear ha hb hoa hob
  go_wp2_with fail
  refine (cmp_any hna hnb (by omega) (by omega)).mono ?_
  rintro e w1 ⟨rfl, hf1⟩
  rw [cmpI_lt (by omega)]
  go_wp2
  go_ret2
  exact ⟨rfl, hf1⟩

theorem sub_val {m n c : Nat} {zs : List Nat} (hok : Ok zs) (hl : zs.length = (lim m).length) (hle : n ≤ m) (h : val (lim m) + c * 4294967296 ^ (lim m).length = val zs + val (lim n)) : val zs = m - n := by
  rw [val_lim, val_lim] at h
  have h1 := val_lt hok
  rw [hl] at h1
  have hc : c = 0 := by
    rcases Nat.eq_zero_or_pos c with h0 | h0
    · exact h0
    · have : 1 * 4294967296 ^ (lim m).length ≤ c * 4294967296 ^ (lim m).length := Nat.mul_le_mul_right _ h0
      omega
  subst hc; omega

set_option maxHeartbeats 1000000 in
theorem sub_more {w : World} {a b : Value} {m n : Nat} (ha : Num w a m) (hb : Num w b n) (hm : nl m ≤ 100000000) (hn : nl n ≤ 100000000) (h : n ≤ m) :
    Calls Tryd.prog 18 #[a, b] w fun e w' => ∃ v, e = .returned (.tuple #[v, .int .i64 0]) ∧ Num w' v (m - n) ∧ Fwd w w' := by
  go_enter Tryd.func18, Tryd.ntmps18
  go_wp2_with fail
  refine (trim_num ha).mono ?_
  rintro e w1 ⟨va, rfl, hna, hoa, rfl⟩
  go_wp2_with fail
  refine (trim_num hb).mono ?_
  rintro e w1 ⟨vb, rfl, hnb, hob, rfl⟩
  clear ha hb hoa hob
  go_wp2_with fail
  refine (cmp_any hna hnb (by omega) (by omega)).mono ?_
  rintro e w1 ⟨rfl, hf1⟩
  obtain ⟨ci, hci, hc0⟩ : ∃ ci, ci = cmpI m n ∧ 0 ≤ ci := by
    rcases Nat.lt_or_ge n m with h2 | h2
    · exact ⟨_, rfl, by rw [cmpI_gt (by omega)]; omega⟩
    · exact ⟨_, rfl, by rw [cmpI_eq (by omega)]; omega⟩
  rw [← hci]
  clear hci
  have hna1 := hna.fwd hf1
  have hnb1 := hnb.fwd hf1
  clear hna hnb
  go_wp2_with fail
  refine (clone_any hna1 (show nl m ≤ _ by omega)).mono ?_
  rintro e w2 ⟨rfl, hblk, hf2⟩
  have HB : Hid (Blk w2 w1.heap.size ([] ++ (lim m ++ []))) := by show Blk _ _ _; simpa using hblk
  clear hblk
  have ho := hnb1.off (Nat.le_refl w1.heap.size)
  have hr := hnb1.fwd hf2
  have hle : (lim n).length ≤ (lim m).length := nl_mono h
  have hlm : (lim m).length ≤ 1000000000 := show nl m ≤ _ by omega
  go_wp2_with fail
  refine (takeFrom_any HB.out rfl rfl (Nat.le_refl _) (le_maxLen (by omega)) hr ho hle hlm).mono ?_
  rintro e w3 ⟨rfl, zs, c, hzl, hbz, hon, hc, hval⟩
  have hz : Rd w3 (.slice (some ⟨w1.heap.size, 0, none⟩) (lim m).length (lim m).length) zs := by
    have h3 := Blk.rd hbz (lim m).length (by omega) (le_maxLen (by omega))
    rwa [hzl] at h3
  have HF : Hid (val zs = m - n) := sub_val hz.ok hzl h hval
  clear hval hzl hbz
  go_wp2_with fail
  refine (trim_any hz).mono ?_
  rintro e w4 ⟨v, rfl, hn3, _, rfl⟩
  go_wp2
  go_ret2
  rw [HF.out] at hn3
  exact ⟨_, rfl, hn3, hf1.trans (hf2.wrote hon (Nat.le_refl _))⟩

end Go.Proofs.YtbkphjmhmfgpgabDoor
