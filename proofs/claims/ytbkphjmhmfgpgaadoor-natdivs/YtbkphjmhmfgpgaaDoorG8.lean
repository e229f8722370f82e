/- Contract of nat's Gcd. -/
import Derived.Test.YtbkphjmhmfgpgaaDoorG7
namespace Go.Proofs.YtbkphjmhmfgpgaaDoor
open Go.RowKit
set_option linter.unusedVariables false

/-- The number that v reads as. -/
theorem valOf_ex : ∃ f : World → Value → Nat, ∀ (w : World) (v : Value) (xs : List Nat), Rd w v xs → f w v = val xs := by
  classical
  refine ⟨fun w v => if h : ∃ xs, Rd w v xs then val h.choose else 0, fun w v xs h => ?_⟩
  have hx : ∃ xs, Rd w v xs := ⟨xs, h⟩
  show (if h : ∃ xs, Rd w v xs then val h.choose else 0) = val xs
  rw [dif_pos hx]
  exact congrArg val (Rd.inj hx.choose_spec h)
theorem Blk.rdLen {w : World} {g n : Nat} {xs post : List Nat} (h : Blk w g ([] ++ (xs ++ post))) (hl : xs.length = n) (hn : n ≤ 1000000000) : Rd w (.slice (some ⟨g, 0, none⟩) n n) xs := by
  have := Blk.rd h n (by omega) (le_maxLen (by omega))
  rwa [hl] at this

set_option maxHeartbeats 8000000 in
set_option maxRecDepth 20000 in
theorem gcd_ge {w : World} {a b : Value} {m n : Nat} (ha : Num w a m) (hb : Num w b n) (hm : nl m ≤ 1000000) (hn : nl n ≤ 1000000) (hle : n ≤ m) :
    Calls Tryd.prog 31 #[a, b] w fun e w' => ∃ v, e = .returned v ∧ Num w' v (Nat.gcd m n) ∧ Fwd w w' := by
  have hnl : nl n ≤ nl m := nl_mono (by omega)
  have hcm : decide (cmpI (m : Int) (n : Int) < 0) = false := by
    apply decide_eq_false
    rcases Nat.lt_or_ge n m with h | h
    · rw [cmpI_gt (by omega)]; omega
    · rw [cmpI_eq (by omega)]; omega
  have HLE := hid hle
  clear hle
  obtain ⟨valOf, hq0⟩ := valOf_ex
  have VQ := hid hq0
  clear hq0
  go_enter Tryd.func31, Tryd.ntmps31
  go_wp2_with fail
  refine (trim_num ha).mono ?_
  rintro e w1 ⟨va, rfl, hna, _, rfl⟩
  go_wp2_with fail
  refine (trim_num hb).mono ?_
  rintro e w1 ⟨vb, rfl, hnb, _, rfl⟩
  clear ha hb
  obtain ⟨ao, ca, rfl, hca, hcma, hcella⟩ := hna.parts
  obtain ⟨bo, cb, rfl, hcb, hcmb, hcellb⟩ := hnb.parts
  unfold maxLen at hcma hcmb
  clear hcella hcellb
  go_wp2_with fail
  refine (cmp_any hna hnb (by omega) (by omega)).mono ?_
  rintro e w1 ⟨rfl, hf1⟩
  have hna1 := hna.fwd hf1
  have hnb1 := hnb.fwd hf1
  clear hna hnb
  go_wp2_with fail
  refine (clone_any hna1 (show nl m ≤ _ by omega)).mono ?_
  rintro e w2 ⟨rfl, hbk, hf2⟩
  have hsm2 := hnb1.fwd hf2
  have hel : (lim m).length = nl m := rfl
  rw [hel]
  have hes : (lim n).length = nl n := rfl
  have hsub : ((nl m : Int) - (nl n : Int)).toNat = nl m - nl n := by omega
  go_wp2_with fail
  refine (widen_any ((nl m : Int) - (nl n : Int)) hsm2 (by omega) (by rw [hes, hsub]; omega)).mono ?_
  rintro e w3 ⟨mm, hmm, rfl, hbw, hf3⟩
  rw [hes, hsub] at hmm
  have hmm2 : mm = nl m := by omega
  subst hmm2
  rw [hsub] at hbw
  have HB1 := hid (hbk.fwd hf3)
  have HB2 := hid hbw
  have HF3 := hid ((hf1.trans hf2).trans hf3)
  have hsz : w.heap.size ≤ w1.heap.size := hf1.size
  have hsz2 : w1.heap.size < w2.heap.size := hbk.lt
  clear hbk hbw hf1 hf2 hf3 hna1 hnb1 hsm2 hel hes hsub hmm
  go_wp2
  go_loopw [5, 6] (fun x y wr => ∃ (gx gy X Y : Nat) (px py ys : List Nat), x = .slice (some ⟨gx, 0, none⟩) (nl X) (nl X) ∧ y = .slice (some ⟨gy, 0, none⟩) (nl X) (nl X) ∧ gx ≠ gy ∧ w.heap.size ≤ gx ∧ w.heap.size ≤ gy ∧ nl X ≤ 1000000 ∧
      Blk wr gx ([] ++ (lim X ++ px)) ∧ Blk wr gy ([] ++ (ys ++ py)) ∧ ys.length = nl X ∧ val ys = Y ∧ Y ≤ X ∧ Nat.gcd X Y = Nat.gcd m n ∧ Below w.heap.size w wr) (fun x y wr => valOf wr x + valOf wr y)
  case atStart =>
    refine ⟨w1.heap.size, w2.heap.size, m, n, [], [], lim n ++ List.replicate (nl m - nl n) 0, rfl, rfl, by omega, by omega, by omega, by omega, by simpa using HB1.out, by simpa using HB2.out, ?_, ?_, by have := HLE.out; omega, rfl, HF3.out⟩
    · rw [List.length_append, List.length_replicate]; show nl n + _ = _; omega
    · rw [val_append, val_replicate, val_lim]; simp
  case round =>
    obtain ⟨gx, gy, X, Y, px, py, ys, rfl, rfl, hne, hgx, hgy, hXb, hbx, hby, hyl, hvy, hYX, hgc, hbel⟩ := hrel
    have hsx := hbx.rdLen (show (lim X).length = nl X from rfl) (by omega)
    have hsy := hby.rdLen hyl (by omega)
    have HMX := hid (VQ.out _ _ _ hsx)
    have HMY := hid (VQ.out _ _ _ hsy)
    have hYn : nl Y ≤ nl X := nl_mono hYX
    have H := hid (And.intro hbx (And.intro hby (And.intro hyl (And.intro hvy (And.intro hYX (And.intro hgc hbel))))))
    have hnx : Num wr (.slice (some ⟨gx, 0, none⟩) (nl X) (nl X)) X := hsx
    have hT : Calls Tryd.prog 41 #[.slice (some ⟨gy, 0, none⟩) (nl X) (nl X)] wr fun e w' => e = .returned (.slice (some ⟨gy, 0, none⟩) (nl Y) (nl Y)) ∧ wr = w' := by
      have := trim_row (len := nl X) (off := 0) (cap := nl X) hby hyl.symm rfl (by omega) (le_maxLen (by omega))
      rwa [hvy] at this
    have HT := hid hT
    have hny : Num wr (.slice (some ⟨gy, 0, none⟩) (nl Y) (nl Y)) Y := by
      have h1 := take_nl hsy.ok
      rw [hvy] at h1
      have h2 : Blk wr gy ([] ++ (lim Y ++ (ys.drop (nl Y) ++ py))) := by
        rw [← List.append_assoc (lim Y), ← h1]; exact hby
      exact h2.rdLen rfl (by omega)
    have HNY := hid hny
    clear hbx hby hyl hvy hYX hgc hbel hsx hsy hT hny
    go_wp2_with fail
    refine HT.out.mono ?_
    rintro e w4 ⟨rfl, rfl⟩
    by_cases h2 : 2 < nl Y
    · go_wp2_with fail
      obtain ⟨q1, q2, q3, q4, q5, q6, q7⟩ := H.out
      refine (lessen_any (base := w.heap.size) q1 q2 hne rfl q3 q4 (by omega) q5 h2 hgx hgy).mono ?_
      rintro e w5 ⟨gA, gB, R, P, zs, ts, pA, pB, rfl, hneAB, hgA, hgB, hzl, htl, hbz, hbt, hvz, hvt, hPR, hsum, hgcd, hbel5⟩
      have hT5 : Calls Tryd.prog 41 #[.slice (some ⟨gA, 0, none⟩) (nl X) (nl X)] w5 fun e w' => e = .returned (.slice (some ⟨gA, 0, none⟩) (nl R) (nl R)) ∧ w5 = w' := by
        have := trim_row (len := nl X) (off := 0) (cap := nl X) hbz hzl.symm rfl (by omega) (le_maxLen (by omega))
        rwa [hvz] at this
      have hRL : nl R ≤ nl X := by
        have := nl_val_le hbz.okMid
        rw [hvz, hzl] at this; exact this
      have HT5 := hid hT5
      have HB5 := hid (q7.trans hbel5)
      have HGC := hid (hgcd.trans q6)
      have H5 := hid (And.intro hzl (And.intro htl (And.intro hbz (And.intro hbt (And.intro hvz hvt)))))
      have HPR := hid hPR
      have HSUM := hid hsum
      clear q1 q2 q3 q4 q5 q6 q7 hzl htl hbz hbt hvz hvt hT5 hgcd hbel5 hPR hsum HT HNY hnx
      go_wp2_with fail
      refine HT5.out.mono ?_
      rintro e w6 ⟨rfl, rfl⟩
      have HEX : Hid (∃ (pA' pB' ts' : List Nat), Blk w5 gA ([] ++ (lim R ++ pA')) ∧ Blk w5 gB ([] ++ (ts' ++ pB')) ∧ ts'.length = nl R ∧ val ts' = P) := by
        obtain ⟨hzl, htl, hbz, hbt, hvz, hvt⟩ := H5.out
        have h1 := take_nl hbz.okMid
        rw [hvz] at h1
        refine hid ⟨zs.drop (nl R) ++ pA, ts.drop (nl R) ++ pB, ts.take (nl R), ?_, ?_, ?_, ?_⟩
        · rw [← List.append_assoc (lim R), ← h1]; exact hbz
        · rw [← List.append_assoc (ts.take _), List.take_append_drop]; exact hbt
        · rw [List.length_take]; omega
        · rw [small_take (by rw [hvt]; exact Nat.lt_of_le_of_lt HPR.out (lt_pow_nl R)) (by omega)]; exact hvt
      go_wp2
      go_roundw
      case rel =>
        obtain ⟨pA', pB', ts', k1, k2, k3, k4⟩ := HEX.out
        exact ⟨gA, gB, R, P, pA', pB', ts', rfl, rfl, hneAB, hgA, hgB, by omega, k1, k2, k3, k4, HPR.out, HGC.out, HB5.out⟩
      case measure =>
        obtain ⟨pA', pB', ts', k1, k2, k3, k4⟩ := HEX.out
        obtain ⟨q1, q2, q3, q4, q5, q6, q7⟩ := H.out
        show valOf _ _ + valOf _ _ < valOf _ _ + valOf _ _
        rw [HMX.out, HMY.out, VQ.out _ _ _ (k1.rdLen (show (lim R).length = nl R from rfl) (by omega)), VQ.out _ _ _ (k2.rdLen k3 (by omega)), val_lim, val_lim, k4, q4]
        exact HSUM.out
    · go_wp2_with fail
      refine HT.out.mono ?_
      rintro e w5 ⟨rfl, rfl⟩
      go_wp2_with fail
      refine (gcdShort_any hnx HNY.out (by omega) (by omega)).mono ?_
      rintro e w6 ⟨v, rfl, hv, hf6⟩
      go_wp2
      go_ret
      refine ⟨_, rfl, ?_, ?_⟩
      · rw [← H.out.2.2.2.2.2.1]; exact hv
      · exact Fwd.trans (show Fwd w wr from H.out.2.2.2.2.2.2) hf6

set_option maxHeartbeats 8000000 in
set_option maxRecDepth 20000 in
theorem gcd_lt {w : World} {a b : Value} {m n : Nat} (ha : Num w a m) (hb : Num w b n) (hm : nl m ≤ 1000000) (hn : nl n ≤ 1000000) (hle : m < n) :
    Calls Tryd.prog 31 #[a, b] w fun e w' => ∃ v, e = .returned v ∧ Num w' v (Nat.gcd m n) ∧ Fwd w w' := by
  have hnl : nl m ≤ nl n := nl_mono (by omega)
  have hcm : decide (cmpI (m : Int) (n : Int) < 0) = true := by
    apply decide_eq_true
    rw [cmpI_lt (by omega)]; omega
  have HLE := hid hle
  clear hle
  obtain ⟨valOf, hq0⟩ := valOf_ex
  have VQ := hid hq0
  clear hq0
  go_enter Tryd.func31, Tryd.ntmps31
  go_wp2_with fail
  refine (trim_num ha).mono ?_
  rintro e w1 ⟨va, rfl, hna, _, rfl⟩
  go_wp2_with fail
  refine (trim_num hb).mono ?_
  rintro e w1 ⟨vb, rfl, hnb, _, rfl⟩
  clear ha hb
  obtain ⟨ao, ca, rfl, hca, hcma, hcella⟩ := hna.parts
  obtain ⟨bo, cb, rfl, hcb, hcmb, hcellb⟩ := hnb.parts
  unfold maxLen at hcma hcmb
  clear hcella hcellb
  go_wp2_with fail
  refine (cmp_any hna hnb (by omega) (by omega)).mono ?_
  rintro e w1 ⟨rfl, hf1⟩
  have hna1 := hna.fwd hf1
  have hnb1 := hnb.fwd hf1
  clear hna hnb
  go_wp2_with fail
  refine (clone_any hnb1 (show nl n ≤ _ by omega)).mono ?_
  rintro e w2 ⟨rfl, hbk, hf2⟩
  have hsm2 := hna1.fwd hf2
  have hel : (lim n).length = nl n := rfl
  rw [hel]
  have hes : (lim m).length = nl m := rfl
  have hsub : ((nl n : Int) - (nl m : Int)).toNat = nl n - nl m := by omega
  go_wp2_with fail
  refine (widen_any ((nl n : Int) - (nl m : Int)) hsm2 (by omega) (by rw [hes, hsub]; omega)).mono ?_
  rintro e w3 ⟨mm, hmm, rfl, hbw, hf3⟩
  rw [hes, hsub] at hmm
  have hmm2 : mm = nl n := by omega
  subst hmm2
  rw [hsub] at hbw
  have HB1 := hid (hbk.fwd hf3)
  have HB2 := hid hbw
  have HF3 := hid ((hf1.trans hf2).trans hf3)
  have hsz : w.heap.size ≤ w1.heap.size := hf1.size
  have hsz2 : w1.heap.size < w2.heap.size := hbk.lt
  clear hbk hbw hf1 hf2 hf3 hna1 hnb1 hsm2 hel hes hsub hmm
  go_wp2
  go_loopw [5, 6] (fun x y wr => ∃ (gx gy X Y : Nat) (px py ys : List Nat), x = .slice (some ⟨gx, 0, none⟩) (nl X) (nl X) ∧ y = .slice (some ⟨gy, 0, none⟩) (nl X) (nl X) ∧ gx ≠ gy ∧ w.heap.size ≤ gx ∧ w.heap.size ≤ gy ∧ nl X ≤ 1000000 ∧
      Blk wr gx ([] ++ (lim X ++ px)) ∧ Blk wr gy ([] ++ (ys ++ py)) ∧ ys.length = nl X ∧ val ys = Y ∧ Y ≤ X ∧ Nat.gcd X Y = Nat.gcd m n ∧ Below w.heap.size w wr) (fun x y wr => valOf wr x + valOf wr y)
  case atStart =>
    refine ⟨w1.heap.size, w2.heap.size, n, m, [], [], lim m ++ List.replicate (nl n - nl m) 0, rfl, rfl, by omega, by omega, by omega, by omega, by simpa using HB1.out, by simpa using HB2.out, ?_, ?_, by have := HLE.out; omega, Nat.gcd_comm _ _, HF3.out⟩
    · rw [List.length_append, List.length_replicate]; show nl m + _ = _; omega
    · rw [val_append, val_replicate, val_lim]; simp
  case round =>
    obtain ⟨gx, gy, X, Y, px, py, ys, rfl, rfl, hne, hgx, hgy, hXb, hbx, hby, hyl, hvy, hYX, hgc, hbel⟩ := hrel
    have hsx := hbx.rdLen (show (lim X).length = nl X from rfl) (by omega)
    have hsy := hby.rdLen hyl (by omega)
    have HMX := hid (VQ.out _ _ _ hsx)
    have HMY := hid (VQ.out _ _ _ hsy)
    have hYn : nl Y ≤ nl X := nl_mono hYX
    have H := hid (And.intro hbx (And.intro hby (And.intro hyl (And.intro hvy (And.intro hYX (And.intro hgc hbel))))))
    have hnx : Num wr (.slice (some ⟨gx, 0, none⟩) (nl X) (nl X)) X := hsx
    have hT : Calls Tryd.prog 41 #[.slice (some ⟨gy, 0, none⟩) (nl X) (nl X)] wr fun e w' => e = .returned (.slice (some ⟨gy, 0, none⟩) (nl Y) (nl Y)) ∧ wr = w' := by
      have := trim_row (len := nl X) (off := 0) (cap := nl X) hby hyl.symm rfl (by omega) (le_maxLen (by omega))
      rwa [hvy] at this
    have HT := hid hT
    have hny : Num wr (.slice (some ⟨gy, 0, none⟩) (nl Y) (nl Y)) Y := by
      have h1 := take_nl hsy.ok
      rw [hvy] at h1
      have h2 : Blk wr gy ([] ++ (lim Y ++ (ys.drop (nl Y) ++ py))) := by
        rw [← List.append_assoc (lim Y), ← h1]; exact hby
      exact h2.rdLen rfl (by omega)
    have HNY := hid hny
    clear hbx hby hyl hvy hYX hgc hbel hsx hsy hT hny
    go_wp2_with fail
    refine HT.out.mono ?_
    rintro e w4 ⟨rfl, rfl⟩
    by_cases h2 : 2 < nl Y
    · go_wp2_with fail
      obtain ⟨q1, q2, q3, q4, q5, q6, q7⟩ := H.out
      refine (lessen_any (base := w.heap.size) q1 q2 hne rfl q3 q4 (by omega) q5 h2 hgx hgy).mono ?_
      rintro e w5 ⟨gA, gB, R, P, zs, ts, pA, pB, rfl, hneAB, hgA, hgB, hzl, htl, hbz, hbt, hvz, hvt, hPR, hsum, hgcd, hbel5⟩
      have hT5 : Calls Tryd.prog 41 #[.slice (some ⟨gA, 0, none⟩) (nl X) (nl X)] w5 fun e w' => e = .returned (.slice (some ⟨gA, 0, none⟩) (nl R) (nl R)) ∧ w5 = w' := by
        have := trim_row (len := nl X) (off := 0) (cap := nl X) hbz hzl.symm rfl (by omega) (le_maxLen (by omega))
        rwa [hvz] at this
      have hRL : nl R ≤ nl X := by
        have := nl_val_le hbz.okMid
        rw [hvz, hzl] at this; exact this
      have HT5 := hid hT5
      have HB5 := hid (q7.trans hbel5)
      have HGC := hid (hgcd.trans q6)
      have H5 := hid (And.intro hzl (And.intro htl (And.intro hbz (And.intro hbt (And.intro hvz hvt)))))
      have HPR := hid hPR
      have HSUM := hid hsum
      clear q1 q2 q3 q4 q5 q6 q7 hzl htl hbz hbt hvz hvt hT5 hgcd hbel5 hPR hsum HT HNY hnx
      go_wp2_with fail
      refine HT5.out.mono ?_
      rintro e w6 ⟨rfl, rfl⟩
      have HEX : Hid (∃ (pA' pB' ts' : List Nat), Blk w5 gA ([] ++ (lim R ++ pA')) ∧ Blk w5 gB ([] ++ (ts' ++ pB')) ∧ ts'.length = nl R ∧ val ts' = P) := by
        obtain ⟨hzl, htl, hbz, hbt, hvz, hvt⟩ := H5.out
        have h1 := take_nl hbz.okMid
        rw [hvz] at h1
        refine hid ⟨zs.drop (nl R) ++ pA, ts.drop (nl R) ++ pB, ts.take (nl R), ?_, ?_, ?_, ?_⟩
        · rw [← List.append_assoc (lim R), ← h1]; exact hbz
        · rw [← List.append_assoc (ts.take _), List.take_append_drop]; exact hbt
        · rw [List.length_take]; omega
        · rw [small_take (by rw [hvt]; exact Nat.lt_of_le_of_lt HPR.out (lt_pow_nl R)) (by omega)]; exact hvt
      go_wp2
      go_roundw
      case rel =>
        obtain ⟨pA', pB', ts', k1, k2, k3, k4⟩ := HEX.out
        exact ⟨gA, gB, R, P, pA', pB', ts', rfl, rfl, hneAB, hgA, hgB, by omega, k1, k2, k3, k4, HPR.out, HGC.out, HB5.out⟩
      case measure =>
        obtain ⟨pA', pB', ts', k1, k2, k3, k4⟩ := HEX.out
        obtain ⟨q1, q2, q3, q4, q5, q6, q7⟩ := H.out
        show valOf _ _ + valOf _ _ < valOf _ _ + valOf _ _
        rw [HMX.out, HMY.out, VQ.out _ _ _ (k1.rdLen (show (lim R).length = nl R from rfl) (by omega)), VQ.out _ _ _ (k2.rdLen k3 (by omega)), val_lim, val_lim, k4, q4]
        exact HSUM.out
    · go_wp2_with fail
      refine HT.out.mono ?_
      rintro e w5 ⟨rfl, rfl⟩
      go_wp2_with fail
      refine (gcdShort_any hnx HNY.out (by omega) (by omega)).mono ?_
      rintro e w6 ⟨v, rfl, hv, hf6⟩
      go_wp2
      go_ret
      refine ⟨_, rfl, ?_, ?_⟩
      · rw [← H.out.2.2.2.2.2.1]; exact hv
      · exact Fwd.trans (show Fwd w wr from H.out.2.2.2.2.2.2) hf6

theorem gcd_any {w : World} {a b : Value} {m n : Nat} (ha : Num w a m) (hb : Num w b n) (hm : nl m ≤ 1000000) (hn : nl n ≤ 1000000) :
    Calls Tryd.prog 31 #[a, b] w fun e w' => ∃ v, e = .returned v ∧ Num w' v (Nat.gcd m n) ∧ Fwd w w' := by
  rcases Nat.lt_or_ge m n with h | h
  · exact gcd_lt ha hb hm hn h
  · exact gcd_ge ha hb hm hn h

end Go.Proofs.YtbkphjmhmfgpgaaDoor
