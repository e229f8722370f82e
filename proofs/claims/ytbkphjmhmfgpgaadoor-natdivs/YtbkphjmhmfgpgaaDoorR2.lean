/- The second telling of natural numbers: less, Sub, Of, Small; nat's Small and Right. -/
import Derived.Test.YtbkphjmhmfgpgaaDoorR1
namespace Go.Proofs.YtbkphjmhmfgpgaaDoor
open Go.RowKit
set_option linter.unusedVariables false

set_option maxHeartbeats 2000000 in
theorem refLess_new {w : World} {a b : Value} {m n : Nat} (ha : Num w a m) (hb : Num w b n) (hm : nl m ≤ 10000000) (hn : nl n ≤ 10000000) (hle : n ≤ m) :
    Calls Tryd.prog 44 #[a, b] w fun e w' => ∃ v, e = .returned v ∧ Num w' v (m - n) ∧ Fwd w w' ∧ New w v := by
  obtain ⟨ao, ca, rfl, hca, hcma, hcella⟩ := ha.parts
  obtain ⟨bo, cb, rfl, hcb, hcmb, hcellb⟩ := hb.parts
  unfold maxLen at hcma hcmb
  clear hcella hcellb
  have hnl : nl n ≤ nl m := nl_mono hle
  go_enter Tryd.func44, Tryd.ntmps44
  go_wp2_with (first | (at_make; refine law_make rfl _ _ rfl .i64 .i64 _ _ (nl m) rfl rfl (by omega) (by omega) (by omega) ?_))
  intro w1 hb1 hf1
  have HB1 := hid hb1
  have hra := ha.fwd hf1
  have hrb := hb.fwd hf1
  have hoa := ha.off (Nat.le_refl w.heap.size)
  have hob := hb.off (Nat.le_refl w.heap.size)
  clear hb1
  go_wp2
  go_loopw [6, 7] (fun c i wr => ∃ (k cn : Nat) (zs : List Nat), k ≤ nl m ∧ i = .int .i64 k ∧ c = .int .u64 cn ∧ cn ≤ 1 ∧ zs.length = nl m ∧ Blk wr w.heap.size ([] ++ (zs ++ [])) ∧ Only w.heap.size w1 wr ∧
      val ((lim m).take k) + cn * 4294967296 ^ k = val (zs.take k) + val ((lim n).take k)) (fun _ i _ => nl m - (intOf i).toNat)
  case atStart => exact ⟨0, 0, List.replicate (nl m) 0, by omega, rfl, rfl, by omega, by simp, by simpa using HB1.out, Only.refl _ _, by simp [val]⟩
  case round =>
    obtain ⟨k, cn, zs, hk, rfl, rfl, hc1, hzl, hbz, hon, hval⟩ := hrel
    have H := hid (And.intro hzl (And.intro hbz (And.intro hon hval)))
    clear hzl hbz hon hval
    by_cases hlt : k < nl m
    · have hlz : k < zs.length := by rw [H.out.1]; exact hlt
      have hzk := H.out.2.1.mid k hlz
      have hfz := H.out.2.1.frozen (0 + k)
      simp only [List.length_nil, Nat.zero_add] at hzk hfz
      have HL2 := hid hlz
      clear hlz
      have hra2 := hra.only H.out.2.2.1 hoa
      have hrb2 := hrb.only H.out.2.2.1 hob
      obtain ⟨x, hx⟩ : ∃ x, x = (lim m).getD k 0 := ⟨_, rfl⟩
      obtain ⟨y, hy⟩ : ∃ y, y = (lim n).getD k 0 := ⟨_, rfl⟩
      have hxb : x < 4294967296 := by rw [hx]; exact (ok_lim m).getD _
      have hyb : y < 4294967296 := by rw [hy]; exact (ok_lim n).getD _
      have c1 := refAt_any hra2 k (by omega)
      have c2 := refAt_any hrb2 k (by omega)
      rw [← hx] at c1
      rw [← hy] at c2
      have C1 := hid c1
      have C2 := hid c2
      have HX := hid hx
      have HY := hid hy
      have HW := hid (sub_wrap2 x y cn hxb hc1 hyb)
      clear c1 c2 hx hy
      go_wp2_with fail
      refine C1.out.mono ?_
      rintro e w2 ⟨rfl, rfl⟩
      go_wp2_with fail
      refine C2.out.mono ?_
      rintro e w2 ⟨rfl, rfl⟩
      go_wp2
      go_roundw
      case rel =>
        obtain ⟨q1, q2, q3, q4⟩ := H.out
        obtain ⟨r, c', hr, hc', hs', e1, e2⟩ := HW.out
        rw [e1, e2]
        have hb3 := q2.setAt k HL2.out (r : Int) r rfl hr
        simp only [List.length_nil, Nat.zero_add] at hb3
        refine ⟨k + 1, c', zs.set k r, by omega, by go_num, rfl, hc', by rw [set_len]; exact q1, hb3, q3.setv _ _, ?_⟩
        rw [set_val HL2.out, val_take_succ (lim m), val_take_succ (lim n), ← HX.out, ← HY.out, Nat.pow_succ]
        exact sub_step q4 hs'
      case measure => simp [intOf] <;> omega
    · have hz : Rd wr (.slice (some ⟨w.heap.size, 0, none⟩) (nl m) (nl m)) zs := by
        have h3 := Blk.rd H.out.2.1 (nl m) (by rw [H.out.1]; exact Nat.le_refl _) (le_maxLen (by omega))
        rwa [H.out.1] at h3
      go_wp2_with fail
      refine (refTrim_new hz (by rw [H.out.1]; omega)).mono ?_
      rintro e w2 ⟨v, rfl, hnv, hf2, hnw⟩
      have hvz : val zs = m - n := by
        obtain ⟨q1, q2, q3, q4⟩ := H.out
        have hk1 : k = nl m := by omega
        rw [val_take_all (xs := lim m) (show nl m ≤ k by omega), val_take_all (xs := lim n) (show nl n ≤ k by omega), val_take_all (xs := zs) (by omega), hk1] at q4
        exact sub_val hz.ok q1 hle q4
      rw [hvz] at hnv
      clear hvz
      go_wp2
      go_ret
      exact ⟨_, rfl, hnv, (hf1.wrote H.out.2.2.1 (Nat.le_refl _)).trans hf2, hnw.up (hf1.wrote H.out.2.2.1 (Nat.le_refl _))⟩

theorem refLess_any {w : World} {a b : Value} {m n : Nat} (ha : Num w a m) (hb : Num w b n) (hm : nl m ≤ 10000000) (hn : nl n ≤ 10000000) (hle : n ≤ m) :
    Calls Tryd.prog 44 #[a, b] w fun e w' => ∃ v, e = .returned v ∧ Num w' v (m - n) ∧ Fwd w w' :=
  (refLess_new ha hb hm hn hle).mono fun e w' ⟨v, h1, h2, h3, _⟩ => ⟨v, h1, h2, h3⟩

set_option maxHeartbeats 1000000 in
theorem refSub_less {w : World} {a b : Value} {m n : Nat} (ha : Num w a m) (hb : Num w b n) (hm : nl m ≤ 10000000) (hn : nl n ≤ 10000000) (h : m < n) :
    Calls Tryd.prog 12 #[a, b] w fun e w' => e = .returned (.tuple #[.slice none 0 0, .int .i64 1]) ∧ Fwd w w' := by
  go_enter Tryd.func12, Tryd.ntmps12
  go_wp2_with fail
  refine (refCmp_any ha hb (by omega) (by omega)).mono ?_
  rintro e w1 ⟨rfl, hf1⟩
  rw [cmpI_lt (by omega)]
  go_wp2
  go_ret2
  exact ⟨rfl, hf1⟩

set_option maxHeartbeats 1000000 in
theorem refSub_more {w : World} {a b : Value} {m n : Nat} (ha : Num w a m) (hb : Num w b n) (hm : nl m ≤ 10000000) (hn : nl n ≤ 10000000) (h : n ≤ m) :
    Calls Tryd.prog 12 #[a, b] w fun e w' => ∃ v, e = .returned (.tuple #[v, .int .i64 0]) ∧ Num w' v (m - n) ∧ Fwd w w' := by
  go_enter Tryd.func12, Tryd.ntmps12
  go_wp2_with fail
  refine (refCmp_any ha hb (by omega) (by omega)).mono ?_
  rintro e w1 ⟨rfl, hf1⟩
  obtain ⟨ci, hci, hc0⟩ : ∃ ci, ci = cmpI m n ∧ 0 ≤ ci := by
    rcases Nat.lt_or_ge n m with h2 | h2
    · exact ⟨_, rfl, by rw [cmpI_gt (by omega)]; omega⟩
    · exact ⟨_, rfl, by rw [cmpI_eq (by omega)]; omega⟩
  rw [← hci]
  clear hci
  have hna1 := ha.fwd hf1
  have hnb1 := hb.fwd hf1
  clear ha hb
  go_wp2_with fail
  refine (refLess_any hna1 hnb1 hm hn h).mono ?_
  rintro e w2 ⟨v, rfl, hv, hf2⟩
  go_wp2
  go_ret2
  exact ⟨_, rfl, hv, hf1.trans hf2⟩

set_option maxHeartbeats 1000000 in
theorem refOf_any (w : World) (n : Nat) (hn : n < 18446744073709551616) :
    Calls Tryd.prog 17 #[.int .u64 n] w fun e w' => ∃ v, e = .returned v ∧ Num w' v n ∧ Fwd w w' := by
  have hn2 : (n : Int) ≤ 18446744073709551615 := by omega
  have HN := hid hn
  clear hn
  have hB : Blk (w.alloc (.cells #[.int .u32 ((n : Int) % 4294967296), .int .u32 ((n : Int) / 4294967296)] 54)) w.heap.size [n % 4294967296, n / 4294967296] :=
    Blk.lit w _ (Ok.cons (by omega) (Ok.cons (by have := HN.out; omega) Ok.nil)) _ (by simp [cellsOf])
  have hR := hid (Blk.rdAll hB 2 (by simp) (by simp [maxLen]))
  clear hB
  go_enter Tryd.func17, Tryd.ntmps17
  go_wp2_with fail
  refine (refTrim_any hR.out (by simp)).mono ?_
  rintro e w1 ⟨v, rfl, hnv, hf1⟩
  have e : val [n % 4294967296, n / 4294967296] = n := by simp only [val]; omega
  rw [e] at hnv
  clear e
  go_wp2
  go_ret
  exact ⟨_, rfl, hnv, ((Fwd.refl _).alloc _).trans hf1⟩

theorem nl_le_two {n : Nat} : nl n ≤ 2 ↔ n < 18446744073709551616 := by rw [nl_le_iff]

/-- What Small answers. -/
def smallV (n : Nat) : Value := if n < 18446744073709551616 then .tuple #[.int .u64 n, .bool true] else .tuple #[.int .u64 0, .bool false]

theorem lim_two {n : Nat} (h : n < 18446744073709551616) : (lim n).getD 0 0 = n % 4294967296 ∧ (lim n).getD 1 0 = n / 4294967296 := by
  by_cases h0 : n = 0
  · subst h0; simp [lim_zero]
  · rw [lim_pos h0]
    refine ⟨rfl, ?_⟩
    by_cases h1 : n / 4294967296 = 0
    · rw [h1, lim_zero]; rfl
    · rw [lim_pos h1]
      show n / 4294967296 % 4294967296 = _
      omega

theorem or_zero (a : Nat) (ha : a < 18446744073709551616) : bits .or .u64 0 (a : Int) = (a : Int) := by
  have := u64_or_nat 0 a (by omega) ha
  simpa using this
theorem or_join2 (a b : Nat) (ha : a < 4294967296) (hb : b < 4294967296) : bits .or .u64 (a : Int) ((b : Int) * 4294967296) = ((b * 4294967296 + a : Nat) : Int) := by
  rw [show (b : Int) * 4294967296 = ((b * 4294967296 : Nat) : Int) by simp, u64_or_nat _ _ (by omega) (by omega), Nat.or_comm, nat_join 32 _ _ (by omega) (by omega)]

set_option maxHeartbeats 1000000 in
theorem small_any {w : World} {a : Value} {n : Nat} (ha : Num w a n) (hn : nl n ≤ 10000000) :
    Calls Tryd.prog 13 #[a] w fun e w' => e = .returned (smallV n) ∧ Fwd w w' := by
  go_enter Tryd.func13, Tryd.ntmps13
  go_wp2_with fail
  refine (trim_num ha).mono ?_
  rintro e w1 ⟨va, rfl, hna, hoa, rfl⟩
  obtain ⟨ao, ca, rfl, hca, hcma, hcella⟩ := hna.parts
  unfold maxLen at hcma
  clear ha hoa hna
  by_cases h2 : nl n ≤ 2
  · have hlt := nl_le_two.1 h2
    have HS : Hid (smallV n = .tuple #[.int .u64 n, .bool true]) := hid (by rw [smallV, if_pos hlt])
    have HT := hid (lim_two hlt)
    have HLT := hid hlt
    clear hlt
    have h3 : nl n = 0 ∨ nl n = 1 ∨ nl n = 2 := by omega
    rcases h3 with h3 | h3 | h3
    · have hn0 : n = 0 := lim_eq_nil.1 (List.eq_nil_of_length_eq_zero h3)
      have HN := hid hn0
      rw [h3]
      clear hn0 h3
      go_wp2
      go_rounds 1
      go_ret2
      exact ⟨by rw [HS.out, HN.out]; rfl, Fwd.refl _⟩
    · obtain ⟨b, off, rfl, hc0⟩ := hcella 0 (by omega)
      have hx : (lim n).getD 0 0 = n := by
        have h4 := (nl_le_iff n 1).1 (by omega)
        rw [HT.out.1]; omega
      rw [hx] at hc0
      have hnb : n < 4294967296 := by have h4 := (nl_le_iff n 1).1 (by omega); omega
      have hor := or_zero n (by omega)
      simp only [Nat.add_zero] at hc0
      rw [h3] at hca ⊢
      clear hx hcella h3 h2
      go_wp2
      go_rounds 2
      go_ret2
      exact ⟨by rw [HS.out]; rfl, Fwd.refl _⟩
    · obtain ⟨b, off, rfl, hc0⟩ := hcella 0 (by omega)
      obtain ⟨b', off', he', hc1⟩ := hcella 1 (by omega)
      cases he'
      rw [HT.out.1] at hc0
      rw [HT.out.2] at hc1
      obtain ⟨x, hx⟩ : ∃ x, x = n % 4294967296 := ⟨_, rfl⟩
      obtain ⟨y, hy⟩ : ∃ y, y = n / 4294967296 := ⟨_, rfl⟩
      rw [← hx] at hc0
      rw [← hy] at hc1
      have hxb : x < 4294967296 := by omega
      have hyb : y < 4294967296 := by have := HLT.out; omega
      have HN : Hid (n = y * 4294967296 + x) := hid (by omega)
      have hor := or_zero x (by omega)
      have hor2 := or_join2 x y hxb hyb
      simp only [Nat.add_zero] at hc0
      rw [h3] at hca ⊢
      clear hcella h3 h2 hx hy
      go_wp2
      go_rounds 3
      go_ret2
      exact ⟨by rw [HS.out, HN.out]; rfl, Fwd.refl _⟩
  · have HS : Hid (smallV n = .tuple #[.int .u64 0, .bool false]) := hid (by rw [smallV, if_neg (fun h => h2 (nl_le_two.2 h))])
    have h3 : 2 < nl n := by omega
    clear h2
    go_wp2
    go_ret2
    exact ⟨by rw [HS.out]; rfl, Fwd.refl _⟩

set_option maxHeartbeats 1000000 in
theorem refSmall_any {w : World} {a : Value} {n : Nat} (ha : Num w a n) (hn : nl n ≤ 10000000) :
    Calls Tryd.prog 14 #[a] w fun e w' => e = .returned (smallV n) ∧ Fwd w w' := by
  obtain ⟨ao, ca, rfl, hca, hcma, hcella⟩ := ha.parts
  unfold maxLen at hcma
  clear ha
  by_cases h2 : nl n ≤ 2
  · have hlt := nl_le_two.1 h2
    have HS : Hid (smallV n = .tuple #[.int .u64 n, .bool true]) := hid (by rw [smallV, if_pos hlt])
    have HT := hid (lim_two hlt)
    have HLT := hid hlt
    clear hlt
    have h3 : nl n = 0 ∨ nl n = 1 ∨ nl n = 2 := by omega
    rcases h3 with h3 | h3 | h3
    · have hn0 : n = 0 := lim_eq_nil.1 (List.eq_nil_of_length_eq_zero h3)
      have HN := hid hn0
      rw [h3]
      clear hn0 h3
      go_enter Tryd.func14, Tryd.ntmps14
      go_wp2
      go_rounds 1
      go_ret2
      exact ⟨by rw [HS.out, HN.out]; rfl, Fwd.refl _⟩
    · obtain ⟨b, off, rfl, hc0⟩ := hcella 0 (by omega)
      have hx : (lim n).getD 0 0 = n := by
        have h4 := (nl_le_iff n 1).1 (by omega)
        rw [HT.out.1]; omega
      rw [hx] at hc0
      have hnb : n < 4294967296 := by have h4 := (nl_le_iff n 1).1 (by omega); omega
      have hor := or_zero n (by omega)
      simp only [Nat.add_zero] at hc0
      rw [h3] at hca ⊢
      clear hx hcella h3 h2
      go_enter Tryd.func14, Tryd.ntmps14
      go_wp2
      go_rounds 2
      go_ret2
      exact ⟨by rw [HS.out]; rfl, Fwd.refl _⟩
    · obtain ⟨b, off, rfl, hc0⟩ := hcella 0 (by omega)
      obtain ⟨b', off', he', hc1⟩ := hcella 1 (by omega)
      cases he'
      rw [HT.out.1] at hc0
      rw [HT.out.2] at hc1
      obtain ⟨x, hx⟩ : ∃ x, x = n % 4294967296 := ⟨_, rfl⟩
      obtain ⟨y, hy⟩ : ∃ y, y = n / 4294967296 := ⟨_, rfl⟩
      rw [← hx] at hc0
      rw [← hy] at hc1
      have hxb : x < 4294967296 := by omega
      have hyb : y < 4294967296 := by have := HLT.out; omega
      have HN : Hid (n = y * 4294967296 + x) := hid (by omega)
      have hor := or_zero y (by omega)
      have hor2 := or_join y x hyb hxb
      simp only [Nat.add_zero] at hc0
      rw [h3] at hca ⊢
      clear hcella h3 h2 hx hy
      go_enter Tryd.func14, Tryd.ntmps14
      go_wp2
      go_rounds 3
      go_ret2
      exact ⟨by rw [HS.out, HN.out]; rfl, Fwd.refl _⟩
  · have HS : Hid (smallV n = .tuple #[.int .u64 0, .bool false]) := hid (by rw [smallV, if_neg (fun h => h2 (nl_le_two.2 h))])
    have h3 : 2 < nl n := by omega
    clear h2
    go_enter Tryd.func14, Tryd.ntmps14
    go_wp2
    go_ret2
    exact ⟨by rw [HS.out]; rfl, Fwd.refl _⟩

set_option maxHeartbeats 1000000 in
theorem right_any {w : World} {v : Value} {xs : List Nat} (hv : Arg w v xs) : Calls Tryd.prog 18 #[v] w fun e w' => e = .returned (.bool (rightB xs)) ∧ w = w' := by
  have hcase : (∃ ao cap, v = .slice ao 0 cap ∧ xs = []) ∨ (∃ b off cap x k, v = .slice (some ⟨b, off, none⟩) (k + 1) cap ∧ k < cap ∧ cap ≤ 9223372036854775807 ∧ w.cell? ⟨b, off + k, none⟩ = some (.int .u32 ((x : Nat) : Int)) ∧ Hid (rightB xs = (x != 0))) := by
    rcases hv with hv | ⟨rfl, x, cap, rfl, _⟩
    · rcases hv.2 with ⟨rfl, rfl⟩ | ⟨b, off, cap, rfl, h1, h2, h3, h4⟩
      · exact .inl ⟨_, _, rfl, rfl⟩
      · unfold maxLen at h2
        cases hl : xs.length with
        | zero => exact .inl ⟨_, _, rfl, List.eq_nil_of_length_eq_zero hl⟩
        | succ k => exact .inr ⟨b, off, cap, xs.getD k 0, k, rfl, by omega, by omega, h3 k (by omega), by show _ = _; simp [rightB, hl]⟩
    · exact .inl ⟨_, _, rfl, rfl⟩
  rcases hcase with ⟨ao, cap, rfl, rfl⟩ | ⟨b, off, cap, x, k, rfl, hk, hc, hcell, HR⟩
  · go_enter Tryd.func18, Tryd.ntmps18
    go_wp2
    go_ret
    exact ⟨rfl, rfl⟩
  · go_enter Tryd.func18, Tryd.ntmps18
    go_wp2
    go_ret
    refine ⟨?_, rfl⟩
    rw [HR.out, ← bne_cast x]; rfl

end Go.Proofs.YtbkphjmhmfgpgaaDoor
