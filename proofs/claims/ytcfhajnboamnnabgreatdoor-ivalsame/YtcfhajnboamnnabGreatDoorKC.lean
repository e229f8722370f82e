/- The second telling of natural numbers: trim, at, Add, less, Sub, Of. -/
/- The second telling of natural numbers: less, Sub, Of, Small; nat's Small and Right. -/
/- The second telling of natural numbers: Mul. -/
/- Sub of both tellings in one form each; Small's answer taken apart. -/
import Derived.Test.YtcfhajnboamnnabGreatDoorKB
import Derived.OpenShut
namespace Go.Proofs.YtcfhajnboamnnabGreatDoor
open Go.RowKit
set_option linter.unusedVariables false

set_option maxHeartbeats 2000000 in
theorem refTrim_new {w : World} {v : Value} {xs : List Nat} (hv : Rd w v xs) (hs : xs.length ≤ 100000000) :
    Calls Tryz.prog 104 #[v] w fun e w' => ∃ v', e = .returned v' ∧ Num w' v' (val xs) ∧ Fwd w w' ∧ New w v' := by
  have hg : (w.alloc (.cells #[] 65)).heap[w.heap.size]? = some (.cells #[] 65 (0, 0)) := heap_alloc_new w _
  have HG := hid hg
  clear hg
  have hf0 : Fwd w (w.alloc (.cells #[] 65)) := (Fwd.refl w).alloc _
  rcases hv.2 with ⟨rfl, rfl⟩ | ⟨b, off, cap, rfl, h1, h2, h3, h4⟩
  · have HA : Hid (Arg (w.alloc (.cells #[] 65)) (.slice none 0 0) []) := hid (.inl (Rd.nil _))
    go_enter Tryz.func104, Tryz.ntmps104
    go_wp2
    go_loop [3] (fun n => n = .int .i64 0) (fun n => 0)
    case atStart => rfl
    case round =>
      subst hrel
      go_wp2_with (at_builtin; refine law_append0 rfl (.tmp 18) (.tmp 21) rfl w.heap.size rfl HG.out _ [] rfl HA.out (by simp) ?_)
      intro v' w1 hr hne hon hbl
      go_wp2
      go_ret
      refine ⟨_, rfl, ?_, hf0.wrote hon (Nat.le_refl _), hbl⟩
      show Num _ _ (val [])
      unfold Num; rw [show val [] = 0 from rfl, lim_zero]; exact hr
  · unfold maxLen at h2
    have HV := hid hv
    go_enter Tryz.func104, Tryz.ntmps104
    go_wp2
    go_loop [3] (fun n => ∃ k : Nat, k ≤ xs.length ∧ n = .int .i64 k ∧ tlen xs k = tlen xs xs.length) (fun n => (intOf n).toNat)
    case atStart => exact ⟨xs.length, Nat.le_refl _, rfl, rfl⟩
    case round =>
      obtain ⟨k, hk, rfl, he⟩ := hrel
      have HE := hid he
      clear he
      have fin : tlen xs k = k → Hid (Arg (w.alloc (.cells #[] 65)) (.slice (some ⟨b, off, none⟩) k cap) (lim (val xs))) := by
        intro ht
        have e1 := take_tlen HV.out.ok
        rw [← HE.out, ht] at e1
        rw [← e1]
        exact hid (.inl ((HV.out.fwd hf0).front k hk))
      have hll : (lim (val xs)).length ≤ 1000000000 := by
        have := nl_val_le HV.out.ok
        show nl (val xs) ≤ _; omega
      have FIN := hid fin
      clear fin
      cases k with
      | zero =>
        have HA := FIN.out rfl
        go_wp2_with (at_builtin; refine law_append0 rfl (.tmp 18) (.tmp 21) rfl w.heap.size rfl HG.out _ (lim (val xs)) rfl HA.out hll ?_)
        intro v' w1 hr hne hon hbl
        go_wp2
        go_ret
        exact ⟨_, rfl, hr, hf0.wrote hon (Nat.le_refl _), hbl⟩
      | succ k =>
        have hck := h3 k (by omega)
        obtain ⟨x, hx⟩ : ∃ x, x = xs.getD k 0 := ⟨_, rfl⟩
        rw [← hx] at hck
        have HX := hid hx
        clear hx
        by_cases hx0 : ((x : Int) == 0) = true
        · go_wp2
          go_round
          case rel =>
            refine ⟨k, by omega, rfl, ?_⟩
            rw [← HE.out, tlen, if_pos]
            rw [← HX.out]; simp at hx0; omega
          case measure => simp [intOf]
        · have hx1 : ((x : Int) == 0) = false := by simpa using hx0
          have HA := FIN.out (by rw [tlen, if_neg]; rw [← HX.out]; simp at hx1; omega)
          clear hx0
          go_wp2_with (at_builtin; refine law_append0 rfl (.tmp 18) (.tmp 21) rfl w.heap.size rfl HG.out _ (lim (val xs)) rfl HA.out hll ?_)
          intro v' w1 hr hne hon hbl
          go_wp2
          go_ret
          exact ⟨_, rfl, hr, hf0.wrote hon (Nat.le_refl _), hbl⟩

theorem refTrim_any {w : World} {v : Value} {xs : List Nat} (hv : Rd w v xs) (hs : xs.length ≤ 100000000) :
    Calls Tryz.prog 104 #[v] w fun e w' => ∃ v', e = .returned v' ∧ Num w' v' (val xs) ∧ Fwd w w' :=
  (refTrim_new hv hs).mono fun e w' ⟨v', h1, h2, h3, _⟩ => ⟨v', h1, h2, h3⟩

set_option maxHeartbeats 1000000 in
theorem refAt_any {w : World} {v : Value} {xs : List Nat} (hv : Rd w v xs) (i : Nat) (hi : i ≤ 1000000000) :
    Calls Tryz.prog 105 #[v, .int .i64 i] w fun e w' => e = .returned (.int .u64 ((xs.getD i 0 : Nat) : Int)) ∧ w = w' := by
  obtain ⟨ao, cap, rfl, hc1, hc2, hok, hcell⟩ := hv.parts
  unfold maxLen at hc2
  by_cases hlt : i < xs.length
  · obtain ⟨b, off, rfl, hck⟩ := hcell i hlt
    obtain ⟨x, hx⟩ : ∃ x, x = xs.getD i 0 := ⟨_, rfl⟩
    rw [← hx] at hck ⊢
    have hxb : x < 4294967296 := by rw [hx]; exact hok.getD _
    clear hx
    go_enter Tryz.func105, Tryz.ntmps105
    go_wp2
    go_ret
    exact ⟨rfl, rfl⟩
  · have HE : Hid (xs.getD i 0 = 0) := hid (by rw [List.getD_eq_getElem?_getD, List.getElem?_eq_none (by omega)]; rfl)
    go_enter Tryz.func105, Tryz.ntmps105
    go_wp2
    go_ret
    exact ⟨by rw [HE.out]; rfl, rfl⟩

set_option maxHeartbeats 2000000 in
theorem refAdd_any {w : World} {a b : Value} {m n : Nat} (ha : Num w a m) (hb : Num w b n) (hm : nl m ≤ 10000000) (hn : nl n ≤ 10000000) :
    Calls Tryz.prog 62 #[a, b] w fun e w' => ∃ v, e = .returned v ∧ Num w' v (m + n) ∧ Fwd w w' := by
  obtain ⟨ao, ca, rfl, hca, hcma, hcella⟩ := ha.parts
  obtain ⟨bo, cb, rfl, hcb, hcmb, hcellb⟩ := hb.parts
  unfold maxLen at hcma hcmb
  clear hcella hcellb
  obtain ⟨L, hL⟩ : ∃ L, L = max (nl m) (nl n) := ⟨_, rfl⟩
  have hLm : nl m ≤ L ∧ nl n ≤ L ∧ L ≤ 10000000 := by omega
  obtain ⟨hLm1, hLm2, hLm3⟩ := hLm
  have HL := hid hL
  have hcs : (nl m ≤ nl n ∧ nl n ≤ L ∧ L ≤ nl n) ∨ (nl n < nl m ∧ nl m ≤ L ∧ L ≤ nl m) := by omega
  clear hL
  rcases hcs with ⟨hmn, hc1, hc2⟩ | ⟨hmn, hc1, hc2⟩
  all_goals
    go_enter Tryz.func62, Tryz.ntmps62
    go_wp2_with (first | (at_make; refine law_make rfl _ _ rfl .i64 .i64 _ _ (L + 1) rfl rfl (by omega) (by omega) (by omega) ?_))
  all_goals
    intro w1 hb1 hf1
    have HB1 := hid hb1
    have hra := ha.fwd hf1
    have hrb := hb.fwd hf1
    have hoa := ha.off (Nat.le_refl w.heap.size)
    have hob := hb.off (Nat.le_refl w.heap.size)
    clear hb1
    go_wp2
    go_loopw [6, 7] (fun c i wr => ∃ (k cn : Nat) (zs : List Nat), k ≤ L + 1 ∧ i = .int .i64 k ∧ c = .int .u64 cn ∧ cn ≤ 1 ∧ zs.length = L + 1 ∧ Blk wr w.heap.size ([] ++ (zs ++ [])) ∧ Only w.heap.size w1 wr ∧
        val ((lim m).take k) + val ((lim n).take k) = val (zs.take k) + cn * 4294967296 ^ k) (fun _ i _ => L + 1 - (intOf i).toNat)
    case atStart => exact ⟨0, 0, List.replicate (L + 1) 0, by omega, rfl, rfl, by omega, by simp, by simpa using HB1.out, Only.refl _ _, by simp [val]⟩
    case round =>
      obtain ⟨k, cn, zs, hk, rfl, rfl, hc1, hzl, hbz, hon, hval⟩ := hrel
      have H := hid (And.intro hzl (And.intro hbz (And.intro hon hval)))
      clear hzl hbz hon hval
      by_cases hlt : k < L + 1
      · have hlz : k < zs.length := by rw [H.out.1]; exact hlt
        have hzk := H.out.2.1.mid k hlz
        have hfz := H.out.2.1.frozen (0 + k)
        simp only [List.length_nil, Nat.zero_add] at hzk hfz
        have HL2 := hid hlz
        clear hlz
        have hra2 := hra.only H.out.2.2.1 hoa
        have hrb2 := hrb.only H.out.2.2.1 hob
        obtain ⟨x, hx⟩ : ∃ x, x = (lim m).getD k 0 := ⟨_, rfl⟩
        obtain ⟨y, hy⟩ : ∃ y, y = (lim n).getD k 0 := ⟨_, rfl⟩
        have hxb : x < 4294967296 := by rw [hx]; exact (ok_lim m).getD _
        have hyb : y < 4294967296 := by rw [hy]; exact (ok_lim n).getD _
        have c1 := refAt_any hra2 k (by omega)
        have c2 := refAt_any hrb2 k (by omega)
        rw [← hx] at c1
        rw [← hy] at c2
        have C1 := hid c1
        have C2 := hid c2
        have HX := hid hx
        have HY := hid hy
        clear c1 c2 hx hy
        go_wp2_with fail
        refine C1.out.mono ?_
        rintro e w2 ⟨rfl, rfl⟩
        go_wp2_with fail
        refine C2.out.mono ?_
        rintro e w2 ⟨rfl, rfl⟩
        go_wp2
        go_roundw
        case rel =>
          obtain ⟨q1, q2, q3, q4⟩ := H.out
          have hb3 := q2.setAt k HL2.out (((cn : Int) + x + y) % 4294967296) ((cn + x + y) % 4294967296) (by omega) (by omega)
          simp only [List.length_nil, Nat.zero_add] at hb3
          refine ⟨k + 1, (cn + x + y) / 4294967296, zs.set k ((cn + x + y) % 4294967296), by omega, by go_num, by go_num, by omega, by rw [set_len]; exact q1, hb3, q3.setv _ _, ?_⟩
          rw [set_val HL2.out, val_take_succ (lim m), val_take_succ (lim n), ← HX.out, ← HY.out, Nat.pow_succ]
          exact add_step q4 rfl
        case measure => simp [intOf] <;> omega
      · have hz : Rd wr (.slice (some ⟨w.heap.size, 0, none⟩) (L + 1) (L + 1)) zs := by
          have h3 := Blk.rd H.out.2.1 (L + 1) (by rw [H.out.1]; exact Nat.le_refl _) (le_maxLen (by omega))
          rwa [H.out.1] at h3
        go_wp2_with fail
        refine (refTrim_any hz (by rw [H.out.1]; omega)).mono ?_
        rintro e w2 ⟨v, rfl, hnv, hf2⟩
        have hvz : val zs = m + n := by
          obtain ⟨q1, q2, q3, q4⟩ := H.out
          have hk1 : k = L + 1 := by omega
          rw [val_take_all (xs := lim m) (show nl m ≤ k by omega), val_take_all (xs := lim n) (show nl n ≤ k by omega), val_lim, val_lim, val_take_all (by omega)] at q4
          have l1 := (nl_le_iff m L).1 hLm1
          have l2 := (nl_le_iff n L).1 hLm2
          rw [hk1, Nat.pow_succ] at q4
          have hc : cn = 0 := by
            rcases Nat.eq_zero_or_pos cn with h0 | h0
            · exact h0
            · have : 1 * (4294967296 ^ L * 4294967296) ≤ cn * (4294967296 ^ L * 4294967296) := Nat.mul_le_mul_right _ h0
              omega
          subst hc; omega
        rw [hvz] at hnv
        clear hvz
        go_wp2
        go_ret
        exact ⟨_, rfl, hnv, (hf1.wrote H.out.2.2.1 (Nat.le_refl _)).trans hf2⟩

end Go.Proofs.YtcfhajnboamnnabGreatDoor

namespace Go.Proofs.YtcfhajnboamnnabGreatDoor
open Go.RowKit
set_option linter.unusedVariables false

set_option maxHeartbeats 2000000 in
theorem refLess_new {w : World} {a b : Value} {m n : Nat} (ha : Num w a m) (hb : Num w b n) (hm : nl m ≤ 10000000) (hn : nl n ≤ 10000000) (hle : n ≤ m) :
    Calls Tryz.prog 106 #[a, b] w fun e w' => ∃ v, e = .returned v ∧ Num w' v (m - n) ∧ Fwd w w' ∧ New w v := by
  obtain ⟨ao, ca, rfl, hca, hcma, hcella⟩ := ha.parts
  obtain ⟨bo, cb, rfl, hcb, hcmb, hcellb⟩ := hb.parts
  unfold maxLen at hcma hcmb
  clear hcella hcellb
  have hnl : nl n ≤ nl m := nl_mono hle
  go_enter Tryz.func106, Tryz.ntmps106
  go_wp2_with (first | (at_make; refine law_make rfl _ _ rfl .i64 .i64 _ _ (nl m) rfl rfl (by omega) (by omega) (by omega) ?_))
  intro w1 hb1 hf1
  have HB1 := hid hb1
  have hra := ha.fwd hf1
  have hrb := hb.fwd hf1
  have hoa := ha.off (Nat.le_refl w.heap.size)
  have hob := hb.off (Nat.le_refl w.heap.size)
  clear hb1
  go_wp2
  go_loopw [6, 7] (fun c i wr => ∃ (k cn : Nat) (zs : List Nat), k ≤ nl m ∧ i = .int .i64 k ∧ c = .int .u64 cn ∧ cn ≤ 1 ∧ zs.length = nl m ∧ Blk wr w.heap.size ([] ++ (zs ++ [])) ∧ Only w.heap.size w1 wr ∧
      val ((lim m).take k) + cn * 4294967296 ^ k = val (zs.take k) + val ((lim n).take k)) (fun _ i _ => nl m - (intOf i).toNat)
  case atStart => exact ⟨0, 0, List.replicate (nl m) 0, by omega, rfl, rfl, by omega, by simp, by simpa using HB1.out, Only.refl _ _, by simp [val]⟩
  case round =>
    obtain ⟨k, cn, zs, hk, rfl, rfl, hc1, hzl, hbz, hon, hval⟩ := hrel
    have H := hid (And.intro hzl (And.intro hbz (And.intro hon hval)))
    clear hzl hbz hon hval
    by_cases hlt : k < nl m
    · have hlz : k < zs.length := by rw [H.out.1]; exact hlt
      have hzk := H.out.2.1.mid k hlz
      have hfz := H.out.2.1.frozen (0 + k)
      simp only [List.length_nil, Nat.zero_add] at hzk hfz
      have HL2 := hid hlz
      clear hlz
      have hra2 := hra.only H.out.2.2.1 hoa
      have hrb2 := hrb.only H.out.2.2.1 hob
      obtain ⟨x, hx⟩ : ∃ x, x = (lim m).getD k 0 := ⟨_, rfl⟩
      obtain ⟨y, hy⟩ : ∃ y, y = (lim n).getD k 0 := ⟨_, rfl⟩
      have hxb : x < 4294967296 := by rw [hx]; exact (ok_lim m).getD _
      have hyb : y < 4294967296 := by rw [hy]; exact (ok_lim n).getD _
      have c1 := refAt_any hra2 k (by omega)
      have c2 := refAt_any hrb2 k (by omega)
      rw [← hx] at c1
      rw [← hy] at c2
      have C1 := hid c1
      have C2 := hid c2
      have HX := hid hx
      have HY := hid hy
      have HW := hid (sub_wrap2 x y cn hxb hc1 hyb)
      clear c1 c2 hx hy
      go_wp2_with fail
      refine C1.out.mono ?_
      rintro e w2 ⟨rfl, rfl⟩
      go_wp2_with fail
      refine C2.out.mono ?_
      rintro e w2 ⟨rfl, rfl⟩
      go_wp2
      go_roundw
      case rel =>
        obtain ⟨q1, q2, q3, q4⟩ := H.out
        obtain ⟨r, c', hr, hc', hs', e1, e2⟩ := HW.out
        rw [e1, e2]
        have hb3 := q2.setAt k HL2.out (r : Int) r rfl hr
        simp only [List.length_nil, Nat.zero_add] at hb3
        refine ⟨k + 1, c', zs.set k r, by omega, by go_num, rfl, hc', by rw [set_len]; exact q1, hb3, q3.setv _ _, ?_⟩
        rw [set_val HL2.out, val_take_succ (lim m), val_take_succ (lim n), ← HX.out, ← HY.out, Nat.pow_succ]
        exact sub_step q4 hs'
      case measure => simp [intOf] <;> omega
    · have hz : Rd wr (.slice (some ⟨w.heap.size, 0, none⟩) (nl m) (nl m)) zs := by
        have h3 := Blk.rd H.out.2.1 (nl m) (by rw [H.out.1]; exact Nat.le_refl _) (le_maxLen (by omega))
        rwa [H.out.1] at h3
      go_wp2_with fail
      refine (refTrim_new hz (by rw [H.out.1]; omega)).mono ?_
      rintro e w2 ⟨v, rfl, hnv, hf2, hnw⟩
      have hvz : val zs = m - n := by
        obtain ⟨q1, q2, q3, q4⟩ := H.out
        have hk1 : k = nl m := by omega
        rw [val_take_all (xs := lim m) (show nl m ≤ k by omega), val_take_all (xs := lim n) (show nl n ≤ k by omega), val_take_all (xs := zs) (by omega), hk1] at q4
        exact sub_val hz.ok q1 hle q4
      rw [hvz] at hnv
      clear hvz
      go_wp2
      go_ret
      exact ⟨_, rfl, hnv, (hf1.wrote H.out.2.2.1 (Nat.le_refl _)).trans hf2, hnw.up (hf1.wrote H.out.2.2.1 (Nat.le_refl _))⟩

theorem refLess_any {w : World} {a b : Value} {m n : Nat} (ha : Num w a m) (hb : Num w b n) (hm : nl m ≤ 10000000) (hn : nl n ≤ 10000000) (hle : n ≤ m) :
    Calls Tryz.prog 106 #[a, b] w fun e w' => ∃ v, e = .returned v ∧ Num w' v (m - n) ∧ Fwd w w' :=
  (refLess_new ha hb hm hn hle).mono fun e w' ⟨v, h1, h2, h3, _⟩ => ⟨v, h1, h2, h3⟩

set_option maxHeartbeats 1000000 in
theorem refSub_less {w : World} {a b : Value} {m n : Nat} (ha : Num w a m) (hb : Num w b n) (hm : nl m ≤ 10000000) (hn : nl n ≤ 10000000) (h : m < n) :
    Calls Tryz.prog 64 #[a, b] w fun e w' => e = .returned (.tuple #[.slice none 0 0, .int .i64 1]) ∧ Fwd w w' := by
  go_enter Tryz.func64, Tryz.ntmps64
  go_wp2_with fail
  refine (refCmp_any ha hb (by omega) (by omega)).mono ?_
  rintro e w1 ⟨rfl, hf1⟩
  rw [cmpI_lt (by omega)]
  go_wp2
  go_ret2
  exact ⟨rfl, hf1⟩

set_option maxHeartbeats 1000000 in
theorem refSub_more {w : World} {a b : Value} {m n : Nat} (ha : Num w a m) (hb : Num w b n) (hm : nl m ≤ 10000000) (hn : nl n ≤ 10000000) (h : n ≤ m) :
    Calls Tryz.prog 64 #[a, b] w fun e w' => ∃ v, e = .returned (.tuple #[v, .int .i64 0]) ∧ Num w' v (m - n) ∧ Fwd w w' := by
  go_enter Tryz.func64, Tryz.ntmps64
  go_wp2_with fail
  refine (refCmp_any ha hb (by omega) (by omega)).mono ?_
  rintro e w1 ⟨rfl, hf1⟩
  obtain ⟨ci, hci, hc0⟩ : ∃ ci, ci = cmpW m n ∧ 0 ≤ ci := by
    rcases Nat.lt_or_ge n m with h2 | h2
    · exact ⟨_, rfl, by rw [cmpI_gt (by omega)]; omega⟩
    · exact ⟨_, rfl, by rw [cmpI_eq (by omega)]; omega⟩
  rw [← hci]
  clear hci
  have hna1 := ha.fwd hf1
  have hnb1 := hb.fwd hf1
  clear ha hb
  go_wp2_with fail
  refine (refLess_any hna1 hnb1 hm hn h).mono ?_
  rintro e w2 ⟨v, rfl, hv, hf2⟩
  go_wp2
  go_ret2
  exact ⟨_, rfl, hv, hf1.trans hf2⟩

set_option maxHeartbeats 1000000 in
theorem refOf_any (w : World) (n : Nat) (hn : n < 18446744073709551616) :
    Calls Tryz.prog 74 #[.int .u64 n] w fun e w' => ∃ v, e = .returned v ∧ Num w' v n ∧ Fwd w w' := by
  have hn2 : (n : Int) ≤ 18446744073709551615 := by omega
  have HN := hid hn
  clear hn
  have hB : Blk (w.alloc (.cells #[.int .u32 ((n : Int) % 4294967296), .int .u32 ((n : Int) / 4294967296)] 65)) w.heap.size [n % 4294967296, n / 4294967296] :=
    Blk.lit w _ (Ok.cons (by omega) (Ok.cons (by have := HN.out; omega) Ok.nil)) _ (by simp [cellsOf])
  have hR := hid (Blk.rdAll hB 2 (by simp) (by simp [maxLen]))
  clear hB
  go_enter Tryz.func74, Tryz.ntmps74
  go_wp2_with fail
  refine (refTrim_any hR.out (by simp)).mono ?_
  rintro e w1 ⟨v, rfl, hnv, hf1⟩
  have e : val [n % 4294967296, n / 4294967296] = n := by simp only [val]; omega
  rw [e] at hnv
  clear e
  go_wp2
  go_ret
  exact ⟨_, rfl, hnv, ((Fwd.refl _).alloc _).trans hf1⟩

theorem nl_le_two {n : Nat} : nl n ≤ 2 ↔ n < 18446744073709551616 := by rw [nl_le_iff]

/-- What Small answers. -/
def smallV (n : Nat) : Value := if n < 18446744073709551616 then .tuple #[.int .u64 n, .bool true] else .tuple #[.int .u64 0, .bool false]

theorem lim_two {n : Nat} (h : n < 18446744073709551616) : (lim n).getD 0 0 = n % 4294967296 ∧ (lim n).getD 1 0 = n / 4294967296 := by
  by_cases h0 : n = 0
  · subst h0; simp [lim_zero]
  · rw [lim_pos h0]
    refine ⟨rfl, ?_⟩
    by_cases h1 : n / 4294967296 = 0
    · rw [h1, lim_zero]; rfl
    · rw [lim_pos h1]
      show n / 4294967296 % 4294967296 = _
      omega

theorem or_zero (a : Nat) (ha : a < 18446744073709551616) : bits .or .u64 0 (a : Int) = (a : Int) := by
  have := u64_or_nat 0 a (by omega) ha
  simpa using this
theorem or_join2 (a b : Nat) (ha : a < 4294967296) (hb : b < 4294967296) : bits .or .u64 (a : Int) ((b : Int) * 4294967296) = ((b * 4294967296 + a : Nat) : Int) := by
  rw [show (b : Int) * 4294967296 = ((b * 4294967296 : Nat) : Int) by simp, u64_or_nat _ _ (by omega) (by omega), Nat.or_comm, nat_join 32 _ _ (by omega) (by omega)]

set_option maxHeartbeats 1000000 in
theorem small_any {w : World} {a : Value} {n : Nat} (ha : Num w a n) (hn : nl n ≤ 10000000) :
    Calls Tryz.prog 120 #[a] w fun e w' => e = .returned (smallV n) ∧ Fwd w w' := by
  go_enter Tryz.func120, Tryz.ntmps120
  go_wp2_with fail
  refine (trim_num ha).mono ?_
  rintro e w1 ⟨va, rfl, hna, hoa, rfl⟩
  obtain ⟨ao, ca, rfl, hca, hcma, hcella⟩ := hna.parts
  unfold maxLen at hcma
  clear ha hoa hna
  by_cases h2 : nl n ≤ 2
  · have hlt := nl_le_two.1 h2
    have HS : Hid (smallV n = .tuple #[.int .u64 n, .bool true]) := hid (by rw [smallV, if_pos hlt])
    have HT := hid (lim_two hlt)
    have HLT := hid hlt
    clear hlt
    have h3 : nl n = 0 ∨ nl n = 1 ∨ nl n = 2 := by omega
    rcases h3 with h3 | h3 | h3
    · have hn0 : n = 0 := lim_eq_nil.1 (List.eq_nil_of_length_eq_zero h3)
      have HN := hid hn0
      rw [h3]
      clear hn0 h3
      go_wp2
      go_rounds 1
      go_ret2
      exact ⟨by rw [HS.out, HN.out]; rfl, Fwd.refl _⟩
    · obtain ⟨b, off, rfl, hc0⟩ := hcella 0 (by omega)
      have hx : (lim n).getD 0 0 = n := by
        have h4 := (nl_le_iff n 1).1 (by omega)
        rw [HT.out.1]; omega
      rw [hx] at hc0
      have hnb : n < 4294967296 := by have h4 := (nl_le_iff n 1).1 (by omega); omega
      have hor := or_zero n (by omega)
      simp only [Nat.add_zero] at hc0
      rw [h3] at hca ⊢
      clear hx hcella h3 h2
      go_wp2
      go_rounds 2
      go_ret2
      exact ⟨by rw [HS.out]; rfl, Fwd.refl _⟩
    · obtain ⟨b, off, rfl, hc0⟩ := hcella 0 (by omega)
      obtain ⟨b', off', he', hc1⟩ := hcella 1 (by omega)
      cases he'
      rw [HT.out.1] at hc0
      rw [HT.out.2] at hc1
      obtain ⟨x, hx⟩ : ∃ x, x = n % 4294967296 := ⟨_, rfl⟩
      obtain ⟨y, hy⟩ : ∃ y, y = n / 4294967296 := ⟨_, rfl⟩
      rw [← hx] at hc0
      rw [← hy] at hc1
      have hxb : x < 4294967296 := by omega
      have hyb : y < 4294967296 := by have := HLT.out; omega
      have HN : Hid (n = y * 4294967296 + x) := hid (by omega)
      have hor := or_zero x (by omega)
      have hor2 := or_join2 x y hxb hyb
      simp only [Nat.add_zero] at hc0
      rw [h3] at hca ⊢
      clear hcella h3 h2 hx hy
      go_wp2
      go_rounds 3
      go_ret2
      exact ⟨by rw [HS.out, HN.out]; rfl, Fwd.refl _⟩
  · have HS : Hid (smallV n = .tuple #[.int .u64 0, .bool false]) := hid (by rw [smallV, if_neg (fun h => h2 (nl_le_two.2 h))])
    have h3 : 2 < nl n := by omega
    clear h2
    go_wp2
    go_ret2
    exact ⟨by rw [HS.out]; rfl, Fwd.refl _⟩

set_option maxHeartbeats 1000000 in
theorem refSmall_any {w : World} {a : Value} {n : Nat} (ha : Num w a n) (hn : nl n ≤ 10000000) :
    Calls Tryz.prog 96 #[a] w fun e w' => e = .returned (smallV n) ∧ Fwd w w' := by
  obtain ⟨ao, ca, rfl, hca, hcma, hcella⟩ := ha.parts
  unfold maxLen at hcma
  clear ha
  by_cases h2 : nl n ≤ 2
  · have hlt := nl_le_two.1 h2
    have HS : Hid (smallV n = .tuple #[.int .u64 n, .bool true]) := hid (by rw [smallV, if_pos hlt])
    have HT := hid (lim_two hlt)
    have HLT := hid hlt
    clear hlt
    have h3 : nl n = 0 ∨ nl n = 1 ∨ nl n = 2 := by omega
    rcases h3 with h3 | h3 | h3
    · have hn0 : n = 0 := lim_eq_nil.1 (List.eq_nil_of_length_eq_zero h3)
      have HN := hid hn0
      rw [h3]
      clear hn0 h3
      go_enter Tryz.func96, Tryz.ntmps96
      go_wp2
      go_rounds 1
      go_ret2
      exact ⟨by rw [HS.out, HN.out]; rfl, Fwd.refl _⟩
    · obtain ⟨b, off, rfl, hc0⟩ := hcella 0 (by omega)
      have hx : (lim n).getD 0 0 = n := by
        have h4 := (nl_le_iff n 1).1 (by omega)
        rw [HT.out.1]; omega
      rw [hx] at hc0
      have hnb : n < 4294967296 := by have h4 := (nl_le_iff n 1).1 (by omega); omega
      have hor := or_zero n (by omega)
      simp only [Nat.add_zero] at hc0
      rw [h3] at hca ⊢
      clear hx hcella h3 h2
      go_enter Tryz.func96, Tryz.ntmps96
      go_wp2
      go_rounds 2
      go_ret2
      exact ⟨by rw [HS.out]; rfl, Fwd.refl _⟩
    · obtain ⟨b, off, rfl, hc0⟩ := hcella 0 (by omega)
      obtain ⟨b', off', he', hc1⟩ := hcella 1 (by omega)
      cases he'
      rw [HT.out.1] at hc0
      rw [HT.out.2] at hc1
      obtain ⟨x, hx⟩ : ∃ x, x = n % 4294967296 := ⟨_, rfl⟩
      obtain ⟨y, hy⟩ : ∃ y, y = n / 4294967296 := ⟨_, rfl⟩
      rw [← hx] at hc0
      rw [← hy] at hc1
      have hxb : x < 4294967296 := by omega
      have hyb : y < 4294967296 := by have := HLT.out; omega
      have HN : Hid (n = y * 4294967296 + x) := hid (by omega)
      have hor := or_zero y (by omega)
      have hor2 := or_join y x hyb hxb
      simp only [Nat.add_zero] at hc0
      rw [h3] at hca ⊢
      clear hcella h3 h2 hx hy
      go_enter Tryz.func96, Tryz.ntmps96
      go_wp2
      go_rounds 3
      go_ret2
      exact ⟨by rw [HS.out, HN.out]; rfl, Fwd.refl _⟩
  · have HS : Hid (smallV n = .tuple #[.int .u64 0, .bool false]) := hid (by rw [smallV, if_neg (fun h => h2 (nl_le_two.2 h))])
    have h3 : 2 < nl n := by omega
    clear h2
    go_enter Tryz.func96, Tryz.ntmps96
    go_wp2
    go_ret2
    exact ⟨by rw [HS.out]; rfl, Fwd.refl _⟩

end Go.Proofs.YtcfhajnboamnnabGreatDoor

namespace Go.Proofs.YtcfhajnboamnnabGreatDoor
open Go.RowKit
set_option linter.unusedVariables false

theorem Blk.drewN {w : World} {g : Nat} {L : List Nat} (h : Blk w g L) (n : Nat) : Blk (w.drewN n) g L := h
theorem Only.drewN {g : Nat} {a w : World} (h : Only g a w) (n : Nat) : Only g a (w.drewN n) := ⟨h.os, h.tape, h.output, h.size, h.block⟩

set_option maxHeartbeats 4000000 in
theorem refMul_any {w : World} {a b : Value} {m n : Nat} (ha : Num w a m) (hb : Num w b n) (hm : nl m ≤ 10000000) (hn : nl n ≤ 10000000) :
    Calls Tryz.prog 60 #[a, b] w fun e w' => ∃ v, e = .returned v ∧ Num w' v (m * n) ∧ Fwd w w' := by
  obtain ⟨ao, ca, rfl, hca, hcma, hcella⟩ := ha.parts
  obtain ⟨bo, cb, rfl, hcb, hcmb, hcellb⟩ := hb.parts
  unfold maxLen at hcma hcmb
  go_enter Tryz.func60, Tryz.ntmps60
  go_wp2_with (first | (at_make; refine law_make rfl _ _ rfl .i64 .i64 _ _ (nl m + nl n) rfl rfl (by omega) (by omega) (by omega) ?_))
  intro w1 hb1 hf1
  have HB1 := hid hb1
  clear hb1
  go_wp2
  go_loopw [6] (fun i wr => ∃ (k : Nat) (Z : List Nat), k ≤ nl m ∧ i = .int .i64 k ∧ Z.length = nl m + nl n ∧ Blk wr w.heap.size Z ∧ Only w.heap.size w1 wr ∧ val (Z.drop (k + nl n)) = 0 ∧ val Z = val ((lim m).take k) * n) (fun i _ => nl m - (intOf i).toNat)
  case atStart => exact ⟨0, List.replicate (nl m + nl n) 0, by omega, rfl, by simp, HB1.out, Only.refl _ _, by rw [List.drop_replicate, val_replicate], by rw [val_replicate]; simp [val]⟩
  case round =>
    obtain ⟨k, Z, hk, rfl, hZl, hBZ, hon, htop, hval⟩ := hrel
    have H := hid (And.intro hZl (And.intro hBZ (And.intro hon (And.intro htop hval))))
    clear hZl hBZ hon htop hval
    by_cases hlt : k < nl m
    · obtain ⟨ab, aof, rfl, hxk⟩ := hcella k hlt
      obtain ⟨x, hx⟩ : ∃ x, x = (lim m).getD k 0 := ⟨_, rfl⟩
      rw [← hx] at hxk
      have hxb : x < 4294967296 := by rw [hx]; exact (ok_lim m).getD _
      have HX := hid hx
      clear hx
      have hab : ab ≠ w.heap.size := by have := World.block_lt_of_cell? w _ hxk; simp at this; omega
      have HBS : Hid (Blk wr w.heap.size (Z.take k ++ ((Z.drop k).take (nl n) ++ Z.drop (k + nl n)))) := by
        show Blk _ _ _
        rw [← List.drop_drop, List.take_append_drop, List.take_append_drop]; exact H.out.2.1
      have HXL : Hid ((((Z.drop k).take (nl n)).length = nl n) ∧ (Z.take k).length = k) := by
        have := H.out.1
        refine ⟨?_, ?_⟩
        · rw [List.length_take, List.length_drop]; omega
        · rw [List.length_take]; omega
      go_wp2
      go_loopw [7, 8] (fun c i wi => ∃ (j cn : Nat) (zs : List Nat), j ≤ nl n ∧ i = .int .i64 j ∧ c = .int .u64 cn ∧ cn < 4294967296 ∧ zs.length = nl n ∧ Blk wi w.heap.size (Z.take k ++ (zs ++ Z.drop (k + nl n))) ∧ Only w.heap.size w1 wi ∧
          zs.drop j = ((Z.drop k).take (nl n)).drop j ∧ val (((Z.drop k).take (nl n)).take j) + x * val ((lim n).take j) = val (zs.take j) + cn * 4294967296 ^ j) (fun _ i _ => nl n - (intOf i).toNat)
      case atStart => exact ⟨0, 0, (Z.drop k).take (nl n), by omega, rfl, rfl, by omega, HXL.out.1, HBS.out, H.out.2.2.1, rfl, by simp [val]⟩
      case round =>
        obtain ⟨j, cn, zs, hj, rfl, rfl, hcn, hzl, hbz, hon2, hdr, hv⟩ := hrel
        have H2 := hid (And.intro hzl (And.intro hbz (And.intro hon2 (And.intro hdr hv))))
        clear hzl hbz hon2 hdr hv
        by_cases hjl : j < nl n
        · obtain ⟨bb, bof, rfl, hyk⟩ := hcellb j hjl
          obtain ⟨y, hy⟩ : ∃ y, y = (lim n).getD j 0 := ⟨_, rfl⟩
          rw [← hy] at hyk
          have hyb : y < 4294967296 := by rw [hy]; exact (ok_lim n).getD _
          have HY := hid hy
          clear hy
          have hxk1 := H2.out.2.2.1.cell (hf1.cell hxk) hab
          have hyk1 := H2.out.2.2.1.cell (hf1.cell hyk) (by have := World.block_lt_of_cell? w _ hyk; simp at this; simp; omega)
          have hlz : j < zs.length := by rw [H2.out.1]; exact hjl
          have hzk := H2.out.2.1.mid j hlz
          have hfz := H2.out.2.1.frozen (k + j)
          rw [HXL.out.2, getD_of_drop H2.out.2.2.2.1] at hzk
          obtain ⟨z, hz⟩ : ∃ z, z = ((Z.drop k).take (nl n)).getD j 0 := ⟨_, rfl⟩
          rw [← hz] at hzk
          have hzb : z < 4294967296 := by rw [hz]; exact ((H.out.2.1.2.drop k).take (nl n)).getD _
          have HZ := hid hz
          have HLZ := hid hlz
          clear hz hlz
          obtain ⟨hp2, hp3, hp4⟩ := mul_bd hxb hyb
          have hkj : (k : Int) + j < (nl m : Int) + nl n := by omega
          go_wp2_with fail
          go_quiet (fail)
          go_wp2
          go_roundw
          case rel =>
            obtain ⟨q1, q2, q3, q4, q5⟩ := H2.out
            have e0 : ((cn : Int) + (x : Int) * (y : Int) + (z : Int)) = ((cn + (x * y + z) : Nat) : Int) := by simp; omega
            rw [e0]
            have hb3 := (q2.drewN nq).setAt j HLZ.out (((cn + (x * y + z) : Nat) : Int) % 4294967296) ((cn + (x * y + z)) % 4294967296) (by omega) (by omega)
            rw [HXL.out.2] at hb3
            refine ⟨j + 1, (cn + (x * y + z)) / 4294967296, zs.set j ((cn + (x * y + z)) % 4294967296), by omega, by go_num, by simp, by omega, by rw [set_len]; exact q1, hb3, (q3.drewN nq).setv _ _, set_drop q4, ?_⟩
            rw [set_val HLZ.out, val_take_succ ((Z.drop k).take (nl n)), val_take_succ (lim n), ← HZ.out, ← HY.out, Nat.pow_succ]
            exact mul_step q5 rfl
          case measure => simp [intOf] <;> omega
        · have hjn : j = nl n := by omega
          have hcv : val ((Z.drop k).take (nl n)) + x * n = val zs + cn * 4294967296 ^ nl n := by
            obtain ⟨q1, q2, q3, q4, q5⟩ := H2.out
            rw [hjn, val_take_all (xs := lim n) (k := nl n) (Nat.le_refl _), val_lim, val_take_all (xs := zs) (by omega), val_take_all (xs := (Z.drop k).take (nl n)) (by rw [HXL.out.1]; exact Nat.le_refl _)] at q5
            exact q5
          have HR := hid (mul_round (M := nl m - k - 1) (by rw [H.out.1]; omega) H.out.2.2.2.1 H2.out.1 n hcv)
          have hpl : (Z.take k ++ zs).length = k + nl n := by rw [List.length_append, HXL.out.2, H2.out.1]
          have hbz2 : Blk wr w.heap.size ((Z.take k ++ zs) ++ (Z.drop (k + nl n) ++ [])) := by simpa using H2.out.2.1
          have hcell := hbz2.mid 0 (by rw [List.length_drop, H.out.1]; omega)
          have hfro := hbz2.frozen (k + nl n)
          rw [hpl] at hcell
          simp only [Nat.add_zero] at hcell
          have HBZ := hid hbz2
          have HPL := hid hpl
          have HCV := hid hcv
          have HJN := hid hjn
          clear hbz2 hpl hcv hjn
          go_wp2
          go_roundw
          case rel =>
            have hb3 := HBZ.out.setAt 0 (by rw [List.length_drop, H.out.1]; omega) (cn : Int) cn rfl hcn
            rw [HPL.out] at hb3
            simp only [Nat.add_zero, List.append_nil, List.append_assoc] at hb3
            obtain ⟨r1, r2, r3⟩ := HR.out
            refine ⟨k + 1, _, by omega, by go_num, r3.trans H.out.1, hb3, H2.out.2.2.1.setv _ _, r2, ?_⟩
            rw [r1, H.out.2.2.2.2, val_take_succ, ← HX.out]
            grind
          case measure => simp [intOf] <;> omega
    · have hz : Rd wr (.slice (some ⟨w.heap.size, 0, none⟩) (nl m + nl n) (nl m + nl n)) Z := by
        have h3 := Blk.rdAll H.out.2.1 (nl m + nl n) (by rw [H.out.1]; exact Nat.le_refl _) (le_maxLen (by omega))
        rwa [H.out.1] at h3
      go_wp2_with fail
      refine (refTrim_any hz (by rw [H.out.1]; omega)).mono ?_
      rintro e w2 ⟨v, rfl, hnv, hf2⟩
      have hvz : val Z = m * n := by
        rw [H.out.2.2.2.2, val_take_all (show (lim m).length ≤ k by exact (show nl m ≤ k by omega)), val_lim]
      rw [hvz] at hnv
      clear hvz
      go_wp2
      go_ret
      exact ⟨_, rfl, hnv, (hf1.wrote H.out.2.2.1 (Nat.le_refl _)).trans hf2⟩

end Go.Proofs.YtcfhajnboamnnabGreatDoor

namespace Go.Proofs.YtcfhajnboamnnabGreatDoor
open Go.RowKit
set_option linter.unusedVariables false

/-- Sub's error. -/
def subE (m n : Nat) : Int := if m < n then 1 else 0

theorem num_nil (w : World) : Num w (.slice none 0 0) 0 := by unfold Num; rw [lim_zero]; exact Rd.nil w

theorem refSub_any {w : World} {a b : Value} {m n : Nat} (ha : Num w a m) (hb : Num w b n) (hm : nl m ≤ 10000000) (hn : nl n ≤ 10000000) :
    Calls Tryz.prog 64 #[a, b] w fun e w' => ∃ v, e = .returned (.tuple #[v, .int .i64 (subE m n)]) ∧ Num w' v (m - n) ∧ Fwd w w' := by
  by_cases h : m < n
  · refine (refSub_less ha hb hm hn h).mono fun e w' hh => ⟨.slice none 0 0, ?_, ?_, hh.2⟩
    · rw [hh.1, subE, if_pos h]
    · rw [show m - n = 0 by omega]; exact num_nil w'
  · refine (refSub_more ha hb hm hn (by omega)).mono fun e w' hh => ?_
    obtain ⟨v, he, hv, hf⟩ := hh
    exact ⟨v, by rw [he, subE, if_neg h], hv, hf⟩

theorem small_ex (n : Nat) : ∃ (s : Int) (b : Bool), smallV n = .tuple #[.int .u64 s, .bool b] := by
  unfold smallV; split
  · exact ⟨_, _, rfl⟩
  · exact ⟨_, _, rfl⟩

theorem nat_of_u64 {a : Int} (h : (Lit.int .u64 a).wf = true) : ∃ n : Nat, a = (n : Int) ∧ n < 18446744073709551616 := by
  have := bounds_u64 h
  exact ⟨a.toNat, by omega, by omega⟩

end Go.Proofs.YtcfhajnboamnnabGreatDoor
