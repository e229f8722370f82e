/- The second telling of natural numbers: trim, at, Add, less, Sub, Of. -/
import Derived.Test.YtbkphjmhmfgpgabDoorW11
namespace Go.Proofs.YtbkphjmhmfgpgabDoor
open Go.RowKit
set_option linter.unusedVariables false

set_option maxHeartbeats 2000000 in
theorem refTrim_new {w : World} {v : Value} {xs : List Nat} (hv : Rd w v xs) (hs : xs.length ≤ 100000000) :
    Calls Tryd.prog 39 #[v] w fun e w' => ∃ v', e = .returned v' ∧ Num w' v' (val xs) ∧ Fwd w w' ∧ New w v' := by
  have hg : (w.alloc (.cells #[] 33)).heap[w.heap.size]? = some (.cells #[] 33 (0, 0)) := heap_alloc_new w _
  have HG := hid hg
  clear hg
  have hf0 : Fwd w (w.alloc (.cells #[] 33)) := (Fwd.refl w).alloc _
  rcases hv.2 with ⟨rfl, rfl⟩ | ⟨b, off, cap, rfl, h1, h2, h3, h4⟩
  · have HA : Hid (Arg (w.alloc (.cells #[] 33)) (.slice none 0 0) []) := hid (.inl (Rd.nil _))
    go_enter Tryd.func39, Tryd.ntmps39
    go_wp2
    go_loop [3] (fun n => n = .int .i64 0) (fun n => 0)
    case atStart => rfl
    case round =>
      subst hrel
      go_wp2_with (at_builtin; refine law_append0 rfl (.tmp 18) (.tmp 21) rfl w.heap.size rfl HG.out _ [] rfl HA.out (by simp) ?_)
      intro v' w1 hr hne hon hbl
      go_wp2
      go_ret
      refine ⟨_, rfl, ?_, hf0.wrote hon (Nat.le_refl _), hbl⟩
      show Num _ _ (val [])
      unfold Num; rw [show val [] = 0 from rfl, lim_zero]; exact hr
  · unfold maxLen at h2
    have HV := hid hv
    go_enter Tryd.func39, Tryd.ntmps39
    go_wp2
    go_loop [3] (fun n => ∃ k : Nat, k ≤ xs.length ∧ n = .int .i64 k ∧ tlen xs k = tlen xs xs.length) (fun n => (intOf n).toNat)
    case atStart => exact ⟨xs.length, Nat.le_refl _, rfl, rfl⟩
    case round =>
      obtain ⟨k, hk, rfl, he⟩ := hrel
      have HE := hid he
      clear he
      have fin : tlen xs k = k → Hid (Arg (w.alloc (.cells #[] 33)) (.slice (some ⟨b, off, none⟩) k cap) (lim (val xs))) := by
        intro ht
        have e1 := take_tlen HV.out.ok
        rw [← HE.out, ht] at e1
        rw [← e1]
        exact hid (.inl ((HV.out.fwd hf0).front k hk))
      have hll : (lim (val xs)).length ≤ 1000000000 := by
        have := nl_val_le HV.out.ok
        show nl (val xs) ≤ _; omega
      have FIN := hid fin
      clear fin
      cases k with
      | zero =>
        have HA := FIN.out rfl
        go_wp2_with (at_builtin; refine law_append0 rfl (.tmp 18) (.tmp 21) rfl w.heap.size rfl HG.out _ (lim (val xs)) rfl HA.out hll ?_)
        intro v' w1 hr hne hon hbl
        go_wp2
        go_ret
        exact ⟨_, rfl, hr, hf0.wrote hon (Nat.le_refl _), hbl⟩
      | succ k =>
        have hck := h3 k (by omega)
        obtain ⟨x, hx⟩ : ∃ x, x = xs.getD k 0 := ⟨_, rfl⟩
        rw [← hx] at hck
        have HX := hid hx
        clear hx
        by_cases hx0 : ((x : Int) == 0) = true
        · go_wp2
          go_round
          case rel =>
            refine ⟨k, by omega, rfl, ?_⟩
            rw [← HE.out, tlen, if_pos]
            rw [← HX.out]; simp at hx0; omega
          case measure => simp [intOf]
        · have hx1 : ((x : Int) == 0) = false := by simpa using hx0
          have HA := FIN.out (by rw [tlen, if_neg]; rw [← HX.out]; simp at hx1; omega)
          clear hx0
          go_wp2_with (at_builtin; refine law_append0 rfl (.tmp 18) (.tmp 21) rfl w.heap.size rfl HG.out _ (lim (val xs)) rfl HA.out hll ?_)
          intro v' w1 hr hne hon hbl
          go_wp2
          go_ret
          exact ⟨_, rfl, hr, hf0.wrote hon (Nat.le_refl _), hbl⟩

theorem refTrim_any {w : World} {v : Value} {xs : List Nat} (hv : Rd w v xs) (hs : xs.length ≤ 100000000) :
    Calls Tryd.prog 39 #[v] w fun e w' => ∃ v', e = .returned v' ∧ Num w' v' (val xs) ∧ Fwd w w' :=
  (refTrim_new hv hs).mono fun e w' ⟨v', h1, h2, h3, _⟩ => ⟨v', h1, h2, h3⟩

set_option maxHeartbeats 1000000 in
theorem refAt_any {w : World} {v : Value} {xs : List Nat} (hv : Rd w v xs) (i : Nat) (hi : i ≤ 1000000000) :
    Calls Tryd.prog 38 #[v, .int .i64 i] w fun e w' => e = .returned (.int .u64 ((xs.getD i 0 : Nat) : Int)) ∧ w = w' := by
  obtain ⟨ao, cap, rfl, hc1, hc2, hok, hcell⟩ := hv.parts
  unfold maxLen at hc2
  by_cases hlt : i < xs.length
  · obtain ⟨b, off, rfl, hck⟩ := hcell i hlt
    obtain ⟨x, hx⟩ : ∃ x, x = xs.getD i 0 := ⟨_, rfl⟩
    rw [← hx] at hck ⊢
    have hxb : x < 4294967296 := by rw [hx]; exact hok.getD _
    clear hx
    go_enter Tryd.func38, Tryd.ntmps38
    go_wp2
    go_ret
    exact ⟨rfl, rfl⟩
  · have HE : Hid (xs.getD i 0 = 0) := hid (by rw [List.getD_eq_getElem?_getD, List.getElem?_eq_none (by omega)]; rfl)
    go_enter Tryd.func38, Tryd.ntmps38
    go_wp2
    go_ret
    exact ⟨by rw [HE.out]; rfl, rfl⟩

set_option maxHeartbeats 2000000 in
theorem refAdd_any {w : World} {a b : Value} {m n : Nat} (ha : Num w a m) (hb : Num w b n) (hm : nl m ≤ 10000000) (hn : nl n ≤ 10000000) :
    Calls Tryd.prog 14 #[a, b] w fun e w' => ∃ v, e = .returned v ∧ Num w' v (m + n) ∧ Fwd w w' := by
  obtain ⟨ao, ca, rfl, hca, hcma, hcella⟩ := ha.parts
  obtain ⟨bo, cb, rfl, hcb, hcmb, hcellb⟩ := hb.parts
  unfold maxLen at hcma hcmb
  clear hcella hcellb
  obtain ⟨L, hL⟩ : ∃ L, L = max (nl m) (nl n) := ⟨_, rfl⟩
  have hLm : nl m ≤ L ∧ nl n ≤ L ∧ L ≤ 10000000 := by omega
  obtain ⟨hLm1, hLm2, hLm3⟩ := hLm
  have HL := hid hL
  have hcs : (nl m ≤ nl n ∧ nl n ≤ L ∧ L ≤ nl n) ∨ (nl n < nl m ∧ nl m ≤ L ∧ L ≤ nl m) := by omega
  clear hL
  rcases hcs with ⟨hmn, hc1, hc2⟩ | ⟨hmn, hc1, hc2⟩
  all_goals
    go_enter Tryd.func14, Tryd.ntmps14
    go_wp2_with (first | (at_make; refine law_make rfl _ _ rfl .i64 .i64 _ _ (L + 1) rfl rfl (by omega) (by omega) (by omega) ?_))
  all_goals
    intro w1 hb1 hf1
    have HB1 := hid hb1
    have hra := ha.fwd hf1
    have hrb := hb.fwd hf1
    have hoa := ha.off (Nat.le_refl w.heap.size)
    have hob := hb.off (Nat.le_refl w.heap.size)
    clear hb1
    go_wp2
    go_loopw [6, 7] (fun c i wr => ∃ (k cn : Nat) (zs : List Nat), k ≤ L + 1 ∧ i = .int .i64 k ∧ c = .int .u64 cn ∧ cn ≤ 1 ∧ zs.length = L + 1 ∧ Blk wr w.heap.size ([] ++ (zs ++ [])) ∧ Only w.heap.size w1 wr ∧
        val ((lim m).take k) + val ((lim n).take k) = val (zs.take k) + cn * 4294967296 ^ k) (fun _ i _ => L + 1 - (intOf i).toNat)
    case atStart => exact ⟨0, 0, List.replicate (L + 1) 0, by omega, rfl, rfl, by omega, by simp, by simpa using HB1.out, Only.refl _ _, by simp [val]⟩
    case round =>
      obtain ⟨k, cn, zs, hk, rfl, rfl, hc1, hzl, hbz, hon, hval⟩ := hrel
      have H := hid (And.intro hzl (And.intro hbz (And.intro hon hval)))
      clear hzl hbz hon hval
      by_cases hlt : k < L + 1
      · have hlz : k < zs.length := by rw [H.out.1]; exact hlt
        have hzk := H.out.2.1.mid k hlz
        have hfz := H.out.2.1.frozen (0 + k)
        simp only [List.length_nil, Nat.zero_add] at hzk hfz
        have HL2 := hid hlz
        clear hlz
        have hra2 := hra.only H.out.2.2.1 hoa
        have hrb2 := hrb.only H.out.2.2.1 hob
        obtain ⟨x, hx⟩ : ∃ x, x = (lim m).getD k 0 := ⟨_, rfl⟩
        obtain ⟨y, hy⟩ : ∃ y, y = (lim n).getD k 0 := ⟨_, rfl⟩
        have hxb : x < 4294967296 := by rw [hx]; exact (ok_lim m).getD _
        have hyb : y < 4294967296 := by rw [hy]; exact (ok_lim n).getD _
        have c1 := refAt_any hra2 k (by omega)
        have c2 := refAt_any hrb2 k (by omega)
        rw [← hx] at c1
        rw [← hy] at c2
        have C1 := hid c1
        have C2 := hid c2
        have HX := hid hx
        have HY := hid hy
        clear c1 c2 hx hy
        go_wp2_with fail
        refine C1.out.mono ?_
        rintro e w2 ⟨rfl, rfl⟩
        go_wp2_with fail
        refine C2.out.mono ?_
        rintro e w2 ⟨rfl, rfl⟩
        go_wp2
        go_roundw
        case rel =>
          obtain ⟨q1, q2, q3, q4⟩ := H.out
          have hb3 := q2.setAt k HL2.out (((cn : Int) + x + y) % 4294967296) ((cn + x + y) % 4294967296) (by omega) (by omega)
          simp only [List.length_nil, Nat.zero_add] at hb3
          refine ⟨k + 1, (cn + x + y) / 4294967296, zs.set k ((cn + x + y) % 4294967296), by omega, by go_num, by go_num, by omega, by rw [set_len]; exact q1, hb3, q3.setv _ _, ?_⟩
          rw [set_val HL2.out, val_take_succ (lim m), val_take_succ (lim n), ← HX.out, ← HY.out, Nat.pow_succ]
          exact add_step q4 rfl
        case measure => simp [intOf] <;> omega
      · have hz : Rd wr (.slice (some ⟨w.heap.size, 0, none⟩) (L + 1) (L + 1)) zs := by
          have h3 := Blk.rd H.out.2.1 (L + 1) (by rw [H.out.1]; exact Nat.le_refl _) (le_maxLen (by omega))
          rwa [H.out.1] at h3
        go_wp2_with fail
        refine (refTrim_any hz (by rw [H.out.1]; omega)).mono ?_
        rintro e w2 ⟨v, rfl, hnv, hf2⟩
        have hvz : val zs = m + n := by
          obtain ⟨q1, q2, q3, q4⟩ := H.out
          have hk1 : k = L + 1 := by omega
          rw [val_take_all (xs := lim m) (show nl m ≤ k by omega), val_take_all (xs := lim n) (show nl n ≤ k by omega), val_lim, val_lim, val_take_all (by omega)] at q4
          have l1 := (nl_le_iff m L).1 hLm1
          have l2 := (nl_le_iff n L).1 hLm2
          rw [hk1, Nat.pow_succ] at q4
          have hc : cn = 0 := by
            rcases Nat.eq_zero_or_pos cn with h0 | h0
            · exact h0
            · have : 1 * (4294967296 ^ L * 4294967296) ≤ cn * (4294967296 ^ L * 4294967296) := Nat.mul_le_mul_right _ h0
              omega
          subst hc; omega
        rw [hvz] at hnv
        clear hvz
        go_wp2
        go_ret
        exact ⟨_, rfl, hnv, (hf1.wrote H.out.2.2.1 (Nat.le_refl _)).trans hf2⟩

end Go.Proofs.YtbkphjmhmfgpgabDoor
