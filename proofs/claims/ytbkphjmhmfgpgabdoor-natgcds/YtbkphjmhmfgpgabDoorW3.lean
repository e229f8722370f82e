/- Contracts of nat's Cmp, Add, Sub, Mul. -/
import Derived.Test.YtbkphjmhmfgpgabDoorW2
import Derived.BigQuiet
import Derived.Deep.QuietTactic
namespace Go.Proofs.YtbkphjmhmfgpgabDoor
open Go.RowKit
set_option linter.unusedVariables false

/-- Less, the same, greater. -/
def cmpI (m n : Int) : Int := if m < n then -1 else if n < m then 1 else 0
theorem cmpI_lt {m n : Int} (h : m < n) : cmpI m n = -1 := by rw [cmpI, if_pos h]
theorem cmpI_gt {m n : Int} (h : n < m) : cmpI m n = 1 := by rw [cmpI, if_neg (by omega), if_pos h]
theorem cmpI_eq {m n : Int} (h : m = n) : cmpI m n = 0 := by rw [cmpI, if_neg (by omega), if_neg (by omega)]

set_option maxHeartbeats 400000 in
theorem compareInt_any (x y : Int) (w : World) : Calls Tryd.prog 55 #[.int .i64 x, .int .i64 y] w fun e w' => e = .returned (.int .i64 (cmpI x y)) ∧ w' = w := by
  by_cases h1 : x < y
  · have E : Hid (cmpI x y = -1) := by show _ = _; rw [cmpI, if_pos h1]
    go_enter Tryd.func55, Tryd.ntmps55
    go_wp2
    go_ret
    exact ⟨by rw [E.out]; rfl, rfl⟩
  · by_cases h2 : y < x
    · have E : Hid (cmpI x y = 1) := by show _ = _; rw [cmpI, if_neg h1, if_pos h2]
      go_enter Tryd.func55, Tryd.ntmps55
      go_wp2
      go_ret
      exact ⟨by rw [E.out]; rfl, rfl⟩
    · have E : Hid (cmpI x y = 0) := by show _ = _; rw [cmpI, if_neg h1, if_neg h2]
      go_enter Tryd.func55, Tryd.ntmps55
      go_wp2
      go_ret
      exact ⟨by rw [E.out]; rfl, rfl⟩

set_option maxHeartbeats 400000 in
theorem compareU32_any (x y : Int) (w : World) : Calls Tryd.prog 56 #[.int .u32 x, .int .u32 y] w fun e w' => e = .returned (.int .i64 (cmpI x y)) ∧ w' = w := by
  by_cases h1 : x < y
  · have E : Hid (cmpI x y = -1) := by show _ = _; rw [cmpI, if_pos h1]
    go_enter Tryd.func56, Tryd.ntmps56
    go_wp2
    go_ret
    exact ⟨by rw [E.out]; rfl, rfl⟩
  · by_cases h2 : y < x
    · have E : Hid (cmpI x y = 1) := by show _ = _; rw [cmpI, if_neg h1, if_pos h2]
      go_enter Tryd.func56, Tryd.ntmps56
      go_wp2
      go_ret
      exact ⟨by rw [E.out]; rfl, rfl⟩
    · have E : Hid (cmpI x y = 0) := by show _ = _; rw [cmpI, if_neg h1, if_neg h2]
      go_enter Tryd.func56, Tryd.ntmps56
      go_wp2
      go_ret
      exact ⟨by rw [E.out]; rfl, rfl⟩

/-- A number's slice. -/
theorem Num.parts {w : World} {v : Value} {n : Nat} (h : Num w v n) : ∃ ao cap, v = .slice ao (nl n) cap ∧ nl n ≤ cap ∧ cap ≤ maxLen ∧
    ∀ i, i < nl n → ∃ b off, ao = some ⟨b, off, none⟩ ∧ w.cell? ⟨b, off + i, none⟩ = some (.int .u32 (((lim n).getD i 0 : Nat) : Int)) := by
  obtain ⟨ao, cap, h1, h2, h3, h4, h5⟩ := Rd.parts h
  exact ⟨ao, cap, h1, h2, h3, h5⟩

theorem trim_num {w : World} {v : Value} {n : Nat} (h : Num w v n) :
    Calls Tryd.prog 31 #[v] w fun e w' => ∃ v', e = .returned v' ∧ Num w v' n ∧ v'.ownBlock = v.ownBlock ∧ w = w' := by
  have := trim_any h
  rwa [val_lim] at this

set_option maxHeartbeats 1000000 in
theorem cmp_any {w : World} {a b : Value} {m n : Nat} (ha : Num w a m) (hb : Num w b n) (hm : nl m ≤ 1000000000) (hn : nl n ≤ 1000000000) :
    Calls Tryd.prog 30 #[a, b] w fun e w' => e = .returned (.int .i64 (cmpI m n)) ∧ Fwd w w' := by
  go_enter Tryd.func30, Tryd.ntmps30
  go_wp2_with fail
  refine (trim_num ha).mono ?_
  rintro e w1 ⟨va, rfl, hna, hoa, rfl⟩
  go_wp2_with fail
  refine (trim_num hb).mono ?_
  rintro e w1 ⟨vb, rfl, hnb, hob, rfl⟩
  obtain ⟨ao, ca, rfl, hca, hcma, hcella⟩ := hna.parts
  obtain ⟨bo, cb, rfl, hcb, hcmb, hcellb⟩ := hnb.parts
  unfold maxLen at hcma hcmb
  clear ha hb hoa hob hna hnb
  by_cases hl : nl m = nl n
  · have HL : Hid (nl m = nl n) := hl
    have hl1 : ((nl m : Int) != nl n) = false := by simp [hl]
    have hl2 : nl m ≤ nl n := by omega
    have hl3 : nl n ≤ nl m := by omega
    clear hl
    go_wp2_with fail
    go_loopw [5] (fun i wr => ∃ k : Nat, k ≤ nl m ∧ i = .int .i64 ((k : Int) - 1) ∧ Fwd w wr ∧ (lim m).drop k = (lim n).drop k) (fun i _ => (intOf i + 1).toNat)
    case atStart => exact ⟨nl m, Nat.le_refl _, rfl, Fwd.refl _, drop_top hl3⟩
    case round =>
      obtain ⟨k, hk, rfl, hfw, hd⟩ := hrel
      have HD : Hid ((lim m).drop k = (lim n).drop k) := hd
      clear hd
      cases k with
      | zero =>
        have E : Hid (cmpI m n = 0) := by
          have : m = n := lim_inj (by simpa using HD.out)
          subst this; show _ = _; simp [cmpI]
        go_wp2
        go_ret
        exact ⟨by rw [E.out]; rfl, hfw⟩
      | succ k =>
        obtain ⟨ab, aof, rfl, hxk⟩ := hcella k (by omega)
        obtain ⟨bb, bof, rfl, hyk⟩ := hcellb k (by omega)
        obtain ⟨x, hx⟩ : ∃ x, x = (lim m).getD k 0 := ⟨_, rfl⟩
        obtain ⟨y, hy⟩ : ∃ y, y = (lim n).getD k 0 := ⟨_, rfl⟩
        rw [← hx] at hxk
        rw [← hy] at hyk
        have hxb : x < 4294967296 := by rw [hx]; exact (ok_lim m).getD _
        have hyb : y < 4294967296 := by rw [hy]; exact (ok_lim n).getD _
        have HX : Hid (x = (lim m).getD k 0) := hx
        have HY : Hid (y = (lim n).getD k 0) := hy
        clear hx hy
        have hxk1 := hfw.cell hxk
        have hyk1 := hfw.cell hyk
        have hk1 : (k : Int) < nl m := by omega
        have hk2 : (k : Int) < nl n := by omega
        by_cases hxy : x = y
        · have hne : ((x : Int) != y) = false := by simp [hxy]
          have HXY : Hid (x = y) := hxy
          clear hxy
          go_wp2_with fail
          go_quiet (fail)
          go_wp2
          go_roundw
          case rel =>
            refine ⟨k, by omega, by go_num, hfw.drewN _, drop_down HL.out HD.out ?_⟩
            rw [← HX.out, ← HY.out, HXY.out]
          case measure => simp [intOf] <;> omega
        · have hne : ((x : Int) != y) = true := by simp; omega
          have HXY : Hid (¬ x = y) := hxy
          clear hxy
          go_wp2_with fail
          go_quiet (fail)
          go_wp2
          have hf2 := hfw.drewN nq
          have hx2 := hf2.cell hxk
          have hy2 := hf2.cell hyk
          clear hxk1 hyk1
          generalize wr.drewN nq = wq at *
          go_quiet ((go_at_call 56; exact Calls.quiet_of_same (compareU32_any _ _ _)))
          go_wp2
          go_ret
          refine ⟨?_, hf2.drewN _⟩
          have e : cmpI x y = cmpI m n := ?_
          · rw [← e]; rfl
          have hne := HXY.out
          by_cases h : x < y
          · have := lt_of_limbs HL.out HD.out (by rw [← HX.out, ← HY.out]; exact h)
            rw [cmpI_lt (by omega), cmpI_lt (by omega)]
          · have := lt_of_limbs HL.out.symm HD.out.symm (by rw [← HX.out, ← HY.out]; omega)
            rw [cmpI_gt (by omega), cmpI_gt (by omega)]
  · have hl1 : ((nl m : Int) != nl n) = true := by simp; omega
    have HL : Hid (¬ nl m = nl n) := hl
    clear hl
    go_wp2_with fail
    refine (compareInt_any _ _ _).mono ?_
    rintro e w1 ⟨rfl, hw⟩
    subst hw
    go_wp2
    go_ret
    refine ⟨?_, Fwd.refl _⟩
    have hl := HL.out
    have e : cmpI (nl m) (nl n) = cmpI m n := ?_
    · rw [← e]; rfl
    by_cases h : m < n
    · have := nl_mono (Nat.le_of_lt h)
      rw [cmpI_lt (by omega), cmpI_lt (by omega)]
    · have := nl_mono (show n ≤ m by omega)
      have hne : m ≠ n := fun e => hl (by rw [e])
      rw [cmpI_gt (by omega), cmpI_gt (by omega)]

end Go.Proofs.YtbkphjmhmfgpgabDoor
