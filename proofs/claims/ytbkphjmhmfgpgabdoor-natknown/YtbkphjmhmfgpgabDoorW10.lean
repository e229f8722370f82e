/- Of the second telling: Right, Cmp; the laws' Same and known. -/
import Derived.Test.YtbkphjmhmfgpgabDoorW9
namespace Go.Proofs.YtbkphjmhmfgpgabDoor
open Go.RowKit
set_option linter.unusedVariables false

theorem nl_one {n : Nat} (h : n < 4294967296) : nl n ≤ 1 := (nl_le_iff n 1).2 (by simpa using h)
theorem nl_take {xs : List Nat} (h : Ok xs) (k : Nat) : nl (val (xs.take k)) ≤ k := by
  have h1 := nl_val_le (h.take k)
  have h2 : (xs.take k).length ≤ k := by rw [List.length_take]; omega
  omega
theorem Arg.ok {w : World} {v : Value} {xs : List Nat} (h : Arg w v xs) : Ok xs := by
  rcases h with h | ⟨rfl, _⟩
  · exact h.1
  · exact Ok.nil
theorem Arg.fwd {w w' : World} {v : Value} {xs : List Nat} (h : Arg w v xs) (k : Fwd w w') : Arg w' v xs := by
  rcases h with h | h
  · exact .inl (h.fwd k)
  · exact .inr h

/-- Are limbs without a nought on top? -/
def rightB (xs : List Nat) : Bool := xs.length == 0 || xs.getD (xs.length - 1) 0 != 0

theorem rightB_lim (n : Nat) : rightB (lim n) = true := by
  have h := norm_lim n
  unfold rightB
  cases hl : (lim n).length with
  | zero => rfl
  | succ k =>
    rw [Bool.or_eq_true]; right
    unfold Norm at h
    rw [List.getLast?_eq_getElem?, hl] at h
    have hk : k < (lim n).length := by omega
    simp at h ⊢
    intro e
    rw [List.getElem?_eq_getElem hk] at h e
    exact h (by rw [← e]; rfl)

theorem bne_cast (x : Nat) : ((x : Int) != 0) = (x != 0) := by
  rw [Bool.eq_iff_iff]; simp

set_option maxHeartbeats 1000000 in
theorem refRight_any {w : World} {v : Value} {xs : List Nat} (hv : Arg w v xs) : Calls Tryd.prog 33 #[v] w fun e w' => e = .returned (.bool (rightB xs)) ∧ w = w' := by
  have hcase : (∃ ao cap, v = .slice ao 0 cap ∧ xs = []) ∨ (∃ b off cap x k, v = .slice (some ⟨b, off, none⟩) (k + 1) cap ∧ k < cap ∧ cap ≤ 9223372036854775807 ∧ w.cell? ⟨b, off + k, none⟩ = some (.int .u32 ((x : Nat) : Int)) ∧ Hid (rightB xs = (x != 0))) := by
    rcases hv with hv | ⟨rfl, x, cap, rfl, _⟩
    · rcases hv.2 with ⟨rfl, rfl⟩ | ⟨b, off, cap, rfl, h1, h2, h3, h4⟩
      · exact .inl ⟨_, _, rfl, rfl⟩
      · unfold maxLen at h2
        cases hl : xs.length with
        | zero => exact .inl ⟨_, _, rfl, List.eq_nil_of_length_eq_zero hl⟩
        | succ k => exact .inr ⟨b, off, cap, xs.getD k 0, k, rfl, by omega, by omega, h3 k (by omega), by show _ = _; simp [rightB, hl]⟩
    · exact .inl ⟨_, _, rfl, rfl⟩
  rcases hcase with ⟨ao, cap, rfl, rfl⟩ | ⟨b, off, cap, x, k, rfl, hk, hc, hcell, HR⟩
  · go_enter Tryd.func33, Tryd.ntmps33
    go_wp2
    go_ret
    exact ⟨rfl, rfl⟩
  · go_enter Tryd.func33, Tryd.ntmps33
    go_wp2
    go_ret
    refine ⟨?_, rfl⟩
    rw [HR.out, ← bne_cast x]; rfl

set_option maxHeartbeats 1000000 in
theorem refCmp_any {w : World} {a b : Value} {m n : Nat} (ha : Num w a m) (hb : Num w b n) (hm : nl m ≤ 1000000000) (hn : nl n ≤ 1000000000) :
    Calls Tryd.prog 16 #[a, b] w fun e w' => e = .returned (.int .i64 (cmpI m n)) ∧ Fwd w w' := by
  obtain ⟨ao, ca, rfl, hca, hcma, hcella⟩ := ha.parts
  obtain ⟨bo, cb, rfl, hcb, hcmb, hcellb⟩ := hb.parts
  unfold maxLen at hcma hcmb
  clear ha hb
  by_cases hl : nl m = nl n
  · have HL : Hid (nl m = nl n) := hl
    have hl1 : ((nl m : Int) != nl n) = false := by simp [hl]
    have hl2 : nl m ≤ nl n := by omega
    have hl3 : nl n ≤ nl m := by omega
    clear hl
    go_enter Tryd.func16, Tryd.ntmps16
    go_wp2_with fail
    go_loopw [5] (fun i wr => ∃ k : Nat, k ≤ nl m ∧ i = .int .i64 k ∧ Fwd w wr ∧ (lim m).drop k = (lim n).drop k) (fun i _ => (intOf i).toNat)
    case atStart => exact ⟨nl m, Nat.le_refl _, rfl, Fwd.refl _, drop_top hl3⟩
    case round =>
      obtain ⟨k, hk, rfl, hfw, hd⟩ := hrel
      have HD : Hid ((lim m).drop k = (lim n).drop k) := hd
      clear hd
      cases k with
      | zero =>
        have E : Hid (cmpI m n = 0) := by
          have : m = n := lim_inj (by simpa using HD.out)
          exact cmpI_eq (by omega)
        go_wp2
        go_ret
        exact ⟨by rw [E.out]; rfl, hfw⟩
      | succ k =>
        obtain ⟨ab, aof, rfl, hxk⟩ := hcella k (by omega)
        obtain ⟨bb, bof, rfl, hyk⟩ := hcellb k (by omega)
        obtain ⟨x, hx⟩ : ∃ x, x = (lim m).getD k 0 := ⟨_, rfl⟩
        obtain ⟨y, hy⟩ : ∃ y, y = (lim n).getD k 0 := ⟨_, rfl⟩
        rw [← hx] at hxk
        rw [← hy] at hyk
        have hxb : x < 4294967296 := by rw [hx]; exact (ok_lim m).getD _
        have hyb : y < 4294967296 := by rw [hy]; exact (ok_lim n).getD _
        have HX : Hid (x = (lim m).getD k 0) := hx
        have HY : Hid (y = (lim n).getD k 0) := hy
        clear hx hy
        have hxk1 := hfw.cell hxk
        have hyk1 := hfw.cell hyk
        have hk1 : (k : Int) < nl m := by omega
        have hk2 : (k : Int) < nl n := by omega
        by_cases hxy : (x : Int) < y
        · have E : Hid (cmpI m n = -1) := cmpI_lt (by have := lt_of_limbs HL.out HD.out (by rw [← HX.out, ← HY.out]; omega); omega)
          go_wp2_with fail
          go_quiet (fail)
          go_wp2
          go_ret
          exact ⟨by rw [E.out]; rfl, hfw.drewN _⟩
        · go_wp2_with fail
          go_quiet (fail)
          go_wp2
          have hf2 := hfw.drewN nq
          have hx2 := hf2.cell hxk
          have hy2 := hf2.cell hyk
          clear hxk1 hyk1
          generalize wr.drewN nq = wq at *
          by_cases hyx : (y : Int) < x
          · have E : Hid (cmpI m n = 1) := cmpI_gt (by have := lt_of_limbs HL.out.symm HD.out.symm (by rw [← HX.out, ← HY.out]; omega); omega)
            go_quiet (fail)
            go_wp2
            go_ret
            exact ⟨by rw [E.out]; rfl, hf2.drewN _⟩
          · have HXY : Hid (x = y) := by show _ = _; omega
            go_quiet (fail)
            go_wp2
            go_roundw
            case rel =>
              refine ⟨k, by omega, by go_num, hf2.drewN _, drop_down HL.out HD.out ?_⟩
              rw [← HX.out, ← HY.out, HXY.out]
            case measure => simp [intOf] <;> omega
  · have hl1 : ((nl m : Int) != nl n) = true := by simp; omega
    have HL : Hid (¬ nl m = nl n) := hl
    clear hl
    by_cases hlt : nl m < nl n
    · have E : Hid (cmpI m n = -1) := cmpI_lt (by
        rcases Nat.lt_or_ge m n with h | h
        · omega
        · have := nl_mono h; omega)
      go_enter Tryd.func16, Tryd.ntmps16
      go_wp2
      go_ret
      exact ⟨by rw [E.out]; rfl, Fwd.refl _⟩
    · have E : Hid (cmpI m n = 1) := cmpI_gt (by
        have h5 := HL.out
        rcases Nat.lt_or_ge n m with h | h
        · omega
        · have := nl_mono h; omega)
      go_enter Tryd.func16, Tryd.ntmps16
      go_wp2
      go_ret
      exact ⟨by rw [E.out]; rfl, Fwd.refl _⟩

set_option maxHeartbeats 1000000 in
theorem same_any {w : World} {a b : Value} {m n : Nat} (ha : Num w a m) (hb : Num w b n) (hm : nl m ≤ 1000000000) (hn : nl n ≤ 1000000000) :
    Calls Tryd.prog 12 #[a, b] w fun e w' => e = .returned (.bool (m == n)) ∧ Fwd w w' := by
  have h1 := hid (refRight_any (Or.inl ha))
  rw [rightB_lim] at h1
  go_enter Tryd.func12, Tryd.ntmps12
  go_wp2_with fail
  refine h1.out.mono ?_
  rintro e w1 ⟨rfl, rfl⟩
  go_wp2_with fail
  refine (refCmp_any ha hb hm hn).mono ?_
  rintro e w1 ⟨rfl, hf1⟩
  have E : Hid ((cmpI m n == 0) = (m == n)) := by
    show _ = _
    rcases Nat.lt_trichotomy m n with h | h | h
    · rw [cmpI_lt (by omega), Bool.eq_iff_iff]; simp; omega
    · rw [cmpI_eq (by omega), Bool.eq_iff_iff]; simp; omega
    · rw [cmpI_gt (by omega), Bool.eq_iff_iff]; simp; omega
  go_wp2
  go_ret
  exact ⟨by rw [← E.out]; rfl, hf1⟩

theorem same_true {w : World} {a b : Value} {m n : Nat} (ha : Num w a m) (hb : Num w b n) (hm : nl m ≤ 1000000000) (hn : nl n ≤ 1000000000) (h : m = n) :
    Calls Tryd.prog 12 #[a, b] w fun e w' => e = .returned (.bool true) ∧ Fwd w w' := by
  have := same_any ha hb hm hn
  rwa [show (m == n) = true by simpa using h] at this

set_option maxHeartbeats 1000000 in
theorem known_any (w : World) : Calls Tryd.prog 9 #[] w fun e w' => e = .returned (.bool true) ∧ Fwd w w' := by
  have hn0 : Num w (.slice none 0 0) 0 := by unfold Num; rw [lim_zero]; exact Rd.nil w
  have e0 : textOf 0 = ⟨#[48]⟩ := by rw [textOf, dec_lt (by omega)]; rfl
  have e7 : textOf 7 = ⟨#[55]⟩ := by rw [textOf, dec_lt (by omega)]; rfl
  have h0 := text_any hn0 (by rw [nl_zero]; omega)
  rw [e0] at h0
  have H0 := hid h0
  have H7 := hid e7
  clear h0 e0 e7 hn0
  go_enter Tryd.func9, Tryd.ntmps9
  go_wp2_with fail
  refine H0.out.mono ?_
  rintro e w1 ⟨rfl, hf1⟩
  go_wp2_with fail
  refine (of_any w1 7 (by omega)).mono ?_
  rintro e w2 ⟨v, rfl, hn7, hf2⟩
  have ht := text_any hn7 (by have := nl_one (n := 7) (by omega); omega)
  rw [H7.out] at ht
  have HT := hid ht
  clear ht
  go_wp2_with fail
  refine HT.out.mono ?_
  rintro e w3 ⟨rfl, hf3⟩
  go_wp2
  go_ret
  exact ⟨rfl, (hf1.trans hf2).trans hf3⟩

end Go.Proofs.YtbkphjmhmfgpgabDoor
