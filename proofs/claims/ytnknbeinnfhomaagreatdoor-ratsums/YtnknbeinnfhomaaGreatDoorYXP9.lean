/- The program's rational numbers: slices.Equal, shapeOf, Same. -/
/- Rational numbers: Right of numbers, both ways of telling it. -/
import Derived.Test.YtnknbeinnfhomaaGreatDoorKL
import Derived.Test.YtnknbeinnfhomaaGreatDoorKI
namespace Go.Proofs.YtnknbeinnfhomaaGreatDoor
open Go.RowKit
set_option linter.unusedVariables false

theorem take_more {xs ys : List Nat} {k : Nat} (h : xs.take k = ys.take k) (h1 : k < xs.length) (h2 : k < ys.length) (he : xs.getD k 0 = ys.getD k 0) : xs.take (k + 1) = ys.take (k + 1) := by
  rw [List.take_succ_eq_append_getElem h1, List.take_succ_eq_append_getElem h2, h]
  simp [List.getD_eq_getElem?_getD, h1, h2] at he
  rw [he]

set_option maxHeartbeats 1000000 in
theorem equal_any {w : World} {a b : Value} {m n : Nat} (ha : Num w a m) (hb : Num w b n) (hm : nl m ≤ 1000000000) (hn : nl n ≤ 1000000000) :
    Calls Tryz.prog 35 #[a, b] w fun e w' => e = .returned (.bool (m == n)) ∧ Fwd w w' := by
  obtain ⟨ao, ca, rfl, hca, hcma, hcella⟩ := ha.parts
  obtain ⟨bo, cb, rfl, hcb, hcmb, hcellb⟩ := hb.parts
  unfold maxLen at hcma hcmb
  clear ha hb
  by_cases hl : nl m = nl n
  · have HL : Hid (nl m = nl n) := hl
    have hl1 : ((nl m : Int) != nl n) = false := by simp [hl]
    have hl2 : nl m ≤ nl n := by omega
    have hl3 : nl n ≤ nl m := by omega
    clear hl
    go_enter Tryz.func35, Tryz.ntmps35
    go_wp2_with fail
    go_loopw [13] (fun i wr => ∃ k : Nat, k ≤ nl m ∧ i = .int .i64 (k : Int) ∧ Fwd w wr ∧ (lim m).take k = (lim n).take k) (fun i _ => nl m - (intOf i).toNat)
    case atStart => exact ⟨0, Nat.zero_le _, rfl, Fwd.refl _, rfl⟩
    case round =>
      obtain ⟨k, hk, rfl, hfw, hd⟩ := hrel
      have HD : Hid ((lim m).take k = (lim n).take k) := hd
      clear hd
      by_cases hkl : k < nl m
      · obtain ⟨ab, aof, rfl, hxk⟩ := hcella k (by omega)
        obtain ⟨bb, bof, rfl, hyk⟩ := hcellb k (by omega)
        obtain ⟨x, hx⟩ : ∃ x, x = (lim m).getD k 0 := ⟨_, rfl⟩
        obtain ⟨y, hy⟩ : ∃ y, y = (lim n).getD k 0 := ⟨_, rfl⟩
        rw [← hx] at hxk
        rw [← hy] at hyk
        have HX : Hid (x = (lim m).getD k 0) := hx
        have HY : Hid (y = (lim n).getD k 0) := hy
        clear hx hy
        have hxk1 := hfw.cell hxk
        have hyk1 := hfw.cell hyk
        have hk1 : (k : Int) < nl m := by omega
        have hk2 : (k : Int) < nl n := by omega
        by_cases hxy : x = y
        · have hne : ((x : Int) != y) = false := by simp [hxy]
          have HXY : Hid (x = y) := hxy
          clear hxy
          go_wp2_with fail
          go_quiet (fail)
          go_wp2
          go_roundw
          case rel =>
            refine ⟨k + 1, by omega, by go_num, hfw.drewN _, take_more HD.out hkl (by show k < nl n; omega) ?_⟩
            rw [← HX.out, ← HY.out, HXY.out]
          case measure => simp [intOf] <;> omega
        · have hne : ((x : Int) != y) = true := by simp; omega
          have HXY : Hid (¬ x = y) := hxy
          clear hxy
          go_wp2_with fail
          go_quiet (fail)
          go_wp2
          go_ret
          refine ⟨?_, hfw.drewN _⟩
          have : (m == n) = false := by
            rw [beq_eq_false_iff_ne]
            rintro rfl
            exact HXY.out (by rw [HX.out, HY.out])
          rw [this]; rfl
      · have hk1 : ¬ (k : Int) < nl m := by omega
        have E : Hid ((m == n) = true) := by
          have h := HD.out
          rw [List.take_of_length_le (by show nl m ≤ k; omega), List.take_of_length_le (by show nl n ≤ k; omega)] at h
          have : m = n := lim_inj h
          subst this; show _ = _; simp
        go_wp2
        go_ret
        exact ⟨by rw [E.out]; rfl, hfw⟩
  · have hl1 : ((nl m : Int) != nl n) = true := by simp; omega
    have E : Hid ((m == n) = false) := by
      show _ = _
      rw [beq_eq_false_iff_ne]
      rintro rfl
      exact hl rfl
    clear hl
    go_enter Tryz.func35, Tryz.ntmps35
    go_wp2_with fail
    go_ret
    exact ⟨by rw [E.out]; rfl, Fwd.refl _⟩

set_option maxHeartbeats 4000000 in
set_option maxRecDepth 20000 in
theorem shapeOf_any {w : World} {a : Value} {sa : Bool} {ma da : Nat} (ha : RW w a sa ma da) (bam : nl ma ≤ 1000000) (bad : nl da ≤ 1000000) :
    Calls Tryz.prog 34 #[a] w fun e w' => e = .returned (.agg #[.bool sa, .int .i64 (nl ma), .int .i64 (nl da)]) ∧ Fwd w w' := by
  obtain ⟨ao, ac, ap, ae, rfl, a1, a2, a3, a4, aN, aD⟩ := RW.open ha
  clear ha
  go_enter Tryz.func34, Tryz.ntmps34
  go_wp2_with fail
  have hf := ((Fwd.refl w).alloc (.cells #[.bool sa, .slice ao (nl ma) ac, .slice ap (nl da) ae] 24)).alloc (.cells #[.bool sa, .int .i64 (nl ma), .int .i64 (nl da)] 52)
  refine bodyPost_ret (by simp [results, Tryz.results34, go_sem]; try rfl) rfl ?_
  exact ⟨rfl, hf⟩

end Go.Proofs.YtnknbeinnfhomaaGreatDoor

namespace Go.Proofs.YtnknbeinnfhomaaGreatDoor
open Go.RowKit
set_option linter.unusedVariables false
set_option linter.unusedSimpArgs false

theorem right_parts (q : Rat) : q.den ≠ 0 ∧ (q.num.natAbs = 0 → negQ q = false) ∧ Nat.gcd q.num.natAbs q.den = 1 := by
  refine ⟨q.den_nz, fun h => ?_, q.reduced⟩
  unfold negQ
  simp only [decide_eq_false_iff_not]
  omega

end Go.Proofs.YtnknbeinnfhomaaGreatDoor
