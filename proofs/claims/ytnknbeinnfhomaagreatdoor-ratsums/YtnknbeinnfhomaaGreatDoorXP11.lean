/- Rational numbers: Text, both ways of telling it. -/
import Derived.Test.YtnknbeinnfhomaaGreatDoorKL
import Derived.Test.YtnknbeinnfhomaaGreatDoorKI
import Derived.Test.YtnknbeinnfhomaaGreatDoorKF
namespace Go.Proofs.YtnknbeinnfhomaaGreatDoor
open Go.RowKit
set_option linter.unusedVariables false

/-- A number's text. -/
def textS (s : Bool) (m : Nat) : ByteArray := if s then ⟨#[45]⟩ ++ textOf m else textOf m
def textR (s : Bool) (m d : Nat) : ByteArray := if d = 1 then textS s m else textS s m ++ ⟨#[47]⟩ ++ textOf d
theorem size_textOf (n : Nat) (h : nl n ≤ 100000) : (textOf n).size ≤ 1000001 := by
  rw [show (textOf n).size = (asc (dec n)).length from str_size rfl, len_asc]
  have := len_dec n
  omega
theorem size_dash (b : ByteArray) : (⟨#[45]⟩ ++ b : ByteArray).size = 1 + b.size := by rw [ByteArray.size_append]; rfl
theorem size_slash (b : ByteArray) : (b ++ ⟨#[47]⟩ : ByteArray).size = b.size + 1 := by rw [ByteArray.size_append]; rfl
theorem size_textR (s : Bool) (m d : Nat) (h1 : nl m ≤ 100000) (h2 : nl d ≤ 100000) : (textR s m d).size ≤ 2000004 := by
  have z1 := size_textOf m h1
  have z2 := size_textOf d h2
  have z3 : (textS s m).size ≤ 1000002 := by
    unfold textS
    cases s
    · rw [if_neg (by simp)]; omega
    · rw [if_pos rfl, size_dash]; omega
  unfold textR
  split
  · omega
  · rw [ByteArray.size_append, size_slash]; omega

set_option maxHeartbeats 4000000 in
set_option maxRecDepth 20000 in
theorem rtext_raw {w : World} {a : Value} {sa : Bool} {ma da : Nat} (ha : RW w a sa ma da) (bam : nl ma ≤ 10000) (bad : nl da ≤ 10000) :
    Calls Tryz.prog 25 #[a] w fun e w' => e = .returned (.string (textR sa ma da)) ∧ Fwd w w' := by
  have z1 := size_textOf ma (by omega)
  have z2 := size_textOf da (by omega)
  have z3 := size_dash (textOf ma)
  have z4 := size_slash (textOf ma)
  have z5 := size_slash (⟨#[45]⟩ ++ textOf ma)
  have bo1 : nl 1 ≤ 1 := nl_one (by omega)
  by_cases hd : da = 1
  · cases sa
    · have HE : Hid (textR false ma da = textOf ma) := hid (by simp [textR, textS, hd])
      have hd1 : (da == 1) = true := by simp [hd]
      clear hd
      obtain ⟨ao, ac, ap, ae, rfl, a1, a2, a3, a4, aN, aD⟩ := RW.open ha
      clear ha
      have kA : BlkV (w.alloc (.cells #[.bool false, .slice ao (nl (ma)) ac, .slice ap (nl (da)) ae] 24)) (w.heap.size) 24 [.bool false, .slice ao (nl (ma)) ac, .slice ap (nl (da)) ae] := BlkV.made' w (w.heap.size) (by simp) 24 [.bool false, .slice ao (nl (ma)) ac, .slice ap (nl (da)) ae]
      have hF : Fwd w (w.alloc (.cells #[.bool false, .slice ao (nl (ma)) ac, .slice ap (nl (da)) ae] 24)) := (Fwd.refl w).alloc _
      replace aN := aN.fwd hF
      replace aD := aD.fwd hF
      go_enter Tryz.func25, Tryz.ntmps25
      have ac0 := BlkV.cell kA 0 rfl
      have ac1 := BlkV.cell kA 1 rfl
      have ac2 := BlkV.cell kA 2 rfl
      go_wp2_with fail
      refine (text_any aN (by omega)).mono ?_
      rintro e w1 ⟨rfl, hf1⟩
      replace aN := aN.fwd hf1
      replace aD := aD.fwd hf1
      replace kA := kA.fwd hf1
      replace hF := hF.trans hf1
      clear hf1
      clear ac0 ac1 ac2
      have ac0 := BlkV.cell kA 0 rfl
      have ac1 := BlkV.cell kA 1 rfl
      have ac2 := BlkV.cell kA 2 rfl
      go_wp2_with fail
      refine (isOne_any aD (by omega)).mono ?_
      rintro e w2 ⟨rfl, hf2⟩
      replace aN := aN.fwd hf2
      replace aD := aD.fwd hf2
      replace kA := kA.fwd hf2
      replace hF := hF.trans hf2
      clear hf2
      clear ac0 ac1 ac2
      have ac0 := BlkV.cell kA 0 rfl
      have ac1 := BlkV.cell kA 1 rfl
      have ac2 := BlkV.cell kA 2 rfl
      go_wp2_with fail
      go_ret
      rw [HE.out]
      exact ⟨rfl, hF⟩
    · have HE : Hid (textR true ma da = ⟨#[45]⟩ ++ textOf ma) := hid (by simp [textR, textS, hd])
      have hd1 : (da == 1) = true := by simp [hd]
      clear hd
      obtain ⟨ao, ac, ap, ae, rfl, a1, a2, a3, a4, aN, aD⟩ := RW.open ha
      clear ha
      have kA : BlkV (w.alloc (.cells #[.bool true, .slice ao (nl (ma)) ac, .slice ap (nl (da)) ae] 24)) (w.heap.size) 24 [.bool true, .slice ao (nl (ma)) ac, .slice ap (nl (da)) ae] := BlkV.made' w (w.heap.size) (by simp) 24 [.bool true, .slice ao (nl (ma)) ac, .slice ap (nl (da)) ae]
      have hF : Fwd w (w.alloc (.cells #[.bool true, .slice ao (nl (ma)) ac, .slice ap (nl (da)) ae] 24)) := (Fwd.refl w).alloc _
      replace aN := aN.fwd hF
      replace aD := aD.fwd hF
      go_enter Tryz.func25, Tryz.ntmps25
      have ac0 := BlkV.cell kA 0 rfl
      have ac1 := BlkV.cell kA 1 rfl
      have ac2 := BlkV.cell kA 2 rfl
      go_wp2_with fail
      refine (text_any aN (by omega)).mono ?_
      rintro e w1 ⟨rfl, hf1⟩
      replace aN := aN.fwd hf1
      replace aD := aD.fwd hf1
      replace kA := kA.fwd hf1
      replace hF := hF.trans hf1
      clear hf1
      clear ac0 ac1 ac2
      have ac0 := BlkV.cell kA 0 rfl
      have ac1 := BlkV.cell kA 1 rfl
      have ac2 := BlkV.cell kA 2 rfl
      go_wp2_with fail
      refine (isOne_any aD (by omega)).mono ?_
      rintro e w2 ⟨rfl, hf2⟩
      replace aN := aN.fwd hf2
      replace aD := aD.fwd hf2
      replace kA := kA.fwd hf2
      replace hF := hF.trans hf2
      clear hf2
      clear ac0 ac1 ac2
      have ac0 := BlkV.cell kA 0 rfl
      have ac1 := BlkV.cell kA 1 rfl
      have ac2 := BlkV.cell kA 2 rfl
      go_wp2_with fail
      go_ret
      rw [HE.out]
      exact ⟨rfl, hF⟩
  · cases sa
    · have HE : Hid (textR false ma da = textOf ma ++ ⟨#[47]⟩ ++ textOf da) := hid (by simp [textR, textS, hd])
      have hd1 : (da == 1) = false := by simp [hd]
      clear hd
      obtain ⟨ao, ac, ap, ae, rfl, a1, a2, a3, a4, aN, aD⟩ := RW.open ha
      clear ha
      have kA : BlkV (w.alloc (.cells #[.bool false, .slice ao (nl (ma)) ac, .slice ap (nl (da)) ae] 24)) (w.heap.size) 24 [.bool false, .slice ao (nl (ma)) ac, .slice ap (nl (da)) ae] := BlkV.made' w (w.heap.size) (by simp) 24 [.bool false, .slice ao (nl (ma)) ac, .slice ap (nl (da)) ae]
      have hF : Fwd w (w.alloc (.cells #[.bool false, .slice ao (nl (ma)) ac, .slice ap (nl (da)) ae] 24)) := (Fwd.refl w).alloc _
      replace aN := aN.fwd hF
      replace aD := aD.fwd hF
      go_enter Tryz.func25, Tryz.ntmps25
      have ac0 := BlkV.cell kA 0 rfl
      have ac1 := BlkV.cell kA 1 rfl
      have ac2 := BlkV.cell kA 2 rfl
      go_wp2_with fail
      refine (text_any aN (by omega)).mono ?_
      rintro e w1 ⟨rfl, hf1⟩
      replace aN := aN.fwd hf1
      replace aD := aD.fwd hf1
      replace kA := kA.fwd hf1
      replace hF := hF.trans hf1
      clear hf1
      clear ac0 ac1 ac2
      have ac0 := BlkV.cell kA 0 rfl
      have ac1 := BlkV.cell kA 1 rfl
      have ac2 := BlkV.cell kA 2 rfl
      go_wp2_with fail
      refine (isOne_any aD (by omega)).mono ?_
      rintro e w2 ⟨rfl, hf2⟩
      replace aN := aN.fwd hf2
      replace aD := aD.fwd hf2
      replace kA := kA.fwd hf2
      replace hF := hF.trans hf2
      clear hf2
      clear ac0 ac1 ac2
      have ac0 := BlkV.cell kA 0 rfl
      have ac1 := BlkV.cell kA 1 rfl
      have ac2 := BlkV.cell kA 2 rfl
      go_wp2_with fail
      refine (text_any aD (by omega)).mono ?_
      rintro e w3 ⟨rfl, hf3⟩
      replace aN := aN.fwd hf3
      replace aD := aD.fwd hf3
      replace kA := kA.fwd hf3
      replace hF := hF.trans hf3
      clear hf3
      clear ac0 ac1 ac2
      have ac0 := BlkV.cell kA 0 rfl
      have ac1 := BlkV.cell kA 1 rfl
      have ac2 := BlkV.cell kA 2 rfl
      go_wp2_with fail
      go_ret
      rw [HE.out]
      exact ⟨rfl, hF⟩
    · have HE : Hid (textR true ma da = ⟨#[45]⟩ ++ textOf ma ++ ⟨#[47]⟩ ++ textOf da) := hid (by simp [textR, textS, hd])
      have hd1 : (da == 1) = false := by simp [hd]
      clear hd
      obtain ⟨ao, ac, ap, ae, rfl, a1, a2, a3, a4, aN, aD⟩ := RW.open ha
      clear ha
      have kA : BlkV (w.alloc (.cells #[.bool true, .slice ao (nl (ma)) ac, .slice ap (nl (da)) ae] 24)) (w.heap.size) 24 [.bool true, .slice ao (nl (ma)) ac, .slice ap (nl (da)) ae] := BlkV.made' w (w.heap.size) (by simp) 24 [.bool true, .slice ao (nl (ma)) ac, .slice ap (nl (da)) ae]
      have hF : Fwd w (w.alloc (.cells #[.bool true, .slice ao (nl (ma)) ac, .slice ap (nl (da)) ae] 24)) := (Fwd.refl w).alloc _
      replace aN := aN.fwd hF
      replace aD := aD.fwd hF
      go_enter Tryz.func25, Tryz.ntmps25
      have ac0 := BlkV.cell kA 0 rfl
      have ac1 := BlkV.cell kA 1 rfl
      have ac2 := BlkV.cell kA 2 rfl
      go_wp2_with fail
      refine (text_any aN (by omega)).mono ?_
      rintro e w1 ⟨rfl, hf1⟩
      replace aN := aN.fwd hf1
      replace aD := aD.fwd hf1
      replace kA := kA.fwd hf1
      replace hF := hF.trans hf1
      clear hf1
      clear ac0 ac1 ac2
      have ac0 := BlkV.cell kA 0 rfl
      have ac1 := BlkV.cell kA 1 rfl
      have ac2 := BlkV.cell kA 2 rfl
      go_wp2_with fail
      refine (isOne_any aD (by omega)).mono ?_
      rintro e w2 ⟨rfl, hf2⟩
      replace aN := aN.fwd hf2
      replace aD := aD.fwd hf2
      replace kA := kA.fwd hf2
      replace hF := hF.trans hf2
      clear hf2
      clear ac0 ac1 ac2
      have ac0 := BlkV.cell kA 0 rfl
      have ac1 := BlkV.cell kA 1 rfl
      have ac2 := BlkV.cell kA 2 rfl
      go_wp2_with fail
      refine (text_any aD (by omega)).mono ?_
      rintro e w3 ⟨rfl, hf3⟩
      replace aN := aN.fwd hf3
      replace aD := aD.fwd hf3
      replace kA := kA.fwd hf3
      replace hF := hF.trans hf3
      clear hf3
      clear ac0 ac1 ac2
      have ac0 := BlkV.cell kA 0 rfl
      have ac1 := BlkV.cell kA 1 rfl
      have ac2 := BlkV.cell kA 2 rfl
      go_wp2_with fail
      go_ret
      rw [HE.out]
      exact ⟨rfl, hF⟩

end Go.Proofs.YtnknbeinnfhomaaGreatDoor
