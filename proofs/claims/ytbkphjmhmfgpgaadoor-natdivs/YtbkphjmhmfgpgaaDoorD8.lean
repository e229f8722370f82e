/- The number that a value is, as a measure; contract of the second telling's Gcd. -/
import Derived.Test.YtbkphjmhmfgpgaaDoorD7
namespace Go.Proofs.YtbkphjmhmfgpgaaDoor
open Go.RowKit
set_option linter.unusedVariables false

theorem Rd.inj {w : World} {v : Value} {xs ys : List Nat} (h : Rd w v xs) (k : Rd w v ys) : xs = ys := by
  obtain ⟨ao, cap, e1, _, _, _, h3⟩ := h.parts
  obtain ⟨ao', cap', e2, _, _, _, k3⟩ := k.parts
  rw [e1] at e2
  injection e2 with e3 e4 e5
  subst e3
  apply List.ext_getElem e4
  intro i h1 h2
  obtain ⟨b, off, rfl, hc⟩ := h3 i h1
  obtain ⟨b', off', e6, hc'⟩ := k3 i h2
  cases e6
  rw [hc] at hc'
  have e7 := Option.some.inj hc'
  injection e7 with _ e8
  simp only [List.getD_eq_getElem?_getD, List.getElem?_eq_getElem h1, List.getElem?_eq_getElem h2, Option.getD_some] at e8
  omega
theorem Num.inj {w : World} {v : Value} {m n : Nat} (h : Num w v m) (k : Num w v n) : m = n := lim_inj (Rd.inj h k)

/-- The number that v is. -/
theorem numOf_ex : ∃ f : World → Value → Nat, ∀ (w : World) (v : Value) (n : Nat), Num w v n → f w v = n := by
  classical
  refine ⟨fun w v => if h : ∃ n, Num w v n then h.choose else 0, fun w v n h => ?_⟩
  have hx : ∃ n, Num w v n := ⟨n, h⟩
  show (if h : ∃ n, Num w v n then h.choose else 0) = n
  rw [dif_pos hx]
  exact Num.inj hx.choose_spec h

set_option maxHeartbeats 2000000 in
theorem refGcd_any {w : World} {a b : Value} {m n : Nat} (ha : Num w a m) (hb : Num w b n) (hm : nl m ≤ 30000) (hn : nl n ≤ 30000) :
    Calls Tryd.prog 32 #[a, b] w fun e w' => ∃ v, e = .returned v ∧ Num w' v (Nat.gcd m n) ∧ Fwd w w' := by
  obtain ⟨numOf, hq0⟩ := numOf_ex
  have NQ := hid hq0
  clear hq0
  go_enter Tryd.func32, Tryd.ntmps32
  go_wp2
  go_loopw [0, 1] (fun a b wr => ∃ A B : Nat, Num wr a A ∧ Num wr b B ∧ nl A ≤ 30000 ∧ nl B ≤ 30000 ∧ Nat.gcd A B = Nat.gcd m n ∧ Fwd w wr) (fun _ b wr => numOf wr b)
  case atStart => exact ⟨m, n, ha, hb, hm, hn, rfl, Fwd.refl _⟩
  case round =>
    obtain ⟨A, B, hA, hB, hAl, hBl, hg, hfw⟩ := hrel
    have HG := hid hg
    clear hg
    have HNB := hid (NQ.out _ _ _ hB)
    obtain ⟨bo, cb, rfl, hcb, hcmb, hcellb⟩ := hB.parts
    unfold maxLen at hcmb
    clear hcellb
    by_cases h0 : B = 0
    · have h1 : nl B = 0 := by rw [h0, nl_zero]
      have H0 := hid h0
      rw [h1]
      clear h0
      go_wp2_with fail
      refine (refTrim_any hA (show nl A ≤ _ by omega)).mono ?_
      rintro e w1 ⟨v, rfl, hv, hf⟩
      rw [val_lim] at hv
      go_wp2
      go_ret
      refine ⟨_, rfl, ?_, hfw.trans hf⟩
      rw [← HG.out, H0.out, Nat.gcd_zero_right]; exact hv
    · have hpos : 0 < nl B := by rw [nl_pos h0]; omega
      have H0 := hid h0
      clear h0
      go_wp2_with fail
      refine (refDiv_any hA hB hAl hBl H0.out).mono ?_
      rintro e w1 ⟨q, r, rfl, hq, hr, hf⟩
      have hB1 := hB.fwd hf
      go_wp2
      go_roundw
      case rel =>
        refine ⟨B, A % B, hB1, hr, hBl, Nat.le_trans (nl_mono (Nat.mod_le _ _)) hAl, ?_, hfw.trans hf⟩
        rw [← HG.out, Nat.gcd_comm B, ← Nat.gcd_rec, Nat.gcd_comm]
      case measure =>
        show numOf _ _ < numOf _ _
        rw [NQ.out _ _ _ hr, HNB.out]
        exact Nat.mod_lt _ (Nat.pos_of_ne_zero H0.out)

end Go.Proofs.YtbkphjmhmfgpgaaDoor
