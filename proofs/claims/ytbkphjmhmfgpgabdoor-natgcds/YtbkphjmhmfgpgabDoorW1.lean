/- Contracts of nat's helpers: trim, widen, clone. -/
import Derived.Test.YtbkphjmhmfgpgabDoorMem
import Derived.Outline
namespace Go.Proofs.YtbkphjmhmfgpgabDoor
open Go.RowKit
set_option linter.unusedVariables false

set_option maxHeartbeats 400000 in
theorem trim_some (w : World) (b off cap : Nat) (xs : List Nat) (hcap : xs.length ≤ cap) (hm : cap ≤ maxLen)
    (hc : ∀ i, i < xs.length → w.cell? ⟨b, off + i, none⟩ = some (.int .u32 (xs.getD i 0 : Nat))) :
    Calls Tryd.prog 31 #[.slice (some ⟨b, off, none⟩) xs.length cap] w fun e w' =>
      e = .returned (.slice (some ⟨b, off, none⟩) (tlen xs xs.length) (tlen xs xs.length)) ∧ w' = w := by
  unfold maxLen at hm
  go_enter Tryd.func31, Tryd.ntmps31
  go_wp2
  go_loop [3] (fun n => ∃ k : Nat, k ≤ xs.length ∧ n = .int .i64 k ∧ tlen xs k = tlen xs xs.length) (fun n => (intOf n).toNat)
  case atStart => exact ⟨xs.length, Nat.le_refl _, rfl, rfl⟩
  case round =>
    obtain ⟨k, hk, rfl, he⟩ := hrel
    have HE : Hid (tlen xs k = tlen xs xs.length) := he
    clear he
    cases k with
    | zero =>
      go_wp2
      go_ret
      refine ⟨?_, rfl⟩
      rw [← HE.out]; rfl
    | succ k =>
      have hck := hc k (by omega)
      obtain ⟨x, hx⟩ : ∃ x, x = xs.getD k 0 := ⟨_, rfl⟩
      rw [← hx] at hck
      have HX : Hid (x = xs.getD k 0) := hx
      clear hx
      go_wp2
      · go_round
        case rel =>
          have h0 : ((x : Int) == 0) = true := by assumption
          refine ⟨k, by omega, rfl, ?_⟩
          rw [← HE.out, tlen, if_pos]
          rw [← HX.out]; simp at h0; omega
        case measure => simp [intOf]
      · go_ret
        have h0 : ((x : Int) == 0) = false := by assumption
        refine ⟨?_, rfl⟩
        rw [← HE.out, tlen, if_neg]
        · rfl
        · rw [← HX.out]; simp at h0; omega

set_option maxHeartbeats 400000 in
theorem trim_nil (w : World) : Calls Tryd.prog 31 #[.slice none 0 0] w fun e w' => e = .returned (.slice none 0 0) ∧ w' = w := by
  go_enter Tryd.func31, Tryd.ntmps31
  go_wp2
  go_loop [3] (fun n => n = .int .i64 0) (fun n => 0)
  case atStart => rfl
  case round =>
    subst hrel
    go_wp2
    go_ret
    exact ⟨rfl, rfl⟩

/-- trim of what reads as limbs: the same memory, without the noughts on top. -/
theorem trim_any {w : World} {v : Value} {xs : List Nat} (h : Rd w v xs) :
    Calls Tryd.prog 31 #[v] w fun e w' => ∃ v', e = .returned v' ∧ Num w v' (val xs) ∧ v'.ownBlock = v.ownBlock ∧ w = w' := by
  rcases h.2 with ⟨rfl, rfl⟩ | ⟨b, off, cap, rfl, h1, h2, h3, h4⟩
  · refine (trim_nil w).mono fun e w' h => ⟨_, h.1, ?_, rfl, h.2.symm⟩
    have : val [] = 0 := rfl
    unfold Num; rw [this, lim_zero]; exact Rd.nil w
  · refine (trim_some w b off cap xs h1 h2 h3).mono fun e w' h => ⟨_, h.1, ?_, rfl, h.2.symm⟩
    unfold Num
    have hl := tlen_lim (Rd.ok ‹_›)
    have ht := take_tlen (Rd.ok ‹_›)
    rw [hl] at ht
    rw [hl]
    have hle := tlen_le xs xs.length
    rw [hl] at hle
    refine ⟨ok_lim _, .inr ⟨b, off, _, rfl, Nat.le_refl _, by omega, fun i hi => ?_, h4⟩⟩
    rw [h3 i (by omega), ← ht]
    rw [List.getD_eq_getElem?_getD, List.getD_eq_getElem?_getD, List.getElem?_take, if_pos (by omega)]

set_option maxHeartbeats 400000 in
/-- widen: a new row, a's limbs and so many noughts on top. -/
theorem widen_any {w : World} {v : Value} {xs : List Nat} (n : Int) (h : Rd w v xs) (h0 : 0 ≤ n) (hs : xs.length + n.toNat ≤ 1000000000) :
    Calls Tryd.prog 35 #[v, .int .i64 n] w fun e w' => ∃ m, m = xs.length + n.toNat ∧ e = .returned (.slice (some ⟨w.heap.size, 0, none⟩) m m) ∧ Blk w' w.heap.size (xs ++ List.replicate n.toNat 0) ∧ Fwd w w' := by
  obtain ⟨m, rfl⟩ : ∃ m : Nat, n = (m : Int) := ⟨n.toNat, by omega⟩
  simp only [Int.toNat_natCast] at *
  have hv : ∃ ao cap, v = .slice ao xs.length cap ∧ cap ≤ maxLen ∧ xs.length ≤ cap := by
    rcases h.2 with ⟨rfl, rfl⟩ | ⟨b, off, cap, rfl, h1, h2, h3, h4⟩
    · exact ⟨none, 0, rfl, by simp, by simp⟩
    · exact ⟨_, _, rfl, h2, h1⟩
  obtain ⟨ao, cap, rfl, hm, hc⟩ := hv
  unfold maxLen at hm
  go_enter Tryd.func35, Tryd.ntmps35
  go_wp2_with (first | (at_make; refine law_make rfl _ _ rfl .i64 .i64 _ _ (xs.length + m) rfl rfl (by omega) (by omega) (by omega) ?_))
  intro w1 hb1 hf1
  have hr1 := h.fwd hf1
  have HB : Hid (Blk w1 w.heap.size ([] ++ (List.replicate (xs.length + m) 0 ++ []))) := show Blk _ _ _ by simpa using hb1
  clear hb1
  go_wp2_with (with_reducible refine law_copy (by with_unfolding_all rfl) (.tmp 11) (.tmp 12) (by with_unfolding_all rfl) w.heap.size 0 (xs.length + m) (xs.length + m) _ (by with_unfolding_all rfl) (by with_unfolding_all rfl) [] (List.replicate (xs.length + m) 0) [] xs HB.out (by simp) (by simp) hr1 (by simp) ?_)
  intro w2 hb2 ho2
  have HB2 : Hid (Blk w2 w.heap.size (xs ++ List.replicate m 0)) := show Blk _ _ _ by simpa using hb2
  clear hb2
  go_wp2
  go_ret
  exact ⟨_, rfl, rfl, HB2.out, hf1.wrote ho2 (Nat.le_refl _)⟩

set_option maxHeartbeats 400000 in
theorem clone_any {w : World} {v : Value} {xs : List Nat} (h : Rd w v xs) (hs : xs.length ≤ 1000000000) :
    Calls Tryd.prog 34 #[v] w fun e w' => e = .returned (.slice (some ⟨w.heap.size, 0, none⟩) xs.length xs.length) ∧ Blk w' w.heap.size xs ∧ Fwd w w' := by
  go_enter Tryd.func34, Tryd.ntmps34
  go_wp2_with (first | (go_at_call 35; go_loud (refine (widen_any 0 h (by omega) (by simpa using hs)).mono ?_)))
  rintro e w1 ⟨m, hm, rfl, hb, hf⟩
  simp at hm hb
  have HM : Hid (m = xs.length) := hm
  clear hm
  go_wp2
  go_ret
  have := HM.out
  subst this
  exact ⟨rfl, hb, hf⟩

end Go.Proofs.YtbkphjmhmfgpgabDoor
