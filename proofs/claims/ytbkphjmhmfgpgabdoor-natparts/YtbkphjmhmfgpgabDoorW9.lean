/- The laws' own helpers: Make, Same, known; and of the second telling: Right, Cmp. -/
import Derived.Test.YtbkphjmhmfgpgabDoorW8
import Derived.Laws.AppendOwnNone
namespace Go.Proofs.YtbkphjmhmfgpgabDoor
open Go.RowKit
set_option linter.unusedVariables false

theorem ownsRow_rd {w : World} {base n : Nat} {v : Value} {xs : List Nat} (hok : Ok xs) (h : w.ownsRow base 33 1 v n (cellsOf xs)) : Rd w v xs := by
  have hl : xs.length = n := by have := h.1; simpa [cellsOf] using this
  subst hl
  refine ⟨hok, ?_⟩
  rcases h.2 with ⟨rfl, h0⟩ | ⟨g, cap, cur, rfl, hb, hg, h1, h2, h3, h4⟩
  · exact .inl ⟨rfl, List.eq_nil_of_length_eq_zero h0⟩
  · refine .inr ⟨g, 0, cap, rfl, h1, h2, fun i hi => ?_, (Array.getElem?_eq_some_iff.1 hg).1⟩
    have e := congrArg (fun l => l[i]?) h4
    simp only [List.getElem?_take, cellsOf] at e
    rw [if_pos (by omega)] at e
    simp [World.cell?, hg]
    simpa [hi] using e

theorem ownsRow_empty (w : World) (g base : Nat) (hb : base ≤ g) (hg : w.heap[g]? = some (.cells #[] 33 (0, 0))) : w.ownsRow base 33 1 (.slice (some ⟨g, 0, none⟩) 0 0) 0 [] :=
  ⟨by simp, .inr ⟨g, 0, #[], rfl, hb, hg, Nat.le_refl _, by simp, by simp, by simp⟩⟩

/-- What comes in: limbs, or none at whatever address. -/
def Arg (w : World) (v : Value) (xs : List Nat) : Prop := Rd w v xs ∨ (xs = [] ∧ ∃ x cap, v = .slice (some x) 0 cap ∧ cap ≤ maxLen)

/-- append([]uint32{}, src...): a new row with what src reads as. -/
theorem law_append0 {w : World} {ops : Array Oper} {rest : List Oper} {o : Oper} {a : Act} {Q : Exit → Act → World → Prop} (hgd : o.guard = none) (s x : Operand)
    (ho : o.op = .call { callee := .builtin .append, args := #[s, x], argTypes := #[22, 22] })
    (g : Nat) (hs : a.eval s = .slice (some ⟨g, 0, none⟩) 0 0) (hg : w.heap[g]? = some (.cells #[] 33 (0, 0)))
    (v : Value) (xs : List Nat) (hx : a.eval x = v) (hv : Arg w v xs) (hlen : xs.length ≤ 1000000000)
    (h : ∀ v' w', Rd w' v' xs → v' ≠ .slice none 0 0 → Only g w w' → (∀ b, v'.ownBlock = some b → g ≤ b) → wpList Tryd.prog ops Q rest (a.put o.dst v') w') :
    wpList Tryd.prog ops Q (o :: rest) a w := by
  have hlt : g < w.heap.size := (Array.getElem?_eq_some_iff.1 hg).1
  have hown := ownsRow_empty w g g (Nat.le_refl _) hg
  obtain ⟨i, hi, hz0, hz1, hz2⟩ := info_parts info_u32
  rcases hv with hv | ⟨rfl, xa, cap, rfl, hcm⟩
  case inr =>
    refine wpList_append_own w hgd s x 22 ho g 33 i (.int .u32 0) 1 4 Tryd.underlying22 hi hz0 hz1 hz2 rfl (by decide) _ 0 [] hs hown xa 0 cap [] hx (by simp) (by simp) (by simp)
      (le_maxLen (by omega)) (by omega) (by omega) ?_
    intro v' w' ho' hgr hnil
    rw [List.nil_append, Nat.zero_add] at ho'
    refine h v' w' (ownsRow_rd Ok.nil (by simpa [cellsOf] using ho')) (by intro e; have := hnil.1 e; simp at this) hgr (fun b hb => (ho'.lt b hb).1)
  rcases hv.2 with ⟨rfl, rfl⟩ | ⟨b, off, cap, rfl, h1, h2, h3, h4⟩
  · refine wpList_append_own_none hgd s x 22 ho g 33 i 1 Tryd.underlying22 hi _ 0 [] hs hown hx ?_
    refine h _ w ⟨Ok.nil, .inr ⟨g, 0, 0, rfl, Nat.le_refl _, by simp, by simp, hlt⟩⟩ (by simp) (Only.refl _ _) (by intro b hb; simp [Value.ownBlock] at hb; omega)
  · refine wpList_append_own w hgd s x 22 ho g 33 i (.int .u32 0) 1 4 Tryd.underlying22 hi hz0 hz1 hz2 rfl (by decide) _ 0 [] hs hown ⟨b, off, none⟩ xs.length cap (cellsOf xs) hx (by simp [cellsOf]) ?_ ?_
      (le_maxLen (by omega)) (by omega) (by omega) ?_
    · intro j u hj
      have hjl : j < xs.length := by
        rcases Nat.lt_or_ge j xs.length with hlt | hge
        · exact hlt
        · simp [cellsOf, List.getElem?_eq_none hge] at hj
      have := h3 j hjl
      simp [cellsOf, hjl] at hj
      rw [show (⟨b, off, none⟩ : Addr).add j = ⟨b, off + j, none⟩ from by unfold Addr.add; split <;> simp_all, this, ← hj]
      simp [hjl]
    · intro u hu
      simp only [cellsOf, List.mem_map] at hu
      obtain ⟨x, _, rfl⟩ := hu; rfl
    · intro v' w' ho' hgr hnil
      rw [List.nil_append, Nat.zero_add] at ho'
      refine h v' w' (ownsRow_rd hv.ok ho') (by intro e; have := hnil.1 e; simp at this) hgr (fun b hb => (ho'.lt b hb).1)


/-- A front of what reads as limbs. -/
theorem Rd.front {w : World} {b off cap : Nat} {xs : List Nat} (h : Rd w (.slice (some ⟨b, off, none⟩) xs.length cap) xs) (k : Nat) (hk : k ≤ xs.length) : Rd w (.slice (some ⟨b, off, none⟩) k cap) (xs.take k) := by
  rcases h.2 with ⟨h0, _⟩ | ⟨b', off', cap', e, h1, h2, h3, h4⟩
  · cases h0
  · cases e
    have hl : (xs.take k).length = k := by rw [List.length_take]; omega
    refine ⟨h.1.take k, .inr ⟨b, off, cap, by rw [hl], by omega, h2, fun i hi => ?_, h4⟩⟩
    rw [h3 i (by omega)]
    rw [List.getD_eq_getElem?_getD, List.getD_eq_getElem?_getD, List.getElem?_take, if_pos (by omega)]

/-- How long a slice in a slot is. -/
def sliceLen : Value → Nat | .slice _ n _ => n | _ => 0

set_option maxHeartbeats 4000000 in
theorem make_any {w : World} {v : Value} {xs : List Nat} (most : Nat) (hv : Arg w v xs) (hm1 : 0 < most) (hm2 : most ≤ 1000) :
    Calls Tryd.prog 10 #[v, .int .i64 most] w fun e w' => ∃ v', e = .returned v' ∧ Num w' v' (val (xs.take most)) ∧ Fwd w w' := by
  obtain ⟨ys, hys⟩ : ∃ ys, ys = xs.take most := ⟨_, rfl⟩
  have hyl : ys.length ≤ 1000 := by rw [hys, List.length_take]; omega
  rw [← hys]
  have hg : (w.alloc (.cells #[] 33)).heap[w.heap.size]? = some (.cells #[] 33 (0, 0)) := heap_alloc_new w _
  have HG := hid hg
  clear hg
  have hf0 : Fwd w (w.alloc (.cells #[] 33)) := (Fwd.refl w).alloc _
  have cases4 : (v = .slice none 0 0 ∧ Hid (Arg (w.alloc (.cells #[] 33)) (.slice none 0 0) ys)) ∨
      (∃ x cap, v = .slice (some x) 0 cap ∧ cap ≤ 9223372036854775807 ∧ Hid (Arg (w.alloc (.cells #[] 33)) (.slice (some x) 0 cap) ys)) ∨
      (∃ x len cap, v = .slice (some x) len cap ∧ len ≤ most ∧ 0 < len ∧ len ≤ cap ∧ cap ≤ 9223372036854775807 ∧ Hid (Arg (w.alloc (.cells #[] 33)) (.slice (some x) len cap) ys)) ∨
      (∃ x len cap, v = .slice (some x) len cap ∧ most < len ∧ len ≤ cap ∧ cap ≤ 9223372036854775807 ∧ Hid (Arg (w.alloc (.cells #[] 33)) (.slice (some x) most cap) ys)) := by
    rcases hv with hv | ⟨rfl, x, cap, rfl, hcm⟩
    · rcases hv.2 with ⟨rfl, rfl⟩ | ⟨b, off, cap, rfl, h1, h2, h3, h4⟩
      · simp at hys; subst hys
        exact .inl ⟨rfl, .inl (Rd.nil _)⟩
      · unfold maxLen at h2
        by_cases h0 : xs.length = 0
        · have hx0 : xs = [] := List.eq_nil_of_length_eq_zero h0
          subst hx0
          simp at hys; subst hys
          exact .inr (.inl ⟨_, cap, rfl, by omega, .inl (hv.fwd hf0)⟩)
        · by_cases hlt : most < xs.length
          · have := (hv.fwd hf0).front most (by omega)
            rw [← hys] at this
            exact .inr (.inr (.inr ⟨_, _, cap, rfl, hlt, h1, by omega, .inl this⟩))
          · have e : ys = xs := by rw [hys, List.take_of_length_le (by omega)]
            rw [e]
            exact .inr (.inr (.inl ⟨_, _, cap, rfl, by omega, by omega, h1, by omega, .inl (hv.fwd hf0)⟩))
    · simp at hys; subst hys
      exact .inr (.inl ⟨x, cap, rfl, by unfold maxLen at hcm; omega, .inr ⟨rfl, x, cap, rfl, hcm⟩⟩)
  clear hv hys
  rcases cases4 with ⟨rfl, HA⟩ | ⟨x, cap, rfl, hcm, HA⟩ | ⟨x, len, cap, rfl, hl1, hl2, hl3, hcm, HA⟩ | ⟨x, len, cap, rfl, hl1, hl2, hcm, HA⟩
  all_goals
    go_enter Tryd.func10, Tryd.ntmps10
    go_wp2_with (at_builtin; refine law_append0 rfl (.tmp 6) (.tmp 12) rfl w.heap.size rfl HG.out _ ys rfl HA.out (by omega) ?_)
    intro v' w1 hr hne hon hbl
    have hv' : ∃ b off c2, v' = .slice (some ⟨b, off, none⟩) ys.length c2 ∧ ys.length ≤ c2 ∧ c2 ≤ 9223372036854775807 ∧ (∀ i, i < ys.length → w1.cell? ⟨b, off + i, none⟩ = some (.int .u32 ((ys.getD i 0 : Nat) : Int))) ∧ b < w1.heap.size := by
      rcases hr.2 with ⟨e, _⟩ | ⟨b, off, c2, e, h1, h2, h3, h4⟩
      · exact absurd e hne
      · exact ⟨b, off, c2, e, h1, by unfold maxLen at h2; omega, h3, h4⟩
    obtain ⟨b, off, c2, hve, hy1, hy2, hy3, hy4⟩ := hv'
    rw [hve]
    have HOK := hid hr.ok
    have HF : Hid (Fwd w w1) := hf0.wrote hon (Nat.le_refl _)
    clear hr hne hbl hve hon HA HG hf0
    go_wp2
    go_loop [5] (fun v => ∃ k : Nat, k ≤ ys.length ∧ v = .slice (some ⟨b, off, none⟩) k c2 ∧ tlen ys k = tlen ys ys.length) sliceLen
    case atStart => exact ⟨ys.length, Nat.le_refl _, rfl, rfl⟩
    case round =>
      obtain ⟨k, hk, rfl, he⟩ := hrel
      have HE := hid he
      clear he
      cases k with
      | zero =>
        go_wp2
        go_ret
        refine ⟨_, rfl, ?_, HF.out⟩
        have e0 : nl (val ys) = 0 := by
          show (lim (val ys)).length = 0
          rw [← tlen_lim HOK.out, ← HE.out]; rfl
        have e1 : val ys = 0 := lim_eq_nil.1 (List.eq_nil_of_length_eq_zero e0)
        show Num _ _ _
        unfold Num
        rw [e1, lim_zero]
        exact ⟨Ok.nil, .inr ⟨b, off, c2, rfl, by simp, by unfold maxLen; omega, by simp, hy4⟩⟩
      | succ k =>
        have hck := hy3 k (by omega)
        obtain ⟨x, hx⟩ : ∃ x, x = ys.getD k 0 := ⟨_, rfl⟩
        rw [← hx] at hck
        have HX := hid hx
        clear hx
        go_wp2
        · go_round
          case rel =>
            have h0 : ((x : Int) == 0) = true := by assumption
            refine ⟨k, by omega, rfl, ?_⟩
            rw [← HE.out, tlen, if_pos]
            rw [← HX.out]; simp at h0; omega
          case measure => simp [sliceLen]
        · have h0 : ((x : Int) == 0) = false := by assumption
          go_ret
          refine ⟨_, rfl, ?_, HF.out⟩
          have e0 : k + 1 = (lim (val ys)).length := by
            rw [← tlen_lim HOK.out, ← HE.out, tlen, if_neg]
            rw [← HX.out]; simp at h0; omega
          have e2 := take_tlen HOK.out
          rw [tlen_lim HOK.out, ← e0] at e2
          show Num _ _ _
          unfold Num
          refine ⟨ok_lim _, .inr ⟨b, off, c2, by rw [← e0]; rfl, by omega, by unfold maxLen; omega, fun i hi => ?_, hy4⟩⟩
          rw [hy3 i (by omega), ← e2, List.getD_eq_getElem?_getD, List.getD_eq_getElem?_getD, List.getElem?_take, if_pos (by omega)]

end Go.Proofs.YtbkphjmhmfgpgabDoor
