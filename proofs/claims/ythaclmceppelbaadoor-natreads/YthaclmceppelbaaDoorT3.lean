/- The second telling's trim: its row is the call's own. -/
import Derived.Test.YthaclmceppelbaaDoorT2
namespace Go.Proofs.YthaclmceppelbaaDoor
open Go.RowKit
set_option linter.unusedVariables false

/-- append([]uint32{}, src...): a new row of the call's own, with what src reads as. -/
theorem law_append0O {w : World} {ops : Array Oper} {rest : List Oper} {o : Oper} {a : Act} {Q : Exit → Act → World → Prop} (hgd : o.guard = none) (s x : Operand)
    (ho : o.op = .call { callee := .builtin .append, args := #[s, x], argTypes := #[22, 22] })
    (g : Nat) (hs : a.eval s = .slice (some ⟨g, 0, none⟩) 0 0) (hg : w.heap[g]? = some (.cells #[] 54 (0, 0)))
    (v : Value) (xs : List Nat) (hx : a.eval x = v) (hv : Arg w v xs) (hlen : xs.length ≤ 1000000000)
    (h : ∀ v' w', Own w' g v' xs → Only g w w' → wpList Tryd.prog ops Q rest (a.put o.dst v') w') :
    wpList Tryd.prog ops Q (o :: rest) a w := by
  have hlt : g < w.heap.size := (Array.getElem?_eq_some_iff.1 hg).1
  have hown := ownsRow_empty w g g (Nat.le_refl _) hg
  obtain ⟨i, hi, hz0, hz1, hz2⟩ := info_parts info_u32
  rcases hv with hv | ⟨rfl, xa, cap, rfl, hcm⟩
  case inr =>
    refine wpList_append_own w hgd s x 22 ho g 54 i (.int .u32 0) 1 4 Tryd.underlying22 hi hz0 hz1 hz2 rfl (by decide) _ 0 [] hs hown xa 0 cap [] hx (by simp) (by simp) (by simp)
      (le_maxLen (by omega)) (by omega) (by omega) ?_
    intro v' w' ho' hgr hnil
    rw [List.nil_append, Nat.zero_add] at ho'
    exact h v' w' ⟨Ok.nil, by simpa [cellsOf] using ho'⟩ hgr
  rcases hv.2 with ⟨rfl, rfl⟩ | ⟨b, off, cap, rfl, h1, h2, h3, h4⟩
  · refine wpList_append_own_none hgd s x 22 ho g 54 i 1 Tryd.underlying22 hi _ 0 [] hs hown hx ?_
    exact h _ w ⟨Ok.nil, hown⟩ (Only.refl _ _)
  · refine wpList_append_own w hgd s x 22 ho g 54 i (.int .u32 0) 1 4 Tryd.underlying22 hi hz0 hz1 hz2 rfl (by decide) _ 0 [] hs hown ⟨b, off, none⟩ xs.length cap (cellsOf xs) hx (by simp [cellsOf]) ?_ ?_
      (le_maxLen (by omega)) (by omega) (by omega) ?_
    · intro j u hj
      have hjl : j < xs.length := by
        rcases Nat.lt_or_ge j xs.length with hlt | hge
        · exact hlt
        · simp [cellsOf, List.getElem?_eq_none hge] at hj
      have := h3 j hjl
      simp [cellsOf, hjl] at hj
      rw [show (⟨b, off, none⟩ : Addr).add j = ⟨b, off + j, none⟩ from by unfold Addr.add; split <;> simp_all, this, ← hj]
      simp [hjl]
    · intro u hu
      simp only [cellsOf, List.mem_map] at hu
      obtain ⟨x, _, rfl⟩ := hu; rfl
    · intro v' w' ho' hgr hnil
      rw [List.nil_append, Nat.zero_add] at ho'
      exact h v' w' ⟨hv.ok, ho'⟩ hgr


set_option maxHeartbeats 2000000 in
theorem refTrim_own {w : World} {v : Value} {xs : List Nat} (hv : Rd w v xs) (hs : xs.length ≤ 100000000) :
    Calls Tryd.prog 45 #[v] w fun e w' => ∃ v', e = .returned v' ∧ Own w' w.heap.size v' (lim (val xs)) ∧ Fwd w w' := by
  have hg : (w.alloc (.cells #[] 54)).heap[w.heap.size]? = some (.cells #[] 54 (0, 0)) := heap_alloc_new w _
  have HG := hid hg
  clear hg
  have hf0 : Fwd w (w.alloc (.cells #[] 54)) := (Fwd.refl w).alloc _
  rcases hv.2 with ⟨rfl, rfl⟩ | ⟨b, off, cap, rfl, h1, h2, h3, h4⟩
  · have HA : Hid (Arg (w.alloc (.cells #[] 54)) (.slice none 0 0) []) := hid (.inl (Rd.nil _))
    go_enter Tryd.func45, Tryd.ntmps45
    go_wp2
    go_loop [3] (fun n => n = .int .i64 0) (fun n => 0)
    case atStart => rfl
    case round =>
      subst hrel
      go_wp2_with (at_builtin; refine law_append0O rfl (.tmp 18) (.tmp 21) rfl w.heap.size rfl HG.out _ [] rfl HA.out (by simp) ?_)
      intro v' w1 hr hon
      go_wp2
      go_ret
      refine ⟨_, rfl, ?_, hf0.wrote hon (Nat.le_refl _)⟩
      rw [show val [] = 0 from rfl, lim_zero]; exact hr
  · unfold maxLen at h2
    have HV := hid hv
    go_enter Tryd.func45, Tryd.ntmps45
    go_wp2
    go_loop [3] (fun n => ∃ k : Nat, k ≤ xs.length ∧ n = .int .i64 k ∧ tlen xs k = tlen xs xs.length) (fun n => (intOf n).toNat)
    case atStart => exact ⟨xs.length, Nat.le_refl _, rfl, rfl⟩
    case round =>
      obtain ⟨k, hk, rfl, he⟩ := hrel
      have HE := hid he
      clear he
      have fin : tlen xs k = k → Hid (Arg (w.alloc (.cells #[] 54)) (.slice (some ⟨b, off, none⟩) k cap) (lim (val xs))) := by
        intro ht
        have e1 := take_tlen HV.out.ok
        rw [← HE.out, ht] at e1
        rw [← e1]
        exact hid (.inl ((HV.out.fwd hf0).front k hk))
      have hll : (lim (val xs)).length ≤ 1000000000 := by
        have := nl_val_le HV.out.ok
        show nl (val xs) ≤ _; omega
      have FIN := hid fin
      clear fin
      cases k with
      | zero =>
        have HA := FIN.out rfl
        go_wp2_with (at_builtin; refine law_append0O rfl (.tmp 18) (.tmp 21) rfl w.heap.size rfl HG.out _ (lim (val xs)) rfl HA.out hll ?_)
        intro v' w1 hr hon
        go_wp2
        go_ret
        exact ⟨_, rfl, hr, hf0.wrote hon (Nat.le_refl _)⟩
      | succ k =>
        have hck := h3 k (by omega)
        obtain ⟨x, hx⟩ : ∃ x, x = xs.getD k 0 := ⟨_, rfl⟩
        rw [← hx] at hck
        have HX := hid hx
        clear hx
        by_cases hx0 : ((x : Int) == 0) = true
        · go_wp2
          go_round
          case rel =>
            refine ⟨k, by omega, rfl, ?_⟩
            rw [← HE.out, tlen, if_pos]
            rw [← HX.out]; simp at hx0; omega
          case measure => simp [intOf]
        · have hx1 : ((x : Int) == 0) = false := by simpa using hx0
          have HA := FIN.out (by rw [tlen, if_neg]; rw [← HX.out]; simp at hx1; omega)
          clear hx0
          go_wp2_with (at_builtin; refine law_append0O rfl (.tmp 18) (.tmp 21) rfl w.heap.size rfl HG.out _ (lim (val xs)) rfl HA.out hll ?_)
          intro v' w1 hr hon
          go_wp2
          go_ret
          exact ⟨_, rfl, hr, hf0.wrote hon (Nat.le_refl _)⟩


theorem Own.lower {w : World} {base b : Nat} {v : Value} {xs : List Nat} (h : Own w base v xs) (hb : b ≤ base) : Own w b v xs := by
  refine ⟨h.1, h.2.1, ?_⟩
  rcases h.2.2 with e | ⟨g, cap, cur, e, h1, h2⟩
  · exact .inl e
  · exact .inr ⟨g, cap, cur, e, by omega, h2⟩

/-- Digits below a number. -/
theorem dec_below (G : Nat) (hG : G ≠ 0) (D : List Nat) (hD : Dig D) : dec (G * 10 ^ D.length + dval D) = dec G ++ D := by
  revert hD
  refine snoc_ind (P := fun D => Dig D → dec (G * 10 ^ D.length + dval D) = dec G ++ D) D ?_ ?_
  · intro _; simp [dval]
  · intro E d ih h
    have hE := ih (fun x hx => h x (by simp [hx]))
    have hd := h d (by simp)
    rw [dval_snoc, List.length_append, List.length_singleton, Nat.pow_succ]
    have hp : 0 < 10 ^ E.length := Nat.pow_pos (by omega)
    have hg : 1 * 10 ^ E.length ≤ G * 10 ^ E.length := Nat.mul_le_mul_right _ (by omega)
    have e : G * (10 ^ E.length * 10) = G * 10 ^ E.length * 10 := by rw [Nat.mul_assoc]
    rw [e]
    generalize G * 10 ^ E.length = Y at *
    have e2 : (Y * 10 + (10 * dval E + d)) / 10 = Y + dval E := by omega
    have e3 : (Y * 10 + (10 * dval E + d)) % 10 = d := by omega
    rw [dec_ge (by omega), e2, e3, hE, List.append_assoc]

end Go.Proofs.YthaclmceppelbaaDoor
