/- The reader upon letters: what a call answers; limbs put to an empty row; lengths that are letters. -/
import Derived.Test.YtnknbeinnfhomaaGreatDoorXEVU
namespace Go.Proofs.YtnknbeinnfhomaaGreatDoor
open Go.RowKit Go.Ev
set_option linter.unusedVariables false
set_option linter.unusedSimpArgs false

/-- What is read of a call is what it answers. -/
theorem told_call {M : Dom} {cx : Cx} {w : World} {f : FuncId} {xs : List A1} {vs : List Value} {k : Nat} {av : AV} {dl : Dl} {n' : Nat} (hmix : cx.P.follows .mixedOrders = true) (hcx : CxOK M w.heap.size cx)
    (hg : ∀ {g us}, M.glob g = some us → g < w.heap.size ∧ ∀ j v, us[j]? = some v → w.cell? ⟨g, j, none⟩ = some v) (hx : rel1s M ⟨fun _ => none, fun _ => none⟩ w xs vs)
    (h : evalCall cx k f xs .e 0 = some (av, dl, n')) : Calls cx.P f vs.toArray w fun e w' => ∃ v ρ', e = .returned v ∧ av.rel M ρ' w' v ∧ Below w.heap.size w w' := by
  obtain ⟨_, hc⟩ := evalCall_ok hmix hcx k _ _ _ _ _ _ _ h
  refine (hc ⟨fun _ => none, fun _ => none⟩ w vs ⟨fun hb => (by cases hb), fun hb => (by cases hb), fun h => ⟨(hg h).1, (hg h).1, (hg h).2⟩⟩ (Nat.le_refl _) (fun hb => (by cases hb)) (fun b _ _ => ⟨rfl, rfl⟩) hx).mono ?_
  rintro e w' ⟨v, ρ', rfl, hv, hT⟩
  exact ⟨v, ρ', rfl, hv, ⟨hT.fr.os, hT.fr.tape, hT.fr.output, hT.fr.kept.size, fun p hp => hT.fr.far p hp fun b k hb => by cases hb⟩⟩

/-- append([]uint32{}, n...). -/
theorem append0_run {w : World} {g : Nat} (ty : TypeId) (hg : w.heap[g]? = some (.cells #[] 43 (0, 0))) {v : Value} {n : Nat} (hv : Num w v n) (hlen : nl n ≤ 1000000) :
    ∃ v' w', (Builtin.append_ #[22, 22] ty #[.slice (some ⟨g, 0, none⟩) 0 0, v]).run Tryz.prog w = .ok v' w' ∧ Num w' v' n ∧ Below w.heap.size w w' := by
  obtain ⟨i, hi, hz0, hz1, hz2⟩ := info_parts info_u32
  have hgl : g < w.heap.size := (Array.getElem?_eq_some_iff.1 hg).1
  by_cases h0 : nl n = 0
  · have hx : (∃ c, v = .slice none 0 c) ∨ ∃ a c, v = .slice (some a) 0 c := by
      rcases hv.2 with ⟨rfl, _⟩ | ⟨b, off, cap, rfl, _⟩
      · exact .inl ⟨0, rfl⟩
      · right
        have : (lim n).length = 0 := h0
        rw [this]
        exact ⟨_, _, rfl⟩
    refine ⟨_, w, append_none_run ty w Tryz.underlying22 hi (Nat.le_refl 0) hx, ?_, Below.refl _ _⟩
    have hl : lim n = [] := List.eq_nil_of_length_eq_zero h0
    unfold Num
    rw [hl]
    exact ⟨Ok.nil, .inr ⟨g, 0, 0, rfl, Nat.le_refl _, by unfold maxLen; simp, by simp, hgl⟩⟩
  · rcases hv.2 with ⟨_, hl⟩ | ⟨b, off, cap, rfl, h1, h2, h3, h4⟩
    · exact absurd (show nl n = 0 by show (lim n).length = 0; rw [hl]; rfl) h0
    · have hcl : (cellsOf (lim n)).length = nl n := by simp [cellsOf, nl]
      obtain ⟨g', cap', cur, w', e1, e2, e3, e4, e5, e6, e7⟩ := append_full (P := Tryz.prog) (t := 22) (i := i) ty w Tryz.underlying22 hi hz0 (by rw [hz1]; rfl) (by rw [hz1]; omega) (old := some (g, 0, #[])) (len := 0) (xs := []) (by simp)
        ⟨hg, by simp, Nat.le_refl _, by unfold maxLen; omega, by simp⟩ (a := ⟨b, off, none⟩) (m := nl n) (c := cap) (news := cellsOf (lim n)) (by rw [hz1, hcl]; omega)
        (by
          intro j u hj
          have hjl : j < (lim n).length := by
            rcases Nat.lt_or_ge j (lim n).length with hlt | hge
            · exact hlt
            · simp [cellsOf, List.getElem?_eq_none hge] at hj
          have := h3 j hjl
          simp [cellsOf, hjl] at hj
          rw [show (⟨b, off, none⟩ : Addr).add j = ⟨b, off + j, none⟩ from by unfold Addr.add; split <;> simp_all, this, ← hj]
          simp [hjl])
        (by
          intro u hu
          simp only [cellsOf, List.mem_map] at hu
          obtain ⟨x, _, rfl⟩ := hu; rfl)
        (by omega) (by rw [hz2]; omega)
      rcases e7 with ⟨arr, he, _, _⟩ | ⟨rfl, rfl, _⟩
      · simp only [Option.some.injEq, Prod.mk.injEq] at he
        omega
      · have hf : Fwd w (w.drew.alloc (.cells cur 43)) := (Fwd.refl w).drew.alloc _
        refine ⟨_, _, e1, ⟨hv.1, .inr ⟨w.heap.size, 0, cap', ?_, ?_, e3, ?_, ?_⟩⟩, hf⟩
        · simp [nl]
        · simpa [nl] using e2
        · intro j hj
          have hr : cur[j]? = some (.int .u32 (((lim n).getD j 0 : Nat) : Int)) := by
            have h6 : cur.toList.take ((0 + nl n) * i.size) = [] ++ cellsOf (lim n) := e6
            rw [hz1, List.nil_append] at h6
            have := congrArg (fun l => l[j]?) h6
            rw [List.getElem?_take, if_pos (by show j < (0 + (lim n).length) * 1; omega)] at this
            simpa [cellsOf, hj] using this
          simp only [World.cell?, e4, Nat.zero_add]
          exact hr
        · simp
end Go.Proofs.YtnknbeinnfhomaaGreatDoor
