/- The last row of NttKnown: its operations one by one, whatever order is drawn. -/
import Derived.Test.YtimlpehgafjkpaaXNT25
namespace Go.Proofs.Ytimlpehgafjkpaa
open Go.RowKit Go.Maps
set_option linter.unusedVariables false
set_option linter.unusedSimpArgs false

inductive Sq
  | v (x : Value)
  | rd (L : List Nat)
  | rows
  | none
def rowsS (v : Value) (w : World) : Prop := ∃ g, v = .slice (some ⟨g, 0, none⟩) 7 7 ∧ ∀ k, k < 7 → w.cell? ⟨g, k, none⟩ = some (.bool true)
def Sq.says : Sq → Value → World → Prop
  | .v x, y, _ => y = x
  | .rd L, y, u => Rd u y L
  | .rows, y, u => rowsS y u
  | .none, _, _ => True
theorem Sq.keep {s : Sq} {y : Value} {w w' : World} (hF : Fwd w w') (h : s.says y w) : s.says y w' := by
  cases s with
  | v x => exact h
  | rd L => exact Rd.fwd h hF
  | rows => obtain ⟨g, e, hc⟩ := h; exact ⟨g, e, fun k hk => hF.cell (hc k hk)⟩
  | none => trivial
def tabK (u1 u3 u4 : Value) (b off cap zc : Nat) (zo : Option Addr) : List Sq := [
  .v (.int .i64 0),
  .v (.bool true),
  .v (.bool true),
  .v (u1),
  .rd [3, 998244352],
  .v (.bool true),
  .v (.bool true),
  .v (.int .i64 0),
  .v (.bool true),
  .v (.bool true),
  .v (.slice (some ⟨b, off, none⟩) 4 cap),
  .v (.int .i64 4),
  .v (.bool true),
  .v (.bool true),
  .v (.bool true),
  .v (.slice (some ⟨b, off, none⟩) 4 cap),
  .v (.pointer (some ⟨b, off, none⟩)),
  .v (.int .u32 1),
  .v (.bool true),
  .v (.bool true),
  .v (.bool true),
  .v (.slice (some ⟨b, off, none⟩) 4 cap),
  .v (.pointer (some ⟨b, off + 2, none⟩)),
  .v (.int .u32 998244352),
  .v (.bool true),
  .v (.bool true),
  .v (.bool true),
  .v (.slice (some ⟨b, off, none⟩) 4 cap),
  .v (.pointer (some ⟨b, off + 1, none⟩)),
  .v (.int .u32 911660635),
  .v (.int .u64 911660635),
  .v (.slice (some ⟨b, off, none⟩) 4 cap),
  .v (.pointer (some ⟨b, off + 1, none⟩)),
  .v (.int .u32 911660635),
  .v (.int .u64 911660635),
  .v (.int .u64 831125113408603225),
  .v (.int .u64 998244352),
  .v (.bool true),
  .v (.bool true),
  .v (.bool true),
  .v (.slice (some ⟨b, off, none⟩) 4 cap),
  .v (.pointer (some ⟨b, off + 1, none⟩)),
  .v (.int .u32 911660635),
  .v (.int .u64 911660635),
  .v (.slice (some ⟨b, off, none⟩) 4 cap),
  .v (.pointer (some ⟨b, off + 3, none⟩)),
  .v (.int .u32 86583718),
  .v (.int .u64 86583718),
  .v (.int .u64 78934967332540930),
  .v (.int .u64 1),
  .v (.bool true),
  .v (.bool true),
  .v (.int .i64 0),
  .v (.bool true),
  .v (.bool true),
  .v (u3),
  .rd [4, 13, 22, 15],
  .v (.bool true),
  .v (.bool true),
  .v (.int .i64 0),
  .v (.bool true),
  .v (.bool true),
  .v (u4),
  .rd [5, 0, 0, 0],
  .v (.bool true),
  .v (.bool true),
  .v (.int .i64 3),
  .v (.bool true),
  .v (.bool true),
  .v (.int .i64 1),
  .v (.bool true),
  .v (.bool true),
  .v (.bool true),
  .v (.int .i64 3),
  .v (.bool true),
  .v (.bool true),
  .v (.bool true),
  .v (.int .i64 3),
  .v (.bool true),
  .v (.bool true),
  .v (.bool true),
  .v (.int .i64 3),
  .v (.bool true),
  .v (.bool true),
  .v (.int .i64 0),
  .v (.bool true),
  .v (.bool true),
  .v (.slice zo 1024 zc),
  .v (.int .i64 1024),
  .v (.bool true),
  .v (.bool true),
  .v (.int .u32 1),
  .v (.bool true),
  .v (.bool true),
  .v (.int .u32 499122177),
  .v (.bool true),
  .v (.bool true),
  .v (.bool true),
  .v (.int .u32 1),
  .v (.bool true),
  .v (.bool true),
  .v (.bool true),
  .v (.int .u32 0),
  .v (.bool true),
  .v (.bool true),
  .rows]
def spK (a0 : Act) (tab : List Sq) (t : Nat) : Sq := if t < 23 then .v (a0.eval (.tmp t)) else if t = 23 then .rows else if t < 78 then .none else tab.getD (t - 78) .none
theorem fc {α : Type} {p : α → Prop} {x : α} {l L : List α} (hL : L = x :: l) (h : p x) (t : ∀ o ∈ l, p o) : ∀ o ∈ L, p o := by
  subst hL
  intro o ho
  rcases List.mem_cons.1 ho with rfl | h2
  · exact h
  · exact t o h2
theorem sayV {P : Program} {ops : Array Oper} {sp : Nat → Value → World → Prop} {w0 : World} {o : Oper} (d : Nat) (hd : o.dst = some d) (v : Value) (hs : ∀ w, sp d v w)
    (h : ∀ (ρ : Operand → Value) (w : World), (∀ v, ρ (.const v) = v) → (∀ f, ρ (.func f) = .func (.func f) #[] #[]) → Fwd w0 w → (∀ t, Operand.tmp t ∈ o.op.operands.toList → sp t (ρ (.tmp t)) w) → (execOp ρ o).run P w = .ok (.value v) w) : StepOK P ops sp w0 o := by
  intro a w hF hr K Q hK
  unfold Oper.wp
  rw [h a.eval w (fun _ => rfl) (fun _ => rfl) hF hr]
  exact hK v w (Fwd.refl w) fun d' hd' => by rw [hd] at hd'; cases hd'; exact hs w
theorem sayN {P : Program} {ops : Array Oper} {sp : Nat → Value → World → Prop} {w0 : World} {o : Oper} (d : Nat) (hd : o.dst = some d)
    (h : ∀ (ρ : Operand → Value) (w : World), (∀ v, ρ (.const v) = v) → (∀ f, ρ (.func f) = .func (.func f) #[] #[]) → Fwd w0 w → (∀ t, Operand.tmp t ∈ o.op.operands.toList → sp t (ρ (.tmp t)) w) → ∃ v w', (execOp ρ o).run P w = .ok (.value v) w' ∧ Fwd w w' ∧ sp d v w') : StepOK P ops sp w0 o := by
  intro a w hF hr K Q hK
  obtain ⟨v, w', h1, h2, h3⟩ := h a.eval w (fun _ => rfl) (fun _ => rfl) hF hr
  unfold Oper.wp
  rw [h1]
  exact hK v w' h2 fun d' hd' => by rw [hd] at hd'; cases hd'; exact h3
theorem sayC {P : Program} {ops : Array Oper} {sp : Nat → Value → World → Prop} {w0 : World} {o : Oper} (d : Nat) (hd : o.dst = some d)
    (h : ∀ (ρ : Operand → Value) (w : World), (∀ v, ρ (.const v) = v) → (∀ f, ρ (.func f) = .func (.func f) #[] #[]) → Fwd w0 w → (∀ t, Operand.tmp t ∈ o.op.operands.toList → sp t (ρ (.tmp t)) w) → ∃ f args, (execOp ρ o).run P w = .ok (.enter f args) w ∧ Calls P f args w fun e w' => ∃ v, e = .returned v ∧ Fwd w w' ∧ sp d v w') : StepOK P ops sp w0 o := by
  intro a w hF hr K Q hK
  obtain ⟨f, args, h1, h2⟩ := h a.eval w (fun _ => rfl) (fun _ => rfl) hF hr
  unfold Oper.wp
  rw [h1]
  refine Calls.mono h2 ?_
  rintro e w' ⟨v, rfl, k1, k2⟩
  exact hK v w' k1 fun d' hd' => by rw [hd] at hd'; cases hd'; exact k2
def dstB (ops : Array Oper) : Bool := ((List.range 106).all fun i => ((ops[i]?).bind (·.dst)) == some (78 + i)) && ((ops[106]?).bind (·.dst)) == some 23 && (ops.toList.all fun o => match o.dst with | some d => decide (d < 191) | none => true)
theorem dst_lt {ops : Array Oper} (h : dstB ops = true) : ∀ o ∈ ops.toList, ∀ d, o.dst = some d → d < 191 := by
  intro o ho d hd
  unfold dstB at h
  rw [Bool.and_eq_true] at h
  have := List.all_eq_true.1 h.2 o ho
  rw [hd] at this
  simpa using this
theorem dst_in {ops : Array Oper} {i t : Nat} (h : ((ops[i]?).bind (·.dst)) = some t) : ∃ o ∈ ops.toList, o.dst = some t := by
  cases ho : ops[i]? with
  | none => rw [ho] at h; cases h
  | some o =>
    rw [ho] at h
    rw [← Array.getElem?_toList] at ho
    exact ⟨o, List.mem_of_getElem? ho, h⟩
theorem says0 {ops : Array Oper} {a0 : Act} {w0 : World} {tab : List Sq} (htab : tab.length = 106) (h : dstB ops = true) : ∀ t : Nat, (∀ o ∈ ops.toList, o.dst ≠ some t) → (spK a0 tab t).says (a0.eval (.tmp t)) w0 := by
  intro t ht
  unfold dstB at h
  rw [Bool.and_eq_true, Bool.and_eq_true] at h
  unfold spK
  by_cases h1 : t < 23
  · rw [if_pos h1]; rfl
  · rw [if_neg h1]
    by_cases h2 : t = 23
    · subst h2
      obtain ⟨o, ho, hd⟩ := dst_in (beq_iff_eq.1 h.1.2)
      exact (ht o ho hd).elim
    · rw [if_neg h2]
      by_cases h3 : t < 78
      · rw [if_pos h3]; trivial
      · rw [if_neg h3]
        obtain ⟨k, rfl⟩ : ∃ k, t = 78 + k := ⟨t - 78, by omega⟩
        rw [Nat.add_sub_cancel_left]
        by_cases h4 : k < 106
        · have h5 := List.all_eq_true.1 h.1.1 k (List.mem_range.2 h4)
          obtain ⟨o, ho, hd⟩ := dst_in (beq_iff_eq.1 h5)
          exact (ht o ho hd).elim
        · have h6 : tab.length ≤ k := by rw [htab]; exact Nat.le_of_not_lt h4
          rw [List.getD_eq_getElem?_getD, List.getElem?_eq_none h6]; trivial
theorem frame_lit {a : Act} {n : Nat} (hn : a.tmps.size = n) (hd : a.defers = []) : a = { tmps := ((List.range n).map fun t => a.eval (.tmp t)).toArray, defers := [] } := by
  obtain ⟨tm, df⟩ := a
  dsimp only at hn hd
  subst hd
  congr 1
  apply Array.ext
  · simp [hn]
  · intro i h1 h2
    simp [Act.eval, Array.getD, h1]
end Go.Proofs.Ytimlpehgafjkpaa
