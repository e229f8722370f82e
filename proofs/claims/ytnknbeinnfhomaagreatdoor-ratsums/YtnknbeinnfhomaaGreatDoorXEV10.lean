/- A reader of closed calls: code and calls are what they say. -/
import Derived.Test.YtnknbeinnfhomaaGreatDoorXEV9
import Derived.LoopN
namespace Go.Ev
open Go.RowKit
set_option linter.unusedVariables false
set_option linter.unusedSimpArgs false

def AX.toExit : AX → Exit
  | .normal => .normal
  | .exit id => .exit id
  | .ret => .ret

section
variable {M : Dom} {B : Nat} {P : Program} {ρ ρ' : Env} {w w' : World} {S : Tr Bk} {n n' : Nat}

def DrawOK (M : Dom) (B : Nat) (P : Program) (opf : OpF) : Prop := ∀ {sz : Nat} {ops : Array Oper} {st st' : St}, drawOps opf sz ops st = some st' → st.n ≤ st'.n ∧
  ∀ {id : Nat} {ρ : Env} {w : World} {a : Act} {Q : Exit → Act → World → Prop}, StRel M B ρ w st sz a → Free ρ st.n st'.n →
    (∀ ρ' w' a', StRel M B ρ' w' st' sz a' → Stp M B ρ w st ρ' w' st' → Q .normal a' w') → (Code.region id ops true).wp P Q a w

def CodeOK (M : Dom) (B : Nat) (P : Program) (sz : Nat) (rec : Code → St → Option (AX × St)) : Prop := ∀ c st x st', rec c st = some (x, st') → st.n ≤ st'.n ∧
  ∀ (ρ : Env) (w : World) (a : Act) (Q : Exit → Act → World → Prop), StRel M B ρ w st sz a → Free ρ st.n st'.n →
    (∀ ρ' w' a', StRel M B ρ' w' st' sz a' → Stp M B ρ w st ρ' w' st' → Q x.toExit a' w') → c.wp P Q a w

theorem loopA_ok {sz : Nat} {rec : Code → St → Option (AX × St)} (hrec : CodeOK M B P sz rec) (c : Code) : ∀ (k : Nat) (st : St) (x : AX) (st' : St), loopA (rec c) k st = some (x, st') → st.n ≤ st'.n ∧
    ∀ (ρ : Env) (w : World) (a : Act) (Q : Exit → Act → World → Prop), StRel M B ρ w st sz a → Free ρ st.n st'.n →
      (∀ ρ' w' a', StRel M B ρ' w' st' sz a' → Stp M B ρ w st ρ' w' st' → Q x.toExit a' w') → Code.rounds P c Q k a w
  | 0, st, x, st', h => by cases h
  | k + 1, st, x, st', h => by
    unfold loopA at h
    split at h
    · rename_i st1 h1
      obtain ⟨l1, w1⟩ := hrec _ _ _ _ h1
      obtain ⟨l2, w2⟩ := loopA_ok hrec c k _ _ _ h
      refine ⟨Nat.le_trans l1 l2, fun ρ w a Q hst hf hq => ?_⟩
      rw [rounds_succ]
      refine w1 ρ w a _ hst (hf.sub (Nat.le_refl _) l2) fun ρ' w' a' hst' hstp' => ?_
      exact w2 ρ' w' a' Q hst' (hstp'.tn.free (hf.sub l1 (Nat.le_refl _)) (.inr (Nat.le_refl _))) fun ρ2 w2 a2 h3 h4 => hq ρ2 w2 a2 h3 (hstp'.trans h4)
    · rename_i hne
      obtain ⟨l1, w1⟩ := hrec _ _ _ _ h
      refine ⟨l1, fun ρ w a Q hst hf hq => ?_⟩
      rw [rounds_succ]
      refine w1 ρ w a _ hst hf fun ρ' w' a' hst' hstp' => ?_
      have := hq ρ' w' a' hst' hstp'
      cases x with
      | normal => exact absurd h (hne _)
      | exit id => exact this
      | ret => exact this

theorem boolA_ok {T : Tr AV} {a : Act} {c : Operand} {t : Bool} (he : EvRel M ρ w (evO T) a.eval) (h : boolA (evO T c) = some t) : a.eval c = .bool t := by
  unfold boolA at h
  split at h
  · rename_i b hx
    obtain rfl := Option.some.inj h
    exact (he _ _ hx).1
  · cases h

theorem codeA_ok {opf : OpF} (hok : OpOK M B P opf) (hle : OpLe opf) (hdraw : DrawOK M B P opf) {sz : Nat} {rec : Code → St → Option (AX × St)} (hrec : CodeOK M B P sz rec) : CodeOK M B P sz (codeA opf sz rec) := by
  intro c st x st' h
  unfold codeA at h
  split at h
  · simp only [Option.some.injEq, Prod.mk.injEq] at h
    obtain ⟨rfl, rfl⟩ := h
    exact ⟨Nat.le_refl _, fun ρ w a Q hst hf hq => wp_skip (hq ρ w a hst (Stp.refl hst.S hst.keys))⟩
  · simp only [Option.some.injEq, Prod.mk.injEq] at h
    obtain ⟨rfl, rfl⟩ := h
    exact ⟨Nat.le_refl _, fun ρ w a Q hst hf hq => wp_label (hq ρ w a hst (Stp.refl hst.S hst.keys))⟩
  · simp only [Option.some.injEq, Prod.mk.injEq] at h
    obtain ⟨rfl, rfl⟩ := h
    exact ⟨Nat.le_refl _, fun ρ w a Q hst hf hq => wp_ret (hq ρ w a hst (Stp.refl hst.S hst.keys))⟩
  · simp only [Option.some.injEq, Prod.mk.injEq] at h
    obtain ⟨rfl, rfl⟩ := h
    exact ⟨Nat.le_refl _, fun ρ w a Q hst hf hq => wp_exit (hq ρ w a hst (Stp.refl hst.S hst.keys))⟩
  · rename_i id ops draw
    cases draw with
    | true =>
      simp only [cond_true, Option.map_eq_some_iff, Prod.mk.injEq] at h
      obtain ⟨st1, h1, rfl, rfl⟩ := h
      obtain ⟨l1, w1⟩ := hdraw h1
      exact ⟨l1, fun ρ w a Q hst hf hq => w1 hst hf hq⟩
    | false =>
      simp only [cond_false, Option.map_eq_some_iff, Prod.mk.injEq] at h
      obtain ⟨st1, h1, rfl, rfl⟩ := h
      exact ⟨seqOps_le hle h1, fun ρ w a Q hst hf hq => wp_region_list (seqOps_wp hok hle h1 hst hf hq)⟩
  · rename_i c1 c2
    split at h
    · rename_i st1 h1
      obtain ⟨l1, w1⟩ := hrec _ _ _ _ h1
      obtain ⟨l2, w2⟩ := hrec _ _ _ _ h
      refine ⟨Nat.le_trans l1 l2, fun ρ w a Q hst hf hq => wp_seq ?_⟩
      refine w1 ρ w a _ hst (hf.sub (Nat.le_refl _) l2) fun ρ' w' a' hst' hstp' => ?_
      exact w2 ρ' w' a' Q hst' (hstp'.tn.free (hf.sub l1 (Nat.le_refl _)) (.inr (Nat.le_refl _))) fun ρ2 w2 a2 h3 h4 => hq ρ2 w2 a2 h3 (hstp'.trans h4)
    · rename_i hne
      obtain ⟨l1, w1⟩ := hrec _ _ _ _ h
      refine ⟨l1, fun ρ w a Q hst hf hq => wp_seq ?_⟩
      refine w1 ρ w a _ hst hf fun ρ' w' a' hst' hstp' => ?_
      have := hq ρ' w' a' hst' hstp'
      cases x with
      | normal => exact absurd h (hne _)
      | exit id => exact this
      | ret => exact this
  · rename_i c0 c1 c2
    split at h
    · rename_i t ht
      cases t with
      | true =>
        simp only [cond_true] at h
        obtain ⟨l1, w1⟩ := hrec _ _ _ _ h
        exact ⟨l1, fun ρ w a Q hst hf hq => wp_cond_true (boolA_ok (evO_rel hst.T) ht) (w1 ρ w a Q hst hf hq)⟩
      | false =>
        simp only [cond_false] at h
        obtain ⟨l1, w1⟩ := hrec _ _ _ _ h
        exact ⟨l1, fun ρ w a Q hst hf hq => wp_cond_false (boolA_ok (evO_rel hst.T) ht) (w1 ρ w a Q hst hf hq)⟩
    · cases h
  · rename_i id c1
    split at h
    · rename_i i st1 h1
      obtain ⟨l1, w1⟩ := hrec _ _ _ _ h1
      cases hi : Nat.beq i id with
      | true =>
        rw [hi] at h
        simp only [cond_true, Option.some.injEq, Prod.mk.injEq] at h
        obtain ⟨rfl, rfl⟩ := h
        obtain rfl := Nat.eq_of_beq_eq_true hi
        refine ⟨l1, fun ρ w a Q hst hf hq => wp_block ?_⟩
        refine w1 ρ w a _ hst hf fun ρ' w' a' hst' hstp' => ?_
        simp only [AX.toExit, Exit.inBlock, if_true]
        exact hq ρ' w' a' hst' hstp'
      | false =>
        rw [hi] at h
        simp only [cond_false, Option.some.injEq, Prod.mk.injEq] at h
        obtain ⟨rfl, rfl⟩ := h
        have hne : ¬ i = id := fun e => by rw [e] at hi; simp at hi
        refine ⟨l1, fun ρ w a Q hst hf hq => wp_block ?_⟩
        refine w1 ρ w a _ hst hf fun ρ' w' a' hst' hstp' => ?_
        simp only [AX.toExit, Exit.inBlock, if_neg hne]
        exact hq ρ' w' a' hst' hstp'
    · rename_i hne
      obtain ⟨l1, w1⟩ := hrec _ _ _ _ h
      refine ⟨l1, fun ρ w a Q hst hf hq => wp_block ?_⟩
      refine w1 ρ w a _ hst hf fun ρ' w' a' hst' hstp' => ?_
      have := hq ρ' w' a' hst' hstp'
      cases x with
      | normal => exact this
      | exit id => exact absurd h (hne _ _)
      | ret => exact this
  · rename_i c1
    obtain ⟨l1, w1⟩ := loopA_ok hrec c1 _ _ _ _ h
    exact ⟨l1, fun ρ w a Q hst hf hq => wp_loop_rounds _ (w1 ρ w a Q hst hf hq)⟩
  · cases h

/-! ### Calls -/
def CallLe (call : CallF) : Prop := ∀ f xs S n av dl n', call f xs S n = some (av, dl, n') → n ≤ n'

theorem appendA_le {sc : Bool} {ev : Operand → Option AV} {t : TypeId} {s x : Operand} {av : AV} {dl : Dl} (h : appendA P sc ev S n t s x = some (av, dl, n')) : n ≤ n' := by
  unfold appendA at h
  repeat' split at h
  all_goals first
    | (cases h; done)
    | (simp only [Option.some.injEq, Prod.mk.injEq] at h; omega)
    | (rename_i m news _ _ _
       revert h
       cases (Nat.beq _ _ && Nat.ble 1 _ && loose1 sc _ && Nat.ble 1 _ && Nat.ble _ 16777216) <;> simp <;> omega)

theorem copyA_le {sc : Bool} {ev : Operand → Option AV} {t : TypeId} {d s : Operand} {av : AV} {dl : Dl} (h : copyA P sc ev S n t d s = some (av, dl, n')) : n ≤ n' := by
  unfold copyA at h
  split at h
  · split at h
    · rename_i i _
      cases hc : Nat.beq i.size 1 with
      | false => rw [hc] at h; cases h
      | true =>
        rw [hc] at h
        simp only [cond_true] at h
        split at h
        · split at h
          · rename_i k cs _ _
            revert h
            cases (Nat.ble _ k.cells.length && loose1 sc _) <;> simp <;> omega
          · cases h
        · simp only [Option.some.injEq, Prod.mk.injEq] at h; omega
        · simp only [Option.some.injEq, Prod.mk.injEq] at h; omega
        · simp only [Option.some.injEq, Prod.mk.injEq] at h; omega
        · cases h
    · cases h
  · cases h

theorem clearA_le {sc : Bool} {ev : Operand → Option AV} {t : TypeId} {x : Operand} {av : AV} {dl : Dl} (h : clearA P sc ev S n t x = some (av, dl, n')) : n ≤ n' := by
  unfold clearA at h
  split at h
  · split at h
    · split at h
      · rename_i z _
        cases hz : z.oneCell' with
        | false => rw [hz] at h; cases h
        | true =>
          rw [hz] at h
          simp only [cond_true] at h
          split at h
          · split at h
            · rename_i b off len _ _ _ k _
              cases hc : Nat.ble 1 len with
              | false => rw [hc] at h; simp only [cond_false, Option.some.injEq, Prod.mk.injEq] at h; omega
              | true =>
                rw [hc] at h
                simp only [cond_true] at h
                revert h
                cases (Nat.ble _ k.cells.length && loose1 sc _) <;> simp <;> omega
            · cases h
          · cases h
      · cases h
    · cases h
  · cases h

theorem writeOp_le {sc : Bool} {ev : Operand → Option AV} {o : Oper} {av : AV} {dl : Dl} (h : writeOp P sc ev S n o = some (av, dl, n')) : n ≤ n' := by
  unfold writeOp at h
  split at h
  · simp only [Option.map_eq_some_iff, Prod.mk.injEq] at h
    obtain ⟨_, _, _, _, rfl⟩ := h; omega
  · split at h
    · simp only [Option.some.injEq, Prod.mk.injEq] at h; omega
    · cases h
  · unfold litSliceA at h
    split at h
    · split at h
      · rename_i i z ps _ _ _
        cases hc : (Nat.beq z.length i.size && Nat.ble (_ * i.size) 16777216 && Nat.ble _ 16777216) with
        | false => rw [hc] at h; cases h
        | true =>
          rw [hc] at h
          simp only [cond_true] at h
          split at h
          · simp only [Option.some.injEq, Prod.mk.injEq] at h; omega
          · cases h
      · cases h
    · cases h
  · unfold makeA at h
    split at h
    · split at h
      · rename_i i z l c _ _ _ _
        cases hc : (Nat.beq z.length i.size && Nat.ble l c && Nat.ble (i.bytes * c) 16777216) with
        | false => rw [hc] at h; cases h
        | true => rw [hc] at h; simp only [cond_true, Option.some.injEq, Prod.mk.injEq] at h; omega
      · cases h
    · cases h
  · split at h
    · rename_i b off y _ _
      unfold storeA at h
      split at h
      · rename_i k i _ _
        cases hc : (Nat.beq i.size y.cells.length && Nat.ble (off + y.cells.length) k.cells.length && loose1 sc ((k.cells.drop off).take y.cells.length)) with
        | false => rw [hc] at h; cases h
        | true => rw [hc] at h; simp only [cond_true, Option.some.injEq, Prod.mk.injEq] at h; omega
      · cases h
    · cases h
  · split at h
    · rename_i s x t t' _ _ _
      cases hc : Nat.beq t t' with
      | false => rw [hc] at h; cases h
      | true => rw [hc] at h; exact appendA_le h
    · exact copyA_le h
    · exact clearA_le h
    · cases h
  · cases h

theorem opA_le {sc : Bool} {call : CallF} (hc : CallLe call) : OpLe (opA P sc call) := by
  intro S n n' ev o av dl h
  have still : ∀ {x : Option AV}, x.map (fun av => (av, ([] : Dl), n)) = some (av, dl, n') → n ≤ n' := by
    intro x hx
    simp only [Option.map_eq_some_iff, Prod.mk.injEq] at hx
    obtain ⟨_, _, _, _, rfl⟩ := hx; omega
  unfold opA at h
  split at h
  · split at h
    · split at h
      · rename_i r hr
        obtain rfl := Option.some.inj h
        unfold callOp at hr
        split at hr
        · split at hr
          · exact hc _ _ _ _ _ _ _ hr
          · cases hr
        · cases hr
      · exact still h
    · exact writeOp_le h
    · exact writeOp_le h
    · exact writeOp_le h
    · exact still h
  · exact writeOp_le h
  · exact writeOp_le h
  · exact writeOp_le h
  · exact writeOp_le h
  · exact writeOp_le h
  · exact still h
end
end Go.Ev
