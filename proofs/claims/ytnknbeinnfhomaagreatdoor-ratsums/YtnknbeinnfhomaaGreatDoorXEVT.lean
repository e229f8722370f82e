/- More operations for the reader: an array as a slice; two hooks together. -/
import Derived.Test.YtnknbeinnfhomaaGreatDoorXEVS
namespace Go.Proofs.YtnknbeinnfhomaaGreatDoor
open Go.RowKit Go.Ev
set_option linter.unusedVariables false
set_option linter.unusedSimpArgs false

abbrev hookOr (a b : OpF) : OpF := opH a b

def arrHook (P : Program) : OpF := fun ev S n o => match o.op with
  | .slice t x none none none => match ev x, P.underlying t with
    | some (.v (.one (.ptr b off))), some (.array k e) => match P.info? e with
      | some i => bif Nat.ble k 1000000 then some (.v (.one (.slc b off k (.known k))), [], n) else none
      | none => none
    | _, _ => none
  | _ => none
theorem arrHook_le (P : Program) : OpLe (arrHook P) := by
  intro S n n' ev o av dl h
  unfold arrHook at h
  split at h
  · split at h
    · rename_i b off k e hx hte
      split at h
      · cases hb : Nat.ble k 1000000 with
        | false => rw [hb] at h; cases h
        | true =>
          rw [hb] at h
          simp only [cond_true, Option.some.injEq, Prod.mk.injEq] at h
          obtain ⟨_, _, rfl⟩ := h
          exact Nat.le_refl _
      · cases h
    · cases h
  · cases h
theorem arrHook_ok {M : Dom} {B : Nat} (P : Program) : OpOK M B P (arrHook P) := by
  intro ρ w S n n' ev a o av dl he hS hB hk hf h next Q hn
  unfold arrHook at h
  split at h
  · rename_i t x hop
    split at h
    · rename_i b off k e hx hte
      split at h
      · rename_i i hi
        cases hb : Nat.ble k 1000000 with
        | false => rw [hb] at h; cases h
        | true =>
          rw [hb] at h
          simp only [cond_true, Option.some.injEq, Prod.mk.injEq] at h
          obtain ⟨rfl, rfl, rfl⟩ := h
          have hkl := Nat.le_of_ble_eq_true hb
          obtain ⟨p, hp, hu⟩ : (AC.ptr b off : AC).rel M ρ w (a.eval x) := he _ _ hx
          have hrun : (execOp a.eval o).run P w = .ok (.value (.slice (some ⟨p, off, none⟩) k k)) w := by
            unfold execOp
            rw [hop]
            have hs := sizeOf_run hi w
            simp only [Option.map_none, hu]
            have : (Instr.sliceAt t (.pointer (some ⟨p, off, none⟩)) none none none).run P w = .ok (.slice (some ⟨p, off, none⟩) k k) w := by
              simp [Instr.sliceAt, run_underlying hte, Instr.sureAddr, Instr.sliceBounds, hs, Addr.add]
            simp [this]
          unfold Oper.wp
          rw [hrun]
          refine hn _ w ρ ⟨p, k, hp, rfl, Nat.le_refl _, by unfold maxLen; omega, rfl⟩ (Tn.refl hS n hk)
      · cases h
    · cases h
  · cases h

/-- A pointer that points is no nil. -/
def nilHook : OpF := fun ev S n o => match o.op with
  | .nilCheck x => match ev x with
    | some (.v (.one (.ptr b off))) => some (.v (.one (.ptr b off)), [], n)
    | _ => none
  | _ => none
theorem nilHook_le : OpLe nilHook := by
  intro S n n' ev o av dl h
  unfold nilHook at h
  split at h
  · split at h
    · simp only [Option.some.injEq, Prod.mk.injEq] at h
      obtain ⟨_, _, rfl⟩ := h
      exact Nat.le_refl _
    · cases h
  · cases h
theorem nilHook_ok {M : Dom} {B : Nat} (P : Program) : OpOK M B P nilHook := by
  intro ρ w S n n' ev a o av dl he hS hB hk hf h next Q hn
  unfold nilHook at h
  split at h
  · rename_i x hop
    split at h
    · rename_i b off hx
      simp only [Option.some.injEq, Prod.mk.injEq] at h
      obtain ⟨rfl, rfl, rfl⟩ := h
      have hr := he _ _ hx
      obtain ⟨p, hp, hu⟩ : (AC.ptr b off : AC).rel M ρ w (a.eval x) := hr
      have hrun : (execOp a.eval o).run P w = .ok (.value (.pointer (some ⟨p, off, none⟩))) w := by
        unfold execOp
        rw [hop]
        simp only [hu]
        rfl
      unfold Oper.wp
      rw [hrun]
      exact hn _ w ρ ⟨p, hp, rfl⟩ (Tn.refl hS n hk)
    · cases h
  · cases h

/-- All of them. -/
def allHook (P : Program) : OpF := opH (lenHook P) (opH (arrHook P) nilHook)
theorem allHook_le (P : Program) : OpLe (allHook P) := opH_le (lenHook_le P) (opH_le (arrHook_le P) nilHook_le)
theorem allHook_ok {st : Bool} {ν : Nat → Rat} {σ : SymD} {γ : Nat → Option (List Value)} {B : Nat} (P : Program) : OpOK (DomQ st ν σ γ) B P (allHook P) := opH_ok (lenHook_ok P) (opH_ok (arrHook_ok P) (nilHook_ok P))
end Go.Proofs.YtnknbeinnfhomaaGreatDoor
