/- A reader of closed calls: answers that are known of literals. -/
import Derived.Test.YtnknbeinnfhomaaGreatDoorXEV15
namespace Go.Ev
open Go.RowKit
set_option linter.unusedVariables false
set_option linter.unusedSimpArgs false

/-- A function whose answer at literals is told by a plain function of them; it makes memory of its own at most. -/
structure Orc (P : Program) where
  f : FuncId
  ans : List Value → Option Value
  ok : ∀ {vs v}, ans vs = some v → ∀ w : World, Calls P f vs.toArray w fun e w' => e = .returned v ∧ Below w.heap.size w w'

def orcL {P : Program} : List (Orc P) → CallF
  | [], _, _, _, _ => none
  | o :: r, f, args, S, n => bif Nat.beq f o.f then
      (match toLit1s args with
      | some vs => match o.ans vs with
        | some v => match ofValue v with
          | some av => some (av, [], n)
          | none => none
        | none => none
      | none => none)
    else orcL r f args S n

theorem orcL_ok {P : Program} {M : Dom} {B : Nat} {f : FuncId} {args : List A1} {S : Tr Bk} {n n' : Nat} {av : AV} {dl : Dl} : ∀ {l : List (Orc P)}, orcL l f args S n = some (av, dl, n') → n' = n ∧
    ∀ ρ w vs, SRel M B ρ w S → (∀ {b k}, S.get b = some k → b < n) → rel1s M ρ w args vs → Calls P f vs.toArray w fun e w' => ∃ v ρ', e = .returned v ∧ av.rel M ρ' w' v ∧ Tn M B ρ w S n ρ' w' (puts S dl) n'
  | [], h => by cases h
  | o :: r, h => by
    unfold orcL at h
    cases hb : Nat.beq f o.f with
    | false => rw [hb] at h; exact orcL_ok (l := r) h
    | true =>
      rw [hb] at h
      simp only [cond_true] at h
      obtain rfl := Nat.eq_of_beq_eq_true hb
      split at h
      · rename_i us hus
        split at h
        · rename_i v hv
          split at h
          · rename_i av' hav
            simp only [Option.some.injEq, Prod.mk.injEq] at h
            obtain ⟨rfl, rfl, rfl⟩ := h
            refine ⟨rfl, fun ρ w vs hS hk hvs => ?_⟩
            obtain rfl := toLit1s_eq hus hvs
            refine (o.ok hv w).mono ?_
            rintro e w' ⟨rfl, hw⟩
            exact ⟨v, ρ, rfl, ofValue_rel hav, tn_below hw hS hk⟩
          · cases h
        · cases h
      · cases h

theorem orcL_le {P : Program} {l : List (Orc P)} : CallLe (orcL l) := fun f xs S n av dl n' h =>
  Nat.le_of_eq (orcL_ok (M := ⟨false, fun _ _ _ => False, fun _ h => h, fun h => h.elim, fun _ => none⟩) (B := 0) h).1.symm
end Go.Ev
