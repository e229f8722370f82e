/- A reader of closed calls: what a law needs of it. -/
/- A reader of closed calls: answers that are known of literals. -/
/- The program's rational numbers: slices.Equal, shapeOf, Same. -/
/- Rational numbers: Right of numbers, both ways of telling it. -/
/- Rational numbers: Right of any struct, both ways of telling it. -/
/- The program's rational numbers: Same. -/
/- Rational numbers: the second telling's Same, Nought as numbers; differences' sizes. -/
import Derived.Test.YtcfhajnboamnnabGreatDoorXEV14
import Derived.Below
import Derived.Test.YtcfhajnboamnnabGreatDoorYXFS
import Derived.Test.YtcfhajnboamnnabGreatDoorKI
import Derived.Test.YtcfhajnboamnnabGreatDoorYXP11
namespace Go.Ev
open Go.RowKit
set_option linter.unusedVariables false
set_option linter.unusedSimpArgs false

/-- What is known of a function. -/
def FnOK (P : Program) (f : FuncId) (fn : Func) : Prop := P.funcs[f]? = some fn ∧ (fn.name == "runtime.NumGoroutine") = false ∧ fn.body.isSome = true
def TabOK (P : Program) (t : Tr Func) : Prop := ∀ {f fn}, t.get f = some fn → FnOK P f fn
theorem TabOK.e (P : Program) : TabOK P .e := fun h => by cases h
theorem TabOK.put {P : Program} {t : Tr Func} (h : TabOK P t) {f : FuncId} {fn : Func} (k : FnOK P f fn) : TabOK P (t.put f (some fn)) := by
  intro g gn hg
  rw [Tr.get_put] at hg
  split at hg
  · rename_i e
    subst e
    obtain rfl := Option.some.inj hg
    exact k
  · exact h hg

/-- A call that only makes memory of its own, and hands on a value that is known. -/
theorem tn_below {M : Dom} {B : Nat} {ρ : Env} {w w' : World} {S : Tr Bk} {n : Nat} (h : Below w.heap.size w w') (hS : SRel M B ρ w S) (hk : ∀ {b k}, S.get b = some k → b < n) : Tn M B ρ w S n ρ w' S n := by
  have hs : w.heap.size ≤ w'.heap.size := Below.size h
  have kp : Kept M.strict w w' := ⟨hs, fun _ a x ha => (Below.cell h (World.block_lt_of_cell? w a ha)).trans ha⟩
  have hf : ∀ p, p < w.heap.size → w'.heap[p]? = w.heap[p]? := fun p hp => Below.block h p hp
  refine ⟨⟨fun hb => ?_, fun hb hb' hp hp' => hS.inj hb hb' hp hp', hS.low hs fun p hp _ => hf p hp⟩, Nat.le_refl _, fun _ _ => ⟨rfl, rfl⟩, ⟨h.os, h.tape, h.output, fun p hp _ => hf p hp, kp⟩, fun hb hp => .inr ⟨_, _, hb, hp⟩, hk⟩
  obtain ⟨p, h1, h2, h3⟩ := hS.at' hb
  exact ⟨p, h1, h2, h3.mono (Env.le.refl ρ) kp (hf p h3.lt)⟩

/-- Is it just this, and nothing of elder memory turned? -/
def isTrueA : Option (AV × Dl × Nat) → Bool
  | some (.v (.one (.lit (.bool true))), _, _) => true
  | _ => false

theorem true_call {M : Dom} {cx : Cx} {w : World} {f : FuncId} {xs : List A1} {vs : List Value} {k : Nat} (hmix : cx.P.follows .mixedOrders = true) (hcx : CxOK M w.heap.size cx)
    (hg : ∀ {g us}, M.glob g = some us → g < w.heap.size ∧ ∀ j v, us[j]? = some v → w.cell? ⟨g, j, none⟩ = some v) (hx : rel1s M ⟨fun _ => none, fun _ => none⟩ w xs vs)
    (h : isTrueA (evalCall cx k f xs .e 0) = true) : Calls cx.P f vs.toArray w fun e w' => e = .returned (.bool true) ∧ Below w.heap.size w w' := by
  unfold isTrueA at h
  split at h
  · rename_i dl n' hr
    obtain ⟨_, hc⟩ := evalCall_ok hmix hcx k _ _ _ _ _ _ _ hr
    refine (hc ⟨fun _ => none, fun _ => none⟩ w vs ⟨fun hb => (by cases hb), fun hb => (by cases hb), fun h => ⟨(hg h).1, (hg h).1, (hg h).2⟩⟩ (Nat.le_refl _) (fun hb => (by cases hb)) (fun b _ _ => ⟨rfl, rfl⟩) hx).mono ?_
    rintro e w' ⟨v, ρ', rfl, hv, hT⟩
    obtain ⟨rfl, _⟩ : v = .bool true ∧ _ := hv
    exact ⟨rfl, ⟨hT.fr.os, hT.fr.tape, hT.fr.output, hT.fr.kept.size, fun p hp => hT.fr.far p hp fun b k hb => by cases hb⟩⟩
  · cases h
end Go.Ev

namespace Go.Ev
open Go.RowKit
set_option linter.unusedVariables false
set_option linter.unusedSimpArgs false

/-- A function whose answer at literals is told by a plain function of them; it makes memory of its own at most. -/
structure Orc (P : Program) where
  f : FuncId
  ans : List Value → Option Value
  ok : ∀ {vs v}, ans vs = some v → ∀ w : World, Calls P f vs.toArray w fun e w' => e = .returned v ∧ Below w.heap.size w w'

def orcL {P : Program} : List (Orc P) → CallF
  | [], _, _, _, _ => none
  | o :: r, f, args, S, n => bif Nat.beq f o.f then
      (match toLit1s args with
      | some vs => match o.ans vs with
        | some v => match ofValue v with
          | some av => some (av, [], n)
          | none => none
        | none => none
      | none => none)
    else orcL r f args S n

theorem orcL_ok {P : Program} {M : Dom} {B : Nat} {f : FuncId} {args : List A1} {S : Tr Bk} {n n' : Nat} {av : AV} {dl : Dl} : ∀ {l : List (Orc P)}, orcL l f args S n = some (av, dl, n') → n' = n ∧
    ∀ ρ w vs, SRel M B ρ w S → (∀ {b k}, S.get b = some k → b < n) → rel1s M ρ w args vs → Calls P f vs.toArray w fun e w' => ∃ v ρ', e = .returned v ∧ av.rel M ρ' w' v ∧ Tn M B ρ w S n ρ' w' (puts S dl) n'
  | [], h => by cases h
  | o :: r, h => by
    unfold orcL at h
    cases hb : Nat.beq f o.f with
    | false => rw [hb] at h; exact orcL_ok (l := r) h
    | true =>
      rw [hb] at h
      simp only [cond_true] at h
      obtain rfl := Nat.eq_of_beq_eq_true hb
      split at h
      · rename_i us hus
        split at h
        · rename_i v hv
          split at h
          · rename_i av' hav
            simp only [Option.some.injEq, Prod.mk.injEq] at h
            obtain ⟨rfl, rfl, rfl⟩ := h
            refine ⟨rfl, fun ρ w vs hS hk hvs => ?_⟩
            obtain rfl := toLit1s_eq hus hvs
            refine (o.ok hv w).mono ?_
            rintro e w' ⟨rfl, hw⟩
            exact ⟨v, ρ, rfl, ofValue_rel hav, tn_below hw hS hk⟩
          · cases h
        · cases h
      · cases h

theorem orcL_le {P : Program} {l : List (Orc P)} : CallLe (orcL l) := fun f xs S n av dl n' h =>
  Nat.le_of_eq (orcL_ok (M := ⟨false, fun _ _ _ => False, fun _ h => h, fun h => h.elim, fun _ => none⟩) (B := 0) h).1.symm
end Go.Ev

namespace Go.Proofs.YtcfhajnboamnnabGreatDoor
open Go.RowKit
set_option linter.unusedVariables false

theorem take_more {xs ys : List Nat} {k : Nat} (h : xs.take k = ys.take k) (h1 : k < xs.length) (h2 : k < ys.length) (he : xs.getD k 0 = ys.getD k 0) : xs.take (k + 1) = ys.take (k + 1) := by
  rw [List.take_succ_eq_append_getElem h1, List.take_succ_eq_append_getElem h2, h]
  simp [List.getD_eq_getElem?_getD, h1, h2] at he
  rw [he]

end Go.Proofs.YtcfhajnboamnnabGreatDoor

namespace Go.Proofs.YtcfhajnboamnnabGreatDoor
open Go.RowKit
set_option linter.unusedVariables false
set_option linter.unusedSimpArgs false

theorem right_parts (q : Rat) : q.den ≠ 0 ∧ (q.num.natAbs = 0 → negQ q = false) ∧ Nat.gcd q.num.natAbs q.den = 1 := by
  refine ⟨q.den_nz, fun h => ?_, q.reduced⟩
  unfold negQ
  simp only [decide_eq_false_iff_not]
  omega

end Go.Proofs.YtcfhajnboamnnabGreatDoor

namespace Go.Proofs.YtcfhajnboamnnabGreatDoor
open Go.RowKit
set_option linter.unusedVariables false
set_option linter.unusedSimpArgs false

/-- Is a sign, a size, a denominator a right number? -/
def rightM (s : Bool) (m d : Nat) : Bool := !(d == 0) && (!(m == 0 && s) && Nat.gcd m d == 1)
/-- Are a sign and two rows of limbs? -/
def rightR (s : Bool) (xs ys : List Nat) : Bool := rightB xs && (rightB ys && rightM s (val xs) (val ys))
theorem rightB_lim' {xs : List Nat} (h : Ok xs) (hr : rightB xs = true) : xs = lim (val xs) := by
  refine (lim_val h ?_).symm
  unfold rightB at hr
  unfold Norm
  intro e
  rw [List.getLast?_eq_getElem?] at e
  have hl : xs.length ≠ 0 := by
    intro h0
    have : xs = [] := List.eq_nil_of_length_eq_zero h0
    subst this
    simp at e
  rw [List.getD_eq_getElem?_getD, e] at hr
  simp at hr
  exact hl (by simp [hr])
theorem Rd.num {w : World} {v : Value} {xs : List Nat} (h : Rd w v xs) (hr : rightB xs = true) : Num w v (val xs) := by
  unfold Num
  rw [← rightB_lim' h.ok hr]
  exact h

end Go.Proofs.YtcfhajnboamnnabGreatDoor

namespace Go.Proofs.YtcfhajnboamnnabGreatDoor
open Go.RowKit
set_option linter.unusedVariables false
set_option linter.unusedSimpArgs false

theorem same_parts (p q : Rat) : (negQ p == negQ q && p.num.natAbs == q.num.natAbs && p.den == q.den) = decide (p = q) := by
  rw [Bool.eq_iff_iff]
  simp only [Bool.and_eq_true, beq_iff_eq, decide_eq_true_eq]
  constructor
  · rintro ⟨⟨h1, h2⟩, h3⟩
    rw [← mkQ_self p, ← mkQ_self q, h1, h2, h3]
  · rintro rfl
    exact ⟨⟨rfl, rfl⟩, rfl⟩

end Go.Proofs.YtcfhajnboamnnabGreatDoor

namespace Go.Proofs.YtcfhajnboamnnabGreatDoor
open Go.RowKit
set_option linter.unusedVariables false

theorem nr_sub (a b : Rat) : nr (a - b) ≤ nr a + nr b + 1 := by
  rw [Rat.sub_eq_add_neg]
  have := nr_add a (-b)
  rw [nr_neg] at this
  exact this

theorem nought2_num {w : World} {a : Value} {p : Rat} (ha : RV w a p) (bp : nr p ≤ 5000) :
    Calls Tryz.prog 94 #[a] w fun e w' => e = .returned (.bool (decide (p = 0))) ∧ Fwd w w' := by
  have h : (p.num.natAbs == 0) = decide (p = 0) := by
    rw [Bool.eq_iff_iff]
    simp only [beq_iff_eq, decide_eq_true_eq]
    exact natAbs_zero_iff p
  rw [← h]
  exact nought2_any ha.rw' (nr_le bp).1 (nr_le bp).2

end Go.Proofs.YtcfhajnboamnnabGreatDoor
