/- Oracles for the reader: functions upon rational numbers. -/
import Derived.Test.YtcfhajnboamnnabGreatDoorXEVQ
import Derived.Test.YtcfhajnboamnnabGreatDoorYXN1
import Derived.Test.YtcfhajnboamnnabGreatDoorYXP11
namespace Go.Proofs.YtcfhajnboamnnabGreatDoor
open Go.RowKit Go.Ev
set_option linter.unusedVariables false
set_option linter.unusedSimpArgs false

abbrev OP (st : Bool) (ν : Nat → Rat) (σ : SymD) (γ : Nat → Option (List Value)) := OrcS Tryz.prog (DomQ st ν σ γ)
abbrev OQ (ν : Nat → Rat) (σ : SymD) (γ : Nat → Option (List Value)) := OP true ν σ γ

/-- What an oracle answers, without its proof. -/
abbrev Ans := List A1 → Tr Bk → Option AV

/-! ### Answers, as the reader has them -/
def avB (b : Bool) : AV := .v (.one (.lit (.bool b)))
def avI (n : Int) : AV := .v (.one (.lit (.int .i64 n)))
def zeroQA : A1 := .agg [.lit (.bool false), .lit (.slice none 0 0), .lit (.slice none 0 0)]
theorem zeroQA_rel {M : Dom} {ρ : Env} {w : World} : zeroQA.rel M ρ w ratZero := ⟨[.bool false, .slice none 0 0, .slice none 0 0], rfl, ⟨rfl, rfl⟩, ⟨rfl, rfl⟩, ⟨rfl, rfl⟩, trivial⟩
theorem avB_rel {M : Dom} {ρ : Env} {w : World} (b : Bool) : (avB b).rel M ρ w (.bool b) := ⟨rfl, rfl⟩
theorem avI_rel {M : Dom} {ρ : Env} {w : World} (n : Int) : (avI n).rel M ρ w (.int .i64 n) := ⟨rfl, rfl⟩

section
variable {st : Bool} {ν : Nat → Rat} {σ : SymD} {γ : Nat → Option (List Value)} {d : QD} (X : QX ν σ d)

/-- One number. -/
def one1 (S : Tr Bk) : List A1 → Option RE
  | [x] => match reA S x with
    | some p => bif okQ p then some p else none
    | none => none
  | _ => none
theorem one1_ok {B : Nat} {ρ : Env} {w : World} {S : Tr Bk} {args : List A1} {vs : List Value} {p : RE} (h : one1 S args = some p) (hS : SRel (DomQ st ν σ γ) B ρ w S) (hr : rel1s (DomQ st ν σ γ) ρ w args vs) :
    okQ p = true ∧ ∃ u, vs = [u] ∧ RV w u (vq ν p) := by
  unfold one1 at h
  split at h
  · rename_i x
    split at h
    · rename_i q hq
      cases hb : okQ q with
      | false => rw [hb] at h; cases h
      | true =>
        rw [hb] at h
        obtain rfl := Option.some.inj h
        match vs, hr with
        | [u], ⟨r1, _⟩ => exact ⟨hb, u, rfl, reA_ok hS hq r1⟩
    · cases h
  · cases h

/-- Two numbers. -/
def two1 (S : Tr Bk) : List A1 → Option (RE × RE)
  | [x, y] => match reA S x, reA S y with
    | some p, some q => bif okQ p && okQ q then some (p, q) else none
    | _, _ => none
  | _ => none
theorem two1_ok {B : Nat} {ρ : Env} {w : World} {S : Tr Bk} {args : List A1} {vs : List Value} {p q : RE} (h : two1 S args = some (p, q)) (hS : SRel (DomQ st ν σ γ) B ρ w S) (hr : rel1s (DomQ st ν σ γ) ρ w args vs) :
    okQ p = true ∧ okQ q = true ∧ ∃ u v, vs = [u, v] ∧ RV w u (vq ν p) ∧ RV w v (vq ν q) := by
  unfold two1 at h
  split at h
  · rename_i x y
    split at h
    · rename_i p' q' hp hq
      cases hb : okQ p' && okQ q' with
      | false => rw [hb] at h; cases h
      | true =>
        rw [hb] at h
        simp only [cond_true, Option.some.injEq, Prod.mk.injEq] at h
        obtain ⟨rfl, rfl⟩ := h
        simp only [Bool.and_eq_true] at hb
        match vs, hr with
        | [u, v], ⟨r1, r2, _⟩ => exact ⟨hb.1, hb.2, u, v, rfl, reA_ok hS hp r1, reA_ok hS hq r2⟩
    · cases h
  · cases h

def ansBin (d : QD) (k : Nat) : Ans := fun args S => match two1 S args with
    | some (p, q) => match binQ d k p q with
      | some r => some (.v (avQ r))
      | none => none
    | none => none

/-- What two constants make, what two letters make. -/
def orcBin (f : FuncId) (k : Nat) (h : ∀ {w : World} {u v : Value} {p q : Rat}, RV w u p → RV w v q → nr p ≤ 5000 → nr q ≤ 5000 →
    Calls Tryz.prog f #[u, v] w fun e w' => ∃ x, e = .returned x ∧ RV w' x (if k = 0 then p + q else if k = 1 then p - q else p * q) ∧ Fwd w w') : OQ ν σ γ where
  f := f
  ans := ansBin d k
  ok := by
    intro args S av ha B ρ w vs hS hr
    unfold ansBin at ha
    split at ha
    · rename_i p q hpq
      split at ha
      · rename_i r hb
        obtain rfl := Option.some.inj ha
        obtain ⟨op, oq, u, v, rfl, hu, hv⟩ := two1_ok hpq hS hr
        refine (h hu hv (okQ_nr X.size op) (okQ_nr X.size oq)).mono ?_
        rintro e w' ⟨x, rfl, hx, hf⟩
        rw [← binQ_ok X op oq hb] at hx
        exact ⟨x, rfl, avQ_rel hx, hf⟩
      · cases ha
    · cases ha

def ansQuo (d : QD) : Ans := fun args S => match two1 S args with
    | some (p, q) => match quoQ d p q with
      | some (some r) => some (.tup [avQ r, .one (.lit (.int .i64 0))])
      | some none => some (.tup [zeroQA, .one (.lit (.int .i64 5))])
      | none => none
    | none => none

def orcQuo (f : FuncId) (h : ∀ {w : World} {u v : Value} {p q : Rat}, RV w u p → RV w v q → nr p ≤ 5000 → nr q ≤ 5000 → q ≠ 0 →
    Calls Tryz.prog f #[u, v] w fun e w' => ∃ x, e = .returned (.tuple #[x, .int .i64 0]) ∧ RV w' x (p / q) ∧ Fwd w w')
    (h0 : ∀ {w : World} {u v : Value} {p q : Rat}, RV w u p → RV w v q → nr p ≤ 5000 → nr q ≤ 5000 → q = 0 → Calls Tryz.prog f #[u, v] w fun e w' => e = .returned (.tuple #[ratZero, .int .i64 5]) ∧ Fwd w w') : OQ ν σ γ where
  f := f
  ans := ansQuo d
  ok := by
    intro args S av ha B ρ w vs hS hr
    unfold ansQuo at ha
    split at ha
    · rename_i p q hpq
      obtain ⟨op, oq, u, v, rfl, hu, hv⟩ := two1_ok hpq hS hr
      split at ha
      · rename_i r hb
        obtain rfl := Option.some.inj ha
        obtain ⟨hne, hq⟩ := quoQ_some X op oq hb
        refine (h hu hv (okQ_nr X.size op) (okQ_nr X.size oq) hne).mono ?_
        rintro e w' ⟨x, rfl, hx, hf⟩
        rw [← hq] at hx
        exact ⟨_, rfl, ⟨[x, .int .i64 0], rfl, avQ_rel hx, ⟨rfl, rfl⟩, trivial⟩, hf⟩
      · rename_i hb
        obtain rfl := Option.some.inj ha
        refine (h0 hu hv (okQ_nr X.size op) (okQ_nr X.size oq) (quoQ_none X hb)).mono ?_
        rintro e w' ⟨rfl, hf⟩
        exact ⟨_, rfl, ⟨[ratZero, .int .i64 5], rfl, zeroQA_rel, ⟨rfl, rfl⟩, trivial⟩, hf⟩
      · cases ha
    · cases ha

def ansSame (d : QD) : Ans := fun args S => match two1 S args with
    | some (p, q) => match sameQ d p q with
      | some b => some (avB b)
      | none => match d.sameS p q with
        | some j => some (.v (.one (.atom (.sym j))))
        | none => none
    | none => none

def orcSame (f : FuncId) (h : ∀ {w : World} {u v : Value} {p q : Rat}, RV w u p → RV w v q → nr p ≤ 5000 → nr q ≤ 5000 →
    Calls Tryz.prog f #[u, v] w fun e w' => e = .returned (.bool (decide (p = q))) ∧ Fwd w w') : OP st ν σ γ where
  f := f
  ans := ansSame d
  ok := by
    intro args S av ha B ρ w vs hS hr
    unfold ansSame at ha
    split at ha
    · rename_i p q hpq
      split at ha
      · rename_i r hb
        obtain rfl := Option.some.inj ha
        obtain ⟨op, oq, u, v, rfl, hu, hv⟩ := two1_ok hpq hS hr
        refine (h hu hv (okQ_nr X.size op) (okQ_nr X.size oq)).mono ?_
        rintro e w' ⟨rfl, hf⟩
        rw [sameQ_ok X op oq hb]
        exact ⟨_, rfl, avB_rel _, hf⟩
      · split at ha
        · rename_i j hj
          obtain rfl := Option.some.inj ha
          obtain ⟨op, oq, u, v, rfl, hu, hv⟩ := two1_ok hpq hS hr
          refine (h hu hv (okQ_nr X.size op) (okQ_nr X.size oq)).mono ?_
          rintro e w' ⟨rfl, hf⟩
          obtain ⟨e1, e2⟩ := X.sameS_ok hj
          exact ⟨_, rfl, ⟨e1.symm, fun _ => e2 _⟩, hf⟩
        · cases ha
    · cases ha

def ansCmp (d : QD) : Ans := fun args S => match two1 S args with
    | some (p, q) => match cmpR d p q with
      | some b => some (avI b)
      | none => match d.cmpS p q with
        | some j => some (.v (.one (.atom (.sym j))))
        | none => none
    | none => none

def orcCmp (f : FuncId) (h : ∀ {w : World} {u v : Value} {p q : Rat}, RV w u p → RV w v q → nr p ≤ 5000 → nr q ≤ 5000 →
    Calls Tryz.prog f #[u, v] w fun e w' => e = .returned (.int .i64 (cmpQ p q)) ∧ Fwd w w') : OP st ν σ γ where
  f := f
  ans := ansCmp d
  ok := by
    intro args S av ha B ρ w vs hS hr
    unfold ansCmp at ha
    split at ha
    · rename_i p q hpq
      split at ha
      · rename_i r hb
        obtain rfl := Option.some.inj ha
        obtain ⟨op, oq, u, v, rfl, hu, hv⟩ := two1_ok hpq hS hr
        refine (h hu hv (okQ_nr X.size op) (okQ_nr X.size oq)).mono ?_
        rintro e w' ⟨rfl, hf⟩
        rw [cmpR_ok X op oq hb]
        exact ⟨_, rfl, avI_rel _, hf⟩
      · split at ha
        · rename_i j hj
          obtain rfl := Option.some.inj ha
          obtain ⟨op, oq, u, v, rfl, hu, hv⟩ := two1_ok hpq hS hr
          refine (h hu hv (okQ_nr X.size op) (okQ_nr X.size oq)).mono ?_
          rintro e w' ⟨rfl, hf⟩
          obtain ⟨e1, e2⟩ := X.cmpS_ok hj
          exact ⟨_, rfl, ⟨e1.symm, fun _ => e2 _⟩, hf⟩
        · cases ha
    · cases ha

def ansNought (d : QD) : Ans := fun args S => match one1 S args with
    | some p => match zeroQ d p with
      | some b => some (avB b)
      | none => none
    | none => none

def orcNought (f : FuncId) (h : ∀ {w : World} {u : Value} {p : Rat}, RV w u p → nr p ≤ 5000 → Calls Tryz.prog f #[u] w fun e w' => e = .returned (.bool (decide (p = 0))) ∧ Fwd w w') : OP st ν σ γ where
  f := f
  ans := ansNought d
  ok := by
    intro args S av ha B ρ w vs hS hr
    unfold ansNought at ha
    split at ha
    · rename_i p hp
      split at ha
      · rename_i r hb
        obtain rfl := Option.some.inj ha
        obtain ⟨op, u, rfl, hu⟩ := one1_ok hp hS hr
        refine (h hu (okQ_nr X.size op)).mono ?_
        rintro e w' ⟨rfl, hf⟩
        rw [zeroQ_ok X op hb]
        exact ⟨_, rfl, avB_rel _, hf⟩
      · cases ha
    · cases ha

def ansNeg (d : QD) : Ans := fun args S => match one1 S args with
    | some p => match negR d p with
      | some r => some (.v (avQ r))
      | none => none
    | none => none

def orcNeg (f : FuncId) (h : ∀ {w : World} {u : Value} {p : Rat}, RV w u p → nr p ≤ 5000 → Calls Tryz.prog f #[u] w fun e w' => ∃ x, e = .returned x ∧ RV w' x (-p) ∧ Fwd w w') : OQ ν σ γ where
  f := f
  ans := ansNeg d
  ok := by
    intro args S av ha B ρ w vs hS hr
    unfold ansNeg at ha
    split at ha
    · rename_i p hp
      split at ha
      · rename_i r hb
        obtain rfl := Option.some.inj ha
        obtain ⟨op, u, rfl, hu⟩ := one1_ok hp hS hr
        refine (h hu (okQ_nr X.size op)).mono ?_
        rintro e w' ⟨x, rfl, hx, hf⟩
        rw [← negR_ok X hb] at hx
        exact ⟨x, rfl, avQ_rel hx, hf⟩
      · cases ha
    · cases ha

def ansAbs (d : QD) : Ans := fun args S => match one1 S args with
    | some p => match absR d p with
      | some r => some (.v (avQ r))
      | none => none
    | none => none

def orcAbs (f : FuncId) (h : ∀ {w : World} {u : Value} {p : Rat}, RV w u p → nr p ≤ 5000 → Calls Tryz.prog f #[u] w fun e w' => ∃ x, e = .returned x ∧ RV w' x (absQ p) ∧ Fwd w w') : OQ ν σ γ where
  f := f
  ans := ansAbs d
  ok := by
    intro args S av ha B ρ w vs hS hr
    unfold ansAbs at ha
    split at ha
    · rename_i p hp
      split at ha
      · rename_i r hb
        obtain rfl := Option.some.inj ha
        obtain ⟨op, u, rfl, hu⟩ := one1_ok hp hS hr
        refine (h hu (okQ_nr X.size op)).mono ?_
        rintro e w' ⟨x, rfl, hx, hf⟩
        rw [← absR_ok X op hb] at hx
        exact ⟨x, rfl, avQ_rel hx, hf⟩
      · cases ha
    · cases ha

def ansCopy : Ans := fun args S => match one1 S args with
    | some p => some (.v (avQ p))
    | none => none

/-- A copy. -/
def orcCopy (f : FuncId) (h : ∀ {w : World} {u : Value} {p : Rat}, RV w u p → nr p ≤ 5000 → Calls Tryz.prog f #[u] w fun e w' => ∃ x, e = .returned x ∧ RV w' x p ∧ Fwd w w') : OQ ν σ γ where
  f := f
  ans := ansCopy
  ok := by
    intro args S av ha B ρ w vs hS hr
    unfold ansCopy at ha
    split at ha
    · rename_i p hp
      obtain rfl := Option.some.inj ha
      obtain ⟨op, u, rfl, hu⟩ := one1_ok hp hS hr
      refine (h hu (okQ_nr X.size op)).mono ?_
      rintro e w' ⟨x, rfl, hx, hf⟩
      exact ⟨x, rfl, avQ_rel hx, hf⟩
    · cases ha

/-- A whole number that is written out. -/
def intA : List A1 → Option Int
  | [.one (.lit (.int .i64 n))] => bif ltI 9223372036854775807 n || ltI n (-9223372036854775808) then none else some n
  | _ => none
def ansInt : Ans := fun args S => match intA args with
    | some n => some (.v (avQ (.c n 1)))
    | none => none
def orcInt (f : FuncId) (h : ∀ (w : World) (n : Int), -9223372036854775808 ≤ n → n ≤ 9223372036854775807 → Calls Tryz.prog f #[.int .i64 n] w fun e w' => ∃ v, e = .returned v ∧ RV w' v (n : Rat) ∧ Fwd w w') : OQ ν σ γ where
  f := f
  ans := ansInt
  ok := by
    intro args S av ha B ρ w vs hS hr
    unfold ansInt at ha
    split at ha
    · rename_i n hn
      obtain rfl := Option.some.inj ha
      unfold intA at hn
      split at hn
      · rename_i m
        cases hb : ltI 9223372036854775807 m || ltI m (-9223372036854775808) with
        | true => rw [hb] at hn; cases hn
        | false =>
          rw [hb] at hn
          obtain rfl := Option.some.inj hn
          rw [Bool.or_eq_false_iff, ltI_eq, ltI_eq, decide_eq_false_iff_not, decide_eq_false_iff_not] at hb
          match vs, hr with
          | [u], ⟨r1, _⟩ =>
            obtain ⟨rfl, _⟩ : u = _ ∧ _ := r1
            refine (h w m (by omega) (by omega)).mono ?_
            rintro e w' ⟨x, rfl, hx, hf⟩
            refine ⟨x, rfl, avQ_rel ?_, hf⟩
            show RV w' x (mkRat m 1)
            rw [Rat.mkRat_one]; exact hx
      · cases hn
    · cases ha

def ansOf : Ans := fun args S => match args with
    | [x, y] => match intA [x], intA [y] with
      | some n, some d => bif eqI d 0 then none else some (.tup [avQ (normC (bif ltI d 0 then -n else n) d.natAbs), .one (.lit (.int .i64 0))])
      | _, _ => none
    | _ => none

/-- A number made of two whole ones that are written out. -/
def orcOf (f : FuncId) (h : ∀ (w : World) (n d : Int), -9223372036854775808 ≤ n → n ≤ 9223372036854775807 → -9223372036854775808 ≤ d → d ≤ 9223372036854775807 → d ≠ 0 →
    Calls Tryz.prog f #[.int .i64 n, .int .i64 d] w fun e w' => ∃ v, e = .returned (.tuple #[v, .int .i64 0]) ∧ RV w' v (mkQ (decide (n < 0) != decide (d < 0)) n.natAbs d.natAbs) ∧ Fwd w w') : OQ ν σ γ where
  f := f
  ans := ansOf
  ok := by
    intro args S av ha B ρ w vs hS hr
    unfold ansOf at ha
    have key : ∀ {x : A1} {n : Int} {u : Value}, intA [x] = some n → x.rel (DomQ true ν σ γ) ρ w u → u = .int .i64 n ∧ -9223372036854775808 ≤ n ∧ n ≤ 9223372036854775807 := by
      intro x n u hn r1
      unfold intA at hn
      split at hn
      · rename_i m heq
        obtain ⟨rfl, _⟩ := List.cons.inj heq
        cases hb : ltI 9223372036854775807 m || ltI m (-9223372036854775808) with
        | true => rw [hb] at hn; cases hn
        | false =>
          rw [hb] at hn
          obtain rfl := Option.some.inj hn
          rw [Bool.or_eq_false_iff, ltI_eq, ltI_eq, decide_eq_false_iff_not, decide_eq_false_iff_not] at hb
          obtain ⟨rfl, _⟩ : u = _ ∧ _ := r1
          exact ⟨rfl, by omega, by omega⟩
      · cases hn
    split at ha
    · rename_i x y
      split at ha
      · rename_i n d hn hd
        cases hb : eqI d 0 with
        | true => rw [hb] at ha; cases ha
        | false =>
          rw [hb] at ha
          simp only [cond_false, Option.some.injEq] at ha
          subst ha
          rw [eqI_eq, beq_eq_false_iff_ne] at hb
          match vs, hr with
          | [u, v], ⟨r1, r2, _⟩ =>
            obtain ⟨rfl, n1, n2⟩ := key hn r1
            obtain ⟨rfl, d1, d2⟩ := key hd r2
            refine (h w n d n1 n2 d1 d2 hb).mono ?_
            rintro e w' ⟨x, rfl, hx, hf⟩
            refine ⟨_, rfl, ⟨[x, .int .i64 0], rfl, avQ_rel ?_, ⟨rfl, rfl⟩, trivial⟩, hf⟩
            rw [normC_ok ν _ _ (by omega), ltI_eq, cond_decide]
            have e : mkQ (decide (n < 0) != decide (d < 0)) n.natAbs d.natAbs = mkRat (if d < 0 then -n else n) d.natAbs := by
              unfold mkQ sgQ
              congr 1
              by_cases h1 : n < 0 <;> by_cases h2 : d < 0 <;> simp [h1, h2] <;> omega
            rw [← e]; exact hx
      · cases ha
    · cases ha

/-- A text. -/
def textC : RE → Option ByteArray
  | .c n d => some (textR (ltI n 0) (n.natAbs / Nat.gcd n.natAbs d) (d / Nat.gcd n.natAbs d))
  | _ => none
def ansText : Ans := fun args S => match one1 S args with
    | some p => match textC p with
      | some s => some (.v (.one (.lit (.string s))))
      | none => none
    | none => none
def orcText (f : FuncId) (h : ∀ {w : World} {u : Value} {p : Rat}, RV w u p → nr p ≤ 5000 → Calls Tryz.prog f #[u] w fun e w' => e = .returned (.string (textR (negQ p) p.num.natAbs p.den)) ∧ Fwd w w') : OP st ν σ γ where
  f := f
  ans := ansText
  ok := by
    intro args S av ha B ρ w vs hS hr
    unfold ansText at ha
    split at ha
    · rename_i p hp
      split at ha
      · rename_i s hs
        obtain rfl := Option.some.inj ha
        obtain ⟨op, u, rfl, hu⟩ := one1_ok hp hS hr
        refine (h hu (okQ_nr X.size op)).mono ?_
        rintro e w' ⟨rfl, hf⟩
        unfold textC at hs
        split at hs
        · rename_i n d
          obtain rfl := Option.some.inj hs
          have hd := okQ_den op
          refine ⟨_, rfl, ?_, hf⟩
          have e1 : negQ (mkRat n d) = ltI n 0 := by
            rw [negQ_lt, ltI_eq, Bool.eq_iff_iff, decide_eq_true_eq, decide_eq_true_eq]
            exact mkRat_neg_iff hd
          have e2 : (mkRat n d).num.natAbs = n.natAbs / Nat.gcd n.natAbs d := by rw [mkRat_mkQ, mkQ_abs hd]
          have e3 : (mkRat n d).den = d / Nat.gcd n.natAbs d := by rw [mkRat_mkQ, mkQ_den hd]
          show Value.string (textR (negQ (mkRat n d)) (mkRat n d).num.natAbs (mkRat n d).den) = _ ∧ _
          rw [e1, e2, e3]
          exact ⟨rfl, rfl⟩
        · cases hs
      · cases ha
    · cases ha

/-- Are a sign and two rows of limbs right? What is known as a number is. -/
def orcRight (f : FuncId) (h : ∀ {w : World} {u : Value} {s : Bool} {xs ys : List Nat}, RawA w u s xs ys → xs.length ≤ 1000 → ys.length ≤ 1000 → Calls Tryz.prog f #[u] w fun e w' => e = .returned (.bool (rightR s xs ys)) ∧ Fwd w w')
    (g : (List Nat → List Nat → Bool → Bool)) (hg : ∀ s xs ys, g xs ys s = rightR s xs ys) : OP st ν σ γ where
  f := f
  ans := fun args S => match args with
    | [x] => match rawA S x with
      | some (s, xs, ys) => bif Nat.ble xs.length 1000 && Nat.ble ys.length 1000 then some (avB (g xs ys s)) else none
      | none => none
    | _ => none
  ok := by
    intro args S av ha B ρ w vs hS hr
    split at ha
    · rename_i x
      split at ha
      · rename_i s xs ys hraw
        cases hb : Nat.ble xs.length 1000 && Nat.ble ys.length 1000 with
        | false => rw [hb] at ha; cases ha
        | true =>
          rw [hb] at ha
          obtain rfl := Option.some.inj ha
          simp only [Bool.and_eq_true] at hb
          match vs, hr with
          | [u], ⟨r1, _⟩ =>
            refine (h (rawA_ok hS hraw r1) (Nat.le_of_ble_eq_true hb.1) (Nat.le_of_ble_eq_true hb.2)).mono ?_
            rintro e w' ⟨rfl, hf⟩
            rw [hg]
            exact ⟨_, rfl, avB_rel _, hf⟩
      · cases ha
    · cases ha

def ansClone : Ans := fun args S => match args with
    | [.one (.atom (.num q))] => bif okQ q then some (.v (.one (.atom (.num q)))) else none
    | [.one (.atom (.den q))] => bif okQ q then some (.v (.one (.atom (.den q)))) else none
    | [.one c] => match natA S c with
      | some n => bif Nat.ble (Nat.log2 n) 4000 then some (.v (.one (.atom (.num (.c n 1))))) else none
      | none => none
    | _ => none

/-- A copy of a row of limbs that is a natural number. -/
def orcClone (f : FuncId) (h : ∀ {w : World} {u : Value} {n : Nat}, Num w u n → nl n ≤ 5000 → Calls Tryz.prog f #[u] w fun e w' => ∃ x, e = .returned x ∧ Num w' x n ∧ Fwd w w') : OQ ν σ γ where
  f := f
  ans := ansClone
  ok := by
    intro args S av ha B ρ w vs hS hr
    unfold ansClone at ha
    split at ha
    · rename_i q
      cases hb : okQ q with
      | false => rw [hb] at ha; cases ha
      | true =>
        rw [hb] at ha
        obtain rfl := Option.some.inj ha
        match vs, hr with
        | [u], ⟨r1, _⟩ =>
          refine (h (n := (vq ν q).num.natAbs) r1.2 (Nat.le_trans (nr_num _) (okQ_nr X.size hb))).mono ?_
          rintro e w' ⟨x, rfl, hx, hf⟩
          exact ⟨x, rfl, ⟨rfl, hx⟩, hf⟩
    · rename_i q
      cases hb : okQ q with
      | false => rw [hb] at ha; cases ha
      | true =>
        rw [hb] at ha
        obtain rfl := Option.some.inj ha
        match vs, hr with
        | [u], ⟨r1, _⟩ =>
          refine (h (n := (vq ν q).den) r1.2 (Nat.le_trans (nr_den _) (okQ_nr X.size hb))).mono ?_
          rintro e w' ⟨x, rfl, hx, hf⟩
          exact ⟨x, rfl, ⟨rfl, hx⟩, hf⟩
    · split at ha
      · rename_i n hn
        cases hb : Nat.ble (Nat.log2 n) 4000 with
        | false => rw [hb] at ha; cases ha
        | true =>
          rw [hb] at ha
          obtain rfl := Option.some.inj ha
          match vs, hr with
          | [u], ⟨r1, _⟩ =>
            have hl := nl_log (Nat.le_of_ble_eq_true hb)
            refine (h (natA_ok hS hn r1) (by omega)).mono ?_
            rintro e w' ⟨x, rfl, hx, hf⟩
            refine ⟨x, rfl, ⟨rfl, ?_⟩, hf⟩
            show Num w' x (mkRat (n : Int) 1).num.natAbs
            rw [mkRat_mkQ, mkQ_abs (by omega), Nat.gcd_one_right, Nat.div_one]
            exact hx
      · cases ha
    · cases ha

/-! ### Rows of numbers -/
def triA (S : Tr Bk) : List AC → Option (List RE)
  | [] => some []
  | a :: b :: c :: r => match reA S (.agg [a, b, c]), triA S r with
    | some p, some l => some (p :: l)
    | _, _ => none
  | _ => none
theorem triA_ok {B : Nat} {ρ : Env} {w : World} {S : Tr Bk} (hS : SRel (DomQ st ν σ γ) B ρ w S) : ∀ {cs : List AC} {us : List Value} {l : List RE}, triA S cs = some l → rels (DomQ st ν σ γ) ρ w cs us →
    us.length = l.length * 3 ∧ ∀ i, i < l.length → ∃ s x y, us[i * 3]? = some (.bool s) ∧ us[i * 3 + 1]? = some x ∧ us[i * 3 + 2]? = some y ∧ RV w (.agg #[.bool s, x, y]) (vq ν (l.getD i (.c 0 1)))
  | [], [], l, h, _ => by
    obtain rfl := Option.some.inj h
    exact ⟨rfl, fun i hi => by simp at hi⟩
  | [], _ :: _, _, _, hr => hr.elim
  | _ :: _, [], _, _, hr => hr.elim
  | [_], [_], l, h, _ => by cases h
  | [_], _ :: _ :: _, _, _, hr => hr.2.elim
  | [_, _], [_, _], l, h, _ => by cases h
  | [_, _], [_], _, _, hr => hr.2.elim
  | [_, _], _ :: _ :: _ :: _, _, _, hr => hr.2.2.elim
  | _ :: _ :: _ :: _, [_], _, _, hr => hr.2.elim
  | _ :: _ :: _ :: _, [_, _], _, _, hr => hr.2.2.elim
  | a :: b :: c :: r, u1 :: u2 :: u3 :: us, l, h, hr => by
    unfold triA at h
    split at h
    · rename_i p l' hp hl
      obtain rfl := Option.some.inj h
      obtain ⟨r1, r2, r3, r4⟩ := hr
      obtain ⟨h1, h2⟩ := triA_ok hS hl r4
      have hq : RV w (.agg #[u1, u2, u3]) (vq ν p) := reA_ok hS hp ⟨[u1, u2, u3], rfl, r1, r2, r3, trivial⟩
      refine ⟨by simp [h1]; omega, fun i hi => ?_⟩
      cases i with
      | zero =>
        obtain ⟨x, y, e, _, _⟩ := id hq
        simp only [Value.agg.injEq, Array.mk.injEq, List.cons.injEq, and_true] at e
        obtain ⟨e1, e2, e3⟩ := e
        subst e1
        exact ⟨_, u2, u3, rfl, rfl, rfl, hq⟩
      | succ i =>
        obtain ⟨s, x, y, k1, k2, k3, k4⟩ := h2 i (by simpa using hi)
        refine ⟨s, x, y, ?_, ?_, ?_, ?_⟩
        · rw [show (i + 1) * 3 = i * 3 + 1 + 1 + 1 by omega]; exact k1
        · rw [show (i + 1) * 3 + 1 = i * 3 + 1 + 1 + 1 + 1 by omega]; exact k2
        · rw [show (i + 1) * 3 + 2 = i * 3 + 2 + 1 + 1 + 1 by omega]; exact k3
        · simpa using k4
    · cases h

def rowQ (S : Tr Bk) : A1 → Option (List RE)
  | .one (.slc b off len _) => match rangeA S b off (len * 3) with
    | some cs => triA S cs
    | none => none
  | .one (.lit (.slice none 0 0)) => some []
  | _ => none
theorem rowQ_ok {B : Nat} {ρ : Env} {w : World} {S : Tr Bk} (hS : SRel (DomQ st ν σ γ) B ρ w S) {x : A1} {u : Value} {l : List RE} (h : rowQ S x = some l) (hr : x.rel (DomQ st ν σ γ) ρ w u) : RowV w u (l.map (vq ν)) := by
  unfold rowQ at h
  split at h
  · rename_i b off len c
    split at h
    · rename_i cs hcs
      obtain ⟨p, us, h1, h2, h3, h4, h5, h6⟩ := rangeA_ok hS hcs
      obtain ⟨k1, k2⟩ := triA_ok hS h h2
      obtain ⟨q, k, hq, rfl, e1, e2, _⟩ := hr
      obtain rfl := Option.some.inj (h1.symm.trans hq)
      obtain rfl : len = l.length := by omega
      refine .inr ⟨p, off, k, by simp, by simpa using e1, e2, h6, fun i hi => ?_⟩
      rw [List.length_map] at hi
      obtain ⟨s, x, y, c1, c2, c3, c4⟩ := k2 i hi
      have hg : (l.map (vq ν)).getD i 0 = vq ν (l.getD i (.c 0 1)) := by simp [hi]
      rw [hg]
      obtain ⟨x', y', e, n1, n2⟩ := c4
      simp only [Value.agg.injEq, Array.mk.injEq, List.cons.injEq, and_true, Value.bool.injEq] at e
      obtain ⟨rfl, rfl, rfl⟩ := e
      exact ⟨x, y, h5 _ _ c1, h5 _ _ c2, h5 _ _ c3, n1, n2⟩
    · cases h
  · obtain rfl := Option.some.inj h
    obtain ⟨rfl, _⟩ : u = _ ∧ _ := hr
    exact .inl ⟨rfl, rfl⟩
  · cases h

/-- Has it at most four limbs? -/
def fourQ (d : QD) : RE → Bool
  | .c n e => Nat.ble 1 e && (Nat.ble (Nat.log2 n.natAbs) 127 && Nat.ble (Nat.log2 e) 127)
  | p => d.four p
theorem nl_four {n : Nat} (h : Nat.log2 n ≤ 127) : nl n ≤ 4 := by
  rw [nl_le_iff]
  have h1 : n < 2 ^ (Nat.log2 n + 1) := Nat.lt_log2_self
  have h2 : 2 ^ (Nat.log2 n + 1) ≤ (2 : Nat) ^ 128 := Nat.pow_le_pow_right (by decide) (by omega)
  have h3 : (4294967296 : Nat) ^ 4 = (2 : Nat) ^ 128 := (Nat.pow_mul 2 32 4).symm
  rw [h3]
  exact Nat.lt_of_lt_of_le h1 h2
include X in
theorem fourQ_ok {p : RE} (h : fourQ d p = true) : nr (vq ν p) ≤ 4 := by
  unfold fourQ at h
  split at h
  · rename_i n d
    simp only [Bool.and_eq_true] at h
    have h1 := Nat.le_of_ble_eq_true h.1
    have h2 := nl_four (Nat.le_of_ble_eq_true h.2.1)
    have h3 := nl_four (Nat.le_of_ble_eq_true h.2.2)
    exact Nat.le_trans (nr_mkRat n d (by omega)) (Nat.max_le.2 ⟨h2, h3⟩)
  · exact X.four_ok h

/-- Does the number stand in the row? (All must be told.) -/
def inQ (d : QD) (q : RE) : List RE → Option Bool
  | [] => some false
  | p :: l => match sameQ d p q, inQ d q l with
    | some b, some c => some (b || c)
    | _, _ => none
def meetQ (d : QD) (ps : List RE) : List RE → Option Bool
  | [] => some false
  | q :: l => match inQ d q ps, meetQ d ps l with
    | some b, some c => some (b || c)
    | _, _ => none
include X in
theorem inQ_ok {q : RE} (hq : okQ q = true) : ∀ {ps : List RE} {b : Bool}, ps.all okQ = true → inQ d q ps = some b → ((ps.map (vq ν)).any fun p => decide (p = vq ν q)) = b
  | [], b, _, h => by obtain rfl := Option.some.inj h; rfl
  | p :: l, b, ha, h => by
    unfold inQ at h
    simp only [List.all_cons, Bool.and_eq_true] at ha
    split at h
    · rename_i x y hx hy
      obtain rfl := Option.some.inj h
      rw [List.map_cons, List.any_cons, sameQ_ok X ha.1 hq hx, inQ_ok hq ha.2 hy]
    · cases h
include X in
theorem meetQ_ok {ps : List RE} (hp : ps.all okQ = true) : ∀ {qs : List RE} {b : Bool}, qs.all okQ = true → meetQ d ps qs = some b → meetB (ps.map (vq ν)) (qs.map (vq ν)) = b
  | [], b, _, h => by obtain rfl := Option.some.inj h; rfl
  | q :: l, b, ha, h => by
    unfold meetQ at h
    simp only [List.all_cons, Bool.and_eq_true] at ha
    split at h
    · rename_i x y hx hy
      obtain rfl := Option.some.inj h
      have h1 := inQ_ok X ha.1 hp hx
      have h2 := meetQ_ok hp ha.2 hy
      unfold meetB at h2 ⊢
      rw [List.map_cons, List.any_cons, h1, h2]
    · cases h

def ansMeet (d : QD) : Ans := fun args S => match args with
    | [x, y] => match rowQ S x, rowQ S y with
      | some ps, some qs => bif (Nat.ble ps.length 1000 && Nat.ble qs.length 1000) && ((ps.all okQ && qs.all okQ) && (ps.all (fourQ d) && qs.all (fourQ d))) then
          (match meetQ d ps qs with
          | some b => some (avB b)
          | none => none) else none
      | _, _ => none
    | _ => none

def orcMeet (f : FuncId) (h : ∀ {w : World} {a b : Value} {ps qs : List Rat}, RowV w a ps → RowV w b qs → ps.length ≤ 100000 → qs.length ≤ 100000 → (∀ p ∈ ps, nr p ≤ 4) → (∀ q ∈ qs, nr q ≤ 4) →
    Calls Tryz.prog f #[a, b] w fun e w' => e = .returned (.bool (meetB ps qs)) ∧ Fwd w w') : OP st ν σ γ where
  f := f
  ans := ansMeet d
  ok := by
    intro args S av ha B ρ w vs hS hr
    unfold ansMeet at ha
    split at ha
    · rename_i x y
      split at ha
      · rename_i ps qs hp hq
        cases hb : (Nat.ble ps.length 1000 && Nat.ble qs.length 1000) && ((ps.all okQ && qs.all okQ) && (ps.all (fourQ d) && qs.all (fourQ d))) with
        | false => rw [hb] at ha; cases ha
        | true =>
          rw [hb] at ha
          simp only [cond_true] at ha
          split at ha
          · rename_i b hm
            obtain rfl := Option.some.inj ha
            simp only [Bool.and_eq_true] at hb
            obtain ⟨⟨l1, l2⟩, ⟨o1, o2⟩, f1, f2⟩ := hb
            have l1 := Nat.le_of_ble_eq_true l1
            have l2 := Nat.le_of_ble_eq_true l2
            match vs, hr with
            | [u, v], ⟨r1, r2, _⟩ =>
              have key : ∀ {l : List RE}, l.all (fourQ d) = true → ∀ p ∈ l.map (vq ν), nr p ≤ 4 := by
                intro l hl p hp
                obtain ⟨r, hr, rfl⟩ := List.mem_map.1 hp
                exact fourQ_ok X (List.all_eq_true.1 hl r hr)
              refine (h (rowQ_ok hS hp r1) (rowQ_ok hS hq r2) (by simp; omega) (by simp; omega) (key f1) (key f2)).mono ?_
              rintro e w' ⟨rfl, hf⟩
              rw [meetQ_ok X o1 o2 hm]
              exact ⟨_, rfl, avB_rel _, hf⟩
          · cases ha
      · cases ha
    · cases ha
end
end Go.Proofs.YtcfhajnboamnnabGreatDoor
