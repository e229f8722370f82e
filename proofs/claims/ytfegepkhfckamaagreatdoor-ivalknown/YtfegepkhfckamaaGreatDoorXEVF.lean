/- Oracles for the reader: floats that are written out. -/
import Derived.Test.YtfegepkhfckamaaGreatDoorXEVU
import Derived.Test.YtfegepkhfckamaaGreatDoorKJ
import Derived.Test.YtfegepkhfckamaaGreatDoorXF18
import Derived.Test.YtfegepkhfckamaaGreatDoorXF23
import Derived.Test.YtfegepkhfckamaaGreatDoorXF26
namespace Go.Proofs.YtfegepkhfckamaaGreatDoor
open Go.RowKit Go.Ev
set_option linter.unusedVariables false
set_option linter.unusedSimpArgs false

/-- What stands for good: the table of rules. -/
def ruG : Nat → Option (List Value) := fun g => bif Nat.beq g 0 then some rulesL else none
theorem ruG_at : ruG 0 = some rulesL := rfl
theorem ruG_ok {w : World} (hR : Ru w) {g : Nat} {us : List Value} (hg : ruG g = some us) : g < w.heap.size ∧ ∀ j v, us[j]? = some v → w.cell? ⟨g, j, none⟩ = some v := by
  unfold ruG at hg
  rw [beq_nat, cond_decide] at hg
  split at hg
  · rename_i e
    subst e
    obtain rfl := Option.some.inj hg
    exact ⟨World.block_lt_of_cell? w _ (hR 0 _ rfl), hR⟩
  · cases hg
theorem ru_of {st : Bool} {ν : Nat → Rat} {σ : Nat → Int} {B : Nat} {ρ : Env} {w : World} {S : Tr Bk} (hS : SRel (DomQ st ν σ ruG) B ρ w S) : Ru w :=
  fun i v hv => (hS.glob (g := 0) (vs := rulesL) ruG_at).2.2 i v hv

section
variable {st : Bool} {ν : Nat → Rat} {σ : Nat → Int}

def ansF3 (g : Int → Nat → Nat → Nat × Nat) : Ans := fun args S => match args with
  | [.one (.lit (.int .u64 (.ofNat a))), .one (.lit (.int .u64 (.ofNat b))), .one (.lit (.int .i64 m))] =>
    bif Nat.ble (a + 1) 18446744073709551616 && Nat.ble (b + 1) 18446744073709551616 then
      match g m a b with
      | (x, y) => some (.tup [.one (.lit (.int .u64 (.ofNat x))), .one (.lit (.int .i64 (.ofNat y)))])
    else none
  | _ => none

/-- Of two floats and a mode. -/
def orcF3 (f : FuncId) (g : Int → Nat → Nat → Nat × Nat) (h : ∀ {w : World}, Ru w → ∀ (m : Int) (a b : Nat), a < 18446744073709551616 → b < 18446744073709551616 →
    Calls Tryz.prog f #[.int .u64 a, .int .u64 b, .int .i64 m] w fun e w' => e = .returned (.tuple #[.int .u64 ((g m a b).1 : Nat), .int .i64 ((g m a b).2 : Nat)]) ∧ Fwd w w') : OP st ν σ ruG where
  f := f
  ans := ansF3 g
  ok := by
    intro args S av ha B ρ w vs hS hr
    unfold ansF3 at ha
    split at ha
    · rename_i a b m
      cases hb : Nat.ble (a + 1) 18446744073709551616 && Nat.ble (b + 1) 18446744073709551616 with
      | false => rw [hb] at ha; cases ha
      | true =>
        rw [hb] at ha
        simp only [cond_true, Option.some.injEq] at ha
        subst ha
        simp only [Bool.and_eq_true] at hb
        match vs, hr with
        | [u, v, x], ⟨r1, r2, r3, _⟩ =>
          obtain ⟨rfl, _⟩ : u = _ ∧ _ := r1
          obtain ⟨rfl, _⟩ : v = _ ∧ _ := r2
          obtain ⟨rfl, _⟩ : x = _ ∧ _ := r3
          refine (h (ru_of hS) m a b (Nat.le_of_ble_eq_true hb.1) (Nat.le_of_ble_eq_true hb.2)).mono ?_
          rintro e w' ⟨rfl, hf⟩
          exact ⟨_, rfl, ⟨[.int .u64 ((g m a b).1 : Nat), .int .i64 ((g m a b).2 : Nat)], rfl, ⟨rfl, rfl⟩, ⟨rfl, rfl⟩, trivial⟩, hf⟩
    · cases ha

def ansC2 (g : Nat → Nat → Int × Bool) : Ans := fun args S => match args with
  | [.one (.lit (.int .u64 (.ofNat a))), .one (.lit (.int .u64 (.ofNat b)))] =>
    bif Nat.ble (a + 1) 18446744073709551616 && Nat.ble (b + 1) 18446744073709551616 then
      match g a b with
      | (x, y) => some (.tup [.one (.lit (.int .i64 x)), .one (.lit (.bool y))])
    else none
  | _ => none
def orcC2 (f : FuncId) (g : Nat → Nat → Int × Bool) (h : ∀ {w : World} (a b : Nat), a < 18446744073709551616 → b < 18446744073709551616 →
    Calls Tryz.prog f #[.int .u64 a, .int .u64 b] w fun e w' => e = .returned (.tuple #[.int .i64 (g a b).1, .bool (g a b).2]) ∧ w' = w) : OP st ν σ ruG where
  f := f
  ans := ansC2 g
  ok := by
    intro args S av ha B ρ w vs hS hr
    unfold ansC2 at ha
    split at ha
    · rename_i a b
      cases hb : Nat.ble (a + 1) 18446744073709551616 && Nat.ble (b + 1) 18446744073709551616 with
      | false => rw [hb] at ha; cases ha
      | true =>
        rw [hb] at ha
        simp only [cond_true, Option.some.injEq] at ha
        subst ha
        simp only [Bool.and_eq_true] at hb
        match vs, hr with
        | [u, v], ⟨r1, r2, _⟩ =>
          obtain ⟨rfl, _⟩ : u = _ ∧ _ := r1
          obtain ⟨rfl, _⟩ : v = _ ∧ _ := r2
          refine (h a b (Nat.le_of_ble_eq_true hb.1) (Nat.le_of_ble_eq_true hb.2)).mono ?_
          rintro e w' ⟨rfl, rfl⟩
          exact ⟨_, rfl, ⟨[.int .i64 (g a b).1, .bool (g a b).2], rfl, ⟨rfl, rfl⟩, ⟨rfl, rfl⟩, trivial⟩, Below.refl _ _⟩
    · cases ha

def ansOf (g : Int → Bool → Nat → Nat → Nat × Nat) : Ans := fun args S => match args with
  | [x, .one (.lit (.int .i64 m))] => match reA S x with
    | some (.c n d) => bif okQ (.c n d) then
        match g m (ltI n 0) (n.natAbs / Nat.gcd n.natAbs d) (d / Nat.gcd n.natAbs d) with
        | (x, y) => some (.tup [.one (.lit (.int .u64 (.ofNat x))), .one (.lit (.int .i64 (.ofNat y)))])
      else none
    | _ => none
  | _ => none
def orcOfF (f : FuncId) (g : Int → Bool → Nat → Nat → Nat × Nat) (h : ∀ {w : World} {v : Value} {s : Bool} {N D : Nat}, Ru w → ∀ m : Int, RW w v s N D → nl N ≤ 10000 → nl D ≤ 10000 → D ≠ 0 →
    Calls Tryz.prog f #[v, .int .i64 m] w fun e w' => e = .returned (.tuple #[.int .u64 ((g m s N D).1 : Nat), .int .i64 ((g m s N D).2 : Nat)]) ∧ Fwd w w') (hν : Sized ν) : OP st ν σ ruG where
  f := f
  ans := ansOf g
  ok := by
    intro args S av ha B ρ w vs hS hr
    unfold ansOf at ha
    split at ha
    · rename_i x m
      split at ha
      · rename_i n d hx
        cases hb : okQ (.c n d) with
        | false => rw [hb] at ha; cases ha
        | true =>
          rw [hb] at ha
          simp only [cond_true, Option.some.injEq] at ha
          subst ha
          match vs, hr with
          | [u, v], ⟨r1, r2, _⟩ =>
            obtain ⟨rfl, _⟩ : v = _ ∧ _ := r2
            have hq := reA_ok hS hx r1
            have hd := okQ_den hb
            have hn := okQ_nr hν hb
            have e1 : negQ (mkRat n d) = ltI n 0 := by
              rw [negQ_lt, ltI_eq, Bool.eq_iff_iff, decide_eq_true_eq, decide_eq_true_eq]
              exact mkRat_neg_iff hd
            have e2 : (mkRat n d).num.natAbs = n.natAbs / Nat.gcd n.natAbs d := by rw [mkRat_mkQ, mkQ_abs hd]
            have e3 : (mkRat n d).den = d / Nat.gcd n.natAbs d := by rw [mkRat_mkQ, mkQ_den hd]
            have hw : RW w u (negQ (mkRat n d)) (mkRat n d).num.natAbs (mkRat n d).den := hq
            refine (h (ru_of hS) m hw (Nat.le_trans (nr_num _) (Nat.le_trans hn (by omega))) (Nat.le_trans (nr_den _) (Nat.le_trans hn (by omega))) (mkRat n d).den_nz).mono ?_
            rintro e w' ⟨rfl, hf⟩
            rw [e1, e2, e3]
            exact ⟨_, rfl, ⟨[.int .u64 _, .int .i64 _], rfl, ⟨rfl, rfl⟩, ⟨rfl, rfl⟩, trivial⟩, hf⟩
      · cases ha
    · cases ha
end

variable {st : Bool} {ν : Nat → Rat} {σ : Nat → Int}

def oAddF : OP st ν σ ruG := orcF3 22 addF addF_any

def oMulF : OP st ν σ ruG := orcF3 23 mulF mulF_any

def oDivF : OP st ν σ ruG := orcF3 20 divG divG_any

def oCmpF : OP st ν σ ruG := orcC2 25 cmpF cmpF_any

def oOfF (hν : Sized ν) : OP st ν σ ruG := orcOfF 29 ofQ ofQ_any hν

end Go.Proofs.YtfegepkhfckamaaGreatDoor
