/- The oracles upon rational numbers, one by one, for the reader. -/
/- More operations for the reader: an array as a slice; two hooks together. -/
import Derived.Test.YtcfhajnboamnnabGreatDoorXEVR
namespace Go.Proofs.YtcfhajnboamnnabGreatDoor
open Go.RowKit Go.Ev
set_option linter.unusedVariables false
set_option linter.unusedSimpArgs false

def orcD : List (FuncId × Ans) → CallF
  | [], _, _, _, _ => none
  | o :: r, f, args, S, n => bif Nat.beq f o.1 then
      (match o.2 args S with
      | some av => some (av, [], n)
      | none => none)
    else orcD r f args S n
theorem orcS_orcD {P : Program} {M : Dom} : ∀ l : List (OrcS P M), orcS l = orcD (l.map fun o => (o.f, o.ans))
  | [] => rfl
  | o :: r => by
    funext f args S n
    rw [List.map_cons, orcS, orcD, orcS_orcD r]
    rfl

theorem cxS_ok {P : Program} {M : Dom} {B : Nat} {t : Tr Func} (ht : TabOK P t) {D : List (FuncId × Ans)} (hD : ∃ l : List (OrcS P M), l.map (fun o => (o.f, o.ans)) = D) {hook : OpF} (hl : OpLe hook) (ho : OpOK M B P hook) : CxOK M B ⟨P, M.strict, t.get, orcD D, hook⟩ := by
  obtain ⟨l, rfl⟩ := hD
  rw [← orcS_orcD]
  exact ⟨rfl, fun h => ht h, fun f xs S n av dl n' h => Nat.le_of_eq (orcS_ok (B := B) (S := S) h).1.symm, fun h ρ w vs hS _ hk _ hvs => (orcS_ok h).2 ρ w vs hS hk hvs, hl, ho⟩

def ansTrue : Ans := fun args S => match args with
  | [] => some (avB true)
  | _ => none
def ansWithin (N k : Nat) : Ans := fun args S => match args with
  | [.one (.atom (.sym 0)), .one (.lit (.int .i64 (.ofNat j)))] => bif Nat.beq j N then some (avI (.ofNat k)) else none
  | _ => none

section
variable {st : Bool} {ν : Nat → Rat} {σ : SymD} {γ : Nat → Option (List Value)} {d : QD} (X : QX ν σ d)

def ansConst (r : RE) : Ans := fun args S => match args with
    | [] => some (.v (avQ r))
    | _ => none

/-- A function of nothing, that answers one number. -/
def orcConst (f : FuncId) (r : RE) (h : ∀ w : World, Calls Tryz.prog f #[] w fun e w' => ∃ v, e = .returned v ∧ RV w' v (vq ν r) ∧ Fwd w w') : OQ ν σ γ where
  f := f
  ans := ansConst r
  ok := by
    intro args S av ha B ρ w vs hS hr
    unfold ansConst at ha
    split at ha
    · obtain rfl := Option.some.inj ha
      match vs, hr with
      | [], _ =>
        refine (h w).mono ?_
        rintro e w' ⟨x, rfl, hx, hf⟩
        exact ⟨x, rfl, avQ_rel hx, hf⟩
    · cases ha

/-- A function of nothing, that answers true. -/
def orcTrue (f : FuncId) (h : ∀ {B : Nat} {ρ : Env} {w : World} {S : Tr Bk}, SRel (DomQ st ν σ γ) B ρ w S → Calls Tryz.prog f #[] w fun e w' => e = .returned (.bool true) ∧ Below w.heap.size w w') : OP st ν σ γ where
  f := f
  ans := ansTrue
  ok := by
    intro args S av ha B ρ w vs hS hr
    unfold ansTrue at ha
    split at ha
    · obtain rfl := Option.some.inj ha
      match vs, hr with
      | [], _ =>
        refine (h hS).mono ?_
        rintro e w' ⟨rfl, hf⟩
        exact ⟨_, rfl, avB_rel _, hf⟩
    · cases ha

/-- Which of the cases it is. -/
def orcWithin (f : FuncId) (N k : Nat) {a : Int} (hσ : σ.val 0 = .int .i64 a) (hk : a % (N : Int) = (k : Int)) (h : ∀ w : World, Calls Tryz.prog f #[.int .i64 a, .int .i64 (N : Int)] w fun e w' => e = .returned (.int .i64 (a % (N : Int))) ∧ w = w') : OP st ν σ γ where
  f := f
  ans := ansWithin N k
  ok := by
    intro args S av ha B ρ w vs hS hr
    unfold ansWithin at ha
    split at ha
    · rename_i j
      cases hb : Nat.beq j N with
      | false => rw [hb] at ha; cases ha
      | true =>
        rw [hb] at ha
        obtain rfl := Option.some.inj ha
        obtain rfl := Nat.eq_of_beq_eq_true hb
        match vs, hr with
        | [u, v], ⟨r1, r2, _⟩ =>
          obtain rfl : u = .int .i64 a := r1.1.trans hσ
          obtain ⟨rfl, _⟩ : v = _ ∧ _ := r2
          refine (h w).mono ?_
          rintro e w' ⟨rfl, rfl⟩
          exact ⟨_, rfl, by rw [hk]; exact avI_rel _, Below.refl _ _⟩
    · cases ha

/-- The limbs of what is known as a number. -/
theorem rv_raw {w : World} {u : Value} {q : Rat} (h : RV w u q) : RawA w u (negQ q) (lim q.num.natAbs) (lim q.den) := by
  obtain ⟨a, b, rfl, h1, h2⟩ := h
  exact ⟨a, b, rfl, h1, h2⟩
theorem rightR_self (q : Rat) : rightR (negQ q) (lim q.num.natAbs) (lim q.den) = true := by
  unfold rightR rightM
  rw [rightB_lim, rightB_lim, val_lim, val_lim]
  simp only [Bool.true_and, Bool.and_eq_true, Bool.not_eq_true', beq_eq_false_iff_ne, beq_iff_eq]
  refine ⟨q.den_nz, ?_, q.reduced⟩
  rw [Bool.and_eq_false_iff]
  by_cases h0 : q.num.natAbs = 0
  · right
    unfold negQ
    rw [decide_eq_false_iff_not]; omega
  · left; simp [h0]

def ansRight1 (d : QD) : Ans := fun args S => match args with
    | [x] => match rawA S x with
      | some (s, xs, ys) => bif Nat.ble xs.length 1000 && Nat.ble ys.length 1000 then some (avB (rightR s xs ys)) else none
      | none => match reA S x with
        | some p => bif fourQ d p then some (avB true) else none
        | none => none
    | _ => none

def orcRight1 (f : FuncId) (h : ∀ {w : World} {u : Value} {s : Bool} {xs ys : List Nat}, RawA w u s xs ys → xs.length ≤ 1000 → ys.length ≤ 1000 → Calls Tryz.prog f #[u] w fun e w' => e = .returned (.bool (rightR s xs ys)) ∧ Fwd w w') : OP st ν σ γ where
  f := f
  ans := ansRight1 d
  ok := by
    intro args S av ha B ρ w vs hS hr
    unfold ansRight1 at ha
    split at ha
    · rename_i x
      match vs, hr with
      | [u], ⟨r1, _⟩ =>
        split at ha
        · rename_i s xs ys hraw
          cases hb : Nat.ble xs.length 1000 && Nat.ble ys.length 1000 with
          | false => rw [hb] at ha; cases ha
          | true =>
            rw [hb] at ha
            obtain rfl := Option.some.inj ha
            simp only [Bool.and_eq_true] at hb
            refine (h (rawA_ok hS hraw r1) (Nat.le_of_ble_eq_true hb.1) (Nat.le_of_ble_eq_true hb.2)).mono ?_
            rintro e w' ⟨rfl, hf⟩
            exact ⟨_, rfl, avB_rel _, hf⟩
        · split at ha
          · rename_i p hp
            cases hb : fourQ d p with
            | false => rw [hb] at ha; cases ha
            | true =>
              rw [hb] at ha
              obtain rfl := Option.some.inj ha
              have h4 := fourQ_ok X hb
              have n1 : (lim (vq ν p).num.natAbs).length ≤ 4 := Nat.le_trans (nr_num _) h4
              have n2 : (lim (vq ν p).den).length ≤ 4 := Nat.le_trans (nr_den _) h4
              refine (h (rv_raw (reA_ok hS hp r1)) (by omega) (by omega)).mono ?_
              rintro e w' ⟨rfl, hf⟩
              rw [rightR_self]
              exact ⟨_, rfl, avB_rel _, hf⟩
          · cases ha
    · cases ha

def ansRefused (d : QD) : Ans := fun args S => match args with
    | [x] => match rawA S x with
      | some (s, xs, ys) => bif Nat.ble xs.length 1000 && Nat.ble ys.length 1000 then some (avB (Nat.ble 5 xs.length || (Nat.ble 5 ys.length || !rightR s xs ys))) else none
      | none => match reA S x with
        | some p => bif fourQ d p then some (avB false) else none
        | none => none
    | _ => none

def orcRefused (f : FuncId) (h : ∀ {w : World} {u : Value} {s : Bool} {xs ys : List Nat}, RawA w u s xs ys → xs.length ≤ 1000 → ys.length ≤ 1000 → Calls Tryz.prog f #[u] w fun e w' => e = .returned (.bool (refusedR s xs ys)) ∧ Fwd w w') : OP st ν σ γ where
  f := f
  ans := ansRefused d
  ok := by
    intro args S av ha B ρ w vs hS hr
    unfold ansRefused at ha
    have ble : ∀ n : Nat, Nat.ble 5 n = decide (4 < n) := fun n => by rw [Bool.eq_iff_iff, Nat.ble_eq, decide_eq_true_eq]; omega
    split at ha
    · rename_i x
      match vs, hr with
      | [u], ⟨r1, _⟩ =>
        split at ha
        · rename_i s xs ys hraw
          cases hb : Nat.ble xs.length 1000 && Nat.ble ys.length 1000 with
          | false => rw [hb] at ha; cases ha
          | true =>
            rw [hb] at ha
            obtain rfl := Option.some.inj ha
            simp only [Bool.and_eq_true] at hb
            refine (h (rawA_ok hS hraw r1) (Nat.le_of_ble_eq_true hb.1) (Nat.le_of_ble_eq_true hb.2)).mono ?_
            rintro e w' ⟨rfl, hf⟩
            rw [ble, ble]
            exact ⟨_, rfl, avB_rel _, hf⟩
        · split at ha
          · rename_i p hp
            cases hb : fourQ d p with
            | false => rw [hb] at ha; cases ha
            | true =>
              rw [hb] at ha
              obtain rfl := Option.some.inj ha
              have h4 := fourQ_ok X hb
              have n1 : (lim (vq ν p).num.natAbs).length ≤ 4 := Nat.le_trans (nr_num _) h4
              have n2 : (lim (vq ν p).den).length ≤ 4 := Nat.le_trans (nr_den _) h4
              refine (h (rv_raw (reA_ok hS hp r1)) (by omega) (by omega)).mono ?_
              rintro e w' ⟨rfl, hf⟩
              have e : refusedR (negQ (vq ν p)) (lim (vq ν p).num.natAbs) (lim (vq ν p).den) = false := by
                unfold refusedR
                rw [rightR_self, decide_eq_false (by omega), decide_eq_false (by omega)]; rfl
              rw [e]
              exact ⟨_, rfl, avB_rel _, hf⟩
          · cases ha
    · cases ha
end

/-! ### Operations upon what is known by what it says -/
def nlC (n : Nat) : Nat := bif Nat.beq n 0 then 0 else Nat.log2 n / 32 + 1
theorem nlC_eq (n : Nat) : nlC n = nl n := by
  unfold nlC
  rw [beq_nat, cond_decide]
  split
  · rename_i h; rw [h, nl_zero]
  · rename_i h
    have h32 : ∀ k : Nat, (4294967296 : Nat) ^ k = 2 ^ (32 * k) := fun k => by rw [Nat.pow_mul]
    have h1 : nl n ≤ Nat.log2 n / 32 + 1 := by
      rw [nl_le_iff, h32]
      exact Nat.lt_of_lt_of_le Nat.lt_log2_self (Nat.pow_le_pow_right (by decide) (by omega))
    have h2 : ¬ nl n ≤ Nat.log2 n / 32 := by
      rw [nl_le_iff, h32]
      have := Nat.log2_self_le h
      have := Nat.pow_le_pow_right (n := 2) (by decide) (show 32 * (Nat.log2 n / 32) ≤ Nat.log2 n by omega)
      omega
    omega

/-- How long the limbs are of what is known as a number. -/
def lenAt : At → Option Nat
  | .num (.c n d) => bif Nat.ble 1 d then some (nlC (n.natAbs / Nat.gcd n.natAbs d)) else none
  | .den (.c n d) => bif Nat.ble 1 d then some (nlC (d / Nat.gcd n.natAbs d)) else none
  | _ => none
theorem lenAt_ok {st : Bool} {ν : Nat → Rat} {σ : SymD} {w : World} {d : At} {u : Value} {k : Nat} (h : lenAt d = some k) (hr : relQ st ν σ w d u) : ∃ a c, u = .slice a k c := by
  have sl : ∀ {v : Value} {n : Nat}, Num w v n → ∃ a c, v = .slice a (nl n) c := by
    intro v n hv
    rcases hv.2 with ⟨rfl, hl⟩ | ⟨b, off, cap, rfl, _⟩
    · exact ⟨none, 0, by unfold nl; rw [hl]; rfl⟩
    · exact ⟨_, cap, rfl⟩
  unfold lenAt at h
  split at h
  · rename_i n d
    cases hb : Nat.ble 1 d with
    | false => rw [hb] at h; cases h
    | true =>
      rw [hb] at h
      obtain rfl := Option.some.inj h
      have hd := Nat.le_of_ble_eq_true hb
      have hr' : Num w u (mkRat n d).num.natAbs := hr.2
      rw [mkRat_mkQ, mkQ_abs (by omega)] at hr'
      rw [nlC_eq]; exact sl hr'
  · rename_i n d
    cases hb : Nat.ble 1 d with
    | false => rw [hb] at h; cases h
    | true =>
      rw [hb] at h
      obtain rfl := Option.some.inj h
      have hd := Nat.le_of_ble_eq_true hb
      have hr' : Num w u (mkRat n d).den := hr.2
      rw [mkRat_mkQ, mkQ_den (by omega)] at hr'
      rw [nlC_eq]; exact sl hr'
  · cases h

def lenHook (P : Program) : OpF := fun ev S n o => match o.op with
  | .call c => match c.callee, c.args.toList, c.argTypes.toList with
    | .builtin .len, [x], [t] => match ev x, P.underlying t with
      | some (.v (.one (.atom d))), some (.slice _) => match lenAt d with
        | some k => some (avI (.ofNat k), [], n)
        | none => none
      | _, _ => none
    | _, _, _ => none
  | _ => none
theorem lenHook_le (P : Program) : OpLe (lenHook P) := by
  intro S n n' ev o av dl h
  unfold lenHook at h
  repeat' split at h
  all_goals first
    | (cases h; done)
    | (simp only [Option.some.injEq, Prod.mk.injEq] at h; obtain ⟨_, _, rfl⟩ := h; exact Nat.le_refl _)
theorem lenHook_ok {st : Bool} {ν : Nat → Rat} {σ : SymD} {γ : Nat → Option (List Value)} {B : Nat} (P : Program) : OpOK (DomQ st ν σ γ) B P (lenHook P) := by
  intro ρ w S n n' ev a o av dl he hS hB hk hf h next Q hn
  unfold lenHook at h
  split at h
  · rename_i c hop
    split at h
    · rename_i x t hc ha ht
      split at h
      · rename_i d e hx hte
        split at h
        · rename_i k hd
          simp only [Option.some.injEq, Prod.mk.injEq] at h
          obtain ⟨rfl, rfl, rfl⟩ := h
          obtain ⟨ba, cp, hu⟩ := lenAt_ok (st := st) (ν := ν) (σ := σ) (w := w) hd (he _ _ hx)
          obtain ⟨callee, args, argTypes⟩ := c
          simp only at hc ha ht
          subst hc
          obtain rfl : args = #[x] := by cases args; simp at ha; simp [ha]
          obtain rfl : argTypes = #[t] := by cases argTypes; simp at ht; simp [ht]
          have hl : (Builtin.len_ #[t] o.type #[a.eval x]).run P w = .ok (.int .i64 (.ofNat k)) w := by
            rw [hu]
            simp [Builtin.len_, run_underlying hte, goInt]
          have hrun : (execOp a.eval o).run P w = .ok (.value (.int .i64 (.ofNat k))) w := by
            unfold execOp
            rw [hop]
            simp only [resolve, Sem.run_bind, Sem.run_pure, Result.andThen_ok, invoke, builtin]
            simp [hl]
          unfold Oper.wp
          rw [hrun]
          exact hn _ w ρ (avI_rel _) (Tn.refl hS n hk)
        · cases h
      · cases h
    · cases h
  · cases h

/-! ### One by one -/
variable {st : Bool} {ν : Nat → Rat} {σ : SymD} {γ : Nat → Option (List Value)} {d : QD} (X : QX ν σ d)

def oZero2 : OQ ν σ γ := orcConst 33 (.c 0 1) fun w => by
  have e : vq ν (.c 0 1) = 0 := Rat.zero_mkRat _
  rw [e]; exact refZero_any w

def oOf2 : OQ ν σ γ := orcOf 42 of2_any

def oNought2 : OP st ν σ γ := orcNought X 94 nought2_num

theorem add2_any {w : World} {a b : Value} {p q : Rat} (ha : RV w a p) (hb : RV w b q) (bp : nr p ≤ 5000) (bq : nr q ≤ 5000) :
    Calls Tryz.prog 30 #[a, b] w fun e w' => ∃ v, e = .returned v ∧ RV w' v (p + q) ∧ Fwd w w' := by
  rw [← addQ_eq]
  exact add2_raw ha.rw' (nr_le bp).1 (nr_le bp).2 hb.rw' (nr_le bq).1 (nr_le bq).2 p.den_nz q.den_nz
def oAdd2 : OQ ν σ γ := orcBin X 30 0 add2_any

theorem mul2_any {w : World} {a b : Value} {p q : Rat} (ha : RV w a p) (hb : RV w b q) (bp : nr p ≤ 5000) (bq : nr q ≤ 5000) :
    Calls Tryz.prog 32 #[a, b] w fun e w' => ∃ v, e = .returned v ∧ RV w' v (p * q) ∧ Fwd w w' := by
  rw [Q_mul]
  exact mul2_raw ha.rw' (nr_le bp).1 (nr_le bp).2 hb.rw' (nr_le bq).1 (nr_le bq).2 p.den_nz q.den_nz
def oMul2 : OQ ν σ γ := orcBin X 32 2 mul2_any

theorem quo2_any {w : World} {a b : Value} {p q : Rat} (ha : RV w a p) (hb : RV w b q) (bp : nr p ≤ 5000) (bq : nr q ≤ 5000) (hq : q ≠ 0) :
    Calls Tryz.prog 66 #[a, b] w fun e w' => ∃ v, e = .returned (.tuple #[v, .int .i64 0]) ∧ RV w' v (p / q) ∧ Fwd w w' := by
  rw [Q_div hq]
  exact quo2_raw ha.rw' (nr_le bp).1 (nr_le bp).2 hb.rw' (nr_le bq).1 (nr_le bq).2 p.den_nz (fun h => hq ((natAbs_zero_iff q).1 h))
def oQuo2 : OQ ν σ γ := orcQuo X 66 quo2_any (fun hu hv bp bq h => quo2_zero hu.rw' (nr_le bp).1 (nr_le bp).2 hv.rw' (nr_le bq).1 (nr_le bq).2 ((natAbs_zero_iff _).2 h))

end Go.Proofs.YtcfhajnboamnnabGreatDoor

namespace Go.Proofs.YtcfhajnboamnnabGreatDoor
open Go.RowKit Go.Ev
set_option linter.unusedVariables false
set_option linter.unusedSimpArgs false

abbrev hookOr (a b : OpF) : OpF := opH a b

def arrHook (P : Program) : OpF := fun ev S n o => match o.op with
  | .slice t x none none none => match ev x, P.underlying t with
    | some (.v (.one (.ptr b off))), some (.array k e) => match P.info? e with
      | some i => bif Nat.ble k 1000000 then some (.v (.one (.slc b off k (.known k))), [], n) else none
      | none => none
    | _, _ => none
  | _ => none
theorem arrHook_le (P : Program) : OpLe (arrHook P) := by
  intro S n n' ev o av dl h
  unfold arrHook at h
  split at h
  · split at h
    · rename_i b off k e hx hte
      split at h
      · cases hb : Nat.ble k 1000000 with
        | false => rw [hb] at h; cases h
        | true =>
          rw [hb] at h
          simp only [cond_true, Option.some.injEq, Prod.mk.injEq] at h
          obtain ⟨_, _, rfl⟩ := h
          exact Nat.le_refl _
      · cases h
    · cases h
  · cases h
theorem arrHook_ok {M : Dom} {B : Nat} (P : Program) : OpOK M B P (arrHook P) := by
  intro ρ w S n n' ev a o av dl he hS hB hk hf h next Q hn
  unfold arrHook at h
  split at h
  · rename_i t x hop
    split at h
    · rename_i b off k e hx hte
      split at h
      · rename_i i hi
        cases hb : Nat.ble k 1000000 with
        | false => rw [hb] at h; cases h
        | true =>
          rw [hb] at h
          simp only [cond_true, Option.some.injEq, Prod.mk.injEq] at h
          obtain ⟨rfl, rfl, rfl⟩ := h
          have hkl := Nat.le_of_ble_eq_true hb
          obtain ⟨p, hp, hu⟩ : (AC.ptr b off : AC).rel M ρ w (a.eval x) := he _ _ hx
          have hrun : (execOp a.eval o).run P w = .ok (.value (.slice (some ⟨p, off, none⟩) k k)) w := by
            unfold execOp
            rw [hop]
            have hs := sizeOf_run hi w
            simp only [Option.map_none, hu]
            have : (Instr.sliceAt t (.pointer (some ⟨p, off, none⟩)) none none none).run P w = .ok (.slice (some ⟨p, off, none⟩) k k) w := by
              simp [Instr.sliceAt, run_underlying hte, Instr.sureAddr, Instr.sliceBounds, hs, Addr.add]
            simp [this]
          unfold Oper.wp
          rw [hrun]
          refine hn _ w ρ ⟨p, k, hp, rfl, Nat.le_refl _, by unfold maxLen; omega, rfl⟩ (Tn.refl hS n hk)
      · cases h
    · cases h
  · cases h

/-- A pointer that points is no nil. -/
def nilHook : OpF := fun ev S n o => match o.op with
  | .nilCheck x => match ev x with
    | some (.v (.one (.ptr b off))) => some (.v (.one (.ptr b off)), [], n)
    | _ => none
  | _ => none
theorem nilHook_le : OpLe nilHook := by
  intro S n n' ev o av dl h
  unfold nilHook at h
  split at h
  · split at h
    · simp only [Option.some.injEq, Prod.mk.injEq] at h
      obtain ⟨_, _, rfl⟩ := h
      exact Nat.le_refl _
    · cases h
  · cases h
theorem nilHook_ok {M : Dom} {B : Nat} (P : Program) : OpOK M B P nilHook := by
  intro ρ w S n n' ev a o av dl he hS hB hk hf h next Q hn
  unfold nilHook at h
  split at h
  · rename_i x hop
    split at h
    · rename_i b off hx
      simp only [Option.some.injEq, Prod.mk.injEq] at h
      obtain ⟨rfl, rfl, rfl⟩ := h
      have hr := he _ _ hx
      obtain ⟨p, hp, hu⟩ : (AC.ptr b off : AC).rel M ρ w (a.eval x) := hr
      have hrun : (execOp a.eval o).run P w = .ok (.value (.pointer (some ⟨p, off, none⟩))) w := by
        unfold execOp
        rw [hop]
        simp only [hu]
        rfl
      unfold Oper.wp
      rw [hrun]
      exact hn _ w ρ ⟨p, hp, rfl⟩ (Tn.refl hS n hk)
    · cases h
  · cases h

/-- All of them. -/
def allHook (P : Program) : OpF := opH (lenHook P) (opH (arrHook P) nilHook)
theorem allHook_le (P : Program) : OpLe (allHook P) := opH_le (lenHook_le P) (opH_le (arrHook_le P) nilHook_le)
theorem allHook_ok {st : Bool} {ν : Nat → Rat} {σ : SymD} {γ : Nat → Option (List Value)} {B : Nat} (P : Program) : OpOK (DomQ st ν σ γ) B P (allHook P) := opH_ok (lenHook_ok P) (opH_ok (arrHook_ok P) (nilHook_ok P))
end Go.Proofs.YtcfhajnboamnnabGreatDoor
