/- The oracles upon rational numbers, one by one, for the reader. -/
import Derived.Test.YtcccejhkblnonaaXEVR
namespace Go.Proofs.Ytcccejhkblnonaa
open Go.RowKit Go.Ev
set_option linter.unusedVariables false
set_option linter.unusedSimpArgs false

/-- What an oracle answers, without its proof. -/
abbrev Ans := List A1 → Tr Bk → Option AV
def orcD : List (FuncId × Ans) → CallF
  | [], _, _, _, _ => none
  | o :: r, f, args, S, n => bif Nat.beq f o.1 then
      (match o.2 args S with
      | some av => some (av, [], n)
      | none => none)
    else orcD r f args S n
theorem orcS_orcD {P : Program} {M : Dom} : ∀ l : List (OrcS P M), orcS l = orcD (l.map fun o => (o.f, o.ans))
  | [] => rfl
  | o :: r => by
    funext f args S n
    rw [List.map_cons, orcS, orcD, orcS_orcD r]
    rfl

theorem cxS_ok {P : Program} {M : Dom} {B : Nat} {t : Tr Func} (ht : TabOK P t) {D : List (FuncId × Ans)} (hD : ∃ l : List (OrcS P M), l.map (fun o => (o.f, o.ans)) = D) : CxOK M B ⟨P, M.strict, t.get, orcD D⟩ := by
  obtain ⟨l, rfl⟩ := hD
  rw [← orcS_orcD]
  exact ⟨rfl, fun h => ht h, fun f xs S n av dl n' h => Nat.le_of_eq (orcS_ok (B := B) (S := S) h).1.symm, fun h ρ w vs hS _ hk _ hvs => (orcS_ok h).2 ρ w vs hS hk hvs⟩

def ansTrue : Ans := fun args S => match args with
  | [] => some (avB true)
  | _ => none
def ansWithin (N k : Nat) : Ans := fun args S => match args with
  | [.one (.atom (.sym 0)), .one (.lit (.int .i64 (.ofNat j)))] => bif Nat.beq j N then some (avI (.ofNat k)) else none
  | _ => none

section
variable {ν : Nat → Rat} {σ : Nat → Int} (X : QX ν)

/-- A function of nothing, that answers one number. -/
def orcConst (f : FuncId) (r : RE) (h : ∀ w : World, Calls Try.prog f #[] w fun e w' => ∃ v, e = .returned v ∧ RV w' v (vq ν r) ∧ Fwd w w') : OQ ν σ where
  f := f
  ans := fun args S => match args with
    | [] => some (.v (avQ r))
    | _ => none
  ok := by
    intro args S av ha B ρ w vs hS hr
    split at ha
    · obtain rfl := Option.some.inj ha
      match vs, hr with
      | [], _ =>
        refine (h w).mono ?_
        rintro e w' ⟨x, rfl, hx, hf⟩
        exact ⟨x, rfl, avQ_rel hx, hf⟩
    · cases ha

/-- A function of nothing, that answers true. -/
def orcTrue (f : FuncId) (h : ∀ w : World, Calls Try.prog f #[] w fun e w' => e = .returned (.bool true) ∧ Below w.heap.size w w') : OQ ν σ where
  f := f
  ans := ansTrue
  ok := by
    intro args S av ha B ρ w vs hS hr
    unfold ansTrue at ha
    split at ha
    · obtain rfl := Option.some.inj ha
      match vs, hr with
      | [], _ =>
        refine (h w).mono ?_
        rintro e w' ⟨rfl, hf⟩
        exact ⟨_, rfl, avB_rel _, hf⟩
    · cases ha

/-- Which of the cases it is. -/
def orcWithin (f : FuncId) (N k : Nat) (hk : σ 0 % (N : Int) = (k : Int)) (h : ∀ w : World, Calls Try.prog f #[.int .i64 (σ 0), .int .i64 (N : Int)] w fun e w' => e = .returned (.int .i64 (σ 0 % (N : Int))) ∧ w = w') : OQ ν σ where
  f := f
  ans := ansWithin N k
  ok := by
    intro args S av ha B ρ w vs hS hr
    unfold ansWithin at ha
    split at ha
    · rename_i j
      cases hb : Nat.beq j N with
      | false => rw [hb] at ha; cases ha
      | true =>
        rw [hb] at ha
        obtain rfl := Option.some.inj ha
        obtain rfl := Nat.eq_of_beq_eq_true hb
        match vs, hr with
        | [u, v], ⟨r1, r2, _⟩ =>
          obtain rfl : u = .int .i64 (σ 0) := r1
          obtain ⟨rfl, _⟩ : v = _ ∧ _ := r2
          refine (h w).mono ?_
          rintro e w' ⟨rfl, rfl⟩
          exact ⟨_, rfl, by rw [hk]; exact avI_rel _, Below.refl _ _⟩
    · cases ha

/-- The limbs of what is known as a number. -/
theorem rv_raw {w : World} {u : Value} {q : Rat} (h : RV w u q) : RawA w u (negQ q) (lim q.num.natAbs) (lim q.den) := by
  obtain ⟨a, b, rfl, h1, h2⟩ := h
  exact ⟨a, b, rfl, h1, h2⟩
theorem rightR_self (q : Rat) : rightR (negQ q) (lim q.num.natAbs) (lim q.den) = true := by
  unfold rightR rightM
  rw [rightB_lim, rightB_lim, val_lim, val_lim]
  simp only [Bool.true_and, Bool.and_eq_true, Bool.not_eq_true', beq_eq_false_iff_ne, beq_iff_eq]
  refine ⟨q.den_nz, ?_, q.reduced⟩
  rw [Bool.and_eq_false_iff]
  by_cases h0 : q.num.natAbs = 0
  · right
    unfold negQ
    rw [decide_eq_false_iff_not]; omega
  · left; simp [h0]

def orcRight1 (f : FuncId) (h : ∀ {w : World} {u : Value} {s : Bool} {xs ys : List Nat}, RawA w u s xs ys → xs.length ≤ 1000 → ys.length ≤ 1000 → Calls Try.prog f #[u] w fun e w' => e = .returned (.bool (rightR s xs ys)) ∧ Fwd w w') : OQ ν σ where
  f := f
  ans := fun args S => match args with
    | [x] => match rawA S x with
      | some (s, xs, ys) => bif Nat.ble xs.length 1000 && Nat.ble ys.length 1000 then some (avB (rightR s xs ys)) else none
      | none => match reA S x with
        | some p => bif fourQ X p then some (avB true) else none
        | none => none
    | _ => none
  ok := by
    intro args S av ha B ρ w vs hS hr
    split at ha
    · rename_i x
      match vs, hr with
      | [u], ⟨r1, _⟩ =>
        split at ha
        · rename_i s xs ys hraw
          cases hb : Nat.ble xs.length 1000 && Nat.ble ys.length 1000 with
          | false => rw [hb] at ha; cases ha
          | true =>
            rw [hb] at ha
            obtain rfl := Option.some.inj ha
            simp only [Bool.and_eq_true] at hb
            refine (h (rawA_ok hS hraw r1) (Nat.le_of_ble_eq_true hb.1) (Nat.le_of_ble_eq_true hb.2)).mono ?_
            rintro e w' ⟨rfl, hf⟩
            exact ⟨_, rfl, avB_rel _, hf⟩
        · split at ha
          · rename_i p hp
            cases hb : fourQ X p with
            | false => rw [hb] at ha; cases ha
            | true =>
              rw [hb] at ha
              obtain rfl := Option.some.inj ha
              have h4 := fourQ_ok X hb
              have n1 : (lim (vq ν p).num.natAbs).length ≤ 4 := Nat.le_trans (nr_num _) h4
              have n2 : (lim (vq ν p).den).length ≤ 4 := Nat.le_trans (nr_den _) h4
              refine (h (rv_raw (reA_ok hS hp r1)) (by omega) (by omega)).mono ?_
              rintro e w' ⟨rfl, hf⟩
              rw [rightR_self]
              exact ⟨_, rfl, avB_rel _, hf⟩
          · cases ha
    · cases ha

def orcRefused (f : FuncId) (h : ∀ {w : World} {u : Value} {s : Bool} {xs ys : List Nat}, RawA w u s xs ys → xs.length ≤ 1000 → ys.length ≤ 1000 → Calls Try.prog f #[u] w fun e w' => e = .returned (.bool (refusedR s xs ys)) ∧ Fwd w w') : OQ ν σ where
  f := f
  ans := fun args S => match args with
    | [x] => match rawA S x with
      | some (s, xs, ys) => bif Nat.ble xs.length 1000 && Nat.ble ys.length 1000 then some (avB (Nat.ble 5 xs.length || (Nat.ble 5 ys.length || !rightR s xs ys))) else none
      | none => match reA S x with
        | some p => bif fourQ X p then some (avB false) else none
        | none => none
    | _ => none
  ok := by
    intro args S av ha B ρ w vs hS hr
    have ble : ∀ n : Nat, Nat.ble 5 n = decide (4 < n) := fun n => by rw [Bool.eq_iff_iff, Nat.ble_eq, decide_eq_true_eq]; omega
    split at ha
    · rename_i x
      match vs, hr with
      | [u], ⟨r1, _⟩ =>
        split at ha
        · rename_i s xs ys hraw
          cases hb : Nat.ble xs.length 1000 && Nat.ble ys.length 1000 with
          | false => rw [hb] at ha; cases ha
          | true =>
            rw [hb] at ha
            obtain rfl := Option.some.inj ha
            simp only [Bool.and_eq_true] at hb
            refine (h (rawA_ok hS hraw r1) (Nat.le_of_ble_eq_true hb.1) (Nat.le_of_ble_eq_true hb.2)).mono ?_
            rintro e w' ⟨rfl, hf⟩
            rw [ble, ble]
            exact ⟨_, rfl, avB_rel _, hf⟩
        · split at ha
          · rename_i p hp
            cases hb : fourQ X p with
            | false => rw [hb] at ha; cases ha
            | true =>
              rw [hb] at ha
              obtain rfl := Option.some.inj ha
              have h4 := fourQ_ok X hb
              have n1 : (lim (vq ν p).num.natAbs).length ≤ 4 := Nat.le_trans (nr_num _) h4
              have n2 : (lim (vq ν p).den).length ≤ 4 := Nat.le_trans (nr_den _) h4
              refine (h (rv_raw (reA_ok hS hp r1)) (by omega) (by omega)).mono ?_
              rintro e w' ⟨rfl, hf⟩
              have e : refusedR (negQ (vq ν p)) (lim (vq ν p).num.natAbs) (lim (vq ν p).den) = false := by
                unfold refusedR
                rw [rightR_self, decide_eq_false (by omega), decide_eq_false (by omega)]; rfl
              rw [e]
              exact ⟨_, rfl, avB_rel _, hf⟩
          · cases ha
    · cases ha
end

/-! ### One by one -/
variable {ν : Nat → Rat} {σ : Nat → Int} (X : QX ν)

def oAdd : OQ ν σ := orcBin X 44 0 fun hu hv bp bq => radd_any hu hv (by omega) (by omega)

def oSub : OQ ν σ := orcBin X 43 1 fun hu hv bp bq => rsub_any hu hv (by omega) (by omega)

def oMul : OQ ν σ := orcBin X 41 2 fun hu hv bp bq => rmul_any hu hv (by omega) (by omega)

def oQuo : OQ ν σ := orcQuo X 42 (fun hu hv bp bq h => rquo_any hu hv (by omega) (by omega) h) (fun hu hv bp bq h => rquo_nought hu hv (by omega) (by omega) h)

def oRight : OQ ν σ := orcRight1 X 38 rright_any

def oClone : OQ ν σ := orcClone X 40 fun hu hn => rclone_any hu (by omega)

def oRefused : OQ ν σ := orcRefused X 24 refused_any

def oMeet : OQ ν σ := orcMeet X 16 meet_any

def oZero2 : OQ ν σ := orcConst 45 (.c 0 1) fun w => by
  have e : vq ν (.c 0 1) = 0 := Rat.zero_mkRat _
  rw [e]; exact refZero_any w

def oInt2 : OQ ν σ := orcInt 10 int2_any

def oOf2 : OQ ν σ := orcOf 19 of2_any

def oSame2 : OQ ν σ := orcSame X 11 same2_num

def oText2 : OQ ν σ := orcText X 17 fun hu bp => text2_raw hu.rw' (Nat.le_trans (nr_num _) (Nat.le_trans bp (by omega))) (Nat.le_trans (nr_den _) (Nat.le_trans bp (by omega)))

end Go.Proofs.Ytcccejhkblnonaa
