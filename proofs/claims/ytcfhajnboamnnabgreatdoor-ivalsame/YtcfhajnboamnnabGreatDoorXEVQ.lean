/- Rational numbers as what the reader knows by what they say: constants and letters; answers of functions upon them. -/
import Derived.Test.YtcfhajnboamnnabGreatDoorYXEV15
import Derived.Test.YtcfhajnboamnnabGreatDoorYXFS
namespace Go.Proofs.YtcfhajnboamnnabGreatDoor
open Go.RowKit Go.Ev
set_option linter.unusedVariables false
set_option linter.unusedSimpArgs false

/-- What is stood for. -/
def vq (ν : Nat → Rat) : RE → Rat
  | .c n d => mkRat n d
  | .v i => ν i
  | _ => 0

/-- May it be asked: small enough? -/
def okQ : RE → Bool
  | .c n d => Nat.ble 1 d && (Nat.ble (Nat.log2 n.natAbs) 4000 && Nat.ble (Nat.log2 d) 4000)
  | .v _ => true
  | _ => false

def reB : RE → RE → Bool
  | .c n d, .c m e => eqI n m && Nat.beq d e
  | .v i, .v j => Nat.beq i j
  | _, _ => false
theorem reB_ok {p q : RE} (h : reB p q = true) : p = q := by
  unfold reB at h
  split at h
  · simp only [Bool.and_eq_true] at h
    rw [eqI_eq] at h
    obtain ⟨h1, h2⟩ := h
    rw [beq_iff_eq] at h1
    rw [h1, Nat.eq_of_beq_eq_true h2]
  · rw [Nat.eq_of_beq_eq_true h]
  · cases h

/-- No number is greater than this. -/
structure Sized (ν : Nat → Rat) : Prop where
  le : ∀ i, nr (ν i) ≤ 5000

set_option exponentiation.threshold 5000 in
theorem nl_log {n : Nat} (h : Nat.log2 n ≤ 4000) : nl n ≤ 126 := by
  rw [nl_le_iff]
  have h1 : n < 2 ^ (Nat.log2 n + 1) := Nat.lt_log2_self
  have h2 : 2 ^ (Nat.log2 n + 1) ≤ (2 : Nat) ^ 4032 := Nat.pow_le_pow_right (by decide) (by omega)
  have h3 : (4294967296 : Nat) ^ 126 = (2 : Nat) ^ 4032 := (Nat.pow_mul 2 32 126).symm
  rw [h3]
  exact Nat.lt_of_lt_of_le h1 h2

theorem nr_mkRat (n : Int) (d : Nat) (hd : d ≠ 0) : nr (mkRat n d) ≤ max (nl n.natAbs) (nl d) := by
  have e : mkRat n d = mkQ (decide (n < 0)) n.natAbs d := by
    unfold mkQ sgQ
    congr 1
    by_cases h : n < 0
    · rw [decide_eq_true h]; simp; omega
    · rw [decide_eq_false h]; simp; omega
  rw [e]
  exact nr_mkQ _ _ _ hd

theorem okQ_nr {ν : Nat → Rat} (hν : Sized ν) {p : RE} (h : okQ p = true) : nr (vq ν p) ≤ 5000 := by
  unfold okQ at h
  split at h
  · rename_i n d
    simp only [Bool.and_eq_true] at h
    have h1 := Nat.le_of_ble_eq_true h.1
    have h2 := nl_log (Nat.le_of_ble_eq_true h.2.1)
    have h3 := nl_log (Nat.le_of_ble_eq_true h.2.2)
    have := nr_mkRat n d (by omega)
    unfold vq
    exact Nat.le_trans this (Nat.le_trans (Nat.max_le.2 ⟨h2, h3⟩) (by omega))
  · exact hν.le _
  · cases h

theorem okQ_den {n : Int} {d : Nat} (h : okQ (.c n d) = true) : d ≠ 0 := by
  unfold okQ at h
  simp only [Bool.and_eq_true] at h
  have := Nat.le_of_ble_eq_true h.1
  omega

/-! ### What they are in memory -/
/-- What other letters stand for, and what is known of memory by them. -/
structure SymD where
  val : Nat → Value
  fact : Nat → World → Prop
  keep : ∀ {w w' : World} {i : Nat}, Kept true w w' → fact i w → fact i w'
  cell : ∀ i, (val i).oneCell' = true ∧ ∀ x, val i ≠ .int .u32 x
/-- Whole numbers alone. -/
def symI (f : Nat → Int) : SymD := ⟨fun i => .int .i64 (f i), fun _ _ => True, fun _ h => h, fun i => ⟨rfl, by simp⟩⟩

def relQ (st : Bool) (ν : Nat → Rat) (σ : SymD) (w : World) : At → Value → Prop
  | .neg q, u => st = true ∧ u = .bool (negQ (vq ν q))
  | .num q, u => st = true ∧ Num w u (vq ν q).num.natAbs
  | .den q, u => st = true ∧ Num w u (vq ν q).den
  | .sym i, u => u = σ.val i ∧ (st = true → σ.fact i w)
  | .emp, u => ∃ a c, u = .slice (some a) 0 c ∧ c ≤ maxLen

theorem num_kept {w w' : World} {v : Value} {n : Nat} (h : Num w v n) (k : Kept true w w') : Num w' v n := by
  refine ⟨h.1, ?_⟩
  rcases h.2 with h | ⟨b, off, cap, hv, h1, h2, h3, h4⟩
  · exact .inl h
  · exact .inr ⟨b, off, cap, hv, h1, h2, fun i hi => k.cell rfl _ _ (h3 i hi), Nat.lt_of_lt_of_le h4 k.size⟩

theorem num_cell {w : World} {v : Value} {n : Nat} (h : Num w v n) : v.oneCell' = true ∧ ∀ x, v ≠ .int .u32 x := by
  rcases h.2 with ⟨rfl, _⟩ | ⟨b, off, cap, rfl, _⟩
  · exact ⟨rfl, by simp⟩
  · exact ⟨rfl, by simp⟩

def DomQ (st : Bool) (ν : Nat → Rat) (σ : SymD) (γ : Nat → Option (List Value)) : Dom where
  strict := st
  rel := relQ st ν σ
  keep := by
    intro w w' d u k h
    cases d with
    | sym i => exact ⟨h.1, fun hs => by subst hs; exact σ.keep k (h.2 rfl)⟩
    | neg q => exact h
    | num q => obtain ⟨rfl, h⟩ := h; exact ⟨rfl, num_kept h k⟩
    | den q => obtain ⟨rfl, h⟩ := h; exact ⟨rfl, num_kept h k⟩
    | emp => exact h
  cell := by
    intro w d u h
    cases d with
    | sym i => obtain ⟨rfl, _⟩ : u = _ ∧ _ := h; exact σ.cell i
    | neg q => obtain ⟨_, rfl⟩ : _ ∧ u = _ := h; exact ⟨rfl, by simp⟩
    | num q => exact num_cell h.2
    | den q => exact num_cell h.2
    | emp => obtain ⟨a, c, rfl, _⟩ : ∃ a c, u = .slice (some a) 0 c ∧ c ≤ maxLen := h; exact ⟨rfl, by simp⟩
  glob := γ

/-- A number, as the reader has it. -/
def avQ (r : RE) : A1 := .agg [.atom (.neg r), .atom (.num r), .atom (.den r)]

theorem avQ_rel {ν : Nat → Rat} {σ : SymD} {γ : Nat → Option (List Value)} {ρ : Env} {w : World} {u : Value} {r : RE} (h : RV w u (vq ν r)) : (avQ r).rel (DomQ true ν σ γ) ρ w u := by
  obtain ⟨a, b, rfl, h1, h2⟩ := h
  exact ⟨[.bool (negQ (vq ν r)), a, b], rfl, ⟨rfl, rfl⟩, ⟨rfl, h1⟩, ⟨rfl, h2⟩, trivial⟩

/-! ### Reading them -/
def limbsA : List AC → Option (List Nat)
  | [] => some []
  | .lit (.int .u32 (.ofNat m)) :: r => match limbsA r with
    | some l => bif Nat.ble (m + 1) 4294967296 then some (m :: l) else none
    | none => none
  | _ => none

theorem limbsA_ok {M : Dom} {ρ : Env} {w : World} : ∀ {cs : List AC} {us : List Value} {xs : List Nat}, limbsA cs = some xs → rels M ρ w cs us → us = cellsOf xs ∧ Ok xs
  | [], [], xs, h, _ => by
    obtain rfl := Option.some.inj h
    exact ⟨rfl, Ok.nil⟩
  | [], _ :: _, _, _, hr => hr.elim
  | c :: cs, [], _, _, hr => hr.elim
  | c :: cs, u :: us, xs, h, hr => by
    unfold limbsA at h
    split at h
    · rename_i heq
      cases heq
    · rename_i m r heq
      obtain ⟨rfl, rfl⟩ := List.cons.inj heq
      split at h
      · rename_i l hl
        cases hb : Nat.ble (m + 1) 4294967296 with
        | false => rw [hb] at h; cases h
        | true =>
          rw [hb] at h
          obtain rfl := Option.some.inj h
          obtain ⟨h1, h2⟩ := limbsA_ok hl hr.2
          obtain ⟨rfl, _⟩ : u = _ ∧ _ := hr.1
          subst h1
          have := Nat.le_of_ble_eq_true hb
          exact ⟨rfl, fun x hx => by
            rcases List.mem_cons.1 hx with rfl | hx
            · omega
            · exact h2 x hx⟩
      · cases h
    · cases h

def rdA (S : Tr Bk) : AC → Option (List Nat)
  | .lit (.slice none 0 0) => some []
  | .slc b off len _ => match rangeA S b off len with
    | some cs => limbsA cs
    | none => none
  | _ => none

theorem rangeA_ok {M : Dom} {B : Nat} {ρ : Env} {w : World} {S : Tr Bk} (hS : SRel M B ρ w S) {b off len : Nat} {cs : List AC} (h : rangeA S b off len = some cs) :
    ∃ p us, ρ.loc b = some p ∧ rels M ρ w cs us ∧ us.length = len ∧ cs.length = len ∧ w.rangeAt p off us ∧ p < w.heap.size := by
  unfold rangeA at h
  split at h
  · rename_i k hk
    cases hb : Nat.ble (off + len) k.cells.length with
    | false => rw [hb] at h; cases h
    | true =>
      rw [hb] at h
      obtain rfl := Option.some.inj h
      have hl := Nat.le_of_ble_eq_true hb
      obtain ⟨p, us, h1, h2, h3, h4⟩ := hS.range hk hl
      obtain ⟨q, hq, _, hr⟩ := hS.at' hk
      obtain rfl := Option.some.inj (h1.symm.trans hq)
      exact ⟨p, us, h1, h2, h3, by simp; omega, h4, hr.lt⟩
  · cases h

theorem rdA_ok {M : Dom} {B : Nat} {ρ : Env} {w : World} {S : Tr Bk} (hS : SRel M B ρ w S) {c : AC} {u : Value} {xs : List Nat} (h : rdA S c = some xs) (hr : c.rel M ρ w u) : Rd w u xs := by
  unfold rdA at h
  split at h
  · obtain rfl := Option.some.inj h
    obtain ⟨rfl, _⟩ : u = _ ∧ _ := hr
    exact Rd.nil w
  · rename_i b off len cp
    split at h
    · rename_i cs hcs
      obtain ⟨p, us, h1, h2, h3, h4, h5, h6⟩ := rangeA_ok hS hcs
      obtain ⟨rfl, hok⟩ := limbsA_ok h h2
      obtain ⟨q, k, hq, rfl, hk1, hk2, _⟩ := hr
      obtain rfl := Option.some.inj (h1.symm.trans hq)
      have hlen : xs.length = len := by simpa [cellsOf] using h3
      subst hlen
      refine ⟨hok, .inr ⟨p, off, k, rfl, hk1, hk2, fun i hi => ?_, h6⟩⟩
      have := h5 i (.int .u32 ((xs.getD i 0 : Nat) : Int)) (by simp [cellsOf, hi])
      exact this
    · cases h
  · cases h

def sgnI (s : Bool) (n : Nat) : Int := bif s then Int.negOfNat n else .ofNat n
theorem sgnI_eq (s : Bool) (n : Nat) : sgnI s n = sgQ s n := by
  cases s
  · rfl
  · simp only [sgnI, sgQ, cond_true, if_true, Int.negOfNat_eq]; rfl

/-- A sign and two rows of limbs. -/
def rawA (S : Tr Bk) : A1 → Option (Bool × List Nat × List Nat)
  | .agg [.lit (.bool s), a, b] => match rdA S a, rdA S b with
    | some xs, some ys => some (s, xs, ys)
    | _, _ => none
  | _ => none

theorem rawA_ok {M : Dom} {B : Nat} {ρ : Env} {w : World} {S : Tr Bk} (hS : SRel M B ρ w S) {x : A1} {u : Value} {s : Bool} {xs ys : List Nat} (h : rawA S x = some (s, xs, ys)) (hr : x.rel M ρ w u) : RawA w u s xs ys := by
  unfold rawA at h
  split at h
  · rename_i t a b
    split at h
    · rename_i xs' ys' h1 h2
      simp only [Option.some.injEq, Prod.mk.injEq] at h
      obtain ⟨rfl, rfl, rfl⟩ := h
      obtain ⟨us, rfl, hu⟩ := hr
      match us, hu with
      | [c1, c2, c3], ⟨r1, r2, r3, _⟩ =>
        obtain ⟨rfl, _⟩ : c1 = _ ∧ _ := r1
        exact ⟨c2, c3, rfl, rdA_ok hS h1 r2, rdA_ok hS h2 r3⟩
    · cases h
  · cases h

theorem mkRat_mkQ (n : Int) (d : Nat) : mkRat n d = mkQ (decide (n < 0)) n.natAbs d := by
  unfold mkQ sgQ
  congr 1
  by_cases h : n < 0
  · rw [decide_eq_true h]; simp; omega
  · rw [decide_eq_false h]; simp; omega

/-- A natural number: limbs that are written out, or a part of a constant. -/
def natA (S : Tr Bk) : AC → Option Nat
  | .atom (.num (.c n d)) => bif Nat.ble 1 d then some (n.natAbs / Nat.gcd n.natAbs d) else none
  | .atom (.den (.c n d)) => bif Nat.ble 1 d then some (d / Nat.gcd n.natAbs d) else none
  | c => match rdA S c with
    | some xs => bif rightB xs then some (val xs) else none
    | none => none

theorem natA_ok {st : Bool} {ν : Nat → Rat} {σ : SymD} {γ : Nat → Option (List Value)} {B : Nat} {ρ : Env} {w : World} {S : Tr Bk} (hS : SRel (DomQ st ν σ γ) B ρ w S) {c : AC} {u : Value} {n : Nat} (h : natA S c = some n) (hr : c.rel (DomQ st ν σ γ) ρ w u) : Num w u n := by
  unfold natA at h
  split at h
  · rename_i m d
    cases hb : Nat.ble 1 d with
    | false => rw [hb] at h; cases h
    | true =>
      rw [hb] at h
      obtain rfl := Option.some.inj h
      have hd := Nat.le_of_ble_eq_true hb
      have hr' : Num w u (mkRat m d).num.natAbs := hr.2
      rw [mkRat_mkQ, mkQ_abs (by omega)] at hr'
      exact hr'
  · rename_i m d
    cases hb : Nat.ble 1 d with
    | false => rw [hb] at h; cases h
    | true =>
      rw [hb] at h
      obtain rfl := Option.some.inj h
      have hd := Nat.le_of_ble_eq_true hb
      have hr' : Num w u (mkRat m d).den := hr.2
      rw [mkRat_mkQ, mkQ_den (by omega)] at hr'
      exact hr'
  · split at h
    · rename_i xs hxs
      cases hb : rightB xs with
      | false => rw [hb] at h; cases h
      | true =>
        rw [hb] at h
        obtain rfl := Option.some.inj h
        have h1 := rdA_ok hS hxs hr
        rw [rightB_lim' h1.1 hb] at h1
        exact h1
    · cases h

def signA : AC → Option Bool
  | .lit (.bool s) => some s
  | .atom (.neg (.c n d)) => bif Nat.ble 1 d then some (ltI n 0) else none
  | _ => none

theorem mkRat_neg_iff {n : Int} {d : Nat} (hd : d ≠ 0) : mkRat n d < 0 ↔ n < 0 := by
  by_cases h0 : n = 0
  · subst h0; rw [Rat.zero_mkRat]; simp
  · have h := negQ_lt (mkRat n d)
    rw [mkRat_mkQ, mkQ_neg hd (by omega)] at h
    rw [mkRat_mkQ]
    have := congrArg (· = true) h
    simp only [decide_eq_true_eq] at this
    rw [← this]

theorem signA_ok {st : Bool} {ν : Nat → Rat} {σ : SymD} {γ : Nat → Option (List Value)} {ρ : Env} {w : World} {c : AC} {u : Value} {s : Bool} (h : signA c = some s) (hr : c.rel (DomQ st ν σ γ) ρ w u) : u = .bool s := by
  unfold signA at h
  split at h
  · obtain rfl := Option.some.inj h
    obtain ⟨rfl, _⟩ : u = _ ∧ _ := hr
    rfl
  · rename_i n d
    cases hb : Nat.ble 1 d with
    | false => rw [hb] at h; cases h
    | true =>
      rw [hb] at h
      obtain rfl := Option.some.inj h
      have hd := Nat.le_of_ble_eq_true hb
      obtain rfl : u = .bool (negQ (mkRat n d)) := hr.2
      rw [negQ_lt, ltI_eq]
      congr 1
      rw [Bool.eq_iff_iff, decide_eq_true_eq, decide_eq_true_eq]
      exact mkRat_neg_iff (by omega)
  · cases h

theorem parts_rv {w : World} {a b : Value} {s : Bool} {n d : Nat} (h1 : Num w a n) (h2 : Num w b d) (hr : rightM s n d = true) : RV w (.agg #[.bool s, a, b]) (mkQ s n d) ∧ d ≠ 0 := by
  unfold rightM at hr
  simp only [Bool.and_eq_true, Bool.not_eq_true', beq_eq_false_iff_ne, beq_iff_eq] at hr
  obtain ⟨r3, r4, r5⟩ := hr
  refine ⟨?_, r3⟩
  by_cases h0 : n = 0
  · have hs : s = false := by
      cases s with
      | false => rfl
      | true => simp [h0] at r4
    have hd1 : d = 1 := by rw [h0, Nat.gcd_zero_left] at r5; exact r5
    rw [h0] at h1
    rw [hd1] at h2
    rw [h0, mkQ_zero, hs]
    exact ⟨a, b, rfl, h1, h2⟩
  · refine ⟨a, b, ?_, ?_, ?_⟩
    · rw [mkQ_neg r3 h0]
    · rw [mkQ_abs r3, r5, Nat.div_one]; exact h1
    · rw [mkQ_den r3, r5, Nat.div_one]; exact h2

def reA (S : Tr Bk) : A1 → Option RE
  | .agg [x, y, z] => match x, y, z with
    | .atom (.neg p), .atom (.num q), .atom (.den r) => bif reB p q && reB q r then some p else none
    | x, y, z => match signA x, natA S y, natA S z with
      | some s, some n, some d => bif rightM s n d then some (.c (sgnI s n) d) else none
      | _, _, _ => none
  | _ => none

theorem reA_ok {st : Bool} {ν : Nat → Rat} {σ : SymD} {γ : Nat → Option (List Value)} {B : Nat} {ρ : Env} {w : World} {S : Tr Bk} (hS : SRel (DomQ st ν σ γ) B ρ w S) {x : A1} {u : Value} {r : RE} (h : reA S x = some r) (hr : x.rel (DomQ st ν σ γ) ρ w u) : RV w u (vq ν r) := by
  unfold reA at h
  split at h
  · rename_i x y z
    obtain ⟨us, rfl, hu⟩ := hr
    match us, hu with
    | [c1, c2, c3], ⟨r1, r2, r3, _⟩ =>
      split at h
      · rename_i p q r'
        cases hb : reB p q && reB q r' with
        | false => rw [hb] at h; cases h
        | true =>
          rw [hb] at h
          simp only [Bool.and_eq_true] at hb
          obtain rfl := Option.some.inj h
          obtain rfl := reB_ok hb.1
          obtain rfl := reB_ok hb.2
          obtain rfl : c1 = .bool (negQ (vq ν p)) := r1.2
          exact ⟨c2, c3, rfl, r2.2, r3.2⟩
      · split at h
        · rename_i s n d hs hn hd
          cases hb : rightM s n d with
          | false => rw [hb] at h; cases h
          | true =>
            rw [hb] at h
            obtain rfl := Option.some.inj h
            obtain rfl := signA_ok hs r1
            have e : vq ν (.c (sgnI s n) d) = mkQ s n d := by
              unfold vq mkQ; rw [sgnI_eq]
            rw [e]
            exact (parts_rv (natA_ok hS hn r2) (natA_ok hS hd r3) hb).1
        · cases h
  · cases h

/-! ### Answers that hang on memory -/
/-- A function whose answer is told by what the reader knows; it makes memory of its own at most. -/
structure OrcS (P : Program) (M : Dom) where
  f : FuncId
  ans : List A1 → Tr Bk → Option AV
  ok : ∀ {args S av}, ans args S = some av → ∀ {B ρ} {w : World} {vs : List Value}, SRel M B ρ w S → rel1s M ρ w args vs → Calls P f vs.toArray w fun e w' => ∃ v, e = .returned v ∧ av.rel M ρ w' v ∧ Below w.heap.size w w'

def orcS {P : Program} {M : Dom} : List (OrcS P M) → CallF
  | [], _, _, _, _ => none
  | o :: r, f, args, S, n => bif Nat.beq f o.f then
      (match o.ans args S with
      | some av => some (av, [], n)
      | none => none)
    else orcS r f args S n

theorem orcS_ok {P : Program} {M : Dom} {B : Nat} {f : FuncId} {args : List A1} {S : Tr Bk} {n n' : Nat} {av : AV} {dl : Dl} : ∀ {l : List (OrcS P M)}, orcS l f args S n = some (av, dl, n') → n' = n ∧
    ∀ ρ w vs, SRel M B ρ w S → (∀ {b k}, S.get b = some k → b < n) → rel1s M ρ w args vs → Calls P f vs.toArray w fun e w' => ∃ v ρ', e = .returned v ∧ av.rel M ρ' w' v ∧ Tn M B ρ w S n ρ' w' (puts S dl) n'
  | [], h => by cases h
  | o :: r, h => by
    unfold orcS at h
    cases hb : Nat.beq f o.f with
    | false => rw [hb] at h; exact orcS_ok (l := r) h
    | true =>
      rw [hb] at h
      simp only [cond_true] at h
      obtain rfl := Nat.eq_of_beq_eq_true hb
      split at h
      · rename_i av' hav
        simp only [Option.some.injEq, Prod.mk.injEq] at h
        obtain ⟨rfl, rfl, rfl⟩ := h
        refine ⟨rfl, fun ρ w vs hS hk hvs => ?_⟩
        refine (o.ok hav hS hvs).mono ?_
        rintro e w' ⟨v, rfl, hv, hw⟩
        exact ⟨v, ρ, rfl, hv, tn_below hw hS hk⟩
      · cases h

/-- One of two. -/
def orcOr (a b : CallF) : CallF := fun f args S n => match a f args S n with
  | some r => some r
  | none => b f args S n

/-! ### Numbers reckoned -/
def normC : Int → Nat → RE
  | .ofNat m, d => .c (.ofNat (m / Nat.gcd m d)) (d / Nat.gcd m d)
  | .negSucc m, d => .c (Int.negOfNat ((m + 1) / Nat.gcd (m + 1) d)) (d / Nat.gcd (m + 1) d)
theorem normC_ok (ν : Nat → Rat) (n : Int) (d : Nat) (hd : d ≠ 0) : vq ν (normC n d) = mkRat n d := by
  have key : ∀ (s : Bool) (m : Nat), mkQ s (m / Nat.gcd m d) (d / Nat.gcd m d) = mkQ s m d := by
    intro s m
    have hg : 0 < Nat.gcd m d := Nat.gcd_pos_of_pos_right _ (Nat.pos_of_ne_zero hd)
    unfold mkQ
    have hdd : d / Nat.gcd m d ≠ 0 := by
      have := Nat.div_pos (Nat.le_of_dvd (Nat.pos_of_ne_zero hd) (Nat.gcd_dvd_right m d)) hg
      omega
    rw [Rat.mkRat_eq_iff hdd hd]
    obtain ⟨a, ha⟩ := Nat.gcd_dvd_left m d
    obtain ⟨b, hb⟩ := Nat.gcd_dvd_right m d
    generalize Nat.gcd m d = g at *
    subst ha hb
    rw [Nat.mul_div_cancel_left _ hg, Nat.mul_div_cancel_left _ hg]
    rw [sgQ_nat, sgQ_nat]
    congr 1
    grind
  cases n with
  | ofNat m => exact key false m
  | negSucc m =>
    have := key true (m + 1)
    unfold mkQ at this
    show mkRat (Int.negOfNat ((m + 1) / Nat.gcd (m + 1) d)) (d / Nat.gcd (m + 1) d) = _
    rw [show Int.negOfNat ((m + 1) / Nat.gcd (m + 1) d) = sgQ true ((m + 1) / Nat.gcd (m + 1) d) from sgnI_eq true _, this]
    rfl

/-- What two constants make: 0 sum, 1 difference, 2 product. -/
def opC (k : Nat) (a : Int) (b : Nat) (c : Int) (d : Nat) : RE :=
  bif Nat.beq k 0 then normC (a * .ofNat d + c * .ofNat b) (b * d)
  else bif Nat.beq k 1 then normC (a * .ofNat d - c * .ofNat b) (b * d)
  else normC (a * c) (b * d)

/-- A quotient. -/
def quoC (a : Int) (b : Nat) : Int → Nat → RE
  | .ofNat c, d => normC (a * .ofNat d) (b * c)
  | .negSucc c, d => normC (-(a * .ofNat d)) (b * (c + 1))

theorem mkRat_sub' (a c : Int) {b d : Nat} (hb : b ≠ 0) (hd : d ≠ 0) : mkRat a b - mkRat c d = mkRat (a * (d : Int) - c * (b : Int)) (b * d) := by
  rw [Rat.sub_eq_add_neg, Rat.neg_mkRat, Rat.mkRat_add_mkRat _ _ hb hd, Int.neg_mul, Int.sub_eq_add_neg]

theorem opC_ok (ν : Nat → Rat) {k : Nat} {a c : Int} {b d : Nat} (hb : b ≠ 0) (hd : d ≠ 0) :
    vq ν (opC k a b c d) = if k = 0 then mkRat a b + mkRat c d else if k = 1 then mkRat a b - mkRat c d else mkRat a b * mkRat c d := by
  have h := Nat.mul_ne_zero hb hd
  unfold opC
  rw [beq_nat, beq_nat, cond_decide, cond_decide]
  split
  · rw [normC_ok ν _ _ h, Rat.mkRat_add_mkRat _ _ hb hd]; rfl
  · split
    · rw [normC_ok ν _ _ h, mkRat_sub' _ _ hb hd]; rfl
    · rw [normC_ok ν _ _ h, Rat.mkRat_mul_mkRat]

theorem quoC_ok (ν : Nat → Rat) {a c : Int} {b d : Nat} (hb : b ≠ 0) (hd : d ≠ 0) (hc : c ≠ 0) : vq ν (quoC a b c d) = mkRat a b / mkRat c d := by
  have h0 : mkRat c d ≠ 0 := by rw [ne_eq, Rat.mkRat_eq_zero hd]; exact hc
  have key : ∀ q : Rat, q * mkRat c d = mkRat a b → q = mkRat a b / mkRat c d := by
    intro q hq
    rw [← hq]; grind
  apply key
  cases c with
  | ofNat m =>
    have hm : m ≠ 0 := by intro e; subst e; exact hc rfl
    unfold quoC
    rw [normC_ok ν _ _ (Nat.mul_ne_zero hb hm), Rat.mkRat_mul_mkRat, Rat.mkRat_eq_iff (Nat.mul_ne_zero (Nat.mul_ne_zero hb hm) hd) hb]
    simp only [Int.ofNat_eq_natCast, Int.natCast_mul]
    grind
  | negSucc m =>
    unfold quoC
    rw [normC_ok ν _ _ (Nat.mul_ne_zero hb (by omega)), Rat.mkRat_mul_mkRat, Rat.mkRat_eq_iff (Nat.mul_ne_zero (Nat.mul_ne_zero hb (by omega)) hd) hb]
    rw [Int.negSucc_eq]
    simp only [Int.ofNat_eq_natCast, Int.natCast_mul, Int.natCast_add]
    grind

/-- What is told of letters. -/
structure QD where
  bin : Nat → RE → RE → Option RE
  quo : RE → RE → Option RE
  same : RE → RE → Option Bool
  cmp : RE → RE → Option Int
  /-- Has it at most four limbs? -/
  four : RE → Bool
  abs : RE → Option RE
  /-- Letters for what is not told. -/
  sameS : RE → RE → Option Nat
  cmpS : RE → RE → Option Nat

/-- It is so. -/
structure QX (ν : Nat → Rat) (σ : SymD) (d : QD) : Prop where
  size : Sized ν
  bin_ok : ∀ {k p q r}, d.bin k p q = some r → vq ν r = if k = 0 then vq ν p + vq ν q else if k = 1 then vq ν p - vq ν q else vq ν p * vq ν q
  quo_ok : ∀ {p q r}, d.quo p q = some r → vq ν q ≠ 0 ∧ vq ν r = vq ν p / vq ν q
  same_ok : ∀ {p q b}, d.same p q = some b → decide (vq ν p = vq ν q) = b
  cmp_ok : ∀ {p q b}, d.cmp p q = some b → cmpQ (vq ν p) (vq ν q) = b
  four_ok : ∀ {p}, d.four p = true → nr (vq ν p) ≤ 4
  abs_ok : ∀ {p r}, d.abs p = some r → vq ν r = absQ (vq ν p)
  sameS_ok : ∀ {p q j}, d.sameS p q = some j → σ.val j = .bool (decide (vq ν p = vq ν q)) ∧ ∀ w, σ.fact j w
  cmpS_ok : ∀ {p q j}, d.cmpS p q = some j → σ.val j = .int .i64 (cmpQ (vq ν p) (vq ν q)) ∧ ∀ w, σ.fact j w

section
variable {ν : Nat → Rat} {σ : SymD} {d : QD}

def binQ (d : QD) (k : Nat) : RE → RE → Option RE
  | .c a b, .c c e => some (opC k a b c e)
  | p, q => d.bin k p q
theorem binQ_ok (X : QX ν σ d) {k : Nat} {p q r : RE} (hp : okQ p = true) (hq : okQ q = true) (h : binQ d k p q = some r) : vq ν r = if k = 0 then vq ν p + vq ν q else if k = 1 then vq ν p - vq ν q else vq ν p * vq ν q := by
  unfold binQ at h
  split at h
  · obtain rfl := Option.some.inj h
    exact opC_ok ν (okQ_den hp) (okQ_den hq)
  · exact X.bin_ok h

/-- A quotient; none: by nought. -/
def quoQ (d : QD) : RE → RE → Option (Option RE)
  | .c a b, .c c e => bif eqI c 0 then some none else some (some (quoC a b c e))
  | p, q => match d.quo p q with
    | some r => some (some r)
    | none => match d.same q (.c 0 1) with
      | some true => some none
      | _ => none
theorem quoQ_none (X : QX ν σ d) {p q : RE} (h : quoQ d p q = some none) : vq ν q = 0 := by
  unfold quoQ at h
  split at h
  · rename_i a b c d
    cases hc : eqI c 0 with
    | false => rw [hc] at h; cases h
    | true =>
      rw [eqI_eq, beq_iff_eq] at hc
      subst hc
      exact Rat.zero_mkRat _
  · split at h
    · cases h
    · split at h
      · rename_i hs
        have := X.same_ok hs
        rw [decide_eq_true_eq] at this
        rw [this]; rfl
      · cases h
theorem quoQ_some (X : QX ν σ d) {p q r : RE} (hp : okQ p = true) (hq : okQ q = true) (h : quoQ d p q = some (some r)) : vq ν q ≠ 0 ∧ vq ν r = vq ν p / vq ν q := by
  unfold quoQ at h
  split at h
  · rename_i a b c d
    cases hc : eqI c 0 with
    | true => rw [hc] at h; cases h
    | false =>
      rw [hc] at h
      simp only [cond_false, Option.some.injEq] at h
      subst h
      rw [eqI_eq, beq_eq_false_iff_ne] at hc
      refine ⟨?_, quoC_ok ν (okQ_den hp) (okQ_den hq) hc⟩
      show mkRat c d ≠ 0
      rw [ne_eq, Rat.mkRat_eq_zero (okQ_den hq)]; exact hc
  · split at h
    · rename_i r' hr
      simp only [Option.some.injEq] at h
      subst h
      exact X.quo_ok hr
    · split at h <;> cases h

def negC : RE → RE
  | .c a b => .c (-a) b
  | p => p
def negR (d : QD) : RE → Option RE
  | .c a b => some (.c (-a) b)
  | p => d.bin 1 (.c 0 1) p
theorem negR_ok (X : QX ν σ d) {p r : RE} (h : negR d p = some r) : vq ν r = - vq ν p := by
  unfold negR at h
  split at h
  · obtain rfl := Option.some.inj h
    unfold vq
    rw [Rat.neg_mkRat]
  · have := X.bin_ok h
    simp only [Nat.succ_ne_zero, if_false, if_true] at this
    rw [this]
    show mkRat 0 1 - _ = _
    rw [Rat.zero_mkRat]; grind

def absR (d : QD) : RE → Option RE
  | .c a b => some (.c (.ofNat a.natAbs) b)
  | p => d.abs p
theorem absR_ok (X : QX ν σ d) {p r : RE} (hp : okQ p = true) (h : absR d p = some r) : vq ν r = absQ (vq ν p) := by
  unfold absR at h
  split at h
  · rename_i a b
    obtain rfl := Option.some.inj h
    have hb := okQ_den hp
    show mkRat (Int.ofNat a.natAbs) b = absQ (mkRat a b)
    unfold absQ
    by_cases h0 : mkRat a b < 0
    · rw [if_pos h0, Rat.neg_mkRat]
      have := (mkRat_neg_iff hb).1 h0
      congr 1
      show ((a.natAbs : Nat) : Int) = _
      omega
    · rw [if_neg h0]
      have : ¬ a < 0 := fun hh => h0 ((mkRat_neg_iff hb).2 hh)
      congr 1
      show ((a.natAbs : Nat) : Int) = _
      omega
  · exact X.abs_ok h

def sameQ (d : QD) : RE → RE → Option Bool
  | .c a b, .c c e => some (eqI (a * .ofNat e) (c * .ofNat b))
  | p, q => bif reB p q then some true else d.same p q
theorem sameQ_ok (X : QX ν σ d) {p q : RE} {b : Bool} (hp : okQ p = true) (hq : okQ q = true) (h : sameQ d p q = some b) : decide (vq ν p = vq ν q) = b := by
  unfold sameQ at h
  split at h
  · rename_i a b' c d
    obtain rfl := Option.some.inj h
    rw [eqI_eq]
    unfold vq
    rw [Bool.eq_iff_iff, decide_eq_true_eq, Rat.mkRat_eq_iff (okQ_den hp) (okQ_den hq), beq_iff_eq]
    rfl
  · cases hb : reB p q with
    | true =>
      rw [hb] at h
      obtain rfl := Option.some.inj h
      obtain rfl := reB_ok hb
      simp
    | false => rw [hb] at h; exact X.same_ok h

/-- Is it nought? -/
def zeroQ (d : QD) (p : RE) : Option Bool := sameQ d p (.c 0 1)
theorem zeroQ_ok (X : QX ν σ d) {p : RE} {b : Bool} (hp : okQ p = true) (h : zeroQ d p = some b) : decide (vq ν p = 0) = b := by
  have := sameQ_ok X hp (by rfl) h
  rwa [show vq ν (.c 0 1) = 0 from Rat.zero_mkRat _] at this

def cmpC (a c : Int) : Int := bif ltI a c then Int.negSucc 0 else bif ltI c a then .ofNat 1 else .ofNat 0
def cmpR (d : QD) : RE → RE → Option Int
  | .c a b, .c c e => some (cmpC (a * .ofNat e) (c * .ofNat b))
  | p, q => d.cmp p q
theorem mkRat_lt {a c : Int} {b d : Nat} (hb : b ≠ 0) (hd : d ≠ 0) : mkRat a b < mkRat c d ↔ a * (d : Int) < c * (b : Int) := by
  have h1 : mkRat a b < mkRat c d ↔ mkRat a b - mkRat c d < 0 := by constructor <;> intro h <;> grind
  rw [h1, mkRat_sub' _ _ hb hd, mkRat_neg_iff (Nat.mul_ne_zero hb hd)]
  omega
theorem cmpC_ok {a c : Int} {b d : Nat} (hb : b ≠ 0) (hd : d ≠ 0) : cmpQ (mkRat a b) (mkRat c d) = cmpC (a * (d : Int)) (c * (b : Int)) := by
  unfold cmpQ cmpC
  rw [ltI_eq, ltI_eq, cond_decide, cond_decide]
  by_cases h1 : a * (d : Int) < c * (b : Int)
  · rw [if_pos h1, if_pos ((mkRat_lt hb hd).2 h1)]; rfl
  · rw [if_neg h1, if_neg (fun h => h1 ((mkRat_lt hb hd).1 h))]
    by_cases h2 : c * (b : Int) < a * (d : Int)
    · rw [if_pos h2, if_pos ((mkRat_lt hd hb).2 h2)]; rfl
    · rw [if_neg h2, if_neg (fun h => h2 ((mkRat_lt hd hb).1 h))]; rfl
theorem cmpR_ok (X : QX ν σ d) {p q : RE} {b : Int} (hp : okQ p = true) (hq : okQ q = true) (h : cmpR d p q = some b) : cmpQ (vq ν p) (vq ν q) = b := by
  unfold cmpR at h
  split at h
  · obtain rfl := Option.some.inj h
    exact cmpC_ok (okQ_den hp) (okQ_den hq)
  · exact X.cmp_ok h
end

/-- Letters of which nothing is known; there are none. -/
def qd0 : QD := ⟨fun _ _ _ => none, fun _ _ => none, fun _ _ => none, fun _ _ => none, fun _ => false, fun _ => none, fun _ _ => none, fun _ _ => none⟩
theorem qx0 {σ : SymD} : QX (fun _ => 0) σ qd0 where
  size := ⟨fun _ => by decide⟩
  bin_ok := fun h => by cases h
  quo_ok := fun h => by cases h
  same_ok := fun h => by cases h
  cmp_ok := fun h => by cases h
  four_ok := fun h => by cases h
  abs_ok := fun h => by cases h
  sameS_ok := fun h => by cases h
  cmpS_ok := fun h => by cases h
end Go.Proofs.YtcfhajnboamnnabGreatDoor
