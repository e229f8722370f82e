/- A reader of closed calls: values and rows as it knows them, and what they stand for in memory. Nothing of the program is named here. -/
/- A reader of closed calls: what is written in memory. -/
import Derived.WalkKit
import Derived.Deep.MidRow
import Derived.Maps.AppendAt
import Derived.Great.BuildSlice
namespace Go.Ev
open Go.RowKit
set_option linter.unusedVariables false
set_option linter.unusedSimpArgs false

/-! ### A tree of numbered places -/
inductive Tr (α : Type) where
  | e : Tr α
  | n (l : Tr α) (v : Option α) (r : Tr α) : Tr α

def Tr.get {α : Type} : Tr α → Nat → Option α
  | .e, _ => none
  | .n l v r, k => bif Nat.beq k 0 then v else bif Nat.beq (k % 2) 1 then l.get (k / 2) else r.get (k / 2 - 1)

def Tr.putF {α : Type} : Nat → Tr α → Nat → Option α → Tr α
  | 0, t, _, _ => t
  | f + 1, .e, k, a => bif Nat.beq k 0 then .n .e a .e else bif Nat.beq (k % 2) 1 then .n (Tr.putF f .e (k / 2) a) none .e else .n .e none (Tr.putF f .e (k / 2 - 1) a)
  | f + 1, .n l v r, k, a => bif Nat.beq k 0 then .n l a r else bif Nat.beq (k % 2) 1 then .n (Tr.putF f l (k / 2) a) v r else .n l v (Tr.putF f r (k / 2 - 1) a)

def Tr.put {α : Type} (t : Tr α) (k : Nat) (a : Option α) : Tr α := Tr.putF (k + 1) t k a

theorem beq_nat (a b : Nat) : Nat.beq a b = decide (a = b) := by
  rw [Bool.eq_iff_iff]; simp

theorem cond_decide {α : Type} (p : Prop) [Decidable p] (a b : α) : (bif decide p then a else b) = if p then a else b := by by_cases h : p <;> simp [h]

theorem Tr.get_e {α : Type} (k : Nat) : (Tr.e : Tr α).get k = none := rfl
theorem Tr.get_n {α : Type} (l r : Tr α) (v : Option α) (k : Nat) : (Tr.n l v r).get k = if k = 0 then v else if k % 2 = 1 then l.get (k / 2) else r.get (k / 2 - 1) := by
  simp only [Tr.get, beq_nat, cond_decide]

theorem Tr.get_putF {α : Type} : ∀ (f : Nat) (t : Tr α) (k j : Nat) (a : Option α), k < f → (Tr.putF f t k a).get j = if j = k then a else t.get j := by
  intro f
  induction f with
  | zero => intro t k j a h; omega
  | succ f ih =>
    intro t k j a h
    cases t with
    | e =>
      simp only [Tr.putF, beq_nat, cond_decide]
      by_cases h0 : k = 0
      · subst h0
        simp only [if_true, Tr.get_n, Tr.get_e]
        by_cases hj : j = 0
        · simp [hj]
        · simp [hj]
      · simp only [if_neg h0]
        by_cases h1 : k % 2 = 1
        · simp only [if_pos h1, Tr.get_n, ih _ _ _ _ (show k / 2 < f by omega), Tr.get_e]
          by_cases hj : j = k
          · subst hj; simp [h0, h1]
          · simp only [if_neg hj]
            by_cases hj0 : j = 0
            · simp [hj0]
            · by_cases hj1 : j % 2 = 1
              · simp only [if_neg hj0, if_pos hj1, if_neg (show ¬ j / 2 = k / 2 by omega)]
              · simp [hj0, hj1]
        · simp only [if_neg h1, Tr.get_n, ih _ _ _ _ (show k / 2 - 1 < f by omega), Tr.get_e]
          by_cases hj : j = k
          · subst hj; simp [h0, h1]
          · simp only [if_neg hj]
            by_cases hj0 : j = 0
            · simp [hj0]
            · by_cases hj1 : j % 2 = 1
              · simp [hj0, hj1]
              · simp only [if_neg hj0, if_neg hj1, if_neg (show ¬ j / 2 - 1 = k / 2 - 1 by omega)]
    | n l v r =>
      simp only [Tr.putF, beq_nat, cond_decide]
      by_cases h0 : k = 0
      · subst h0
        simp only [if_true, Tr.get_n]
        by_cases hj : j = 0
        · simp [hj]
        · simp [hj]
      · simp only [if_neg h0]
        by_cases h1 : k % 2 = 1
        · simp only [if_pos h1, Tr.get_n, ih _ _ _ _ (show k / 2 < f by omega)]
          by_cases hj : j = k
          · subst hj; simp [h0, h1]
          · simp only [if_neg hj]
            by_cases hj0 : j = 0
            · simp [hj0]
            · by_cases hj1 : j % 2 = 1
              · simp only [if_neg hj0, if_pos hj1, if_neg (show ¬ j / 2 = k / 2 by omega)]
              · simp [hj0, hj1]
        · simp only [if_neg h1, Tr.get_n, ih _ _ _ _ (show k / 2 - 1 < f by omega)]
          by_cases hj : j = k
          · subst hj; simp [h0, h1]
          · simp only [if_neg hj]
            by_cases hj0 : j = 0
            · simp [hj0]
            · by_cases hj1 : j % 2 = 1
              · simp [hj0, hj1]
              · simp only [if_neg hj0, if_neg hj1, if_neg (show ¬ j / 2 - 1 = k / 2 - 1 by omega)]

theorem Tr.get_put {α : Type} (t : Tr α) (k j : Nat) (a : Option α) : (t.put k a).get j = if j = k then a else t.get j := Tr.get_putF _ _ _ _ _ (by omega)

/-! ### Values -/
/-- Rational numbers, as they came to be. -/
inductive RE where
  | c (num : Int) (den : Nat)
  | v (i : Nat)
  | add (a b : RE)
  | sub (a b : RE)
  | mul (a b : RE)
  | div (a b : RE)
  | neg (a : RE)
  deriving DecidableEq

/-- What is known by what it says alone. -/
inductive At where
  | sym (i : Nat)
  | neg (q : RE)
  | num (q : RE)
  | den (q : RE)
  | emp
  deriving DecidableEq

inductive Cap where
  | known (n : Nat)
  | blk
  | any

/-- One cell: what is written out, a place of the reader's own, a slice of it, or something that is known by what it says alone. -/
inductive AC where
  | lit (v : Value)
  | ptr (b off : Nat)
  | slc (b off len : Nat) (c : Cap)
  | atom (d : At)

inductive A1 where
  | one (c : AC)
  | agg (cs : List (AC))

inductive AV where
  | v (x : A1)
  | tup (xs : List (A1))

structure Bk where
  ty : TypeId
  cells : List (AC)
  sz : Nat
  grown : Bool

structure Env where
  loc : Nat → Option Nat
  cap : Nat → Option Nat

/-- No limb has turned. -/
structure Kept (s : Bool) (w w' : World) : Prop where
  size : w.heap.size ≤ w'.heap.size
  cell : s = true → ∀ a x, w.cell? a = some (.int .u32 x) → w'.cell? a = some (.int .u32 x)

theorem Kept.refl (s : Bool) (w : World) : Kept s w w := ⟨Nat.le_refl _, fun _ _ _ h => h⟩
theorem Kept.trans {s : Bool} {a b c : World} (h : Kept s a b) (k : Kept s b c) : Kept s a c := ⟨Nat.le_trans h.size k.size, fun hs p x hx => k.cell hs p x (h.cell hs p x hx)⟩

structure Dom where
  /-- Does what is known by what it says rest on limbs? Then none is written anew. -/
  strict : Bool
  rel : World → At → Value → Prop
  keep : ∀ {w w' : World} {d : At} {u : Value}, Kept strict w w' → rel w d u → rel w' d u
  cell : ∀ {w : World} {d : At} {u : Value}, rel w d u → u.oneCell' = true ∧ ∀ x, u ≠ .int .u32 x
  /-- What stands for good in memory of old. -/
  glob : Nat → Option (List Value)

section
variable (M : Dom) (ρ : Env) (w : World)

def AC.rel : AC → Value → Prop
  | .lit v, u => u = v ∧ v.oneCell' = true
  | .ptr b off, u => ∃ p, ρ.loc b = some p ∧ u = .pointer (some ⟨p, off, none⟩)
  | .slc b off len c, u => ∃ p k, ρ.loc b = some p ∧ u = .slice (some ⟨p, off, none⟩) len k ∧ len ≤ k ∧ k ≤ maxLen ∧
      (match c with | .known n => k = n | .blk => ρ.cap b = some k ∧ off = 0 | .any => True)
  | .atom d, u => M.rel w d u

def rels : List (AC) → List Value → Prop
  | [], [] => True
  | c :: cs, u :: us => c.rel M ρ w u ∧ rels cs us
  | _, _ => False

def A1.rel : A1 → Value → Prop
  | .one c, u => c.rel M ρ w u
  | .agg cs, u => ∃ us : List Value, u = .agg us.toArray ∧ rels M ρ w cs us

def rel1s : List (A1) → List Value → Prop
  | [], [] => True
  | c :: cs, u :: us => c.rel M ρ w u ∧ rel1s cs us
  | _, _ => False

def AV.rel : AV → Value → Prop
  | .v x, u => x.rel M ρ w u
  | .tup xs, u => ∃ us : List Value, u = .tuple us.toArray ∧ rel1s M ρ w xs us

def Bk.rel (b p : Nat) (k : Bk) : Prop :=
  ∃ arr : Array Value, w.heap[p]? = some (.cells arr k.ty (0, 0)) ∧ rels M ρ w k.cells (arr.toList.take k.cells.length) ∧
    (k.grown = false → arr.size = k.cells.length) ∧ (k.grown = true → ∃ c, ρ.cap b = some c ∧ arr.size = c * k.sz ∧ ∀ j u, k.cells.length ≤ j → arr[j]? = some u → M.strict = true → ∀ x, u ≠ .int .u32 x)
end

/-- What is known stays so. -/
structure Env.le (ρ ρ' : Env) : Prop where
  loc : ∀ {b p}, ρ.loc b = some p → ρ'.loc b = some p
  cap : ∀ {b k}, ρ.cap b = some k → ρ'.cap b = some k
theorem Env.le.refl (ρ : Env) : ρ.le ρ := ⟨id, id⟩
theorem Env.le.trans {a b c : Env} (h : a.le b) (k : b.le c) : a.le c := ⟨fun x => k.loc (h.loc x), fun x => k.cap (h.cap x)⟩

section
variable {M : Dom} {ρ ρ' : Env} {w w' : World}

theorem AC.rel.mono {c : AC} {u : Value} (h : c.rel M ρ w u) (e : ρ.le ρ') (k : Kept M.strict w w') : c.rel M ρ' w' u := by
  cases c with
  | lit v => exact h
  | ptr b off => obtain ⟨p, h1, h2⟩ := h; exact ⟨p, e.loc h1, h2⟩
  | slc b off len c =>
    obtain ⟨p, n, h1, h2, h3, h4, h5⟩ := h
    refine ⟨p, n, e.loc h1, h2, h3, h4, ?_⟩
    cases c with
    | known m => exact h5
    | blk => exact ⟨e.cap h5.1, h5.2⟩
    | any => trivial
  | atom d => exact M.keep k h

theorem AC.rel.oneCell {c : AC} {u : Value} (h : c.rel M ρ w u) : u.oneCell' = true := by
  cases c with
  | lit v => obtain ⟨rfl, h⟩ := h; exact h
  | ptr b off => obtain ⟨p, h1, rfl⟩ := h; rfl
  | slc b off len c => obtain ⟨p, n, h1, rfl, _⟩ := h; rfl
  | atom d => exact (M.cell h).1

theorem rels.mono {cs : List (AC)} : ∀ {us : List Value}, rels M ρ w cs us → ρ.le ρ' → Kept M.strict w w' → rels M ρ' w' cs us := by
  induction cs with
  | nil => intro us h e k; cases us with | nil => trivial | cons u us => exact h
  | cons c cs ih =>
    intro us h e k
    cases us with
    | nil => exact h
    | cons u us => exact ⟨h.1.mono e k, ih h.2 e k⟩

theorem rels.length {cs : List (AC)} : ∀ {us : List Value}, rels M ρ w cs us → us.length = cs.length := by
  induction cs with
  | nil => intro us h; cases us with | nil => rfl | cons u us => exact h.elim
  | cons c cs ih =>
    intro us h
    cases us with
    | nil => exact h.elim
    | cons u us => simp [ih h.2]

theorem rels.get {cs : List (AC)} : ∀ {us : List Value} {i : Nat} {c : AC}, rels M ρ w cs us → cs[i]? = some c → ∃ u, us[i]? = some u ∧ c.rel M ρ w u := by
  induction cs with
  | nil => intro us i c h hc; simp at hc
  | cons c0 cs ih =>
    intro us i c h hc
    cases us with
    | nil => exact h.elim
    | cons u us =>
      cases i with
      | zero => simp at hc; subst hc; exact ⟨u, rfl, h.1⟩
      | succ i => simp at hc; simpa using ih h.2 hc

theorem rels.append {cs cs' : List (AC)} : ∀ {us us' : List Value}, rels M ρ w cs us → rels M ρ w cs' us' → rels M ρ w (cs ++ cs') (us ++ us') := by
  induction cs with
  | nil => intro us us' h h'; cases us with | nil => exact h' | cons u us => exact h.elim
  | cons c cs ih =>
    intro us us' h h'
    cases us with
    | nil => exact h.elim
    | cons u us => exact ⟨h.1, ih h.2 h'⟩

theorem rels.take {cs : List (AC)} : ∀ {us : List Value} (n : Nat), rels M ρ w cs us → rels M ρ w (cs.take n) (us.take n) := by
  induction cs with
  | nil => intro us n h; cases us with | nil => simpa using h | cons u us => exact h.elim
  | cons c cs ih =>
    intro us n h
    cases us with
    | nil => exact h.elim
    | cons u us =>
      cases n with
      | zero => simp [rels]
      | succ n => exact ⟨h.1, ih n h.2⟩

theorem rels.drop {cs : List (AC)} : ∀ {us : List Value} (n : Nat), rels M ρ w cs us → rels M ρ w (cs.drop n) (us.drop n) := by
  induction cs with
  | nil => intro us n h; cases us with | nil => simpa using h | cons u us => exact h.elim
  | cons c cs ih =>
    intro us n h
    cases us with
    | nil => exact h.elim
    | cons u us =>
      cases n with
      | zero => exact h
      | succ n => exact ih n h.2

theorem rels.oneCell {cs : List (AC)} : ∀ {us : List Value}, rels M ρ w cs us → ∀ u ∈ us, u.oneCell' = true := by
  induction cs with
  | nil => intro us h u hu; cases us with | nil => cases hu | cons u us => exact h.elim
  | cons c cs ih =>
    intro us h u hu
    cases us with
    | nil => exact h.elim
    | cons v us =>
      rcases List.mem_cons.1 hu with rfl | hu
      · exact h.1.oneCell
      · exact ih h.2 u hu

theorem A1.rel.mono {x : A1} {u : Value} (h : x.rel M ρ w u) (e : ρ.le ρ') (k : Kept M.strict w w') : x.rel M ρ' w' u := by
  cases x with
  | one c => exact AC.rel.mono h e k
  | agg cs => obtain ⟨us, h1, h2⟩ := h; exact ⟨us, h1, h2.mono e k⟩

theorem rel1s.mono {cs : List (A1)} : ∀ {us : List Value}, rel1s M ρ w cs us → ρ.le ρ' → Kept M.strict w w' → rel1s M ρ' w' cs us := by
  induction cs with
  | nil => intro us h e k; cases us with | nil => trivial | cons u us => exact h
  | cons c cs ih =>
    intro us h e k
    cases us with
    | nil => exact h
    | cons u us => exact ⟨h.1.mono e k, ih h.2 e k⟩

theorem rel1s.length {cs : List (A1)} : ∀ {us : List Value}, rel1s M ρ w cs us → us.length = cs.length := by
  induction cs with
  | nil => intro us h; cases us with | nil => rfl | cons u us => exact h.elim
  | cons c cs ih =>
    intro us h
    cases us with
    | nil => exact h.elim
    | cons u us => simp [ih h.2]

theorem rel1s.get {cs : List (A1)} : ∀ {us : List Value} {i : Nat} {c : A1}, rel1s M ρ w cs us → cs[i]? = some c → ∃ u, us[i]? = some u ∧ c.rel M ρ w u := by
  induction cs with
  | nil => intro us i c h hc; simp at hc
  | cons c0 cs ih =>
    intro us i c h hc
    cases us with
    | nil => exact h.elim
    | cons u us =>
      cases i with
      | zero => simp at hc; subst hc; exact ⟨u, rfl, h.1⟩
      | succ i => simp at hc; simpa using ih h.2 hc

theorem AV.rel.mono {x : AV} {u : Value} (h : x.rel M ρ w u) (e : ρ.le ρ') (k : Kept M.strict w w') : x.rel M ρ' w' u := by
  cases x with
  | v c => exact A1.rel.mono h e k
  | tup cs => obtain ⟨us, h1, h2⟩ := h; exact ⟨us, h1, h2.mono e k⟩

/-- A block whose memory has not turned. -/
theorem Bk.rel.mono {b p : Nat} {k : Bk} (h : k.rel M ρ w b p) (e : ρ.le ρ') (kp : Kept M.strict w w') (hb : w'.heap[p]? = w.heap[p]?) : k.rel M ρ' w' b p := by
  obtain ⟨arr, h1, h2, h3, h4⟩ := h
  refine ⟨arr, hb.trans h1, h2.mono e kp, h3, fun hg => ?_⟩
  obtain ⟨c, hc, hs⟩ := h4 hg
  exact ⟨c, e.cap hc, hs⟩

theorem Bk.rel.lt {b p : Nat} {k : Bk} (h : k.rel M ρ w b p) : p < w.heap.size := by
  obtain ⟨arr, h1, _⟩ := h
  exact (Array.getElem?_eq_some_iff.1 h1).1
end

/-! ### What is in memory -/
structure SRel (M : Dom) (B : Nat) (ρ : Env) (w : World) (S : Tr (Bk)) : Prop where
  at' : ∀ {b k}, S.get b = some k → ∃ p, ρ.loc b = some p ∧ B ≤ p ∧ k.rel M ρ w b p
  inj : ∀ {b b' k k' p}, S.get b = some k → S.get b' = some k' → ρ.loc b = some p → ρ.loc b' = some p → b = b'
  glob : ∀ {g vs}, M.glob g = some vs → g < B ∧ g < w.heap.size ∧ ∀ j v, vs[j]? = some v → w.cell? ⟨g, j, none⟩ = some v

theorem SRel.low {M : Dom} {B : Nat} {ρ : Env} {w w' : World} {S : Tr (Bk)} (h : SRel M B ρ w S) (hs : w.heap.size ≤ w'.heap.size) (hf : ∀ p, p < w.heap.size → p < B → w'.heap[p]? = w.heap[p]?) :
    ∀ {g vs}, M.glob g = some vs → g < B ∧ g < w'.heap.size ∧ ∀ j v, vs[j]? = some v → w'.cell? ⟨g, j, none⟩ = some v := by
  intro g vs hg
  obtain ⟨h1, h2, h3⟩ := h.glob hg
  refine ⟨h1, Nat.lt_of_lt_of_le h2 hs, fun j v hv => ?_⟩
  rw [← h3 j v hv]
  unfold World.cell?
  simp only [hf g h2 h1]

/-- What else is in memory stays as it was. -/
structure Fr (M : Dom) (ρ : Env) (S : Tr (Bk)) (w w' : World) : Prop where
  os : w'.os = w.os
  tape : w'.tape = w.tape
  output : w'.output = w.output
  far : ∀ p, p < w.heap.size → (∀ b k, S.get b = some k → ρ.loc b ≠ some p) → w'.heap[p]? = w.heap[p]?
  kept : Kept M.strict w w'

/-- From (ρ, w, S) to (ρ', w', S'), the numbers from n to n' newly given. -/
structure Tn (M : Dom) (B : Nat) (ρ : Env) (w : World) (S : Tr (Bk)) (n : Nat) (ρ' : Env) (w' : World) (S' : Tr (Bk)) (n' : Nat) : Prop where
  rel : SRel M B ρ' w' S'
  le : n ≤ n'
  env : ∀ b, b < n ∨ n' ≤ b → ρ'.loc b = ρ.loc b ∧ ρ'.cap b = ρ.cap b
  fr : Fr M ρ S w w'
  src : ∀ {b k p}, S'.get b = some k → ρ'.loc b = some p → w.heap.size ≤ p ∨ ∃ b0 k0, S.get b0 = some k0 ∧ ρ.loc b0 = some p
  keys : ∀ {b k}, S'.get b = some k → b < n'

/-- The numbers from n to n' are not given yet. -/
def Free (ρ : Env) (n n' : Nat) : Prop := ∀ b, n ≤ b → b < n' → ρ.loc b = none ∧ ρ.cap b = none

theorem Free.sub {ρ : Env} {n n' m m' : Nat} (h : Free ρ n n') (h1 : n ≤ m) (h2 : m' ≤ n') : Free ρ m m' := fun b a c => h b (by omega) (by omega)

section
variable {M : Dom} {B : Nat} {ρ ρ' ρ'' : Env} {w w' w'' : World} {S S' S'' : Tr (Bk)} {n n' n'' : Nat}

theorem Tn.up (h : Tn M B ρ w S n ρ' w' S' n') (hf : Free ρ n n') : ρ.le ρ' := by
  refine ⟨fun {b p} hb => ?_, fun {b k} hb => ?_⟩
  · by_cases hr : b < n ∨ n' ≤ b
    · rw [(h.env b hr).1]; exact hb
    · rw [(hf b (by omega) (by omega)).1] at hb; cases hb
  · by_cases hr : b < n ∨ n' ≤ b
    · rw [(h.env b hr).2]; exact hb
    · rw [(hf b (by omega) (by omega)).2] at hb; cases hb

theorem Tn.free (h : Tn M B ρ w S n ρ' w' S' n') {m m' : Nat} (hf : Free ρ m m') (hd : m' ≤ n ∨ n' ≤ m) : Free ρ' m m' := fun b a c => by
  obtain ⟨h1, h2⟩ := h.env b (by omega)
  rw [h1, h2]; exact hf b a c

theorem Tn.refl (h : SRel M B ρ w S) (n : Nat) (hk : ∀ {b k}, S.get b = some k → b < n) : Tn M B ρ w S n ρ w S n :=
  ⟨h, Nat.le_refl _, fun _ _ => ⟨rfl, rfl⟩, ⟨rfl, rfl, rfl, fun _ _ _ => rfl, Kept.refl _ _⟩, fun hb hp => .inr ⟨_, _, hb, hp⟩, hk⟩

theorem Fr.trans {S S' : Tr (Bk)} (h : Fr M ρ S w w') (k : Fr M ρ' S' w' w'') (src : ∀ {b k p}, S'.get b = some k → ρ'.loc b = some p → w.heap.size ≤ p ∨ ∃ b0 k0, S.get b0 = some k0 ∧ ρ.loc b0 = some p) : Fr M ρ S w w'' := by
  refine ⟨k.os.trans h.os, k.tape.trans h.tape, k.output.trans h.output, fun p hp hn => ?_, h.kept.trans k.kept⟩
  rw [k.far p (Nat.lt_of_lt_of_le hp h.kept.size) (fun b kk hb hl => ?_), h.far p hp hn]
  rcases src hb hl with hge | ⟨b0, k0, hb0, hl0⟩
  · omega
  · exact hn b0 k0 hb0 hl0

theorem Tn.trans (h : Tn M B ρ w S n ρ' w' S' n') (k : Tn M B ρ' w' S' n' ρ'' w'' S'' n'') : Tn M B ρ w S n ρ'' w'' S'' n'' := by
  refine ⟨k.rel, Nat.le_trans h.le k.le, fun b hb => ?_, h.fr.trans k.fr h.src, fun {b kk p} hb hl => ?_, k.keys⟩
  · have h1 := h.le
    have h2 := k.le
    obtain ⟨e1, e2⟩ := k.env b (by omega)
    obtain ⟨e3, e4⟩ := h.env b (by omega)
    exact ⟨e1.trans e3, e2.trans e4⟩
  · rcases k.src hb hl with hge | ⟨b0, k0, hb0, hl0⟩
    · exact .inl (Nat.le_trans h.fr.kept.size hge)
    · exact h.src hb0 hl0

/-- Less may be said of memory. -/
theorem SRel.sub (h : SRel M B ρ w S) (hs : ∀ {b k}, S'.get b = some k → S.get b = some k) : SRel M B ρ w S' :=
  ⟨fun hb => h.at' (hs hb), fun hb hb' hp hp' => h.inj (hs hb) (hs hb') hp hp', h.glob⟩
theorem Tn.less (h : Tn M B ρ w S n ρ' w' S' n') (hs : ∀ {b k}, S''.get b = some k → S'.get b = some k) : Tn M B ρ w S n ρ' w' S'' n' :=
  ⟨h.rel.sub hs, h.le, h.env, h.fr, fun hb hp => h.src (hs hb) hp, fun hb => h.keys (hs hb)⟩

/-- A new block. -/
def Env.with (ρ : Env) (n p : Nat) (c : Option Nat) : Env := ⟨fun b => if b = n then some p else ρ.loc b, fun b => if b = n then c else ρ.cap b⟩

theorem kept_alloc (s : Bool) (w : World) (o : Obj) : Kept s w (w.alloc o) :=
  ⟨by simp, fun _ a x h => by rw [World.cell?_of_block (heap_alloc_old w o (World.block_lt_of_cell? w a h))]; exact h⟩

theorem Tn.alloc (h : SRel M B ρ w S) (hB : B ≤ w.heap.size) (hk : ∀ {b k}, S.get b = some k → b < n) (hf : Free ρ n (n + 1)) (ty : TypeId) (cs : List (AC)) (us : List Value) (hc : rels M ρ w cs us) :
    Tn M B ρ w S n (ρ.with n w.heap.size none) (w.alloc (.cells us.toArray ty)) (S.put n (some ⟨ty, cs, 0, false⟩)) (n + 1) := by
  have hl : w.heap.size < (w.alloc (.cells us.toArray ty)).heap.size := by simp
  have hlo : ρ.le (ρ.with n w.heap.size none) := by
    refine ⟨fun {b p} hb => ?_, fun {b k} hb => ?_⟩
    · simp only [Env.with]
      split
      · rename_i e; subst e; rw [(hf b (by omega) (by omega)).1] at hb; cases hb
      · exact hb
    · simp only [Env.with]
      split
      · rename_i e; subst e; rw [(hf b (by omega) (by omega)).2] at hb; cases hb
      · exact hb
  have kp := kept_alloc M.strict w (.cells us.toArray ty)
  refine ⟨⟨?_, ?_, h.low kp.size fun p hp _ => heap_alloc_old w _ hp⟩, by omega, fun b hb => ?_, ⟨rfl, rfl, rfl, fun p hp _ => heap_alloc_old w _ hp, kp⟩, ?_, ?_⟩
  · intro b k hb
    rw [Tr.get_put] at hb
    split at hb
    · rename_i e
      subst e
      obtain rfl := Option.some.inj hb
      refine ⟨w.heap.size, by simp [Env.with], hB, us.toArray, heap_alloc_new w _, ?_, fun _ => by simp [hc.length], fun h => by cases h⟩
      simp only [← hc.length, List.take_length]
      exact hc.mono hlo kp
    · rename_i e
      obtain ⟨p, h1, h2, h3⟩ := h.at' hb
      exact ⟨p, hlo.loc h1, h2, h3.mono hlo kp (heap_alloc_old w _ h3.lt)⟩
  · intro b b' k k' p hb hb' hp hp'
    rw [Tr.get_put] at hb hb'
    split at hb <;> split at hb'
    · omega
    · rename_i e e'
      simp only [Env.with, if_pos e, if_neg e'] at hp hp'
      obtain rfl := Option.some.inj hp
      obtain ⟨p, h1, h2, h3⟩ := h.at' hb'
      rw [h1] at hp'
      obtain rfl := Option.some.inj hp'
      have := h3.lt
      omega
    · rename_i e e'
      simp only [Env.with, if_pos e', if_neg e] at hp hp'
      obtain rfl := Option.some.inj hp'
      obtain ⟨p, h1, h2, h3⟩ := h.at' hb
      rw [h1] at hp
      obtain rfl := Option.some.inj hp
      have := h3.lt
      omega
    · rename_i e e'
      simp only [Env.with, if_neg e, if_neg e'] at hp hp'
      exact h.inj hb hb' hp hp'
  · simp only [Env.with]
    have : b ≠ n := by omega
    simp [this]
  · intro b k p hb hp
    rw [Tr.get_put] at hb
    split at hb
    · rename_i e
      subst e
      simp only [Env.with, if_true] at hp
      obtain rfl := Option.some.inj hp
      exact .inl (Nat.le_refl _)
    · rename_i e
      simp only [Env.with, if_neg e] at hp
      exact .inr ⟨b, k, hb, hp⟩
  · intro b k hb
    rw [Tr.get_put] at hb
    split at hb
    · omega
    · have := hk hb; omega
end
end Go.Ev

namespace Go.Ev
open Go.RowKit
set_option linter.unusedVariables false
set_option linter.unusedSimpArgs false

/-- May a cell be written anew? (A limb may not: what is known by what it says may rest on it.) -/
def AC.loose : AC → Bool
  | .lit (.int .u32 _) => false
  | _ => true

theorem AC.rel.loose {M : Dom} {ρ : Env} {w : World} {c : AC} {u : Value} (h : c.rel M ρ w u) (hl : c.loose = true) : ∀ x, u ≠ .int .u32 x := by
  cases c with
  | lit v =>
    obtain ⟨rfl, _⟩ := h
    rintro x rfl
    simp [AC.loose] at hl
  | ptr b off => obtain ⟨p, h1, rfl⟩ := h; intro x; simp
  | slc b off len c => obtain ⟨p, n, h1, rfl, _⟩ := h; intro x; simp
  | atom d => exact (M.cell h).2

/-- May these be written anew? -/
def loose1 (s : Bool) (cs : List (AC)) : Bool := !s || cs.all AC.loose

/-- A piece put into a row. -/
def spl {α : Type} (l : List α) (off : Nat) (xs : List α) : List α := l.take off ++ xs ++ l.drop (off + xs.length)

theorem spl_length {α : Type} {l xs : List α} {off : Nat} (h : off + xs.length ≤ l.length) : (spl l off xs).length = l.length := by
  simp [spl]; omega

section
variable {M : Dom} {B : Nat} {ρ ρ' : Env} {w w' : World} {S S' : Tr (Bk)} {n n' : Nat}

theorem rels.spl {cs xs : List (AC)} {us vs : List Value} {off : Nat} (h : rels M ρ w cs us) (k : rels M ρ w xs vs) : rels M ρ w (spl cs off xs) (spl us off vs) := by
  unfold Ev.spl
  rw [k.length]
  exact ((h.take off).append k).append (h.drop _)

/-- What is read of a row. -/
theorem SRel.read (h : SRel M B ρ w S) {b : Nat} {k : Bk} (hb : S.get b = some k) : ∃ p arr, ρ.loc b = some p ∧ B ≤ p ∧ w.heap[p]? = some (.cells arr k.ty (0, 0)) ∧ rels M ρ w k.cells (arr.toList.take k.cells.length) ∧ k.cells.length ≤ arr.size := by
  obtain ⟨p, h1, h2, arr, h3, h4, _⟩ := h.at' hb
  refine ⟨p, arr, h1, h2, h3, h4, ?_⟩
  have := h4.length
  simp at this
  omega

theorem cell_of_row' {w : World} {p : Nat} {arr : Array Value} {t : TypeId} {fr : Nat × Nat} (h : w.heap[p]? = some (.cells arr t fr)) (j : Nat) : w.cell? ⟨p, j, none⟩ = arr[j]? := by
  simp [World.cell?, h]

/-- A piece of a row, as memory has it. -/
theorem SRel.range (h : SRel M B ρ w S) {b off len : Nat} {k : Bk} (hb : S.get b = some k) (hl : off + len ≤ k.cells.length) :
    ∃ p us, ρ.loc b = some p ∧ rels M ρ w ((k.cells.drop off).take len) us ∧ us.length = len ∧ w.rangeAt p off us := by
  obtain ⟨p, arr, h1, _, h2, h3, h4⟩ := h.read hb
  refine ⟨p, ((arr.toList.take k.cells.length).drop off).take len, h1, (h3.drop off).take len, by simp; omega, ?_⟩
  intro j v hv
  rw [cell_of_row' h2]
  rw [List.getElem?_take] at hv
  split at hv
  · rw [List.getElem?_drop, List.getElem?_take] at hv
    split at hv
    · simpa using hv
    · cases hv
  · cases hv

theorem getElem?_spl {us vs : List Value} {off j : Nat} (h : off + vs.length ≤ us.length) : (spl us off vs)[j]? = if off ≤ j ∧ j < off + vs.length then vs[j - off]? else us[j]? := by
  unfold Ev.spl
  rw [List.append_assoc, List.getElem?_append, List.length_take, Nat.min_eq_left (by omega)]
  split
  · rename_i hj
    rw [if_neg (by omega), List.getElem?_take, if_pos hj]
  · rename_i hj
    rw [List.getElem?_append]
    split
    · rw [if_pos (by omega)]
    · rw [if_neg (by omega), List.getElem?_drop]
      congr 1
      omega

/-- A row written anew in place. -/
theorem kept_setRow {s : Bool} {w : World} {p off : Nat} {arr : Array Value} {ty : TypeId} {vs : List Value} (hp : w.heap[p]? = some (.cells arr ty (0, 0))) (hfit : off + vs.length ≤ arr.size)
    (hl : s = true → ∀ j u, off ≤ j → j < off + vs.length → arr[j]? = some u → ∀ x, u ≠ .int .u32 x) : Kept s w (w.setRow p (spl arr.toList off vs).toArray) := by
  refine ⟨by simp, fun hs a x ha => ?_⟩
  by_cases hb : a.block = p
  · obtain ⟨blk, o, spot⟩ := a
    subst hb
    cases spot with
    | some s => simp [World.cell?, hp] at ha
    | none =>
      rw [cell_of_row' (setRow_heap w blk arr _ ty (0, 0) hp)]
      rw [cell_of_row' hp] at ha
      rw [List.getElem?_toArray, getElem?_spl (by simpa using hfit)]
      split
      · rename_i hj
        exact absurd rfl (hl hs o _ hj.1 hj.2 ha x)
      · simpa using ha
  · rw [cell_setRow_other w p _ a hb]; exact ha

theorem Tn.set (h : SRel M B ρ w S) (hk : ∀ {b k}, S.get b = some k → b < n) {b p off : Nat} {k : Bk} {arr : Array Value} {xs : List (AC)} {vs : List Value}
    (hb : S.get b = some k) (hp : ρ.loc b = some p) (ha : w.heap[p]? = some (.cells arr k.ty (0, 0))) (hx : rels M ρ w xs vs) (hfit : off + xs.length ≤ k.cells.length)
    (hl : loose1 M.strict ((k.cells.drop off).take xs.length) = true) :
    Tn M B ρ w S n ρ (w.setRow p (spl arr.toList off vs).toArray) (S.put b (some { k with cells := spl k.cells off xs })) n := by
  obtain ⟨p', arr', hp', hB, ha', hr, hle⟩ := h.read hb
  obtain rfl : p = p' := Option.some.inj (hp.symm.trans hp')
  obtain rfl : arr = arr' := by rw [ha] at ha'; injection ha' with e; injection e
  have hvl := hx.length
  have kp : Kept M.strict w (w.setRow p (spl arr.toList off vs).toArray) := by
    refine kept_setRow ha (by omega) fun hst j u h1 h2 hu => ?_
    have hc : (k.cells[j]?).isSome = true := by simp; omega
    obtain ⟨c, hc⟩ := Option.isSome_iff_exists.1 hc
    obtain ⟨u', hu', hcu⟩ := hr.get hc
    rw [List.getElem?_take, if_pos (by omega)] at hu'
    obtain rfl : u = u' := by
      have e : arr[j]? = some u' := by simpa using hu'
      rw [hu] at e; exact Option.some.inj e
    refine hcu.loose ?_
    unfold loose1 at hl
    rw [hst, Bool.not_true, Bool.false_or, List.all_eq_true] at hl
    refine hl c ?_
    rw [List.mem_iff_getElem?]
    refine ⟨j - off, ?_⟩
    rw [List.getElem?_take, if_pos (by omega), List.getElem?_drop, show off + (j - off) = j by omega]
    exact hc
  have hother : ∀ q, q ≠ p → (w.setRow p (spl arr.toList off vs).toArray).heap[q]? = w.heap[q]? := fun q hq => setRow_other w p q _ hq
  refine ⟨⟨?_, ?_, h.low kp.size fun q _ hq => hother q (by omega)⟩, Nat.le_refl _, fun _ _ => ⟨rfl, rfl⟩, ⟨rfl, rfl, rfl, fun q hq hn => hother q ?_, kp⟩, ?_, ?_⟩
  · intro b' k' hb'
    rw [Tr.get_put] at hb'
    split at hb'
    · rename_i e
      subst e
      obtain rfl := Option.some.inj hb'
      refine ⟨p, hp, hB, (spl arr.toList off vs).toArray, setRow_heap w p arr _ k.ty (0, 0) ha, ?_, ?_, ?_⟩
      · have e1 : (spl k.cells off xs).length = k.cells.length := spl_length hfit
        have e2 : (spl arr.toList off vs).take k.cells.length = spl (arr.toList.take k.cells.length) off vs := by
          apply List.ext_getElem?
          intro j
          rw [List.getElem?_take, getElem?_spl (by simp; omega), getElem?_spl (by simp; omega)]
          by_cases hj : j < k.cells.length
          · simp only [if_pos hj, List.getElem?_take]
          · rw [if_neg hj, if_neg (by omega), List.getElem?_take, if_neg hj]
        show rels M ρ _ (spl k.cells off xs) ((spl arr.toList off vs).toArray.toList.take (spl k.cells off xs).length)
        rw [e1]
        show rels M ρ _ _ ((spl arr.toList off vs).take k.cells.length)
        rw [e2]
        exact (hr.spl hx).mono (Env.le.refl _) kp
      · intro hg
        obtain ⟨q, hq, _, arr2, h1, h2, h3, h4⟩ := h.at' hb
        obtain rfl : p = q := Option.some.inj (hp.symm.trans hq)
        obtain rfl : arr = arr2 := by rw [ha] at h1; injection h1 with e; injection e
        have := h3 hg
        simp only [List.size_toArray]
        rw [spl_length (by simp; omega), spl_length hfit]
        simpa using this
      · intro hg
        obtain ⟨q, hq, _, arr2, h1, h2, h3, h4⟩ := h.at' hb
        obtain rfl : p = q := Option.some.inj (hp.symm.trans hq)
        obtain rfl : arr = arr2 := by rw [ha] at h1; injection h1 with e; injection e
        obtain ⟨c, hc, hs, hx⟩ := h4 hg
        refine ⟨c, hc, ?_, ?_⟩
        · simp only [List.size_toArray]
          rw [spl_length (by simp; omega)]
          simpa using hs
        · intro j u hj hu
          have e1 : (spl k.cells off xs).length = k.cells.length := spl_length hfit
          rw [e1] at hj
          rw [List.getElem?_toArray, getElem?_spl (by simp; omega), if_neg (by omega)] at hu
          exact hx j u hj (by simpa using hu)
    · rename_i e
      obtain ⟨q, h1, h2, h3⟩ := h.at' hb'
      refine ⟨q, h1, h2, h3.mono (Env.le.refl _) kp (hother q ?_)⟩
      rintro rfl
      exact e (h.inj hb' hb h1 hp)
  · intro b1 b2 k1 k2 q h1 h2 hq1 hq2
    rw [Tr.get_put] at h1 h2
    split at h1 <;> split at h2
    · omega
    · rename_i e1 e2; subst e1; exact h.inj hb h2 hq1 hq2
    · rename_i e1 e2; subst e2; exact h.inj h1 hb hq1 hq2
    · exact h.inj h1 h2 hq1 hq2
  · rintro rfl
    exact hn b k hb hp
  · intro b' k' q hb' hq
    rw [Tr.get_put] at hb'
    split at hb'
    · rename_i e; subst e; exact .inr ⟨_, k, hb, hq⟩
    · exact .inr ⟨_, k', hb', hq⟩
  · intro b' k' hb'
    rw [Tr.get_put] at hb'
    split at hb'
    · rename_i e; subst e; exact hk hb
    · exact hk hb'

/-- What 'fill' makes, part by part. -/
theorem fill_one (us : List Value) : ∀ (off m : Nat) (arr : Array Value), off + m + us.length ≤ arr.size →
    ((us.zipIdx m).foldl (fun (cs : Array Value) (x : Value × Nat) => cs.setIfInBounds (off + x.2) x.1) arr).toList = spl arr.toList (off + m) us := by
  induction us with
  | nil => intro off m arr h; simp [spl]
  | cons u us ih =>
    intro off m arr h
    simp only [List.length_cons] at h
    simp only [List.zipIdx_cons, List.foldl_cons]
    rw [ih off (m + 1) _ (by simp; omega)]
    apply List.ext_getElem?
    intro j
    rw [getElem?_spl (by simp; omega), getElem?_spl (by simp; omega)]
    simp only [Array.toList_setIfInBounds, List.length_cons, List.getElem?_set]
    by_cases h1 : j = off + m
    · subst h1
      rw [if_neg (by omega), if_pos rfl, if_pos (by simp; omega), if_pos (by omega)]
      simp
    · by_cases h2 : off + (m + 1) ≤ j ∧ j < off + (m + 1) + us.length
      · rw [if_pos h2, if_pos (by omega), show j - (off + m) = (j - (off + (m + 1))) + 1 by omega, List.getElem?_cons_succ]
      · rw [if_neg h2, if_neg (by omega), if_neg (by omega)]
end

/-- A value's cells. -/
def A1.cells : A1 → List (AC)
  | .one c => [c]
  | .agg cs => cs

theorem A1.rel.cells {M : Dom} {ρ : Env} {w : World} {x : A1} {u : Value} (h : x.rel M ρ w u) : rels M ρ w x.cells u.cells.toList := by
  cases x with
  | one c =>
    have h1 := AC.rel.oneCell h
    have e : u.cells = #[u] := by cases u <;> first | rfl | (simp [Value.oneCell'] at h1)
    rw [e]
    exact ⟨h, trivial⟩
  | agg cs => obtain ⟨us, rfl, h⟩ := h; exact h

def fillA (place : Nat → Option (Nat × Nat)) : List (AC) → List (Nat × A1) → Option (List (AC))
  | cells, [] => some cells
  | cells, (i, x) :: rest =>
    match place i with
    | none => none
    | some (off, size) => bif Nat.beq x.cells.length size && Nat.ble (off + x.cells.length) cells.length then fillA place (spl cells off x.cells) rest else none

theorem fill_rel {M : Dom} {ρ : Env} {w : World} {place : Nat → Option (Nat × Nat)} : ∀ (parts : List (Nat × A1)) (vals : List (Nat × Value)) (cells : List (AC)) (arr : Array Value) (r : List (AC)),
    parts.map (·.1) = vals.map (·.1) → rel1s M ρ w (parts.map (·.2)) (vals.map (·.2)) → rels M ρ w cells arr.toList → fillA place cells parts = some r →
    ∃ arr' : Array Value, Instr.fill place arr vals = some arr' ∧ rels M ρ w r arr'.toList := by
  intro parts
  induction parts with
  | nil =>
    intro vals cells arr r h1 h2 h3 h4
    cases vals with
    | nil => simp only [fillA, Option.some.injEq] at h4; subst h4; exact ⟨arr, rfl, h3⟩
    | cons v vs => simp at h1
  | cons p ps ih =>
    intro vals cells arr r h1 h2 h3 h4
    cases vals with
    | nil => simp at h1
    | cons v vs =>
      obtain ⟨i, x⟩ := p
      obtain ⟨i', u⟩ := v
      simp only [List.map_cons, List.cons.injEq] at h1
      obtain ⟨rfl, h1⟩ := h1
      obtain ⟨hx, h2⟩ := h2
      have hc := hx.cells
      have hlen := hc.length
      have hl3 := h3.length
      simp only [Array.length_toList] at hlen hl3
      unfold fillA at h4
      unfold Instr.fill
      cases hp : place i with
      | none => simp only [hp] at h4; cases h4
      | some os =>
        obtain ⟨off, size⟩ := os
        simp only [hp] at h4
        cases hcond : (Nat.beq x.cells.length size && Nat.ble (off + x.cells.length) cells.length) with
        | false => rw [hcond] at h4; simp at h4
        | true =>
          rw [hcond] at h4
          simp only [cond_true] at h4
          simp only [Bool.and_eq_true, Nat.ble_eq, beq_nat, decide_eq_true_eq] at hcond
          have e1 : ¬ (u.cells.size ≠ size || off + u.cells.size > arr.size) = true := by
            simp; omega
          simp only [if_neg e1]
          have e2 := fill_one u.cells.toList off 0 arr (by simp; omega)
          have e3 : (u.cells.zipIdx.foldl (fun (cs : Array Value) (x : Value × Nat) => cs.setIfInBounds (off + x.2) x.1) arr) = ((u.cells.toList.zipIdx 0).foldl (fun (cs : Array Value) (x : Value × Nat) => cs.setIfInBounds (off + x.2) x.1) arr) := by
            rw [← Array.foldl_toList]
            simp
          refine ih vs _ _ r h1 h2 ?_ h4
          have e4 : (u.cells.zipIdx.foldl (fun (cs : Array Value) (x : Value × Nat) => cs.setIfInBounds (off + x.2) x.1) arr).toList = spl arr.toList off u.cells.toList := by
            rw [e3, e2]
            simp
          have : rels M ρ w (spl cells off x.cells) (u.cells.zipIdx.foldl (fun (cs : Array Value) (x : Value × Nat) => cs.setIfInBounds (off + x.2) x.1) arr).toList := by
            rw [e4]; exact h3.spl hc
          exact this
end Go.Ev
