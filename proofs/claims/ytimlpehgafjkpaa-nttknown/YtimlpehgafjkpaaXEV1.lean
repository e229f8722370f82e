/- A reader of closed calls: values and rows as it knows them, and what they stand for in memory. Nothing of the program is named here. -/
import Derived.WalkKit
import Derived.Deep.MidRow
namespace Go.Ev
open Go.RowKit
set_option linter.unusedVariables false
set_option linter.unusedSimpArgs false

/-! ### A tree of numbered places -/
inductive Tr (α : Type) where
  | e : Tr α
  | n (l : Tr α) (v : Option α) (r : Tr α) : Tr α

def Tr.get {α : Type} : Tr α → Nat → Option α
  | .e, _ => none
  | .n l v r, k => bif Nat.beq k 0 then v else bif Nat.beq (k % 2) 1 then l.get (k / 2) else r.get (k / 2 - 1)

def Tr.putF {α : Type} : Nat → Tr α → Nat → Option α → Tr α
  | 0, t, _, _ => t
  | f + 1, .e, k, a => bif Nat.beq k 0 then .n .e a .e else bif Nat.beq (k % 2) 1 then .n (Tr.putF f .e (k / 2) a) none .e else .n .e none (Tr.putF f .e (k / 2 - 1) a)
  | f + 1, .n l v r, k, a => bif Nat.beq k 0 then .n l a r else bif Nat.beq (k % 2) 1 then .n (Tr.putF f l (k / 2) a) v r else .n l v (Tr.putF f r (k / 2 - 1) a)

def Tr.put {α : Type} (t : Tr α) (k : Nat) (a : Option α) : Tr α := Tr.putF (k + 1) t k a

theorem beq_nat (a b : Nat) : Nat.beq a b = decide (a = b) := by
  rw [Bool.eq_iff_iff]; simp

theorem cond_decide {α : Type} (p : Prop) [Decidable p] (a b : α) : (bif decide p then a else b) = if p then a else b := by by_cases h : p <;> simp [h]

theorem Tr.get_e {α : Type} (k : Nat) : (Tr.e : Tr α).get k = none := rfl
theorem Tr.get_n {α : Type} (l r : Tr α) (v : Option α) (k : Nat) : (Tr.n l v r).get k = if k = 0 then v else if k % 2 = 1 then l.get (k / 2) else r.get (k / 2 - 1) := by
  simp only [Tr.get, beq_nat, cond_decide]

theorem Tr.get_putF {α : Type} : ∀ (f : Nat) (t : Tr α) (k j : Nat) (a : Option α), k < f → (Tr.putF f t k a).get j = if j = k then a else t.get j := by
  intro f
  induction f with
  | zero => intro t k j a h; omega
  | succ f ih =>
    intro t k j a h
    cases t with
    | e =>
      simp only [Tr.putF, beq_nat, cond_decide]
      by_cases h0 : k = 0
      · subst h0
        simp only [if_true, Tr.get_n, Tr.get_e]
        by_cases hj : j = 0
        · simp [hj]
        · simp [hj]
      · simp only [if_neg h0]
        by_cases h1 : k % 2 = 1
        · simp only [if_pos h1, Tr.get_n, ih _ _ _ _ (show k / 2 < f by omega), Tr.get_e]
          by_cases hj : j = k
          · subst hj; simp [h0, h1]
          · simp only [if_neg hj]
            by_cases hj0 : j = 0
            · simp [hj0]
            · by_cases hj1 : j % 2 = 1
              · simp only [if_neg hj0, if_pos hj1, if_neg (show ¬ j / 2 = k / 2 by omega)]
              · simp [hj0, hj1]
        · simp only [if_neg h1, Tr.get_n, ih _ _ _ _ (show k / 2 - 1 < f by omega), Tr.get_e]
          by_cases hj : j = k
          · subst hj; simp [h0, h1]
          · simp only [if_neg hj]
            by_cases hj0 : j = 0
            · simp [hj0]
            · by_cases hj1 : j % 2 = 1
              · simp [hj0, hj1]
              · simp only [if_neg hj0, if_neg hj1, if_neg (show ¬ j / 2 - 1 = k / 2 - 1 by omega)]
    | n l v r =>
      simp only [Tr.putF, beq_nat, cond_decide]
      by_cases h0 : k = 0
      · subst h0
        simp only [if_true, Tr.get_n]
        by_cases hj : j = 0
        · simp [hj]
        · simp [hj]
      · simp only [if_neg h0]
        by_cases h1 : k % 2 = 1
        · simp only [if_pos h1, Tr.get_n, ih _ _ _ _ (show k / 2 < f by omega)]
          by_cases hj : j = k
          · subst hj; simp [h0, h1]
          · simp only [if_neg hj]
            by_cases hj0 : j = 0
            · simp [hj0]
            · by_cases hj1 : j % 2 = 1
              · simp only [if_neg hj0, if_pos hj1, if_neg (show ¬ j / 2 = k / 2 by omega)]
              · simp [hj0, hj1]
        · simp only [if_neg h1, Tr.get_n, ih _ _ _ _ (show k / 2 - 1 < f by omega)]
          by_cases hj : j = k
          · subst hj; simp [h0, h1]
          · simp only [if_neg hj]
            by_cases hj0 : j = 0
            · simp [hj0]
            · by_cases hj1 : j % 2 = 1
              · simp [hj0, hj1]
              · simp only [if_neg hj0, if_neg hj1, if_neg (show ¬ j / 2 - 1 = k / 2 - 1 by omega)]

theorem Tr.get_put {α : Type} (t : Tr α) (k j : Nat) (a : Option α) : (t.put k a).get j = if j = k then a else t.get j := Tr.get_putF _ _ _ _ _ (by omega)

/-! ### Values -/
/-- Rational numbers, as they came to be. -/
inductive RE where
  | c (num : Int) (den : Nat)
  | v (i : Nat)
  | add (a b : RE)
  | sub (a b : RE)
  | mul (a b : RE)
  | div (a b : RE)
  | neg (a : RE)
  deriving DecidableEq

/-- What is known by what it says alone. -/
inductive At where
  | sym (i : Nat)
  | neg (q : RE)
  | num (q : RE)
  | den (q : RE)
  | emp
  deriving DecidableEq

inductive Cap where
  | known (n : Nat)
  | blk
  | any

/-- One cell: what is written out, a place of the reader's own, a slice of it, or something that is known by what it says alone. -/
inductive AC where
  | lit (v : Value)
  | ptr (b off : Nat)
  | slc (b off len : Nat) (c : Cap)
  | atom (d : At)

inductive A1 where
  | one (c : AC)
  | agg (cs : List (AC))

inductive AV where
  | v (x : A1)
  | tup (xs : List (A1))

structure Bk where
  ty : TypeId
  cells : List (AC)
  sz : Nat
  grown : Bool

structure Env where
  loc : Nat → Option Nat
  cap : Nat → Option Nat

/-- No limb has turned. -/
structure Kept (s : Bool) (w w' : World) : Prop where
  size : w.heap.size ≤ w'.heap.size
  cell : s = true → ∀ a x, w.cell? a = some (.int .u32 x) → w'.cell? a = some (.int .u32 x)

theorem Kept.refl (s : Bool) (w : World) : Kept s w w := ⟨Nat.le_refl _, fun _ _ _ h => h⟩
theorem Kept.trans {s : Bool} {a b c : World} (h : Kept s a b) (k : Kept s b c) : Kept s a c := ⟨Nat.le_trans h.size k.size, fun hs p x hx => k.cell hs p x (h.cell hs p x hx)⟩

structure Dom where
  /-- Does what is known by what it says rest on limbs? Then none is written anew. -/
  strict : Bool
  rel : World → At → Value → Prop
  keep : ∀ {w w' : World} {d : At} {u : Value}, Kept strict w w' → rel w d u → rel w' d u
  cell : ∀ {w : World} {d : At} {u : Value}, rel w d u → u.oneCell' = true ∧ ∀ x, u ≠ .int .u32 x
  /-- What stands for good in memory of old. -/
  glob : Nat → Option (List Value)

section
variable (M : Dom) (ρ : Env) (w : World)

def AC.rel : AC → Value → Prop
  | .lit v, u => u = v ∧ v.oneCell' = true
  | .ptr b off, u => ∃ p, ρ.loc b = some p ∧ u = .pointer (some ⟨p, off, none⟩)
  | .slc b off len c, u => ∃ p k, ρ.loc b = some p ∧ u = .slice (some ⟨p, off, none⟩) len k ∧ len ≤ k ∧ k ≤ maxLen ∧
      (match c with | .known n => k = n | .blk => ρ.cap b = some k ∧ off = 0 | .any => True)
  | .atom d, u => M.rel w d u

def rels : List (AC) → List Value → Prop
  | [], [] => True
  | c :: cs, u :: us => c.rel M ρ w u ∧ rels cs us
  | _, _ => False

def A1.rel : A1 → Value → Prop
  | .one c, u => c.rel M ρ w u
  | .agg cs, u => ∃ us : List Value, u = .agg us.toArray ∧ rels M ρ w cs us

def rel1s : List (A1) → List Value → Prop
  | [], [] => True
  | c :: cs, u :: us => c.rel M ρ w u ∧ rel1s cs us
  | _, _ => False

def AV.rel : AV → Value → Prop
  | .v x, u => x.rel M ρ w u
  | .tup xs, u => ∃ us : List Value, u = .tuple us.toArray ∧ rel1s M ρ w xs us

def Bk.rel (b p : Nat) (k : Bk) : Prop :=
  ∃ arr : Array Value, w.heap[p]? = some (.cells arr k.ty (0, 0)) ∧ rels M ρ w k.cells (arr.toList.take k.cells.length) ∧
    (k.grown = false → arr.size = k.cells.length) ∧ (k.grown = true → ∃ c, ρ.cap b = some c ∧ arr.size = c * k.sz ∧ ∀ j u, k.cells.length ≤ j → arr[j]? = some u → M.strict = true → ∀ x, u ≠ .int .u32 x)
end

/-- What is known stays so. -/
structure Env.le (ρ ρ' : Env) : Prop where
  loc : ∀ {b p}, ρ.loc b = some p → ρ'.loc b = some p
  cap : ∀ {b k}, ρ.cap b = some k → ρ'.cap b = some k
theorem Env.le.refl (ρ : Env) : ρ.le ρ := ⟨id, id⟩
theorem Env.le.trans {a b c : Env} (h : a.le b) (k : b.le c) : a.le c := ⟨fun x => k.loc (h.loc x), fun x => k.cap (h.cap x)⟩

section
variable {M : Dom} {ρ ρ' : Env} {w w' : World}

theorem AC.rel.mono {c : AC} {u : Value} (h : c.rel M ρ w u) (e : ρ.le ρ') (k : Kept M.strict w w') : c.rel M ρ' w' u := by
  cases c with
  | lit v => exact h
  | ptr b off => obtain ⟨p, h1, h2⟩ := h; exact ⟨p, e.loc h1, h2⟩
  | slc b off len c =>
    obtain ⟨p, n, h1, h2, h3, h4, h5⟩ := h
    refine ⟨p, n, e.loc h1, h2, h3, h4, ?_⟩
    cases c with
    | known m => exact h5
    | blk => exact ⟨e.cap h5.1, h5.2⟩
    | any => trivial
  | atom d => exact M.keep k h

theorem AC.rel.oneCell {c : AC} {u : Value} (h : c.rel M ρ w u) : u.oneCell' = true := by
  cases c with
  | lit v => obtain ⟨rfl, h⟩ := h; exact h
  | ptr b off => obtain ⟨p, h1, rfl⟩ := h; rfl
  | slc b off len c => obtain ⟨p, n, h1, rfl, _⟩ := h; rfl
  | atom d => exact (M.cell h).1

theorem rels.mono {cs : List (AC)} : ∀ {us : List Value}, rels M ρ w cs us → ρ.le ρ' → Kept M.strict w w' → rels M ρ' w' cs us := by
  induction cs with
  | nil => intro us h e k; cases us with | nil => trivial | cons u us => exact h
  | cons c cs ih =>
    intro us h e k
    cases us with
    | nil => exact h
    | cons u us => exact ⟨h.1.mono e k, ih h.2 e k⟩

theorem rels.length {cs : List (AC)} : ∀ {us : List Value}, rels M ρ w cs us → us.length = cs.length := by
  induction cs with
  | nil => intro us h; cases us with | nil => rfl | cons u us => exact h.elim
  | cons c cs ih =>
    intro us h
    cases us with
    | nil => exact h.elim
    | cons u us => simp [ih h.2]

theorem rels.get {cs : List (AC)} : ∀ {us : List Value} {i : Nat} {c : AC}, rels M ρ w cs us → cs[i]? = some c → ∃ u, us[i]? = some u ∧ c.rel M ρ w u := by
  induction cs with
  | nil => intro us i c h hc; simp at hc
  | cons c0 cs ih =>
    intro us i c h hc
    cases us with
    | nil => exact h.elim
    | cons u us =>
      cases i with
      | zero => simp at hc; subst hc; exact ⟨u, rfl, h.1⟩
      | succ i => simp at hc; simpa using ih h.2 hc

theorem rels.append {cs cs' : List (AC)} : ∀ {us us' : List Value}, rels M ρ w cs us → rels M ρ w cs' us' → rels M ρ w (cs ++ cs') (us ++ us') := by
  induction cs with
  | nil => intro us us' h h'; cases us with | nil => exact h' | cons u us => exact h.elim
  | cons c cs ih =>
    intro us us' h h'
    cases us with
    | nil => exact h.elim
    | cons u us => exact ⟨h.1, ih h.2 h'⟩

theorem rels.take {cs : List (AC)} : ∀ {us : List Value} (n : Nat), rels M ρ w cs us → rels M ρ w (cs.take n) (us.take n) := by
  induction cs with
  | nil => intro us n h; cases us with | nil => simpa using h | cons u us => exact h.elim
  | cons c cs ih =>
    intro us n h
    cases us with
    | nil => exact h.elim
    | cons u us =>
      cases n with
      | zero => simp [rels]
      | succ n => exact ⟨h.1, ih n h.2⟩

theorem rels.drop {cs : List (AC)} : ∀ {us : List Value} (n : Nat), rels M ρ w cs us → rels M ρ w (cs.drop n) (us.drop n) := by
  induction cs with
  | nil => intro us n h; cases us with | nil => simpa using h | cons u us => exact h.elim
  | cons c cs ih =>
    intro us n h
    cases us with
    | nil => exact h.elim
    | cons u us =>
      cases n with
      | zero => exact h
      | succ n => exact ih n h.2

theorem rels.oneCell {cs : List (AC)} : ∀ {us : List Value}, rels M ρ w cs us → ∀ u ∈ us, u.oneCell' = true := by
  induction cs with
  | nil => intro us h u hu; cases us with | nil => cases hu | cons u us => exact h.elim
  | cons c cs ih =>
    intro us h u hu
    cases us with
    | nil => exact h.elim
    | cons v us =>
      rcases List.mem_cons.1 hu with rfl | hu
      · exact h.1.oneCell
      · exact ih h.2 u hu

theorem A1.rel.mono {x : A1} {u : Value} (h : x.rel M ρ w u) (e : ρ.le ρ') (k : Kept M.strict w w') : x.rel M ρ' w' u := by
  cases x with
  | one c => exact AC.rel.mono h e k
  | agg cs => obtain ⟨us, h1, h2⟩ := h; exact ⟨us, h1, h2.mono e k⟩

theorem rel1s.mono {cs : List (A1)} : ∀ {us : List Value}, rel1s M ρ w cs us → ρ.le ρ' → Kept M.strict w w' → rel1s M ρ' w' cs us := by
  induction cs with
  | nil => intro us h e k; cases us with | nil => trivial | cons u us => exact h
  | cons c cs ih =>
    intro us h e k
    cases us with
    | nil => exact h
    | cons u us => exact ⟨h.1.mono e k, ih h.2 e k⟩

theorem rel1s.length {cs : List (A1)} : ∀ {us : List Value}, rel1s M ρ w cs us → us.length = cs.length := by
  induction cs with
  | nil => intro us h; cases us with | nil => rfl | cons u us => exact h.elim
  | cons c cs ih =>
    intro us h
    cases us with
    | nil => exact h.elim
    | cons u us => simp [ih h.2]

theorem rel1s.get {cs : List (A1)} : ∀ {us : List Value} {i : Nat} {c : A1}, rel1s M ρ w cs us → cs[i]? = some c → ∃ u, us[i]? = some u ∧ c.rel M ρ w u := by
  induction cs with
  | nil => intro us i c h hc; simp at hc
  | cons c0 cs ih =>
    intro us i c h hc
    cases us with
    | nil => exact h.elim
    | cons u us =>
      cases i with
      | zero => simp at hc; subst hc; exact ⟨u, rfl, h.1⟩
      | succ i => simp at hc; simpa using ih h.2 hc

theorem AV.rel.mono {x : AV} {u : Value} (h : x.rel M ρ w u) (e : ρ.le ρ') (k : Kept M.strict w w') : x.rel M ρ' w' u := by
  cases x with
  | v c => exact A1.rel.mono h e k
  | tup cs => obtain ⟨us, h1, h2⟩ := h; exact ⟨us, h1, h2.mono e k⟩

/-- A block whose memory has not turned. -/
theorem Bk.rel.mono {b p : Nat} {k : Bk} (h : k.rel M ρ w b p) (e : ρ.le ρ') (kp : Kept M.strict w w') (hb : w'.heap[p]? = w.heap[p]?) : k.rel M ρ' w' b p := by
  obtain ⟨arr, h1, h2, h3, h4⟩ := h
  refine ⟨arr, hb.trans h1, h2.mono e kp, h3, fun hg => ?_⟩
  obtain ⟨c, hc, hs⟩ := h4 hg
  exact ⟨c, e.cap hc, hs⟩

theorem Bk.rel.lt {b p : Nat} {k : Bk} (h : k.rel M ρ w b p) : p < w.heap.size := by
  obtain ⟨arr, h1, _⟩ := h
  exact (Array.getElem?_eq_some_iff.1 h1).1
end

/-! ### What is in memory -/
structure SRel (M : Dom) (B : Nat) (ρ : Env) (w : World) (S : Tr (Bk)) : Prop where
  at' : ∀ {b k}, S.get b = some k → ∃ p, ρ.loc b = some p ∧ B ≤ p ∧ k.rel M ρ w b p
  inj : ∀ {b b' k k' p}, S.get b = some k → S.get b' = some k' → ρ.loc b = some p → ρ.loc b' = some p → b = b'
  glob : ∀ {g vs}, M.glob g = some vs → g < B ∧ g < w.heap.size ∧ ∀ j v, vs[j]? = some v → w.cell? ⟨g, j, none⟩ = some v

theorem SRel.low {M : Dom} {B : Nat} {ρ : Env} {w w' : World} {S : Tr (Bk)} (h : SRel M B ρ w S) (hs : w.heap.size ≤ w'.heap.size) (hf : ∀ p, p < w.heap.size → p < B → w'.heap[p]? = w.heap[p]?) :
    ∀ {g vs}, M.glob g = some vs → g < B ∧ g < w'.heap.size ∧ ∀ j v, vs[j]? = some v → w'.cell? ⟨g, j, none⟩ = some v := by
  intro g vs hg
  obtain ⟨h1, h2, h3⟩ := h.glob hg
  refine ⟨h1, Nat.lt_of_lt_of_le h2 hs, fun j v hv => ?_⟩
  rw [← h3 j v hv]
  unfold World.cell?
  simp only [hf g h2 h1]

/-- What else is in memory stays as it was. -/
structure Fr (M : Dom) (ρ : Env) (S : Tr (Bk)) (w w' : World) : Prop where
  os : w'.os = w.os
  tape : w'.tape = w.tape
  output : w'.output = w.output
  far : ∀ p, p < w.heap.size → (∀ b k, S.get b = some k → ρ.loc b ≠ some p) → w'.heap[p]? = w.heap[p]?
  kept : Kept M.strict w w'

/-- From (ρ, w, S) to (ρ', w', S'), the numbers from n to n' newly given. -/
structure Tn (M : Dom) (B : Nat) (ρ : Env) (w : World) (S : Tr (Bk)) (n : Nat) (ρ' : Env) (w' : World) (S' : Tr (Bk)) (n' : Nat) : Prop where
  rel : SRel M B ρ' w' S'
  le : n ≤ n'
  env : ∀ b, b < n ∨ n' ≤ b → ρ'.loc b = ρ.loc b ∧ ρ'.cap b = ρ.cap b
  fr : Fr M ρ S w w'
  src : ∀ {b k p}, S'.get b = some k → ρ'.loc b = some p → w.heap.size ≤ p ∨ ∃ b0 k0, S.get b0 = some k0 ∧ ρ.loc b0 = some p
  keys : ∀ {b k}, S'.get b = some k → b < n'

/-- The numbers from n to n' are not given yet. -/
def Free (ρ : Env) (n n' : Nat) : Prop := ∀ b, n ≤ b → b < n' → ρ.loc b = none ∧ ρ.cap b = none

theorem Free.sub {ρ : Env} {n n' m m' : Nat} (h : Free ρ n n') (h1 : n ≤ m) (h2 : m' ≤ n') : Free ρ m m' := fun b a c => h b (by omega) (by omega)

section
variable {M : Dom} {B : Nat} {ρ ρ' ρ'' : Env} {w w' w'' : World} {S S' S'' : Tr (Bk)} {n n' n'' : Nat}

theorem Tn.up (h : Tn M B ρ w S n ρ' w' S' n') (hf : Free ρ n n') : ρ.le ρ' := by
  refine ⟨fun {b p} hb => ?_, fun {b k} hb => ?_⟩
  · by_cases hr : b < n ∨ n' ≤ b
    · rw [(h.env b hr).1]; exact hb
    · rw [(hf b (by omega) (by omega)).1] at hb; cases hb
  · by_cases hr : b < n ∨ n' ≤ b
    · rw [(h.env b hr).2]; exact hb
    · rw [(hf b (by omega) (by omega)).2] at hb; cases hb

theorem Tn.free (h : Tn M B ρ w S n ρ' w' S' n') {m m' : Nat} (hf : Free ρ m m') (hd : m' ≤ n ∨ n' ≤ m) : Free ρ' m m' := fun b a c => by
  obtain ⟨h1, h2⟩ := h.env b (by omega)
  rw [h1, h2]; exact hf b a c

theorem Tn.refl (h : SRel M B ρ w S) (n : Nat) (hk : ∀ {b k}, S.get b = some k → b < n) : Tn M B ρ w S n ρ w S n :=
  ⟨h, Nat.le_refl _, fun _ _ => ⟨rfl, rfl⟩, ⟨rfl, rfl, rfl, fun _ _ _ => rfl, Kept.refl _ _⟩, fun hb hp => .inr ⟨_, _, hb, hp⟩, hk⟩

theorem Fr.trans {S S' : Tr (Bk)} (h : Fr M ρ S w w') (k : Fr M ρ' S' w' w'') (src : ∀ {b k p}, S'.get b = some k → ρ'.loc b = some p → w.heap.size ≤ p ∨ ∃ b0 k0, S.get b0 = some k0 ∧ ρ.loc b0 = some p) : Fr M ρ S w w'' := by
  refine ⟨k.os.trans h.os, k.tape.trans h.tape, k.output.trans h.output, fun p hp hn => ?_, h.kept.trans k.kept⟩
  rw [k.far p (Nat.lt_of_lt_of_le hp h.kept.size) (fun b kk hb hl => ?_), h.far p hp hn]
  rcases src hb hl with hge | ⟨b0, k0, hb0, hl0⟩
  · omega
  · exact hn b0 k0 hb0 hl0

theorem Tn.trans (h : Tn M B ρ w S n ρ' w' S' n') (k : Tn M B ρ' w' S' n' ρ'' w'' S'' n'') : Tn M B ρ w S n ρ'' w'' S'' n'' := by
  refine ⟨k.rel, Nat.le_trans h.le k.le, fun b hb => ?_, h.fr.trans k.fr h.src, fun {b kk p} hb hl => ?_, k.keys⟩
  · have h1 := h.le
    have h2 := k.le
    obtain ⟨e1, e2⟩ := k.env b (by omega)
    obtain ⟨e3, e4⟩ := h.env b (by omega)
    exact ⟨e1.trans e3, e2.trans e4⟩
  · rcases k.src hb hl with hge | ⟨b0, k0, hb0, hl0⟩
    · exact .inl (Nat.le_trans h.fr.kept.size hge)
    · exact h.src hb0 hl0

/-- Less may be said of memory. -/
theorem SRel.sub (h : SRel M B ρ w S) (hs : ∀ {b k}, S'.get b = some k → S.get b = some k) : SRel M B ρ w S' :=
  ⟨fun hb => h.at' (hs hb), fun hb hb' hp hp' => h.inj (hs hb) (hs hb') hp hp', h.glob⟩
theorem Tn.less (h : Tn M B ρ w S n ρ' w' S' n') (hs : ∀ {b k}, S''.get b = some k → S'.get b = some k) : Tn M B ρ w S n ρ' w' S'' n' :=
  ⟨h.rel.sub hs, h.le, h.env, h.fr, fun hb hp => h.src (hs hb) hp, fun hb => h.keys (hs hb)⟩

/-- A new block. -/
def Env.with (ρ : Env) (n p : Nat) (c : Option Nat) : Env := ⟨fun b => if b = n then some p else ρ.loc b, fun b => if b = n then c else ρ.cap b⟩

theorem kept_alloc (s : Bool) (w : World) (o : Obj) : Kept s w (w.alloc o) :=
  ⟨by simp, fun _ a x h => by rw [World.cell?_of_block (heap_alloc_old w o (World.block_lt_of_cell? w a h))]; exact h⟩

theorem Tn.alloc (h : SRel M B ρ w S) (hB : B ≤ w.heap.size) (hk : ∀ {b k}, S.get b = some k → b < n) (hf : Free ρ n (n + 1)) (ty : TypeId) (cs : List (AC)) (us : List Value) (hc : rels M ρ w cs us) :
    Tn M B ρ w S n (ρ.with n w.heap.size none) (w.alloc (.cells us.toArray ty)) (S.put n (some ⟨ty, cs, 0, false⟩)) (n + 1) := by
  have hl : w.heap.size < (w.alloc (.cells us.toArray ty)).heap.size := by simp
  have hlo : ρ.le (ρ.with n w.heap.size none) := by
    refine ⟨fun {b p} hb => ?_, fun {b k} hb => ?_⟩
    · simp only [Env.with]
      split
      · rename_i e; subst e; rw [(hf b (by omega) (by omega)).1] at hb; cases hb
      · exact hb
    · simp only [Env.with]
      split
      · rename_i e; subst e; rw [(hf b (by omega) (by omega)).2] at hb; cases hb
      · exact hb
  have kp := kept_alloc M.strict w (.cells us.toArray ty)
  refine ⟨⟨?_, ?_, h.low kp.size fun p hp _ => heap_alloc_old w _ hp⟩, by omega, fun b hb => ?_, ⟨rfl, rfl, rfl, fun p hp _ => heap_alloc_old w _ hp, kp⟩, ?_, ?_⟩
  · intro b k hb
    rw [Tr.get_put] at hb
    split at hb
    · rename_i e
      subst e
      obtain rfl := Option.some.inj hb
      refine ⟨w.heap.size, by simp [Env.with], hB, us.toArray, heap_alloc_new w _, ?_, fun _ => by simp [hc.length], fun h => by cases h⟩
      simp only [← hc.length, List.take_length]
      exact hc.mono hlo kp
    · rename_i e
      obtain ⟨p, h1, h2, h3⟩ := h.at' hb
      exact ⟨p, hlo.loc h1, h2, h3.mono hlo kp (heap_alloc_old w _ h3.lt)⟩
  · intro b b' k k' p hb hb' hp hp'
    rw [Tr.get_put] at hb hb'
    split at hb <;> split at hb'
    · omega
    · rename_i e e'
      simp only [Env.with, if_pos e, if_neg e'] at hp hp'
      obtain rfl := Option.some.inj hp
      obtain ⟨p, h1, h2, h3⟩ := h.at' hb'
      rw [h1] at hp'
      obtain rfl := Option.some.inj hp'
      have := h3.lt
      omega
    · rename_i e e'
      simp only [Env.with, if_pos e', if_neg e] at hp hp'
      obtain rfl := Option.some.inj hp'
      obtain ⟨p, h1, h2, h3⟩ := h.at' hb
      rw [h1] at hp
      obtain rfl := Option.some.inj hp
      have := h3.lt
      omega
    · rename_i e e'
      simp only [Env.with, if_neg e, if_neg e'] at hp hp'
      exact h.inj hb hb' hp hp'
  · simp only [Env.with]
    have : b ≠ n := by omega
    simp [this]
  · intro b k p hb hp
    rw [Tr.get_put] at hb
    split at hb
    · rename_i e
      subst e
      simp only [Env.with, if_true] at hp
      obtain rfl := Option.some.inj hp
      exact .inl (Nat.le_refl _)
    · rename_i e
      simp only [Env.with, if_neg e] at hp
      exact .inr ⟨b, k, hb, hp⟩
  · intro b k hb
    rw [Tr.get_put] at hb
    split at hb
    · omega
    · have := hk hb; omega
end
end Go.Ev
