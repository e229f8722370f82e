/- Plain mathematics of limbs of 32 bits: lists of numbers below 2^32, the lowest first, and the number that they say. Nothing of the program is named here. -/
/- Memory as the proofs speak of it: a slice of uint32 that reads as limbs ('Rd'), a row of uint32 that the call itself made ('Blk'), worlds in which nothing old has turned ('Fwd'), and the walk's laws for make, copy and append over these. -/
/- Contracts of nat's helpers: trim, widen, clone. -/
/- Contracts of nat's loops over limbs: addTo, takeFrom, addTimes. -/
/- Contracts of nat's Cmp, Add, Sub, Mul. -/
/- Contracts of nat's Add, Sub, Mul. -/
/- Contract of nat's Mul. -/
/- Contracts of nat's divideByLimb and Of. -/
import Derived.Test.YtimlpehgafjkpaaChecked
import Derived.WalkKit
import Derived.WalkLawsBesides
import Derived.WalkSpells
import Derived.Handy
import Derived.Laws.CopyOwn
import Derived.Laws.BitsAllLaws
import Derived.Deep.OwnRows
import Derived.Deep.Draws
import Derived.Outline
import Derived.BigQuiet
import Derived.Deep.QuietTactic
namespace Go.Proofs.Ytimlpehgafjkpaa

/-- What limbs say. -/
def val : List Nat → Nat
  | [] => 0
  | x :: xs => x + 4294967296 * val xs

/-- All limbs are below 2^32. -/
def Ok (xs : List Nat) : Prop := ∀ x ∈ xs, x < 4294967296

/-- The limbs of a number, none of them on top being nought. -/
def limF : Nat → Nat → List Nat
  | 0, _ => []
  | f + 1, n => if n = 0 then [] else n % 4294967296 :: limF f (n / 4294967296)
def lim (n : Nat) : List Nat := limF n n
theorem limF_any (f : Nat) : ∀ g n, n ≤ f → n ≤ g → limF f n = limF g n := by
  induction f with
  | zero =>
    intro g n h1 h2
    obtain rfl : n = 0 := by omega
    cases g with
    | zero => rfl
    | succ g => simp [limF]
  | succ f ih =>
    intro g n h1 h2
    cases g with
    | zero =>
      obtain rfl : n = 0 := by omega
      simp [limF]
    | succ g =>
      by_cases h0 : n = 0
      · subst h0; simp [limF]
      · simp only [limF, if_neg h0]
        rw [ih g (n / 4294967296) (by omega) (by omega)]

/-- How long what is left is, without noughts on top, of the first n limbs. -/
def tlen (xs : List Nat) : Nat → Nat
  | 0 => 0
  | n + 1 => if xs.getD n 0 = 0 then tlen xs n else n + 1

theorem Ok.nil : Ok [] := by intro x h; cases h
theorem Ok.cons {x : Nat} {xs : List Nat} (h : x < 4294967296) (k : Ok xs) : Ok (x :: xs) := by
  intro y hy; cases hy with
  | head => exact h
  | tail _ h => exact k y h
theorem Ok.head {x : Nat} {xs : List Nat} (h : Ok (x :: xs)) : x < 4294967296 := h x (by simp)
theorem Ok.tail {x : Nat} {xs : List Nat} (h : Ok (x :: xs)) : Ok xs := fun y hy => h y (by simp [hy])
theorem Ok.getD {xs : List Nat} (h : Ok xs) (i : Nat) : xs.getD i 0 < 4294967296 := by
  by_cases hi : i < xs.length
  · rw [List.getD_eq_getElem?_getD, List.getElem?_eq_getElem hi]; exact h _ (List.getElem_mem hi)
  · rw [List.getD_eq_getElem?_getD, List.getElem?_eq_none (by omega)]; simp
theorem Ok.append {xs ys : List Nat} (h : Ok xs) (k : Ok ys) : Ok (xs ++ ys) := by
  intro x hx; rcases List.mem_append.1 hx with hx | hx
  · exact h x hx
  · exact k x hx
theorem Ok.take {xs : List Nat} (h : Ok xs) (n : Nat) : Ok (xs.take n) := fun x hx => h x (List.mem_of_mem_take hx)
theorem Ok.drop {xs : List Nat} (h : Ok xs) (n : Nat) : Ok (xs.drop n) := fun x hx => h x (List.mem_of_mem_drop hx)
theorem Ok.set {xs : List Nat} (h : Ok xs) (n v : Nat) (hv : v < 4294967296) : Ok (xs.set n v) := by
  intro x hx; rcases List.mem_or_eq_of_mem_set hx with hx | rfl
  · exact h x hx
  · exact hv
theorem Ok.replicate (n : Nat) : Ok (List.replicate n 0) := by
  intro x hx; rw [List.mem_replicate] at hx; omega

theorem lim_zero : lim 0 = [] := rfl
theorem lim_pos {n : Nat} (h : n ≠ 0) : lim n = n % 4294967296 :: lim (n / 4294967296) := by
  unfold lim
  cases n with
  | zero => exact absurd rfl h
  | succ m =>
    simp only [limF, if_neg h]
    rw [limF_any m ((m + 1) / 4294967296) ((m + 1) / 4294967296) (by omega) (by omega)]

theorem val_lim (n : Nat) : val (lim n) = n := by
  induction n using Nat.strongRecOn with
  | ind n ih =>
    by_cases h : n = 0
    · subst h; rw [lim_zero]; rfl
    · rw [lim_pos h, val, ih (n / 4294967296) (by omega)]; omega

theorem ok_lim (n : Nat) : Ok (lim n) := by
  induction n using Nat.strongRecOn with
  | ind n ih =>
    by_cases h : n = 0
    · subst h; rw [lim_zero]; exact Ok.nil
    · rw [lim_pos h]; exact Ok.cons (by omega) (ih _ (by omega))

/-- No nought on top. -/
def Norm (xs : List Nat) : Prop := xs.getLast? ≠ some 0

theorem norm_lim (n : Nat) : Norm (lim n) := by
  induction n using Nat.strongRecOn with
  | ind n ih =>
    by_cases h : n = 0
    · subst h; rw [lim_zero]; simp [Norm]
    · rw [lim_pos h]
      by_cases h2 : n / 4294967296 = 0
      · rw [h2, lim_zero]; simp [Norm]; omega
      · have := ih _ (show n / 4294967296 < n by omega)
        unfold Norm at *
        rw [lim_pos h2] at this ⊢
        rwa [List.getLast?_cons_cons]

theorem lim_val {xs : List Nat} (h : Ok xs) (k : Norm xs) : lim (val xs) = xs := by
  induction xs with
  | nil => exact lim_zero
  | cons x xs ih =>
    have hx := h.head
    have kt : Norm xs := by
      unfold Norm at *
      cases xs with
      | nil => simp
      | cons y ys => rwa [List.getLast?_cons_cons] at k
    have ih' := ih h.tail kt
    have hne : x + 4294967296 * val xs ≠ 0 := by
      intro e
      have hx0 : x = 0 := by omega
      have hv0 : val xs = 0 := by omega
      rw [hv0, lim_zero] at ih'
      subst hx0; rw [← ih'] at k; simp [Norm] at k
    show lim (x + 4294967296 * val xs) = _
    rw [lim_pos hne, show (x + 4294967296 * val xs) % 4294967296 = x by omega, show (x + 4294967296 * val xs) / 4294967296 = val xs by omega, ih']

theorem val_append (xs ys : List Nat) : val (xs ++ ys) = val xs + 4294967296 ^ xs.length * val ys := by
  induction xs with
  | nil => simp [val]
  | cons x xs ih => simp only [List.cons_append, val, ih, List.length_cons, Nat.pow_succ]; grind

theorem val_lt {xs : List Nat} (h : Ok xs) : val xs < 4294967296 ^ xs.length := by
  induction xs with
  | nil => simp [val]
  | cons x xs ih =>
    have := ih h.tail
    have hx := h.head
    simp only [val, List.length_cons, Nat.pow_succ]; omega

theorem val_replicate (n : Nat) : val (List.replicate n 0) = 0 := by
  induction n with
  | zero => rfl
  | succ n ih => rw [List.replicate_succ, val, ih]

theorem val_take_succ (xs : List Nat) (k : Nat) : val (xs.take (k + 1)) = val (xs.take k) + 4294967296 ^ k * xs.getD k 0 := by
  by_cases h : k < xs.length
  · rw [List.take_succ_eq_append_getElem h, val_append, List.length_take, Nat.min_eq_left (by omega)]
    simp [val, List.getD_eq_getElem?_getD, h]
  · rw [List.take_of_length_le (by omega), List.take_of_length_le (by omega), List.getD_eq_getElem?_getD, List.getElem?_eq_none (by omega)]; simp

theorem val_take_all {xs : List Nat} {k : Nat} (h : xs.length ≤ k) : val (xs.take k) = val xs := by rw [List.take_of_length_le h]

theorem take_set_succ (xs : List Nat) (k v : Nat) (h : k < xs.length) : (xs.set k v).take (k + 1) = xs.take k ++ [v] := by
  rw [List.take_succ_eq_append_getElem (by simpa using h), List.take_set_of_le (Nat.le_refl k)]; simp

theorem drop_set_succ (xs : List Nat) (k v : Nat) : (xs.set k v).drop (k + 1) = xs.drop (k + 1) := by
  rw [List.drop_set_of_lt (by omega)]

theorem val_take_lt {xs : List Nat} (h : Ok xs) (k : Nat) : val (xs.take k) < 4294967296 ^ k := by
  have h1 := val_lt (h.take k)
  have h2 : 4294967296 ^ (xs.take k).length ≤ 4294967296 ^ k := Nat.pow_le_pow_right (by omega) (by simp; omega)
  omega

/-! ### Without noughts on top -/
theorem tlen_le (xs : List Nat) (n : Nat) : tlen xs n ≤ n := by
  induction n with
  | zero => simp [tlen]
  | succ n ih => simp only [tlen]; split <;> omega

theorem val_tlen (xs : List Nat) (n : Nat) : val (xs.take (tlen xs n)) = val (xs.take n) := by
  induction n with
  | zero => rfl
  | succ n ih =>
    simp only [tlen]; split
    · rename_i h; rw [ih, val_take_succ, h]; simp
    · rfl

theorem norm_tlen (xs : List Nat) (n : Nat) : Norm (xs.take (tlen xs n)) := by
  induction n with
  | zero => simp [tlen, Norm]
  | succ n ih =>
    simp only [tlen]; split
    · exact ih
    · rename_i h
      by_cases hn : n < xs.length
      · rw [List.take_succ_eq_append_getElem hn]
        unfold Norm
        rw [List.getLast?_append, List.getLast?_singleton]
        rw [List.getD_eq_getElem?_getD, List.getElem?_eq_getElem hn] at h; simpa using h
      · rw [List.getD_eq_getElem?_getD, List.getElem?_eq_none (by omega)] at h; simp at h

/-- Limbs, without the noughts on top, are those of the number that they say. -/
theorem take_tlen {xs : List Nat} (h : Ok xs) : xs.take (tlen xs xs.length) = lim (val xs) := by
  have h1 := lim_val (h.take (tlen xs xs.length)) (norm_tlen xs xs.length)
  rw [val_tlen, List.take_length] at h1
  exact h1.symm

theorem tlen_lim {xs : List Nat} (h : Ok xs) : tlen xs xs.length = (lim (val xs)).length := by
  rw [← take_tlen h, List.length_take, Nat.min_eq_left (tlen_le _ _)]

/-! ### How many limbs -/
def nl (n : Nat) : Nat := (lim n).length

theorem nl_zero : nl 0 = 0 := by simp [nl, lim_zero]
theorem nl_pos {n : Nat} (h : n ≠ 0) : nl n = nl (n / 4294967296) + 1 := by simp [nl, lim_pos h]
theorem lt_pow_nl (n : Nat) : n < 4294967296 ^ nl n := by
  have := val_lt (ok_lim n); rwa [val_lim] at this

theorem nl_le_iff (n k : Nat) : nl n ≤ k ↔ n < 4294967296 ^ k := by
  constructor
  · intro h; exact Nat.lt_of_lt_of_le (lt_pow_nl n) (Nat.pow_le_pow_right (by omega) h)
  · intro h
    induction k generalizing n with
    | zero => simp at h; subst h; simp [nl_zero]
    | succ k ih =>
      by_cases hn : n = 0
      · subst hn; simp [nl_zero]
      · rw [nl_pos hn]
        have := ih (n / 4294967296) (by rw [Nat.pow_succ] at h; omega)
        omega

theorem nl_mono {a b : Nat} (h : a ≤ b) : nl a ≤ nl b := (nl_le_iff a (nl b)).2 (Nat.lt_of_le_of_lt h (lt_pow_nl b))

theorem nl_add (a b : Nat) : nl (a + b) ≤ max (nl a) (nl b) + 1 := by
  rw [nl_le_iff, Nat.pow_succ]
  have h1 := (nl_le_iff a (max (nl a) (nl b))).1 (by omega)
  have h2 := (nl_le_iff b (max (nl a) (nl b))).1 (by omega)
  omega

theorem nl_mul (a b : Nat) : nl (a * b) ≤ nl a + nl b := by
  rw [nl_le_iff, Nat.pow_add]
  exact Nat.mul_lt_mul'' (lt_pow_nl a) (lt_pow_nl b)

theorem nl_sub (a b : Nat) : nl (a - b) ≤ nl a := nl_mono (by omega)

theorem nl_ge_pow {n : Nat} (h : n ≠ 0) : 4294967296 ^ (nl n - 1) ≤ n := by
  rcases Nat.lt_or_ge n (4294967296 ^ (nl n - 1)) with hlt | hge
  · have := (nl_le_iff n (nl n - 1)).2 hlt
    have := nl_pos h
    omega
  · exact hge

theorem lim_eq_nil {n : Nat} : lim n = [] ↔ n = 0 := by
  constructor
  · intro h; have := val_lim n; rw [h] at this; exact this.symm
  · rintro rfl; exact lim_zero

theorem lim_inj {a b : Nat} (h : lim a = lim b) : a = b := by
  have := congrArg val h; rwa [val_lim, val_lim] at this

/-- Which of two numbers is less, limb by limb from the top. -/
theorem val_lt_of_top {xs ys : List Nat} (hx : Ok xs) (hl : xs.length = ys.length) (k : Nat)
    (heq : xs.drop (k + 1) = ys.drop (k + 1)) (hlt : xs.getD k 0 < ys.getD k 0) : val xs < val ys := by
  have e1 := val_append (xs.take (k + 1)) (xs.drop (k + 1))
  have e2 := val_append (ys.take (k + 1)) (ys.drop (k + 1))
  rw [List.take_append_drop] at e1 e2
  rw [e1, e2, heq, List.length_take, List.length_take, hl, val_take_succ, val_take_succ]
  have b1 := val_take_lt hx k
  have b3 : 4294967296 ^ k * xs.getD k 0 + 4294967296 ^ k ≤ 4294967296 ^ k * ys.getD k 0 := by
    rw [← Nat.mul_succ]; exact Nat.mul_le_mul_left _ hlt
  omega

theorem drop_eq_of_getD {xs ys : List Nat} (hl : xs.length = ys.length) (k : Nat) (h : ∀ i, k ≤ i → i < xs.length → xs.getD i 0 = ys.getD i 0) : xs.drop k = ys.drop k := by
  apply List.ext_getElem
  · simp [hl]
  · intro i h1 h2
    simp only [List.length_drop] at h1 h2
    have := h (k + i) (by omega) (by omega)
    rw [List.getD_eq_getElem?_getD, List.getD_eq_getElem?_getD, List.getElem?_eq_getElem (by omega), List.getElem?_eq_getElem (by omega)] at this
    simpa using this

/-! ### A limb set at place k -/
theorem getD_mid (pre zs post : List Nat) (k : Nat) (hk : k < zs.length) : (pre ++ (zs ++ post)).getD (pre.length + k) 0 = zs.getD k 0 := by
  rw [List.getD_eq_getElem?_getD, List.getD_eq_getElem?_getD, List.getElem?_append_right (by omega), List.getElem?_append_left (by omega)]
  congr 2; omega

theorem getD_of_drop {xs zs : List Nat} {k : Nat} (hd : zs.drop k = xs.drop k) : zs.getD k 0 = xs.getD k 0 := by
  have := congrArg (fun l => l[0]?) hd
  simp only [List.getElem?_drop, Nat.add_zero] at this
  rw [List.getD_eq_getElem?_getD, List.getD_eq_getElem?_getD, this]

theorem set_len (zs : List Nat) (k v : Nat) : (zs.set k v).length = zs.length := by simp

theorem set_drop {xs zs : List Nat} {k v : Nat} (hd : zs.drop k = xs.drop k) : (zs.set k v).drop (k + 1) = xs.drop (k + 1) := by
  rw [drop_set_succ, ← List.drop_drop, hd, List.drop_drop]

theorem set_val {zs : List Nat} {k v : Nat} (hk : k < zs.length) : val ((zs.set k v).take (k + 1)) = val (zs.take k) + 4294967296 ^ k * v := by
  rw [take_set_succ _ _ _ hk, val_append, List.length_take, Nat.min_eq_left (by omega)]; simp [val]

theorem val_split (xs : List Nat) (k : Nat) (hk : k ≤ xs.length) : val xs = val (xs.take k) + 4294967296 ^ k * val (xs.drop k) := by
  have := val_append (xs.take k) (xs.drop k)
  rw [List.take_append_drop, List.length_take, Nat.min_eq_left hk] at this
  exact this

/-- One step of a sum: x + y + c is a limb and what goes on. -/
theorem add_step {P X Y Z a b c s : Nat} (h : X + Y = Z + c * P) (s' : s = c + a + b) : X + P * a + (Y + P * b) = Z + P * (s % 4294967296) + s / 4294967296 * (P * 4294967296) := by
  have := Nat.div_add_mod s 4294967296
  have e : P * s = P * c + P * a + P * b := by rw [s']; grind
  have e2 : P * s = P * (s % 4294967296) + s / 4294967296 * (P * 4294967296) := by
    conv => lhs; rw [← this]
    grind
  grind

/-- One step of a difference. -/
theorem sub_step {P X Y Z c c' x y r : Nat} (h : X + c * P = Z + Y) (s : x + c' * 4294967296 = r + (c + y)) : X + P * x + c' * (P * 4294967296) = Z + P * r + (Y + P * y) := by
  have e : P * (x + c' * 4294967296) = P * (r + (c + y)) := by rw [s]
  grind

/-- One step of a product by a limb. -/
theorem mul_step {P X Y Z m c x y s : Nat} (h : X + m * Y = Z + c * P) (hs : s = c + (m * y + x)) : X + P * x + m * (Y + P * y) = Z + P * (s % 4294967296) + s / 4294967296 * (P * 4294967296) := by
  have := Nat.div_add_mod s 4294967296
  have e : P * s = P * c + P * (m * y) + P * x := by rw [hs]; grind
  have e2 : P * s = P * (s % 4294967296) + s / 4294967296 * (P * 4294967296) := by
    conv => lhs; rw [← this]
    grind
  grind

/-- A product of two limbs. -/
theorem mul_bd {m y : Nat} (h : m < 4294967296) (k : y < 4294967296) : (m : Int) * (y : Int) ≤ 18446744065119617025 ∧ 0 ≤ (m : Int) * (y : Int) ∧ m * y ≤ 18446744065119617025 := by
  have hp1 : m * y ≤ 4294967295 * 4294967295 := Nat.mul_le_mul (by omega) (by omega)
  refine ⟨?_, ?_, by omega⟩
  · rw [← Int.natCast_mul]; omega
  · rw [← Int.natCast_mul]; omega

theorem drop_top {m n : Nat} (h : nl n ≤ nl m) : (lim m).drop (nl m) = (lim n).drop (nl m) := by
  have h1 : (lim m).drop (nl m) = [] := List.drop_eq_nil_of_le (Nat.le_refl _)
  have h2 : (lim n).drop (nl m) = [] := List.drop_eq_nil_of_le h
  rw [h1, h2]

theorem drop_down {xs ys : List Nat} {k : Nat} (hl : xs.length = ys.length) (h : xs.drop (k + 1) = ys.drop (k + 1)) (e : xs.getD k 0 = ys.getD k 0) : xs.drop k = ys.drop k := by
  by_cases hk : k < xs.length
  · have hk2 : k < ys.length := by omega
    have e2 : xs[k] = ys[k] := by simpa [List.getD_eq_getElem?_getD, hk, hk2] using e
    rw [List.drop_eq_getElem_cons hk, List.drop_eq_getElem_cons hk2, h, e2]
  · rw [List.drop_eq_nil_of_le (by omega), List.drop_eq_nil_of_le (by omega)]

theorem lt_of_limbs {m n k : Nat} (hl : nl m = nl n) (h : (lim m).drop (k + 1) = (lim n).drop (k + 1)) (e : (lim m).getD k 0 < (lim n).getD k 0) : m < n := by
  have := val_lt_of_top (ok_lim m) hl k h e
  rwa [val_lim, val_lim] at this

theorem val_zero_iff (L : List Nat) : val L = 0 ↔ ∀ x ∈ L, x = 0 := by
  induction L with
  | nil => simp [val]
  | cons y L ih => simp only [val, List.mem_cons, forall_eq_or_imp, ← ih]; omega

end Go.Proofs.Ytimlpehgafjkpaa

namespace Go.Proofs.Ytimlpehgafjkpaa
open Go.RowKit
set_option linter.unusedVariables false

theorem hid {p : Prop} (h : p) : Hid p := h

/-- Nothing that was there has turned. -/
def Fwd (w w' : World) : Prop := Below w.heap.size w w'
theorem Fwd.refl (w : World) : Fwd w w := Below.refl _ _
theorem Fwd.size {w w' : World} (h : Fwd w w') : w.heap.size ≤ w'.heap.size := Below.size h
theorem Fwd.trans {a b c : World} (h : Fwd a b) (k : Fwd b c) : Fwd a c := Below.trans h (Below.mono k h.size)
theorem Fwd.alloc {a w : World} (h : Fwd a w) (o : Obj) : Fwd a (w.alloc o) := Below.alloc h h.size o
theorem Fwd.drew {a w : World} (h : Fwd a w) : Fwd a w.drew := Below.drew h
theorem Fwd.drewN {a w : World} (h : Fwd a w) (n : Nat) : Fwd a (w.drewN n) := ⟨h.os, h.tape, h.output, h.size, h.block⟩
theorem Fwd.below {w w' : World} (h : Fwd w w') : Below w.heap.size w w' := h
theorem Fwd.cell {w w' : World} (h : Fwd w w') {p : Addr} {v : Value} (hp : w.cell? p = some v) : w'.cell? p = some v :=
  (Below.cell h (World.block_lt_of_cell? w p hp)).trans hp
theorem Fwd.blockAt {w w' : World} (h : Fwd w w') {g : Nat} {o : Obj} (hp : w.heap[g]? = some o) : w'.heap[g]? = some o :=
  (Below.block h g (Array.getElem?_eq_some_iff.1 hp).1).trans hp

/-- Beside new blocks one block alone may have turned. -/
def Only (g : Nat) (w w' : World) : Prop := w.grownBy w' (some g)
theorem Only.refl (g : Nat) (w : World) : Only g w w := World.grownBy.refl _ _
theorem Only.size {g : Nat} {w w' : World} (h : Only g w w') : w.heap.size ≤ w'.heap.size := World.grownBy.size h
theorem Only.trans {g : Nat} {a b c : World} (h : Only g a b) (k : Only g b c) : Only g a c :=
  ⟨k.os.trans h.os, k.tape.trans h.tape, k.output.trans h.output, Nat.le_trans h.size k.size, fun i hi he => (k.block i (Nat.lt_of_lt_of_le hi h.size) he).trans (h.block i hi he)⟩
theorem Fwd.only {w w' : World} (h : Fwd w w') (g : Nat) : Only g w w' := ⟨h.os, h.tape, h.output, h.size, fun k hk _ => h.block k hk⟩
/-- What was written lies in a block of the call's own. -/
theorem Fwd.wrote {a w w' : World} {g : Nat} (h : Fwd a w) (k : Only g w w') (hg : a.heap.size ≤ g) : Fwd a w' :=
  Below.grown h k h.size (fun i e => by simp at e; omega)
theorem Only.set (g : Nat) (w : World) (i : Nat) (v : Value) : Only g w (w.setCell ⟨g, i, none⟩ v) :=
  ⟨rfl, rfl, rfl, by simp [World.setCell], fun k _ he => Below.heap_setCell _ _ _ _ (by simp at he; omega)⟩
theorem Only.blockAt {g : Nat} {w w' : World} (h : Only g w w') {b : Nat} {o : Obj} (hp : w.heap[b]? = some o) (hne : b ≠ g) : w'.heap[b]? = some o :=
  (h.block b (Array.getElem?_eq_some_iff.1 hp).1 (by simp [hne])).trans hp
theorem Only.cell {g : Nat} {w w' : World} (h : Only g w w') {p : Addr} {v : Value} (hp : w.cell? p = some v) (hne : p.block ≠ g) : w'.cell? p = some v :=
  World.grownBy.cell h hp (by simp [hne])
theorem Only.drew {g : Nat} {a w : World} (h : Only g a w) : Only g a w.drew := ⟨h.os, h.tape, h.output, h.size, h.block⟩

/-- Limbs as cells. -/
def cellsOf (L : List Nat) : List Value := L.map fun x : Nat => .int .u32 (x : Int)

/-- Block g is a row of uint32, not frozen, that holds L. -/
def Blk (w : World) (g : Nat) (L : List Nat) : Prop := w.heap[g]? = some (.cells (cellsOf L).toArray 22 (0, 0)) ∧ Ok L

theorem Blk.lt {w : World} {g : Nat} {L : List Nat} (h : Blk w g L) : g < w.heap.size := (Array.getElem?_eq_some_iff.1 h.1).1
theorem Blk.cell {w : World} {g : Nat} {L : List Nat} (h : Blk w g L) (i : Nat) (hi : i < L.length) : w.cell? ⟨g, i, none⟩ = some (.int .u32 ((L.getD i 0 : Nat) : Int)) := by
  simp [World.cell?, h.1, cellsOf, hi, List.getD_eq_getElem?_getD]
theorem Blk.frozen {w : World} {g : Nat} {L : List Nat} (h : Blk w g L) (i : Nat) : w.frozen? ⟨g, i, none⟩ = false := by
  simp [World.frozen?, h.1]
theorem Blk.set {w : World} {g : Nat} {L : List Nat} (h : Blk w g L) (i v : Nat) (hv : v < 4294967296) : Blk (w.setCell ⟨g, i, none⟩ (.int .u32 (v : Int))) g (L.set i v) := by
  refine ⟨?_, h.2.set i v hv⟩
  simp only [World.setCell, Array.getElem?_modify, if_true, h.1, Option.map_some]
  simp [cellsOf, List.map_set]
theorem Blk.fwd {w w' : World} {g : Nat} {L : List Nat} (h : Blk w g L) (k : Fwd w w') : Blk w' g L := ⟨k.blockAt h.1, h.2⟩
theorem Blk.only {w w' : World} {g b : Nat} {L : List Nat} (h : Blk w b L) (k : Only g w w') (hne : b ≠ g) : Blk w' b L := ⟨k.blockAt h.1 hne, h.2⟩
theorem Blk.made (w : World) (n : Nat) : Blk (w.alloc (.cells (madeCells #[.int .u32 0] n) 22)) w.heap.size (List.replicate n 0) := by
  refine ⟨?_, Ok.replicate n⟩
  rw [heap_alloc_new]
  congr 2
  apply Array.ext'
  rw [toList_madeCells_one]; simp [cellsOf]

theorem Blk.lit (w : World) (L : List Nat) (h : Ok L) (o : Array Value) (ho : o = (cellsOf L).toArray) : Blk (w.alloc (.cells o 22)) w.heap.size L := by
  subst ho
  exact ⟨heap_alloc_new w _, h⟩
theorem Blk.setAt {w : World} {g : Nat} {pre zs post : List Nat} (h : Blk w g (pre ++ (zs ++ post))) (k : Nat) (hk : k < zs.length) (v : Int) (n : Nat) (hv : v = (n : Int)) (hn : n < 4294967296) :
    Blk (w.setCell ⟨g, pre.length + k, none⟩ (.int .u32 v)) g (pre ++ (zs.set k n ++ post)) := by
  subst hv
  have := h.set (pre.length + k) n hn
  rwa [List.set_append_right _ _ (by omega), show pre.length + k - pre.length = k by omega, List.set_append_left _ _ hk] at this
theorem Only.setv {g : Nat} {w wr : World} (h : Only g w wr) (i : Nat) (v : Value) : Only g w (wr.setCell ⟨g, i, none⟩ v) := h.trans (Only.set g wr i v)
theorem Blk.mid {w : World} {g : Nat} {pre zs post : List Nat} (h : Blk w g (pre ++ (zs ++ post))) (k : Nat) (hk : k < zs.length) : w.cell? ⟨g, pre.length + k, none⟩ = some (.int .u32 ((zs.getD k 0 : Nat) : Int)) := by
  rw [h.cell _ (by simp; omega), getD_mid _ _ _ _ hk]
theorem Blk.okMid {w : World} {g : Nat} {pre zs post : List Nat} (h : Blk w g (pre ++ (zs ++ post))) : Ok zs := fun x hx => h.2 x (by simp [hx])

/-- The slice v reads as the limbs xs. -/
def Rd (w : World) (v : Value) (xs : List Nat) : Prop :=
  Ok xs ∧ ((v = .slice none 0 0 ∧ xs = []) ∨
    ∃ b off cap, v = .slice (some ⟨b, off, none⟩) xs.length cap ∧ xs.length ≤ cap ∧ cap ≤ maxLen ∧ (∀ i, i < xs.length → w.cell? ⟨b, off + i, none⟩ = some (.int .u32 ((xs.getD i 0 : Nat) : Int))) ∧ b < w.heap.size)

/-- Block g is none of v's. -/
def Off (v : Value) (g : Nat) : Prop := v.ownBlock ≠ some g

theorem Rd.ok {w : World} {v : Value} {xs : List Nat} (h : Rd w v xs) : Ok xs := h.1
theorem Rd.fwd {w w' : World} {v : Value} {xs : List Nat} (h : Rd w v xs) (k : Fwd w w') : Rd w' v xs := by
  refine ⟨h.1, ?_⟩
  rcases h.2 with h | ⟨b, off, cap, hv, h1, h2, h3, h4⟩
  · exact .inl h
  · exact .inr ⟨b, off, cap, hv, h1, h2, fun i hi => k.cell (h3 i hi), Nat.lt_of_lt_of_le h4 k.size⟩
theorem Rd.only {w w' : World} {g : Nat} {v : Value} {xs : List Nat} (h : Rd w v xs) (k : Only g w w') (ho : Off v g) : Rd w' v xs := by
  refine ⟨h.1, ?_⟩
  rcases h.2 with h | ⟨b, off, cap, rfl, h1, h2, h3, h4⟩
  · exact .inl h
  · exact .inr ⟨b, off, cap, rfl, h1, h2, fun i hi => k.cell (h3 i hi) (by intro e; apply ho; simp at e; simp [Value.ownBlock, e]), Nat.lt_of_lt_of_le h4 k.size⟩
/-- A block that is not there yet is none of v's. -/
theorem Rd.off {w : World} {g : Nat} {v : Value} {xs : List Nat} (h : Rd w v xs) (hg : w.heap.size ≤ g) : Off v g := by
  rcases h.2 with ⟨rfl, _⟩ | ⟨b, off, cap, rfl, h1, h2, h3, h4⟩
  · simp [Off, Value.ownBlock]
  · simp [Off, Value.ownBlock]; omega
theorem Rd.nil (w : World) : Rd w (.slice none 0 0) [] := ⟨Ok.nil, .inl ⟨rfl, rfl⟩⟩
/-- A piece of a row. -/
theorem Blk.rd {w : World} {g : Nat} {pre xs post : List Nat} (h : Blk w g (pre ++ (xs ++ post))) (cap : Nat) (h1 : xs.length ≤ cap) (h2 : cap ≤ maxLen) :
    Rd w (.slice (some ⟨g, pre.length, none⟩) xs.length cap) xs := by
  refine ⟨fun x hx => h.2 x (by simp [hx]), .inr ⟨g, pre.length, cap, rfl, h1, h2, fun i hi => ?_, h.lt⟩⟩
  rw [h.cell _ (by simp; omega)]
  have e : ¬ pre.length + i < pre.length := by omega
  simp [List.getElem?_append, hi, e]
theorem Blk.rd0 {w : World} {g : Nat} {xs post : List Nat} (h : Blk w g (xs ++ post)) (cap : Nat) (h1 : xs.length ≤ cap) (h2 : cap ≤ maxLen) :
    Rd w (.slice (some ⟨g, 0, none⟩) xs.length cap) xs := Blk.rd (pre := []) h cap h1 h2
theorem Blk.rdAll {w : World} {g : Nat} {xs : List Nat} (h : Blk w g xs) (cap : Nat) (h1 : xs.length ≤ cap) (h2 : cap ≤ maxLen) :
    Rd w (.slice (some ⟨g, 0, none⟩) xs.length cap) xs := Blk.rd0 (post := []) (by simpa using h) cap h1 h2

/-- What v has is no older than w. -/
def New (w : World) (v : Value) : Prop := ∀ b, v.ownBlock = some b → w.heap.size ≤ b
theorem New.off {w : World} {v : Value} {g : Nat} (h : New w v) (hg : g < w.heap.size) : Off v g := by
  intro e; have := h g e; omega
theorem New.up {w w1 : World} {v : Value} (h : New w1 v) (k : Fwd w w1) : New w v := fun b hb => Nat.le_trans k.size (h b hb)

/-- The slice v is the natural number n. -/
def Num (w : World) (v : Value) (n : Nat) : Prop := Rd w v (lim n)
theorem Num.fwd {w w' : World} {v : Value} {n : Nat} (h : Num w v n) (k : Fwd w w') : Num w' v n := Rd.fwd h k
theorem Num.drew {w : World} {v : Value} {n : Nat} (h : Num w v n) : Num w.drew v n := h

theorem info_u32 : (Try.prog.info? 22).map (fun i => (i.zero, i.size, i.bytes)) = some (some (.int .u32 0), 1, 4) := by kernel_rfl
theorem size_u32 : (Try.prog.info? 22).map (·.size) = some 1 := by kernel_rfl

/-- make([]uint32, n). -/
theorem law_make {w : World} {ops : Array Oper} {rest : List Oper} {o : Oper} {a : Act} {Q : Exit → Act → World → Prop}
    (hg : o.guard = none) (l c : Operand) (hop : o.op = Op.makeSlice 27 l c) (kl kc : IntKind) (L C : Int) (n : Nat) (hl : a.eval l = .int kl L) (hc : a.eval c = .int kc C)
    (hL : L = (n : Int)) (hC : C = (n : Int)) (hn : n ≤ 70368744177664)
    (hK : ∀ w', Blk w' w.heap.size (List.replicate n 0) → Fwd w w' → wpList Try.prog ops Q rest (a.put o.dst (.slice (some ⟨w.heap.size, 0, none⟩) n n)) w') :
    wpList Try.prog ops Q (o :: rest) a w := by
  subst hL hC
  obtain ⟨i, hi, hz0, hz1, hz2⟩ := info_parts info_u32
  exact wpList_make_row w hg l c 27 hop 22 i (.int .u32 0) Try.underlying27 hi hz0 hz1 rfl kl kc n hl hc (by rw [hz2]; omega) (by omega) (hK _ (Blk.made w n) ((Fwd.refl w).alloc _))

theorem splice_append {pre xs post cs : List Nat} (h : cs.length ≤ xs.length) : splice (cellsOf (pre ++ (xs ++ post))) pre.length (cellsOf cs) = cellsOf (pre ++ ((cs ++ xs.drop cs.length) ++ post)) := by
  unfold splice cellsOf
  have e1 : (List.map (fun x : Nat => Value.int .u32 (x : Int)) (pre ++ (xs ++ post))).take pre.length = List.map (fun x : Nat => Value.int .u32 (x : Int)) pre := by
    rw [← List.map_take]; simp
  have e2 : (List.map (fun x : Nat => Value.int .u32 (x : Int)) (pre ++ (xs ++ post))).drop (pre.length + (List.map (fun x : Nat => Value.int .u32 (x : Int)) cs).length) = List.map (fun x : Nat => Value.int .u32 (x : Int)) (xs.drop cs.length ++ post) := by
    rw [← List.map_drop]
    congr 1
    rw [List.drop_append, List.length_map]
    rw [List.drop_eq_nil_of_le (by omega), show pre.length + cs.length - pre.length = cs.length by omega, List.drop_append, Nat.sub_eq_zero_of_le h]
    simp
  rw [e1, e2]; simp

/-- copy(dst, src): dst a piece xs of the call's own row, src whatever lies elsewhere. -/
theorem law_copy {w : World} {ops : Array Oper} {rest : List Oper} {o : Oper} {a : Act} {Q : Exit → Act → World → Prop} (hgd : o.guard = none) (d s : Operand)
    (ho : o.op = .call { callee := .builtin .copy, args := #[d, s], argTypes := #[27, 27] })
    (g off n cap : Nat) (v : Value) (hd : a.eval d = .slice (some ⟨g, off, none⟩) n cap) (hs : a.eval s = v)
    (pre xs post cs : List Nat) (hb : Blk w g (pre ++ (xs ++ post))) (hoff : off = pre.length) (hn : n = xs.length) (hv : Rd w v cs) (hle : cs.length ≤ xs.length)
    (h : ∀ w', Blk w' g (pre ++ ((cs ++ xs.drop cs.length) ++ post)) → Only g w w' → wpList Try.prog ops Q rest (a.put o.dst (goInt cs.length)) w') :
    wpList Try.prog ops Q (o :: rest) a w := by
  subst hoff hn
  have hok : Ok (pre ++ ((cs ++ xs.drop cs.length) ++ post)) := by
    have h2 := hb.2
    have hp : Ok pre := fun x hx => h2 x (by simp [hx])
    have hx : Ok xs := fun x hx => h2 x (by simp [hx])
    have hq : Ok post := fun x hx => h2 x (by simp [hx])
    exact hp.append ((hv.ok.append (hx.drop _)).append hq)
  by_cases h0 : cs.length = 0
  · obtain rfl : cs = [] := List.eq_nil_of_length_eq_zero h0
    have hs' : ∃ sp sc, v = .slice sp 0 sc := by
      rcases hv.2 with ⟨e, _⟩ | ⟨b, off, c, e, _⟩
      · exact ⟨none, 0, e⟩
      · exact ⟨_, _, e⟩
    obtain ⟨sp, sc, e⟩ := hs'
    refine wpList_copy_nothing hgd d s 27 27 ho 22 Try.underlying27 size_u32 (some ⟨g, pre.length, none⟩) sp xs.length cap 0 sc hd (hs.trans e) (by simp) ?_
    have := h w (by simpa using hb) (Only.refl _ _)
    simpa using this
  · rcases hv.2 with ⟨_, e⟩ | ⟨b, so, c, e, h1, h2, h3, h4⟩
    · subst e; simp at h0
    · refine wpList_copy_own hgd d s 27 27 ho 22 Try.underlying27 size_u32 g pre.length xs.length cap ⟨b, so, none⟩ cs.length c hd (hs.trans e) (cellsOf (pre ++ (xs ++ post))).toArray 22 hb.1 (cellsOf cs)
        (by rw [show (cellsOf cs).length = cs.length by simp [cellsOf]]; exact (Nat.min_eq_left hle).symm) ?_ (by simp [cellsOf]; omega) ?_ ?_
      · intro j u hj
        have hjl : j < cs.length := by
          rcases Nat.lt_or_ge j cs.length with hlt | hge
          · exact hlt
          · simp [cellsOf, List.getElem?_eq_none hge] at hj
        have := h3 j hjl
        simp [cellsOf, hjl] at hj
        rw [show (⟨b, so, none⟩ : Addr).add j = ⟨b, so + j, none⟩ from by unfold Addr.add; split <;> simp_all, this, ← hj]
        simp [hjl]
      · intro u hu
        simp only [cellsOf, List.mem_map] at hu
        obtain ⟨x, _, rfl⟩ := hu; rfl
      · have e2 : (cellsOf (pre ++ (xs ++ post))).toArray.toList.take pre.length ++ (cellsOf cs ++ (cellsOf (pre ++ (xs ++ post))).toArray.toList.drop (pre.length + (cellsOf cs).length)) = cellsOf (pre ++ ((cs ++ xs.drop cs.length) ++ post)) := splice_append hle
        rw [e2]
        have e3 : (cellsOf cs).length = cs.length := by simp [cellsOf]
        rw [e3]
        refine h _ ⟨setRow_heap w g _ _ _ _ hb.1, hok⟩ ?_
        exact ⟨rfl, rfl, rfl, by simp [World.setRow], fun k _ he => setRow_other w g k _ (by simp at he; omega)⟩

/-- What a difference of limbs, in 64 bits, leaves as a limb and as a borrow. -/
theorem sub_wrap (x c y : Nat) (hx : x < 4294967296) (hc : c ≤ 1) (hy : y < 4294967296) :
    ∃ r c' : Nat, r < 4294967296 ∧ c' ≤ 1 ∧ x + c' * 4294967296 = r + (c + y) ∧ IntKind.u64.wrap (IntKind.u64.wrap ((x : Int) - c) - y) / 9223372036854775808 = (c' : Int) ∧ IntKind.u64.wrap (IntKind.u64.wrap ((x : Int) - c) - y) % 4294967296 = (r : Int) := by
  rw [IntKind.wrap_u64, IntKind.wrap_u64]
  by_cases h : x < c + y
  · exact ⟨x + 4294967296 - c - y, 1, by omega, by omega, by omega, by omega, by omega⟩
  · exact ⟨x - c - y, 0, by omega, by omega, by omega, by omega, by omega⟩
theorem sub_wrap0 (x c : Nat) (hx : x < 4294967296) (hc : c ≤ 1) :
    ∃ r c' : Nat, r < 4294967296 ∧ c' ≤ 1 ∧ x + c' * 4294967296 = r + (c + 0) ∧ IntKind.u64.wrap ((x : Int) - c) / 9223372036854775808 = (c' : Int) ∧ IntKind.u64.wrap ((x : Int) - c) % 4294967296 = (r : Int) := by
  rw [IntKind.wrap_u64]
  by_cases h : x < c
  · exact ⟨x + 4294967296 - c, 1, by omega, by omega, by omega, by omega, by omega⟩
  · exact ⟨x - c, 0, by omega, by omega, by omega, by omega, by omega⟩

/-- Two limbs joined. -/
theorem or_join (a b : Nat) (ha : a < 4294967296) (hb : b < 4294967296) : bits .or .u64 ((a : Int) * 4294967296) (b : Int) = ((a * 4294967296 + b : Nat) : Int) := by
  rw [show (a : Int) * 4294967296 = ((a * 4294967296 : Nat) : Int) by simp, u64_or_nat _ _ (by omega) (by omega), nat_join 32 _ _ (by omega) (by omega)]

theorem sub_wrap2 (x y c : Nat) (hx : x < 4294967296) (hc : c ≤ 1) (hy : y < 4294967296) :
    ∃ r c' : Nat, r < 4294967296 ∧ c' ≤ 1 ∧ x + c' * 4294967296 = r + (c + y) ∧ IntKind.u64.wrap (IntKind.u64.wrap ((x : Int) - y) - c) / 9223372036854775808 = (c' : Int) ∧ IntKind.u64.wrap (IntKind.u64.wrap ((x : Int) - y) - c) % 4294967296 = (r : Int) := by
  rw [IntKind.wrap_u64, IntKind.wrap_u64]
  by_cases h : x < c + y
  · exact ⟨x + 4294967296 - c - y, 1, by omega, by omega, by omega, by omega, by omega⟩
  · exact ⟨x - c - y, 0, by omega, by omega, by omega, by omega, by omega⟩

end Go.Proofs.Ytimlpehgafjkpaa

namespace Go.Proofs.Ytimlpehgafjkpaa
open Go.RowKit
set_option linter.unusedVariables false

end Go.Proofs.Ytimlpehgafjkpaa

namespace Go.Proofs.Ytimlpehgafjkpaa
open Go.RowKit
set_option linter.unusedVariables false

/-- What a slice value of limbs looks like. -/
theorem Rd.parts {w : World} {v : Value} {xs : List Nat} (h : Rd w v xs) : ∃ ao cap, v = .slice ao xs.length cap ∧ xs.length ≤ cap ∧ cap ≤ maxLen ∧ Ok xs ∧
    ∀ i, i < xs.length → ∃ b off, ao = some ⟨b, off, none⟩ ∧ w.cell? ⟨b, off + i, none⟩ = some (.int .u32 ((xs.getD i 0 : Nat) : Int)) := by
  rcases h.2 with ⟨rfl, rfl⟩ | ⟨b, off, cap, rfl, h1, h2, h3, h4⟩
  · exact ⟨none, 0, rfl, by simp, by simp, Ok.nil, by simp⟩
  · exact ⟨_, _, rfl, h1, h2, h.1, fun i hi => ⟨b, off, rfl, h3 i hi⟩⟩

end Go.Proofs.Ytimlpehgafjkpaa

namespace Go.Proofs.Ytimlpehgafjkpaa
open Go.RowKit
set_option linter.unusedVariables false

/-- Less, the same, greater. -/
def cmpW (m n : Int) : Int := if m < n then -1 else if n < m then 1 else 0
theorem cmpI_lt {m n : Int} (h : m < n) : cmpW m n = -1 := by rw [cmpW, if_pos h]
theorem cmpI_gt {m n : Int} (h : n < m) : cmpW m n = 1 := by rw [cmpW, if_neg (by omega), if_pos h]
theorem cmpI_eq {m n : Int} (h : m = n) : cmpW m n = 0 := by rw [cmpW, if_neg (by omega), if_neg (by omega)]

/-- A number's slice. -/
theorem Num.parts {w : World} {v : Value} {n : Nat} (h : Num w v n) : ∃ ao cap, v = .slice ao (nl n) cap ∧ nl n ≤ cap ∧ cap ≤ maxLen ∧
    ∀ i, i < nl n → ∃ b off, ao = some ⟨b, off, none⟩ ∧ w.cell? ⟨b, off + i, none⟩ = some (.int .u32 (((lim n).getD i 0 : Nat) : Int)) := by
  obtain ⟨ao, cap, h1, h2, h3, h4, h5⟩ := Rd.parts h
  exact ⟨ao, cap, h1, h2, h3, h5⟩

end Go.Proofs.Ytimlpehgafjkpaa

namespace Go.Proofs.Ytimlpehgafjkpaa
open Go.RowKit
set_option linter.unusedVariables false

theorem Num.off {w : World} {g : Nat} {v : Value} {n : Nat} (h : Num w v n) (hg : w.heap.size ≤ g) : Off v g := Rd.off h hg

theorem le_maxLen {n : Nat} (h : n ≤ 9223372036854775807) : n ≤ maxLen := by unfold maxLen; omega

/-- What is left of Add when the longer one stands first. -/
theorem add_val {m n c : Nat} {zs : List Nat} (hok : Ok zs) (hl : zs.length = (lim m ++ List.replicate 1 0).length) (hle : nl n ≤ nl m) (h : val (lim m ++ List.replicate 1 0) + val (lim n) = val zs + c * 4294967296 ^ (lim m ++ List.replicate 1 0).length) : val zs = m + n := by
  rw [val_append, val_replicate, val_lim, val_lim] at h
  have h1 := lt_pow_nl m
  have h2 := (nl_le_iff n (nl m)).1 hle
  have e : (lim m ++ List.replicate 1 0).length = nl m + 1 := by simp [nl]
  rw [e, Nat.pow_succ] at h
  have hc : c = 0 := by
    rcases Nat.eq_zero_or_pos c with h0 | h0
    · exact h0
    · have : 1 * (4294967296 ^ nl m * 4294967296) ≤ c * (4294967296 ^ nl m * 4294967296) := Nat.mul_le_mul_right _ h0
      omega
  subst hc; omega

theorem sub_val {m n c : Nat} {zs : List Nat} (hok : Ok zs) (hl : zs.length = (lim m).length) (hle : n ≤ m) (h : val (lim m) + c * 4294967296 ^ (lim m).length = val zs + val (lim n)) : val zs = m - n := by
  rw [val_lim, val_lim] at h
  have h1 := val_lt hok
  rw [hl] at h1
  have hc : c = 0 := by
    rcases Nat.eq_zero_or_pos c with h0 | h0
    · exact h0
    · have : 1 * 4294967296 ^ (lim m).length ≤ c * 4294967296 ^ (lim m).length := Nat.mul_le_mul_right _ h0
      omega
  subst hc; omega

end Go.Proofs.Ytimlpehgafjkpaa

namespace Go.Proofs.Ytimlpehgafjkpaa
open Go.RowKit
set_option linter.unusedVariables false

/-- One round of the product: a limb times b is laid upon what is there. -/
theorem mul_round {M N k limb c : Nat} {Z zs : List Nat} (hZl : Z.length = k + N + 1 + M) (htop : val (Z.drop (k + N)) = 0) (hzl : zs.length = N) (n : Nat)
    (h : val ((Z.drop k).take N) + limb * n = val zs + c * 4294967296 ^ N) :
    val (Z.take k ++ (zs ++ (Z.drop (k + N)).set 0 c)) = val Z + 4294967296 ^ k * (limb * n) ∧ val ((Z.take k ++ (zs ++ (Z.drop (k + N)).set 0 c)).drop (k + 1 + N)) = 0 ∧ (Z.take k ++ (zs ++ (Z.drop (k + N)).set 0 c)).length = Z.length := by
  have e1 : Z.drop (k + N) = (Z.drop (k + N)).getD 0 0 :: Z.drop (k + N + 1) := by
    have hlt : k + N < Z.length := by omega
    rw [List.drop_eq_getElem_cons hlt]; simp [hlt]
  generalize hr : Z.drop (k + N + 1) = rest at *
  generalize hq : (Z.drop (k + N)).getD 0 0 = q at *
  have e2 : val (q :: rest) = 0 := by rw [← e1]; exact htop
  have e3 : val rest = 0 := by simp only [val] at e2; omega
  have e4 : (Z.drop (k + N)).set 0 c = c :: rest := by rw [e1]; rfl
  have hpl : (Z.take k).length = k := by rw [List.length_take]; omega
  refine ⟨?_, ?_, ?_⟩
  · rw [e4, val_append, val_append, hpl, hzl]
    have v1 := val_split Z k (by omega)
    have v2 := val_split (Z.drop k) N (by rw [List.length_drop]; omega)
    rw [List.drop_drop, htop] at v2
    rw [v1, v2, val, e3]
    have : 4294967296 ^ k * (val ((Z.drop k).take N) + limb * n) = 4294967296 ^ k * (val zs + c * 4294967296 ^ N) := by rw [h]
    grind
  · rw [e4, show Z.take k ++ (zs ++ (c :: rest)) = (Z.take k ++ (zs ++ [c])) ++ rest by simp]
    rw [List.drop_append, List.drop_eq_nil_of_le (by simp [hzl]; omega)]
    have : (Z.take k ++ (zs ++ [c])).length = k + 1 + N := by simp [hzl]; omega
    rw [this]; simpa using e3
  · simp [hzl]; omega

end Go.Proofs.Ytimlpehgafjkpaa

namespace Go.Proofs.Ytimlpehgafjkpaa
open Go.RowKit
set_option linter.unusedVariables false

/-- One round of a division by a limb. -/
theorem div_step {x V Q d r : Nat} (h : V = Q * d + r) : x + 4294967296 * V = ((r * 4294967296 + x) / d + 4294967296 * Q) * d + (r * 4294967296 + x) % d := by
  have := Nat.div_add_mod (r * 4294967296 + x) d
  generalize (r * 4294967296 + x) / d = q at *
  generalize (r * 4294967296 + x) % d = s at *
  grind

theorem val_drop_cons {xs : List Nat} {k : Nat} (hk : k < xs.length) : val (xs.drop k) = xs.getD k 0 + 4294967296 * val (xs.drop (k + 1)) := by
  rw [List.drop_eq_getElem_cons hk, val]; simp [hk]

end Go.Proofs.Ytimlpehgafjkpaa
