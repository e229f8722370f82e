/- Plain mathematics of limbs of 32 bits: lists of numbers below 2^32, the lowest first, and the number that they say. Nothing of the program is named here. -/

namespace Go.Proofs.YtcgigpnejeabmaaDoor

/-- What limbs say. -/
def val : List Nat → Nat
  | [] => 0
  | x :: xs => x + 4294967296 * val xs

/-- All limbs are below 2^32. -/
def Ok (xs : List Nat) : Prop := ∀ x ∈ xs, x < 4294967296

/-- The limbs of a number, none of them on top being nought. -/
def limF : Nat → Nat → List Nat
  | 0, _ => []
  | f + 1, n => if n = 0 then [] else n % 4294967296 :: limF f (n / 4294967296)
def lim (n : Nat) : List Nat := limF n n
theorem limF_any (f : Nat) : ∀ g n, n ≤ f → n ≤ g → limF f n = limF g n := by
  induction f with
  | zero =>
    intro g n h1 h2
    obtain rfl : n = 0 := by omega
    cases g with
    | zero => rfl
    | succ g => simp [limF]
  | succ f ih =>
    intro g n h1 h2
    cases g with
    | zero =>
      obtain rfl : n = 0 := by omega
      simp [limF]
    | succ g =>
      by_cases h0 : n = 0
      · subst h0; simp [limF]
      · simp only [limF, if_neg h0]
        rw [ih g (n / 4294967296) (by omega) (by omega)]

/-- How long what is left is, without noughts on top, of the first n limbs. -/
def tlen (xs : List Nat) : Nat → Nat
  | 0 => 0
  | n + 1 => if xs.getD n 0 = 0 then tlen xs n else n + 1

theorem Ok.nil : Ok [] := by intro x h; cases h
theorem Ok.cons {x : Nat} {xs : List Nat} (h : x < 4294967296) (k : Ok xs) : Ok (x :: xs) := by
  intro y hy; cases hy with
  | head => exact h
  | tail _ h => exact k y h
theorem Ok.head {x : Nat} {xs : List Nat} (h : Ok (x :: xs)) : x < 4294967296 := h x (by simp)
theorem Ok.tail {x : Nat} {xs : List Nat} (h : Ok (x :: xs)) : Ok xs := fun y hy => h y (by simp [hy])
theorem Ok.getD {xs : List Nat} (h : Ok xs) (i : Nat) : xs.getD i 0 < 4294967296 := by
  by_cases hi : i < xs.length
  · rw [List.getD_eq_getElem?_getD, List.getElem?_eq_getElem hi]; exact h _ (List.getElem_mem hi)
  · rw [List.getD_eq_getElem?_getD, List.getElem?_eq_none (by omega)]; simp
theorem Ok.append {xs ys : List Nat} (h : Ok xs) (k : Ok ys) : Ok (xs ++ ys) := by
  intro x hx; rcases List.mem_append.1 hx with hx | hx
  · exact h x hx
  · exact k x hx
theorem Ok.take {xs : List Nat} (h : Ok xs) (n : Nat) : Ok (xs.take n) := fun x hx => h x (List.mem_of_mem_take hx)
theorem Ok.drop {xs : List Nat} (h : Ok xs) (n : Nat) : Ok (xs.drop n) := fun x hx => h x (List.mem_of_mem_drop hx)
theorem Ok.set {xs : List Nat} (h : Ok xs) (n v : Nat) (hv : v < 4294967296) : Ok (xs.set n v) := by
  intro x hx; rcases List.mem_or_eq_of_mem_set hx with hx | rfl
  · exact h x hx
  · exact hv
theorem Ok.replicate (n : Nat) : Ok (List.replicate n 0) := by
  intro x hx; rw [List.mem_replicate] at hx; omega

theorem lim_zero : lim 0 = [] := rfl
theorem lim_pos {n : Nat} (h : n ≠ 0) : lim n = n % 4294967296 :: lim (n / 4294967296) := by
  unfold lim
  cases n with
  | zero => exact absurd rfl h
  | succ m =>
    simp only [limF, if_neg h]
    rw [limF_any m ((m + 1) / 4294967296) ((m + 1) / 4294967296) (by omega) (by omega)]

theorem val_lim (n : Nat) : val (lim n) = n := by
  induction n using Nat.strongRecOn with
  | ind n ih =>
    by_cases h : n = 0
    · subst h; rw [lim_zero]; rfl
    · rw [lim_pos h, val, ih (n / 4294967296) (by omega)]; omega

theorem ok_lim (n : Nat) : Ok (lim n) := by
  induction n using Nat.strongRecOn with
  | ind n ih =>
    by_cases h : n = 0
    · subst h; rw [lim_zero]; exact Ok.nil
    · rw [lim_pos h]; exact Ok.cons (by omega) (ih _ (by omega))

/-- No nought on top. -/
def Norm (xs : List Nat) : Prop := xs.getLast? ≠ some 0

theorem norm_lim (n : Nat) : Norm (lim n) := by
  induction n using Nat.strongRecOn with
  | ind n ih =>
    by_cases h : n = 0
    · subst h; rw [lim_zero]; simp [Norm]
    · rw [lim_pos h]
      by_cases h2 : n / 4294967296 = 0
      · rw [h2, lim_zero]; simp [Norm]; omega
      · have := ih _ (show n / 4294967296 < n by omega)
        unfold Norm at *
        rw [lim_pos h2] at this ⊢
        rwa [List.getLast?_cons_cons]

theorem lim_val {xs : List Nat} (h : Ok xs) (k : Norm xs) : lim (val xs) = xs := by
  induction xs with
  | nil => exact lim_zero
  | cons x xs ih =>
    have hx := h.head
    have kt : Norm xs := by
      unfold Norm at *
      cases xs with
      | nil => simp
      | cons y ys => rwa [List.getLast?_cons_cons] at k
    have ih' := ih h.tail kt
    have hne : x + 4294967296 * val xs ≠ 0 := by
      intro e
      have hx0 : x = 0 := by omega
      have hv0 : val xs = 0 := by omega
      rw [hv0, lim_zero] at ih'
      subst hx0; rw [← ih'] at k; simp [Norm] at k
    show lim (x + 4294967296 * val xs) = _
    rw [lim_pos hne, show (x + 4294967296 * val xs) % 4294967296 = x by omega, show (x + 4294967296 * val xs) / 4294967296 = val xs by omega, ih']

theorem val_append (xs ys : List Nat) : val (xs ++ ys) = val xs + 4294967296 ^ xs.length * val ys := by
  induction xs with
  | nil => simp [val]
  | cons x xs ih => simp only [List.cons_append, val, ih, List.length_cons, Nat.pow_succ]; grind

theorem val_lt {xs : List Nat} (h : Ok xs) : val xs < 4294967296 ^ xs.length := by
  induction xs with
  | nil => simp [val]
  | cons x xs ih =>
    have := ih h.tail
    have hx := h.head
    simp only [val, List.length_cons, Nat.pow_succ]; omega

theorem val_replicate (n : Nat) : val (List.replicate n 0) = 0 := by
  induction n with
  | zero => rfl
  | succ n ih => rw [List.replicate_succ, val, ih]

theorem val_take_succ (xs : List Nat) (k : Nat) : val (xs.take (k + 1)) = val (xs.take k) + 4294967296 ^ k * xs.getD k 0 := by
  by_cases h : k < xs.length
  · rw [List.take_succ_eq_append_getElem h, val_append, List.length_take, Nat.min_eq_left (by omega)]
    simp [val, List.getD_eq_getElem?_getD, h]
  · rw [List.take_of_length_le (by omega), List.take_of_length_le (by omega), List.getD_eq_getElem?_getD, List.getElem?_eq_none (by omega)]; simp

theorem val_take_all {xs : List Nat} {k : Nat} (h : xs.length ≤ k) : val (xs.take k) = val xs := by rw [List.take_of_length_le h]

theorem take_set_succ (xs : List Nat) (k v : Nat) (h : k < xs.length) : (xs.set k v).take (k + 1) = xs.take k ++ [v] := by
  rw [List.take_succ_eq_append_getElem (by simpa using h), List.take_set_of_le (Nat.le_refl k)]; simp

theorem drop_set_succ (xs : List Nat) (k v : Nat) : (xs.set k v).drop (k + 1) = xs.drop (k + 1) := by
  rw [List.drop_set_of_lt (by omega)]

theorem val_take_lt {xs : List Nat} (h : Ok xs) (k : Nat) : val (xs.take k) < 4294967296 ^ k := by
  have h1 := val_lt (h.take k)
  have h2 : 4294967296 ^ (xs.take k).length ≤ 4294967296 ^ k := Nat.pow_le_pow_right (by omega) (by simp; omega)
  omega

/-! ### Without noughts on top -/
theorem tlen_le (xs : List Nat) (n : Nat) : tlen xs n ≤ n := by
  induction n with
  | zero => simp [tlen]
  | succ n ih => simp only [tlen]; split <;> omega

theorem val_tlen (xs : List Nat) (n : Nat) : val (xs.take (tlen xs n)) = val (xs.take n) := by
  induction n with
  | zero => rfl
  | succ n ih =>
    simp only [tlen]; split
    · rename_i h; rw [ih, val_take_succ, h]; simp
    · rfl

theorem norm_tlen (xs : List Nat) (n : Nat) : Norm (xs.take (tlen xs n)) := by
  induction n with
  | zero => simp [tlen, Norm]
  | succ n ih =>
    simp only [tlen]; split
    · exact ih
    · rename_i h
      by_cases hn : n < xs.length
      · rw [List.take_succ_eq_append_getElem hn]
        unfold Norm
        rw [List.getLast?_append, List.getLast?_singleton]
        rw [List.getD_eq_getElem?_getD, List.getElem?_eq_getElem hn] at h; simpa using h
      · rw [List.getD_eq_getElem?_getD, List.getElem?_eq_none (by omega)] at h; simp at h

/-- Limbs, without the noughts on top, are those of the number that they say. -/
theorem take_tlen {xs : List Nat} (h : Ok xs) : xs.take (tlen xs xs.length) = lim (val xs) := by
  have h1 := lim_val (h.take (tlen xs xs.length)) (norm_tlen xs xs.length)
  rw [val_tlen, List.take_length] at h1
  exact h1.symm

theorem tlen_lim {xs : List Nat} (h : Ok xs) : tlen xs xs.length = (lim (val xs)).length := by
  rw [← take_tlen h, List.length_take, Nat.min_eq_left (tlen_le _ _)]

/-! ### How many limbs -/
def nl (n : Nat) : Nat := (lim n).length

theorem nl_zero : nl 0 = 0 := by simp [nl, lim_zero]
theorem nl_pos {n : Nat} (h : n ≠ 0) : nl n = nl (n / 4294967296) + 1 := by simp [nl, lim_pos h]
theorem lt_pow_nl (n : Nat) : n < 4294967296 ^ nl n := by
  have := val_lt (ok_lim n); rwa [val_lim] at this

theorem nl_le_iff (n k : Nat) : nl n ≤ k ↔ n < 4294967296 ^ k := by
  constructor
  · intro h; exact Nat.lt_of_lt_of_le (lt_pow_nl n) (Nat.pow_le_pow_right (by omega) h)
  · intro h
    induction k generalizing n with
    | zero => simp at h; subst h; simp [nl_zero]
    | succ k ih =>
      by_cases hn : n = 0
      · subst hn; simp [nl_zero]
      · rw [nl_pos hn]
        have := ih (n / 4294967296) (by rw [Nat.pow_succ] at h; omega)
        omega

theorem nl_mono {a b : Nat} (h : a ≤ b) : nl a ≤ nl b := (nl_le_iff a (nl b)).2 (Nat.lt_of_le_of_lt h (lt_pow_nl b))

theorem nl_add (a b : Nat) : nl (a + b) ≤ max (nl a) (nl b) + 1 := by
  rw [nl_le_iff, Nat.pow_succ]
  have h1 := (nl_le_iff a (max (nl a) (nl b))).1 (by omega)
  have h2 := (nl_le_iff b (max (nl a) (nl b))).1 (by omega)
  omega

theorem nl_mul (a b : Nat) : nl (a * b) ≤ nl a + nl b := by
  rw [nl_le_iff, Nat.pow_add]
  exact Nat.mul_lt_mul'' (lt_pow_nl a) (lt_pow_nl b)

theorem nl_sub (a b : Nat) : nl (a - b) ≤ nl a := nl_mono (by omega)

theorem nl_ge_pow {n : Nat} (h : n ≠ 0) : 4294967296 ^ (nl n - 1) ≤ n := by
  rcases Nat.lt_or_ge n (4294967296 ^ (nl n - 1)) with hlt | hge
  · have := (nl_le_iff n (nl n - 1)).2 hlt
    have := nl_pos h
    omega
  · exact hge

theorem lim_eq_nil {n : Nat} : lim n = [] ↔ n = 0 := by
  constructor
  · intro h; have := val_lim n; rw [h] at this; exact this.symm
  · rintro rfl; exact lim_zero

theorem lim_inj {a b : Nat} (h : lim a = lim b) : a = b := by
  have := congrArg val h; rwa [val_lim, val_lim] at this

/-- Which of two numbers is less, limb by limb from the top. -/
theorem val_lt_of_top {xs ys : List Nat} (hx : Ok xs) (hl : xs.length = ys.length) (k : Nat)
    (heq : xs.drop (k + 1) = ys.drop (k + 1)) (hlt : xs.getD k 0 < ys.getD k 0) : val xs < val ys := by
  have e1 := val_append (xs.take (k + 1)) (xs.drop (k + 1))
  have e2 := val_append (ys.take (k + 1)) (ys.drop (k + 1))
  rw [List.take_append_drop] at e1 e2
  rw [e1, e2, heq, List.length_take, List.length_take, hl, val_take_succ, val_take_succ]
  have b1 := val_take_lt hx k
  have b3 : 4294967296 ^ k * xs.getD k 0 + 4294967296 ^ k ≤ 4294967296 ^ k * ys.getD k 0 := by
    rw [← Nat.mul_succ]; exact Nat.mul_le_mul_left _ hlt
  omega

theorem drop_eq_of_getD {xs ys : List Nat} (hl : xs.length = ys.length) (k : Nat) (h : ∀ i, k ≤ i → i < xs.length → xs.getD i 0 = ys.getD i 0) : xs.drop k = ys.drop k := by
  apply List.ext_getElem
  · simp [hl]
  · intro i h1 h2
    simp only [List.length_drop] at h1 h2
    have := h (k + i) (by omega) (by omega)
    rw [List.getD_eq_getElem?_getD, List.getD_eq_getElem?_getD, List.getElem?_eq_getElem (by omega), List.getElem?_eq_getElem (by omega)] at this
    simpa using this

/-! ### A limb set at place k -/
theorem getD_mid (pre zs post : List Nat) (k : Nat) (hk : k < zs.length) : (pre ++ (zs ++ post)).getD (pre.length + k) 0 = zs.getD k 0 := by
  rw [List.getD_eq_getElem?_getD, List.getD_eq_getElem?_getD, List.getElem?_append_right (by omega), List.getElem?_append_left (by omega)]
  congr 2; omega

theorem getD_of_drop {xs zs : List Nat} {k : Nat} (hd : zs.drop k = xs.drop k) : zs.getD k 0 = xs.getD k 0 := by
  have := congrArg (fun l => l[0]?) hd
  simp only [List.getElem?_drop, Nat.add_zero] at this
  rw [List.getD_eq_getElem?_getD, List.getD_eq_getElem?_getD, this]

theorem set_len (zs : List Nat) (k v : Nat) : (zs.set k v).length = zs.length := by simp

theorem set_drop {xs zs : List Nat} {k v : Nat} (hd : zs.drop k = xs.drop k) : (zs.set k v).drop (k + 1) = xs.drop (k + 1) := by
  rw [drop_set_succ, ← List.drop_drop, hd, List.drop_drop]

theorem set_val {zs : List Nat} {k v : Nat} (hk : k < zs.length) : val ((zs.set k v).take (k + 1)) = val (zs.take k) + 4294967296 ^ k * v := by
  rw [take_set_succ _ _ _ hk, val_append, List.length_take, Nat.min_eq_left (by omega)]; simp [val]

theorem val_split (xs : List Nat) (k : Nat) (hk : k ≤ xs.length) : val xs = val (xs.take k) + 4294967296 ^ k * val (xs.drop k) := by
  have := val_append (xs.take k) (xs.drop k)
  rw [List.take_append_drop, List.length_take, Nat.min_eq_left hk] at this
  exact this

/-- One step of a sum: x + y + c is a limb and what goes on. -/
theorem add_step {P X Y Z a b c s : Nat} (h : X + Y = Z + c * P) (s' : s = c + a + b) : X + P * a + (Y + P * b) = Z + P * (s % 4294967296) + s / 4294967296 * (P * 4294967296) := by
  have := Nat.div_add_mod s 4294967296
  have e : P * s = P * c + P * a + P * b := by rw [s']; grind
  have e2 : P * s = P * (s % 4294967296) + s / 4294967296 * (P * 4294967296) := by
    conv => lhs; rw [← this]
    grind
  grind

/-- One step of a difference. -/
theorem sub_step {P X Y Z c c' x y r : Nat} (h : X + c * P = Z + Y) (s : x + c' * 4294967296 = r + (c + y)) : X + P * x + c' * (P * 4294967296) = Z + P * r + (Y + P * y) := by
  have e : P * (x + c' * 4294967296) = P * (r + (c + y)) := by rw [s]
  grind

/-- One step of a product by a limb. -/
theorem mul_step {P X Y Z m c x y s : Nat} (h : X + m * Y = Z + c * P) (hs : s = c + (m * y + x)) : X + P * x + m * (Y + P * y) = Z + P * (s % 4294967296) + s / 4294967296 * (P * 4294967296) := by
  have := Nat.div_add_mod s 4294967296
  have e : P * s = P * c + P * (m * y) + P * x := by rw [hs]; grind
  have e2 : P * s = P * (s % 4294967296) + s / 4294967296 * (P * 4294967296) := by
    conv => lhs; rw [← this]
    grind
  grind

/-- A product of two limbs. -/
theorem mul_bd {m y : Nat} (h : m < 4294967296) (k : y < 4294967296) : (m : Int) * (y : Int) ≤ 18446744065119617025 ∧ 0 ≤ (m : Int) * (y : Int) ∧ m * y ≤ 18446744065119617025 := by
  have hp1 : m * y ≤ 4294967295 * 4294967295 := Nat.mul_le_mul (by omega) (by omega)
  refine ⟨?_, ?_, by omega⟩
  · rw [← Int.natCast_mul]; omega
  · rw [← Int.natCast_mul]; omega

theorem drop_top {m n : Nat} (h : nl n ≤ nl m) : (lim m).drop (nl m) = (lim n).drop (nl m) := by
  have h1 : (lim m).drop (nl m) = [] := List.drop_eq_nil_of_le (Nat.le_refl _)
  have h2 : (lim n).drop (nl m) = [] := List.drop_eq_nil_of_le h
  rw [h1, h2]

theorem drop_down {xs ys : List Nat} {k : Nat} (hl : xs.length = ys.length) (h : xs.drop (k + 1) = ys.drop (k + 1)) (e : xs.getD k 0 = ys.getD k 0) : xs.drop k = ys.drop k := by
  by_cases hk : k < xs.length
  · have hk2 : k < ys.length := by omega
    have e2 : xs[k] = ys[k] := by simpa [List.getD_eq_getElem?_getD, hk, hk2] using e
    rw [List.drop_eq_getElem_cons hk, List.drop_eq_getElem_cons hk2, h, e2]
  · rw [List.drop_eq_nil_of_le (by omega), List.drop_eq_nil_of_le (by omega)]

theorem lt_of_limbs {m n k : Nat} (hl : nl m = nl n) (h : (lim m).drop (k + 1) = (lim n).drop (k + 1)) (e : (lim m).getD k 0 < (lim n).getD k 0) : m < n := by
  have := val_lt_of_top (ok_lim m) hl k h e
  rwa [val_lim, val_lim] at this

theorem val_zero_iff (L : List Nat) : val L = 0 ↔ ∀ x ∈ L, x = 0 := by
  induction L with
  | nil => simp [val]
  | cons y L ih => simp only [val, List.mem_cons, forall_eq_or_imp, ← ih]; omega

end Go.Proofs.YtcgigpnejeabmaaDoor
