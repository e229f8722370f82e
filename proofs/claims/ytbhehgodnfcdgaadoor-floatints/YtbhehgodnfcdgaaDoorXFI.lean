/- Floats, mathematics: whole numbers of few digits are exact. -/
import Derived.Test.YtbhehgodnfcdgaaDoorXFS
import Derived.Test.YtbhehgodnfcdgaaDoorXFK
import Derived.Test.YtbhehgodnfcdgaaDoorXF14
import Derived.Test.YtbhehgodnfcdgaaDoorXF26
import Derived.Test.YtbhehgodnfcdgaaDoorXP2
namespace Go.Proofs.YtbhehgodnfcdgaaDoor
open Go.RowKit
set_option linter.unusedVariables false

/-- A number of few digits is told as it is. -/
theorem fl_ex (s : Bool) {N : Nat} (hN : N ≠ 0) (hb : blen N ≤ 53) : ∃ f F r : Nat, NF f s F r ∧ (∀ m, rdV m (s, false, N, 0) = (f, 0)) ∧ r + 4503599627370496 = N * 2 ^ (53 - blen N) ∧ (F : Int) - 1075 = -((53 - blen N : Nat) : Int) := by
  have hp := blen_pos hN
  have h1 : 2 ^ (blen N - 1) ≤ N := by
    have : ¬ N < 2 ^ (blen N - 1) := fun c => by have := (blen_le_iff N (blen N - 1)).2 c; omega
    omega
  have h2 := lt_blen N
  have h3 : 4503599627370496 ≤ N * 2 ^ (53 - blen N) := by
    have := Nat.mul_le_mul_right (2 ^ (53 - blen N)) h1
    rw [← Nat.pow_add, show blen N - 1 + (53 - blen N) = 52 by omega] at this
    exact this
  have h4 : N * 2 ^ (53 - blen N) < 9007199254740992 := by
    have := Nat.mul_lt_mul_of_pos_right h2 (Nat.two_pow_pos (53 - blen N))
    rw [← Nat.pow_add, show blen N + (53 - blen N) = 53 by omega] at this
    exact this
  have E := fun m => rdV_mul m s (n := N) (k := 53 - blen N) 0 (by omega)
  generalize hM : N * 2 ^ (53 - blen N) = M at *
  obtain ⟨r, hr⟩ : ∃ r, r + 4503599627370496 = M := ⟨M - 4503599627370496, by omega⟩
  have hF : ((1075 - (53 - blen N) : Nat) : Int) - 1075 = -((53 - blen N : Nat) : Int) := by omega
  have nf : NF (sgn s + ((1075 - (53 - blen N)) * 4503599627370496 + r)) s (1075 - (53 - blen N)) r := ⟨rfl, by omega, by omega, by omega⟩
  refine ⟨_, _, r, nf, fun m => ?_, hr, hF⟩
  rw [← E m, ← nf.rd m, hF, hr, Int.zero_sub]
theorem fl_val {f F r N : Nat} {s : Bool} (h : NF f s F r) (hN : r + 4503599627370496 = N * 2 ^ (53 - blen N)) (hF : (F : Int) - 1075 = -((53 - blen N : Nat) : Int)) : valF f = (s, false, N * 2 ^ (53 - blen N), -((53 - blen N : Nat) : Int)) := by
  rw [h.val, hN, hF]
/-- Sizes of few digits, lifted, one by the other's place. -/
theorem pl2_ints (s t : Bool) {A B : Nat} (hA : A ≠ 0) (hB : B ≠ 0) (ha : blen A ≤ 53) (hb : blen B ≤ blen A) :
    pl2 s (A * 2 ^ (127 - blen A)) (-((127 - blen A : Nat) : Int)) t (B * 2 ^ (127 - blen B)) (-((127 - blen B : Nat) : Int)) =
      (if s = t then (s, false, (A + B) * 2 ^ (127 - blen A), -((127 - blen A : Nat) : Int)) else if A < B then (t, false, (B - A) * 2 ^ (127 - blen A), -((127 - blen A : Nat) : Int)) else (s, false, (A - B) * 2 ^ (127 - blen A), -((127 - blen A : Nat) : Int))) := by
  have e1 : (-((127 - blen A : Nat) : Int) - -((127 - blen B : Nat) : Int)).toNat = blen A - blen B := by omega
  have e2 : dn (B * 2 ^ (127 - blen B)) (blen A - blen B) = B * 2 ^ (127 - blen A) := by
    rw [dn_mul _ _ _ (by omega)]; congr 2; omega
  unfold pl2
  rw [e1, e2]
  have hp := Nat.two_pow_pos (127 - blen A)
  have e3 : (A * 2 ^ (127 - blen A) < B * 2 ^ (127 - blen A)) ↔ A < B := Nat.mul_lt_mul_right hp
  rw [← Nat.add_mul, ← Nat.sub_mul, ← Nat.sub_mul]
  by_cases c : s = t
  · rw [if_pos c, if_pos c]
  · rw [if_neg c, if_neg c]
    by_cases d : A < B
    · rw [if_pos d, if_pos (e3.2 d)]
    · rw [if_neg d, if_neg (fun h => d (e3.1 h))]
theorem lsh_norm {N : Nat} (hN : N ≠ 0) (hb : blen N ≤ 53) : lsh (N * 2 ^ (53 - blen N)) 1 = 74 := by
  unfold lsh; rw [blen_mul _ hN]; omega
/-- A whole number by its sign and size. -/
def zI (s : Bool) (N : Nat) : Int := if s then -(N : Int) else N
/-- A float is a whole number of few digits. -/
def IsI (f : Nat) (z : Int) : Prop := ∃ s, (z = 0 ∧ f = sgn s) ∨ (z ≠ 0 ∧ z = zI s z.natAbs ∧ ∃ F r, NF f s F r ∧ r + 4503599627370496 = z.natAbs * 2 ^ (53 - blen z.natAbs) ∧ (F : Int) - 1075 = -((53 - blen z.natAbs : Nat) : Int))
theorem isI_make (m : Int) (s : Bool) {N K : Nat} (hb : blen N ≤ 53) (hK : blen N + K ≤ 128) : ∃ f, rdV m (s, false, N * 2 ^ K, -(K : Int)) = (f, 0) ∧ IsI f (zI s N) := by
  have e : -(K : Int) = 0 - K := by omega
  rw [e, rdV_mul m s 0 hK]
  by_cases c : N = 0
  · subst c
    refine ⟨sgn s, ?_, s, Or.inl ⟨by unfold zI; split <;> rfl, rfl⟩⟩
    unfold rdV
    rw [if_neg (fun h => by cases h), if_pos rfl]
  · obtain ⟨f, F, r, h1, h2, h3, h4⟩ := fl_ex s c hb
    have hz : (zI s N).natAbs = N := by unfold zI; cases s <;> simp
    refine ⟨f, h2 m, s, Or.inr ⟨fun h => c (by rw [← hz, h]; rfl), by rw [hz], F, r, h1, by rw [hz]; exact h3, by rw [hz]; exact h4⟩⟩
theorem valF_sgn (s : Bool) : valF (sgn s) = (s, false, 0, -1074) := by cases s <;> decide +kernel
theorem nan_sgn (s : Bool) : isNan (sgn s) = false := by cases s <;> decide +kernel
theorem isI_nan {f : Nat} {z : Int} (h : IsI f z) : isNan f = false := by
  obtain ⟨s, ⟨_, rfl⟩ | ⟨_, _, F, r, h, _, _⟩⟩ := h
  · exact nan_sgn s
  · exact h.nan
theorem isI_self (m : Int) {f : Nat} {z : Int} (h : IsI f z) (h0 : z ≠ 0) : rdV m (valF f) = (f, 0) := by
  obtain ⟨s, ⟨h1, _⟩ | ⟨_, _, F, r, h, _, _⟩⟩ := h
  · exact absurd h1 h0
  · rw [h.val]; exact h.rd m
theorem zI_abs (s : Bool) (N : Nat) : (zI s N).natAbs = N := by unfold zI; cases s <;> simp
/-- Sums of whole numbers of few digits are exact. -/
theorem isI_add (m : Int) {f g : Nat} {x y : Int} (hf : IsI f x) (hg : IsI g y) (hx : blen x.natAbs ≤ 40) (hy : blen y.natAbs ≤ 40) (hs : blen (x + y).natAbs ≤ 53) : ∃ k, addF m f g = (k, 0) ∧ IsI k (x + y) := by
  rw [addF_num m (isI_nan hf) (isI_nan hg)]
  by_cases x0 : x = 0
  · obtain ⟨s, ⟨_, rfl⟩ | ⟨h, _⟩⟩ := hf
    · subst x0
      by_cases y0 : y = 0
      · obtain ⟨t, ⟨_, rfl⟩ | ⟨h, _⟩⟩ := hg
        · rw [valF_sgn, valF_sgn, addV_fin]
          have e : plusV (s, false, 0, -1074) (t, false, 0, -1074) = (t, false, 0, -1074) := if_pos rfl
          rw [e]
          subst y0
          by_cases c : s = t
          · rw [if_neg (fun h => h.2 c)]
            refine ⟨sgn t, ?_, t, Or.inl ⟨rfl, rfl⟩⟩
            unfold rdV
            rw [if_neg (fun h => by cases h), if_pos rfl]
          · rw [if_pos ⟨rfl, c⟩]
            exact ⟨_, rfl, _, Or.inl ⟨rfl, rfl⟩⟩
        · exact absurd y0 h
      · have r := isI_self m hg y0
        have hg' := hg
        obtain ⟨t, ⟨h, _⟩ | ⟨_, h2, F, r', hn, h3, h4⟩⟩ := hg
        · exact absurd h y0
        · rw [hn.val] at r ⊢
          rw [valF_sgn, addV_fin]
          have e : plusV (s, false, 0, -1074) (t, false, r' + 4503599627370496, (F : Int) - 1075) = (t, false, r' + 4503599627370496, (F : Int) - 1075) := if_pos rfl
          rw [e, if_neg (fun h => absurd h.1 (by simp only; omega)), r]
          exact ⟨g, rfl, by rw [Int.zero_add]; exact hg'⟩
    · exact absurd x0 h
  · have r := isI_self m hf x0
    have hf' := hf
    obtain ⟨s, ⟨h, _⟩ | ⟨_, a2, F, r', hn, a3, a4⟩⟩ := hf
    · exact absurd h x0
    by_cases y0 : y = 0
    · obtain ⟨t, ⟨_, rfl⟩ | ⟨h, _⟩⟩ := hg
      · rw [hn.val] at r ⊢
        rw [valF_sgn, addV_fin]
        have e : plusV (s, false, r' + 4503599627370496, (F : Int) - 1075) (t, false, 0, -1074) = (s, false, r' + 4503599627370496, (F : Int) - 1075) := (if_neg (by simp only; omega)).trans (if_pos rfl)
        rw [e, if_neg (fun h => absurd h.1 (by simp only; omega)), r]
        subst y0
        exact ⟨f, rfl, by rw [Int.add_zero]; exact hf'⟩
      · exact absurd y0 h
    · obtain ⟨t, ⟨h, _⟩ | ⟨_, b2, G, q', kn, b3, b4⟩⟩ := hg
      · exact absurd h y0
      rw [fl_val hn a3 a4, fl_val kn b3 b4, addV_fin]
      have hA : x.natAbs ≠ 0 := by omega
      have hB : y.natAbs ≠ 0 := by omega
      generalize x.natAbs = A at *
      generalize y.natAbs = B at *
      rw [a2, b2] at hs ⊢
      have pA := Nat.two_pow_pos (53 - blen A)
      have pB := Nat.two_pow_pos (53 - blen B)
      rw [plusV_nz (Nat.mul_ne_zero hA (by omega)) (Nat.mul_ne_zero hB (by omega)), lsh_norm hA (by omega), lsh_norm hB (by omega)]
      have eA : A * 2 ^ (53 - blen A) * 2 ^ 74 = A * 2 ^ (127 - blen A) := by rw [Nat.mul_assoc, ← Nat.pow_add]; congr 2; omega
      have eB : B * 2 ^ (53 - blen B) * 2 ^ 74 = B * 2 ^ (127 - blen B) := by rw [Nat.mul_assoc, ← Nat.pow_add]; congr 2; omega
      have dA : -((53 - blen A : Nat) : Int) - ((74 : Nat) : Int) = -((127 - blen A : Nat) : Int) := by omega
      have dB : -((53 - blen B : Nat) : Int) - ((74 : Nat) : Int) = -((127 - blen B : Nat) : Int) := by omega
      rw [eA, eB, dA, dB]
      -- what either way gives
      have fin : ∀ (u : Bool) (T K : Nat), zI u T = zI s A + zI t B → blen T + K ≤ 128 → ∃ k, (if (u, false, T * 2 ^ K, -(K : Int)).2.2.1 = 0 ∧ s ≠ t then (sgn (rMinus m), 0) else rdV m (u, false, T * 2 ^ K, -(K : Int))) = (k, 0) ∧ IsI k (zI s A + zI t B) := by
        intro u T K hz hK
        have bT : blen T ≤ 53 := by rw [← zI_abs u T, hz]; exact hs
        by_cases c : T * 2 ^ K = 0 ∧ s ≠ t
        · rw [if_pos c]
          have T0 : T = 0 := by
            rcases Nat.mul_eq_zero.1 c.1 with h | h
            · exact h
            · have := Nat.two_pow_pos K; omega
          refine ⟨_, rfl, rMinus m, Or.inl ⟨?_, rfl⟩⟩
          rw [← hz, T0]; unfold zI; split <;> rfl
        · rw [if_neg c]
          obtain ⟨k, h1, h2⟩ := isI_make m u (N := T) (K := K) bT hK
          exact ⟨k, h1, by rw [← hz]; exact h2⟩
      have lt2 : ∀ {X Y : Nat}, blen Y ≤ blen X → blen (X + Y) ≤ blen X + 1 := fun {X Y} h => (blen_le_iff _ _).2 (by
        have h1 := lt_blen X
        have h2 : Y < 2 ^ blen X := (blen_le_iff _ _).1 h
        rw [Nat.pow_succ]; omega)
      have lt1 : ∀ {X Y : Nat}, X ≤ Y → blen X ≤ blen Y := fun {X Y} h => (blen_le_iff _ _).2 (Nat.lt_of_le_of_lt h (lt_blen Y))
      by_cases o : -((127 - blen A : Nat) : Int) < -((127 - blen B : Nat) : Int)
      · rw [if_pos o, pl2_ints t s hB hA (by omega) (by omega)]
        have l := lt2 (X := B) (Y := A) (by omega)
        by_cases c : t = s
        · rw [if_pos c]
          exact fin t (B + A) (127 - blen B) (by subst c; unfold zI; cases t <;> simp <;> omega) (by omega)
        · rw [if_neg c]
          by_cases d : B < A
          · rw [if_pos d]
            exact fin s (A - B) (127 - blen B) (by unfold zI; cases s <;> cases t <;> simp at * <;> omega) (by have := lt1 (X := A - B) (Y := A) (by omega); omega)
          · rw [if_neg d]
            exact fin t (B - A) (127 - blen B) (by unfold zI; cases s <;> cases t <;> simp at * <;> omega) (by have := lt1 (X := B - A) (Y := B) (by omega); omega)
      · rw [if_neg o, pl2_ints s t hA hB (by omega) (by omega)]
        have l := lt2 (X := A) (Y := B) (by omega)
        by_cases c : s = t
        · rw [if_pos c]
          exact fin s (A + B) (127 - blen A) (by subst c; unfold zI; cases s <;> simp <;> omega) (by omega)
        · rw [if_neg c]
          by_cases d : A < B
          · rw [if_pos d]
            exact fin t (B - A) (127 - blen A) (by unfold zI; cases s <;> cases t <;> simp at * <;> omega) (by have := lt1 (X := B - A) (Y := B) (by omega); omega)
          · rw [if_neg d]
            exact fin s (A - B) (127 - blen A) (by unfold zI; cases s <;> cases t <;> simp at * <;> omega) (by have := lt1 (X := A - B) (Y := A) (by omega); omega)
/-- So are their products. -/
theorem isI_mul (m : Int) {f g : Nat} {x y : Int} (hf : IsI f x) (hg : IsI g y) (hx : blen x.natAbs ≤ 27) (hy : blen y.natAbs ≤ 26) : ∃ k, mulF m f g = (k, 0) ∧ IsI k (x * y) := by
  rw [mulF_num m (isI_nan hf) (isI_nan hg)]
  have key : ∃ (s t : Bool) (K : Nat) (A B : Nat) (E : Int), valF f = (s, false, A * 2 ^ (53 - blen A), E) ∧ x = zI s A ∧ blen A ≤ 27 ∧ (A = 0 ∨ E = -((53 - blen A : Nat) : Int)) := by
    obtain ⟨s, ⟨h, rfl⟩ | ⟨_, a2, F, r', hn, a3, a4⟩⟩ := hf
    · exact ⟨s, s, 0, 0, 0, -1074, by rw [valF_sgn, Nat.zero_mul], by rw [h]; unfold zI; cases s <;> rfl, by rw [blen_zero]; omega, Or.inl rfl⟩
    · exact ⟨s, s, 0, x.natAbs, 0, _, fl_val hn a3 a4, a2, hx, Or.inr rfl⟩
  have key2 : ∃ (t : Bool) (B : Nat) (E : Int), valF g = (t, false, B * 2 ^ (53 - blen B), E) ∧ y = zI t B ∧ blen B ≤ 26 ∧ (B = 0 ∨ E = -((53 - blen B : Nat) : Int)) := by
    obtain ⟨s, ⟨h, rfl⟩ | ⟨_, a2, F, r', hn, a3, a4⟩⟩ := hg
    · exact ⟨s, 0, -1074, by rw [valF_sgn, Nat.zero_mul], by rw [h]; unfold zI; cases s <;> rfl, by rw [blen_zero]; omega, Or.inl rfl⟩
    · exact ⟨s, y.natAbs, _, fl_val hn a3 a4, a2, hy, Or.inr rfl⟩
  obtain ⟨s, -, -, A, -, E, h1, h2, h3, h4⟩ := key
  obtain ⟨t, B, D, g1, g2, g3, g4⟩ := key2
  rw [h1, g1, mulV_fin, withMul_some]
  have hz : zI s A * zI t B = zI (s != t) (A * B) := by unfold zI; cases s <;> cases t <;> simp [Int.neg_mul, Int.mul_neg]
  rw [h2, g2, hz]
  have bAB : blen (A * B) ≤ 53 := (blen_le_iff _ _).2 (by
    have p := Nat.mul_lt_mul'' ((blen_le_iff A 27).1 h3) ((blen_le_iff B 26).1 g3)
    rw [← Nat.pow_add] at p; exact p)
  by_cases c : A * B = 0
  · have e0 : A * 2 ^ (53 - blen A) * (B * 2 ^ (53 - blen B)) = 0 := by
      rcases Nat.mul_eq_zero.1 c with h | h <;> rw [h] <;> simp
    rw [e0, c]
    refine ⟨sgn (s != t), ?_, s != t, Or.inl ⟨by unfold zI; split <;> rfl, rfl⟩⟩
    unfold rdV
    rw [if_neg (fun h => by cases h), if_pos rfl]
  · have hA : A ≠ 0 := fun h => c (by rw [h, Nat.zero_mul])
    have hB : B ≠ 0 := fun h => c (by rw [h, Nat.mul_zero])
    have e1 : A * 2 ^ (53 - blen A) * (B * 2 ^ (53 - blen B)) = A * B * 2 ^ (53 - blen A + (53 - blen B)) := by
      rw [Nat.pow_add]
      generalize 2 ^ (53 - blen A) = a
      generalize 2 ^ (53 - blen B) = b
      rw [Nat.mul_assoc, Nat.mul_assoc, Nat.mul_left_comm a B b]
    have e2 : E + D = -((53 - blen A + (53 - blen B) : Nat) : Int) := by
      rw [h4.resolve_left hA, g4.resolve_left hB]; omega
    rw [e1, e2]
    have pA := blen_pos hA
    have pB := blen_pos hB
    have bsum : blen (A * B) ≤ blen A + blen B := (blen_le_iff _ _).2 (by rw [Nat.pow_add]; exact Nat.mul_lt_mul'' (lt_blen A) (lt_blen B))
    obtain ⟨k, k1, k2⟩ := isI_make m (s != t) (N := A * B) (K := 53 - blen A + (53 - blen B)) bAB (by omega)
    exact ⟨k, k1, k2⟩
/-- With the other sign. -/
theorem isI_flip {f : Nat} {z : Int} (h : IsI f z) : IsI (flipF f) (-z) := by
  have fl : ∀ (s : Bool) (y : Nat), y < 9223372036854775808 → flipF (sgn s + y) = sgn (!s) + y := by
    intro s y hy
    cases s
    · show flipF (0 + y) = 9223372036854775808 + y
      unfold flipF; rw [if_neg (by omega)]; omega
    · show flipF (9223372036854775808 + y) = 0 + y
      unfold flipF; rw [if_pos (by omega)]; omega
  obtain ⟨s, ⟨h1, rfl⟩ | ⟨h0, a2, F, r, hn, a3, a4⟩⟩ := h
  · have := fl s 0 (by omega)
    rw [Nat.add_zero, Nat.add_zero] at this
    exact ⟨!s, Or.inl ⟨by omega, this⟩⟩
  · refine ⟨!s, Or.inr ⟨by omega, ?_, F, r, ⟨?_, hn.2.1, hn.2.2.1, hn.2.2.2⟩, by rw [Int.natAbs_neg]; exact a3, by rw [Int.natAbs_neg]; exact a4⟩⟩
    · rw [Int.natAbs_neg]
      generalize z.natAbs = A at *
      rw [a2]; unfold zI; cases s <;> simp
    · obtain ⟨e, b1, b2, b3⟩ := hn
      rw [e]
      exact fl s _ (by omega)
theorem isI_lt {f : Nat} {z : Int} (h : IsI f z) : f < 18446744073709551616 ∧ fsz f < 9218868437227405312 := by
  obtain ⟨s, ⟨h1, rfl⟩ | ⟨h0, a2, F, r, hn, a3, a4⟩⟩ := h
  · cases s <;> decide +kernel
  · obtain ⟨b1, b2, b3, b4, b5⟩ := hn.facts
    refine ⟨b5, ?_⟩
    rw [b2]
    have h1 : (F : Int) ≤ 1075 := by omega
    have h2 := hn.2.2.2
    omega
/-- A whole number, rounded. -/
theorem ofQ_int (m : Int) (z : Int) (hb : blen z.natAbs ≤ 53) : ∃ f, ofQ m (negQ (z : Rat)) (z : Rat).num.natAbs (z : Rat).den = (f, 0) ∧ IsI f z := by
  have e1 : negQ (z : Rat) = decide (z < 0) := rfl
  have e2 : (z : Rat).num = z := rfl
  have e3 : (z : Rat).den = 1 := rfl
  rw [e1, e2, e3]
  unfold ofQ
  by_cases c : z = 0
  · subst c
    exact ⟨0, back_nought m, false, Or.inl ⟨rfl, rfl⟩⟩
  · have hN : z.natAbs ≠ 0 := by omega
    have R := ratV_pow (decide (z < 0)) (N := z.natAbs) (n := z.natAbs) (j := 0) (x := 0) hN hb (Or.inr ⟨rfl, 0, rfl, by rw [Nat.pow_zero, Nat.mul_one]⟩)
    rw [Nat.pow_zero, Int.zero_sub] at R
    obtain ⟨f, h1, h2⟩ := isI_make m (decide (z < 0)) (N := z.natAbs) (K := 128 - blen z.natAbs) hb (by omega)
    have hz : zI (decide (z < 0)) z.natAbs = z := by
      unfold zI
      by_cases d : z < 0
      · rw [decide_eq_true d]; simp; omega
      · rw [decide_eq_false d]; simp; omega
    rw [hz] at h2
    exact ⟨f, by rw [R]; exact h1, h2⟩
/-- Its number is it. -/
theorem ratQ_int {f : Nat} {z : Int} (h : IsI f z) : mkQ (fneg f) (ratA f) (ratB f) = (z : Rat) := by
  obtain ⟨s, ⟨h1, rfl⟩ | ⟨h0, a2, F, r, hn, a3, a4⟩⟩ := h
  · have hA : ratA (sgn s) = 0 := by
      have : fsz (sgn s) = 0 := by cases s <;> decide +kernel
      unfold ratA; rw [vsz_zero this, Nat.zero_mul]
    rw [hA, mkQ_zero, h1]
    rfl
  · obtain ⟨b1, b2, b3, b4, b5⟩ := hn.facts
    generalize z.natAbs = N at *
    have eA : ratA f = N * 2 ^ (53 - blen N) := by
      unfold ratA; rw [b3, b4, a4, a3, show (-((53 - blen N : Nat) : Int)).toNat = 0 by omega, Nat.pow_zero, Nat.mul_one]
    have eB : ratB f = 1 * 2 ^ (53 - blen N) := by
      unfold ratB; rw [b4, a4, show (- -((53 - blen N : Nat) : Int)).toNat = 53 - blen N by omega]
    have hp : 2 ^ (53 - blen N) ≠ 0 := by have := Nat.two_pow_pos (53 - blen N); omega
    rw [b1, eA, eB]
    unfold mkQ
    rw [← sgQ_nat, Rat.mkRat_mul_right hp]
    have e : sgQ s N = z := by rw [a2]; rfl
    rw [e]
    exact Rat.mkRat_one z
end Go.Proofs.YtbhehgodnfcdgaaDoor
