/- Floats, mathematics: by powers of two sums and products are scaled. -/
/- Floats, mathematics: by Down and by Up a value is the same float, or two that are next to one another. -/
/- Floats, mathematics: answers are of 64 bits. -/
/- The program's rational numbers: size, Of, Mul, Quo. -/
/- The program's rational numbers: Quo; what stands above a denominator: above, times, plus, minus. -/
/- The program's rational numbers: Mul, Quo as numbers; slices.Clone; Neg, Abs, turn, Cmp. -/
import Derived.Test.YtcfhajnboamnnabGreatDoorYXF17
import Derived.Test.YtcfhajnboamnnabGreatDoorYXFM
import Derived.Test.YtcfhajnboamnnabGreatDoorKJ
import Derived.Test.YtcfhajnboamnnabGreatDoorYXP1
import Derived.Deep.RegionHeld3
namespace Go.Proofs.YtcfhajnboamnnabGreatDoor
open Go.RowKit
set_option linter.unusedVariables false

/-- A float of usual size by its parts. -/
def NF (f : Nat) (s : Bool) (F r : Nat) : Prop := f = sgn s + (F * 4503599627370496 + r) ∧ 1 ≤ F ∧ F ≤ 2046 ∧ r < 4503599627370496
theorem NF.facts {f : Nat} {s : Bool} {F r : Nat} (h : NF f s F r) : fneg f = s ∧ fsz f = F * 4503599627370496 + r ∧ vsz f = r + 4503599627370496 ∧ vex f = (F : Int) - 1075 ∧ f < 18446744073709551616 := by
  obtain ⟨hf, h1, h2, hr⟩ := h
  have hs : sgn s = if s then 9223372036854775808 else 0 := rfl
  have e : fsz f = F * 4503599627370496 + r := by
    unfold fsz; cases s
    · simp only [Bool.false_eq_true, if_false] at hs; omega
    · simp only [if_true] at hs; omega
  have d : fsz f / 4503599627370496 = F := by omega
  refine ⟨?_, e, ?_, ?_, ?_⟩
  · unfold fneg; cases s
    · simp only [Bool.false_eq_true, if_false] at hs; exact decide_eq_false (by omega)
    · simp only [if_true] at hs; exact decide_eq_true (by omega)
  · unfold vsz; rw [d, if_neg (by omega), frac_fsz]; omega
  · unfold vex; rw [d, if_neg (by omega)]; omega
  · cases s
    · simp only [Bool.false_eq_true, if_false] at hs; omega
    · simp only [if_true] at hs; omega
theorem NF.val {f : Nat} {s : Bool} {F r : Nat} (h : NF f s F r) : valF f = (s, false, r + 4503599627370496, (F : Int) - 1075) := by
  obtain ⟨a, b, c, d, _⟩ := h.facts
  obtain ⟨hf, h1, h2, hr⟩ := h
  have i : ¬ fsz f = 9218868437227405312 := by omega
  unfold valF
  rw [if_neg i, a, c, d]
theorem NF.nan {f : Nat} {s : Bool} {F r : Nat} (h : NF f s F r) : isNan f = false := by
  obtain ⟨a, b, c, d, _⟩ := h.facts
  obtain ⟨hf, h1, h2, hr⟩ := h
  exact nan_le (by omega)
theorem NF.rd {f : Nat} {s : Bool} {F r : Nat} (h : NF f s F r) (m : Int) : rdV m (s, false, r + 4503599627370496, (F : Int) - 1075) = (f, 0) := by
  obtain ⟨a, b, c, d, l⟩ := h.facts
  obtain ⟨hf, h1, h2, hr⟩ := h
  have o := own_rnd l (by omega) (by omega) m
  rw [a, c, d] at o
  unfold rdV
  simp only [Bool.false_eq_true, if_false]
  rw [if_neg (by omega), o.1, o.2]
theorem mulV_fin {s t : Bool} {n k : Nat} {x y : Int} : mulV (s, false, n, x) (t, false, k, y) = some (s != t, false, n * k, x + y) := by
  unfold mulV; simp
theorem addF_num {f g : Nat} (m : Int) (hf : isNan f = false) (hg : isNan g = false) : addF m f g = addV m (valF f) (valF g) := by
  unfold addF; rw [hf, hg]; simp only [Bool.or_self, Bool.false_eq_true, if_false]
theorem mulF_num {f g : Nat} (m : Int) (hf : isNan f = false) (hg : isNan g = false) : mulF m f g = withMul (mulV (valF f) (valF g)) (rdV m) := by
  unfold mulF; rw [hf, hg]; simp only [Bool.or_self, Bool.false_eq_true, if_false]
theorem withMul_some (v : Bool × Bool × Nat × Int) (k : Bool × Bool × Nat × Int → Nat × Nat) : withMul (some v) k = k v := rfl
theorem bne_false' (s : Bool) : (s != false) = s := by cases s <;> rfl
/-- By a power of two. -/
theorem mul_pow2 (m : Int) {f g h : Nat} {s : Bool} {F r G H : Nat} (hf : NF f s F r) (hg : NF g false G 0) (hh : NF h s H r) (e : F + G = H + 1023) : mulF m f g = (h, 0) := by
  rw [mulF_num m hf.nan hg.nan, hf.val, hg.val, mulV_fin, withMul_some, bne_false']
  have hb : blen (r + 4503599627370496) + 52 ≤ 128 := by
    have := blen_of_lt (n := r + 4503599627370496) (k := 53) (show _ < 9007199254740992 by have := hf.2.2.2; omega)
    omega
  have e1 : ((F : Int) - 1075 + ((G : Int) - 1075)) = ((H : Int) - 1075) - ((52 : Nat) : Int) := by omega
  have e2 : 0 + 4503599627370496 = 2 ^ 52 := by decide
  have R := hh.rd m
  generalize r + 4503599627370496 = n at *
  rw [e1, e2, rdV_mul m s _ hb]
  exact R
theorem mul_nought (m : Int) (s : Bool) {g G : Nat} (hg : NF g false G 0) : mulF m (sgn s) g = (sgn s, 0) := by
  have e1 : isNan (sgn s) = false := by cases s <;> decide +kernel
  have e2 : valF (sgn s) = (s, false, 0, -1074) := by cases s <;> decide +kernel
  rw [mulF_num m e1 hg.nan, e2, hg.val, mulV_fin, withMul_some, bne_false', Nat.zero_mul]
  unfold rdV
  simp only [Bool.false_eq_true, if_false, if_true]
theorem lift127 {n : Nat} (h : n ≠ 0) (hb : blen n ≤ 127) : n * 2 ^ lsh n 1 < 2 ^ 127 ∧ 0 < n * 2 ^ lsh n 1 := by
  have h1 := lt_blen n
  have h2 : n * 2 ^ lsh n 1 < 2 ^ blen n * 2 ^ lsh n 1 := Nat.mul_lt_mul_of_pos_right h1 (Nat.two_pow_pos _)
  rw [← Nat.pow_add, show blen n + lsh n 1 = 127 by unfold lsh; omega] at h2
  exact ⟨h2, Nat.mul_pos (by omega) (Nat.two_pow_pos _)⟩
theorem pl2_facts (s t : Bool) {A B : Nat} (x y : Int) (hA : A < 2 ^ 127) (hA0 : 0 < A) (hB : B < 2 ^ 127) : (pl2 s A x t B y).2.1 = false ∧ (pl2 s A x t B y).2.2.1 < 2 ^ 128 ∧ (pl2 s A x t B y).2.2.2 = x ∧ ((pl2 s A x t B y).2.2.1 = 0 → s ≠ t) := by
  have hd : dn B (x - y).toNat < 2 ^ 127 := dn_lt (j := 127) (by omega) (Nat.lt_of_lt_of_le hB (Nat.pow_le_pow_right (by omega) (by omega)))
  have e : (2 : Nat) ^ 128 = 2 ^ 127 + 2 ^ 127 := by decide
  unfold pl2
  generalize dn B (x - y).toNat = D at *
  generalize (2 : Nat) ^ 127 = Z at *
  rw [e]
  by_cases c : s = t
  · rw [if_pos c]; exact ⟨rfl, by show A + D < _; omega, rfl, fun h => by have h' : A + D = 0 := h; omega⟩
  · rw [if_neg c]
    by_cases d : A < D
    · rw [if_pos d]; exact ⟨rfl, by show D - A < _; omega, rfl, fun _ => c⟩
    · rw [if_neg d]; exact ⟨rfl, by show A - D < _; omega, rfl, fun _ => c⟩
theorem pl2_shift (s t : Bool) (A B : Nat) (x y d : Int) : pl2 s A (x + d) t B (y + d) = ((pl2 s A x t B y).1, (pl2 s A x t B y).2.1, (pl2 s A x t B y).2.2.1, (pl2 s A x t B y).2.2.2 + d) := by
  unfold pl2
  rw [show (x + d - (y + d)).toNat = (x - y).toNat by omega]
  repeat' split
  all_goals rfl
theorem plusV_nz {s t : Bool} {n k : Nat} {x y : Int} (hn : n ≠ 0) (hk : k ≠ 0) : plusV (s, false, n, x) (t, false, k, y) = if x - (lsh n 1 : Int) < y - (lsh k 1 : Int) then pl2 t (k * 2 ^ lsh k 1) (y - (lsh k 1 : Int)) s (n * 2 ^ lsh n 1) (x - (lsh n 1 : Int)) else pl2 s (n * 2 ^ lsh n 1) (x - (lsh n 1 : Int)) t (k * 2 ^ lsh k 1) (y - (lsh k 1 : Int)) :=
  (if_neg hn).trans (if_neg hk)
theorem plusV_shift (s t : Bool) {n k : Nat} (x y d : Int) (hn : n ≠ 0) (hk : k ≠ 0) : plusV (s, false, n, x + d) (t, false, k, y + d) = ((plusV (s, false, n, x) (t, false, k, y)).1, (plusV (s, false, n, x) (t, false, k, y)).2.1, (plusV (s, false, n, x) (t, false, k, y)).2.2.1, (plusV (s, false, n, x) (t, false, k, y)).2.2.2 + d) := by
  rw [plusV_nz hn hk, plusV_nz hn hk]
  have e1 : x + d - (lsh n 1 : Int) = x - (lsh n 1 : Int) + d := by omega
  have e2 : y + d - (lsh k 1 : Int) = y - (lsh k 1 : Int) + d := by omega
  rw [e1, e2]
  by_cases c : x - (lsh n 1 : Int) < y - (lsh k 1 : Int)
  · rw [if_pos c, if_pos (show x - (lsh n 1 : Int) + d < y - (lsh k 1 : Int) + d by omega), pl2_shift]
  · rw [if_neg c, if_neg (show ¬ (x - (lsh n 1 : Int) + d < y - (lsh k 1 : Int) + d) by omega), pl2_shift]
theorem plusV_facts (s t : Bool) {n k : Nat} (x y : Int) (hn : n ≠ 0) (hk : k ≠ 0) (hb : blen n = 53) (hc : blen k = 53) : (plusV (s, false, n, x) (t, false, k, y)).2.1 = false ∧ (plusV (s, false, n, x) (t, false, k, y)).2.2.1 < 2 ^ 128 ∧ (plusV (s, false, n, x) (t, false, k, y)).2.2.2 = max x y - 74 ∧ ((plusV (s, false, n, x) (t, false, k, y)).2.2.1 = 0 → s ≠ t) := by
  rw [plusV_nz hn hk]
  obtain ⟨a1, a2⟩ := lift127 hn (by omega)
  obtain ⟨b1, b2⟩ := lift127 hk (by omega)
  have e1 : lsh n 1 = 74 := by unfold lsh; omega
  have e2 : lsh k 1 = 74 := by unfold lsh; omega
  rw [e1] at a1 a2 ⊢
  rw [e2] at b1 b2 ⊢
  by_cases c : x - ((74 : Nat) : Int) < y - ((74 : Nat) : Int)
  · rw [if_pos c]
    obtain ⟨f1, f2, f3, f4⟩ := pl2_facts t s (y - ((74 : Nat) : Int)) (x - ((74 : Nat) : Int)) b1 b2 a1
    exact ⟨f1, f2, by rw [f3]; omega, fun h h' => f4 h h'.symm⟩
  · rw [if_neg c]
    obtain ⟨f1, f2, f3, f4⟩ := pl2_facts s t (x - ((74 : Nat) : Int)) (y - ((74 : Nat) : Int)) a1 a2 b1
    exact ⟨f1, f2, by rw [f3]; omega, f4⟩
/-- Of usual size, what is rounded is so again, by its exponent higher. -/
theorem rnd_shift (m : Int) (s : Bool) {n : Nat} (x d : Int) (hn : n ≠ 0) (hb : n < 2 ^ 128) (h1 : -1000 ≤ hiP n x) (h2 : hiP n x ≤ 900) (g1 : -1000 ≤ hiP n x + d) (g2 : hiP n x + d ≤ 900) :
    ∃ H G h : Nat, 1 ≤ H ∧ H ≤ 2046 ∧ 1 ≤ G ∧ G ≤ 2046 ∧ h < 4503599627370496 ∧ (G : Int) = (H : Int) + d ∧ rnd m s n x = sgn s + (H * 4503599627370496 + h) ∧ rnd m s n (x + d) = sgn s + (G * 4503599627370496 + h) ∧ rndF m s n (x + d) = rndF m s n x := by
  have hh : hiP n (x + d) = hiP n x + d := by unfold hiP; omega
  have p1 : plP n x = hiP n x := by unfold plP; omega
  have p2 : plP n (x + d) = hiP n x + d := by unfold plP; rw [hh]; omega
  have q1 : shP n x = 73 := by unfold shP; rw [p1]; unfold hiP; omega
  have q2 : shP n (x + d) = 73 := by unfold shP; rw [p2]; unfold hiP; omega
  have k1 : kpt n (x + d) = kpt n x := by unfold kpt; rw [q1, q2]
  have kl : kpt n x < 36028797018963968 := kpt_lt x hn hb
  have kg : 18014398509481984 ≤ kpt n x := by
    have := lift0_ge hn ((blen_le_iff n 128).2 hb)
    unfold kpt dn
    rw [q1]
    refine Nat.le_trans ?_ Nat.left_le_or
    rw [Nat.le_div_iff_mul_le (Nat.two_pow_pos _)]
    exact this
  have f1 : fdP n x = (hiP n x + 1074).toNat := by unfold fdP; rw [p1]; congr 1; omega
  have f2 : fdP n (x + d) = (hiP n x + d + 1074).toNat := by unfold fdP; rw [p2]; congr 1; omega
  have gl := grt_lt m s (kpt n x % 8)
  have z1 : szP m s n x = (hiP n x + 1074).toNat * 4503599627370496 + kpt n x / 4 + grt m s (kpt n x % 8) := by unfold szP; rw [f1]
  have z2 : szP m s n (x + d) = (hiP n x + d + 1074).toNat * 4503599627370496 + kpt n x / 4 + grt m s (kpt n x % 8) := by unfold szP; rw [f2, k1]
  have i1 : rnd m s n x = sgn s + szP m s n x := by unfold rnd; rw [if_neg (by omega)]
  have i2 : rnd m s n (x + d) = sgn s + szP m s n (x + d) := by unfold rnd; rw [if_neg (by omega)]
  have i3 : rndF m s n (x + d) = rndF m s n x := by
    unfold rndF
    rw [if_neg (by omega), if_neg (show ¬ 9218868437227405312 ≤ szP m s n x by omega), k1, hh]
    by_cases c : kpt n x % 4 = 0
    · rw [if_pos c, if_pos c]
    · rw [if_neg c, if_neg c, if_neg (by omega), if_neg (by omega)]
  generalize hK : kpt n x / 4 + grt m s (kpt n x % 8) = K at *
  have kk : 4503599627370496 ≤ K ∧ K ≤ 9007199254740992 := by omega
  refine ⟨(hiP n x + 1074).toNat + K / 4503599627370496, (hiP n x + d + 1074).toNat + K / 4503599627370496, K % 4503599627370496, ?_, ?_, ?_, ?_, ?_, ?_, ?_, ?_, i3⟩
  · omega
  · omega
  · omega
  · omega
  · omega
  · omega
  · rw [i1, z1]; omega
  · rw [i2, z2]; omega
theorem addV_fin (m : Int) (s t : Bool) (n k : Nat) (x y : Int) : addV m (s, false, n, x) (t, false, k, y) = if (plusV (s, false, n, x) (t, false, k, y)).2.2.1 = 0 ∧ s ≠ t then (sgn (rMinus m), 0) else rdV m (plusV (s, false, n, x) (t, false, k, y)) := by
  unfold addV
  generalize plusV (s, false, n, x) (t, false, k, y) = R
  rw [if_neg (fun h => by cases h.1), if_neg (fun h => by cases h), if_neg (fun h => by cases h)]
theorem rdV_fin (m : Int) (s : Bool) {n : Nat} (x : Int) (h : n ≠ 0) : rdV m (s, false, n, x) = (rnd m s n x, rndF m s n x) := by
  unfold rdV
  rw [if_neg (fun h => by cases h), if_neg h]
/-- Sums go with powers of two. -/
theorem add_scale (m : Int) {f g f' g' : Nat} {s t : Bool} {F G r q F' G' : Nat} (d : Int) (hf : NF f s F r) (hg : NF g t G q) (hf' : NF f' s F' r) (hg' : NF g' t G' q) (f1 : 1007 ≤ F) (f2 : F ≤ 1038) (g1 : 1007 ≤ G) (g2 : G ≤ 1038) (d1 : -200 ≤ d) (d2 : d ≤ 200) (e1 : (F' : Int) = F + d) (e2 : (G' : Int) = G + d) :
    (∃ b : Bool, addF m f g = (sgn b, 0) ∧ addF m f' g' = (sgn b, 0)) ∨
    (∃ (k k' : Nat) (b : Bool) (H H' h c : Nat), NF k b H h ∧ NF k' b H' h ∧ (H' : Int) = (H : Int) + d ∧ addF m f g = (k, c) ∧ addF m f' g' = (k', c)) := by
  have hr := hf.2.2.2
  have hq := hg.2.2.2
  have hn : r + 4503599627370496 ≠ 0 := by omega
  have hk : q + 4503599627370496 ≠ 0 := by omega
  have bn : blen (r + 4503599627370496) = 53 := blen_eq (k := 52) (by show 4503599627370496 ≤ _; omega) (by show _ < 9007199254740992; omega)
  have bk : blen (q + 4503599627370496) = 53 := blen_eq (k := 52) (by show 4503599627370496 ≤ _; omega) (by show _ < 9007199254740992; omega)
  have P := plusV_facts s t ((F : Int) - 1075) ((G : Int) - 1075) hn hk bn bk
  have S := plusV_shift s t ((F : Int) - 1075) ((G : Int) - 1075) d hn hk
  have i1 : (F' : Int) - 1075 = (F : Int) - 1075 + d := by omega
  have i2 : (G' : Int) - 1075 = (G : Int) - 1075 + d := by omega
  have j1 : -68 ≤ (F : Int) - 1075 ∧ (F : Int) - 1075 ≤ -37 := by omega
  have j2 : -68 ≤ (G : Int) - 1075 ∧ (G : Int) - 1075 ≤ -37 := by omega
  rw [addF_num m hf.nan hg.nan, addF_num m hf'.nan hg'.nan, hf.val, hg.val, hf'.val, hg'.val, i1, i2]
  clear i1 i2 f1 f2 g1 g2 e1 e2 hf hg hf' hg' hr hq
  generalize r + 4503599627370496 = n1 at *
  generalize q + 4503599627370496 = n2 at *
  generalize (F : Int) - 1075 = x1 at *
  generalize (G : Int) - 1075 = y1 at *
  rw [addV_fin, addV_fin, S]
  generalize plusV (s, false, n1, x1) (t, false, n2, y1) = R at *
  obtain ⟨b, en, n, x⟩ := R
  obtain ⟨P1, P2, P3, P4⟩ := P
  simp only at P1 P2 P3 P4 ⊢
  subst P1
  by_cases c : n = 0
  · left
    rw [if_pos ⟨c, P4 c⟩, if_pos ⟨c, P4 c⟩]
    exact ⟨_, rfl, rfl⟩
  · right
    have i : ¬ (n = 0 ∧ s ≠ t) := fun h => c h.1
    rw [if_neg i, if_neg i]
    have bb := (blen_le_iff n 128).2 P2
    have bp := blen_pos c
    have hl : lsh n 0 = 128 - blen n := by unfold lsh; omega
    have hh : hiP n x = x - ((128 - blen n : Nat) : Int) + 75 := by unfold hiP; rw [hl]
    obtain ⟨H, H', h, a1, a2, a3, a4, a5, a6, a7, a8, a9⟩ := rnd_shift m b x d c P2 (by omega) (by omega) (by omega) (by omega)
    rw [rdV_fin m b x c, rdV_fin m b (x + d) c, a9]
    exact ⟨_, _, b, H, H', h, _, ⟨a7, a1, a2, a5⟩, ⟨a8, a3, a4, a5⟩, a6, rfl, rfl⟩
end Go.Proofs.YtcfhajnboamnnabGreatDoor

namespace Go.Proofs.YtcfhajnboamnnabGreatDoor
open Go.RowKit
set_option linter.unusedVariables false

/-- Of one value, by Down and by Up: the same, or next to one another, in order, numbers. -/
def Narrow (lo hi : Nat) : Prop := (lo = hi ∨ nxF lo true = hi) ∧ (cmpF lo hi).2 = true ∧ (cmpF lo hi).1 ≤ 0 ∧ fsz lo ≤ 9218868437227405312 ∧ fsz hi ≤ 9218868437227405312
theorem cmpI_self (x : Int) : cmpI x x = 0 := by unfold cmpI; rw [if_neg (by omega), if_neg (by omega)]
theorem cmpF_self {f : Nat} (h : fsz f ≤ 9218868437227405312) : cmpF f f = (0, true) := by rw [cmp_num h h, cmpI_self]
theorem narrow_same {f : Nat} (h : fsz f ≤ 9218868437227405312) : Narrow f f := by
  refine ⟨Or.inl rfl, ?_, ?_, h, h⟩ <;> rw [cmpF_self h]
  · exact Int.le_refl 0
theorem narrow_rnd (s : Bool) (n : Nat) (x : Int) : Narrow (rnd 2 s n x) (rnd 3 s n x) := by
  have ht : kpt n x % 8 < 8 := Nat.mod_lt _ (by omega)
  have hu := upB_lt (kpt n x % 8)
  have e : ∀ m, rnd m s n x = sgn s + capB (fdP n x * 4503599627370496 + kpt n x / 4) (grt m s (kpt n x % 8)) (grt m s 7) := fun m => rfl
  rw [e, e]
  generalize fdP n x * 4503599627370496 + kpt n x / 4 = B
  cases s
  · obtain ⟨g1, g2, g3, g0, g4⟩ := grt_pos _ ht
    have b2 : grt 2 false 7 = 0 := by decide
    have b3 : grt 3 false 7 = 1 := by decide
    rw [g2, g3, b2, b3, show sgn false = 0 from rfl]
    generalize upB (kpt n x % 8) = u at *
    have l1 := capB_le B 0 0 (by omega)
    have l2 := capB_le B u 1 (by omega)
    have l3 := capB_mono B u hu
    have l4 : capB B u 1 = capB B 0 0 ∨ capB B u 1 = capB B 0 0 + 1 := by
      unfold capB; repeat' split
      all_goals omega
    generalize capB B 0 0 = L at *
    generalize capB B u 1 = H at *
    have f1 : fsz (0 + L) = L := by unfold fsz; omega
    have f2 : fsz (0 + H) = H := by unfold fsz; omega
    refine ⟨?_, ?_, ?_, by omega, by omega⟩
    · rcases l4 with h | h
      · left; omega
      · right
        have n1 : isNan (0 + L) = false := nan_le (by omega)
        have n2 : fneg (0 + L) = false := by unfold fneg; exact decide_eq_false (by omega)
        unfold nxF
        rw [n1, f1, n2]
        by_cases z : L = 0
        · subst z; simp; omega
        · rw [if_neg (by simp), if_neg z, if_neg (by simp), if_neg (by omega)]; omega
    · rw [cmp_num (by omega) (by omega)]
    · rw [cmp_num (by omega) (by omega), rk_pos (by omega), rk_pos (by omega)]; exact cmpI_le (by omega)
  · obtain ⟨g1, g3, g2, g0, g4⟩ := grt_neg _ ht
    have b2 : grt 2 true 7 = 1 := by decide
    have b3 : grt 3 true 7 = 0 := by decide
    rw [g2, g3, b2, b3, show sgn true = 9223372036854775808 from rfl]
    generalize upB (kpt n x % 8) = u at *
    have l1 := capB_le B 0 0 (by omega)
    have l2 := capB_le B u 1 (by omega)
    have l3 := capB_mono B u hu
    have l4 : capB B u 1 = capB B 0 0 ∨ capB B u 1 = capB B 0 0 + 1 := by
      unfold capB; repeat' split
      all_goals omega
    generalize capB B 0 0 = L at *
    generalize capB B u 1 = H at *
    have f1 : fsz (9223372036854775808 + L) = L := by unfold fsz; omega
    have f2 : fsz (9223372036854775808 + H) = H := by unfold fsz; omega
    refine ⟨?_, ?_, ?_, by omega, by omega⟩
    · rcases l4 with h | h
      · left; omega
      · right
        have n1 : isNan (9223372036854775808 + H) = false := nan_le (by omega)
        have n2 : fneg (9223372036854775808 + H) = true := by unfold fneg; exact decide_eq_true (by omega)
        unfold nxF
        rw [n1, f2, n2, if_neg (by simp), if_neg (by omega), if_pos rfl]; omega
    · rw [cmp_num (by omega) (by omega)]
    · rw [cmp_num (by omega) (by omega), rk_neg (by omega), rk_neg (by omega)]; exact cmpI_le (by omega)
theorem narrow_rdV {s : Bool} {n : Nat} {x : Int} : Narrow (rdV 2 (s, false, n, x)).1 (rdV 3 (s, false, n, x)).1 := by
  by_cases c : n = 0
  · have e : ∀ m, rdV m (s, false, n, x) = (sgn s, 0) := fun m => by
      unfold rdV; rw [if_neg (fun h => by cases h), if_pos c]
    rw [e, e]
    exact narrow_same (by cases s <;> decide +kernel)
  · rw [rdV_fin 2 s x c, rdV_fin 3 s x c]
    exact narrow_rnd s n x
end Go.Proofs.YtcfhajnboamnnabGreatDoor

namespace Go.Proofs.YtcfhajnboamnnabGreatDoor
open Go.RowKit
set_option linter.unusedVariables false

theorem rnd_lt (m : Int) (s : Bool) (n : Nat) (x : Int) : rnd m s n x < 18446744073709551616 := by
  have h1 := grt_lt m s 7
  have h2 : sgn s ≤ 9223372036854775808 := by unfold sgn; split <;> omega
  unfold rnd
  split <;> omega
theorem sgn_le (s : Bool) : sgn s ≤ 9223372036854775808 := by unfold sgn; split <;> omega
theorem rdV_lt (m : Int) (v : Bool × Bool × Nat × Int) : (rdV m v).1 < 18446744073709551616 := by
  obtain ⟨s, en, n, x⟩ := v
  have h1 := rnd_lt m s n x
  have h2 := sgn_le s
  unfold rdV
  by_cases c : en = true
  · rw [if_pos c]; show sgn s + 9218868437227405312 < _; omega
  · rw [if_neg c]
    by_cases d : n = 0
    · rw [if_pos d]; show sgn s < _; omega
    · rw [if_neg d]; exact h1
theorem nan_lt : (9221120237041090560 : Nat) < 18446744073709551616 := by omega
theorem addV_lt (m : Int) (v w : Bool × Bool × Nat × Int) : (addV m v w).1 < 18446744073709551616 := by
  have h1 := rdV_lt m v
  have h2 := rdV_lt m w
  have h3 := rdV_lt m (plusV v w)
  have h4 := sgn_le (rMinus m)
  unfold addV
  by_cases c1 : v.2.1 = true ∧ w.2.1 = true ∧ v.1 ≠ w.1
  · rw [if_pos c1]; exact nan_lt
  · rw [if_neg c1]
    by_cases c2 : v.2.1 = true
    · rw [if_pos c2]; exact h1
    · rw [if_neg c2]
      by_cases c3 : w.2.1 = true
      · rw [if_pos c3]; exact h2
      · rw [if_neg c3]
        by_cases c4 : (plusV v w).2.2.1 = 0 ∧ v.1 ≠ w.1
        · rw [if_pos c4]; show sgn (rMinus m) < _; omega
        · rw [if_neg c4]; exact h3
theorem addF_lt (m : Int) (f g : Nat) : (addF m f g).1 < 18446744073709551616 := by
  have h := addV_lt m (valF f) (valF g)
  unfold addF
  by_cases c : (isNan f || isNan g) = true
  · rw [if_pos c]; exact nan_lt
  · rw [if_neg c]; exact h
theorem mulF_lt (m : Int) (f g : Nat) : (mulF m f g).1 < 18446744073709551616 := by
  unfold mulF
  by_cases c : (isNan f || isNan g) = true
  · rw [if_pos c]; exact nan_lt
  · rw [if_neg c]
    cases mulV (valF f) (valF g) with
    | none => simp only [withMul]; exact nan_lt
    | some v => simp only [withMul]; exact rdV_lt m v
theorem divV_lt (m : Int) (v w o : Bool × Bool × Nat × Int) : (divV m v w o).1 < 18446744073709551616 := by
  have h1 := rdV_lt m (v.1 != w.1, true, 0, 0)
  have h2 := rdV_lt m (v.1 != w.1, false, 0, 0)
  have h3 := rdV_lt m o
  unfold divV
  by_cases c1 : (v.2.1 = true ∧ w.2.1 = true) ∨ ((v.2.1 = false ∧ v.2.2.1 = 0) ∧ w.2.1 = false ∧ w.2.2.1 = 0)
  · rw [if_pos c1]; exact nan_lt
  · rw [if_neg c1]
    by_cases c2 : v.2.1 = true
    · rw [if_pos c2]; exact h1
    · rw [if_neg c2]
      by_cases c3 : w.2.1 = true ∨ v.2.2.1 = 0
      · rw [if_pos c3]; exact h2
      · rw [if_neg c3]
        by_cases c4 : w.2.2.1 = 0
        · rw [if_pos c4]; exact h1
        · rw [if_neg c4]; exact h3
theorem divF_lt (m : Int) (f g : Nat) (o : Bool × Bool × Nat × Int) : (divF m f g o).1 < 18446744073709551616 := by
  have h := divV_lt m (valF f) (valF g) o
  unfold divF
  by_cases c : (isNan f || isNan g) = true
  · rw [if_pos c]; exact nan_lt
  · rw [if_neg c]; exact h
end Go.Proofs.YtcfhajnboamnnabGreatDoor

namespace Go.Proofs.YtcfhajnboamnnabGreatDoor
open Go.RowKit
set_option linter.unusedVariables false

end Go.Proofs.YtcfhajnboamnnabGreatDoor

namespace Go.Proofs.YtcfhajnboamnnabGreatDoor
open Go.RowKit
set_option linter.unusedVariables false

/-- The struct v is a sign and a size. -/
def WH (w : World) (v : Value) (s : Bool) (m : Nat) : Prop := ∃ vN, v = .agg #[.bool s, vN] ∧ Num w vN m
theorem WH.fwd {w w' : World} {v : Value} {s : Bool} {m : Nat} (h : WH w v s m) (k : Fwd w w') : WH w' v s m := by
  obtain ⟨vN, e, h1⟩ := h
  exact ⟨vN, e, h1.fwd k⟩
theorem WH.open {w : World} {v : Value} {s : Bool} {m : Nat} (h : WH w v s m) : ∃ no nc, v = .agg #[.bool s, .slice no (nl m) nc] ∧ nl m ≤ nc ∧ nc ≤ 9223372036854775807 ∧ Num w (.slice no (nl m) nc) m := by
  obtain ⟨vN, rfl, h1⟩ := h
  obtain ⟨no, nc, rfl, a1, a2, _⟩ := h1.parts
  unfold maxLen at a2
  exact ⟨no, nc, rfl, a1, by omega, h1⟩
theorem WH.keepV {w w' : World} {v : Value} {s : Bool} {m g : Nat} {T : TypeId} {cs : List Value} (h : WH w v s m) (hb : BlkV w g T cs) (hcs : ∀ c ∈ cs, ∀ x, c ≠ .int .u32 x) (k : Only g w w') : WH w' v s m := by
  obtain ⟨a, e, h3⟩ := h
  exact ⟨a, e, h3.keepV hb hcs k⟩
theorem WH.drew {w : World} {v : Value} {s : Bool} {m : Nat} (h : WH w v s m) : WH w.drew v s m := h
theorem nl_plus (s : Bool) (m : Nat) (t : Bool) (n : Nat) : nl (plusN s m t n) ≤ max (nl m) (nl n) + 1 := by
  unfold plusN
  split
  · have := nl_add m n; omega
  · split
    · have := nl_sub n m; omega
    · have := nl_sub m n; omega

end Go.Proofs.YtcfhajnboamnnabGreatDoor

namespace Go.Proofs.YtcfhajnboamnnabGreatDoor
open Go.RowKit
set_option linter.unusedVariables false

theorem RV.rw' {w : World} {v : Value} {q : Rat} (h : RV w v q) : RW w v (negQ q) q.num.natAbs q.den := h
theorem RV.drew {w : World} {v : Value} {q : Rat} (h : RV w v q) : RV w.drew v q := h
theorem RV.keepV {w w' : World} {v : Value} {q : Rat} {g : Nat} {T : TypeId} {cs : List Value} (h : RV w v q) (hb : BlkV w g T cs) (hcs : ∀ c ∈ cs, ∀ x, c ≠ .int .u32 x) (k : Only g w w') : RV w' v q := RW.keepV h hb hcs k
theorem nr_le {q : Rat} {B : Nat} (h : nr q ≤ B) : nl q.num.natAbs ≤ B ∧ nl q.den ≤ B := ⟨Nat.le_trans (nr_num q) h, Nat.le_trans (nr_den q) h⟩

/-- What holds of sizes, turned about below nought. -/
def turnI (s : Bool) (n : Int) : Int := if s then -n else n

end Go.Proofs.YtcfhajnboamnnabGreatDoor
