/- Floats, mathematics: by powers of two sums and products are scaled. -/
import Derived.Test.YtfaklfceanfkeaaDoorXFN
import Derived.Test.YtfaklfceanfkeaaDoorXFO
namespace Go.Proofs.YtfaklfceanfkeaaDoor
open Go.RowKit
set_option linter.unusedVariables false

/-- A float of usual size by its parts. -/
def NF (f : Nat) (s : Bool) (F r : Nat) : Prop := f = sgn s + (F * 4503599627370496 + r) ∧ 1 ≤ F ∧ F ≤ 2046 ∧ r < 4503599627370496
theorem NF.facts {f : Nat} {s : Bool} {F r : Nat} (h : NF f s F r) : fneg f = s ∧ fsz f = F * 4503599627370496 + r ∧ vsz f = r + 4503599627370496 ∧ vex f = (F : Int) - 1075 ∧ f < 18446744073709551616 := by
  obtain ⟨hf, h1, h2, hr⟩ := h
  have hs : sgn s = if s then 9223372036854775808 else 0 := rfl
  have e : fsz f = F * 4503599627370496 + r := by
    unfold fsz; cases s
    · simp only [Bool.false_eq_true, if_false] at hs; omega
    · simp only [if_true] at hs; omega
  have d : fsz f / 4503599627370496 = F := by omega
  refine ⟨?_, e, ?_, ?_, ?_⟩
  · unfold fneg; cases s
    · simp only [Bool.false_eq_true, if_false] at hs; exact decide_eq_false (by omega)
    · simp only [if_true] at hs; exact decide_eq_true (by omega)
  · unfold vsz; rw [d, if_neg (by omega), frac_fsz]; omega
  · unfold vex; rw [d, if_neg (by omega)]; omega
  · cases s
    · simp only [Bool.false_eq_true, if_false] at hs; omega
    · simp only [if_true] at hs; omega
theorem NF.val {f : Nat} {s : Bool} {F r : Nat} (h : NF f s F r) : valF f = (s, false, r + 4503599627370496, (F : Int) - 1075) := by
  obtain ⟨a, b, c, d, _⟩ := h.facts
  obtain ⟨hf, h1, h2, hr⟩ := h
  have i : ¬ fsz f = 9218868437227405312 := by omega
  unfold valF
  rw [if_neg i, a, c, d]
theorem NF.nan {f : Nat} {s : Bool} {F r : Nat} (h : NF f s F r) : isNan f = false := by
  obtain ⟨a, b, c, d, _⟩ := h.facts
  obtain ⟨hf, h1, h2, hr⟩ := h
  exact nan_le (by omega)
theorem NF.rd {f : Nat} {s : Bool} {F r : Nat} (h : NF f s F r) (m : Int) : rdV m (s, false, r + 4503599627370496, (F : Int) - 1075) = (f, 0) := by
  obtain ⟨a, b, c, d, l⟩ := h.facts
  obtain ⟨hf, h1, h2, hr⟩ := h
  have o := own_rnd l (by omega) (by omega) m
  rw [a, c, d] at o
  unfold rdV
  simp only [Bool.false_eq_true, if_false]
  rw [if_neg (by omega), o.1, o.2]
theorem mulV_fin {s t : Bool} {n k : Nat} {x y : Int} : mulV (s, false, n, x) (t, false, k, y) = some (s != t, false, n * k, x + y) := by
  unfold mulV; simp
theorem addF_num {f g : Nat} (m : Int) (hf : isNan f = false) (hg : isNan g = false) : addF m f g = addV m (valF f) (valF g) := by
  unfold addF; rw [hf, hg]; simp only [Bool.or_self, Bool.false_eq_true, if_false]
theorem mulF_num {f g : Nat} (m : Int) (hf : isNan f = false) (hg : isNan g = false) : mulF m f g = withMul (mulV (valF f) (valF g)) (rdV m) := by
  unfold mulF; rw [hf, hg]; simp only [Bool.or_self, Bool.false_eq_true, if_false]
theorem withMul_some (v : Bool × Bool × Nat × Int) (k : Bool × Bool × Nat × Int → Nat × Nat) : withMul (some v) k = k v := rfl
theorem bne_false' (s : Bool) : (s != false) = s := by cases s <;> rfl
/-- By a power of two. -/
theorem mul_pow2 (m : Int) {f g h : Nat} {s : Bool} {F r G H : Nat} (hf : NF f s F r) (hg : NF g false G 0) (hh : NF h s H r) (e : F + G = H + 1023) : mulF m f g = (h, 0) := by
  rw [mulF_num m hf.nan hg.nan, hf.val, hg.val, mulV_fin, withMul_some, bne_false']
  have hb : blen (r + 4503599627370496) + 52 ≤ 128 := by
    have := blen_of_lt (n := r + 4503599627370496) (k := 53) (show _ < 9007199254740992 by have := hf.2.2.2; omega)
    omega
  have e1 : ((F : Int) - 1075 + ((G : Int) - 1075)) = ((H : Int) - 1075) - ((52 : Nat) : Int) := by omega
  have e2 : 0 + 4503599627370496 = 2 ^ 52 := by decide
  have R := hh.rd m
  generalize r + 4503599627370496 = n at *
  rw [e1, e2, rdV_mul m s _ hb]
  exact R
theorem mul_nought (m : Int) (s : Bool) {g G : Nat} (hg : NF g false G 0) : mulF m (sgn s) g = (sgn s, 0) := by
  have e1 : isNan (sgn s) = false := by cases s <;> decide +kernel
  have e2 : valF (sgn s) = (s, false, 0, -1074) := by cases s <;> decide +kernel
  rw [mulF_num m e1 hg.nan, e2, hg.val, mulV_fin, withMul_some, bne_false', Nat.zero_mul]
  unfold rdV
  simp only [Bool.false_eq_true, if_false, if_true]
theorem lift127 {n : Nat} (h : n ≠ 0) (hb : blen n ≤ 127) : n * 2 ^ lsh n 1 < 2 ^ 127 ∧ 0 < n * 2 ^ lsh n 1 := by
  have h1 := lt_blen n
  have h2 : n * 2 ^ lsh n 1 < 2 ^ blen n * 2 ^ lsh n 1 := Nat.mul_lt_mul_of_pos_right h1 (Nat.two_pow_pos _)
  rw [← Nat.pow_add, show blen n + lsh n 1 = 127 by unfold lsh; omega] at h2
  exact ⟨h2, Nat.mul_pos (by omega) (Nat.two_pow_pos _)⟩
theorem pl2_facts (s t : Bool) {A B : Nat} (x y : Int) (hA : A < 2 ^ 127) (hA0 : 0 < A) (hB : B < 2 ^ 127) : (pl2 s A x t B y).2.1 = false ∧ (pl2 s A x t B y).2.2.1 < 2 ^ 128 ∧ (pl2 s A x t B y).2.2.2 = x ∧ ((pl2 s A x t B y).2.2.1 = 0 → s ≠ t) := by
  have hd : dn B (x - y).toNat < 2 ^ 127 := dn_lt (j := 127) (by omega) (Nat.lt_of_lt_of_le hB (Nat.pow_le_pow_right (by omega) (by omega)))
  have e : (2 : Nat) ^ 128 = 2 ^ 127 + 2 ^ 127 := by decide
  unfold pl2
  generalize dn B (x - y).toNat = D at *
  generalize (2 : Nat) ^ 127 = Z at *
  rw [e]
  by_cases c : s = t
  · rw [if_pos c]; exact ⟨rfl, by show A + D < _; omega, rfl, fun h => by have h' : A + D = 0 := h; omega⟩
  · rw [if_neg c]
    by_cases d : A < D
    · rw [if_pos d]; exact ⟨rfl, by show D - A < _; omega, rfl, fun _ => c⟩
    · rw [if_neg d]; exact ⟨rfl, by show A - D < _; omega, rfl, fun _ => c⟩
theorem pl2_shift (s t : Bool) (A B : Nat) (x y d : Int) : pl2 s A (x + d) t B (y + d) = ((pl2 s A x t B y).1, (pl2 s A x t B y).2.1, (pl2 s A x t B y).2.2.1, (pl2 s A x t B y).2.2.2 + d) := by
  unfold pl2
  rw [show (x + d - (y + d)).toNat = (x - y).toNat by omega]
  repeat' split
  all_goals rfl
theorem plusV_nz {s t : Bool} {n k : Nat} {x y : Int} (hn : n ≠ 0) (hk : k ≠ 0) : plusV (s, false, n, x) (t, false, k, y) = if x - (lsh n 1 : Int) < y - (lsh k 1 : Int) then pl2 t (k * 2 ^ lsh k 1) (y - (lsh k 1 : Int)) s (n * 2 ^ lsh n 1) (x - (lsh n 1 : Int)) else pl2 s (n * 2 ^ lsh n 1) (x - (lsh n 1 : Int)) t (k * 2 ^ lsh k 1) (y - (lsh k 1 : Int)) :=
  (if_neg hn).trans (if_neg hk)
theorem plusV_shift (s t : Bool) {n k : Nat} (x y d : Int) (hn : n ≠ 0) (hk : k ≠ 0) : plusV (s, false, n, x + d) (t, false, k, y + d) = ((plusV (s, false, n, x) (t, false, k, y)).1, (plusV (s, false, n, x) (t, false, k, y)).2.1, (plusV (s, false, n, x) (t, false, k, y)).2.2.1, (plusV (s, false, n, x) (t, false, k, y)).2.2.2 + d) := by
  rw [plusV_nz hn hk, plusV_nz hn hk]
  have e1 : x + d - (lsh n 1 : Int) = x - (lsh n 1 : Int) + d := by omega
  have e2 : y + d - (lsh k 1 : Int) = y - (lsh k 1 : Int) + d := by omega
  rw [e1, e2]
  by_cases c : x - (lsh n 1 : Int) < y - (lsh k 1 : Int)
  · rw [if_pos c, if_pos (show x - (lsh n 1 : Int) + d < y - (lsh k 1 : Int) + d by omega), pl2_shift]
  · rw [if_neg c, if_neg (show ¬ (x - (lsh n 1 : Int) + d < y - (lsh k 1 : Int) + d) by omega), pl2_shift]
theorem plusV_facts (s t : Bool) {n k : Nat} (x y : Int) (hn : n ≠ 0) (hk : k ≠ 0) (hb : blen n = 53) (hc : blen k = 53) : (plusV (s, false, n, x) (t, false, k, y)).2.1 = false ∧ (plusV (s, false, n, x) (t, false, k, y)).2.2.1 < 2 ^ 128 ∧ (plusV (s, false, n, x) (t, false, k, y)).2.2.2 = max x y - 74 ∧ ((plusV (s, false, n, x) (t, false, k, y)).2.2.1 = 0 → s ≠ t) := by
  rw [plusV_nz hn hk]
  obtain ⟨a1, a2⟩ := lift127 hn (by omega)
  obtain ⟨b1, b2⟩ := lift127 hk (by omega)
  have e1 : lsh n 1 = 74 := by unfold lsh; omega
  have e2 : lsh k 1 = 74 := by unfold lsh; omega
  rw [e1] at a1 a2 ⊢
  rw [e2] at b1 b2 ⊢
  by_cases c : x - ((74 : Nat) : Int) < y - ((74 : Nat) : Int)
  · rw [if_pos c]
    obtain ⟨f1, f2, f3, f4⟩ := pl2_facts t s (y - ((74 : Nat) : Int)) (x - ((74 : Nat) : Int)) b1 b2 a1
    exact ⟨f1, f2, by rw [f3]; omega, fun h h' => f4 h h'.symm⟩
  · rw [if_neg c]
    obtain ⟨f1, f2, f3, f4⟩ := pl2_facts s t (x - ((74 : Nat) : Int)) (y - ((74 : Nat) : Int)) a1 a2 b1
    exact ⟨f1, f2, by rw [f3]; omega, f4⟩
/-- Of usual size, what is rounded is so again, by its exponent higher. -/
theorem rnd_shift (m : Int) (s : Bool) {n : Nat} (x d : Int) (hn : n ≠ 0) (hb : n < 2 ^ 128) (h1 : -1000 ≤ hiP n x) (h2 : hiP n x ≤ 900) (g1 : -1000 ≤ hiP n x + d) (g2 : hiP n x + d ≤ 900) :
    ∃ H G h : Nat, 1 ≤ H ∧ H ≤ 2046 ∧ 1 ≤ G ∧ G ≤ 2046 ∧ h < 4503599627370496 ∧ (G : Int) = (H : Int) + d ∧ rnd m s n x = sgn s + (H * 4503599627370496 + h) ∧ rnd m s n (x + d) = sgn s + (G * 4503599627370496 + h) ∧ rndF m s n (x + d) = rndF m s n x := by
  have hh : hiP n (x + d) = hiP n x + d := by unfold hiP; omega
  have p1 : plP n x = hiP n x := by unfold plP; omega
  have p2 : plP n (x + d) = hiP n x + d := by unfold plP; rw [hh]; omega
  have q1 : shP n x = 73 := by unfold shP; rw [p1]; unfold hiP; omega
  have q2 : shP n (x + d) = 73 := by unfold shP; rw [p2]; unfold hiP; omega
  have k1 : kpt n (x + d) = kpt n x := by unfold kpt; rw [q1, q2]
  have kl : kpt n x < 36028797018963968 := kpt_lt x hn hb
  have kg : 18014398509481984 ≤ kpt n x := by
    have := lift0_ge hn ((blen_le_iff n 128).2 hb)
    unfold kpt dn
    rw [q1]
    refine Nat.le_trans ?_ Nat.left_le_or
    rw [Nat.le_div_iff_mul_le (Nat.two_pow_pos _)]
    exact this
  have f1 : fdP n x = (hiP n x + 1074).toNat := by unfold fdP; rw [p1]; congr 1; omega
  have f2 : fdP n (x + d) = (hiP n x + d + 1074).toNat := by unfold fdP; rw [p2]; congr 1; omega
  have gl := grt_lt m s (kpt n x % 8)
  have z1 : szP m s n x = (hiP n x + 1074).toNat * 4503599627370496 + kpt n x / 4 + grt m s (kpt n x % 8) := by unfold szP; rw [f1]
  have z2 : szP m s n (x + d) = (hiP n x + d + 1074).toNat * 4503599627370496 + kpt n x / 4 + grt m s (kpt n x % 8) := by unfold szP; rw [f2, k1]
  have i1 : rnd m s n x = sgn s + szP m s n x := by unfold rnd; rw [if_neg (by omega)]
  have i2 : rnd m s n (x + d) = sgn s + szP m s n (x + d) := by unfold rnd; rw [if_neg (by omega)]
  have i3 : rndF m s n (x + d) = rndF m s n x := by
    unfold rndF
    rw [if_neg (by omega), if_neg (show ¬ 9218868437227405312 ≤ szP m s n x by omega), k1, hh]
    by_cases c : kpt n x % 4 = 0
    · rw [if_pos c, if_pos c]
    · rw [if_neg c, if_neg c, if_neg (by omega), if_neg (by omega)]
  generalize hK : kpt n x / 4 + grt m s (kpt n x % 8) = K at *
  have kk : 4503599627370496 ≤ K ∧ K ≤ 9007199254740992 := by omega
  refine ⟨(hiP n x + 1074).toNat + K / 4503599627370496, (hiP n x + d + 1074).toNat + K / 4503599627370496, K % 4503599627370496, ?_, ?_, ?_, ?_, ?_, ?_, ?_, ?_, i3⟩
  · omega
  · omega
  · omega
  · omega
  · omega
  · omega
  · rw [i1, z1]; omega
  · rw [i2, z2]; omega
theorem addV_fin (m : Int) (s t : Bool) (n k : Nat) (x y : Int) : addV m (s, false, n, x) (t, false, k, y) = if (plusV (s, false, n, x) (t, false, k, y)).2.2.1 = 0 ∧ s ≠ t then (sgn (rMinus m), 0) else rdV m (plusV (s, false, n, x) (t, false, k, y)) := by
  unfold addV
  generalize plusV (s, false, n, x) (t, false, k, y) = R
  rw [if_neg (fun h => by cases h.1), if_neg (fun h => by cases h), if_neg (fun h => by cases h)]
theorem rdV_fin (m : Int) (s : Bool) {n : Nat} (x : Int) (h : n ≠ 0) : rdV m (s, false, n, x) = (rnd m s n x, rndF m s n x) := by
  unfold rdV
  rw [if_neg (fun h => by cases h), if_neg h]
/-- Sums go with powers of two. -/
theorem add_scale (m : Int) {f g f' g' : Nat} {s t : Bool} {F G r q F' G' : Nat} (d : Int) (hf : NF f s F r) (hg : NF g t G q) (hf' : NF f' s F' r) (hg' : NF g' t G' q) (f1 : 1007 ≤ F) (f2 : F ≤ 1038) (g1 : 1007 ≤ G) (g2 : G ≤ 1038) (d1 : -200 ≤ d) (d2 : d ≤ 200) (e1 : (F' : Int) = F + d) (e2 : (G' : Int) = G + d) :
    (∃ b : Bool, addF m f g = (sgn b, 0) ∧ addF m f' g' = (sgn b, 0)) ∨
    (∃ (k k' : Nat) (b : Bool) (H H' h c : Nat), NF k b H h ∧ NF k' b H' h ∧ (H' : Int) = (H : Int) + d ∧ addF m f g = (k, c) ∧ addF m f' g' = (k', c)) := by
  have hr := hf.2.2.2
  have hq := hg.2.2.2
  have hn : r + 4503599627370496 ≠ 0 := by omega
  have hk : q + 4503599627370496 ≠ 0 := by omega
  have bn : blen (r + 4503599627370496) = 53 := blen_eq (k := 52) (by show 4503599627370496 ≤ _; omega) (by show _ < 9007199254740992; omega)
  have bk : blen (q + 4503599627370496) = 53 := blen_eq (k := 52) (by show 4503599627370496 ≤ _; omega) (by show _ < 9007199254740992; omega)
  have P := plusV_facts s t ((F : Int) - 1075) ((G : Int) - 1075) hn hk bn bk
  have S := plusV_shift s t ((F : Int) - 1075) ((G : Int) - 1075) d hn hk
  have i1 : (F' : Int) - 1075 = (F : Int) - 1075 + d := by omega
  have i2 : (G' : Int) - 1075 = (G : Int) - 1075 + d := by omega
  have j1 : -68 ≤ (F : Int) - 1075 ∧ (F : Int) - 1075 ≤ -37 := by omega
  have j2 : -68 ≤ (G : Int) - 1075 ∧ (G : Int) - 1075 ≤ -37 := by omega
  rw [addF_num m hf.nan hg.nan, addF_num m hf'.nan hg'.nan, hf.val, hg.val, hf'.val, hg'.val, i1, i2]
  clear i1 i2 f1 f2 g1 g2 e1 e2 hf hg hf' hg' hr hq
  generalize r + 4503599627370496 = n1 at *
  generalize q + 4503599627370496 = n2 at *
  generalize (F : Int) - 1075 = x1 at *
  generalize (G : Int) - 1075 = y1 at *
  rw [addV_fin, addV_fin, S]
  generalize plusV (s, false, n1, x1) (t, false, n2, y1) = R at *
  obtain ⟨b, en, n, x⟩ := R
  obtain ⟨P1, P2, P3, P4⟩ := P
  simp only at P1 P2 P3 P4 ⊢
  subst P1
  by_cases c : n = 0
  · left
    rw [if_pos ⟨c, P4 c⟩, if_pos ⟨c, P4 c⟩]
    exact ⟨_, rfl, rfl⟩
  · right
    have i : ¬ (n = 0 ∧ s ≠ t) := fun h => c h.1
    rw [if_neg i, if_neg i]
    have bb := (blen_le_iff n 128).2 P2
    have bp := blen_pos c
    have hl : lsh n 0 = 128 - blen n := by unfold lsh; omega
    have hh : hiP n x = x - ((128 - blen n : Nat) : Int) + 75 := by unfold hiP; rw [hl]
    obtain ⟨H, H', h, a1, a2, a3, a4, a5, a6, a7, a8, a9⟩ := rnd_shift m b x d c P2 (by omega) (by omega) (by omega) (by omega)
    rw [rdV_fin m b x c, rdV_fin m b (x + d) c, a9]
    exact ⟨_, _, b, H, H', h, _, ⟨a7, a1, a2, a5⟩, ⟨a8, a3, a4, a5⟩, a6, rfl, rfl⟩
end Go.Proofs.YtfaklfceanfkeaaDoor
