/- Plain mathematics of rational numbers as the program tells them: a sign, a numerator's size, a denominator. Nothing of the program is named here. -/
/- Rational numbers in memory; the second telling's one, Zero, Make, made. -/
/- The second telling's made, Same, Mul of rational numbers. -/
/- The second telling's Quo, Add, Cmp of rational numbers. -/
/- The second telling's Cmp, Nought, size, Of of rational numbers. -/
/- append([]uint32{}, src...) at a step of a region that draws; the second telling's Neg. -/
/- The second telling's size, Of of rational numbers. -/
import Derived.Test.YtcfhajnboamnnabGreatDoorKA
import Derived.Test.YtcfhajnboamnnabGreatDoorYKG
import Derived.Deep.RegionHeld3
import Derived.Laws.OwnMore
namespace Go.Proofs.YtcfhajnboamnnabGreatDoor

/-- The number of a sign, a size, a denominator. -/
def sgQ (neg : Bool) (n : Nat) : Int := if neg then -(n : Int) else n
def mkQ (neg : Bool) (n d : Nat) : Rat := mkRat (sgQ neg n) d

theorem sgQ_natAbs (neg : Bool) (n : Nat) : (sgQ neg n).natAbs = n := by cases neg <;> simp [sgQ]
theorem sgQ_mul (s t : Bool) (m n : Nat) : sgQ s m * sgQ t n = sgQ (s != t) (m * n) := by cases s <;> cases t <;> simp [sgQ] <;> grind
theorem sgQ_zero (neg : Bool) : sgQ neg 0 = 0 := by cases neg <;> simp [sgQ]
theorem sgQ_nat (s : Bool) (m k : Nat) : sgQ s m * (k : Int) = sgQ s (m * k) := by cases s <;> simp [sgQ] <;> grind

/-- Is it below nought? -/
def negQ (q : Rat) : Bool := decide (q.num < 0)
theorem sgQ_self (q : Rat) : sgQ (negQ q) q.num.natAbs = q.num := by
  unfold sgQ negQ
  by_cases h : q.num < 0
  · rw [decide_eq_true h]; simp; omega
  · rw [decide_eq_false h]; simp; omega
theorem mkQ_self (q : Rat) : mkQ (negQ q) q.num.natAbs q.den = q := by
  unfold mkQ; rw [sgQ_self, Rat.mkRat_self]

theorem mkQ_den {neg : Bool} {n d : Nat} (hd : d ≠ 0) : (mkQ neg n d).den = d / Nat.gcd n d := by
  unfold mkQ; rw [Rat.den_mkRat, if_neg hd, sgQ_natAbs, Nat.gcd_comm]
theorem mkQ_num {neg : Bool} {n d : Nat} (hd : d ≠ 0) : (mkQ neg n d).num = sgQ neg (n / Nat.gcd n d) := by
  unfold mkQ; rw [Rat.num_mkRat, if_neg hd, sgQ_natAbs, Nat.gcd_comm]
  cases neg
  · simp [sgQ]
  · simp only [sgQ, if_true]
    rw [Int.neg_ediv_of_dvd (Int.ofNat_dvd.2 (Nat.gcd_dvd_left n d))]
    simp
theorem mkQ_abs {neg : Bool} {n d : Nat} (hd : d ≠ 0) : (mkQ neg n d).num.natAbs = n / Nat.gcd n d := by rw [mkQ_num hd, sgQ_natAbs]
theorem mkQ_neg {neg : Bool} {n d : Nat} (hd : d ≠ 0) (hn : n ≠ 0) : negQ (mkQ neg n d) = neg := by
  unfold negQ
  rw [mkQ_num hd]
  have hg : 0 < n / Nat.gcd n d := Nat.div_pos (Nat.le_of_dvd (Nat.pos_of_ne_zero hn) (Nat.gcd_dvd_left n d)) (Nat.gcd_pos_of_pos_right _ (Nat.pos_of_ne_zero hd))
  generalize n / Nat.gcd n d = k at *
  cases neg <;> simp [sgQ] <;> omega
theorem mkQ_zero (neg : Bool) (d : Nat) : mkQ neg 0 d = 0 := by unfold mkQ; rw [sgQ_zero, Rat.zero_mkRat]

/-- Sums, products, quotients, by parts. -/
theorem Q_add (a b : Rat) : a + b = mkRat (sgQ (negQ a) (a.num.natAbs * b.den) + sgQ (negQ b) (b.num.natAbs * a.den)) (a.den * b.den) := by
  rw [Rat.add_def', ← sgQ_nat, ← sgQ_nat, sgQ_self, sgQ_self]
theorem Q_add_same {a b : Rat} (h : negQ a = negQ b) : a + b = mkQ (negQ a) (a.num.natAbs * b.den + b.num.natAbs * a.den) (a.den * b.den) := by
  rw [Q_add, ← h]
  unfold mkQ
  congr 1
  cases negQ a <;> simp [sgQ] <;> omega
theorem Q_add_less {a b : Rat} (h : negQ a ≠ negQ b) (hl : a.num.natAbs * b.den ≤ b.num.natAbs * a.den) : a + b = mkQ (negQ b) (b.num.natAbs * a.den - a.num.natAbs * b.den) (a.den * b.den) := by
  rw [Q_add]
  unfold mkQ
  congr 1
  generalize a.num.natAbs * b.den = x at *
  generalize b.num.natAbs * a.den = y at *
  cases h1 : negQ a <;> cases h2 : negQ b <;> rw [h1, h2] at h <;> simp [sgQ] at * <;> omega
theorem Q_add_more {a b : Rat} (h : negQ a ≠ negQ b) (hl : b.num.natAbs * a.den ≤ a.num.natAbs * b.den) : a + b = mkQ (negQ a) (a.num.natAbs * b.den - b.num.natAbs * a.den) (a.den * b.den) := by
  rw [Q_add]
  unfold mkQ
  congr 1
  generalize a.num.natAbs * b.den = x at *
  generalize b.num.natAbs * a.den = y at *
  cases h1 : negQ a <;> cases h2 : negQ b <;> rw [h1, h2] at h <;> simp [sgQ] at * <;> omega
theorem Q_mul (a b : Rat) : a * b = mkQ (negQ a != negQ b) (a.num.natAbs * b.num.natAbs) (a.den * b.den) := by
  rw [Rat.mul_def']
  unfold mkQ
  rw [← sgQ_mul, sgQ_self, sgQ_self]
theorem Q_div {a b : Rat} (hb : b ≠ 0) : a / b = mkQ (negQ a != negQ b) (a.num.natAbs * b.den) (a.den * b.num.natAbs) := by
  have hbn : b.num ≠ 0 := fun h => hb (Rat.num_eq_zero.1 h)
  have hb0 : b.num.natAbs ≠ 0 := by omega
  have h1 : a / b = mkRat (a.num * (b.num.sign * b.den)) (a.den * b.num.natAbs) := by
    rw [Rat.div_def, Rat.mul_def', Rat.num_inv, Rat.den_inv, if_neg hbn]
  rw [h1]
  unfold mkQ
  congr 1
  conv => lhs; rw [← sgQ_self a]
  unfold sgQ negQ
  by_cases ha : a.num < 0
  · by_cases hb2 : b.num < 0
    · rw [decide_eq_true ha, decide_eq_true hb2, Int.sign_eq_neg_one_of_neg hb2]; simp; grind
    · rw [decide_eq_true ha, decide_eq_false hb2, Int.sign_eq_one_of_pos (by omega)]; simp [Int.neg_mul]
  · by_cases hb2 : b.num < 0
    · rw [decide_eq_false ha, decide_eq_true hb2, Int.sign_eq_neg_one_of_neg hb2]; simp; grind
    · rw [decide_eq_false ha, decide_eq_false hb2, Int.sign_eq_one_of_pos (by omega)]; simp

/-- -1, 0, 1. -/
def cmpQ (a b : Rat) : Int := if a < b then -1 else if b < a then 1 else 0
theorem cmpQ_neg (a b : Rat) : cmpQ b a = - cmpQ a b := by
  unfold cmpQ
  by_cases h1 : a < b
  · have h2 : ¬ b < a := by grind
    simp [h1, h2]
  · by_cases h2 : b < a <;> simp [h1, h2]
theorem cmpQ_zero (a b : Rat) : cmpQ a b = 0 ↔ a = b := by
  unfold cmpQ
  by_cases h1 : a < b
  · simp [h1]; grind
  · by_cases h2 : b < a
    · simp [h1, h2]; grind
    · simp [h1, h2]; grind

theorem Q_neg_neg {q : Rat} (h : q ≠ 0) : negQ (-q) = !negQ q := by
  have hn : q.num ≠ 0 := fun e => h (Rat.num_eq_zero.1 e)
  unfold negQ
  rw [Rat.neg_num]
  by_cases h1 : q.num < 0
  · rw [decide_eq_true h1, decide_eq_false (by omega)]; rfl
  · rw [decide_eq_false h1, decide_eq_true (by omega)]; rfl
theorem negQ_lt (q : Rat) : negQ q = decide (q < 0) := by
  unfold negQ
  congr 1
  rw [Rat.lt_iff]
  simp
theorem negQ_zero : negQ 0 = false := by decide
theorem natAbs_zero_iff (q : Rat) : q.num.natAbs = 0 ↔ q = 0 := by
  rw [Int.natAbs_eq_zero, Rat.num_eq_zero]

/-- How many limbs, the greater of both. -/
def nr (q : Rat) : Nat := max (nl q.num.natAbs) (nl q.den)
theorem nr_num (q : Rat) : nl q.num.natAbs ≤ nr q := by unfold nr; omega
theorem nr_den (q : Rat) : nl q.den ≤ nr q := by unfold nr; omega
theorem nr_mkQ (neg : Bool) (n d : Nat) (hd : d ≠ 0) : nr (mkQ neg n d) ≤ max (nl n) (nl d) := by
  have h1 : nl (n / Nat.gcd n d) ≤ nl n := nl_mono (Nat.div_le_self _ _)
  have h2 : nl (d / Nat.gcd n d) ≤ nl d := nl_mono (Nat.div_le_self _ _)
  unfold nr
  rw [mkQ_abs hd, mkQ_den hd]
  omega
theorem nr_mul (a b : Rat) : nr (a * b) ≤ nr a + nr b := by
  rw [Q_mul]
  refine Nat.le_trans (nr_mkQ _ _ _ (Nat.mul_ne_zero a.den_nz b.den_nz)) ?_
  have h1 := nl_mul a.num.natAbs b.num.natAbs
  have h2 := nl_mul a.den b.den
  have := nr_num a; have := nr_num b; have := nr_den a; have := nr_den b
  omega
theorem nr_div {a b : Rat} (hb : b ≠ 0) : nr (a / b) ≤ nr a + nr b := by
  rw [Q_div hb]
  have hb0 : b.num.natAbs ≠ 0 := fun h => hb ((natAbs_zero_iff b).1 h)
  refine Nat.le_trans (nr_mkQ _ _ _ (Nat.mul_ne_zero a.den_nz hb0)) ?_
  have h1 := nl_mul a.num.natAbs b.den
  have h2 := nl_mul a.den b.num.natAbs
  have := nr_num a; have := nr_num b; have := nr_den a; have := nr_den b
  omega
theorem nr_add (a b : Rat) : nr (a + b) ≤ nr a + nr b + 1 := by
  have hd := Nat.mul_ne_zero a.den_nz b.den_nz
  have h1 := nl_mul a.num.natAbs b.den
  have h2 := nl_mul b.num.natAbs a.den
  have h3 := nl_mul a.den b.den
  have := nr_num a; have := nr_num b; have := nr_den a; have := nr_den b
  by_cases h : negQ a = negQ b
  · rw [Q_add_same h]
    refine Nat.le_trans (nr_mkQ _ _ _ hd) ?_
    have := nl_add (a.num.natAbs * b.den) (b.num.natAbs * a.den)
    omega
  · rcases Nat.le_total (a.num.natAbs * b.den) (b.num.natAbs * a.den) with hl | hl
    · rw [Q_add_less h hl]
      refine Nat.le_trans (nr_mkQ _ _ _ hd) ?_
      have := nl_sub (b.num.natAbs * a.den) (a.num.natAbs * b.den)
      omega
    · rw [Q_add_more h hl]
      refine Nat.le_trans (nr_mkQ _ _ _ hd) ?_
      have := nl_sub (a.num.natAbs * b.den) (b.num.natAbs * a.den)
      omega
theorem nr_neg (a : Rat) : nr (-a) = nr a := by unfold nr; simp

end Go.Proofs.YtcfhajnboamnnabGreatDoor

namespace Go.Proofs.YtcfhajnboamnnabGreatDoor
open Go.RowKit
set_option linter.unusedVariables false

/-- The struct v is a sign, a numerator, a denominator. -/
def RW (w : World) (v : Value) (s : Bool) (m d : Nat) : Prop := ∃ vN vD, v = .agg #[.bool s, vN, vD] ∧ Num w vN m ∧ Num w vD d
theorem RW.fwd {w w' : World} {v : Value} {s : Bool} {m d : Nat} (h : RW w v s m d) (k : Fwd w w') : RW w' v s m d := by
  obtain ⟨vN, vD, e, h1, h2⟩ := h
  exact ⟨vN, vD, e, h1.fwd k, h2.fwd k⟩
/-- The struct v is the rational number q. -/
def RV (w : World) (v : Value) (q : Rat) : Prop := RW w v (negQ q) q.num.natAbs q.den
theorem RV.fwd {w w' : World} {v : Value} {q : Rat} (h : RV w v q) (k : Fwd w w') : RV w' v q := RW.fwd h k
/-- The struct's zero value. -/
def ratZero : Value := .agg #[.bool false, .slice none 0 0, .slice none 0 0]
theorem ratZero_rw (w : World) : RW w ratZero false 0 0 := ⟨_, _, rfl, num_nil w, num_nil w⟩

/-- A block that holds such a struct. -/
def BlkR (w : World) (g : Nat) (s : Bool) (vN vD : Value) : Prop := BlkV w g 27 [.bool s, vN, vD]
theorem BlkR.cells {w : World} {g : Nat} {s : Bool} {vN vD : Value} (h : BlkR w g s vN vD) : w.cell? ⟨g, 0, none⟩ = some (.bool s) ∧ w.cell? ⟨g, 1, none⟩ = some vN ∧ w.cell? ⟨g, 2, none⟩ = some vD :=
  ⟨BlkV.cell h 0 rfl, BlkV.cell h 1 rfl, BlkV.cell h 2 rfl⟩
theorem BlkR.frozen {w : World} {g : Nat} {s : Bool} {vN vD : Value} (h : BlkR w g s vN vD) : w.frozen? ⟨g, 0, none⟩ = false ∧ w.frozen? ⟨g, 1, none⟩ = false ∧ w.frozen? ⟨g, 2, none⟩ = false :=
  ⟨BlkV.frozen h 0, BlkV.frozen h 1, BlkV.frozen h 2⟩
theorem BlkR.fwd {w w' : World} {g : Nat} {s : Bool} {vN vD : Value} (h : BlkR w g s vN vD) (k : Fwd w w') : BlkR w' g s vN vD := BlkV.fwd h k
theorem BlkR.drew {w : World} {g : Nat} {s : Bool} {vN vD : Value} (h : BlkR w g s vN vD) : BlkR w.drew g s vN vD := h
theorem BlkR.made (w : World) (s : Bool) (vN vD : Value) : BlkR (w.alloc (.cells #[.bool s, vN, vD] 27)) w.heap.size s vN vD := BlkV.made w _ [.bool s, vN, vD]
theorem BlkR.set {w : World} {g : Nat} {s s' : Bool} {vN vD vN' vD' : Value} (h : BlkR w g s vN vD) : BlkR (((w.setCell ⟨g, 0, none⟩ (.bool s')).setCell ⟨g, 1, none⟩ vN').setCell ⟨g, 2, none⟩ vD') g s' vN' vD' :=
  ((BlkV.set h 0 (.bool s')).set 1 vN').set 2 vD'
theorem only_set3 (g : Nat) (w : World) (a b c : Value) : Only g w (((w.setCell ⟨g, 0, none⟩ a).setCell ⟨g, 1, none⟩ b).setCell ⟨g, 2, none⟩ c) := ((Only.set _ _ _ _).setv _ _).setv _ _
theorem Num.only {w w' : World} {g : Nat} {v : Value} {n : Nat} (h : Num w v n) (k : Only g w w') (ho : Off v g) : Num w' v n := Rd.only h k ho
theorem Num.new {w : World} {v : Value} {n : Nat} (h : Num w v n) : ∀ b, v.ownBlock = some b → b < w.heap.size := by
  intro b hb
  rcases h.2 with ⟨rfl, _⟩ | ⟨b', off, cap, rfl, _, _, _, h4⟩
  · simp [Value.ownBlock] at hb
  · simp [Value.ownBlock] at hb; omega

set_option maxHeartbeats 1000000 in
theorem one_new (w : World) : Calls Tryz.prog 65 #[] w fun e w' => ∃ v, e = .returned v ∧ Num w' v 1 ∧ Fwd w w' ∧ New w v := by
  go_enter Tryz.func65, Tryz.ntmps65
  go_wp2
  go_ret
  exact ⟨_, rfl, num_lit w [1] 1 (by decide) 1 rfl (by omega) #[.int .u32 1] rfl, (Fwd.refl w).alloc _, by intro b hb; simp [Value.ownBlock] at hb; omega⟩

/-- A slice. -/
def Sl (v : Value) : Prop := ∃ a n c, v = .slice a n c
theorem Sl.mk (a : Option Addr) (n c : Nat) : Sl (.slice a n c) := ⟨a, n, c, rfl⟩
theorem Num.sl {w : World} {v : Value} {n : Nat} (h : Num w v n) : Sl v := by
  obtain ⟨a, c, e, _⟩ := h.parts
  exact ⟨a, _, c, e⟩
/-- A number stays, where a struct's block is written. -/
theorem Num.keep {w w' : World} {v : Value} {n g : Nat} {s : Bool} {vN vD : Value} (h : Num w v n) (hb : BlkR w g s vN vD) (h1 : Sl vN) (h2 : Sl vD) (k : Only g w w') : Num w' v n := by
  refine ⟨h.1, ?_⟩
  rcases h.2 with e | ⟨b, off, cap, rfl, hc1, hc2, hc3, hc4⟩
  · exact .inl e
  · refine .inr ⟨b, off, cap, rfl, hc1, hc2, fun i hi => ?_, Nat.lt_of_lt_of_le hc4 k.size⟩
    have hc := hc3 i hi
    by_cases hbg : b = g
    · exfalso
      subst hbg
      obtain ⟨a1, n1, c1, rfl⟩ := h1
      obtain ⟨a2, n2, c2, rfl⟩ := h2
      have hh : w.heap[b]? = some (.cells [.bool s, .slice a1 n1 c1, .slice a2 n2 c2].toArray 27 (0, 0)) := hb
      simp only [World.cell?, hh] at hc
      generalize off + i = j at hc
      rcases j with _ | _ | _ | j <;> simp at hc
    · exact k.cell hc hbg
theorem RW.keep {w w' : World} {v : Value} {m d g : Nat} {s t : Bool} {vN vD : Value} (h : RW w v t m d) (hb : BlkR w g s vN vD) (h1 : Sl vN) (h2 : Sl vD) (k : Only g w w') : RW w' v t m d := by
  obtain ⟨a, b, e, h3, h4⟩ := h
  exact ⟨a, b, e, h3.keep hb h1 h2 k, h4.keep hb h1 h2 k⟩

set_option maxHeartbeats 1000000 in
theorem refZero_any (w : World) : Calls Tryz.prog 33 #[] w fun e w' => ∃ v, e = .returned v ∧ RV w' v 0 ∧ Fwd w w' := by
  have hb0 := BlkR.made w false (.slice none 0 0) (.slice none 0 0)
  have hf0 := (Fwd.refl w).alloc (.cells #[.bool false, .slice none 0 0, .slice none 0 0] 27)
  have HB0 := hid hb0
  have HF0 := hid hf0
  clear hb0 hf0
  go_enter Tryz.func33, Tryz.ntmps33
  go_wp2_with fail
  refine (one_new _).mono ?_
  rintro e w1 ⟨v, rfl, hv, hf, hn⟩
  have hb1 := HB0.out.fwd hf
  obtain ⟨c0, c1, c2⟩ := hb1.cells
  obtain ⟨p0, p1, p2⟩ := hb1.frozen
  have HB1 := hid hb1
  clear hb1
  obtain ⟨vo, vc, rfl, _, _, _⟩ := hv.parts
  go_wp2_with fail
  have hz := BlkR.set (s' := false) (vN' := .slice none 0 0) (vD' := .slice vo (nl 1) vc) HB1.out
  have hon := only_set3 (w.heap.size) w1 (.bool false) (.slice none 0 0) (.slice vo (nl 1) vc)
  generalize (((w1.setCell ⟨w.heap.size, 0, none⟩ (.bool false)).setCell ⟨w.heap.size, 1, none⟩ (.slice none 0 0)).setCell ⟨w.heap.size, 2, none⟩ (.slice vo (nl 1) vc)) = wz at hz hon ⊢
  obtain ⟨e0, e1, e2⟩ := hz.cells
  refine bodyPost_ret (by simp [results, Tryz.results33, go_sem, e0, e1, e2]; try rfl) rfl ?_
  exact ⟨_, rfl, ⟨_, _, rfl, num_nil _, hv.keep HB1.out (Sl.mk _ _ _) (Sl.mk _ _ _) hon⟩, (HF0.out.trans hf).wrote hon (Nat.le_refl _)⟩

set_option maxHeartbeats 2000000 in
theorem make2_zero {w : World} {n d : Value} {N : Nat} (s : Bool) (hn : Num w n N) (hd : Num w d 0) :
    Calls Tryz.prog 46 #[.bool s, n, d] w fun e w' => e = .returned (.tuple #[ratZero, .int .i64 5]) ∧ Fwd w w' := by
  have hb0 := BlkR.made w false (.slice none 0 0) (.slice none 0 0)
  have hf0 := (Fwd.refl w).alloc (.cells #[.bool false, .slice none 0 0, .slice none 0 0] 27)
  have HB0 := hid hb0
  have HF0 := hid hf0
  obtain ⟨c0, c1, c2⟩ := hb0.cells
  obtain ⟨p0, p1, p2⟩ := hb0.frozen
  clear hb0 hf0
  obtain ⟨bo, cb, rfl, hcb, hcmb, hcellb⟩ := hd.parts
  unfold maxLen at hcmb
  clear hcellb
  have h0 : nl 0 = 0 := nl_zero
  rw [h0]
  go_enter Tryz.func46, Tryz.ntmps46
  go_wp2_with fail
  refine bodyPost_ret (by simp [results, Tryz.results46, go_sem, c0, c1, c2]; try rfl) rfl ?_
  exact ⟨rfl, HF0.out⟩

set_option maxHeartbeats 4000000 in
theorem make2_any {w : World} {n d : Value} {N D : Nat} (s : Bool) (hn : Num w n N) (hd : Num w d D) (hN : nl N ≤ 20000) (hD : nl D ≤ 20000) (hD0 : D ≠ 0) :
    Calls Tryz.prog 46 #[.bool s, n, d] w fun e w' => ∃ v, e = .returned (.tuple #[v, .int .i64 0]) ∧ RV w' v (mkQ s N D) ∧ Fwd w w' := by
  have hb0 := BlkR.made w false (.slice none 0 0) (.slice none 0 0)
  have hf0 := (Fwd.refl w).alloc (.cells #[.bool false, .slice none 0 0, .slice none 0 0] 27)
  have hn0 := hn.fwd hf0
  have hd0 := hd.fwd hf0
  have HB0 := hid hb0
  have HF0 := hid hf0
  clear hb0 hf0 hn hd
  obtain ⟨no, cn, rfl, hcn, hcmn, hcelln⟩ := hn0.parts
  obtain ⟨bo, cb, rfl, hcb, hcmb, hcellb⟩ := hd0.parts
  unfold maxLen at hcmn hcmb
  clear hcelln hcellb
  have hdp : 0 < nl D := by rw [nl_pos hD0]; omega
  have hdne : ((nl D : Int) == 0) = false := by simp; omega
  have HD0 := hid hD0
  clear hD0
  by_cases hN0 : N = 0
  · have hnn : nl N = 0 := by rw [hN0, nl_zero]
    have HN0 := hid hN0
    rw [hnn]
    clear hN0 hnn hn0
    go_enter Tryz.func46, Tryz.ntmps46
    go_wp2_with fail
    refine (refZero_any _).mono ?_
    rintro e w1 ⟨v, rfl, hv, hf⟩
    have hb1 := HB0.out.fwd hf
    obtain ⟨c0, c1, c2⟩ := hb1.cells
    obtain ⟨p0, p1, p2⟩ := hb1.frozen
    have HB1 := hid hb1
    have HV := hid hv
    obtain ⟨vN, vD, rfl, h1, h2⟩ := hv
    obtain ⟨xo, xc, rfl, _, _, _⟩ := h1.parts
    obtain ⟨yo, yc, rfl, _, _, _⟩ := h2.parts
    clear hb1 h1 h2
    go_wp2_with fail
    have hz := BlkR.set (s' := (negQ 0)) (vN' := .slice xo (nl 0) xc) (vD' := .slice yo (nl 1) yc) HB1.out
    have hon := only_set3 (w.heap.size) w1 (.bool (negQ 0)) (.slice xo (nl 0) xc) (.slice yo (nl 1) yc)
    generalize (((w1.setCell ⟨w.heap.size, 0, none⟩ (.bool (negQ 0))).setCell ⟨w.heap.size, 1, none⟩ (.slice xo (nl 0) xc)).setCell ⟨w.heap.size, 2, none⟩ (.slice yo (nl 1) yc)) = wz at hz hon ⊢
    obtain ⟨e0, e1, e2⟩ := hz.cells
    refine bodyPost_ret (by simp [results, Tryz.results46, go_sem, e0, e1, e2]; try rfl) rfl ?_
    exact ⟨_, rfl, by rw [HN0.out, mkQ_zero]; exact RW.keep HV.out HB1.out (Sl.mk _ _ _) (Sl.mk _ _ _) hon, (HF0.out.trans hf).wrote hon (Nat.le_refl _)⟩
  · have hnp : 0 < nl N := by rw [nl_pos hN0]; omega
    have hnne : ((nl N : Int) == 0) = false := by simp; omega
    have HQ : Hid (negQ (mkQ s N D) = s ∧ (mkQ s N D).num.natAbs = N / Nat.gcd N D ∧ (mkQ s N D).den = D / Nat.gcd N D) := hid ⟨mkQ_neg HD0.out hN0, mkQ_abs HD0.out, mkQ_den HD0.out⟩
    have b1 : nl 1 ≤ 1 := nl_one (by omega)
    by_cases hD1 : D = 1
    · have HD1 := hid hD1
      have hcmp : (cmpW (D : Int) 1 == 0) = true := by rw [cmpI_eq (by omega)]; rfl
      clear hD1 hN0
      go_enter Tryz.func46, Tryz.ntmps46
      go_wp2_with fail
      refine (one_new _).mono ?_
      rintro e w1 ⟨v1, rfl, hv1, hf1, _⟩
      have hd1 := hd0.fwd hf1
      go_wp2_with fail
      refine (refCmp_any hd1 hv1 (by omega) (by omega)).mono ?_
      rintro e w2 ⟨rfl, hf2⟩
      have hf12 := hf1.trans hf2
      have hn2 := hn0.fwd hf12
      have hg : (w2.alloc (.cells #[] 65)).heap[w2.heap.size]? = some (.cells #[] 65 (0, 0)) := heap_alloc_new w2 _
      have HG := hid hg
      have hf3 : Fwd w2 (w2.alloc (.cells #[] 65)) := (Fwd.refl w2).alloc _
      have HA : Hid (Arg (w2.alloc (.cells #[] 65)) (.slice no (nl N) cn) (lim N)) := hid (.inl (hn2.fwd hf3))
      have hll : (lim N).length ≤ 1000000000 := by show nl N ≤ _; omega
      have HF12 := hid hf12
      have HF3 := hid hf3
      clear hg hn2 hd1 hv1 hf1 hf2 hf12 hf3
      go_wp2_with (at_builtin; refine law_append0 rfl (.tmp 28) (.tmp 29) rfl w2.heap.size rfl HG.out _ (lim N) rfl HA.out hll ?_)
      intro v' w4 hr hne hon4 hbl
      have hF4 : Fwd w2 w4 := HF3.out.wrote hon4 (Nat.le_refl _)
      have hN4 : Num w4 v' N := hr
      obtain ⟨xo, xc, rfl, _, _, _⟩ := hN4.parts
      clear hr hne hon4 hbl HA HG
      go_wp2_with fail
      refine (one_new _).mono ?_
      rintro e w5 ⟨v5, rfl, hv5, hf5, _⟩
      have hfa := (HF12.out.trans hF4).trans hf5
      have hb5 := HB0.out.fwd hfa
      obtain ⟨c0, c1, c2⟩ := hb5.cells
      obtain ⟨p0, p1, p2⟩ := hb5.frozen
      have HB5 := hid hb5
      have hN5 := hN4.fwd hf5
      obtain ⟨yo, yc, rfl, _, _, _⟩ := hv5.parts
      have HFA := hid hfa
      clear hb5 hfa hN4 hf5 hF4
      go_wp2_with fail
      have hz := BlkR.set (s' := s) (vN' := .slice xo (nl N) xc) (vD' := .slice yo (nl 1) yc) HB5.out
      have hon := only_set3 (w.heap.size) w5 (.bool s) (.slice xo (nl N) xc) (.slice yo (nl 1) yc)
      generalize (((w5.setCell ⟨w.heap.size, 0, none⟩ (.bool s)).setCell ⟨w.heap.size, 1, none⟩ (.slice xo (nl N) xc)).setCell ⟨w.heap.size, 2, none⟩ (.slice yo (nl 1) yc)) = wz at hz hon ⊢
      obtain ⟨e0, e1, e2⟩ := hz.cells
      refine bodyPost_ret (by simp [results, Tryz.results46, go_sem, e0, e1, e2]; try rfl) rfl ?_
      refine ⟨_, rfl, ?_, (HF0.out.trans HFA.out).wrote hon (Nat.le_refl _)⟩
      unfold RV
      rw [HQ.out.1, HQ.out.2.1, HQ.out.2.2, HD1.out, Nat.gcd_one_right, Nat.div_one, Nat.div_one]
      exact ⟨_, _, rfl, hN5.keep HB5.out (Sl.mk _ _ _) (Sl.mk _ _ _) hon, hv5.keep HB5.out (Sl.mk _ _ _) (Sl.mk _ _ _) hon⟩
    · have hcmp : (cmpW (D : Int) 1 == 0) = false := by
        rw [cmpI_gt (by have := HD0.out; omega)]; rfl
      have hg0 : Nat.gcd N D ≠ 0 := fun e => hN0 (Nat.eq_zero_of_gcd_eq_zero_left e)
      have bg := nl_gcd N D
      have HG0 := hid hg0
      clear hD1 hN0 hg0
      go_enter Tryz.func46, Tryz.ntmps46
      go_wp2_with fail
      refine (one_new _).mono ?_
      rintro e w1 ⟨v1, rfl, hv1, hf1, _⟩
      have hd1 := hd0.fwd hf1
      go_wp2_with fail
      refine (refCmp_any hd1 hv1 (by omega) (by omega)).mono ?_
      rintro e w2 ⟨rfl, hf2⟩
      have hn2 := hn0.fwd (hf1.trans hf2)
      have hd2 := hd1.fwd hf2
      go_wp2_with fail
      refine (refGcd_any hn2 hd2 (by omega) (by omega)).mono ?_
      rintro e w3 ⟨v3, rfl, hv3, hf3⟩
      have hn3 := hn2.fwd hf3
      have hd3 := hd2.fwd hf3
      go_wp2_with fail
      refine (refDiv_any hn3 hv3 (by omega) (by omega) HG0.out).mono ?_
      rintro e w4 ⟨v4, u4, rfl, hv4, hu4, hf4⟩
      have hd4 := hd3.fwd hf4
      have hv34 := hv3.fwd hf4
      go_wp2_with fail
      refine (refDiv_any hd4 hv34 (by omega) (by omega) HG0.out).mono ?_
      rintro e w5 ⟨v5, u5, rfl, hv5, hu5, hf5⟩
      have hv45 := hv4.fwd hf5
      have hfa := (((hf1.trans hf2).trans hf3).trans hf4).trans hf5
      have hb5 := HB0.out.fwd hfa
      obtain ⟨c0, c1, c2⟩ := hb5.cells
      obtain ⟨p0, p1, p2⟩ := hb5.frozen
      have HB5 := hid hb5
      have HFA := hid hfa
      obtain ⟨xo, xc, rfl, _, _, _⟩ := hv45.parts
      obtain ⟨yo, yc, rfl, _, _, _⟩ := hv5.parts
      clear hb5 hfa hn0 hd0 hv1 hd1 hn2 hd2 hv3 hn3 hd3 hv4 hu4 hd4 hv34 hu5 hf1 hf2 hf3 hf4 hf5
      go_wp2_with fail
      have hz := BlkR.set (s' := s) (vN' := .slice xo (nl (N / Nat.gcd N D)) xc) (vD' := .slice yo (nl (D / Nat.gcd N D)) yc) HB5.out
      have hon := only_set3 (w.heap.size) w5 (.bool s) (.slice xo (nl (N / Nat.gcd N D)) xc) (.slice yo (nl (D / Nat.gcd N D)) yc)
      generalize (((w5.setCell ⟨w.heap.size, 0, none⟩ (.bool s)).setCell ⟨w.heap.size, 1, none⟩ (.slice xo (nl (N / Nat.gcd N D)) xc)).setCell ⟨w.heap.size, 2, none⟩ (.slice yo (nl (D / Nat.gcd N D)) yc)) = wz at hz hon ⊢
      obtain ⟨e0, e1, e2⟩ := hz.cells
      refine bodyPost_ret (by simp [results, Tryz.results46, go_sem, e0, e1, e2]; try rfl) rfl ?_
      refine ⟨_, rfl, ?_, (HF0.out.trans HFA.out).wrote hon (Nat.le_refl _)⟩
      unfold RV
      rw [HQ.out.1, HQ.out.2.1, HQ.out.2.2]
      exact ⟨_, _, rfl, hv45.keep HB5.out (Sl.mk _ _ _) (Sl.mk _ _ _) hon, hv5.keep HB5.out (Sl.mk _ _ _) (Sl.mk _ _ _) hon⟩

end Go.Proofs.YtcfhajnboamnnabGreatDoor

namespace Go.Proofs.YtcfhajnboamnnabGreatDoor
open Go.RowKit
set_option linter.unusedVariables false

/-- A struct's parts, written out. -/
theorem RW.open {w : World} {v : Value} {s : Bool} {m d : Nat} (h : RW w v s m d) : ∃ no nc do' dc, v = .agg #[.bool s, .slice no (nl m) nc, .slice do' (nl d) dc] ∧ nl m ≤ nc ∧ nc ≤ 9223372036854775807 ∧ nl d ≤ dc ∧ dc ≤ 9223372036854775807 ∧
    Num w (.slice no (nl m) nc) m ∧ Num w (.slice do' (nl d) dc) d := by
  obtain ⟨vN, vD, rfl, h1, h2⟩ := h
  obtain ⟨no, nc, rfl, a1, a2, _⟩ := h1.parts
  obtain ⟨do', dc, rfl, b1, b2, _⟩ := h2.parts
  unfold maxLen at a2 b2
  exact ⟨no, nc, do', dc, rfl, a1, by omega, b1, by omega, h1, h2⟩
theorem BlkR.made' (w : World) (g : Nat) (hg : g = w.heap.size) (s : Bool) (vN vD : Value) : BlkR (w.alloc (.cells #[.bool s, vN, vD] 27)) g s vN vD := by
  subst hg; exact BlkR.made w s vN vD
theorem BlkR.alloc {w : World} {g : Nat} {s : Bool} {vN vD : Value} (h : BlkR w g s vN vD) (o : Obj) : BlkR (w.alloc o) g s vN vD := h.fwd ((Fwd.refl w).alloc o)
theorem far3 {w : World} {g : Nat} {a b c v : Value} {p : Addr} (h : p.block ≠ g) (hc : w.cell? p = some v) : (((w.setCell ⟨g, 0, none⟩ a).setCell ⟨g, 1, none⟩ b).setCell ⟨g, 2, none⟩ c).cell? p = some v := (only_set3 g w a b c).cell hc h

theorem cmpI_ne {m n : Nat} (h : m ≠ n) : (cmpW (m : Int) (n : Int) == 0) = false := by
  rcases Nat.lt_or_ge m n with h1 | h1
  · rw [cmpI_lt (by omega)]; rfl
  · rw [cmpI_gt (by omega)]; rfl

set_option maxHeartbeats 2000000 in
theorem made_any {w : World} {n d : Value} {N D : Nat} (s : Bool) (hn : Num w n N) (hd : Num w d D) (hN : nl N ≤ 20000) (hD : nl D ≤ 20000) (hD0 : D ≠ 0) :
    Calls Tryz.prog 61 #[.bool s, n, d] w fun e w' => ∃ v, e = .returned v ∧ RV w' v (mkQ s N D) ∧ Fwd w w' := by
  have kR : BlkR (w.alloc (.cells #[.bool false, .slice none 0 0, .slice none 0 0] 27)) (w.heap.size) false (.slice none 0 0) (.slice none 0 0) := BlkR.made' w (w.heap.size) (by simp) false (.slice none 0 0) (.slice none 0 0)
  have hF : Fwd w (w.alloc (.cells #[.bool false, .slice none 0 0, .slice none 0 0] 27)) := (Fwd.refl w).alloc _
  go_enter Tryz.func61, Tryz.ntmps61
  replace hn := hn.fwd hF
  replace hd := hd.fwd hF
  go_wp2_with fail
  refine (make2_any s hn hd hN hD hD0).mono ?_
  rintro e w1 ⟨v, rfl, hv, hf1⟩
  clear hn hd
  replace kR := kR.fwd hf1
  replace hF := hF.trans hf1
  clear hf1
  obtain ⟨rc0, rc1, rc2⟩ := kR.cells
  obtain ⟨rz0, rz1, rz2⟩ := kR.frozen
  obtain ⟨xo, xc, yo, yc, rfl, x1, x2, x3, x4, xN, xD⟩ := RW.open hv
  have kR2 := kR.alloc (.cells #[.bool (negQ (mkQ s N D)), .slice xo (nl (mkQ s N D).num.natAbs) xc, .slice yo (nl (mkQ s N D).den) yc] 27)
  obtain ⟨sc0, sc1, sc2⟩ := kR2.cells
  obtain ⟨sz0, sz1, sz2⟩ := kR2.frozen
  have hf2 := (Fwd.refl w1).alloc (.cells #[.bool (negQ (mkQ s N D)), .slice xo (nl (mkQ s N D).num.natAbs) xc, .slice yo (nl (mkQ s N D).den) yc] 27)
  go_wp2_with fail
  clear kR
  rename BlkR _ _ _ _ _ => kR
  have hz := BlkR.set (s' := (negQ (mkQ s N D))) (vN' := .slice xo (nl (mkQ s N D).num.natAbs) xc) (vD' := .slice yo (nl (mkQ s N D).den) yc) kR
  have hon := only_set3 (w.heap.size) (w1.alloc (.cells #[.bool (negQ (mkQ s N D)), .slice xo (nl (mkQ s N D).num.natAbs) xc, .slice yo (nl (mkQ s N D).den) yc] 27)) (.bool (negQ (mkQ s N D))) (.slice xo (nl (mkQ s N D).num.natAbs) xc) (.slice yo (nl (mkQ s N D).den) yc)
  generalize ((((w1.alloc (.cells #[.bool (negQ (mkQ s N D)), .slice xo (nl (mkQ s N D).num.natAbs) xc, .slice yo (nl (mkQ s N D).den) yc] 27)).setCell ⟨w.heap.size, 0, none⟩ (.bool (negQ (mkQ s N D)))).setCell ⟨w.heap.size, 1, none⟩ (.slice xo (nl (mkQ s N D).num.natAbs) xc)).setCell ⟨w.heap.size, 2, none⟩ (.slice yo (nl (mkQ s N D).den) yc)) = wz at hz hon ⊢
  obtain ⟨e0, e1, e2⟩ := hz.cells
  refine bodyPost_ret (by simp [results, Tryz.results61, go_sem, e0, e1, e2]; try rfl) rfl ?_
  exact ⟨_, rfl, RW.keep (RW.fwd hv hf2) kR (Sl.mk _ _ _) (Sl.mk _ _ _) hon, (hF.trans hf2).wrote hon (Nat.le_refl _)⟩

set_option maxHeartbeats 8000000 in
set_option maxRecDepth 20000 in
theorem mul2_raw {w : World} {a b : Value} {sa sb : Bool} {ma da mb db : Nat} (ha : RW w a sa ma da) (bam : nl ma ≤ 5000) (bad : nl da ≤ 5000) (hb : RW w b sb mb db) (bbm : nl mb ≤ 5000) (bbd : nl db ≤ 5000) (za : da ≠ 0) (zb : db ≠ 0) :
    Calls Tryz.prog 32 #[a, b] w fun e w' => ∃ v, e = .returned v ∧ RV w' v (mkQ (sa != sb) (ma * mb) (da * db)) ∧ Fwd w w' := by
  have b1 := nl_mul ma mb
  have b2 := nl_mul da db
  have z0 := Nat.mul_ne_zero za zb
  obtain ⟨ao, ac, ap, ae, rfl, a1, a2, a3, a4, aN, aD⟩ := ha.open
  obtain ⟨bo, bc, bp, be, rfl, b1, b2, b3, b4, bN, bD⟩ := hb.open
  have kA : BlkR (((w.alloc (.cells #[.bool sa, .slice ao (nl ma) ac, .slice ap (nl da) ae] 27)).alloc (.cells #[.bool sb, .slice bo (nl mb) bc, .slice bp (nl db) be] 27)).alloc (.cells #[.bool false, .slice none 0 0, .slice none 0 0] 27)) (w.heap.size) sa (.slice ao (nl ma) ac) (.slice ap (nl da) ae) := ((BlkR.made' w (w.heap.size) (by simp) sa (.slice ao (nl ma) ac) (.slice ap (nl da) ae)).alloc _).alloc _
  have kB : BlkR (((w.alloc (.cells #[.bool sa, .slice ao (nl ma) ac, .slice ap (nl da) ae] 27)).alloc (.cells #[.bool sb, .slice bo (nl mb) bc, .slice bp (nl db) be] 27)).alloc (.cells #[.bool false, .slice none 0 0, .slice none 0 0] 27)) (w.heap.size + 1) sb (.slice bo (nl mb) bc) (.slice bp (nl db) be) := (BlkR.made' (w.alloc (.cells #[.bool sa, .slice ao (nl ma) ac, .slice ap (nl da) ae] 27)) (w.heap.size + 1) (by simp) sb (.slice bo (nl mb) bc) (.slice bp (nl db) be)).alloc _
  have kR : BlkR (((w.alloc (.cells #[.bool sa, .slice ao (nl ma) ac, .slice ap (nl da) ae] 27)).alloc (.cells #[.bool sb, .slice bo (nl mb) bc, .slice bp (nl db) be] 27)).alloc (.cells #[.bool false, .slice none 0 0, .slice none 0 0] 27)) (w.heap.size + 1 + 1) false (.slice none 0 0) (.slice none 0 0) := BlkR.made' ((w.alloc (.cells #[.bool sa, .slice ao (nl ma) ac, .slice ap (nl da) ae] 27)).alloc (.cells #[.bool sb, .slice bo (nl mb) bc, .slice bp (nl db) be] 27)) (w.heap.size + 1 + 1) (by simp) false (.slice none 0 0) (.slice none 0 0)
  have hF : Fwd w (((w.alloc (.cells #[.bool sa, .slice ao (nl ma) ac, .slice ap (nl da) ae] 27)).alloc (.cells #[.bool sb, .slice bo (nl mb) bc, .slice bp (nl db) be] 27)).alloc (.cells #[.bool false, .slice none 0 0, .slice none 0 0] 27)) := (((Fwd.refl w).alloc _).alloc _).alloc _
  replace aN := aN.fwd hF
  replace aD := aD.fwd hF
  replace bN := bN.fwd hF
  replace bD := bD.fwd hF
  clear ha
  clear hb
  go_enter Tryz.func32, Tryz.ntmps32
  go_wp2_with fail
  replace aN := aN.drew
  replace aD := aD.drew
  replace bN := bN.drew
  replace bD := bD.drew
  replace kA := kA.drew
  replace kB := kB.drew
  replace kR := kR.drew
  replace hF := hF.drew
  obtain ⟨ac0, ac1, ac2⟩ := kA.cells
  obtain ⟨bc0, bc1, bc2⟩ := kB.cells
  obtain ⟨rc0, rc1, rc2⟩ := kR.cells
  obtain ⟨rz0, rz1, rz2⟩ := kR.frozen
  go_region_held3 (fun w' => w'.cell? ⟨w.heap.size, 0, none⟩ = some (.bool sa) ∧ w'.cell? ⟨w.heap.size, 1, none⟩ = some (.slice ao (nl ma) ac) ∧ w'.cell? ⟨w.heap.size, 2, none⟩ = some (.slice ap (nl da) ae) ∧ w'.cell? ⟨w.heap.size + 1, 0, none⟩ = some (.bool sb) ∧ w'.cell? ⟨w.heap.size + 1, 1, none⟩ = some (.slice bo (nl mb) bc) ∧ w'.cell? ⟨w.heap.size + 1, 2, none⟩ = some (.slice bp (nl db) be))
    (first | exact ⟨by with_reducible assumption, by with_reducible assumption, by with_reducible assumption, by with_reducible assumption, by with_reducible assumption, by with_reducible assumption⟩ | exact ⟨far3 (by simp; try omega) (by with_reducible assumption), far3 (by simp; try omega) (by with_reducible assumption), far3 (by simp; try omega) (by with_reducible assumption), far3 (by simp; try omega) (by with_reducible assumption), far3 (by simp; try omega) (by with_reducible assumption), far3 (by simp; try omega) (by with_reducible assumption)⟩)
    (first
      | (go_at_call 61
         have _ := mk2
         refine (made_any (sa != sb) h1 h2 (by omega) (by omega) z0).mono ?_
         rintro e w3 ⟨v, rfl, hv, hf3⟩
         obtain ⟨xo, xc, yo, yc, rfl, x1, x2, x3, x4, xN, xD⟩ := RW.open hv
         replace aN := aN.fwd hf3
         replace aD := aD.fwd hf3
         replace bN := bN.fwd hf3
         replace bD := bD.fwd hf3
         replace h1 := h1.fwd hf3
         replace h2 := h2.fwd hf3
         replace kA := kA.fwd hf3
         replace kB := kB.fwd hf3
         replace kR := kR.fwd hf3
         replace hF := hF.trans hf3
         obtain ⟨ac0, ac1, ac2⟩ := kA.cells
         obtain ⟨bc0, bc1, bc2⟩ := kB.cells
         obtain ⟨rc0, rc1, rc2⟩ := kR.cells
         obtain ⟨rz0, rz1, rz2⟩ := kR.frozen
         have mk3 : True := trivial)
      | (go_at_call 60
         have _ := mk1
         refine (refMul_any aD bD (by omega) (by omega)).mono ?_
         rintro e w2 ⟨v2, rfl, h2, hf2⟩
         replace aN := aN.fwd hf2
         replace aD := aD.fwd hf2
         replace bN := bN.fwd hf2
         replace bD := bD.fwd hf2
         replace h1 := h1.fwd hf2
         replace kA := kA.fwd hf2
         replace kB := kB.fwd hf2
         replace kR := kR.fwd hf2
         replace hF := hF.trans hf2
         obtain ⟨ac0, ac1, ac2⟩ := kA.cells
         obtain ⟨bc0, bc1, bc2⟩ := kB.cells
         obtain ⟨rc0, rc1, rc2⟩ := kR.cells
         obtain ⟨rz0, rz1, rz2⟩ := kR.frozen
         have mk2 : True := trivial)
      | (go_at_call 60
         refine (refMul_any aN bN (by omega) (by omega)).mono ?_
         rintro e w1 ⟨v1, rfl, h1, hf1⟩
         replace aN := aN.fwd hf1
         replace aD := aD.fwd hf1
         replace bN := bN.fwd hf1
         replace bD := bD.fwd hf1
         replace kA := kA.fwd hf1
         replace kB := kB.fwd hf1
         replace kR := kR.fwd hf1
         replace hF := hF.trans hf1
         obtain ⟨ac0, ac1, ac2⟩ := kA.cells
         obtain ⟨bc0, bc1, bc2⟩ := kB.cells
         obtain ⟨rc0, rc1, rc2⟩ := kR.cells
         obtain ⟨rz0, rz1, rz2⟩ := kR.frozen
         have mk1 : True := trivial))
  go_wp2_with fail
  have hz := BlkR.set (s' := (negQ (mkQ (sa != sb) (ma * mb) (da * db)))) (vN' := .slice xo (nl (mkQ (sa != sb) (ma * mb) (da * db)).num.natAbs) xc) (vD' := .slice yo (nl (mkQ (sa != sb) (ma * mb) (da * db)).den) yc) kR
  have hon := only_set3 (w.heap.size + 1 + 1) w3 (.bool (negQ (mkQ (sa != sb) (ma * mb) (da * db)))) (.slice xo (nl (mkQ (sa != sb) (ma * mb) (da * db)).num.natAbs) xc) (.slice yo (nl (mkQ (sa != sb) (ma * mb) (da * db)).den) yc)
  generalize (((w3.setCell ⟨w.heap.size + 1 + 1, 0, none⟩ (.bool (negQ (mkQ (sa != sb) (ma * mb) (da * db))))).setCell ⟨w.heap.size + 1 + 1, 1, none⟩ (.slice xo (nl (mkQ (sa != sb) (ma * mb) (da * db)).num.natAbs) xc)).setCell ⟨w.heap.size + 1 + 1, 2, none⟩ (.slice yo (nl (mkQ (sa != sb) (ma * mb) (da * db)).den) yc)) = wz at hz hon ⊢
  obtain ⟨e0, e1, e2⟩ := hz.cells
  refine bodyPost_ret (by simp [results, Tryz.results32, go_sem, e0, e1, e2]; try rfl) rfl ?_
  exact ⟨_, rfl, RW.keep hv kR (Sl.mk _ _ _) (Sl.mk _ _ _) hon, hF.wrote hon (by omega)⟩

end Go.Proofs.YtcfhajnboamnnabGreatDoor

namespace Go.Proofs.YtcfhajnboamnnabGreatDoor
open Go.RowKit
set_option linter.unusedVariables false

/-- A sum, by parts. -/
def addQ (sa : Bool) (ma da : Nat) (sb : Bool) (mb db : Nat) : Rat := if sa = sb then mkQ sa (ma * db + mb * da) (da * db) else if ma * db < mb * da then mkQ sb (mb * da - ma * db) (da * db) else mkQ sa (ma * db - mb * da) (da * db)
theorem addQ_eq (a b : Rat) : addQ (negQ a) a.num.natAbs a.den (negQ b) b.num.natAbs b.den = a + b := by
  unfold addQ
  split
  · rename_i h; rw [Q_add_same h]
  · rename_i h
    split
    · rename_i h2; rw [Q_add_less h (Nat.le_of_lt h2)]
    · rename_i h2; rw [Q_add_more h (by omega)]

theorem cmpI_nn {m n : Nat} (h : n ≤ m) : ∃ ci : Int, ci = cmpW (m : Int) (n : Int) ∧ 0 ≤ ci := by
  refine ⟨_, rfl, ?_⟩
  rcases Nat.lt_or_ge n m with h1 | h1
  · rw [cmpI_gt (by omega)]; omega
  · rw [cmpI_eq (by omega)]; omega

set_option maxHeartbeats 8000000 in
set_option maxRecDepth 20000 in
theorem quo2_raw {w : World} {a b : Value} {sa sb : Bool} {ma da mb db : Nat} (ha : RW w a sa ma da) (bam : nl ma ≤ 5000) (bad : nl da ≤ 5000) (hb : RW w b sb mb db) (bbm : nl mb ≤ 5000) (bbd : nl db ≤ 5000) (za : da ≠ 0) (zb : mb ≠ 0) :
    Calls Tryz.prog 66 #[a, b] w fun e w' => ∃ v, e = .returned (.tuple #[v, .int .i64 0]) ∧ RV w' v (mkQ (sa != sb) (ma * db) (da * mb)) ∧ Fwd w w' := by
  have b1 := nl_mul ma db
  have b2 := nl_mul da mb
  have z0 := Nat.mul_ne_zero za zb
  have hbp : 0 < nl mb := by rw [nl_pos zb]; omega
  have hbne : ((nl mb : Int) == 0) = false := by simp; omega
  obtain ⟨ao, ac, ap, ae, rfl, a1, a2, a3, a4, aN, aD⟩ := ha.open
  obtain ⟨bo, bc, bp, be, rfl, b1, b2, b3, b4, bN, bD⟩ := hb.open
  have kA : BlkR (((w.alloc (.cells #[.bool sa, .slice ao (nl ma) ac, .slice ap (nl da) ae] 27)).alloc (.cells #[.bool sb, .slice bo (nl mb) bc, .slice bp (nl db) be] 27)).alloc (.cells #[.bool false, .slice none 0 0, .slice none 0 0] 27)) (w.heap.size) sa (.slice ao (nl ma) ac) (.slice ap (nl da) ae) := ((BlkR.made' w (w.heap.size) (by simp) sa (.slice ao (nl ma) ac) (.slice ap (nl da) ae)).alloc _).alloc _
  have kB : BlkR (((w.alloc (.cells #[.bool sa, .slice ao (nl ma) ac, .slice ap (nl da) ae] 27)).alloc (.cells #[.bool sb, .slice bo (nl mb) bc, .slice bp (nl db) be] 27)).alloc (.cells #[.bool false, .slice none 0 0, .slice none 0 0] 27)) (w.heap.size + 1) sb (.slice bo (nl mb) bc) (.slice bp (nl db) be) := (BlkR.made' (w.alloc (.cells #[.bool sa, .slice ao (nl ma) ac, .slice ap (nl da) ae] 27)) (w.heap.size + 1) (by simp) sb (.slice bo (nl mb) bc) (.slice bp (nl db) be)).alloc _
  have kR : BlkR (((w.alloc (.cells #[.bool sa, .slice ao (nl ma) ac, .slice ap (nl da) ae] 27)).alloc (.cells #[.bool sb, .slice bo (nl mb) bc, .slice bp (nl db) be] 27)).alloc (.cells #[.bool false, .slice none 0 0, .slice none 0 0] 27)) (w.heap.size + 1 + 1) false (.slice none 0 0) (.slice none 0 0) := BlkR.made' ((w.alloc (.cells #[.bool sa, .slice ao (nl ma) ac, .slice ap (nl da) ae] 27)).alloc (.cells #[.bool sb, .slice bo (nl mb) bc, .slice bp (nl db) be] 27)) (w.heap.size + 1 + 1) (by simp) false (.slice none 0 0) (.slice none 0 0)
  have hF : Fwd w (((w.alloc (.cells #[.bool sa, .slice ao (nl ma) ac, .slice ap (nl da) ae] 27)).alloc (.cells #[.bool sb, .slice bo (nl mb) bc, .slice bp (nl db) be] 27)).alloc (.cells #[.bool false, .slice none 0 0, .slice none 0 0] 27)) := (((Fwd.refl w).alloc _).alloc _).alloc _
  replace aN := aN.fwd hF
  replace aD := aD.fwd hF
  replace bN := bN.fwd hF
  replace bD := bD.fwd hF
  clear ha
  clear hb
  go_enter Tryz.func66, Tryz.ntmps66
  go_wp2_with fail
  replace aN := aN.drew
  replace aD := aD.drew
  replace bN := bN.drew
  replace bD := bD.drew
  replace kA := kA.drew
  replace kB := kB.drew
  replace kR := kR.drew
  replace hF := hF.drew
  obtain ⟨ac0, ac1, ac2⟩ := kA.cells
  obtain ⟨bc0, bc1, bc2⟩ := kB.cells
  obtain ⟨rc0, rc1, rc2⟩ := kR.cells
  obtain ⟨rz0, rz1, rz2⟩ := kR.frozen
  go_region_held3 (fun w' => w'.cell? ⟨w.heap.size, 0, none⟩ = some (.bool sa) ∧ w'.cell? ⟨w.heap.size, 1, none⟩ = some (.slice ao (nl ma) ac) ∧ w'.cell? ⟨w.heap.size, 2, none⟩ = some (.slice ap (nl da) ae) ∧ w'.cell? ⟨w.heap.size + 1, 0, none⟩ = some (.bool sb) ∧ w'.cell? ⟨w.heap.size + 1, 1, none⟩ = some (.slice bo (nl mb) bc) ∧ w'.cell? ⟨w.heap.size + 1, 2, none⟩ = some (.slice bp (nl db) be))
    (first | exact ⟨by with_reducible assumption, by with_reducible assumption, by with_reducible assumption, by with_reducible assumption, by with_reducible assumption, by with_reducible assumption⟩ | exact ⟨far3 (by simp; try omega) (by with_reducible assumption), far3 (by simp; try omega) (by with_reducible assumption), far3 (by simp; try omega) (by with_reducible assumption), far3 (by simp; try omega) (by with_reducible assumption), far3 (by simp; try omega) (by with_reducible assumption), far3 (by simp; try omega) (by with_reducible assumption)⟩)
    (first
      | (go_at_call 61
         have _ := mk2
         refine (made_any (sa != sb) h1 h2 (by omega) (by omega) z0).mono ?_
         rintro e w3 ⟨v, rfl, hv, hf3⟩
         obtain ⟨xo, xc, yo, yc, rfl, x1, x2, x3, x4, xN, xD⟩ := RW.open hv
         replace aN := aN.fwd hf3
         replace aD := aD.fwd hf3
         replace bN := bN.fwd hf3
         replace bD := bD.fwd hf3
         replace h1 := h1.fwd hf3
         replace h2 := h2.fwd hf3
         replace kA := kA.fwd hf3
         replace kB := kB.fwd hf3
         replace kR := kR.fwd hf3
         replace hF := hF.trans hf3
         obtain ⟨ac0, ac1, ac2⟩ := kA.cells
         obtain ⟨bc0, bc1, bc2⟩ := kB.cells
         obtain ⟨rc0, rc1, rc2⟩ := kR.cells
         obtain ⟨rz0, rz1, rz2⟩ := kR.frozen
         have mk3 : True := trivial)
      | (go_at_call 60
         have _ := mk1
         refine (refMul_any aD bN (by omega) (by omega)).mono ?_
         rintro e w2 ⟨v2, rfl, h2, hf2⟩
         replace aN := aN.fwd hf2
         replace aD := aD.fwd hf2
         replace bN := bN.fwd hf2
         replace bD := bD.fwd hf2
         replace h1 := h1.fwd hf2
         replace kA := kA.fwd hf2
         replace kB := kB.fwd hf2
         replace kR := kR.fwd hf2
         replace hF := hF.trans hf2
         obtain ⟨ac0, ac1, ac2⟩ := kA.cells
         obtain ⟨bc0, bc1, bc2⟩ := kB.cells
         obtain ⟨rc0, rc1, rc2⟩ := kR.cells
         obtain ⟨rz0, rz1, rz2⟩ := kR.frozen
         have mk2 : True := trivial)
      | (go_at_call 60
         refine (refMul_any aN bD (by omega) (by omega)).mono ?_
         rintro e w1 ⟨v1, rfl, h1, hf1⟩
         replace aN := aN.fwd hf1
         replace aD := aD.fwd hf1
         replace bN := bN.fwd hf1
         replace bD := bD.fwd hf1
         replace kA := kA.fwd hf1
         replace kB := kB.fwd hf1
         replace kR := kR.fwd hf1
         replace hF := hF.trans hf1
         obtain ⟨ac0, ac1, ac2⟩ := kA.cells
         obtain ⟨bc0, bc1, bc2⟩ := kB.cells
         obtain ⟨rc0, rc1, rc2⟩ := kR.cells
         obtain ⟨rz0, rz1, rz2⟩ := kR.frozen
         have mk1 : True := trivial))
  go_wp2_with fail
  have hz := BlkR.set (s' := (negQ (mkQ (sa != sb) (ma * db) (da * mb)))) (vN' := .slice xo (nl (mkQ (sa != sb) (ma * db) (da * mb)).num.natAbs) xc) (vD' := .slice yo (nl (mkQ (sa != sb) (ma * db) (da * mb)).den) yc) kR
  have hon := only_set3 (w.heap.size + 1 + 1) w3 (.bool (negQ (mkQ (sa != sb) (ma * db) (da * mb)))) (.slice xo (nl (mkQ (sa != sb) (ma * db) (da * mb)).num.natAbs) xc) (.slice yo (nl (mkQ (sa != sb) (ma * db) (da * mb)).den) yc)
  generalize (((w3.setCell ⟨w.heap.size + 1 + 1, 0, none⟩ (.bool (negQ (mkQ (sa != sb) (ma * db) (da * mb))))).setCell ⟨w.heap.size + 1 + 1, 1, none⟩ (.slice xo (nl (mkQ (sa != sb) (ma * db) (da * mb)).num.natAbs) xc)).setCell ⟨w.heap.size + 1 + 1, 2, none⟩ (.slice yo (nl (mkQ (sa != sb) (ma * db) (da * mb)).den) yc)) = wz at hz hon ⊢
  obtain ⟨e0, e1, e2⟩ := hz.cells
  refine bodyPost_ret (by simp [results, Tryz.results66, go_sem, e0, e1, e2]; try rfl) rfl ?_
  exact ⟨_, rfl, RW.keep hv kR (Sl.mk _ _ _) (Sl.mk _ _ _) hon, hF.wrote hon (by omega)⟩

set_option maxHeartbeats 2000000 in
theorem quo2_zero {w : World} {a b : Value} {sa sb : Bool} {ma da mb db : Nat} (ha : RW w a sa ma da) (bam : nl ma ≤ 5000) (bad : nl da ≤ 5000) (hb : RW w b sb mb db) (bbm : nl mb ≤ 5000) (bbd : nl db ≤ 5000) (hz : mb = 0) :
    Calls Tryz.prog 66 #[a, b] w fun e w' => e = .returned (.tuple #[ratZero, .int .i64 5]) ∧ Fwd w w' := by
  have hz0 : nl mb = 0 := by rw [hz, nl_zero]
  clear hz
  obtain ⟨ao, ac, ap, ae, rfl, a1, a2, a3, a4, aN, aD⟩ := ha.open
  obtain ⟨bo, bc, bp, be, rfl, b1, b2, b3, b4, bN, bD⟩ := hb.open
  have kA : BlkR (((w.alloc (.cells #[.bool sa, .slice ao (nl ma) ac, .slice ap (nl da) ae] 27)).alloc (.cells #[.bool sb, .slice bo (nl mb) bc, .slice bp (nl db) be] 27)).alloc (.cells #[.bool false, .slice none 0 0, .slice none 0 0] 27)) (w.heap.size) sa (.slice ao (nl ma) ac) (.slice ap (nl da) ae) := ((BlkR.made' w (w.heap.size) (by simp) sa (.slice ao (nl ma) ac) (.slice ap (nl da) ae)).alloc _).alloc _
  have kB : BlkR (((w.alloc (.cells #[.bool sa, .slice ao (nl ma) ac, .slice ap (nl da) ae] 27)).alloc (.cells #[.bool sb, .slice bo (nl mb) bc, .slice bp (nl db) be] 27)).alloc (.cells #[.bool false, .slice none 0 0, .slice none 0 0] 27)) (w.heap.size + 1) sb (.slice bo (nl mb) bc) (.slice bp (nl db) be) := (BlkR.made' (w.alloc (.cells #[.bool sa, .slice ao (nl ma) ac, .slice ap (nl da) ae] 27)) (w.heap.size + 1) (by simp) sb (.slice bo (nl mb) bc) (.slice bp (nl db) be)).alloc _
  have kR : BlkR (((w.alloc (.cells #[.bool sa, .slice ao (nl ma) ac, .slice ap (nl da) ae] 27)).alloc (.cells #[.bool sb, .slice bo (nl mb) bc, .slice bp (nl db) be] 27)).alloc (.cells #[.bool false, .slice none 0 0, .slice none 0 0] 27)) (w.heap.size + 1 + 1) false (.slice none 0 0) (.slice none 0 0) := BlkR.made' ((w.alloc (.cells #[.bool sa, .slice ao (nl ma) ac, .slice ap (nl da) ae] 27)).alloc (.cells #[.bool sb, .slice bo (nl mb) bc, .slice bp (nl db) be] 27)) (w.heap.size + 1 + 1) (by simp) false (.slice none 0 0) (.slice none 0 0)
  have hF : Fwd w (((w.alloc (.cells #[.bool sa, .slice ao (nl ma) ac, .slice ap (nl da) ae] 27)).alloc (.cells #[.bool sb, .slice bo (nl mb) bc, .slice bp (nl db) be] 27)).alloc (.cells #[.bool false, .slice none 0 0, .slice none 0 0] 27)) := (((Fwd.refl w).alloc _).alloc _).alloc _
  replace aN := aN.fwd hF
  replace aD := aD.fwd hF
  replace bN := bN.fwd hF
  replace bD := bD.fwd hF
  clear ha
  clear hb
  have HF := hid hF
  clear kA kB kR hF aN aD bN bD
  rw [hz0] at HF b1 ⊢
  clear hz0
  go_enter Tryz.func66, Tryz.ntmps66
  go_wp2_with fail
  refine bodyPost_ret (by simp [results, Tryz.results66, go_sem]; try rfl) rfl ?_
  exact ⟨rfl, HF.out⟩

set_option maxHeartbeats 16000000 in
set_option maxRecDepth 20000 in
theorem add2_raw {w : World} {a b : Value} {sa sb : Bool} {ma da mb db : Nat} (ha : RW w a sa ma da) (bam : nl ma ≤ 5000) (bad : nl da ≤ 5000) (hb : RW w b sb mb db) (bbm : nl mb ≤ 5000) (bbd : nl db ≤ 5000) (za : da ≠ 0) (zb : db ≠ 0) :
    Calls Tryz.prog 30 #[a, b] w fun e w' => ∃ v, e = .returned v ∧ RV w' v (addQ sa ma da sb mb db) ∧ Fwd w w' := by
  have b1 := nl_mul ma db
  have b2 := nl_mul mb da
  have b3 := nl_mul da db
  have z0 := Nat.mul_ne_zero za zb
  have b4 := nl_add (ma * db) (mb * da)
  have b5 := nl_sub (ma * db) (mb * da)
  have b6 := nl_sub (mb * da) (ma * db)
  obtain ⟨ao, ac, ap, ae, rfl, a1, a2, a3, a4, aN, aD⟩ := ha.open
  obtain ⟨bo, bc, bp, be, rfl, b1, b2, b3, b4, bN, bD⟩ := hb.open
  have kA : BlkR (((w.alloc (.cells #[.bool sa, .slice ao (nl ma) ac, .slice ap (nl da) ae] 27)).alloc (.cells #[.bool sb, .slice bo (nl mb) bc, .slice bp (nl db) be] 27)).alloc (.cells #[.bool false, .slice none 0 0, .slice none 0 0] 27)) (w.heap.size) sa (.slice ao (nl ma) ac) (.slice ap (nl da) ae) := ((BlkR.made' w (w.heap.size) (by simp) sa (.slice ao (nl ma) ac) (.slice ap (nl da) ae)).alloc _).alloc _
  have kB : BlkR (((w.alloc (.cells #[.bool sa, .slice ao (nl ma) ac, .slice ap (nl da) ae] 27)).alloc (.cells #[.bool sb, .slice bo (nl mb) bc, .slice bp (nl db) be] 27)).alloc (.cells #[.bool false, .slice none 0 0, .slice none 0 0] 27)) (w.heap.size + 1) sb (.slice bo (nl mb) bc) (.slice bp (nl db) be) := (BlkR.made' (w.alloc (.cells #[.bool sa, .slice ao (nl ma) ac, .slice ap (nl da) ae] 27)) (w.heap.size + 1) (by simp) sb (.slice bo (nl mb) bc) (.slice bp (nl db) be)).alloc _
  have kR : BlkR (((w.alloc (.cells #[.bool sa, .slice ao (nl ma) ac, .slice ap (nl da) ae] 27)).alloc (.cells #[.bool sb, .slice bo (nl mb) bc, .slice bp (nl db) be] 27)).alloc (.cells #[.bool false, .slice none 0 0, .slice none 0 0] 27)) (w.heap.size + 1 + 1) false (.slice none 0 0) (.slice none 0 0) := BlkR.made' ((w.alloc (.cells #[.bool sa, .slice ao (nl ma) ac, .slice ap (nl da) ae] 27)).alloc (.cells #[.bool sb, .slice bo (nl mb) bc, .slice bp (nl db) be] 27)) (w.heap.size + 1 + 1) (by simp) false (.slice none 0 0) (.slice none 0 0)
  have hF : Fwd w (((w.alloc (.cells #[.bool sa, .slice ao (nl ma) ac, .slice ap (nl da) ae] 27)).alloc (.cells #[.bool sb, .slice bo (nl mb) bc, .slice bp (nl db) be] 27)).alloc (.cells #[.bool false, .slice none 0 0, .slice none 0 0] 27)) := (((Fwd.refl w).alloc _).alloc _).alloc _
  replace aN := aN.fwd hF
  replace aD := aD.fwd hF
  replace bN := bN.fwd hF
  replace bD := bD.fwd hF
  clear ha
  clear hb
  go_enter Tryz.func30, Tryz.ntmps30
  go_wp2_with fail
  replace aN := aN.drew
  replace aD := aD.drew
  replace bN := bN.drew
  replace bD := bD.drew
  replace kA := kA.drew
  replace kB := kB.drew
  replace kR := kR.drew
  replace hF := hF.drew
  obtain ⟨ac0, ac1, ac2⟩ := kA.cells
  obtain ⟨bc0, bc1, bc2⟩ := kB.cells
  obtain ⟨rc0, rc1, rc2⟩ := kR.cells
  obtain ⟨rz0, rz1, rz2⟩ := kR.frozen
  go_region_held3 (fun w' => w'.cell? ⟨w.heap.size, 0, none⟩ = some (.bool sa) ∧ w'.cell? ⟨w.heap.size, 1, none⟩ = some (.slice ao (nl ma) ac) ∧ w'.cell? ⟨w.heap.size, 2, none⟩ = some (.slice ap (nl da) ae) ∧ w'.cell? ⟨w.heap.size + 1, 0, none⟩ = some (.bool sb) ∧ w'.cell? ⟨w.heap.size + 1, 1, none⟩ = some (.slice bo (nl mb) bc) ∧ w'.cell? ⟨w.heap.size + 1, 2, none⟩ = some (.slice bp (nl db) be))
    (first | exact ⟨by with_reducible assumption, by with_reducible assumption, by with_reducible assumption, by with_reducible assumption, by with_reducible assumption, by with_reducible assumption⟩ | exact ⟨far3 (by simp; try omega) (by with_reducible assumption), far3 (by simp; try omega) (by with_reducible assumption), far3 (by simp; try omega) (by with_reducible assumption), far3 (by simp; try omega) (by with_reducible assumption), far3 (by simp; try omega) (by with_reducible assumption), far3 (by simp; try omega) (by with_reducible assumption)⟩)
    (first
      | (go_at_call 60
         have _ := mk1
         refine (refMul_any bN aD (by omega) (by omega)).mono ?_
         rintro e w2 ⟨v2, rfl, h2, hf2⟩
         replace aN := aN.fwd hf2
         replace aD := aD.fwd hf2
         replace bN := bN.fwd hf2
         replace bD := bD.fwd hf2
         replace h1 := h1.fwd hf2
         replace kA := kA.fwd hf2
         replace kB := kB.fwd hf2
         replace kR := kR.fwd hf2
         replace hF := hF.trans hf2
         obtain ⟨ac0, ac1, ac2⟩ := kA.cells
         obtain ⟨bc0, bc1, bc2⟩ := kB.cells
         obtain ⟨rc0, rc1, rc2⟩ := kR.cells
         obtain ⟨rz0, rz1, rz2⟩ := kR.frozen
         have mk2 : True := trivial)
      | (go_at_call 60
         refine (refMul_any aN bD (by omega) (by omega)).mono ?_
         rintro e w1 ⟨v1, rfl, h1, hf1⟩
         replace aN := aN.fwd hf1
         replace aD := aD.fwd hf1
         replace bN := bN.fwd hf1
         replace bD := bD.fwd hf1
         replace kA := kA.fwd hf1
         replace kB := kB.fwd hf1
         replace kR := kR.fwd hf1
         replace hF := hF.trans hf1
         obtain ⟨ac0, ac1, ac2⟩ := kA.cells
         obtain ⟨bc0, bc1, bc2⟩ := kB.cells
         obtain ⟨rc0, rc1, rc2⟩ := kR.cells
         obtain ⟨rz0, rz1, rz2⟩ := kR.frozen
         have mk1 : True := trivial))
  go_wp2_with fail
  refine (refMul_any aD bD (by omega) (by omega)).mono ?_
  rintro e w3 ⟨v3, rfl, h3, hf3⟩
  replace aN := aN.fwd hf3
  replace aD := aD.fwd hf3
  replace bN := bN.fwd hf3
  replace bD := bD.fwd hf3
  replace h1 := h1.fwd hf3
  replace h2 := h2.fwd hf3
  replace kA := kA.fwd hf3
  replace kB := kB.fwd hf3
  replace kR := kR.fwd hf3
  replace hF := hF.trans hf3
  clear hf3
  clear ac0 ac1 ac2
  obtain ⟨ac0, ac1, ac2⟩ := kA.cells
  clear bc0 bc1 bc2
  obtain ⟨bc0, bc1, bc2⟩ := kB.cells
  clear rc0 rc1 rc2
  clear rz0 rz1 rz2
  obtain ⟨rc0, rc1, rc2⟩ := kR.cells
  obtain ⟨rz0, rz1, rz2⟩ := kR.frozen
  by_cases hst : sa = sb
  · subst hst
    have HE : Hid (addQ sa ma da sa mb db = mkQ sa (ma * db + mb * da) (da * db)) := hid (if_pos rfl)
    have hss : (sa == sa) = true := by simp
    go_wp2_with fail
    replace aN := aN.drew
    replace aD := aD.drew
    replace bN := bN.drew
    replace bD := bD.drew
    replace h1 := h1.drew
    replace h2 := h2.drew
    replace h3 := h3.drew
    replace kA := kA.drew
    replace kB := kB.drew
    replace kR := kR.drew
    replace hF := hF.drew
    clear ac0 ac1 ac2
    obtain ⟨ac0, ac1, ac2⟩ := kA.cells
    clear bc0 bc1 bc2
    obtain ⟨bc0, bc1, bc2⟩ := kB.cells
    clear rc0 rc1 rc2
    clear rz0 rz1 rz2
    obtain ⟨rc0, rc1, rc2⟩ := kR.cells
    obtain ⟨rz0, rz1, rz2⟩ := kR.frozen
    go_region_held3 (fun w' => w'.cell? ⟨w.heap.size, 0, none⟩ = some (.bool sa) ∧ w'.cell? ⟨w.heap.size, 1, none⟩ = some (.slice ao (nl ma) ac) ∧ w'.cell? ⟨w.heap.size, 2, none⟩ = some (.slice ap (nl da) ae) ∧ w'.cell? ⟨w.heap.size + 1, 0, none⟩ = some (.bool sa) ∧ w'.cell? ⟨w.heap.size + 1, 1, none⟩ = some (.slice bo (nl mb) bc) ∧ w'.cell? ⟨w.heap.size + 1, 2, none⟩ = some (.slice bp (nl db) be))
      (first | exact ⟨by with_reducible assumption, by with_reducible assumption, by with_reducible assumption, by with_reducible assumption, by with_reducible assumption, by with_reducible assumption⟩ | exact ⟨far3 (by simp; try omega) (by with_reducible assumption), far3 (by simp; try omega) (by with_reducible assumption), far3 (by simp; try omega) (by with_reducible assumption), far3 (by simp; try omega) (by with_reducible assumption), far3 (by simp; try omega) (by with_reducible assumption), far3 (by simp; try omega) (by with_reducible assumption)⟩)
      (first
        | (go_at_call 61
           have _ := mk4
           refine (made_any sa h4 h3 (by omega) (by omega) z0).mono ?_
           rintro e w5 ⟨v, rfl, hv, hf5⟩
           obtain ⟨xo, xc, yo, yc, rfl, x1, x2, x3, x4, xN, xD⟩ := RW.open hv
           replace aN := aN.fwd hf5
           replace aD := aD.fwd hf5
           replace bN := bN.fwd hf5
           replace bD := bD.fwd hf5
           replace h1 := h1.fwd hf5
           replace h2 := h2.fwd hf5
           replace h3 := h3.fwd hf5
           replace h4 := h4.fwd hf5
           replace kA := kA.fwd hf5
           replace kB := kB.fwd hf5
           replace kR := kR.fwd hf5
           replace hF := hF.trans hf5
           obtain ⟨ac0, ac1, ac2⟩ := kA.cells
           obtain ⟨bc0, bc1, bc2⟩ := kB.cells
           obtain ⟨rc0, rc1, rc2⟩ := kR.cells
           obtain ⟨rz0, rz1, rz2⟩ := kR.frozen
           have mk5 : True := trivial)
        | (go_at_call 62
           refine (refAdd_any h1 h2 (by omega) (by omega)).mono ?_
           rintro e w4 ⟨v4, rfl, h4, hf4⟩
           replace aN := aN.fwd hf4
           replace aD := aD.fwd hf4
           replace bN := bN.fwd hf4
           replace bD := bD.fwd hf4
           replace h1 := h1.fwd hf4
           replace h2 := h2.fwd hf4
           replace h3 := h3.fwd hf4
           replace kA := kA.fwd hf4
           replace kB := kB.fwd hf4
           replace kR := kR.fwd hf4
           replace hF := hF.trans hf4
           obtain ⟨ac0, ac1, ac2⟩ := kA.cells
           obtain ⟨bc0, bc1, bc2⟩ := kB.cells
           obtain ⟨rc0, rc1, rc2⟩ := kR.cells
           obtain ⟨rz0, rz1, rz2⟩ := kR.frozen
           have mk4 : True := trivial))
    go_wp2_with fail
    have hz := BlkR.set (s' := (negQ (mkQ sa (ma * db + mb * da) (da * db)))) (vN' := .slice xo (nl (mkQ sa (ma * db + mb * da) (da * db)).num.natAbs) xc) (vD' := .slice yo (nl (mkQ sa (ma * db + mb * da) (da * db)).den) yc) kR
    have hon := only_set3 (w.heap.size + 1 + 1) w5 (.bool (negQ (mkQ sa (ma * db + mb * da) (da * db)))) (.slice xo (nl (mkQ sa (ma * db + mb * da) (da * db)).num.natAbs) xc) (.slice yo (nl (mkQ sa (ma * db + mb * da) (da * db)).den) yc)
    generalize (((w5.setCell ⟨w.heap.size + 1 + 1, 0, none⟩ (.bool (negQ (mkQ sa (ma * db + mb * da) (da * db))))).setCell ⟨w.heap.size + 1 + 1, 1, none⟩ (.slice xo (nl (mkQ sa (ma * db + mb * da) (da * db)).num.natAbs) xc)).setCell ⟨w.heap.size + 1 + 1, 2, none⟩ (.slice yo (nl (mkQ sa (ma * db + mb * da) (da * db)).den) yc)) = wz at hz hon ⊢
    obtain ⟨e0, e1, e2⟩ := hz.cells
    refine bodyPost_ret (by simp [results, Tryz.results30, go_sem, e0, e1, e2]; try rfl) rfl ?_
    exact ⟨_, rfl, by rw [HE.out]; exact RW.keep hv kR (Sl.mk _ _ _) (Sl.mk _ _ _) hon, hF.wrote hon (by omega)⟩
  · have hss : (sa == sb) = false := by simpa using hst
    have HST := hid hst
    clear hst
    go_wp2_with fail
    refine (refCmp_any h1 h2 (by omega) (by omega)).mono ?_
    rintro e w4 ⟨rfl, hf4⟩
    replace aN := aN.fwd hf4
    replace aD := aD.fwd hf4
    replace bN := bN.fwd hf4
    replace bD := bD.fwd hf4
    replace h1 := h1.fwd hf4
    replace h2 := h2.fwd hf4
    replace h3 := h3.fwd hf4
    replace kA := kA.fwd hf4
    replace kB := kB.fwd hf4
    replace kR := kR.fwd hf4
    replace hF := hF.trans hf4
    clear hf4
    clear ac0 ac1 ac2
    obtain ⟨ac0, ac1, ac2⟩ := kA.cells
    clear bc0 bc1 bc2
    obtain ⟨bc0, bc1, bc2⟩ := kB.cells
    clear rc0 rc1 rc2
    clear rz0 rz1 rz2
    obtain ⟨rc0, rc1, rc2⟩ := kR.cells
    obtain ⟨rz0, rz1, rz2⟩ := kR.frozen
    by_cases hlt : ma * db < mb * da
    · have HE : Hid (addQ sa ma da sb mb db = mkQ sb (mb * da - ma * db) (da * db)) := hid (by unfold addQ; rw [if_neg HST.out, if_pos hlt])
      rw [cmpI_lt (by exact_mod_cast hlt)]
      have HLT := hid hlt
      clear hlt
      go_wp2_with fail
      refine (refSub_more h2 h1 (by omega) (by omega) (Nat.le_of_lt HLT.out)).mono ?_
      rintro e w5 ⟨v4, rfl, h4, hf5⟩
      replace aN := aN.fwd hf5
      replace aD := aD.fwd hf5
      replace bN := bN.fwd hf5
      replace bD := bD.fwd hf5
      replace h1 := h1.fwd hf5
      replace h2 := h2.fwd hf5
      replace h3 := h3.fwd hf5
      replace kA := kA.fwd hf5
      replace kB := kB.fwd hf5
      replace kR := kR.fwd hf5
      replace hF := hF.trans hf5
      clear hf5
      clear ac0 ac1 ac2
      obtain ⟨ac0, ac1, ac2⟩ := kA.cells
      clear bc0 bc1 bc2
      obtain ⟨bc0, bc1, bc2⟩ := kB.cells
      clear rc0 rc1 rc2
      clear rz0 rz1 rz2
      obtain ⟨rc0, rc1, rc2⟩ := kR.cells
      obtain ⟨rz0, rz1, rz2⟩ := kR.frozen
      go_wp2_with fail
      refine (made_any sb h4 h3 (by omega) (by omega) z0).mono ?_
      rintro e w6 ⟨v, rfl, hv, hf6⟩
      obtain ⟨xo, xc, yo, yc, rfl, x1, x2, x3, x4, xN, xD⟩ := RW.open hv
      replace aN := aN.fwd hf6
      replace aD := aD.fwd hf6
      replace bN := bN.fwd hf6
      replace bD := bD.fwd hf6
      replace h1 := h1.fwd hf6
      replace h2 := h2.fwd hf6
      replace h3 := h3.fwd hf6
      replace h4 := h4.fwd hf6
      replace kA := kA.fwd hf6
      replace kB := kB.fwd hf6
      replace kR := kR.fwd hf6
      replace hF := hF.trans hf6
      clear hf6
      clear ac0 ac1 ac2
      obtain ⟨ac0, ac1, ac2⟩ := kA.cells
      clear bc0 bc1 bc2
      obtain ⟨bc0, bc1, bc2⟩ := kB.cells
      clear rc0 rc1 rc2
      clear rz0 rz1 rz2
      obtain ⟨rc0, rc1, rc2⟩ := kR.cells
      obtain ⟨rz0, rz1, rz2⟩ := kR.frozen
      go_wp2_with fail
      have hz := BlkR.set (s' := (negQ (mkQ sb (mb * da - ma * db) (da * db)))) (vN' := .slice xo (nl (mkQ sb (mb * da - ma * db) (da * db)).num.natAbs) xc) (vD' := .slice yo (nl (mkQ sb (mb * da - ma * db) (da * db)).den) yc) kR
      have hon := only_set3 (w.heap.size + 1 + 1) w6 (.bool (negQ (mkQ sb (mb * da - ma * db) (da * db)))) (.slice xo (nl (mkQ sb (mb * da - ma * db) (da * db)).num.natAbs) xc) (.slice yo (nl (mkQ sb (mb * da - ma * db) (da * db)).den) yc)
      generalize (((w6.setCell ⟨w.heap.size + 1 + 1, 0, none⟩ (.bool (negQ (mkQ sb (mb * da - ma * db) (da * db))))).setCell ⟨w.heap.size + 1 + 1, 1, none⟩ (.slice xo (nl (mkQ sb (mb * da - ma * db) (da * db)).num.natAbs) xc)).setCell ⟨w.heap.size + 1 + 1, 2, none⟩ (.slice yo (nl (mkQ sb (mb * da - ma * db) (da * db)).den) yc)) = wz at hz hon ⊢
      obtain ⟨e0, e1, e2⟩ := hz.cells
      refine bodyPost_ret (by simp [results, Tryz.results30, go_sem, e0, e1, e2]; try rfl) rfl ?_
      exact ⟨_, rfl, by rw [HE.out]; exact RW.keep hv kR (Sl.mk _ _ _) (Sl.mk _ _ _) hon, hF.wrote hon (by omega)⟩
    · have HE : Hid (addQ sa ma da sb mb db = mkQ sa (ma * db - mb * da) (da * db)) := hid (by unfold addQ; rw [if_neg HST.out, if_neg hlt])
      have hle : mb * da ≤ ma * db := by omega
      obtain ⟨ci, hci, hc0⟩ := cmpI_nn hle
      rw [← hci]
      clear hci
      have HLT := hid hlt
      clear hlt
      go_wp2_with fail
      refine (refSub_more h1 h2 (by omega) (by omega) hle).mono ?_
      rintro e w5 ⟨v4, rfl, h4, hf5⟩
      clear hle
      replace aN := aN.fwd hf5
      replace aD := aD.fwd hf5
      replace bN := bN.fwd hf5
      replace bD := bD.fwd hf5
      replace h1 := h1.fwd hf5
      replace h2 := h2.fwd hf5
      replace h3 := h3.fwd hf5
      replace kA := kA.fwd hf5
      replace kB := kB.fwd hf5
      replace kR := kR.fwd hf5
      replace hF := hF.trans hf5
      clear hf5
      clear ac0 ac1 ac2
      obtain ⟨ac0, ac1, ac2⟩ := kA.cells
      clear bc0 bc1 bc2
      obtain ⟨bc0, bc1, bc2⟩ := kB.cells
      clear rc0 rc1 rc2
      clear rz0 rz1 rz2
      obtain ⟨rc0, rc1, rc2⟩ := kR.cells
      obtain ⟨rz0, rz1, rz2⟩ := kR.frozen
      go_wp2_with fail
      refine (made_any sa h4 h3 (by omega) (by omega) z0).mono ?_
      rintro e w6 ⟨v, rfl, hv, hf6⟩
      obtain ⟨xo, xc, yo, yc, rfl, x1, x2, x3, x4, xN, xD⟩ := RW.open hv
      replace aN := aN.fwd hf6
      replace aD := aD.fwd hf6
      replace bN := bN.fwd hf6
      replace bD := bD.fwd hf6
      replace h1 := h1.fwd hf6
      replace h2 := h2.fwd hf6
      replace h3 := h3.fwd hf6
      replace h4 := h4.fwd hf6
      replace kA := kA.fwd hf6
      replace kB := kB.fwd hf6
      replace kR := kR.fwd hf6
      replace hF := hF.trans hf6
      clear hf6
      clear ac0 ac1 ac2
      obtain ⟨ac0, ac1, ac2⟩ := kA.cells
      clear bc0 bc1 bc2
      obtain ⟨bc0, bc1, bc2⟩ := kB.cells
      clear rc0 rc1 rc2
      clear rz0 rz1 rz2
      obtain ⟨rc0, rc1, rc2⟩ := kR.cells
      obtain ⟨rz0, rz1, rz2⟩ := kR.frozen
      go_wp2_with fail
      have hz := BlkR.set (s' := (negQ (mkQ sa (ma * db - mb * da) (da * db)))) (vN' := .slice xo (nl (mkQ sa (ma * db - mb * da) (da * db)).num.natAbs) xc) (vD' := .slice yo (nl (mkQ sa (ma * db - mb * da) (da * db)).den) yc) kR
      have hon := only_set3 (w.heap.size + 1 + 1) w6 (.bool (negQ (mkQ sa (ma * db - mb * da) (da * db)))) (.slice xo (nl (mkQ sa (ma * db - mb * da) (da * db)).num.natAbs) xc) (.slice yo (nl (mkQ sa (ma * db - mb * da) (da * db)).den) yc)
      generalize (((w6.setCell ⟨w.heap.size + 1 + 1, 0, none⟩ (.bool (negQ (mkQ sa (ma * db - mb * da) (da * db))))).setCell ⟨w.heap.size + 1 + 1, 1, none⟩ (.slice xo (nl (mkQ sa (ma * db - mb * da) (da * db)).num.natAbs) xc)).setCell ⟨w.heap.size + 1 + 1, 2, none⟩ (.slice yo (nl (mkQ sa (ma * db - mb * da) (da * db)).den) yc)) = wz at hz hon ⊢
      obtain ⟨e0, e1, e2⟩ := hz.cells
      refine bodyPost_ret (by simp [results, Tryz.results30, go_sem, e0, e1, e2]; try rfl) rfl ?_
      exact ⟨_, rfl, by rw [HE.out]; exact RW.keep hv kR (Sl.mk _ _ _) (Sl.mk _ _ _) hon, hF.wrote hon (by omega)⟩

end Go.Proofs.YtcfhajnboamnnabGreatDoor

namespace Go.Proofs.YtcfhajnboamnnabGreatDoor
open Go.RowKit
set_option linter.unusedVariables false

/-- Which is less, by parts. -/
def cmpS (sa : Bool) (ma da : Nat) (sb : Bool) (mb db : Nat) : Int := if sa = sb then (if sa = true then -(cmpW ((ma * db : Nat) : Int) ((mb * da : Nat) : Int)) else cmpW ((ma * db : Nat) : Int) ((mb * da : Nat) : Int)) else if sa = true then -1 else 1
theorem cmpI_cast (x y : Int) : (-9223372036854775808 ≤ cmpW x y ∧ cmpW x y ≤ 1) ∧ -1 ≤ cmpW x y := by
  unfold cmpW; split
  · omega
  · split <;> omega
theorem cmpS_eq (a b : Rat) : cmpS (negQ a) a.num.natAbs a.den (negQ b) b.num.natAbs b.den = cmpQ a b := by
  have hl := Rat.lt_iff a b
  have hg := Rat.lt_iff b a
  have ea := sgQ_self a
  have eb := sgQ_self b
  have pa := a.den_pos
  have pb := b.den_pos
  have e1 : a.num * (b.den : Int) = sgQ (negQ a) (a.num.natAbs * b.den) := by rw [← sgQ_nat, ea]
  have e2 : b.num * (a.den : Int) = sgQ (negQ b) (b.num.natAbs * a.den) := by rw [← sgQ_nat, eb]
  rw [e1, e2] at hl hg
  have na : negQ a = true → 0 < a.num.natAbs * b.den := by
    intro h
    unfold negQ at h
    have : a.num < 0 := by simpa using h
    exact Nat.mul_pos (by omega) pb
  have nb : negQ b = true → 0 < b.num.natAbs * a.den := by
    intro h
    unfold negQ at h
    have : b.num < 0 := by simpa using h
    exact Nat.mul_pos (by omega) pa
  unfold cmpS cmpQ cmpW
  generalize a.num.natAbs * b.den = x at *
  generalize b.num.natAbs * a.den = y at *
  clear ea eb e1 e2 pa pb
  cases h1 : negQ a <;> cases h2 : negQ b <;> simp only [h1, h2, sgQ] at hl hg na nb ⊢ <;> simp only [hl, hg] <;> grind

set_option maxHeartbeats 8000000 in
set_option maxRecDepth 20000 in
theorem cmp2_any {w : World} {a b : Value} {sa sb : Bool} {ma da mb db : Nat} (ha : RW w a sa ma da) (bam : nl ma ≤ 5000) (bad : nl da ≤ 5000) (hb : RW w b sb mb db) (bbm : nl mb ≤ 5000) (bbd : nl db ≤ 5000) :
    Calls Tryz.prog 54 #[a, b] w fun e w' => e = .returned (.int .i64 (cmpS sa ma da sb mb db)) ∧ Fwd w w' := by
  have b1 := nl_mul ma db
  have b2 := nl_mul mb da
  obtain ⟨ao, ac, ap, ae, rfl, a1, a2, a3, a4, aN, aD⟩ := ha.open
  obtain ⟨bo, bc, bp, be, rfl, b1, b2, b3, b4, bN, bD⟩ := hb.open
  have kA : BlkR ((w.alloc (.cells #[.bool sa, .slice ao (nl ma) ac, .slice ap (nl da) ae] 27)).alloc (.cells #[.bool sb, .slice bo (nl mb) bc, .slice bp (nl db) be] 27)) (w.heap.size) sa (.slice ao (nl ma) ac) (.slice ap (nl da) ae) := (BlkR.made' w (w.heap.size) (by simp) sa (.slice ao (nl ma) ac) (.slice ap (nl da) ae)).alloc _
  have kB : BlkR ((w.alloc (.cells #[.bool sa, .slice ao (nl ma) ac, .slice ap (nl da) ae] 27)).alloc (.cells #[.bool sb, .slice bo (nl mb) bc, .slice bp (nl db) be] 27)) (w.heap.size + 1) sb (.slice bo (nl mb) bc) (.slice bp (nl db) be) := BlkR.made' (w.alloc (.cells #[.bool sa, .slice ao (nl ma) ac, .slice ap (nl da) ae] 27)) (w.heap.size + 1) (by simp) sb (.slice bo (nl mb) bc) (.slice bp (nl db) be)
  have hF : Fwd w ((w.alloc (.cells #[.bool sa, .slice ao (nl ma) ac, .slice ap (nl da) ae] 27)).alloc (.cells #[.bool sb, .slice bo (nl mb) bc, .slice bp (nl db) be] 27)) := ((Fwd.refl w).alloc _).alloc _
  replace aN := aN.fwd hF
  replace aD := aD.fwd hF
  replace bN := bN.fwd hF
  replace bD := bD.fwd hF
  clear ha
  clear hb
  by_cases hst : sa = sb
  · subst hst
    have hss : (sa == sa) = true := by simp
    have hss2 : (sa != sa) = false := by simp
    go_enter Tryz.func54, Tryz.ntmps54
    go_wp2_with fail
    replace aN := aN.drew
    replace aD := aD.drew
    replace bN := bN.drew
    replace bD := bD.drew
    replace kA := kA.drew
    replace kB := kB.drew
    replace hF := hF.drew
    obtain ⟨ac0, ac1, ac2⟩ := kA.cells
    obtain ⟨bc0, bc1, bc2⟩ := kB.cells
    go_region_held3 (fun w' => w'.cell? ⟨w.heap.size, 0, none⟩ = some (.bool sa) ∧ w'.cell? ⟨w.heap.size, 1, none⟩ = some (.slice ao (nl ma) ac) ∧ w'.cell? ⟨w.heap.size, 2, none⟩ = some (.slice ap (nl da) ae) ∧ w'.cell? ⟨w.heap.size + 1, 0, none⟩ = some (.bool sa) ∧ w'.cell? ⟨w.heap.size + 1, 1, none⟩ = some (.slice bo (nl mb) bc) ∧ w'.cell? ⟨w.heap.size + 1, 2, none⟩ = some (.slice bp (nl db) be))
      (first | exact ⟨by with_reducible assumption, by with_reducible assumption, by with_reducible assumption, by with_reducible assumption, by with_reducible assumption, by with_reducible assumption⟩ | exact ⟨far3 (by simp; try omega) (by with_reducible assumption), far3 (by simp; try omega) (by with_reducible assumption), far3 (by simp; try omega) (by with_reducible assumption), far3 (by simp; try omega) (by with_reducible assumption), far3 (by simp; try omega) (by with_reducible assumption), far3 (by simp; try omega) (by with_reducible assumption)⟩)
      (first
        | (go_at_call 63
           have _ := mk2
           refine (refCmp_any h1 h2 (by omega) (by omega)).mono ?_
           rintro e w3 ⟨rfl, hf3⟩
           obtain ⟨ci, hci⟩ : ∃ ci, ci = cmpW ((ma * db : Nat) : Int) ((mb * da : Nat) : Int) := ⟨_, rfl⟩
           have hcb := cmpI_cast ((ma * db : Nat) : Int) ((mb * da : Nat) : Int)
           rw [← hci] at hcb ⊢
           have HCI := hid hci
           clear hci
           replace aN := aN.fwd hf3
           replace aD := aD.fwd hf3
           replace bN := bN.fwd hf3
           replace bD := bD.fwd hf3
           replace h1 := h1.fwd hf3
           replace h2 := h2.fwd hf3
           replace kA := kA.fwd hf3
           replace kB := kB.fwd hf3
           replace hF := hF.trans hf3
           obtain ⟨ac0, ac1, ac2⟩ := kA.cells
           obtain ⟨bc0, bc1, bc2⟩ := kB.cells
           have mk3 : True := trivial)
        | (go_at_call 60
           have _ := mk1
           refine (refMul_any bN aD (by omega) (by omega)).mono ?_
           rintro e w2 ⟨v2, rfl, h2, hf2⟩
           replace aN := aN.fwd hf2
           replace aD := aD.fwd hf2
           replace bN := bN.fwd hf2
           replace bD := bD.fwd hf2
           replace h1 := h1.fwd hf2
           replace kA := kA.fwd hf2
           replace kB := kB.fwd hf2
           replace hF := hF.trans hf2
           obtain ⟨ac0, ac1, ac2⟩ := kA.cells
           obtain ⟨bc0, bc1, bc2⟩ := kB.cells
           have mk2 : True := trivial)
        | (go_at_call 60
           refine (refMul_any aN bD (by omega) (by omega)).mono ?_
           rintro e w1 ⟨v1, rfl, h1, hf1⟩
           replace aN := aN.fwd hf1
           replace aD := aD.fwd hf1
           replace bN := bN.fwd hf1
           replace bD := bD.fwd hf1
           replace kA := kA.fwd hf1
           replace kB := kB.fwd hf1
           replace hF := hF.trans hf1
           obtain ⟨ac0, ac1, ac2⟩ := kA.cells
           obtain ⟨bc0, bc1, bc2⟩ := kB.cells
           have mk1 : True := trivial))
    cases sa
    · go_wp2
      go_ret
      exact ⟨by unfold cmpS; rw [if_pos rfl, if_neg (by decide), ← HCI.out]; rfl, hF⟩
    · go_wp2
      go_ret
      exact ⟨by unfold cmpS; rw [if_pos rfl, if_pos rfl, ← HCI.out]; simp, hF⟩
  · cases sa
    · cases sb
      · exact absurd rfl hst
      · clear hst
        go_enter Tryz.func54, Tryz.ntmps54
        go_wp2
        go_ret
        exact ⟨rfl, hF⟩
    · cases sb
      · clear hst
        go_enter Tryz.func54, Tryz.ntmps54
        go_wp2
        go_ret
        exact ⟨rfl, hF⟩
      · exact absurd rfl hst

theorem cast_beq0 (n : Nat) : ((n : Int) == 0) = (n == 0) := by
  by_cases h : n = 0
  · subst h; rfl
  · have h1 : ((n : Int) == 0) = false := by simp; omega
    have h2 : (n == 0) = false := by simpa using h
    rw [h1, h2]
theorem nl_eq_zero (n : Nat) : (nl n == 0) = (n == 0) := by
  by_cases h : n = 0
  · subst h; rw [nl_zero]
  · have := nl_pos h
    have h1 : (nl n == 0) = false := by simp; omega
    have h2 : (n == 0) = false := by simpa using h
    rw [h1, h2]

set_option maxHeartbeats 1000000 in
theorem nought2_any {w : World} {a : Value} {sa : Bool} {ma da : Nat} (ha : RW w a sa ma da) (bam : nl ma ≤ 5000) (bad : nl da ≤ 5000) :
    Calls Tryz.prog 94 #[a] w fun e w' => e = .returned (.bool (ma == 0)) ∧ Fwd w w' := by
  obtain ⟨ao, ac, ap, ae, rfl, a1, a2, a3, a4, aN, aD⟩ := ha.open
  have kA : BlkR (w.alloc (.cells #[.bool sa, .slice ao (nl ma) ac, .slice ap (nl da) ae] 27)) (w.heap.size) sa (.slice ao (nl ma) ac) (.slice ap (nl da) ae) := BlkR.made' w (w.heap.size) (by simp) sa (.slice ao (nl ma) ac) (.slice ap (nl da) ae)
  have hF : Fwd w (w.alloc (.cells #[.bool sa, .slice ao (nl ma) ac, .slice ap (nl da) ae] 27)) := (Fwd.refl w).alloc _
  replace aN := aN.fwd hF
  replace aD := aD.fwd hF
  clear ha
  go_enter Tryz.func94, Tryz.ntmps94
  go_wp2
  go_ret
  refine ⟨?_, hF⟩
  rw [← nl_eq_zero ma, ← cast_beq0]
  rfl

end Go.Proofs.YtcfhajnboamnnabGreatDoor

namespace Go.Proofs.YtcfhajnboamnnabGreatDoor
open Go.RowKit
set_option linter.unusedVariables false

theorem step_append0 {w : World} {ops : Array Oper} {o : Oper} {a : Act} {K : Act → World → Prop} {Q : Exit → Act → World → Prop} {E : Prop} (hgd : o.guard = none) (s x : Operand)
    (ho : o.op = .call { callee := .builtin .append, args := #[s, x], argTypes := #[25, 25] })
    (g : Nat) (hs : a.eval s = .slice (some ⟨g, 0, none⟩) 0 0) (hg : w.heap[g]? = some (.cells #[] 65 (0, 0)))
    (v : Value) (n : Nat) (hx : a.eval x = v) (hv : Num w v n) (hlen : nl n ≤ 100000000)
    (h : ∀ b cap w', Num w' (.slice b (nl n) cap) n → Only g w w' → K (a.put o.dst (.slice b (nl n) cap)) w') :
    if Region.wanted o (yielded ops a.tmps) = true then Oper.wp Tryz.prog o a w K Q else E := by
  have hw : Region.wanted o (yielded ops a.tmps) = true := by simp [Region.wanted, hgd]
  rw [if_pos hw]
  have hlt : g < w.heap.size := (Array.getElem?_eq_some_iff.1 hg).1
  have hown := ownsRow_empty w g g (Nat.le_refl _) hg
  obtain ⟨i, hi, hz0, hz1, hz2⟩ := info_parts info_u32
  rcases hv.2 with ⟨rfl, h0⟩ | ⟨b, off, cap, rfl, h1, h2, h3, h4⟩
  · have hrun := run_append_owned_none (P := Tryz.prog) (w := w) g 25 o.type 65 i 1 Tryz.underlying25 hi _ 0 [] hown
    have hn0 : nl n = 0 := by show (lim n).length = 0; rw [h0]; rfl
    unfold Oper.wp
    simp [execOp, ho, resolve, invoke, builtin, hs, hx, hrun, Result.andThen]
    have := h (some ⟨g, 0, none⟩) 0 w (by unfold Num; rw [h0, hn0]; exact ⟨Ok.nil, .inr ⟨g, 0, 0, rfl, Nat.le_refl _, by simp, by simp, hlt⟩⟩) (Only.refl _ _)
    rwa [hn0] at this
  · obtain ⟨v', w', hrun, ho', hgr, hnil⟩ := run_append_own (P := Tryz.prog) w g 25 o.type 65 i (.int .u32 0) 1 4 Tryz.underlying25 hi hz0 hz1 hz2 rfl (by decide) _ 0 [] hown ⟨b, off, none⟩ (lim n).length cap (cellsOf (lim n)) (by simp [cellsOf])
      (by
        intro j u hj
        have hjl : j < (lim n).length := by
          rcases Nat.lt_or_ge j (lim n).length with hlt | hge
          · exact hlt
          · simp [cellsOf, List.getElem?_eq_none hge] at hj
        have := h3 j hjl
        simp [cellsOf, hjl] at hj
        rw [show (⟨b, off, none⟩ : Addr).add j = ⟨b, off + j, none⟩ from by unfold Addr.add; split <;> simp_all, this, ← hj]
        simp [hjl])
      (by
        intro u hu
        simp only [cellsOf, List.mem_map] at hu
        obtain ⟨x, _, rfl⟩ := hu; rfl)
      (le_maxLen (by show 0 + nl n ≤ _; omega)) (by show (0 + nl n) * 4 ≤ _; omega) (Nat.le_of_lt hlt)
    rw [List.nil_append, Nat.zero_add] at ho'
    have hnum : Num w' v' n := ownsRow_rd (ok_lim n) ho'
    obtain ⟨b2, c2, rfl, _, _, _⟩ := hnum.parts
    unfold Oper.wp
    simp [execOp, ho, resolve, invoke, builtin, hs, hx, hrun, Result.andThen]
    exact h b2 c2 w' hnum hgr

end Go.Proofs.YtcfhajnboamnnabGreatDoor

namespace Go.Proofs.YtcfhajnboamnnabGreatDoor
open Go.RowKit
set_option linter.unusedVariables false

set_option maxHeartbeats 1000000 in
theorem size2_any (w : World) (n : Int) (h1 : -9223372036854775808 ≤ n) (h2 : n ≤ 9223372036854775807) :
    Calls Tryz.prog 79 #[.int .i64 n] w fun e w' => e = .returned (.int .u64 (n.natAbs : Int)) ∧ w = w' := by
  by_cases hn : n < 0
  · have HE : Hid (IntKind.u64.wrap (-IntKind.u64.wrap n) = (n.natAbs : Int)) := hid (by rw [IntKind.wrap_u64, IntKind.wrap_u64]; omega)
    go_enter Tryz.func79, Tryz.ntmps79
    go_wp2
    go_ret
    refine ⟨?_, rfl⟩
    first | exact ret_int HE.out | (rw [← HE.out]; rfl)
  · have HE : Hid ((n.natAbs : Int) = n) := hid (by omega)
    go_enter Tryz.func79, Tryz.ntmps79
    go_wp2
    go_ret
    refine ⟨?_, rfl⟩
    rw [HE.out]; rfl

set_option maxHeartbeats 2000000 in
theorem of2_any (w : World) (n d : Int) (n1 : -9223372036854775808 ≤ n) (n2 : n ≤ 9223372036854775807) (d1 : -9223372036854775808 ≤ d) (d2 : d ≤ 9223372036854775807) (hd : d ≠ 0) :
    Calls Tryz.prog 42 #[.int .i64 n, .int .i64 d] w fun e w' => ∃ v, e = .returned (.tuple #[v, .int .i64 0]) ∧ RV w' v (mkQ (!(decide (n < 0) == decide (d < 0))) n.natAbs d.natAbs) ∧ Fwd w w' := by
  have hd0 : d.natAbs ≠ 0 := by omega
  have bn : nl n.natAbs ≤ 2 := nl_le_two.2 (by omega)
  have bd : nl d.natAbs ≤ 2 := nl_le_two.2 (by omega)
  have kR : BlkR (w.alloc (.cells #[.bool false, .slice none 0 0, .slice none 0 0] 27)) (w.heap.size) false (.slice none 0 0) (.slice none 0 0) := BlkR.made' w (w.heap.size) (by simp) false (.slice none 0 0) (.slice none 0 0)
  have hF : Fwd w (w.alloc (.cells #[.bool false, .slice none 0 0, .slice none 0 0] 27)) := (Fwd.refl w).alloc _
  go_enter Tryz.func42, Tryz.ntmps42
  go_wp2_with fail
  refine (size2_any _ n n1 n2).mono ?_
  rintro e wq ⟨rfl, rfl⟩
  go_wp2_with fail
  refine (refOf_any _ n.natAbs (by omega)).mono ?_
  rintro e w1 ⟨vn, rfl, hn, hf1⟩
  replace kR := kR.fwd hf1
  replace hF := hF.trans hf1
  clear hf1
  obtain ⟨rc0, rc1, rc2⟩ := kR.cells
  obtain ⟨rz0, rz1, rz2⟩ := kR.frozen
  go_wp2_with fail
  refine (size2_any _ d d1 d2).mono ?_
  rintro e wq ⟨rfl, rfl⟩
  go_wp2_with fail
  refine (refOf_any _ d.natAbs (by omega)).mono ?_
  rintro e w2 ⟨vd, rfl, hd', hf2⟩
  replace hn := hn.fwd hf2
  replace kR := kR.fwd hf2
  replace hF := hF.trans hf2
  clear hf2
  clear rc0 rc1 rc2
  clear rz0 rz1 rz2
  obtain ⟨rc0, rc1, rc2⟩ := kR.cells
  obtain ⟨rz0, rz1, rz2⟩ := kR.frozen
  go_wp2_with fail
  refine (make2_any _ hn hd' (by omega) (by omega) hd0).mono ?_
  rintro e w3 ⟨v, rfl, hv, hf3⟩
  obtain ⟨xo, xc, yo, yc, rfl, x1, x2, x3, x4, xN, xD⟩ := RW.open hv
  replace hn := hn.fwd hf3
  replace hd' := hd'.fwd hf3
  replace kR := kR.fwd hf3
  replace hF := hF.trans hf3
  clear hf3
  clear rc0 rc1 rc2
  clear rz0 rz1 rz2
  obtain ⟨rc0, rc1, rc2⟩ := kR.cells
  obtain ⟨rz0, rz1, rz2⟩ := kR.frozen
  go_wp2_with fail
  have hz := BlkR.set (s' := (negQ (mkQ (!(decide (n < 0) == decide (d < 0))) n.natAbs d.natAbs))) (vN' := .slice xo (nl (mkQ (!(decide (n < 0) == decide (d < 0))) n.natAbs d.natAbs).num.natAbs) xc) (vD' := .slice yo (nl (mkQ (!(decide (n < 0) == decide (d < 0))) n.natAbs d.natAbs).den) yc) kR
  have hon := only_set3 (w.heap.size) w3 (.bool (negQ (mkQ (!(decide (n < 0) == decide (d < 0))) n.natAbs d.natAbs))) (.slice xo (nl (mkQ (!(decide (n < 0) == decide (d < 0))) n.natAbs d.natAbs).num.natAbs) xc) (.slice yo (nl (mkQ (!(decide (n < 0) == decide (d < 0))) n.natAbs d.natAbs).den) yc)
  generalize (((w3.setCell ⟨w.heap.size, 0, none⟩ (.bool (negQ (mkQ (!(decide (n < 0) == decide (d < 0))) n.natAbs d.natAbs)))).setCell ⟨w.heap.size, 1, none⟩ (.slice xo (nl (mkQ (!(decide (n < 0) == decide (d < 0))) n.natAbs d.natAbs).num.natAbs) xc)).setCell ⟨w.heap.size, 2, none⟩ (.slice yo (nl (mkQ (!(decide (n < 0) == decide (d < 0))) n.natAbs d.natAbs).den) yc)) = wz at hz hon ⊢
  obtain ⟨e0, e1, e2⟩ := hz.cells
  refine bodyPost_ret (by simp [results, Tryz.results42, go_sem, e0, e1, e2]; try rfl) rfl ?_
  exact ⟨_, rfl, RW.keep hv kR (Sl.mk _ _ _) (Sl.mk _ _ _) hon, hF.wrote hon (Nat.le_refl _)⟩

set_option maxHeartbeats 2000000 in
theorem of2_zero (w : World) (n : Int) (n1 : -9223372036854775808 ≤ n) (n2 : n ≤ 9223372036854775807) :
    Calls Tryz.prog 42 #[.int .i64 n, .int .i64 0] w fun e w' => ∃ v, e = .returned (.tuple #[v, .int .i64 5]) ∧ RW w' v false 0 0 ∧ Fwd w w' := by
  have bn : nl n.natAbs ≤ 2 := nl_le_two.2 (by omega)
  have kR : BlkR (w.alloc (.cells #[.bool false, .slice none 0 0, .slice none 0 0] 27)) (w.heap.size) false (.slice none 0 0) (.slice none 0 0) := BlkR.made' w (w.heap.size) (by simp) false (.slice none 0 0) (.slice none 0 0)
  have hF : Fwd w (w.alloc (.cells #[.bool false, .slice none 0 0, .slice none 0 0] 27)) := (Fwd.refl w).alloc _
  go_enter Tryz.func42, Tryz.ntmps42
  go_wp2_with fail
  refine (size2_any _ n n1 n2).mono ?_
  rintro e wq ⟨rfl, rfl⟩
  go_wp2_with fail
  refine (refOf_any _ n.natAbs (by omega)).mono ?_
  rintro e w1 ⟨vn, rfl, hn, hf1⟩
  replace kR := kR.fwd hf1
  replace hF := hF.trans hf1
  clear hf1
  obtain ⟨rc0, rc1, rc2⟩ := kR.cells
  obtain ⟨rz0, rz1, rz2⟩ := kR.frozen
  go_wp2_with fail
  refine (size2_any _ 0 (by omega) (by omega)).mono ?_
  rintro e wq ⟨rfl, rfl⟩
  go_wp2_with fail
  refine (refOf_any _ 0 (by omega)).mono ?_
  rintro e w2 ⟨vd, rfl, hd', hf2⟩
  replace hn := hn.fwd hf2
  replace kR := kR.fwd hf2
  replace hF := hF.trans hf2
  clear hf2
  clear rc0 rc1 rc2
  clear rz0 rz1 rz2
  obtain ⟨rc0, rc1, rc2⟩ := kR.cells
  obtain ⟨rz0, rz1, rz2⟩ := kR.frozen
  go_wp2_with fail
  refine (make2_zero _ hn hd').mono ?_
  rintro e w3 ⟨rfl, hf3⟩
  unfold ratZero
  replace hn := hn.fwd hf3
  replace hd' := hd'.fwd hf3
  replace kR := kR.fwd hf3
  replace hF := hF.trans hf3
  clear hf3
  clear rc0 rc1 rc2
  clear rz0 rz1 rz2
  obtain ⟨rc0, rc1, rc2⟩ := kR.cells
  obtain ⟨rz0, rz1, rz2⟩ := kR.frozen
  go_wp2_with fail
  have hz := BlkR.set (s' := false) (vN' := .slice none 0 0) (vD' := .slice none 0 0) kR
  have hon := only_set3 (w.heap.size) w3 (.bool false) (.slice none 0 0) (.slice none 0 0)
  generalize (((w3.setCell ⟨w.heap.size, 0, none⟩ (.bool false)).setCell ⟨w.heap.size, 1, none⟩ (.slice none 0 0)).setCell ⟨w.heap.size, 2, none⟩ (.slice none 0 0)) = wz at hz hon ⊢
  obtain ⟨e0, e1, e2⟩ := hz.cells
  refine bodyPost_ret (by simp [results, Tryz.results42, go_sem, e0, e1, e2]; try rfl) rfl ?_
  exact ⟨_, rfl, ⟨_, _, rfl, num_nil _, num_nil _⟩, hF.wrote hon (Nat.le_refl _)⟩

end Go.Proofs.YtcfhajnboamnnabGreatDoor
