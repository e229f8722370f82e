/- Plain mathematics of rational numbers as the program reckons with them: lowest terms found without the long products. -/
/- The program's rational numbers: isNought, isOne, signed, over, Make, size, Of. -/
/- The second telling of floats: parts, shift, Rat. -/
import Derived.Test.YtcfhajnboamnnaaDoorKI
import Derived.Test.YtcfhajnboamnnaaDoorYKG
import Derived.Test.YtcfhajnboamnnaaDoorYXF34
import Derived.Test.YtcfhajnboamnnaaDoorKD
namespace Go.Proofs.YtcfhajnboamnnaaDoor

theorem mkQ_sign {s : Bool} {n d : Nat} (hd : d ≠ 0) : negQ (mkQ s n d) = (s && n / Nat.gcd n d != 0) := by
  unfold negQ
  rw [mkQ_num hd]
  generalize n / Nat.gcd n d = k
  rw [Bool.eq_iff_iff]
  cases s <;> simp [sgQ] <;> omega

/-- The sign and the size of a sum. -/
def plusS (s : Bool) (m : Nat) (t : Bool) (n : Nat) : Bool := if s = t then s else if m < n then t else s
def plusN (s : Bool) (m : Nat) (t : Bool) (n : Nat) : Nat := if s = t then m + n else if m < n then n - m else m - n
theorem plus_sgn (s : Bool) (m : Nat) (t : Bool) (n : Nat) : sgQ (plusS s m t n) (plusN s m t n) = sgQ s m + sgQ t n := by
  unfold plusS plusN
  by_cases h : m < n <;> cases s <;> cases t <;> simp [sgQ, h] <;> omega

/-- The sum, its lowest terms found by what both denominators share. -/
theorem Q_sum (a b : Rat) (s : Bool) (z : Nat) (hz : sgQ s z = a.num * ((b.den / Nat.gcd a.den b.den : Nat) : Int) + b.num * ((a.den / Nat.gcd a.den b.den : Nat) : Int)) :
    (a + b).num.natAbs = z / Nat.gcd z (Nat.gcd a.den b.den) ∧ (a + b).den = a.den / Nat.gcd a.den b.den * (b.den / Nat.gcd z (Nat.gcd a.den b.den)) ∧ negQ (a + b) = (s && z / Nat.gcd z (Nat.gcd a.den b.den) != 0) := by
  have hg0 : 0 < Nat.gcd a.den b.den := Nat.gcd_pos_of_pos_left _ a.den_pos
  have ha := Rat.add.aux a b rfl rfl rfl
  have hzn : (a.num * ((b.den / Nat.gcd a.den b.den : Nat) : Int) + b.num * ((a.den / Nat.gcd a.den b.den : Nat) : Int)).natAbs = z := by rw [← hz, sgQ_natAbs]
  simp only [hzn] at ha
  have hd0 : a.den / Nat.gcd a.den b.den * b.den ≠ 0 := Nat.mul_ne_zero (by have := Nat.div_pos (Nat.le_of_dvd a.den_pos (Nat.gcd_dvd_left a.den b.den)) hg0; omega) b.den_nz
  have hsum : a + b = mkQ s z (a.den / Nat.gcd a.den b.den * b.den) := by
    obtain ⟨x, hx⟩ := Nat.gcd_dvd_left a.den b.den
    obtain ⟨y, hy⟩ := Nat.gcd_dvd_right a.den b.den
    unfold mkQ
    rw [hz, Rat.add_def']
    have ex : a.den / Nat.gcd a.den b.den = x := by conv => lhs; lhs; rw [hx]
                                                    exact Nat.mul_div_cancel_left _ hg0
    have ey : b.den / Nat.gcd a.den b.den = y := by conv => lhs; lhs; rw [hy]
                                                    exact Nat.mul_div_cancel_left _ hg0
    rw [ex, ey]
    have hx0 : x ≠ 0 := by rintro rfl; have := a.den_pos; omega
    have e1 : a.num * (b.den : Int) + b.num * (a.den : Int) = (Nat.gcd a.den b.den : Int) * (a.num * (y : Int) + b.num * (x : Int)) := by
      conv => lhs; rw [show (b.den : Int) = (Nat.gcd a.den b.den : Int) * y from by exact_mod_cast hy, show (a.den : Int) = (Nat.gcd a.den b.den : Int) * x from by exact_mod_cast hx]
      grind
    have e2 : a.den * b.den = Nat.gcd a.den b.den * (x * b.den) := by conv => lhs; lhs; rw [hx]
                                                                      rw [Nat.mul_assoc]
    rw [e1, e2, Rat.mkRat_mul_left (by omega)]
  have hl : Nat.gcd z (a.den / Nat.gcd a.den b.den * b.den) = Nat.gcd z (Nat.gcd a.den b.den) := ha.symm
  refine ⟨?_, ?_, ?_⟩
  · rw [hsum, mkQ_abs hd0, hl]
  · rw [hsum, mkQ_den hd0, hl]
    exact Nat.mul_div_assoc _ (Nat.dvd_trans (Nat.gcd_dvd_right _ _) (Nat.gcd_dvd_right _ _))
  · rw [hsum, mkQ_sign hd0, hl]

/-- The product, both ways crosswise made shorter first. -/
theorem Q_times (a b : Rat) : (a * b).num.natAbs = a.num.natAbs / Nat.gcd a.num.natAbs b.den * (b.num.natAbs / Nat.gcd b.num.natAbs a.den) ∧
    (a * b).den = a.den / Nat.gcd b.num.natAbs a.den * (b.den / Nat.gcd a.num.natAbs b.den) ∧
    negQ (a * b) = ((negQ a != negQ b) && a.num.natAbs / Nat.gcd a.num.natAbs b.den * (b.num.natAbs / Nat.gcd b.num.natAbs a.den) != 0) := by
  have h1 : (a * b).num.natAbs = a.num.natAbs / Nat.gcd a.num.natAbs b.den * (b.num.natAbs / Nat.gcd b.num.natAbs a.den) := by
    show (Rat.mul a b).num.natAbs = _
    unfold Rat.mul
    simp only [Int.divExact_eq_tdiv, Int.natAbs_mul, Int.natAbs_tdiv, Int.natAbs_natCast]
    rfl
  refine ⟨h1, ?_, ?_⟩
  · show (Rat.mul a b).den = _
    unfold Rat.mul
    simp [Nat.divExact_eq_div]
  · rw [← h1, Q_mul]
    have hd0 := Nat.mul_ne_zero a.den_nz b.den_nz
    rw [mkQ_sign hd0, mkQ_abs hd0]

/-- One over a number. -/
theorem Q_inv {b : Rat} (hb : b ≠ 0) : negQ b⁻¹ = negQ b ∧ b⁻¹.num.natAbs = b.den ∧ b⁻¹.den = b.num.natAbs := by
  have hbn : b.num ≠ 0 := fun h => hb (Rat.num_eq_zero.1 h)
  have hd := b.den_pos
  refine ⟨?_, ?_, ?_⟩
  · unfold negQ
    rw [Rat.num_inv]
    rcases Int.lt_trichotomy b.num 0 with h | h | h
    · rw [Int.sign_eq_neg_one_of_neg h]; simp; omega
    · exact absurd h hbn
    · rw [Int.sign_eq_one_of_pos h]; simp; omega
  · rw [Rat.num_inv, Int.natAbs_mul, Int.natAbs_sign_of_ne_zero hbn]; simp
  · rw [Rat.den_inv, if_neg hbn]
theorem negQ_neg (q : Rat) : negQ (-q) = (!negQ q && q.num.natAbs != 0) := by
  unfold negQ
  rw [Rat.neg_num]
  rw [Bool.eq_iff_iff]
  by_cases h : q.num < 0
  · simp [h]; omega
  · have h2 : ¬ q.num < 0 := h
    simp only [h2, decide_false, Bool.not_false, Bool.true_and, bne_iff_ne, ne_eq, decide_eq_true_eq]; omega
def absQ (q : Rat) : Rat := if q < 0 then -q else q
theorem absQ_parts (q : Rat) : negQ (absQ q) = false ∧ (absQ q).num.natAbs = q.num.natAbs ∧ (absQ q).den = q.den := by
  unfold absQ
  by_cases h : q < 0
  · have h1 : negQ q = true := by rw [negQ_lt]; simpa using h
    rw [if_pos h, negQ_neg, h1]; simp
  · have h1 : negQ q = false := by rw [negQ_lt]; simpa using h
    rw [if_neg h, h1]; simp

end Go.Proofs.YtcfhajnboamnnaaDoor

namespace Go.Proofs.YtcfhajnboamnnaaDoor
open Go.RowKit
set_option linter.unusedVariables false

/-- A number stays, where a block that holds no limbs is written. -/
theorem Num.keepV {w w' : World} {v : Value} {n g : Nat} {T : TypeId} {cs : List Value} (h : Num w v n) (hb : BlkV w g T cs) (hcs : ∀ c ∈ cs, ∀ x, c ≠ .int .u32 x) (k : Only g w w') : Num w' v n := by
  refine ⟨h.1, ?_⟩
  rcases h.2 with e | ⟨b, off, cap, rfl, hc1, hc2, hc3, hc4⟩
  · exact .inl e
  · refine .inr ⟨b, off, cap, rfl, hc1, hc2, fun i hi => ?_, Nat.lt_of_lt_of_le hc4 k.size⟩
    have hc := hc3 i hi
    by_cases hbg : b = g
    · exfalso
      subst hbg
      unfold BlkV at hb
      simp only [World.cell?, hb] at hc
      have hm : ∃ c ∈ cs, c = .int .u32 (((lim n).getD i 0 : Nat) : Int) := by
        rw [List.getElem?_toArray] at hc
        exact ⟨_, List.mem_of_getElem? hc, rfl⟩
      obtain ⟨c, hm1, hm2⟩ := hm
      exact hcs c hm1 _ hm2
    · exact k.cell hc hbg
theorem RW.keepV {w w' : World} {v : Value} {s : Bool} {m d g : Nat} {T : TypeId} {cs : List Value} (h : RW w v s m d) (hb : BlkV w g T cs) (hcs : ∀ c ∈ cs, ∀ x, c ≠ .int .u32 x) (k : Only g w w') : RW w' v s m d := by
  obtain ⟨a, b, e, h3, h4⟩ := h
  exact ⟨a, b, e, h3.keepV hb hcs k, h4.keepV hb hcs k⟩
theorem RW.drew {w : World} {v : Value} {s : Bool} {m d : Nat} (h : RW w v s m d) : RW w.drew v s m d := h
theorem blen_one_iff (n : Nat) : (blen n == 1) = (n == 1) := by
  by_cases h0 : n = 0
  · subst h0; rfl
  · by_cases h1 : n = 1
    · subst h1; decide +kernel
    · have := blen_le_iff n 1
      have : ¬ blen n ≤ 1 := by rw [this]; omega
      rw [Bool.eq_iff_iff]; simp; omega
theorem blen_zero_iff (n : Nat) : (blen n == 0) = (n == 0) := by
  have := blen_le_iff n 0
  rw [Bool.eq_iff_iff]; simp; omega
theorem cast_beq (a b : Nat) : ((a : Int) == (b : Int)) = (a == b) := by rw [Bool.eq_iff_iff]; simp; omega

end Go.Proofs.YtcfhajnboamnnaaDoor

namespace Go.Proofs.YtcfhajnboamnnaaDoor
open Go.RowKit
set_option linter.unusedVariables false
set_option linter.unusedSimpArgs false

theorem nl_two' {n : Nat} (h : n < 9007199254740992) : nl n ≤ 2 := by
  rw [nl_le_iff]
  exact Nat.lt_trans h (by decide)

set_option maxHeartbeats 4000000 in
set_option maxRecDepth 20000 in
theorem parts3_any {w : World} (f : Nat) (hf : f < 18446744073709551616) : Calls Tryd.prog 54 #[.int .u64 f] w fun e w' => e = .returned (.tuple #[.int .u64 (vsz f : Nat), .int .i64 (vex f)]) ∧ w' = w := by
  have h1 := andNot_sign f hf
  have h2 := and_frac f hf
  have hl := fsz_lt f
  have hm : f % 4503599627370496 < 4503599627370496 := Nat.mod_lt _ (by omega)
  have h3 := or_lead (f % 4503599627370496) hm
  unfold vsz vex
  have h4 : (fsz f : Int) / 4503599627370496 = ((fsz f / 4503599627370496 : Nat) : Int) := by omega
  have h5 : fsz f / 4503599627370496 < 2048 := by omega
  generalize f % 4503599627370496 = m at *
  generalize fsz f / 4503599627370496 = e at *
  have h6 : IntKind.i64.wrap (e : Int) = (e : Int) := by simp [IntKind.wrap, IntKind.bits, IntKind.signed]; omega
  generalize fsz f = z at *
  by_cases c : e = 0
  · subst c
    go_enter Tryd.func54, Tryd.ntmps54
    go_wp2
    go_ret2
    exact ⟨ret_pair rfl rfl, rfl⟩
  · rw [if_neg c, if_neg c]
    have i1 : ((e : Int) == 0) = false := by
      have : (e : Int) ≠ 0 := by omega
      simpa using this
    have w1 : IntKind.i64.wrap ((e : Int) - 1023) = (e : Int) - 1023 := by simp [IntKind.wrap, IntKind.bits, IntKind.signed]; omega
    have w2 : IntKind.i64.wrap ((e : Int) - 1023 - 52) = (e : Int) - 1023 - 52 := by simp [IntKind.wrap, IntKind.bits, IntKind.signed]; omega
    generalize m + 4503599627370496 = m' at *
    clear c
    go_enter Tryd.func54, Tryd.ntmps54
    go_wp2
    go_ret2
    exact ⟨ret_pair rfl (by omega), rfl⟩

set_option maxHeartbeats 4000000 in
set_option maxRecDepth 20000 in
theorem shift3_zero {w : World} (n d : Value) : Calls Tryd.prog 55 #[n, d, .int .i64 0] w fun e w' => e = .returned (.tuple #[n, d]) ∧ w' = w := by
  go_enter Tryd.func55, Tryd.ntmps55
  go_wp2_with fail
  refine wp_loop_rounds 1 ?_
  rw [rounds_succ]
  go_wp2_with fail
  refine wp_loop_rounds 1 ?_
  rw [rounds_succ]
  go_wp2
  go_ret2
  exact ⟨rfl, rfl⟩

set_option maxHeartbeats 4000000 in
set_option maxRecDepth 20000 in
theorem shift3_up {w : World} {n : Value} {N : Nat} (d : Value) (k : Nat) (hk : 0 < k) (hk2 : k ≤ 9000) (hn : Num w n N) (bn : nl N ≤ 100000) : Calls Tryd.prog 55 #[n, d, .int .i64 k] w fun e w' => ∃ v, e = .returned (.tuple #[v, d]) ∧ Num w' v (N * 2 ^ k) ∧ Fwd w w' := by
  have c := refShl_any k hn (by omega) (by omega)
  have m1 : (0 : Int) < (k : Int) := by omega
  have m2 : (k : Int) ≤ 9000 := by omega
  have m3 : ¬ (9000 : Int) < (k : Int) := by omega
  have m4 : IntKind.i64.wrap 0 = 0 := rfl
  obtain ⟨no, nc, rfl, n1, n2, -⟩ := hn.parts
  clear hn
  go_enter Tryd.func55, Tryd.ntmps55
  go_wp2_with fail
  refine wp_loop_rounds 2 ?_
  rw [rounds_succ]
  go_wp2_with fail
  refine c.mono ?_
  rintro e w1 ⟨v, rfl, hv, hf⟩
  clear c
  go_wp2_with fail
  rw [rounds_succ]
  go_wp2_with fail
  refine wp_loop_rounds 1 ?_
  rw [rounds_succ]
  go_wp2
  go_ret2
  exact ⟨v, rfl, hv, hf⟩

set_option maxHeartbeats 4000000 in
set_option maxRecDepth 20000 in
theorem shift3_down {w : World} {d : Value} {D : Nat} (n : Value) (k : Nat) (hk : 0 < k) (hk2 : k ≤ 9000) (hn : Num w d D) (bn : nl D ≤ 100000) : Calls Tryd.prog 55 #[n, d, .int .i64 (-(k : Int))] w fun e w' => ∃ v, e = .returned (.tuple #[n, v]) ∧ Num w' v (D * 2 ^ k) ∧ Fwd w w' := by
  have c := refShl_any k hn (by omega) (by omega)
  have m1 : (0 : Int) < (k : Int) := by omega
  have m2 : (k : Int) ≤ 9000 := by omega
  have m3 : ¬ (9000 : Int) < (k : Int) := by omega
  have m4 : IntKind.i64.wrap 0 = 0 := rfl
  have m5 : ¬ (0 : Int) < -(k : Int) := by omega
  have m6 : -(k : Int) < 0 := by omega
  have m7 : IntKind.i64.wrap (k : Int) = (k : Int) := by simp [IntKind.wrap, IntKind.bits, IntKind.signed]; omega
  have m8 : -(k : Int) + (k : Int) = 0 := by omega
  obtain ⟨no, nc, rfl, n1, n2, -⟩ := hn.parts
  clear hn
  go_enter Tryd.func55, Tryd.ntmps55
  go_wp2_with fail
  refine wp_loop_rounds 1 ?_
  rw [rounds_succ]
  go_wp2_with fail
  refine wp_loop_rounds 2 ?_
  rw [rounds_succ]
  go_wp2_with fail
  refine c.mono ?_
  rintro e w1 ⟨v, rfl, hv, hf⟩
  clear c
  go_wp2_with fail
  rw [rounds_succ]
  go_wp2
  go_ret2
  exact ⟨v, rfl, hv, hf⟩

theorem shift3_any {w : World} {n d : Value} {N D : Nat} (k : Int) (hk1 : -9000 ≤ k) (hk2 : k ≤ 9000) (hn : Num w n N) (hd : Num w d D) (bn : nl N ≤ 100000) (bd : nl D ≤ 100000) :
    Calls Tryd.prog 55 #[n, d, .int .i64 k] w fun e w' => ∃ a b, e = .returned (.tuple #[a, b]) ∧ Num w' a (N * 2 ^ k.toNat) ∧ Num w' b (D * 2 ^ (-k).toNat) ∧ Fwd w w' := by
  by_cases c : k = 0
  · subst c
    refine (shift3_zero n d).mono fun e w' h => ?_
    obtain ⟨rfl, rfl⟩ := h
    exact ⟨n, d, rfl, by simpa using hn, by simpa using hd, Fwd.refl _⟩
  · by_cases p : 0 < k
    · have e1 : ((k.toNat : Nat) : Int) = k := by omega
      have := shift3_up (w := w) d k.toNat (by omega) (by omega) hn bn
      rw [e1] at this
      refine this.mono fun e w' h => ?_
      obtain ⟨v, rfl, hv, hf⟩ := h
      exact ⟨v, d, rfl, hv, by rw [show (-k).toNat = 0 by omega, Nat.pow_zero, Nat.mul_one]; exact hd.fwd hf, hf⟩
    · have e1 : -(((-k).toNat : Nat) : Int) = k := by omega
      have := shift3_down (w := w) n (-k).toNat (by omega) (by omega) hd bd
      rw [e1] at this
      refine this.mono fun e w' h => ?_
      obtain ⟨v, rfl, hv, hf⟩ := h
      exact ⟨n, v, rfl, by rw [show k.toNat = 0 by omega, Nat.pow_zero, Nat.mul_one]; exact hn.fwd hf, hv, hf⟩

theorem lim_one : lim 1 = [1] := by rw [lim_pos (by omega)]; simp [lim_zero]
theorem num_one (w : World) : Num (w.alloc (.cells #[.int .u32 1] 61)) (.slice (some ⟨w.heap.size, 0, none⟩) 1 1) 1 := by
  have h := BlkV.cell (BlkV.made w 61 [.int .u32 1]) 0 rfl
  unfold Num
  rw [lim_one]
  refine ⟨?_, Or.inr ⟨w.heap.size, 0, 1, rfl, by simp, by unfold maxLen; omega, ?_, by simp⟩⟩
  · have := ok_lim 1
    rw [lim_one] at this
    exact this
  · intro i hi
    obtain rfl : i = 0 := by simp at hi; omega
    exact h

set_option maxHeartbeats 4000000 in
set_option maxRecDepth 20000 in
theorem refRat_range {w : World} (f : Nat) (hf : f < 18446744073709551616) (hi : 9218868437227405312 ≤ fsz f) :
    Calls Tryd.prog 17 #[.int .u64 f] w fun e w' => e = .returned (.tuple #[ratZero, .int .i64 10]) ∧ Fwd w w' := by
  have n1 := fun w => none3_any (w := w) f hf
  have n2 := fun w => endless3_any (w := w) f hf
  by_cases c : isNan f = true
  · simp only [c] at n1
    clear n2 c hi
    have kR : BlkV (w.alloc (.cells #[.bool false, .slice none 0 0, .slice none 0 0] 24)) (w.heap.size) 24 [.bool false, .slice none 0 0, .slice none 0 0] := BlkV.made' w (w.heap.size) (by simp) 24 [.bool false, .slice none 0 0, .slice none 0 0]
    have hF : Fwd w (w.alloc (.cells #[.bool false, .slice none 0 0, .slice none 0 0] 24)) := (Fwd.refl w).alloc _
    go_enter Tryd.func17, Tryd.ntmps17
    have rc0 := BlkV.cell kR 0 rfl
    have rz0 := BlkV.frozen kR 0
    have rc1 := BlkV.cell kR 1 rfl
    have rz1 := BlkV.frozen kR 1
    have rc2 := BlkV.cell kR 2 rfl
    have rz2 := BlkV.frozen kR 2
    go_wp2_with fail
    refine (n1 _).mono ?_
    rintro e wq ⟨rfl, rfl⟩
    go_wp2
    refine bodyPost_ret (by simp [results, Tryd.results17, go_sem, rc0, rc1, rc2]; try rfl) rfl ?_
    exact ⟨rfl, hF⟩
  · have c' : isNan f = false := by simpa using c
    have d : fsz f = 9218868437227405312 := by
      have : ¬ 9218868437227405312 < fsz f := fun h => c (decide_eq_true h)
      omega
    simp only [c'] at n1
    simp only [d, decide_true] at n2
    clear c c' d hi
    have kR : BlkV (w.alloc (.cells #[.bool false, .slice none 0 0, .slice none 0 0] 24)) (w.heap.size) 24 [.bool false, .slice none 0 0, .slice none 0 0] := BlkV.made' w (w.heap.size) (by simp) 24 [.bool false, .slice none 0 0, .slice none 0 0]
    have hF : Fwd w (w.alloc (.cells #[.bool false, .slice none 0 0, .slice none 0 0] 24)) := (Fwd.refl w).alloc _
    go_enter Tryd.func17, Tryd.ntmps17
    have rc0 := BlkV.cell kR 0 rfl
    have rz0 := BlkV.frozen kR 0
    have rc1 := BlkV.cell kR 1 rfl
    have rz1 := BlkV.frozen kR 1
    have rc2 := BlkV.cell kR 2 rfl
    have rz2 := BlkV.frozen kR 2
    go_wp2_with fail
    refine (n1 _).mono ?_
    rintro e wq ⟨rfl, rfl⟩
    go_wp2_with fail
    refine (n2 _).mono ?_
    rintro e wq ⟨rfl, rfl⟩
    go_wp2
    refine bodyPost_ret (by simp [results, Tryd.results17, go_sem, rc0, rc1, rc2]; try rfl) rfl ?_
    exact ⟨rfl, hF⟩

theorem nl_ratA' {f : Nat} (h : fsz f < 9218868437227405312) : nl (ratA f) ≤ 1000 := by
  have h1 := nl_two' (vsz_lt f)
  have h2 := nl_shl (vsz f) (vex f).toNat
  have h3 := vex_le h
  have h4 : nl (ratA f) = nl (vsz f * 2 ^ (vex f).toNat) := rfl
  omega
theorem nl_ratB' (f : Nat) : nl (ratB f) ≤ 1000 := by
  have h1 := nl_two' (n := 1) (by decide)
  have h2 := nl_shl 1 (-(vex f)).toNat
  have h3 := vex_ge f
  have h4 : nl (ratB f) = nl (1 * 2 ^ (-(vex f)).toNat) := rfl
  omega

set_option maxHeartbeats 8000000 in
set_option maxRecDepth 20000 in
theorem refRat_any {w : World} (f : Nat) (hf : f < 18446744073709551616) (hi : fsz f < 9218868437227405312) :
    Calls Tryd.prog 17 #[.int .u64 f] w fun e w' => ∃ v, e = .returned (.tuple #[v, .int .i64 0]) ∧ RV w' v (mkQ (fneg f) (ratA f) (ratB f)) ∧ Fwd w w' := by
  have n1 := fun w => none3_any (w := w) f hf
  have n2 := fun w => endless3_any (w := w) f hf
  have c1 : isNan f = false := decide_eq_false (by omega)
  have c2 : decide (fsz f = 9218868437227405312) = false := decide_eq_false (by omega)
  simp only [c1] at n1
  simp only [c2] at n2
  have cp := fun w => parts3_any (w := w) f hf
  have cm := fun w => minus3_any (w := w) f hf
  have b1 := nl_ratA' hi
  have b2 := nl_ratB' f
  have hB0 := ratB_pos f
  have co := fun (w : World) => refOf_any w (vsz f) (by have := vsz_lt f; omega)
  have x1 := vex_ge f
  have x2 := vex_le hi
  have hs : ∀ (w : World) (n d : Value), Num w n (vsz f) → Num w d 1 → Calls Tryd.prog 55 #[n, d, .int .i64 (vex f)] w fun e w' => ∃ a b, e = .returned (.tuple #[a, b]) ∧ Num w' a (ratA f) ∧ Num w' b (ratB f) ∧ Fwd w w' :=
    fun w n d hn hd => shift3_any (vex f) (by omega) (by omega) hn hd (by have := nl_two' (vsz_lt f); omega) (by have := nl_two' (n := 1) (by decide); omega)
  clear c1 c2 x1 x2 hi
  generalize ratA f = A at *
  generalize ratB f = B at *
  generalize vex f = x at *
  generalize vsz f = m at *
  generalize fneg f = s at *
  have kR : BlkV (w.alloc (.cells #[.bool false, .slice none 0 0, .slice none 0 0] 24)) (w.heap.size) 24 [.bool false, .slice none 0 0, .slice none 0 0] := BlkV.made' w (w.heap.size) (by simp) 24 [.bool false, .slice none 0 0, .slice none 0 0]
  have hF : Fwd w (w.alloc (.cells #[.bool false, .slice none 0 0, .slice none 0 0] 24)) := (Fwd.refl w).alloc _
  go_enter Tryd.func17, Tryd.ntmps17
  have rc0 := BlkV.cell kR 0 rfl
  have rz0 := BlkV.frozen kR 0
  have rc1 := BlkV.cell kR 1 rfl
  have rz1 := BlkV.frozen kR 1
  have rc2 := BlkV.cell kR 2 rfl
  have rz2 := BlkV.frozen kR 2
  go_wp2_with fail
  refine (n1 _).mono ?_
  rintro e wq ⟨rfl, rfl⟩
  go_wp2_with fail
  refine (n2 _).mono ?_
  rintro e wq ⟨rfl, rfl⟩
  go_wp2_with fail
  refine (cp _).mono ?_
  rintro e wq ⟨rfl, rfl⟩
  go_wp2_with fail
  refine (co _).mono ?_
  rintro e w1 ⟨xa, rfl, ha, hf1⟩
  replace kR := kR.fwd hf1
  replace hF := hF.trans hf1
  clear hf1
  clear rc0 rz0 rc1 rz1 rc2 rz2
  have rc0 := BlkV.cell kR 0 rfl
  have rz0 := BlkV.frozen kR 0
  have rc1 := BlkV.cell kR 1 rfl
  have rz1 := BlkV.frozen kR 1
  have rc2 := BlkV.cell kR 2 rfl
  have rz2 := BlkV.frozen kR 2
  have hfB : Fwd w1 (w1.alloc (.cells #[.int .u32 1] 61)) := (Fwd.refl _).alloc _
  replace ha := ha.fwd hfB
  replace kR := kR.fwd hfB
  replace hF := hF.trans hfB
  have h1 := num_one w1
  clear hfB
  go_wp2_with fail
  refine (hs _ _ _ ha h1).mono ?_
  rintro e w2 ⟨yA, yB, rfl, hA, hB, hf2⟩
  clear ha h1
  replace kR := kR.fwd hf2
  replace hF := hF.trans hf2
  clear hf2
  clear rc0 rz0 rc1 rz1 rc2 rz2
  have rc0 := BlkV.cell kR 0 rfl
  have rz0 := BlkV.frozen kR 0
  have rc1 := BlkV.cell kR 1 rfl
  have rz1 := BlkV.frozen kR 1
  have rc2 := BlkV.cell kR 2 rfl
  have rz2 := BlkV.frozen kR 2
  go_wp2_with fail
  refine (cm _).mono ?_
  rintro e wq ⟨rfl, rfl⟩
  go_wp2_with fail
  refine (make2_any s hA hB (by omega) (by omega) hB0).mono ?_
  rintro e w3 ⟨xr, rfl, hv, hf3⟩
  obtain ⟨po, pc, qo, qc, rfl, p1, p2, p3, p4, -, -⟩ := RW.open hv
  replace kR := kR.fwd hf3
  replace hF := hF.trans hf3
  clear hf3
  clear rc0 rz0 rc1 rz1 rc2 rz2
  have rc0 := BlkV.cell kR 0 rfl
  have rz0 := BlkV.frozen kR 0
  have rc1 := BlkV.cell kR 1 rfl
  have rz1 := BlkV.frozen kR 1
  have rc2 := BlkV.cell kR 2 rfl
  have rz2 := BlkV.frozen kR 2
  generalize hQ : mkQ s A B = Q at *
  have HQ := hid hQ
  clear hQ hA hB co hs n1 n2 cp cm
  have HV := hid hv
  clear hv
  go_wp2
  have r0 := BlkV.set kR 0 (.bool (negQ Q))
  have rs0 := BlkV.cell r0 0 rfl
  have r1 := BlkV.set r0 1 (.slice po (nl Q.num.natAbs) pc)
  have rs1 := BlkV.cell r1 1 rfl
  have r2 := BlkV.set r1 2 (.slice qo (nl Q.den) qc)
  have rs2 := BlkV.cell r2 2 rfl
  have hon := ((Only.set (w.heap.size) w3 0 (.bool (negQ Q))).setv 1 (.slice po (nl Q.num.natAbs) pc)).setv 2 (.slice qo (nl Q.den) qc)
  refine bodyPost_ret (by simp [results, Tryd.results17, go_sem, rs0, rs1, rs2]; try rfl) rfl ?_
  exact ⟨_, rfl, (by rw [HQ.out]; exact HV.out.keepV kR (by simp) hon), hF.wrote hon (by omega)⟩
end Go.Proofs.YtcfhajnboamnnaaDoor
