/- Plain mathematics of rational numbers as the program reckons with them: lowest terms found without the long products. -/
/- The program's rational numbers: isNought, isOne, signed, over, Make, size, Of. -/
import Derived.Test.YtcfhajnboamnnaaGreatDoorKI
import Derived.Test.YtcfhajnboamnnaaGreatDoorKH
namespace Go.Proofs.YtcfhajnboamnnaaGreatDoor

theorem mkQ_sign {s : Bool} {n d : Nat} (hd : d ≠ 0) : negQ (mkQ s n d) = (s && n / Nat.gcd n d != 0) := by
  unfold negQ
  rw [mkQ_num hd]
  generalize n / Nat.gcd n d = k
  rw [Bool.eq_iff_iff]
  cases s <;> simp [sgQ] <;> omega

/-- The sign and the size of a sum. -/
def plusS (s : Bool) (m : Nat) (t : Bool) (n : Nat) : Bool := if s = t then s else if m < n then t else s
def plusN (s : Bool) (m : Nat) (t : Bool) (n : Nat) : Nat := if s = t then m + n else if m < n then n - m else m - n
theorem plus_sgn (s : Bool) (m : Nat) (t : Bool) (n : Nat) : sgQ (plusS s m t n) (plusN s m t n) = sgQ s m + sgQ t n := by
  unfold plusS plusN
  by_cases h : m < n <;> cases s <;> cases t <;> simp [sgQ, h] <;> omega

/-- The sum, its lowest terms found by what both denominators share. -/
theorem Q_sum (a b : Rat) (s : Bool) (z : Nat) (hz : sgQ s z = a.num * ((b.den / Nat.gcd a.den b.den : Nat) : Int) + b.num * ((a.den / Nat.gcd a.den b.den : Nat) : Int)) :
    (a + b).num.natAbs = z / Nat.gcd z (Nat.gcd a.den b.den) ∧ (a + b).den = a.den / Nat.gcd a.den b.den * (b.den / Nat.gcd z (Nat.gcd a.den b.den)) ∧ negQ (a + b) = (s && z / Nat.gcd z (Nat.gcd a.den b.den) != 0) := by
  have hg0 : 0 < Nat.gcd a.den b.den := Nat.gcd_pos_of_pos_left _ a.den_pos
  have ha := Rat.add.aux a b rfl rfl rfl
  have hzn : (a.num * ((b.den / Nat.gcd a.den b.den : Nat) : Int) + b.num * ((a.den / Nat.gcd a.den b.den : Nat) : Int)).natAbs = z := by rw [← hz, sgQ_natAbs]
  simp only [hzn] at ha
  have hd0 : a.den / Nat.gcd a.den b.den * b.den ≠ 0 := Nat.mul_ne_zero (by have := Nat.div_pos (Nat.le_of_dvd a.den_pos (Nat.gcd_dvd_left a.den b.den)) hg0; omega) b.den_nz
  have hsum : a + b = mkQ s z (a.den / Nat.gcd a.den b.den * b.den) := by
    obtain ⟨x, hx⟩ := Nat.gcd_dvd_left a.den b.den
    obtain ⟨y, hy⟩ := Nat.gcd_dvd_right a.den b.den
    unfold mkQ
    rw [hz, Rat.add_def']
    have ex : a.den / Nat.gcd a.den b.den = x := by conv => lhs; lhs; rw [hx]
                                                    exact Nat.mul_div_cancel_left _ hg0
    have ey : b.den / Nat.gcd a.den b.den = y := by conv => lhs; lhs; rw [hy]
                                                    exact Nat.mul_div_cancel_left _ hg0
    rw [ex, ey]
    have hx0 : x ≠ 0 := by rintro rfl; have := a.den_pos; omega
    have e1 : a.num * (b.den : Int) + b.num * (a.den : Int) = (Nat.gcd a.den b.den : Int) * (a.num * (y : Int) + b.num * (x : Int)) := by
      conv => lhs; rw [show (b.den : Int) = (Nat.gcd a.den b.den : Int) * y from by exact_mod_cast hy, show (a.den : Int) = (Nat.gcd a.den b.den : Int) * x from by exact_mod_cast hx]
      grind
    have e2 : a.den * b.den = Nat.gcd a.den b.den * (x * b.den) := by conv => lhs; lhs; rw [hx]
                                                                      rw [Nat.mul_assoc]
    rw [e1, e2, Rat.mkRat_mul_left (by omega)]
  have hl : Nat.gcd z (a.den / Nat.gcd a.den b.den * b.den) = Nat.gcd z (Nat.gcd a.den b.den) := ha.symm
  refine ⟨?_, ?_, ?_⟩
  · rw [hsum, mkQ_abs hd0, hl]
  · rw [hsum, mkQ_den hd0, hl]
    exact Nat.mul_div_assoc _ (Nat.dvd_trans (Nat.gcd_dvd_right _ _) (Nat.gcd_dvd_right _ _))
  · rw [hsum, mkQ_sign hd0, hl]

/-- The product, both ways crosswise made shorter first. -/
theorem Q_times (a b : Rat) : (a * b).num.natAbs = a.num.natAbs / Nat.gcd a.num.natAbs b.den * (b.num.natAbs / Nat.gcd b.num.natAbs a.den) ∧
    (a * b).den = a.den / Nat.gcd b.num.natAbs a.den * (b.den / Nat.gcd a.num.natAbs b.den) ∧
    negQ (a * b) = ((negQ a != negQ b) && a.num.natAbs / Nat.gcd a.num.natAbs b.den * (b.num.natAbs / Nat.gcd b.num.natAbs a.den) != 0) := by
  have h1 : (a * b).num.natAbs = a.num.natAbs / Nat.gcd a.num.natAbs b.den * (b.num.natAbs / Nat.gcd b.num.natAbs a.den) := by
    show (Rat.mul a b).num.natAbs = _
    unfold Rat.mul
    simp only [Int.divExact_eq_tdiv, Int.natAbs_mul, Int.natAbs_tdiv, Int.natAbs_natCast]
    rfl
  refine ⟨h1, ?_, ?_⟩
  · show (Rat.mul a b).den = _
    unfold Rat.mul
    simp [Nat.divExact_eq_div]
  · rw [← h1, Q_mul]
    have hd0 := Nat.mul_ne_zero a.den_nz b.den_nz
    rw [mkQ_sign hd0, mkQ_abs hd0]

/-- One over a number. -/
theorem Q_inv {b : Rat} (hb : b ≠ 0) : negQ b⁻¹ = negQ b ∧ b⁻¹.num.natAbs = b.den ∧ b⁻¹.den = b.num.natAbs := by
  have hbn : b.num ≠ 0 := fun h => hb (Rat.num_eq_zero.1 h)
  have hd := b.den_pos
  refine ⟨?_, ?_, ?_⟩
  · unfold negQ
    rw [Rat.num_inv]
    rcases Int.lt_trichotomy b.num 0 with h | h | h
    · rw [Int.sign_eq_neg_one_of_neg h]; simp; omega
    · exact absurd h hbn
    · rw [Int.sign_eq_one_of_pos h]; simp; omega
  · rw [Rat.num_inv, Int.natAbs_mul, Int.natAbs_sign_of_ne_zero hbn]; simp
  · rw [Rat.den_inv, if_neg hbn]
theorem negQ_neg (q : Rat) : negQ (-q) = (!negQ q && q.num.natAbs != 0) := by
  unfold negQ
  rw [Rat.neg_num]
  rw [Bool.eq_iff_iff]
  by_cases h : q.num < 0
  · simp [h]; omega
  · have h2 : ¬ q.num < 0 := h
    simp only [h2, decide_false, Bool.not_false, Bool.true_and, bne_iff_ne, ne_eq, decide_eq_true_eq]; omega
def absQ (q : Rat) : Rat := if q < 0 then -q else q
theorem absQ_parts (q : Rat) : negQ (absQ q) = false ∧ (absQ q).num.natAbs = q.num.natAbs ∧ (absQ q).den = q.den := by
  unfold absQ
  by_cases h : q < 0
  · have h1 : negQ q = true := by rw [negQ_lt]; simpa using h
    rw [if_pos h, negQ_neg, h1]; simp
  · have h1 : negQ q = false := by rw [negQ_lt]; simpa using h
    rw [if_neg h, h1]; simp

end Go.Proofs.YtcfhajnboamnnaaGreatDoor

namespace Go.Proofs.YtcfhajnboamnnaaGreatDoor
open Go.RowKit
set_option linter.unusedVariables false

/-- A number stays, where a block that holds no limbs is written. -/
theorem Num.keepV {w w' : World} {v : Value} {n g : Nat} {T : TypeId} {cs : List Value} (h : Num w v n) (hb : BlkV w g T cs) (hcs : ∀ c ∈ cs, ∀ x, c ≠ .int .u32 x) (k : Only g w w') : Num w' v n := by
  refine ⟨h.1, ?_⟩
  rcases h.2 with e | ⟨b, off, cap, rfl, hc1, hc2, hc3, hc4⟩
  · exact .inl e
  · refine .inr ⟨b, off, cap, rfl, hc1, hc2, fun i hi => ?_, Nat.lt_of_lt_of_le hc4 k.size⟩
    have hc := hc3 i hi
    by_cases hbg : b = g
    · exfalso
      subst hbg
      unfold BlkV at hb
      simp only [World.cell?, hb] at hc
      have hm : ∃ c ∈ cs, c = .int .u32 (((lim n).getD i 0 : Nat) : Int) := by
        rw [List.getElem?_toArray] at hc
        exact ⟨_, List.mem_of_getElem? hc, rfl⟩
      obtain ⟨c, hm1, hm2⟩ := hm
      exact hcs c hm1 _ hm2
    · exact k.cell hc hbg
theorem RW.keepV {w w' : World} {v : Value} {s : Bool} {m d g : Nat} {T : TypeId} {cs : List Value} (h : RW w v s m d) (hb : BlkV w g T cs) (hcs : ∀ c ∈ cs, ∀ x, c ≠ .int .u32 x) (k : Only g w w') : RW w' v s m d := by
  obtain ⟨a, b, e, h3, h4⟩ := h
  exact ⟨a, b, e, h3.keepV hb hcs k, h4.keepV hb hcs k⟩
theorem RW.drew {w : World} {v : Value} {s : Bool} {m d : Nat} (h : RW w v s m d) : RW w.drew v s m d := h
theorem blen_one_iff (n : Nat) : (blen n == 1) = (n == 1) := by
  by_cases h0 : n = 0
  · subst h0; rfl
  · by_cases h1 : n = 1
    · subst h1; decide +kernel
    · have := blen_le_iff n 1
      have : ¬ blen n ≤ 1 := by rw [this]; omega
      rw [Bool.eq_iff_iff]; simp; omega
theorem blen_zero_iff (n : Nat) : (blen n == 0) = (n == 0) := by
  have := blen_le_iff n 0
  rw [Bool.eq_iff_iff]; simp; omega
theorem cast_beq (a b : Nat) : ((a : Int) == (b : Int)) = (a == b) := by rw [Bool.eq_iff_iff]; simp; omega

set_option maxHeartbeats 4000000 in
set_option maxRecDepth 20000 in
theorem isNought_any {w : World} {a : Value} {n : Nat} (ha : Num w a n) (hn : nl n ≤ 1000000) :
    Calls Tryz.prog 71 #[a] w fun e w' => e = .returned (.bool (n == 0)) ∧ Fwd w w' := by
  have e0 : ((blen n : Int) == 0) = (n == 0) := by rw [show (0 : Int) = ((0 : Nat) : Int) from rfl, cast_beq, blen_zero_iff]
  have E0 := hid e0
  clear e0
  go_enter Tryz.func71, Tryz.ntmps71
  go_wp2_with fail
  refine (bits_any ha (by omega)).mono ?_
  rintro e w1 ⟨rfl, hf⟩
  have h0 := blen_nl n
  go_wp2_with fail
  go_ret
  exact ⟨by rw [E0.out]; rfl, hf⟩

set_option maxHeartbeats 4000000 in
set_option maxRecDepth 20000 in
theorem signed_raw {w : World} {n d : Value} {N D : Nat} (s : Bool) (hn : Num w n N) (hd : Num w d D) (hN : nl N ≤ 1000000) :
    Calls Tryz.prog 73 #[.bool s, n, d] w fun e w' => ∃ v, e = .returned v ∧ RW w' v (s && !(N == 0)) N D ∧ Fwd w w' := by
  obtain ⟨no, nc, rfl, n1, n2, _⟩ := hn.parts
  obtain ⟨do', dc, rfl, d1, d2, _⟩ := hd.parts
  unfold maxLen at n2 d2
  cases s
  · go_enter Tryz.func73, Tryz.ntmps73
    go_wp2_with fail
    have hf := (Fwd.refl w).alloc (.cells #[.bool false, .slice no (nl N) nc, .slice do' (nl D) dc] 24)
    refine bodyPost_ret (by simp [results, Tryz.results73, go_sem]; try rfl) rfl ?_
    exact ⟨_, rfl, ⟨_, _, rfl, hn.fwd hf, hd.fwd hf⟩, hf⟩
  · have kR : BlkV (w.alloc (.cells #[.bool false, .slice none 0 0, .slice none 0 0] 24)) (w.heap.size) 24 [.bool false, .slice none 0 0, .slice none 0 0] := BlkV.made' w (w.heap.size) (by simp) 24 [.bool false, .slice none 0 0, .slice none 0 0]
    have hF : Fwd w (w.alloc (.cells #[.bool false, .slice none 0 0, .slice none 0 0] 24)) := (Fwd.refl w).alloc _
    replace hn := hn.fwd hF
    replace hd := hd.fwd hF
    go_enter Tryz.func73, Tryz.ntmps73
    have rc0 := BlkV.cell kR 0 rfl
    have rz0 := BlkV.frozen kR 0
    have rc1 := BlkV.cell kR 1 rfl
    have rz1 := BlkV.frozen kR 1
    have rc2 := BlkV.cell kR 2 rfl
    have rz2 := BlkV.frozen kR 2
    go_wp2_with fail
    refine (isNought_any hn (by omega)).mono ?_
    rintro e w1 ⟨rfl, hf1⟩
    replace hn := hn.fwd hf1
    replace hd := hd.fwd hf1
    replace kR := kR.fwd hf1
    replace hF := hF.trans hf1
    clear hf1
    clear rc0 rz0 rc1 rz1 rc2 rz2
    have rc0 := BlkV.cell kR 0 rfl
    have rz0 := BlkV.frozen kR 0
    have rc1 := BlkV.cell kR 1 rfl
    have rz1 := BlkV.frozen kR 1
    have rc2 := BlkV.cell kR 2 rfl
    have rz2 := BlkV.frozen kR 2
    generalize hz0 : (N == 0) = z
    have HZ := hid hz0
    clear hz0
    go_wp2_with (with_reducible refine stop_here ?_)
    refine ⟨?_⟩
    have hz : BlkV (((w1.setCell ⟨w.heap.size, 0, none⟩ (.bool (!z))).setCell ⟨w.heap.size, 1, none⟩ (.slice no (nl N) nc)).setCell ⟨w.heap.size, 2, none⟩ (.slice do' (nl D) dc)) (w.heap.size) 24 [.bool (!z), .slice no (nl N) nc, .slice do' (nl D) dc] := ((BlkV.set kR 0 (.bool (!z))).set 1 (.slice no (nl N) nc)).set 2 (.slice do' (nl D) dc)
    have hon : Only (w.heap.size) w1 (((w1.setCell ⟨w.heap.size, 0, none⟩ (.bool (!z))).setCell ⟨w.heap.size, 1, none⟩ (.slice no (nl N) nc)).setCell ⟨w.heap.size, 2, none⟩ (.slice do' (nl D) dc)) := ((Only.set (w.heap.size) w1 0 (.bool (!z))).setv 1 (.slice no (nl N) nc)).setv 2 (.slice do' (nl D) dc)
    replace hn := hn.keepV kR (by simp) hon
    replace hd := hd.keepV kR (by simp) hon
    replace hF := hF.wrote hon (by omega)
    clear kR
    have kR := hz
    clear hz hon
    generalize (((w1.setCell ⟨w.heap.size, 0, none⟩ (.bool (!z))).setCell ⟨w.heap.size, 1, none⟩ (.slice no (nl N) nc)).setCell ⟨w.heap.size, 2, none⟩ (.slice do' (nl D) dc)) = w2 at hn hd kR hF ⊢
    clear rc0 rz0 rc1 rz1 rc2 rz2
    have rc0 := BlkV.cell kR 0 rfl
    have rz0 := BlkV.frozen kR 0
    have rc1 := BlkV.cell kR 1 rfl
    have rz1 := BlkV.frozen kR 1
    have rc2 := BlkV.cell kR 2 rfl
    have rz2 := BlkV.frozen kR 2
    refine bodyPost_ret (by simp [results, Tryz.results73, go_sem, rc0, rc1, rc2]; try rfl) rfl ?_
    refine ⟨_, rfl, ?_, hF⟩
    rw [HZ.out]
    exact ⟨_, _, rfl, hn, hd⟩

set_option maxHeartbeats 4000000 in
set_option maxRecDepth 20000 in
theorem rover_any {w : World} {a b : Value} {m n : Nat} (ha : Num w a m) (hb : Num w b n) (hm : nl m ≤ 1000000) (hn : nl n ≤ 1000000) (hn0 : n ≠ 0) :
    Calls Tryz.prog 74 #[a, b] w fun e w' => ∃ v, e = .returned v ∧ Num w' v (m / n) ∧ Fwd w w' := by
  go_enter Tryz.func74, Tryz.ntmps74
  go_wp2_with fail
  refine (div_any ha hb (by omega) (by omega) hn0).mono ?_
  rintro e w1 ⟨q, r, rfl, hq, hr, hf⟩
  go_wp2_with fail
  go_ret
  exact ⟨_, rfl, hq, hf⟩

set_option maxHeartbeats 4000000 in
set_option maxRecDepth 20000 in
theorem rmake_any {w : World} {n d : Value} {N D : Nat} (s : Bool) (hn : Num w n N) (hd : Num w d D) (hN : nl N ≤ 100000) (hD : nl D ≤ 100000) (hD0 : D ≠ 0) :
    Calls Tryz.prog 45 #[.bool s, n, d] w fun e w' => ∃ v, e = .returned (.tuple #[v, .int .i64 0]) ∧ RV w' v (mkQ s N D) ∧ Fwd w w' := by
  have hg0 : Nat.gcd N D ≠ 0 := fun e => hD0 (Nat.eq_zero_of_gcd_eq_zero_right e)
  have bg := nl_gcd N D
  have b1 := nl_div N (Nat.gcd N D)
  have b2 := nl_div D (Nat.gcd N D)
  have HQ : Hid (negQ (mkQ s N D) = (s && !(N / Nat.gcd N D == 0)) ∧ (mkQ s N D).num.natAbs = N / Nat.gcd N D ∧ (mkQ s N D).den = D / Nat.gcd N D) := hid ⟨mkQ_sign hD0, mkQ_abs hD0, mkQ_den hD0⟩
  have hD1 : (D == 0) = false := by simpa using hD0
  have HG0 := hid hg0
  clear hg0 hD0
  have kR : BlkV (w.alloc (.cells #[.bool false, .slice none 0 0, .slice none 0 0] 24)) (w.heap.size) 24 [.bool false, .slice none 0 0, .slice none 0 0] := BlkV.made' w (w.heap.size) (by simp) 24 [.bool false, .slice none 0 0, .slice none 0 0]
  have hF : Fwd w (w.alloc (.cells #[.bool false, .slice none 0 0, .slice none 0 0] 24)) := (Fwd.refl w).alloc _
  replace hn := hn.fwd hF
  replace hd := hd.fwd hF
  go_enter Tryz.func45, Tryz.ntmps45
  have rc0 := BlkV.cell kR 0 rfl
  have rz0 := BlkV.frozen kR 0
  have rc1 := BlkV.cell kR 1 rfl
  have rz1 := BlkV.frozen kR 1
  have rc2 := BlkV.cell kR 2 rfl
  have rz2 := BlkV.frozen kR 2
  go_wp2_with fail
  refine (isNought_any hd (by omega)).mono ?_
  rintro e w1 ⟨rfl, hf1⟩
  replace hn := hn.fwd hf1
  replace hd := hd.fwd hf1
  replace kR := kR.fwd hf1
  replace hF := hF.trans hf1
  clear hf1
  clear rc0 rz0 rc1 rz1 rc2 rz2
  have rc0 := BlkV.cell kR 0 rfl
  have rz0 := BlkV.frozen kR 0
  have rc1 := BlkV.cell kR 1 rfl
  have rz1 := BlkV.frozen kR 1
  have rc2 := BlkV.cell kR 2 rfl
  have rz2 := BlkV.frozen kR 2
  go_wp2_with fail
  refine (gcd_any hn hd (by omega) (by omega)).mono ?_
  rintro e w2 ⟨vg, rfl, hg, hf2⟩
  replace hn := hn.fwd hf2
  replace hd := hd.fwd hf2
  replace kR := kR.fwd hf2
  replace hF := hF.trans hf2
  clear hf2
  clear rc0 rz0 rc1 rz1 rc2 rz2
  have rc0 := BlkV.cell kR 0 rfl
  have rz0 := BlkV.frozen kR 0
  have rc1 := BlkV.cell kR 1 rfl
  have rz1 := BlkV.frozen kR 1
  have rc2 := BlkV.cell kR 2 rfl
  have rz2 := BlkV.frozen kR 2
  go_wp2_with fail
  refine (rover_any hn hg (by omega) (by omega) HG0.out).mono ?_
  rintro e w3 ⟨vp, rfl, hp, hf3⟩
  replace hn := hn.fwd hf3
  replace hd := hd.fwd hf3
  replace hg := hg.fwd hf3
  replace kR := kR.fwd hf3
  replace hF := hF.trans hf3
  clear hf3
  clear rc0 rz0 rc1 rz1 rc2 rz2
  have rc0 := BlkV.cell kR 0 rfl
  have rz0 := BlkV.frozen kR 0
  have rc1 := BlkV.cell kR 1 rfl
  have rz1 := BlkV.frozen kR 1
  have rc2 := BlkV.cell kR 2 rfl
  have rz2 := BlkV.frozen kR 2
  go_wp2_with fail
  refine (rover_any hd hg (by omega) (by omega) HG0.out).mono ?_
  rintro e w4 ⟨vq, rfl, hq, hf4⟩
  replace hn := hn.fwd hf4
  replace hd := hd.fwd hf4
  replace hg := hg.fwd hf4
  replace hp := hp.fwd hf4
  replace kR := kR.fwd hf4
  replace hF := hF.trans hf4
  clear hf4
  clear rc0 rz0 rc1 rz1 rc2 rz2
  have rc0 := BlkV.cell kR 0 rfl
  have rz0 := BlkV.frozen kR 0
  have rc1 := BlkV.cell kR 1 rfl
  have rz1 := BlkV.frozen kR 1
  have rc2 := BlkV.cell kR 2 rfl
  have rz2 := BlkV.frozen kR 2
  go_wp2_with fail
  refine (signed_raw s hp hq (by omega)).mono ?_
  rintro e w5 ⟨v, rfl, hv, hf5⟩
  replace hn := hn.fwd hf5
  replace hd := hd.fwd hf5
  replace hg := hg.fwd hf5
  replace hp := hp.fwd hf5
  replace hq := hq.fwd hf5
  replace kR := kR.fwd hf5
  replace hF := hF.trans hf5
  clear hf5
  clear rc0 rz0 rc1 rz1 rc2 rz2
  have rc0 := BlkV.cell kR 0 rfl
  have rz0 := BlkV.frozen kR 0
  have rc1 := BlkV.cell kR 1 rfl
  have rz1 := BlkV.frozen kR 1
  have rc2 := BlkV.cell kR 2 rfl
  have rz2 := BlkV.frozen kR 2
  have HV := hid hv
  obtain ⟨xo, xc, yo, yc, rfl, x1, x2, x3, x4, xN, xD⟩ := RW.open hv
  clear hv xN xD hp hq hg hn hd
  have hv := HV.out
  clear HV
  generalize hsq : (s && !(N / Nat.gcd N D == 0)) = sq at hv ⊢
  have HSQ := hid hsq
  clear hsq
  go_wp2_with (with_reducible refine stop_here ?_)
  refine ⟨?_⟩
  have hz : BlkV (((w5.setCell ⟨w.heap.size, 0, none⟩ (.bool sq)).setCell ⟨w.heap.size, 1, none⟩ (.slice xo (nl (N / Nat.gcd N D)) xc)).setCell ⟨w.heap.size, 2, none⟩ (.slice yo (nl (D / Nat.gcd N D)) yc)) (w.heap.size) 24 [.bool sq, .slice xo (nl (N / Nat.gcd N D)) xc, .slice yo (nl (D / Nat.gcd N D)) yc] := ((BlkV.set kR 0 (.bool sq)).set 1 (.slice xo (nl (N / Nat.gcd N D)) xc)).set 2 (.slice yo (nl (D / Nat.gcd N D)) yc)
  have hon : Only (w.heap.size) w5 (((w5.setCell ⟨w.heap.size, 0, none⟩ (.bool sq)).setCell ⟨w.heap.size, 1, none⟩ (.slice xo (nl (N / Nat.gcd N D)) xc)).setCell ⟨w.heap.size, 2, none⟩ (.slice yo (nl (D / Nat.gcd N D)) yc)) := ((Only.set (w.heap.size) w5 0 (.bool sq)).setv 1 (.slice xo (nl (N / Nat.gcd N D)) xc)).setv 2 (.slice yo (nl (D / Nat.gcd N D)) yc)
  replace hv := hv.keepV kR (by simp) hon
  replace hF := hF.wrote hon (by omega)
  clear kR
  have kR := hz
  clear hz hon
  generalize (((w5.setCell ⟨w.heap.size, 0, none⟩ (.bool sq)).setCell ⟨w.heap.size, 1, none⟩ (.slice xo (nl (N / Nat.gcd N D)) xc)).setCell ⟨w.heap.size, 2, none⟩ (.slice yo (nl (D / Nat.gcd N D)) yc)) = w6 at hv kR hF ⊢
  clear rc0 rz0 rc1 rz1 rc2 rz2
  have rc0 := BlkV.cell kR 0 rfl
  have rz0 := BlkV.frozen kR 0
  have rc1 := BlkV.cell kR 1 rfl
  have rz1 := BlkV.frozen kR 1
  have rc2 := BlkV.cell kR 2 rfl
  have rz2 := BlkV.frozen kR 2
  refine bodyPost_ret (by simp [results, Tryz.results45, go_sem, rc0, rc1, rc2]; try rfl) rfl ?_
  refine ⟨_, rfl, ?_, hF⟩
  unfold RV
  rw [HQ.out.1, HQ.out.2.1, HQ.out.2.2, HSQ.out]
  exact hv

set_option maxHeartbeats 4000000 in
set_option maxRecDepth 20000 in
theorem rmake_zero {w : World} {n d : Value} {N : Nat} (s : Bool) (hn : Num w n N) (hd : Num w d 0) :
    Calls Tryz.prog 45 #[.bool s, n, d] w fun e w' => e = .returned (.tuple #[ratZero, .int .i64 5]) ∧ Fwd w w' := by
  have bz : nl 0 ≤ 0 := by rw [nl_zero]; omega
  have kR : BlkV (w.alloc (.cells #[.bool false, .slice none 0 0, .slice none 0 0] 24)) (w.heap.size) 24 [.bool false, .slice none 0 0, .slice none 0 0] := BlkV.made' w (w.heap.size) (by simp) 24 [.bool false, .slice none 0 0, .slice none 0 0]
  have hF : Fwd w (w.alloc (.cells #[.bool false, .slice none 0 0, .slice none 0 0] 24)) := (Fwd.refl w).alloc _
  replace hn := hn.fwd hF
  replace hd := hd.fwd hF
  go_enter Tryz.func45, Tryz.ntmps45
  have rc0 := BlkV.cell kR 0 rfl
  have rz0 := BlkV.frozen kR 0
  have rc1 := BlkV.cell kR 1 rfl
  have rz1 := BlkV.frozen kR 1
  have rc2 := BlkV.cell kR 2 rfl
  have rz2 := BlkV.frozen kR 2
  go_wp2_with fail
  refine (isNought_any hd (by omega)).mono ?_
  rintro e w1 ⟨rfl, hf1⟩
  replace hn := hn.fwd hf1
  replace hd := hd.fwd hf1
  replace kR := kR.fwd hf1
  replace hF := hF.trans hf1
  clear hf1
  clear rc0 rz0 rc1 rz1 rc2 rz2
  have rc0 := BlkV.cell kR 0 rfl
  have rz0 := BlkV.frozen kR 0
  have rc1 := BlkV.cell kR 1 rfl
  have rz1 := BlkV.frozen kR 1
  have rc2 := BlkV.cell kR 2 rfl
  have rz2 := BlkV.frozen kR 2
  go_wp2_with (with_reducible refine stop_here ?_)
  refine ⟨?_⟩
  have hz : BlkV (((w1.setCell ⟨w.heap.size, 0, none⟩ (.bool false)).setCell ⟨w.heap.size, 1, none⟩ (.slice none 0 0)).setCell ⟨w.heap.size, 2, none⟩ (.slice none 0 0)) (w.heap.size) 24 [.bool false, .slice none 0 0, .slice none 0 0] := ((BlkV.set kR 0 (.bool false)).set 1 (.slice none 0 0)).set 2 (.slice none 0 0)
  have hon : Only (w.heap.size) w1 (((w1.setCell ⟨w.heap.size, 0, none⟩ (.bool false)).setCell ⟨w.heap.size, 1, none⟩ (.slice none 0 0)).setCell ⟨w.heap.size, 2, none⟩ (.slice none 0 0)) := ((Only.set (w.heap.size) w1 0 (.bool false)).setv 1 (.slice none 0 0)).setv 2 (.slice none 0 0)
  replace hn := hn.keepV kR (by simp) hon
  replace hd := hd.keepV kR (by simp) hon
  replace hF := hF.wrote hon (by omega)
  clear kR
  have kR := hz
  clear hz hon
  generalize (((w1.setCell ⟨w.heap.size, 0, none⟩ (.bool false)).setCell ⟨w.heap.size, 1, none⟩ (.slice none 0 0)).setCell ⟨w.heap.size, 2, none⟩ (.slice none 0 0)) = w2 at hn hd kR hF ⊢
  clear rc0 rz0 rc1 rz1 rc2 rz2
  have rc0 := BlkV.cell kR 0 rfl
  have rz0 := BlkV.frozen kR 0
  have rc1 := BlkV.cell kR 1 rfl
  have rz1 := BlkV.frozen kR 1
  have rc2 := BlkV.cell kR 2 rfl
  have rz2 := BlkV.frozen kR 2
  refine bodyPost_ret (by simp [results, Tryz.results45, go_sem, rc0, rc1, rc2]; try rfl) rfl ?_
  exact ⟨rfl, hF⟩

end Go.Proofs.YtcfhajnboamnnaaGreatDoor
