/- Floats, mathematics: between which floats a number lies; floats next to one another. -/
/- Floats, mathematics: what a root rounded down and up is; the root of a square. -/
import Derived.Test.YtcfhajnboamnnaaDoorYXFZ
import Derived.Test.YtcfhajnboamnnaaDoorYXFM
import Derived.Test.YtcfhajnboamnnaaDoorXFSQ
import Derived.Test.YtcfhajnboamnnaaDoorYXFT
import Derived.Test.YtcfhajnboamnnaaDoorXF40
namespace Go.Proofs.YtcfhajnboamnnaaDoor
open Go.RowKit
set_option linter.unusedVariables false
set_option linter.unusedSimpArgs false
/-- A size as a number. -/
def vv (S : Nat) : Rat := (vsz S : Rat) * z2 (vex S)
theorem fsz_small {S : Nat} (h : S ≤ 9218868437227405312) : fsz S = S := Nat.mod_eq_of_lt (by omega)
theorem vsz_parts {S : Nat} (h : S ≤ 9218868437227405312) : vsz S = (if S / 4503599627370496 = 0 then S % 4503599627370496 else S % 4503599627370496 + 4503599627370496) ∧ vex S = (if S / 4503599627370496 = 0 then -1074 else -1074 + (((S / 4503599627370496 : Nat) : Int) - 1)) := by
  unfold vsz vex; rw [fsz_small h]; exact ⟨rfl, rfl⟩
theorem c52 : ((4503599627370496 : Nat) : Rat) = z2 52 := by
  have e : (2 : Nat) ^ 52 = 4503599627370496 := by decide
  rw [← e, ← z2_nat]; rfl
theorem c53 : ((9007199254740992 : Nat) : Rat) = z2 53 := by
  have e : (2 : Nat) ^ 53 = 9007199254740992 := by decide
  rw [← e, ← z2_nat]; rfl
/-- Laid by its last place. -/
theorem vv_lay {q : Nat} {u : Int} (hq : q ≤ 9007199254740992) (hu1 : -1074 ≤ u) (hu2 : u ≤ 971) (h : u = -1074 ∨ 4503599627370496 ≤ q) : vv ((u + 1074).toNat * 4503599627370496 + q) = (q : Rat) * z2 u ∧ (u + 1074).toNat * 4503599627370496 + q ≤ 9218868437227405312 := by
  obtain ⟨e, he⟩ : ∃ e : Nat, (e : Int) = u + 1074 := ⟨(u + 1074).toNat, by omega⟩
  have he' : (u + 1074).toNat = e := by omega
  rw [he']
  have hle : e * 4503599627370496 + q ≤ 9218868437227405312 := by omega
  refine ⟨?_, hle⟩
  obtain ⟨p1, p2⟩ := vsz_parts hle
  unfold vv
  rw [p1, p2]
  by_cases c1 : q = 9007199254740992
  · have d1 : (e * 4503599627370496 + q) / 4503599627370496 = e + 2 := by omega
    have d2 : (e * 4503599627370496 + q) % 4503599627370496 + 4503599627370496 = 4503599627370496 := by omega
    rw [d1, if_neg (by omega), if_neg (by omega), d2, c52, ← z2_add, c1, c53, ← z2_add]
    congr 1
    omega
  · by_cases c2 : q < 4503599627370496
    · have hu : u = -1074 := by omega
      have e0 : e = 0 := by omega
      subst e0
      have d1 : (0 * 4503599627370496 + q) / 4503599627370496 = 0 := by omega
      have d2 : (0 * 4503599627370496 + q) % 4503599627370496 = q := by omega
      rw [d1, d2, if_pos rfl, if_pos rfl, hu]
    · have d1 : (e * 4503599627370496 + q) / 4503599627370496 = e + 1 := by omega
      have d2 : (e * 4503599627370496 + q) % 4503599627370496 + 4503599627370496 = q := by omega
      rw [d1, if_neg (by omega), if_neg (by omega), d2]
      congr 2
      omega
theorem vv_step {S : Nat} (h : S < 9218868437227405312) : vv S < vv (S + 1) := by
  have key : ∃ q u, S = (u + 1074).toNat * 4503599627370496 + q ∧ q < 9007199254740992 ∧ -1074 ≤ u ∧ u ≤ 971 ∧ (u = -1074 ∨ 4503599627370496 ≤ q) := by
    by_cases c : S < 9007199254740992
    · exact ⟨S, -1074, by omega, c, by omega, by omega, Or.inl rfl⟩
    · refine ⟨S % 4503599627370496 + 4503599627370496, ((S / 4503599627370496 : Nat) : Int) - 1075, by omega, by omega, by omega, by omega, Or.inr (by omega)⟩
  obtain ⟨q, u, h1, h2, h3, h4, h5⟩ := key
  have a := (vv_lay (q := q) (by omega) h3 h4 h5).1
  have b := (vv_lay (q := q + 1) (by omega) h3 h4 (by omega)).1
  rw [show S + 1 = (u + 1074).toNat * 4503599627370496 + (q + 1) by omega, h1, a, b, cast_succ]
  have := z2_pos u
  have e : ((q : Rat) + 1) * z2 u = (q : Rat) * z2 u + z2 u := by grind
  rw [e]; grind
theorem vv_lt {S T : Nat} (h : S < T) (hT : T ≤ 9218868437227405312) : vv S < vv T := by
  obtain ⟨k, rfl⟩ : ∃ k, T = S + 1 + k := ⟨T - (S + 1), by omega⟩
  clear h
  induction k with
  | zero => exact vv_step (by omega)
  | succ k ih =>
    have h1 := ih (by omega)
    have h2 := vv_step (S := S + 1 + k) (by omega)
    rw [show S + 1 + (k + 1) = S + 1 + k + 1 by omega]
    grind
theorem vv_inj_lt {S T : Nat} (hS : S ≤ 9218868437227405312) (h : vv S < vv T) : S < T := by
  by_cases c : S < T
  · exact c
  · by_cases d : S = T
    · subst d; grind
    · have := vv_lt (S := T) (T := S) (by omega) hS
      grind
theorem fvQ_vv {f : Nat} (h : fsz f < 9218868437227405312) : fvQ f = sg (fneg f) (vv (fsz f)) := by
  rw [fvQ_val]
  have e1 : vsz f = vsz (fsz f) := by
    unfold vsz; rw [fsz_small (show fsz f ≤ _ by omega), frac_fsz]
  have e2 : vex f = vex (fsz f) := by unfold vex; rw [fsz_small (show fsz f ≤ _ by omega)]
  unfold vv
  rw [← e1, ← e2]
/-- 2 to the power of 1000, as a size. -/
theorem vv_big : vv 9110782046170513408 = z2 1000 := by
  have h := (vv_lay (q := 4503599627370496) (u := 948) (by omega) (by omega) (by omega) (by omega)).1
  have e : (948 + 1074 : Int).toNat * 4503599627370496 + 4503599627370496 = 9110782046170513408 := by decide
  rw [e] at h
  rw [h, c52, ← z2_add]
  rfl
theorem vv_inf : vv 9218868437227405312 = z2 1024 := by
  have h := (vv_lay (q := 9007199254740992) (u := 971) (by omega) (by omega) (by omega) (by omega)).1
  have e : (971 + 1074 : Int).toNat * 4503599627370496 + 9007199254740992 = 9218868437227405312 := by decide
  rw [e] at h
  rw [h, c53, ← z2_add]
  rfl
/-- Between which floats a number lies; how it is rounded. -/
theorem bracket {N D : Nat} (hN : N ≠ 0) (hD : D ≠ 0) (s : Bool) {T : Nat} (hT : T ≤ 9218868437227405311) (hb : qt N D < vv T) :
    ∃ B fl : Nat, ∃ t : Int → Nat, B < T ∧ (∀ m, ofR m s N D = (sgn s + (B + t m), fl)) ∧ (∀ m, t m ≤ 1) ∧ vv B ≤ qt N D ∧ qt N D < vv (B + 1) ∧
    ((qt N D = vv B ∧ fl = 0 ∧ ∀ m, t m = 0) ∨ (vv B < qt N D ∧ (fl = 1 ∨ fl = 3) ∧ t 2 = (if s then 1 else 0) ∧ t 3 = (if s then 0 else 1))) := by
  have hd := denR_pos (N := N) hD
  obtain ⟨g1, g2⟩ := numR_lt hN hD
  have hul : -1074 ≤ ulpR N D := by unfold ulpR; omega
  have hqt : qt (numR N D) (denR N D) = qt N D * z2 (-(ulpR N D)) := by
    have := qt_scale N (D := D) (by omega) (-(ulpR N D))
    rw [Int.neg_neg] at this
    exact this
  have hback : qt N D = qt (numR N D) (denR N D) * z2 (ulpR N D) := by rw [hqt, back_z]
  have hf := qt_floor (A := numR N D) hd
  have hu2 : ulpR N D ≤ 971 := by
    by_cases c : ulpR N D ≤ 971
    · exact c
    · exfalso
      have h1 := g2 (by omega)
      have h2 : ((4503599627370496 : Nat) : Rat) ≤ qt (numR N D) (denR N D) := by
        have : ((4503599627370496 : Nat) : Rat) ≤ ((numR N D / denR N D : Nat) : Rat) := Rat.natCast_le_natCast.2 h1
        grind
      have h3 := mulz_le h2 (ulpR N D)
      rw [← hback, c52, ← z2_add] at h3
      have h4 := z2_le (show (1024 : Int) ≤ 52 + ulpR N D by omega)
      have h5 := vv_lt (S := T) (T := 9218868437227405312) (by omega) (by omega)
      rw [vv_inf] at h5
      grind
  have hor : ulpR N D = -1074 ∨ 4503599627370496 ≤ numR N D / denR N D := by
    by_cases c : ulpR N D = -1074
    · exact Or.inl c
    · exact Or.inr (g2 (by omega))
  obtain ⟨l1, l2⟩ := vv_lay (q := numR N D / denR N D) (by omega) hul (by omega) hor
  obtain ⟨l3, l4⟩ := vv_lay (q := numR N D / denR N D + 1) (by omega) hul (by omega) (by omega)
  have k1 : vv ((ulpR N D + 1074).toNat * 4503599627370496 + numR N D / denR N D) ≤ qt N D := by
    rw [l1, hback]; exact mulz_le hf.1 _
  have k2 : qt N D < vv ((ulpR N D + 1074).toNat * 4503599627370496 + numR N D / denR N D + 1) := by
    rw [Nat.add_assoc, l3, hback, cast_succ]; exact mulz_lt hf.2 _
  have hB : (ulpR N D + 1074).toNat * 4503599627370496 + numR N D / denR N D < T := vv_inj_lt l2 (by grind)
  have hup : ∀ m, upN m s N D ≤ 1 := fun m => by
    unfold upN
    repeat' split
    all_goals omega
  have hof : ∀ m, ofR m s N D = (sgn s + ((ulpR N D + 1074).toNat * 4503599627370496 + numR N D / denR N D + upN m s N D), flR N D) := fun m => by
    have := hup m
    unfold ofR
    rw [if_neg hN, pack_eq m s _ ((ulpR N D + 1074).toNat * 4503599627370496 + numR N D / denR N D + upN m s N D) (by omega) hul (fun h => by have := g2 h; omega) (by omega)]
    rw [if_neg (by omega), if_neg (by omega)]
  refine ⟨_, flR N D, fun m => upN m s N D, hB, hof, hup, k1, k2, ?_⟩
  by_cases c : numR N D % denR N D = 0
  · left
    refine ⟨?_, by unfold flR; rw [if_pos c], fun m => by show upN m s N D = 0; unfold upN; rw [if_pos c]⟩
    rw [l1, hback, qt_exact hd c]
  · right
    refine ⟨?_, by unfold flR; rw [if_neg c]; split <;> simp, ?_, ?_⟩
    · rw [l1, hback]; exact mulz_lt (qt_strict hd c) _
    · show upN 2 s N D = _
      unfold upN
      rw [if_neg c]
      unfold upR
      cases s <;> rfl
    · show upN 3 s N D = _
      unfold upN
      rw [if_neg c]
      unfold upR
      cases s <;> rfl
theorem lay_facts (s : Bool) {S : Nat} (h : S < 9218868437227405312) : fsz (sgn s + S) = S ∧ fneg (sgn s + S) = s ∧ sgn s + S < 18446744073709551616 := by
  unfold fsz fneg sgn
  cases s
  · simp only [Bool.false_eq_true, if_false]
    exact ⟨by omega, decide_eq_false (by omega), by omega⟩
  · simp only [if_true]
    exact ⟨by omega, decide_eq_true (by omega), by omega⟩
theorem lay_val (s : Bool) {S : Nat} (h : S < 9218868437227405312) : fvQ (sgn s + S) = sg s (vv S) := by
  obtain ⟨a, b, c⟩ := lay_facts s h
  rw [fvQ_vv (by omega), a, b]
theorem ofN_zero (m : Int) : ofN m 0 = (0, 0) := by
  unfold ofN ofR
  exact if_pos rfl
/-- A number's size. -/
def szQ (q : Rat) : Rat := qt q.num.natAbs q.den
theorem between_ex (x : Rat) (hx : szQ x < z2 1000) (md : Int) : ∃ lo hi mm fl : Nat,
    ofN 2 x = (lo, fl) ∧ ofN 3 x = (hi, fl) ∧ ofN md x = (mm, fl) ∧ lo < 18446744073709551616 ∧ hi < 18446744073709551616 ∧ fsz lo < 9218868437227405312 ∧ fsz hi < 9218868437227405312 ∧ fvQ lo ≤ x ∧ x ≤ fvQ hi ∧
    (mm = lo ∨ mm = hi) ∧ ((fvQ lo = fvQ hi ∧ lo = hi ∧ fl = 0) ∨ (fvQ lo ≠ fvQ hi ∧ lo ≠ hi ∧ nxF lo true = hi ∧ (fl = 1 ∨ fl = 3))) := by
  by_cases h0 : x = 0
  · subst h0
    have z : fvQ 0 = 0 := fvQ_zero (by decide)
    refine ⟨0, 0, 0, 0, ofN_zero 2, ofN_zero 3, ofN_zero md, by omega, by omega, by decide, by decide, by rw [z]; exact Rat.le_refl, by rw [z]; exact Rat.le_refl, Or.inl rfl, Or.inl ⟨rfl, rfl, rfl⟩⟩
  · have hN : x.num.natAbs ≠ 0 := fun c => h0 ((natAbs_zero_iff x).1 c)
    have hxe := sg_qt x
    obtain ⟨B, fl, t, hB, hof, ht, k1, k2, hc⟩ := bracket hN x.den_nz (negQ x) (T := 9110782046170513408) (by omega) (by rw [vv_big]; exact hx)
    have e : ∀ m, ofN m x = (sgn (negQ x) + (B + t m), fl) := hof
    clear hof
    generalize negQ x = s at *
    generalize qt x.num.natAbs x.den = r at *
    have lv : ∀ k, k ≤ 1 → fvQ (sgn s + (B + k)) = sg s (vv (B + k)) := fun k hk => lay_val s (by omega)
    have lf : ∀ k, k ≤ 1 → fsz (sgn s + (B + k)) = B + k ∧ fneg (sgn s + (B + k)) = s ∧ sgn s + (B + k) < 18446744073709551616 := fun k hk => lay_facts s (by omega)
    refine ⟨_, _, _, fl, e 2, e 3, e md, (lf _ (ht 2)).2.2, (lf _ (ht 3)).2.2, by rw [(lf _ (ht 2)).1]; have := ht 2; omega, by rw [(lf _ (ht 3)).1]; have := ht 3; omega, ?_⟩
    rcases hc with ⟨c1, c2, c3⟩ | ⟨c1, c2, c3, c4⟩
    · rw [c3 2, c3 3, c3 md, Nat.add_zero]
      have hv : fvQ (sgn s + B) = x := by
        have := lv 0 (by omega)
        rw [Nat.add_zero] at this
        rw [this, hxe, c1]
      rw [hv]
      exact ⟨Rat.le_refl, Rat.le_refl, Or.inl rfl, Or.inl ⟨rfl, rfl, c2⟩⟩
    · rw [lv _ (ht 2), lv _ (ht 3), c3, c4]
      have htm := ht md
      cases s
      · simp only [Bool.false_eq_true, if_false, Nat.add_zero, if_true]
        have hxr : x = r := hxe
        refine ⟨by show vv B ≤ x; rw [hxr]; exact k1, by show x ≤ vv (B + 1); rw [hxr]; exact Rat.le_of_lt k2, by omega, Or.inr ⟨?_, by omega, ?_, c2⟩⟩
        · show vv B ≠ vv (B + 1)
          grind
        · have l0 := lf 0 (by omega)
          rw [Nat.add_zero] at l0
          unfold nxF
          rw [isNan_le (by omega), l0.1, l0.2.1]
          show (if false = true then _ else _) = _
          by_cases z : B = 0
          · rw [if_neg (by simp), if_pos z, if_pos rfl, z]; rfl
          · rw [if_neg (by simp), if_neg z, if_neg (by simp), if_neg (by omega)]
            omega
      · simp only [Bool.false_eq_true, if_false, Nat.add_zero, if_true]
        have hxr : x = -r := hxe
        refine ⟨by show -(vv (B + 1)) ≤ x; rw [hxr]; grind, by show x ≤ -(vv B); rw [hxr]; grind, by omega, Or.inr ⟨?_, by omega, ?_, c2⟩⟩
        · show -(vv (B + 1)) ≠ -(vv B)
          grind
        · have l0 := lf 1 (by omega)
          unfold nxF
          rw [isNan_le (by omega), l0.1, l0.2.1, if_neg (by simp), if_neg (by omega), if_pos rfl]
          omega
theorem sg_pos_eq {q r : Rat} {s : Bool} (hr : 0 < r) (h : q = sg s r) : negQ q = s ∧ szQ q = r ∧ q ≠ 0 := by
  have hq0 : q ≠ 0 := by rw [h]; unfold sg; split <;> grind
  have e := sg_qt q
  have hN : q.num.natAbs ≠ 0 := fun c => hq0 ((natAbs_zero_iff q).1 c)
  have hp : 0 < qt q.num.natAbs q.den := by
    have h1 := qt_mul (A := q.num.natAbs) (B := q.den) (Nat.pos_of_ne_zero q.den_nz)
    have h2 := nat_ne hN
    have h3 := nat_ne q.den_nz
    by_cases c : qt q.num.natAbs q.den ≤ 0
    · have := Rat.mul_le_mul_of_nonneg_right c (Rat.le_of_lt h3)
      rw [h1, Rat.zero_mul] at this
      grind
    · grind
  have e1 : sg (negQ q) (qt q.num.natAbs q.den) = sg s r := by rw [← e, h]
  unfold sg at e1
  unfold szQ
  cases hs : negQ q <;> cases s <;> rw [hs] at e1 <;> simp only [Bool.false_eq_true, if_true, if_false] at e1
  · exact ⟨rfl, e1, hq0⟩
  · exfalso; grind
  · exfalso; grind
  · exact ⟨rfl, by grind, hq0⟩
/-- Half of two sizes that are next to one another, with a sign, is rounded to one of them. -/
theorem mid_round {S : Nat} (s : Bool) (h : S + 1 < 9218868437227405312) {q : Rat} (hq : q = sg s ((vv S + vv (S + 1)) * mkRat 1 2)) (m : Int) : (ofN m q).1 = sgn s + S ∨ (ofN m q).1 = sgn s + (S + 1) := by
  have h1 := vv_lt (S := S) (T := S + 1) (by omega) (by omega)
  have h0 : 0 ≤ vv S := Rat.mul_nonneg (by have : ((0 : Nat) : Rat) ≤ (vsz S : Rat) := Rat.natCast_le_natCast.2 (Nat.zero_le _); exact this) (Rat.le_of_lt (z2_pos _))
  have hh : (mkRat 1 2 : Rat) * 2 = 1 := by decide +kernel
  have hH : (0 : Rat) < mkRat 1 2 := by decide +kernel
  have p1 := Rat.mul_lt_mul_of_pos_right h1 hH
  have e1 : vv S = vv S * mkRat 1 2 + vv S * mkRat 1 2 := by grind
  have e2 : vv (S + 1) = vv (S + 1) * mkRat 1 2 + vv (S + 1) * mkRat 1 2 := by grind
  have e3 : (vv S + vv (S + 1)) * mkRat 1 2 = vv S * mkRat 1 2 + vv (S + 1) * mkRat 1 2 := by grind
  have lo : vv S < (vv S + vv (S + 1)) * mkRat 1 2 := by grind
  have hi : (vv S + vv (S + 1)) * mkRat 1 2 < vv (S + 1) := by grind
  obtain ⟨g1, g2, g3⟩ := sg_pos_eq (q := q) (by grind) hq
  have hN : q.num.natAbs ≠ 0 := fun c => g3 ((natAbs_zero_iff q).1 c)
  obtain ⟨B, fl, t, hB, hof, ht, k1, k2, hc⟩ := bracket hN q.den_nz (negQ q) (T := S + 1) (by omega) (by show szQ q < _; rw [g2]; exact hi)
  have e : ofN m q = (sgn (negQ q) + (B + t m), fl) := hof m
  have k1' : vv B ≤ szQ q := k1
  have k2' : szQ q < vv (B + 1) := k2
  rw [g2] at k1' k2'
  have b1 := vv_inj_lt (S := B) (T := S + 1) (by omega) (by grind)
  have b2 := vv_inj_lt (S := S) (T := B + 1) (by omega) (by grind)
  have : B = S := by omega
  subst this
  rw [e, g1]
  have := ht m
  rcases (show t m = 0 ∨ t m = 1 by omega) with c | c
  · left; show sgn s + (B + t m) = _; rw [c, Nat.add_zero]
  · right; show sgn s + (B + t m) = _; rw [c]
/-- A float and the next one, both finite: their order; half of both; there and back. -/
theorem next_facts {x : Nat} (up : Bool) (hx : x < 18446744073709551616) (h1 : fsz x < 9218868437227405312) (h2 : fsz (nxF x up) < 9218868437227405312) :
    nxF x up < 18446744073709551616 ∧ (decide (fvQ x < fvQ (nxF x up)) = up) ∧ fvQ x ≠ fvQ (nxF x up) ∧ (nxF (nxF x up) (!up) = x ∨ (fsz x = 0 ∧ fsz (nxF (nxF x up) (!up)) = 0)) ∧
    ∀ m, (ofN m ((fvQ x + fvQ (nxF x up)) * mkRat 1 2)).1 = x ∨ (ofN m ((fvQ x + fvQ (nxF x up)) * mkRat 1 2)).1 = nxF x up ∨ fsz (ofN m ((fvQ x + fvQ (nxF x up)) * mkRat 1 2)).1 = 0 := by
  have hn := isNan_le (f := x) (by omega)
  have hxe := sgn_fsz hx
  by_cases z : fsz x = 0
  · -- nought
    have hy : nxF x up = sgn (!up) + (0 + 1) := by
      unfold nxF; rw [hn, if_neg (by simp), if_pos z]; cases up <;> rfl
    obtain ⟨a, b, c⟩ := lay_facts (!up) (S := 0 + 1) (by omega)
    have hv : fvQ (nxF x up) = sg (!up) (vv (0 + 1)) := by rw [hy]; exact lay_val _ (by omega)
    have h0 := fvQ_zero z
    have v0 : vv 0 = 0 := by unfold vv; rw [vsz_zero (by decide)]; rw [show ((0 : Nat) : Rat) = 0 from rfl, Rat.zero_mul]
    have vp := vv_lt (S := 0) (T := 0 + 1) (by omega) (by omega)
    have hs : (fvQ x + fvQ (nxF x up)) * mkRat 1 2 = sg (!up) ((vv 0 + vv (0 + 1)) * mkRat 1 2) := by
      rw [h0, hv, v0]; unfold sg; split <;> grind
    refine ⟨by rw [hy]; exact c, ?_, ?_, Or.inr ⟨z, ?_⟩, fun m => ?_⟩
    · rw [h0, hv]
      cases up
      · show decide (0 < -(vv (0 + 1))) = false
        exact decide_eq_false (by grind)
      · show decide (0 < vv (0 + 1)) = true
        exact decide_eq_true (by grind)
    · rw [h0, hv]; unfold sg; split <;> grind
    · rw [hy]
      unfold nxF
      rw [isNan_le (by omega), a, b, if_neg (by simp), if_neg (by omega), if_pos rfl]
      have := lay_facts (!up) (S := 0) (by omega)
      have e : sgn (!up) + (0 + 1) - 1 = sgn (!up) + 0 := by omega
      rw [e]; exact this.1
    · rcases mid_round (S := 0) (!up) (by omega) hs m with k | k
      · right; right; rw [k]; exact (lay_facts (!up) (S := 0) (by omega)).1
      · right; left; rw [k, hy]
  · by_cases d : fneg x = up
    · -- towards nought
      have hy' : nxF x up = x - 1 := by unfold nxF; rw [hn, if_neg (by simp), if_neg z, if_pos d]
      obtain ⟨S, hS⟩ : ∃ S, fsz x = S + 1 := ⟨fsz x - 1, by omega⟩
      have hxl : x = sgn up + (S + 1) := by rw [← hxe, d, hS]
      have hy : nxF x up = sgn up + S := by rw [hy', hxl]; omega
      obtain ⟨a, b, c⟩ := lay_facts up (S := S) (by omega)
      have hvx : fvQ x = sg up (vv (S + 1)) := by
        have := lay_val up (S := S + 1) (by omega)
        rw [← hxl] at this; exact this
      have hvy : fvQ (nxF x up) = sg up (vv S) := by rw [hy]; exact lay_val _ (by omega)
      have vp := vv_lt (S := S) (T := S + 1) (by omega) (by omega)
      have hs : (fvQ x + fvQ (nxF x up)) * mkRat 1 2 = sg up ((vv S + vv (S + 1)) * mkRat 1 2) := by
        rw [hvx, hvy]; unfold sg; split <;> grind
      refine ⟨by rw [hy]; exact c, ?_, ?_, Or.inl ?_, fun m => ?_⟩
      · rw [hvx, hvy]
        cases up
        · show decide (vv (S + 1) < vv S) = false
          exact decide_eq_false (by grind)
        · show decide (-(vv (S + 1)) < -(vv S)) = true
          exact decide_eq_true (by grind)
      · rw [hvx, hvy]; unfold sg; split <;> grind
      · rw [hy]
        unfold nxF
        rw [isNan_le (by omega), a, b, if_neg (by simp)]
        by_cases s0 : S = 0
        · rw [if_pos s0, hxl, s0]
          cases up <;> rfl
        · rw [if_neg s0, if_neg (by cases up <;> simp), if_neg (by omega), hxl]
          omega
      · rcases mid_round (S := S) up (by omega) hs m with k | k
        · right; left; rw [k, hy]
        · left; rw [k, hxl]
    · -- away from nought
      have d' : fneg x = !up := by cases up <;> cases h : fneg x <;> simp_all
      have hy' : nxF x up = x + 1 := by unfold nxF; rw [hn, if_neg (by simp), if_neg z, if_neg d, if_neg (by omega)]
      obtain ⟨S, hS⟩ : ∃ S, fsz x = S := ⟨_, rfl⟩
      have hxl : x = sgn (!up) + S := by rw [← hxe, d', hS]
      have hy : nxF x up = sgn (!up) + (S + 1) := by rw [hy', hxl]; omega
      have hS1 : S + 1 < 9218868437227405312 := by
        by_cases c : S + 1 < 9218868437227405312
        · exact c
        · exfalso
          have : S + 1 = 9218868437227405312 := by omega
          rw [hy, this, (by cases up <;> decide +kernel : fsz (sgn (!up) + 9218868437227405312) = 9218868437227405312)] at h2
          omega
      obtain ⟨a, b, c⟩ := lay_facts (!up) (S := S + 1) hS1
      have hvx : fvQ x = sg (!up) (vv S) := by
        have := lay_val (!up) (S := S) (by omega)
        rw [← hxl] at this; exact this
      have hvy : fvQ (nxF x up) = sg (!up) (vv (S + 1)) := by rw [hy]; exact lay_val _ hS1
      have vp := vv_lt (S := S) (T := S + 1) (by omega) (by omega)
      have hs : (fvQ x + fvQ (nxF x up)) * mkRat 1 2 = sg (!up) ((vv S + vv (S + 1)) * mkRat 1 2) := by
        rw [hvx, hvy]; unfold sg; split <;> grind
      refine ⟨by rw [hy]; exact c, ?_, ?_, Or.inl ?_, fun m => ?_⟩
      · rw [hvx, hvy]
        cases up
        · show decide (-(vv S) < -(vv (S + 1))) = false
          exact decide_eq_false (by grind)
        · show decide (vv S < vv (S + 1)) = true
          exact decide_eq_true (by grind)
      · rw [hvx, hvy]; unfold sg; split <;> grind
      · rw [hy]
        unfold nxF
        rw [isNan_le (by omega), a, b, if_neg (by simp), if_neg (by omega), if_pos rfl, hxl]
        omega
      · rcases mid_round (S := S) (!up) hS1 hs m with k | k
        · left; rw [k, hxl]
        · right; left; rw [k, hy]
end Go.Proofs.YtcfhajnboamnnaaDoor

namespace Go.Proofs.YtcfhajnboamnnaaDoor
open Go.RowKit
set_option linter.unusedVariables false
set_option linter.unusedSimpArgs false

theorem pack_lay (m : Int) {v fl : Nat} {u : Int} (h1 : 4503599627370496 ≤ v) (h2 : v ≤ 9007199254740992) (u1 : -1074 ≤ u) (u2 : u ≤ 900) :
    packR m false v u fl = ((u + 1074).toNat * 4503599627370496 + v, fl) := by
  unfold packR packT
  by_cases c : v = 9007199254740992
  · rw [if_pos c, if_neg (by omega), if_neg (by omega)]
    refine Prod.ext ?_ rfl
    show sgn false + _ = _
    unfold sgn
    simp only [Bool.false_eq_true, if_false]
    omega
  · rw [if_neg c, if_neg (by omega), if_neg (by omega)]
    refine Prod.ext ?_ rfl
    show sgn false + _ = _
    unfold sgn
    simp only [Bool.false_eq_true, if_false]
    omega
/-- A number laid together, and what it is. -/
theorem lay_is {v : Nat} {u : Int} (h1 : 4503599627370496 ≤ v) (h2 : v ≤ 9007199254740992) (u1 : -1074 ≤ u) (u2 : u ≤ 900) :
    ∃ g, g = (u + 1074).toNat * 4503599627370496 + v ∧ g < 18446744073709551616 ∧ fsz g ≠ 0 ∧ fsz g < 9218868437227405312 ∧ fneg g = false ∧ fvQ g = (v : Rat) * z2 u := by
  have hlt : (u + 1074).toNat * 4503599627370496 + v < 9218868437227405312 := by omega
  obtain ⟨a, b, c⟩ := lay_facts false hlt
  have d := lay_val false hlt
  rw [show sgn false + ((u + 1074).toNat * 4503599627370496 + v) = (u + 1074).toNat * 4503599627370496 + v by unfold sgn; simp] at a b c d
  refine ⟨_, rfl, c, by omega, by omega, b, ?_⟩
  rw [d, (vv_lay h2 u1 (by omega) (Or.inr h1)).1]
  rfl
theorem ofN_own {f : Nat} (hf : f < 18446744073709551616) (h0 : fsz f ≠ 0) (h1 : fsz f < 9218868437227405312) (m : Int) : ofN m (fvQ f) = (f, 0) := by
  obtain ⟨a, b⟩ := own_rnd hf h0 h1 m
  have hV : IsSum (fneg f, false, vsz f, vex f) (fvQ f) := by rw [fvQ_val]; exact one_sum _ _ (vsz_lt106 f)
  rw [← ofN_sum hV rfl (fvQ_ne h0) m]
  unfold rdV
  rw [if_neg (by simp), if_neg (vsz_ne h0)]
  exact Prod.ext a b
theorem fvQ_inj {f g : Nat} (hf : f < 18446744073709551616) (h0 : fsz f ≠ 0) (h1 : fsz f < 9218868437227405312) (hg : g < 18446744073709551616) (k0 : fsz g ≠ 0) (k1 : fsz g < 9218868437227405312) (h : fvQ f = fvQ g) : f = g := by
  have a := ofN_own hf h0 h1 0
  have b := ofN_own hg k0 k1 0
  rw [h, b] at a
  exact (congrArg Prod.fst a).symm
/-- A natural number that needs no rounding. -/
theorem nat_float {K : Nat} (h : K ≠ 0) (hK : K < 9007199254740992) : ∃ g, g < 18446744073709551616 ∧ fsz g ≠ 0 ∧ fsz g < 9218868437227405312 ∧ fneg g = false ∧ fvQ g = (K : Rat) ∧ ∀ m, ofN m (K : Rat) = (g, 0) := by
  have hb : blen K ≤ 53 := blen_of_lt hK
  have hp := blen_pos h
  have l1 := blen_low h
  have l2 := lt_blen K
  have e1 : (4503599627370496 : Nat) = 2 ^ (blen K - 1) * 2 ^ (53 - blen K) := by rw [← Nat.pow_add, show blen K - 1 + (53 - blen K) = 52 by omega]
  have e2 : (9007199254740992 : Nat) = 2 ^ blen K * 2 ^ (53 - blen K) := by rw [← Nat.pow_add, show blen K + (53 - blen K) = 53 by omega]
  have b1 : 4503599627370496 ≤ K * 2 ^ (53 - blen K) := by rw [e1]; exact Nat.mul_le_mul_right _ l1
  have b2 : K * 2 ^ (53 - blen K) ≤ 9007199254740992 := by rw [e2]; exact Nat.mul_le_mul_right _ (Nat.le_of_lt l2)
  obtain ⟨g, -, g1, g2, g3, g4, g5⟩ := lay_is (u := -((53 - blen K : Nat) : Int)) b1 b2 (by omega) (by omega)
  have hv : fvQ g = (K : Rat) := by
    rw [g5, cast_mul, ← z2_nat, Rat.mul_assoc, ← z2_add, Int.add_right_neg, z2_zero, Rat.mul_one]
  exact ⟨g, g1, g2, g3, g4, hv, fun m => by rw [← hv]; exact ofN_own g1 g2 g3 m⟩
/-- What a root is: of N times 2 to the power of 2 u. -/
theorem root_of {f : Nat} (h0 : fsz f ≠ 0) (h1 : fsz f < 9218868437227405312) (hs : fneg f = false) (m : Int) :
    ∃ (N q : Nat) (u : Int), fvQ f = (N : Rat) * z2 (2 * u) ∧ q * q ≤ N ∧ N < (q + 1) * (q + 1) ∧ 4503599627370496 ≤ q ∧ q < 9007199254740992 ∧ -1074 ≤ u ∧ u ≤ 900 ∧ u = ((blen (vsz f) : Int) - 1 + vex f) / 2 - 52 ∧
      N = rN (vsz f) (vex f) ∧ q = sqN N ∧ sqrtF m f = packR m false (q + sqUp m N) u (sqFl N) := by
  have hn := vsz_ne h0
  have hb := vsz_lt f
  have x1 := vex_ge f
  have x2 := vex_le h1
  have hp := blen_pos hn
  have hbl : blen (vsz f) ≤ 53 := blen_of_lt hb
  obtain ⟨a, b, c⟩ := sqrt_eq m hn hb x1
  obtain ⟨s1, s2⟩ := sqN_spec (rN (vsz f) (vex f))
  have hU : rU (vsz f) (vex f) = ((blen (vsz f) : Int) - 1 + vex f) / 2 - 52 := rfl
  refine ⟨rN (vsz f) (vex f), sqN (rN (vsz f) (vex f)), rU (vsz f) (vex f), ?_, s1, s2, c, b, by omega, by omega, hU, rfl, rfl, ?_⟩
  · rw [fvQ_val, hs]
    show (vsz f : Rat) * z2 (vex f) = _
    unfold rN
    rw [cast_mul, ← z2_nat, Rat.mul_assoc, ← z2_add]
    congr 2
    omega
  · unfold sqrtF
    rw [isNan_le (by omega), if_neg (by simp), if_neg h0, hs, if_neg (by simp), if_neg (by omega)]
    exact a
theorem z2_two (u : Int) : z2 (2 * u) = z2 u * z2 u := by rw [← z2_add]; congr 1; omega
theorem sq_val (q : Nat) (u : Int) : (q : Rat) * z2 u * ((q : Rat) * z2 u) = ((q * q : Nat) : Rat) * z2 (2 * u) := by
  rw [z2_two, cast_mul]; grind
/-- A root rounded down and rounded up. -/
theorem root_two {f : Nat} (h0 : fsz f ≠ 0) (h1 : fsz f < 9218868437227405312) (hs : fneg f = false) :
    ∃ lo hi fl : Nat, sqrtF 2 f = (lo, fl) ∧ sqrtF 3 f = (hi, fl) ∧ lo < 18446744073709551616 ∧ hi < 18446744073709551616 ∧ fsz lo < 9218868437227405312 ∧ fsz hi < 9218868437227405312 ∧
      fvQ lo * fvQ lo ≤ fvQ f ∧ fvQ f ≤ fvQ hi * fvQ hi ∧ (fl = 0 ↔ lo = hi) ∧ (fl = 0 → fvQ lo * fvQ lo = fvQ f) := by
  obtain ⟨N, q, u, hv, q1, q2, q3, q4, u1, u2, eu, eN, eq, e2⟩ := root_of h0 h1 hs 2
  obtain ⟨N', q', u', -, -, -, -, -, -, -, eu', eN', eq', e3⟩ := root_of h0 h1 hs 3
  obtain rfl : N' = N := eN'.trans eN.symm
  obtain rfl : q' = q := eq'.trans eq.symm
  obtain rfl : u' = u := eu'.trans eu.symm
  clear eN eN' eq' eu eu'
  have a2 : sqUp 2 N' = 0 := by unfold sqUp upR; simp
  rw [a2, Nat.add_zero, pack_lay 2 q3 (by omega) u1 u2] at e2
  obtain ⟨lo, hlo, g1, g2, g3, g4, g5⟩ := lay_is q3 (by omega) u1 u2
  rw [← hlo] at e2
  by_cases c : q' * q' = N'
  · have a3 : sqUp 3 N' = 0 := by unfold sqUp; rw [← eq, if_pos c]
    have a4 : sqFl N' = 0 := by unfold sqFl; rw [← eq, if_pos c]
    rw [a3, Nat.add_zero, pack_lay 3 q3 (by omega) u1 u2, ← hlo] at e3
    rw [a4] at e2 e3
    have e : fvQ lo * fvQ lo = fvQ f := by rw [g5, hv, sq_val, c]
    exact ⟨lo, lo, 0, e2, e3, g1, g1, g3, g3, by rw [e]; exact Rat.le_refl, by rw [e]; exact Rat.le_refl, ⟨fun _ => rfl, fun _ => rfl⟩, fun _ => e⟩
  · have a3 : sqUp 3 N' = 1 := by unfold sqUp upR; rw [← eq, if_neg c]; simp
    have a4 : sqFl N' = 1 := by unfold sqFl; rw [← eq, if_neg c]
    rw [a3, pack_lay 3 (by omega) (by omega) u1 u2] at e3
    obtain ⟨hi, hhi, k1, k2, k3, k4, k5⟩ := lay_is (v := q' + 1) (u := u') (by omega) (by omega) u1 u2
    rw [← hhi] at e3
    rw [a4] at e2 e3
    refine ⟨lo, hi, 1, e2, e3, g1, k1, g3, k3, ?_, ?_, ⟨fun h => by omega, fun h => by omega⟩, fun h => by omega⟩
    · rw [g5, hv, sq_val]
      exact mulz_le (Rat.natCast_le_natCast.2 q1) _
    · rw [k5, hv, sq_val]
      exact mulz_le (Rat.natCast_le_natCast.2 (Nat.le_of_lt q2)) _
/-- The root of a square. -/
theorem root_square {f k : Nat} (h0 : fsz f ≠ 0) (h1 : fsz f < 9218868437227405312) (hs : fneg f = false) (hv : fvQ f = ((k * k : Nat) : Rat)) (hk : k < 67108864) (m : Int) :
    ∃ r, sqrtF m f = (r, 0) ∧ r < 18446744073709551616 ∧ fsz r ≠ 0 ∧ fsz r < 9218868437227405312 ∧ fneg r = false ∧ fvQ r = (k : Rat) := by
  obtain ⟨N, q, u, hf, q1, q2, q3, q4, u1, u2, eu, eN, eq, e2⟩ := root_of h0 h1 hs m
  have hkk : k * k < 4503599627370496 := Nat.mul_lt_mul_of_lt_of_lt hk hk
  have hu : u ≤ 0 := by
    have l1 := blen_low (vsz_ne h0)
    have hp := blen_pos (vsz_ne h0)
    have e : z2 ((blen (vsz f) : Int) - 1 + vex f) ≤ fvQ f := by
      rw [fvQ_val, hs]
      show _ ≤ (vsz f : Rat) * z2 (vex f)
      rw [z2_add]
      have := Rat.natCast_le_natCast.2 l1
      rw [← z2_nat, show (((blen (vsz f) - 1 : Nat) : Int)) = (blen (vsz f) : Int) - 1 by omega] at this
      exact mulz_le this _
    have e3 : fvQ f < z2 52 := by rw [hv, ← c52]; exact Rat.natCast_lt_natCast.2 hkk
    have := z2_lt_of (Std.lt_of_le_of_lt e e3)
    omega
  obtain ⟨j, hj⟩ : ∃ j : Nat, u = -(j : Int) := ⟨(-u).toNat, by omega⟩
  have hN : N = (k * 2 ^ j) * (k * 2 ^ j) := by
    have e : (N : Rat) = (((k * 2 ^ j) * (k * 2 ^ j) : Nat) : Rat) := by
      have h2 : (N : Rat) * z2 (2 * u) * z2 (-(2 * u)) = ((k * k : Nat) : Rat) * z2 (-(2 * u)) := by rw [← hf, hv]
      rw [Rat.mul_assoc, ← z2_add, Int.add_right_neg, z2_zero, Rat.mul_one] at h2
      rw [h2, show -(2 * u) = (j : Int) + (j : Int) by omega, z2_add, z2_nat, ← cast_mul, ← cast_mul]
      congr 1
      ac_rfl
    exact Rat.natCast_inj.1 e
  have hq : q = k * 2 ^ j := by rw [eq]; exact (sqN_only (by omega) (by rw [hN]; exact Nat.mul_lt_mul_of_lt_of_lt (by omega) (by omega))).symm
  have hqq : q * q = N := by rw [hN, hq]
  have a3 : sqUp m N = 0 := by unfold sqUp; rw [← eq, if_pos hqq]
  have a4 : sqFl N = 0 := by unfold sqFl; rw [← eq, if_pos hqq]
  rw [a3, a4, Nat.add_zero, pack_lay m q3 (by omega) u1 u2] at e2
  obtain ⟨r, hr, g1, g2, g3, g4, g5⟩ := lay_is q3 (by omega) u1 u2
  rw [← hr] at e2
  refine ⟨r, e2, g1, g2, g3, g4, ?_⟩
  rw [g5, hq, cast_mul, ← z2_nat, Rat.mul_assoc, ← z2_add, hj, Int.add_right_neg, z2_zero, Rat.mul_one]
/-- A natural number, its square, and the square's root. -/
theorem square_back {k : Nat} (hk : k < 67108864) (m : Int) : ∃ g, (∀ m, (ofN m (k : Rat)).1 = g) ∧ g < 18446744073709551616 ∧ (mulF 0 g g).1 < 18446744073709551616 ∧ sqrtF m (mulF 0 g g).1 = (g, 0) := by
  by_cases h : k = 0
  · subst h
    refine ⟨0, fun m => by rw [show (((0 : Nat) : Rat)) = 0 from rfl, ofN_zero], by omega, ?_⟩
    have e : mulF 0 0 0 = (0, 0) := by decide +kernel
    rw [e]
    refine ⟨by decide, ?_⟩
    unfold sqrtF
    rw [isNan_le (by decide), if_neg (by simp), if_pos (by decide)]
  · have hkk : k * k < 4503599627370496 := Nat.mul_lt_mul_of_lt_of_lt hk hk
    obtain ⟨g, g1, g2, g3, g4, g5, g6⟩ := nat_float h (by omega)
    obtain ⟨s, s1, s2, s3, s4, s5, s6⟩ := nat_float (K := k * k) (Nat.mul_ne_zero h h) (by omega)
    have e : mulF 0 g g = (s, 0) := by rw [mulF_fin 0 g3 g3 g2 g2, g5, ← cast_mul, s6]
    obtain ⟨r, r1, r2, r3, r4, r5, r6⟩ := root_square s2 s3 s4 s5 hk m
    refine ⟨g, fun m => by rw [g6], g1, by rw [e]; exact s1, ?_⟩
    rw [e]
    show sqrtF m s = _
    rw [r1, fvQ_inj r2 r3 r4 g1 g2 g3 (r6.trans g5.symm)]
end Go.Proofs.YtcfhajnboamnnaaDoor
