/- Floats, mathematics: with the signs turned, and the modes towards the ends exchanged. -/
/- sfloat's Div in full; the law's turned. -/
/- Oracles for the reader: floats that are written out. -/
import Derived.Test.YtcfhajnboamnnabGreatDoorYXFM
import Derived.Test.YtcfhajnboamnnabGreatDoorKJ
import Derived.Test.YtcfhajnboamnnabGreatDoorXF22
import Derived.Test.YtcfhajnboamnnabGreatDoorXEVU
import Derived.Test.YtcfhajnboamnnabGreatDoorYXF26
namespace Go.Proofs.YtcfhajnboamnnabGreatDoor
open Go.RowKit
set_option linter.unusedVariables false

/-- The mode with the ends exchanged; a value with the other sign. -/
def tmode (m : Int) : Int := if m = 2 then 3 else if m = 3 then 2 else m
def nv (v : Bool × Bool × Nat × Int) : Bool × Bool × Nat × Int := (!v.1, v.2.1, v.2.2.1, v.2.2.2)
theorem grt_turn (m : Int) (s : Bool) (t : Nat) : grt (tmode m) (!s) t = grt m s t := by
  unfold grt tmode rAbove rBelow
  by_cases h2 : m = 2
  · subst h2; cases s <;> rfl
  · by_cases h3 : m = 3
    · subst h3; cases s <;> rfl
    · simp only [if_neg h2, if_neg h3]
      cases s <;> rfl
theorem szP_turn (m : Int) (s : Bool) (n : Nat) (x : Int) : szP (tmode m) (!s) n x = szP m s n x := by unfold szP; rw [grt_turn]
theorem rndF_turn (m : Int) (s : Bool) (n : Nat) (x : Int) : rndF (tmode m) (!s) n x = rndF m s n x := by unfold rndF; rw [szP_turn]
/-- Two floats are each other's negative, or both noughts, or no numbers. -/
def Turned (a b : Nat) : Prop := if a = 9221120237041090560 ∨ fsz a = 0 then b = a ∨ b = flipF a else a = flipF b
theorem turned_sgn (s : Bool) {z : Nat} (hz : z < 9223372036854775808) : Turned (sgn s + z) (sgn (!s) + z) := by
  have p1 : flipF z = 9223372036854775808 + z := by unfold flipF; rw [if_neg (by omega)]; omega
  have p2 : flipF (9223372036854775808 + z) = z := by unfold flipF; rw [if_pos (by omega)]; omega
  have e1 : flipF (sgn (!s) + z) = sgn s + z := by
    cases s
    · show flipF (9223372036854775808 + z) = 0 + z; rw [p2]; omega
    · show flipF (0 + z) = 9223372036854775808 + z; rw [Nat.zero_add, p1]
  have e2 : flipF (sgn s + z) = sgn (!s) + z := by
    cases s
    · show flipF (0 + z) = 9223372036854775808 + z; rw [Nat.zero_add, p1]
    · show flipF (9223372036854775808 + z) = 0 + z; rw [p2]; omega
  unfold Turned
  split
  · right; exact e2.symm
  · exact e1.symm
theorem turned_nan : Turned 9221120237041090560 9221120237041090560 := by unfold Turned; simp
theorem turned_noughts (s t : Bool) : Turned (sgn s) (sgn t) := by
  unfold Turned
  have : fsz (sgn s) = 0 := by unfold fsz sgn; cases s <;> rfl
  rw [if_pos (Or.inr this)]
  cases s <;> cases t <;> simp [sgn, flipF]
theorem szz_lt (m : Int) (s : Bool) (n : Nat) (x : Int) : (if 9218868437227405312 ≤ szP m s n x then 9218868437227405311 + grt m s 7 else szP m s n x) < 9223372036854775808 := by
  have := grt_lt m s 7
  split <;> omega
theorem rd_turn (m : Int) (v : Bool × Bool × Nat × Int) : Turned (rdV m v).1 (rdV (tmode m) (nv v)).1 ∧ (rdV m v).2 = (rdV (tmode m) (nv v)).2 := by
  obtain ⟨s, en, n, x⟩ := v
  unfold rdV nv
  simp only
  cases en
  · by_cases c : n = 0
    · subst c
      simp only [Bool.false_eq_true, if_false, if_true, and_true]
      exact turned_noughts _ _
    · simp only [Bool.false_eq_true, if_false, if_neg c]
      refine ⟨?_, (rndF_turn m s n x).symm⟩
      unfold rnd
      rw [szP_turn, grt_turn]
      exact turned_sgn s (szz_lt m s n x)
  · simp only [if_true, and_true]
    have hz : (9218868437227405312 : Nat) < 9223372036854775808 := by decide
    generalize (9218868437227405312 : Nat) = I at *
    exact turned_sgn s hz
theorem pl2_turn (s : Bool) (A : Nat) (x : Int) (t : Bool) (B : Nat) (y : Int) : pl2 (!s) A x (!t) B y = nv (pl2 s A x t B y) := by
  unfold pl2 nv
  by_cases c : s = t
  · subst c; simp
  · have c' : ¬ (!s) = (!t) := by cases s <;> cases t <;> simp_all
    rw [if_neg c, if_neg c']
    split <;> rfl
theorem plusV_turn (v w : Bool × Bool × Nat × Int) : plusV (nv v) (nv w) = nv (plusV v w) := by
  obtain ⟨s, en, n, x⟩ := v
  obtain ⟨t, em, k, y⟩ := w
  by_cases c : n = 0
  · simp [plusV, nv, c]
  · by_cases d : k = 0
    · simp [plusV, nv, c, d]
    · by_cases e : x - (lsh n 1 : Int) < y - (lsh k 1 : Int)
      · simp [plusV, nv, c, d, e, pl2_turn]
      · simp [plusV, nv, c, d, e, pl2_turn]
theorem addV_turn (m : Int) (v w : Bool × Bool × Nat × Int) : Turned (addV m v w).1 (addV (tmode m) (nv v) (nv w)).1 ∧ (addV m v w).2 = (addV (tmode m) (nv v) (nv w)).2 := by
  have e : ((nv v).1 ≠ (nv w).1) ↔ (v.1 ≠ w.1) := by unfold nv; cases v.1 <;> cases w.1 <;> simp
  unfold addV
  by_cases c : v.2.1 = true ∧ w.2.1 = true ∧ v.1 ≠ w.1
  · rw [if_pos c, if_pos (show (nv v).2.1 = true ∧ (nv w).2.1 = true ∧ (nv v).1 ≠ (nv w).1 from ⟨c.1, c.2.1, e.2 c.2.2⟩)]
    exact ⟨turned_nan, rfl⟩
  · have c' : ¬ ((nv v).2.1 = true ∧ (nv w).2.1 = true ∧ (nv v).1 ≠ (nv w).1) := fun h => c ⟨h.1, h.2.1, e.1 h.2.2⟩
    rw [if_neg c, if_neg c']
    by_cases d : v.2.1 = true
    · rw [if_pos d, if_pos (show (nv v).2.1 = true from d)]
      exact rd_turn m v
    · rw [if_neg d, if_neg (show ¬ (nv v).2.1 = true from d)]
      by_cases f : w.2.1 = true
      · rw [if_pos f, if_pos (show (nv w).2.1 = true from f)]
        exact rd_turn m w
      · rw [if_neg f, if_neg (show ¬ (nv w).2.1 = true from f), plusV_turn]
        by_cases g : (plusV v w).2.2.1 = 0 ∧ v.1 ≠ w.1
        · rw [if_pos g, if_pos (show (nv (plusV v w)).2.2.1 = 0 ∧ (nv v).1 ≠ (nv w).1 from ⟨g.1, e.2 g.2⟩)]
          exact ⟨turned_noughts _ _, rfl⟩
        · have g' : ¬ ((nv (plusV v w)).2.2.1 = 0 ∧ (nv v).1 ≠ (nv w).1) := fun h => g ⟨h.1, e.1 h.2⟩
          rw [if_neg g, if_neg g']
          exact rd_turn m _
theorem flip_facts {f : Nat} (hf : f < 18446744073709551616) : fsz (flipF f) = fsz f ∧ fneg (flipF f) = !(fneg f) := by
  unfold flipF fsz fneg
  by_cases c : 9223372036854775808 ≤ f
  · rw [if_pos c]; refine ⟨by omega, ?_⟩; simp [c]; omega
  · rw [if_neg c]; refine ⟨by omega, ?_⟩; simp [c]
theorem valF_flip {f : Nat} (hf : f < 18446744073709551616) : valF (flipF f) = nv (valF f) := by
  obtain ⟨h1, h2⟩ := flip_facts hf
  have h3 : flipF f % 4503599627370496 = f % 4503599627370496 := by unfold flipF; split <;> omega
  unfold valF vsz vex nv
  rw [h1, h2, h3]
  split <;> rfl
theorem nan_flip {f : Nat} (hf : f < 18446744073709551616) : isNan (flipF f) = isNan f := by unfold isNan; rw [(flip_facts hf).1]
theorem addF_turn (m : Int) {f g : Nat} (hf : f < 18446744073709551616) (hg : g < 18446744073709551616) : Turned (addF m f g).1 (addF (tmode m) (flipF f) (flipF g)).1 ∧ (addF m f g).2 = (addF (tmode m) (flipF f) (flipF g)).2 := by
  unfold addF
  rw [nan_flip hf, nan_flip hg, valF_flip hf, valF_flip hg]
  split
  · exact ⟨turned_nan, rfl⟩
  · exact addV_turn m _ _
theorem mulV_e1 {s en t em : Bool} {n k : Nat} {x y : Int} (c1 : en = true ∧ (em = false ∧ k = 0) ∨ (en = false ∧ n = 0) ∧ em = true) : mulV (s, en, n, x) (t, em, k, y) = none := if_pos c1
theorem mulV_e2 {s en t em : Bool} {n k : Nat} {x y : Int} (c1 : ¬ (en = true ∧ (em = false ∧ k = 0) ∨ (en = false ∧ n = 0) ∧ em = true)) (c2 : en = true ∨ em = true) : mulV (s, en, n, x) (t, em, k, y) = some (s != t, true, 0, 0) := (if_neg c1).trans (if_pos c2)
theorem mulV_e3 {s en t em : Bool} {n k : Nat} {x y : Int} (c1 : ¬ (en = true ∧ (em = false ∧ k = 0) ∨ (en = false ∧ n = 0) ∧ em = true)) (c2 : ¬ (en = true ∨ em = true)) : mulV (s, en, n, x) (t, em, k, y) = some (s != t, false, n * k, x + y) := (if_neg c1).trans (if_neg c2)
theorem mulV_turn (v w : Bool × Bool × Nat × Int) : mulV (nv v) w = (mulV v w).map nv := by
  obtain ⟨s, en, n, x⟩ := v
  obtain ⟨t, em, k, y⟩ := w
  have e : ((!s) != t) = !(s != t) := by cases s <;> cases t <;> rfl
  have e' : nv (s, en, n, x) = (!s, en, n, x) := rfl
  rw [e']
  by_cases c1 : en = true ∧ (em = false ∧ k = 0) ∨ (en = false ∧ n = 0) ∧ em = true
  · rw [mulV_e1 c1, mulV_e1 c1, Option.map_none]
  · by_cases c2 : en = true ∨ em = true
    · rw [mulV_e2 c1 c2, mulV_e2 c1 c2, Option.map_some, e]; rfl
    · rw [mulV_e3 c1 c2, mulV_e3 c1 c2, Option.map_some, e]; rfl
theorem mulF_turn (m : Int) {f g : Nat} (hf : f < 18446744073709551616) : Turned (mulF m f g).1 (mulF (tmode m) (flipF f) g).1 ∧ (mulF m f g).2 = (mulF (tmode m) (flipF f) g).2 := by
  unfold mulF
  rw [nan_flip hf, valF_flip hf, mulV_turn]
  by_cases c : (isNan f || isNan g) = true
  · simp only [c, if_true, and_true]; exact turned_nan
  · simp only [if_neg c]
    cases mulV (valF f) (valF g) with
    | none => simp only [Option.map_none, withMul, and_true]; exact turned_nan
    | some v => simp only [Option.map_some, withMul]; exact rd_turn m v
theorem overV_turn (v w : Bool × Bool × Nat × Int) : overV (nv v) w = nv (overV v w) := by
  unfold overV nv
  simp only
  congr 1
  cases v.1 <;> cases w.1 <;> rfl
theorem divV_e1 {s en t em : Bool} {n k : Nat} {x y m : Int} {o : Bool × Bool × Nat × Int} (c1 : (en = true ∧ em = true) ∨ ((en = false ∧ n = 0) ∧ em = false ∧ k = 0)) : divV m (s, en, n, x) (t, em, k, y) o = (9221120237041090560, 16) := if_pos c1
theorem divV_e2 {s en t em : Bool} {n k : Nat} {x y m : Int} {o : Bool × Bool × Nat × Int} (c1 : ¬ ((en = true ∧ em = true) ∨ ((en = false ∧ n = 0) ∧ em = false ∧ k = 0))) (c2 : en = true) : divV m (s, en, n, x) (t, em, k, y) o = rdV m (s != t, true, 0, 0) := (if_neg c1).trans (if_pos c2)
theorem divV_e3 {s en t em : Bool} {n k : Nat} {x y m : Int} {o : Bool × Bool × Nat × Int} (c1 : ¬ ((en = true ∧ em = true) ∨ ((en = false ∧ n = 0) ∧ em = false ∧ k = 0))) (c2 : ¬ en = true) (c3 : em = true ∨ n = 0) : divV m (s, en, n, x) (t, em, k, y) o = rdV m (s != t, false, 0, 0) := (if_neg c1).trans ((if_neg c2).trans (if_pos c3))
theorem divV_e4 {s en t em : Bool} {n k : Nat} {x y m : Int} {o : Bool × Bool × Nat × Int} (c1 : ¬ ((en = true ∧ em = true) ∨ ((en = false ∧ n = 0) ∧ em = false ∧ k = 0))) (c2 : ¬ en = true) (c3 : ¬ (em = true ∨ n = 0)) (c4 : k = 0) : divV m (s, en, n, x) (t, em, k, y) o = ((rdV m (s != t, true, 0, 0)).1, 8) := (if_neg c1).trans ((if_neg c2).trans ((if_neg c3).trans (if_pos c4)))
theorem divV_e5 {s en t em : Bool} {n k : Nat} {x y m : Int} {o : Bool × Bool × Nat × Int} (c1 : ¬ ((en = true ∧ em = true) ∨ ((en = false ∧ n = 0) ∧ em = false ∧ k = 0))) (c2 : ¬ en = true) (c3 : ¬ (em = true ∨ n = 0)) (c4 : ¬ k = 0) : divV m (s, en, n, x) (t, em, k, y) o = rdV m o := (if_neg c1).trans ((if_neg c2).trans ((if_neg c3).trans (if_neg c4)))
theorem divV_turn (m : Int) (v w o : Bool × Bool × Nat × Int) : Turned (divV m v w o).1 (divV (tmode m) (nv v) w (nv o)).1 ∧ (divV m v w o).2 = (divV (tmode m) (nv v) w (nv o)).2 := by
  obtain ⟨s, en, n, x⟩ := v
  obtain ⟨t, em, k, y⟩ := w
  have e : ((!s) != t) = !(s != t) := by cases s <;> cases t <;> rfl
  have e' : nv (s, en, n, x) = (!s, en, n, x) := rfl
  rw [e']
  have T1 := rd_turn m (s != t, true, 0, 0)
  have T2 := rd_turn m (s != t, false, 0, 0)
  rw [show nv (s != t, true, 0, 0) = (!(s != t), true, 0, 0) from rfl] at T1
  rw [show nv (s != t, false, 0, 0) = (!(s != t), false, 0, 0) from rfl] at T2
  by_cases c1 : (en = true ∧ em = true) ∨ ((en = false ∧ n = 0) ∧ em = false ∧ k = 0)
  · rw [divV_e1 c1, divV_e1 c1]; exact ⟨turned_nan, rfl⟩
  · by_cases c2 : en = true
    · rw [divV_e2 c1 c2, divV_e2 c1 c2, e]; exact T1
    · by_cases c3 : em = true ∨ n = 0
      · rw [divV_e3 c1 c2 c3, divV_e3 c1 c2 c3, e]; exact T2
      · by_cases c4 : k = 0
        · rw [divV_e4 c1 c2 c3 c4, divV_e4 c1 c2 c3 c4, e]; generalize rdV m (s != t, true, 0, 0) = A at *; generalize rdV (tmode m) (!(s != t), true, 0, 0) = B at *; exact ⟨T1.1, rfl⟩
        · rw [divV_e5 c1 c2 c3 c4, divV_e5 c1 c2 c3 c4]; exact rd_turn m o
theorem divF_turn (m : Int) {f g : Nat} (hf : f < 18446744073709551616) : Turned (divF m f g (overV (valF f) (valF g))).1 (divF (tmode m) (flipF f) g (overV (valF (flipF f)) (valF g))).1 ∧ (divF m f g (overV (valF f) (valF g))).2 = (divF (tmode m) (flipF f) g (overV (valF (flipF f)) (valF g))).2 := by
  unfold divF
  rw [nan_flip hf, valF_flip hf, overV_turn]
  by_cases c : (isNan f || isNan g) = true
  · simp only [c, if_true, and_true]; exact turned_nan
  · simp only [if_neg c]; exact divV_turn m _ _ _
end Go.Proofs.YtcfhajnboamnnabGreatDoor

namespace Go.Proofs.YtcfhajnboamnnabGreatDoor
open Go.RowKit
set_option linter.unusedVariables false
set_option linter.unusedSimpArgs false

/-- A quotient of floats. -/
def divG (m : Int) (f h : Nat) : Nat × Nat := divF m f h (overV (valF f) (valF h))

theorem over_small (v w : Bool × Bool × Nat × Int) (h1 : -10000 ≤ v.2.2.2 ∧ v.2.2.2 ≤ 10000) (h2 : -10000 ≤ w.2.2.2 ∧ w.2.2.2 ≤ 10000) : -1000000 ≤ (overV v w).2.2.2 ∧ (overV v w).2.2.2 ≤ 1000000 := by
  obtain ⟨s, en, n, x⟩ := v
  obtain ⟨t, em, k, y⟩ := w
  have l1 : lsh n 0 ≤ 128 := by unfold lsh; omega
  have l2 : lsh k 0 ≤ 128 := by unfold lsh; omega
  have e : (overV (s, en, n, x) (t, em, k, y)).2.2.2 = x - (lsh n 0 : Int) + 1 - (y - (lsh k 0 : Int)) - 128 := rfl
  rw [e]
  simp only at h1 h2
  omega

theorem divG_any {w : World} (hR : Ru w) (m : Int) (f h : Nat) (hf : f < 18446744073709551616) (hh : h < 18446744073709551616) :
    Calls Tryz.prog 49 #[.int .u64 f, .int .u64 h, .int .i64 m] w fun e w' => e = .returned (.tuple #[.int .u64 ((divG m f h).1 : Nat), .int .i64 ((divG m f h).2 : Nat)]) ∧ Fwd w w' := by
  obtain ⟨a1, a2, a3⟩ := valF_small f
  obtain ⟨b1, b2, b3⟩ := valF_small h
  refine divF_over hR m f h hf hh (overV (valF f) (valF h)) (over_small _ _ ⟨a2, a3⟩ ⟨b2, b3⟩) fun u v hu hv e1 e2 n1 n2 w => ?_
  generalize valF f = V at *
  generalize valF h = W at *
  obtain ⟨s, en, n, x⟩ := V
  obtain ⟨t, em, k, y⟩ := W
  simp only [VT] at hu hv e1 e2 n1 n2 a1 a2 a3 b1 b2 b3
  subst e1
  subst e2
  exact over_any hu hv n1 n2 a1 b1 (by omega) (by omega) (by omega) (by omega)

theorem ne_beq {a b : Nat} (h : ¬ b = a) : ((b : Int) == (a : Int)) = false := by
  have : (b : Int) ≠ (a : Int) := by omega
  simpa using this

theorem turned_flip {a b : Nat} (ha : a < 18446744073709551616) (h : a = flipF b) (hb : b < 18446744073709551616) : ((a : Int) == (flipF b : Int)) = true := by simp [h]

end Go.Proofs.YtcfhajnboamnnabGreatDoor

namespace Go.Proofs.YtcfhajnboamnnabGreatDoor
open Go.RowKit Go.Ev
set_option linter.unusedVariables false
set_option linter.unusedSimpArgs false

/-- What stands for good: the table of rules. -/
def ruG : Nat → Option (List Value) := fun g => bif Nat.beq g 0 then some rulesL else none
theorem ruG_at : ruG 0 = some rulesL := rfl
theorem ruG_ok {w : World} (hR : Ru w) {g : Nat} {us : List Value} (hg : ruG g = some us) : g < w.heap.size ∧ ∀ j v, us[j]? = some v → w.cell? ⟨g, j, none⟩ = some v := by
  unfold ruG at hg
  rw [beq_nat, cond_decide] at hg
  split at hg
  · rename_i e
    subst e
    obtain rfl := Option.some.inj hg
    exact ⟨World.block_lt_of_cell? w _ (hR 0 _ rfl), hR⟩
  · cases hg
theorem ru_of {st : Bool} {ν : Nat → Rat} {σ : SymD} {B : Nat} {ρ : Env} {w : World} {S : Tr Bk} (hS : SRel (DomQ st ν σ ruG) B ρ w S) : Ru w :=
  fun i v hv => (hS.glob (g := 0) (vs := rulesL) ruG_at).2.2 i v hv

section
variable {st : Bool} {ν : Nat → Rat} {σ : SymD}

def ansF3 (g : Int → Nat → Nat → Nat × Nat) : Ans := fun args S => match args with
  | [.one (.lit (.int .u64 (.ofNat a))), .one (.lit (.int .u64 (.ofNat b))), .one (.lit (.int .i64 m))] =>
    bif Nat.ble (a + 1) 18446744073709551616 && Nat.ble (b + 1) 18446744073709551616 then
      match g m a b with
      | (x, y) => some (.tup [.one (.lit (.int .u64 (.ofNat x))), .one (.lit (.int .i64 (.ofNat y)))])
    else none
  | _ => none

/-- Of two floats and a mode. -/
def orcF3 (f : FuncId) (g : Int → Nat → Nat → Nat × Nat) (h : ∀ {w : World}, Ru w → ∀ (m : Int) (a b : Nat), a < 18446744073709551616 → b < 18446744073709551616 →
    Calls Tryz.prog f #[.int .u64 a, .int .u64 b, .int .i64 m] w fun e w' => e = .returned (.tuple #[.int .u64 ((g m a b).1 : Nat), .int .i64 ((g m a b).2 : Nat)]) ∧ Fwd w w') : OP st ν σ ruG where
  f := f
  ans := ansF3 g
  ok := by
    intro args S av ha B ρ w vs hS hr
    unfold ansF3 at ha
    split at ha
    · rename_i a b m
      cases hb : Nat.ble (a + 1) 18446744073709551616 && Nat.ble (b + 1) 18446744073709551616 with
      | false => rw [hb] at ha; cases ha
      | true =>
        rw [hb] at ha
        simp only [cond_true, Option.some.injEq] at ha
        subst ha
        simp only [Bool.and_eq_true] at hb
        match vs, hr with
        | [u, v, x], ⟨r1, r2, r3, _⟩ =>
          obtain ⟨rfl, _⟩ : u = _ ∧ _ := r1
          obtain ⟨rfl, _⟩ : v = _ ∧ _ := r2
          obtain ⟨rfl, _⟩ : x = _ ∧ _ := r3
          refine (h (ru_of hS) m a b (Nat.le_of_ble_eq_true hb.1) (Nat.le_of_ble_eq_true hb.2)).mono ?_
          rintro e w' ⟨rfl, hf⟩
          exact ⟨_, rfl, ⟨[.int .u64 ((g m a b).1 : Nat), .int .i64 ((g m a b).2 : Nat)], rfl, ⟨rfl, rfl⟩, ⟨rfl, rfl⟩, trivial⟩, hf⟩
    · cases ha

def ansC2 (g : Nat → Nat → Int × Bool) : Ans := fun args S => match args with
  | [.one (.lit (.int .u64 (.ofNat a))), .one (.lit (.int .u64 (.ofNat b)))] =>
    bif Nat.ble (a + 1) 18446744073709551616 && Nat.ble (b + 1) 18446744073709551616 then
      match g a b with
      | (x, y) => some (.tup [.one (.lit (.int .i64 x)), .one (.lit (.bool y))])
    else none
  | _ => none
def orcC2 (f : FuncId) (g : Nat → Nat → Int × Bool) (h : ∀ {w : World} (a b : Nat), a < 18446744073709551616 → b < 18446744073709551616 →
    Calls Tryz.prog f #[.int .u64 a, .int .u64 b] w fun e w' => e = .returned (.tuple #[.int .i64 (g a b).1, .bool (g a b).2]) ∧ w' = w) : OP st ν σ ruG where
  f := f
  ans := ansC2 g
  ok := by
    intro args S av ha B ρ w vs hS hr
    unfold ansC2 at ha
    split at ha
    · rename_i a b
      cases hb : Nat.ble (a + 1) 18446744073709551616 && Nat.ble (b + 1) 18446744073709551616 with
      | false => rw [hb] at ha; cases ha
      | true =>
        rw [hb] at ha
        simp only [cond_true, Option.some.injEq] at ha
        subst ha
        simp only [Bool.and_eq_true] at hb
        match vs, hr with
        | [u, v], ⟨r1, r2, _⟩ =>
          obtain ⟨rfl, _⟩ : u = _ ∧ _ := r1
          obtain ⟨rfl, _⟩ : v = _ ∧ _ := r2
          refine (h a b (Nat.le_of_ble_eq_true hb.1) (Nat.le_of_ble_eq_true hb.2)).mono ?_
          rintro e w' ⟨rfl, rfl⟩
          exact ⟨_, rfl, ⟨[.int .i64 (g a b).1, .bool (g a b).2], rfl, ⟨rfl, rfl⟩, ⟨rfl, rfl⟩, trivial⟩, Below.refl _ _⟩
    · cases ha

def ansOfF (g : Int → Bool → Nat → Nat → Nat × Nat) : Ans := fun args S => match args with
  | [x, .one (.lit (.int .i64 m))] => match reA S x with
    | some (.c n d) => bif okQ (.c n d) then
        match g m (ltI n 0) (n.natAbs / Nat.gcd n.natAbs d) (d / Nat.gcd n.natAbs d) with
        | (x, y) => some (.tup [.one (.lit (.int .u64 (.ofNat x))), .one (.lit (.int .i64 (.ofNat y)))])
      else none
    | _ => none
  | _ => none
def orcOfF (f : FuncId) (g : Int → Bool → Nat → Nat → Nat × Nat) (h : ∀ {w : World} {v : Value} {s : Bool} {N D : Nat}, Ru w → ∀ m : Int, RW w v s N D → nl N ≤ 10000 → nl D ≤ 10000 → D ≠ 0 →
    Calls Tryz.prog f #[v, .int .i64 m] w fun e w' => e = .returned (.tuple #[.int .u64 ((g m s N D).1 : Nat), .int .i64 ((g m s N D).2 : Nat)]) ∧ Fwd w w') (hν : Sized ν) : OP st ν σ ruG where
  f := f
  ans := ansOfF g
  ok := by
    intro args S av ha B ρ w vs hS hr
    unfold ansOfF at ha
    split at ha
    · rename_i x m
      split at ha
      · rename_i n d hx
        cases hb : okQ (.c n d) with
        | false => rw [hb] at ha; cases ha
        | true =>
          rw [hb] at ha
          simp only [cond_true, Option.some.injEq] at ha
          subst ha
          match vs, hr with
          | [u, v], ⟨r1, r2, _⟩ =>
            obtain ⟨rfl, _⟩ : v = _ ∧ _ := r2
            have hq := reA_ok hS hx r1
            have hd := okQ_den hb
            have hn := okQ_nr hν hb
            have e1 : negQ (mkRat n d) = ltI n 0 := by
              rw [negQ_lt, ltI_eq, Bool.eq_iff_iff, decide_eq_true_eq, decide_eq_true_eq]
              exact mkRat_neg_iff hd
            have e2 : (mkRat n d).num.natAbs = n.natAbs / Nat.gcd n.natAbs d := by rw [mkRat_mkQ, mkQ_abs hd]
            have e3 : (mkRat n d).den = d / Nat.gcd n.natAbs d := by rw [mkRat_mkQ, mkQ_den hd]
            have hw : RW w u (negQ (mkRat n d)) (mkRat n d).num.natAbs (mkRat n d).den := hq
            refine (h (ru_of hS) m hw (Nat.le_trans (nr_num _) (Nat.le_trans hn (by omega))) (Nat.le_trans (nr_den _) (Nat.le_trans hn (by omega))) (mkRat n d).den_nz).mono ?_
            rintro e w' ⟨rfl, hf⟩
            rw [e1, e2, e3]
            exact ⟨_, rfl, ⟨[.int .u64 _, .int .i64 _], rfl, ⟨rfl, rfl⟩, ⟨rfl, rfl⟩, trivial⟩, hf⟩
      · cases ha
    · cases ha
end

variable {st : Bool} {ν : Nat → Rat} {σ : SymD}

def oAddF : OP st ν σ ruG := orcF3 57 addF addF_any

def oMulF : OP st ν σ ruG := orcF3 59 mulF mulF_any

def oDivF : OP st ν σ ruG := orcF3 49 divG divG_any

def oCmpF : OP st ν σ ruG := orcC2 52 cmpF cmpF_any

def oOfF (hν : Sized ν) : OP st ν σ ruG := orcOfF 55 ofQ ofQ_any hν

end Go.Proofs.YtcfhajnboamnnabGreatDoor
