/- sfloat's Div in full; the law's turned. -/
import Derived.Test.YtfegepkhfckamaaGreatDoorXF22
import Derived.Test.YtfegepkhfckamaaGreatDoorKJ
import Derived.Test.YtfegepkhfckamaaGreatDoorXFT
namespace Go.Proofs.YtfegepkhfckamaaGreatDoor
open Go.RowKit
set_option linter.unusedVariables false
set_option linter.unusedSimpArgs false

/-- A quotient of floats. -/
def divG (m : Int) (f h : Nat) : Nat × Nat := divF m f h (overV (valF f) (valF h))

theorem over_small (v w : Bool × Bool × Nat × Int) (h1 : -10000 ≤ v.2.2.2 ∧ v.2.2.2 ≤ 10000) (h2 : -10000 ≤ w.2.2.2 ∧ w.2.2.2 ≤ 10000) : -1000000 ≤ (overV v w).2.2.2 ∧ (overV v w).2.2.2 ≤ 1000000 := by
  obtain ⟨s, en, n, x⟩ := v
  obtain ⟨t, em, k, y⟩ := w
  have l1 : lsh n 0 ≤ 128 := by unfold lsh; omega
  have l2 : lsh k 0 ≤ 128 := by unfold lsh; omega
  have e : (overV (s, en, n, x) (t, em, k, y)).2.2.2 = x - (lsh n 0 : Int) + 1 - (y - (lsh k 0 : Int)) - 128 := rfl
  rw [e]
  simp only at h1 h2
  omega

theorem divG_any {w : World} (hR : Ru w) (m : Int) (f h : Nat) (hf : f < 18446744073709551616) (hh : h < 18446744073709551616) :
    Calls Tryz.prog 20 #[.int .u64 f, .int .u64 h, .int .i64 m] w fun e w' => e = .returned (.tuple #[.int .u64 ((divG m f h).1 : Nat), .int .i64 ((divG m f h).2 : Nat)]) ∧ Fwd w w' := by
  obtain ⟨a1, a2, a3⟩ := valF_small f
  obtain ⟨b1, b2, b3⟩ := valF_small h
  refine divF_over hR m f h hf hh (overV (valF f) (valF h)) (over_small _ _ ⟨a2, a3⟩ ⟨b2, b3⟩) fun u v hu hv e1 e2 n1 n2 w => ?_
  generalize valF f = V at *
  generalize valF h = W at *
  obtain ⟨s, en, n, x⟩ := V
  obtain ⟨t, em, k, y⟩ := W
  simp only [VT] at hu hv e1 e2 n1 n2 a1 a2 a3 b1 b2 b3
  subst e1
  subst e2
  exact over_any hu hv n1 n2 a1 b1 (by omega) (by omega) (by omega) (by omega)

theorem ne_beq {a b : Nat} (h : ¬ b = a) : ((b : Int) == (a : Int)) = false := by
  have : (b : Int) ≠ (a : Int) := by omega
  simpa using this

theorem turned_flip {a b : Nat} (ha : a < 18446744073709551616) (h : a = flipF b) (hb : b < 18446744073709551616) : ((a : Int) == (flipF b : Int)) = true := by simp [h]

end Go.Proofs.YtfegepkhfckamaaGreatDoor
