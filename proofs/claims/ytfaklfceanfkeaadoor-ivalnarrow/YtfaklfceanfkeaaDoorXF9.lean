/- sfloat's plus. -/
import Derived.Test.YtfaklfceanfkeaaDoorXFM
namespace Go.Proofs.YtfaklfceanfkeaaDoor
open Go.RowKit
set_option linter.unusedVariables false

/-- A value's parts, told together. -/
def VT (v : Value) (t : Bool × Bool × Nat × Int) : Prop := VV v t.1 t.2.1 t.2.2.1 t.2.2.2

theorem BlkV.on {w : World} {g : Nat} {T : TypeId} {cs : List Value} (h : BlkV w g T cs) (i : Nat) (v : Value) : Only g w (w.setCell ⟨g, i, none⟩ v) := Only.set g w i v

theorem wdown_to {w : World} {v : Value} {n k : Nat} {y : Int} (h : WV v n) (hk : k ≤ 9000000000000000000) (hy : y = (k : Int)) : Calls Tryd.prog 49 #[v, .int .i64 y] w fun e w' => ∃ x, e = .returned x ∧ WV x (dn n k) ∧ Fwd w w' := by
  subst hy; exact wdown_any h hk

theorem lifted1_any {w : World} {v : Value} {s en : Bool} {n : Nat} {x : Int} (h : VV v s en n x) (hn : n ≠ 0) (hb : blen n ≤ 127) (hx1 : -1000000 ≤ x) (hx2 : x ≤ 1000000) :
    Calls Tryd.prog 48 #[v, .int .i64 1] w fun e w' => ∃ u, e = .returned u ∧ Fwd w w' ∧ VV u s en (n * 2 ^ lsh n 1) (x - lsh n 1) :=
  lifted_any (r := 1) h hn (by omega) hx1 hx2

theorem lift1_lt {n : Nat} (h : n ≠ 0) (hb : blen n ≤ 127) : n * 2 ^ lsh n 1 < 170141183460469231731687303715884105728 := by
  have h1 := lt_blen n
  have h2 : n * 2 ^ lsh n 1 < 2 ^ blen n * 2 ^ lsh n 1 := Nat.mul_lt_mul_of_pos_right h1 (Nat.two_pow_pos _)
  rw [← Nat.pow_add] at h2
  have h3 : 2 ^ (blen n + lsh n 1) ≤ 2 ^ 127 := Nat.pow_le_pow_right (by omega) (by unfold lsh; omega)
  exact Nat.lt_of_lt_of_le h2 h3

theorem dn_le {n k : Nat} (h : n < 170141183460469231731687303715884105728) : dn n k < 170141183460469231731687303715884105728 :=
  dn_lt (j := 127) (by omega) (Nat.lt_of_lt_of_le h (Nat.pow_le_pow_right (n := 2) (i := 127) (by omega) (by omega)))

end Go.Proofs.YtfaklfceanfkeaaDoor
