/- The program's rational numbers: join, Add, Sub. -/
/- The program's rational numbers: join, of differences. -/
/- The program's rational numbers: Add, Sub. -/
/- The second telling's Int. -/
import Derived.Test.YtcccejhkblnonabYKL
import Derived.Deep.DeepCutAuto
import Derived.Test.YtcccejhkblnonabKI
namespace Go.Proofs.Ytcccejhkblnonab
open Go.RowKit
set_option linter.unusedVariables false

theorem Fwd.undrew {a w : World} (h : Fwd a w) : Fwd a.drew w := ⟨h.os, h.tape, h.output, h.size, h.block⟩
theorem cell_drew_alloc {w : World} {o : Obj} {p : Addr} {v : Value} (h : w.drew.cell? p = some v) : (w.alloc o).drew.cell? p = some v := Fwd.cell ((Fwd.refl w).alloc o) h
theorem only_of_set2 {w : World} {g : Nat} {T : TypeId} {cs : List Value} (k : BlkV w g T cs) (a b : Value) : Only g w ((w.setCell ⟨g, 0, none⟩ a).setCell ⟨g, 1, none⟩ b) := (Only.set _ _ _ _).setv _ _
theorem only_of_set3 {w : World} {g : Nat} {T : TypeId} {cs : List Value} (k : BlkV w g T cs) (a b c : Value) : Only g w (((w.setCell ⟨g, 0, none⟩ a).setCell ⟨g, 1, none⟩ b).setCell ⟨g, 2, none⟩ c) := ((Only.set _ _ _ _).setv _ _).setv _ _

end Go.Proofs.Ytcccejhkblnonab

namespace Go.Proofs.Ytcccejhkblnonab
open Go.RowKit
set_option linter.unusedVariables false

end Go.Proofs.Ytcccejhkblnonab

namespace Go.Proofs.Ytcccejhkblnonab
open Go.RowKit
set_option linter.unusedVariables false

end Go.Proofs.Ytcccejhkblnonab

namespace Go.Proofs.Ytcccejhkblnonab
open Go.RowKit
set_option linter.unusedVariables false

theorem mkQ_int (n : Int) : mkQ (!(decide (n < 0) == decide ((1 : Int) < 0))) n.natAbs (1 : Int).natAbs = (n : Rat) := by
  have h1 : decide ((1 : Int) < 0) = false := by decide
  have h2 : (1 : Int).natAbs = 1 := rfl
  have h3 : sgQ (!(decide (n < 0) == false)) n.natAbs = n := by
    by_cases h : n < 0
    · simp [sgQ, h]; omega
    · simp [sgQ, h]; omega
  unfold mkQ
  rw [h1, h2, h3, Rat.mkRat_one]

end Go.Proofs.Ytcccejhkblnonab
