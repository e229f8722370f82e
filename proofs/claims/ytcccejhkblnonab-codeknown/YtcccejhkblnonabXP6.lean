/- The program's rational numbers: join, Add, Sub. -/
import Derived.Test.YtcccejhkblnonabKL
import Derived.Deep.DeepCutAuto
namespace Go.Proofs.Ytcccejhkblnonab
open Go.RowKit
set_option linter.unusedVariables false

theorem Fwd.undrew {a w : World} (h : Fwd a w) : Fwd a.drew w := ⟨h.os, h.tape, h.output, h.size, h.block⟩
theorem cell_drew_alloc {w : World} {o : Obj} {p : Addr} {v : Value} (h : w.drew.cell? p = some v) : (w.alloc o).drew.cell? p = some v := Fwd.cell ((Fwd.refl w).alloc o) h
theorem only_of_set2 {w : World} {g : Nat} {T : TypeId} {cs : List Value} (k : BlkV w g T cs) (a b : Value) : Only g w ((w.setCell ⟨g, 0, none⟩ a).setCell ⟨g, 1, none⟩ b) := (Only.set _ _ _ _).setv _ _
theorem only_of_set3 {w : World} {g : Nat} {T : TypeId} {cs : List Value} (k : BlkV w g T cs) (a b c : Value) : Only g w (((w.setCell ⟨g, 0, none⟩ a).setCell ⟨g, 1, none⟩ b).setCell ⟨g, 2, none⟩ c) := ((Only.set _ _ _ _).setv _ _).setv _ _

end Go.Proofs.Ytcccejhkblnonab
