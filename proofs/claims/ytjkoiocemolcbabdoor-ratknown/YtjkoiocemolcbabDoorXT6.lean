/- Contract of the second telling's Parse. -/
import Derived.Test.YtjkoiocemolcbabDoorKF
import Derived.Deep.RegionWith
namespace Go.Proofs.YtjkoiocemolcbabDoor
open Go.RowKit
set_option linter.unusedVariables false

theorem ten_lit (w : World) : Num (w.alloc (.cells #[.int .u32 10] 61)) (.slice (some ⟨w.heap.size, 0, none⟩) 1 1) 10 := by
  have hb := Blk.lit w [10] (Ok.cons (by omega) Ok.nil) #[.int .u32 10] rfl
  have := Blk.rdAll hb 1 (by simp) (le_maxLen (by omega))
  exact this

end Go.Proofs.YtjkoiocemolcbabDoor
