/- A block that holds given cells. -/
import Derived.Test.YtimlpehgafjkpaaKA
namespace Go.Proofs.Ytimlpehgafjkpaa
open Go.RowKit
set_option linter.unusedVariables false

/-- Block g holds these cells. -/
def BlkV (w : World) (g : Nat) (T : TypeId) (cs : List Value) : Prop := w.heap[g]? = some (.cells cs.toArray T (0, 0))
theorem BlkV.lt {w : World} {g : Nat} {T : TypeId} {cs : List Value} (h : BlkV w g T cs) : g < w.heap.size := (Array.getElem?_eq_some_iff.1 h).1
theorem BlkV.cell {w : World} {g : Nat} {T : TypeId} {cs : List Value} (h : BlkV w g T cs) (i : Nat) {v : Value} (hi : cs[i]? = some v) : w.cell? ⟨g, i, none⟩ = some v := by
  unfold BlkV at h
  simp [World.cell?, h, hi]
theorem BlkV.frozen {w : World} {g : Nat} {T : TypeId} {cs : List Value} (h : BlkV w g T cs) (i : Nat) : w.frozen? ⟨g, i, none⟩ = false := by
  unfold BlkV at h
  simp [World.frozen?, h]
theorem BlkV.set {w : World} {g : Nat} {T : TypeId} {cs : List Value} (h : BlkV w g T cs) (i : Nat) (v : Value) : BlkV (w.setCell ⟨g, i, none⟩ v) g T (cs.set i v) := by
  unfold BlkV at h ⊢
  simp only [World.setCell, Array.getElem?_modify, if_true, h, Option.map_some]
  simp
theorem BlkV.fwd {w w' : World} {g : Nat} {T : TypeId} {cs : List Value} (h : BlkV w g T cs) (k : Fwd w w') : BlkV w' g T cs := k.blockAt h
theorem BlkV.only {w w' : World} {g b : Nat} {T : TypeId} {cs : List Value} (h : BlkV w b T cs) (k : Only g w w') (hne : b ≠ g) : BlkV w' b T cs := k.blockAt h hne
theorem BlkV.drewN {w : World} {g : Nat} {T : TypeId} {cs : List Value} (h : BlkV w g T cs) (n : Nat) : BlkV (w.drewN n) g T cs := h
theorem BlkV.drew {w : World} {g : Nat} {T : TypeId} {cs : List Value} (h : BlkV w g T cs) : BlkV w.drew g T cs := h
theorem BlkV.made (w : World) (T : TypeId) (cs : List Value) : BlkV (w.alloc (.cells cs.toArray T)) w.heap.size T cs := heap_alloc_new w _
theorem BlkV.made2 (w : World) (T : TypeId) (o : Obj) (cs : List Value) : BlkV ((w.alloc o).alloc (.cells cs.toArray T)) (w.heap.size + 1) T cs := by
  have := BlkV.made (w.alloc o) T cs
  simpa using this
theorem BlkV.alloc {w : World} {g : Nat} {T : TypeId} {cs : List Value} (h : BlkV w g T cs) (o : Obj) : BlkV (w.alloc o) g T cs := h.fwd ((Fwd.refl w).alloc o)
theorem BlkV.made' (w : World) (g : Nat) (hg : g = w.heap.size) (T : TypeId) (cs : List Value) : BlkV (w.alloc (.cells cs.toArray T)) g T cs := by
  subst hg; exact BlkV.made w T cs
theorem farset {w : World} {g i : Nat} {a v : Value} {p : Addr} (h : p.block ≠ g) (hc : w.cell? p = some v) : (w.setCell ⟨g, i, none⟩ a).cell? p = some v := (Only.set g w i a).cell hc h
/-- A goal that the walk does not enter. -/
structure Held (p : Prop) : Prop where
  out : p
theorem stop_here {P : Program} {f : Func} {Q : Ending → World → Prop} {e : Exit} {a : Act} {w : World} (h : Held (bodyPost P f Q e a w)) : bodyPost P f Q e a w := h.out
theorem Fwd.set {a w : World} {g i : Nat} {v : Value} (h : Fwd a w) (hg : a.heap.size ≤ g) : Fwd a (w.setCell ⟨g, i, none⟩ v) := h.wrote (Only.set g w i v) hg

end Go.Proofs.Ytimlpehgafjkpaa
