/- An array of points in memory; what the walk's operations on it do. -/
import Derived.Test.YtimlpehgafjkpaaXNT4
import Derived.Laws.Rows
import Derived.Laws.Tables
import Derived.Deep.WholeRow
import Derived.Laws.CopyRow
namespace Go.Proofs.Ytimlpehgafjkpaa
open Go.RowKit Go.Maps
set_option linter.unusedVariables false
set_option linter.unusedSimpArgs false

/-- Block g is an array of points that holds L. -/
def Arr (w : World) (g : Nat) (L : List Nat) : Prop := w.heap[g]? = some (.cells (cellsOf L).toArray 57 (0, 0)) ∧ L.length = 1024 ∧ Ok L
theorem Arr.lt {w : World} {g : Nat} {L : List Nat} (h : Arr w g L) : g < w.heap.size := (Array.getElem?_eq_some_iff.1 h.1).1
theorem Arr.cell {w : World} {g : Nat} {L : List Nat} (h : Arr w g L) (i : Nat) (hi : i < 1024) : w.cell? ⟨g, i, none⟩ = some (.int .u32 ((L.getD i 0 : Nat) : Int)) := by
  have hi' : i < L.length := by rw [h.2.1]; exact hi
  simp [World.cell?, h.1, cellsOf, hi', List.getD_eq_getElem?_getD]
theorem Arr.frozen {w : World} {g : Nat} {L : List Nat} (h : Arr w g L) (i : Nat) : w.frozen? ⟨g, i, none⟩ = false := by
  simp [World.frozen?, h.1]
theorem Arr.set {w : World} {g : Nat} {L : List Nat} (h : Arr w g L) (i v : Nat) (hv : v < 4294967296) : Arr (w.setCell ⟨g, i, none⟩ (.int .u32 (v : Int))) g (L.set i v) := by
  refine ⟨?_, by simp [h.2.1], h.2.2.set i v hv⟩
  simp only [World.setCell, Array.getElem?_modify, if_true, h.1, Option.map_some]
  simp [cellsOf, List.map_set]
theorem Arr.fwd {w w' : World} {g : Nat} {L : List Nat} (h : Arr w g L) (k : Fwd w w') : Arr w' g L := ⟨k.blockAt h.1, h.2⟩
theorem Arr.only {w w' : World} {g b : Nat} {L : List Nat} (h : Arr w b L) (k : Only g w w') (hne : b ≠ g) : Arr w' b L := ⟨k.blockAt h.1 hne, h.2⟩
theorem Arr.ok {w : World} {g : Nat} {L : List Nat} (h : Arr w g L) (i : Nat) : L.getD i 0 < 4294967296 := h.2.2.getD i

/-- Points as a value. -/
def ptsV (L : List Nat) : Value := .agg (cellsOf L).toArray
theorem size_pts : (Try.prog.info? 57).map (·.size) = some 1024 := by kernel_rfl
theorem one_cells (L : List Nat) : (cellsOf L).toArray.all (·.oneCell') = true := by
  rw [Array.all_eq_true_iff_forall_mem]
  intro v hv
  simp [cellsOf] at hv
  obtain ⟨a, _, rfl⟩ := hv
  rfl
theorem cells_size (L : List Nat) : (cellsOf L).toArray.size = L.length := by simp [cellsOf]
theorem zero_pts (w : World) : (zeroValue 57).run Try.prog w = .ok (.agg (cellsOf (List.replicate 1024 0)).toArray) w := by
  have h : (Try.prog.info? 57).map (fun i => (i.zero, i.size)) = some (some (.agg (cellsOf (List.replicate 1024 0)).toArray), 1024) := by kernel_rfl
  exact (zero_of_info h).1 w

theorem Arr.load {w : World} {g : Nat} {L : List Nat} (h : Arr w g L) : (Instr.loadAt 57 (.pointer (some ⟨g, 0, none⟩))).run Try.prog w = .ok (ptsV L) w := by
  simp only [Instr.loadAt, Instr.sureAddr, Sem.run_bind, Sem.run_pure, Result.andThen_ok]
  exact run_loadVar_row w g 57 57 _ _ _ h.1 Try.underlying57 rfl (by rw [size_pts, cells_size, h.2.1])
theorem Arr.store {w : World} {g : Nat} {L M : List Nat} (h : Arr w g L) (hl : M.length = 1024) (hM : Ok M) : ∃ w', (Instr.storeAt 57 (.pointer (some ⟨g, 0, none⟩)) (ptsV M)).run Try.prog w = .ok () w' ∧ Arr w' g M ∧ Only g w w' := by
  refine ⟨w.setRow g (cellsOf M).toArray, ?_, ⟨setRow_heap w g _ _ _ _ h.1, hl, hM⟩, ⟨rfl, rfl, rfl, by simp [World.setRow], fun k _ he => setRow_other w g k _ (by simp at he; omega)⟩⟩
  unfold ptsV
  simp only [Instr.storeAt, Instr.sureAddr, Sem.run_bind, Sem.run_pure, Result.andThen_ok]
  rw [run_storeVar_row w g 57 57 _ _ h.1 (by rw [size_pts, cells_size, hl]) (by rw [cells_size, cells_size, hl, h.2.1]) (one_cells M)]
theorem Arr.make (w : World) : ∃ w', (Instr.alloc 57 true (.tuple #[])).run Try.prog w = .ok (.pointer (some ⟨w.heap.size, 0, none⟩)) w' ∧ Arr w' w.heap.size (List.replicate 1024 0) ∧ Fwd w w' := by
  refine ⟨w.alloc (.cells (cellsOf (List.replicate 1024 0)).toArray 57), ?_, ⟨heap_alloc_new w _, List.length_replicate, Ok.replicate _⟩, (Fwd.refl w).alloc _⟩
  have hz := zero_pts w
  generalize List.replicate 1024 0 = Z at *
  simp [Instr.alloc, hz, Result.andThen, newVar, go_sem]
theorem Arr.box (w : World) {L : List Nat} (hl : L.length = 1024) (hL : Ok L) : ∃ w', (Instr.box 57 (ptsV L)).run Try.prog w = .ok (.pointer (some ⟨w.heap.size, 0, none⟩)) w' ∧ Arr w' w.heap.size L ∧ Fwd w w' := by
  refine ⟨w.alloc (.cells (cellsOf L).toArray 57), ?_, ⟨heap_alloc_new w _, hl, hL⟩, (Fwd.refl w).alloc _⟩
  unfold ptsV
  simp [Instr.box, Result.andThen, newVar, go_sem]
end Go.Proofs.Ytimlpehgafjkpaa
