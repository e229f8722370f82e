/- The program's gen: does a number of one row stand in another one (meet). -/
import Derived.Test.YtnknbeinnfhomaaGreatDoorXN1
namespace Go.Proofs.YtnknbeinnfhomaaGreatDoor
open Go.RowKit Go.Maps
set_option linter.unusedVariables false
set_option linter.unusedSimpArgs false

/-- A row of rational numbers. -/
def RowV (w : World) (v : Value) (qs : List Rat) : Prop :=
  (v = .slice none 0 0 ∧ qs = []) ∨ ∃ b off cap, v = .slice (some ⟨b, off, none⟩) qs.length cap ∧ qs.length ≤ cap ∧ cap ≤ maxLen ∧ b < w.heap.size ∧
    ∀ i, i < qs.length → ∃ x y, w.cell? ⟨b, off + i * 3, none⟩ = some (.bool (negQ (qs.getD i 0))) ∧ w.cell? ⟨b, off + i * 3 + 1, none⟩ = some x ∧ w.cell? ⟨b, off + i * 3 + 2, none⟩ = some y ∧ Num w x (qs.getD i 0).num.natAbs ∧ Num w y (qs.getD i 0).den
theorem RowV.fwd {w w' : World} {v : Value} {qs : List Rat} (h : RowV w v qs) (k : Fwd w w') : RowV w' v qs := by
  rcases h with h | ⟨b, off, cap, h1, h2, h3, h4, h5⟩
  · exact .inl h
  · refine .inr ⟨b, off, cap, h1, h2, h3, Nat.lt_of_lt_of_le h4 k.size, fun i hi => ?_⟩
    obtain ⟨x, y, c1, c2, c3, n1, n2⟩ := h5 i hi
    exact ⟨x, y, k.cell c1, k.cell c2, k.cell c3, n1.fwd k, n2.fwd k⟩

/-- Is a number of the one a number of the other? -/
def meetB (ps qs : List Rat) : Bool := qs.any fun q => ps.any fun p => decide (p = q)

/-- The set of the numbers. -/
def setQ (K : Rat → Lit) (qs : List Rat) : DataW Unit := setOf (.agg []) (qs.map K)
theorem setQ_nil (K : Rat → Lit) : setQ K [] = .map [] := rfl
theorem setQ_snoc (K : Rat → Lit) (qs : List Rat) (q : Rat) : setQ K (qs ++ [q]) = (setQ K qs).put (K q) (.agg []) := by
  unfold setQ setOf
  rw [List.map_append, List.foldl_append]; rfl
theorem setQ_take (K : Rat → Lit) (qs : List Rat) (k : Nat) (hk : k < qs.length) : setQ K (qs.take (k + 1)) = (setQ K (qs.take k)).put (K (qs.getD k 0)) (.agg []) := by
  rw [List.take_succ_eq_append_getElem hk, setQ_snoc]
  simp [hk]

/-- A row, opened at a place. -/
theorem RowV.open {w : World} {v : Value} {qs : List Rat} (h : RowV w v qs) : ∃ base cap, v = .slice base qs.length cap ∧ qs.length ≤ cap ∧ cap ≤ maxLen ∧
    ∀ w' i, Fwd w w' → i < qs.length → ∃ b off x y, base = some ⟨b, off, none⟩ ∧ w'.cell? ⟨b, off + i * 3, none⟩ = some (.bool (negQ (qs.getD i 0))) ∧ w'.cell? ⟨b, off + i * 3 + 1, none⟩ = some x ∧ w'.cell? ⟨b, off + i * 3 + 2, none⟩ = some y ∧ RV w' (.agg #[.bool (negQ (qs.getD i 0)), x, y]) (qs.getD i 0) := by
  rcases h with ⟨rfl, rfl⟩ | ⟨b, off, cap, rfl, h2, h3, h4, h5⟩
  · exact ⟨none, 0, rfl, Nat.le_refl _, by unfold maxLen; omega, fun w' i _ hi => by simp at hi⟩
  · refine ⟨some ⟨b, off, none⟩, cap, rfl, h2, h3, fun w' i hw hi => ?_⟩
    obtain ⟨x, y, c1, c2, c3, n1, n2⟩ := h5 i hi
    exact ⟨b, off, x, y, rfl, hw.cell c1, hw.cell c2, hw.cell c3, ⟨x, y, rfl, n1.fwd hw, n2.fwd hw⟩⟩

theorem RV.sl1 {w : World} {s : Bool} {x y : Value} {q : Rat} (h : RV w (.agg #[.bool s, x, y]) q) : Sl x := by
  obtain ⟨a, b, e, h1, h2⟩ := h
  simp at e
  obtain ⟨_, rfl, rfl⟩ := e
  exact h1.sl
theorem RV.sl2 {w : World} {s : Bool} {x y : Value} {q : Rat} (h : RV w (.agg #[.bool s, x, y]) q) : Sl y := by
  obtain ⟨a, b, e, h1, h2⟩ := h
  simp at e
  obtain ⟨_, rfl, rfl⟩ := e
  exact h2.sl

end Go.Proofs.YtnknbeinnfhomaaGreatDoor
