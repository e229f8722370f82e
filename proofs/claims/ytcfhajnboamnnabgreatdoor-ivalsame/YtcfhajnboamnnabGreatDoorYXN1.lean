/- The program's gen: a number as a map's key (nodeOf). -/
/- The program's gen: does a number of one row stand in another one (meet). -/
/- The program's gen: a number that is refused; the second telling's Neg. -/
/- The program's rational numbers: join, Add, Sub. -/
/- The program's rational numbers: join, of differences. -/
/- The program's rational numbers: Add, Sub. -/
/- The second telling's Int. -/
import Derived.Test.YtcfhajnboamnnabGreatDoorYXFS
import Derived.Maps.OwnSet
import Derived.DeepKeys4
import Derived.Test.YtcfhajnboamnnabGreatDoorYXEV15
import Derived.Deep.DeepCutAuto
import Derived.Test.YtcfhajnboamnnabGreatDoorKI
namespace Go.Proofs.YtcfhajnboamnnabGreatDoor
open Go.RowKit
set_option linter.unusedVariables false

/-- Limbs, filled up to four. -/
def padL (xs : List Nat) : List Nat := xs ++ List.replicate (4 - xs.length) 0
theorem padL_len {xs : List Nat} (h : xs.length ≤ 4) : (padL xs).length = 4 := by simp [padL]; omega
theorem val_zeros : ∀ k : Nat, val (List.replicate k 0) = 0
  | 0 => rfl
  | k + 1 => by rw [List.replicate_succ]; simp [val, val_zeros k]
theorem val_app (xs ys : List Nat) : val (xs ++ ys) = val xs + 4294967296 ^ xs.length * val ys := by
  induction xs with
  | nil => simp [val]
  | cons x xs ih =>
    simp only [List.cons_append, val, ih, List.length_cons, Nat.pow_succ]
    grind
theorem val_pad (xs : List Nat) : val (padL xs) = val xs := by
  unfold padL
  rw [val_app, val_zeros]; simp
theorem padL_ok {xs : List Nat} (h : Ok xs) : Ok (padL xs) := h.append (Ok.replicate _)

/-- A number as a key. -/
def nodeL (q : Rat) : List Value := .bool (negQ q) :: (cellsOf (padL (lim q.num.natAbs)) ++ cellsOf (padL (lim q.den)))
theorem nodeL_len {q : Rat} (h : nr q ≤ 4) : (nodeL q).length = 9 := by
  have h1 : (lim q.num.natAbs).length ≤ 4 := Nat.le_trans (nr_num q) h
  have h2 : (lim q.den).length ≤ 4 := Nat.le_trans (nr_den q) h
  simp [nodeL, cellsOf, padL_len h1, padL_len h2]
theorem cellsOf_inj {xs ys : List Nat} (h : cellsOf xs = cellsOf ys) : xs = ys := by
  unfold cellsOf at h
  refine (List.map_inj_right (fun a b hab => ?_)).1 h
  simp at hab; omega
theorem nodeL_inj {p q : Rat} (hp : nr p ≤ 4) (hq : nr q ≤ 4) (h : nodeL p = nodeL q) : p = q := by
  have p1 : (lim p.num.natAbs).length ≤ 4 := Nat.le_trans (nr_num p) hp
  have q1 : (lim q.num.natAbs).length ≤ 4 := Nat.le_trans (nr_num q) hq
  unfold nodeL at h
  obtain ⟨h0, h1⟩ := List.cons.inj h
  have hl : (cellsOf (padL (lim p.num.natAbs))).length = (cellsOf (padL (lim q.num.natAbs))).length := by simp [cellsOf, padL_len p1, padL_len q1]
  obtain ⟨h2, h3⟩ := List.append_inj h1 hl
  have e1 := congrArg val (cellsOf_inj h2)
  have e2 := congrArg val (cellsOf_inj h3)
  rw [val_pad, val_pad, val_lim, val_lim] at e1 e2
  have e0 : negQ p = negQ q := by simpa using h0
  rw [← mkQ_self p, ← mkQ_self q, e0, e1, e2]

/-- copy(dst, src): dst a piece of a row of the call's own that holds other things, too. -/
theorem copyV_run {w : World} {g off n cap : Nat} {v : Value} {T : TypeId} {cs : List Value} {xs : List Nat} (hb : BlkV w g T cs) (hv : Rd w v xs) (hle : xs.length ≤ n) (hfit : off + n ≤ cs.length) :
    ∃ w', (∀ ty, (Builtin.copy_ #[25, 25] ty #[.slice (some ⟨g, off, none⟩) n cap, v]).run Tryz.prog w = .ok (goInt xs.length) w') ∧ BlkV w' g T (cs.take off ++ (cellsOf xs ++ cs.drop (off + xs.length))) ∧ Only g w w' := by
  by_cases h0 : xs.length = 0
  · obtain rfl : xs = [] := List.eq_nil_of_length_eq_zero h0
    have hs' : ∃ sp sc, v = .slice sp 0 sc := by
      rcases hv.2 with ⟨e, _⟩ | ⟨b, off, c, e, _⟩
      · exact ⟨none, 0, e⟩
      · exact ⟨_, _, e⟩
    obtain ⟨sp, sc, rfl⟩ := hs'
    exact ⟨w, fun ty => run_copy_none (P := Tryz.prog) w 25 25 ty 65 (some ⟨g, off, none⟩) sp n cap 0 sc Tryz.underlying25 size_u32 (by simp), by simpa [cellsOf] using hb, Only.refl _ _⟩
  · rcases hv.2 with ⟨_, e⟩ | ⟨b, so, c, rfl, h1, h2, h3, h4⟩
    · subst e; simp at h0
    · have e3 : (cellsOf xs).length = xs.length := by simp [cellsOf]
      refine ⟨w.setRow g (cs.take off ++ (cellsOf xs ++ cs.drop (off + xs.length))).toArray, fun ty => ?_, setRow_heap w g _ _ _ _ hb, ⟨rfl, rfl, rfl, by simp [World.setRow], fun k _ he => setRow_other w g k _ (by simp at he; omega)⟩⟩
      have := run_copy_row (P := Tryz.prog) w 25 25 ty 65 g off n cap ⟨b, so, none⟩ xs.length c cs.toArray T (cellsOf xs) Tryz.underlying25 size_u32 hb
        (by rw [e3]; exact (Nat.min_eq_left hle).symm) ?_ (by simp [cellsOf]; omega) ?_
      · rw [e3, List.append_assoc] at this; exact this
      · intro j u hj
        have hjl : j < xs.length := by
          rcases Nat.lt_or_ge j xs.length with hlt | hge
          · exact hlt
          · simp [cellsOf, List.getElem?_eq_none hge] at hj
        have := h3 j hjl
        simp [cellsOf, hjl] at hj
        rw [show (⟨b, so, none⟩ : Addr).add j = ⟨b, so + j, none⟩ from by unfold Addr.add; split <;> simp_all, this, ← hj]
        simp [hjl]
      · intro u hu
        simp only [cellsOf, List.mem_map] at hu
        obtain ⟨x, _, rfl⟩ := hu; rfl

theorem node_first (b : Value) {xs : List Nat} (h : xs.length ≤ 4) : (b :: cellsOf (List.replicate 8 0)).take 1 ++ (cellsOf xs ++ (b :: cellsOf (List.replicate 8 0)).drop (1 + xs.length)) = b :: (cellsOf (padL xs) ++ cellsOf (List.replicate 4 0)) := by
  rw [show 1 + xs.length = xs.length + 1 by omega]
  simp only [List.take_succ_cons, List.take_zero, List.drop_succ_cons, List.cons_append, List.nil_append, cellsOf, padL, List.map_append, List.map_replicate, List.drop_replicate]
  rw [show 8 - xs.length = (4 - xs.length) + 4 by omega, ← List.replicate_append_replicate, List.append_assoc]
theorem node_second (b : Value) {xs ys : List Nat} (h1 : xs.length ≤ 4) (h : ys.length ≤ 4) : (b :: (cellsOf (padL xs) ++ cellsOf (List.replicate 4 0))).take 5 ++ (cellsOf ys ++ (b :: (cellsOf (padL xs) ++ cellsOf (List.replicate 4 0))).drop (5 + ys.length)) = b :: (cellsOf (padL xs) ++ cellsOf (padL ys)) := by
  have e : (cellsOf (padL xs)).length = 4 := by simp [cellsOf, padL_len h1]
  rw [show 5 + ys.length = (4 + ys.length) + 1 by omega]
  simp only [List.take_succ_cons, List.drop_succ_cons, List.cons_append]
  rw [List.take_append_of_le_length (by omega), List.take_of_length_le (by omega), List.drop_append, List.drop_of_length_le (by omega), e, show 4 + ys.length - 4 = ys.length by omega]
  simp only [cellsOf, padL, List.map_append, List.map_replicate, List.drop_replicate, List.nil_append, List.append_assoc]

end Go.Proofs.YtcfhajnboamnnabGreatDoor

namespace Go.Proofs.YtcfhajnboamnnabGreatDoor
open Go.RowKit Go.Maps
set_option linter.unusedVariables false
set_option linter.unusedSimpArgs false

/-- A row of rational numbers. -/
def RowV (w : World) (v : Value) (qs : List Rat) : Prop :=
  (v = .slice none 0 0 ∧ qs = []) ∨ ∃ b off cap, v = .slice (some ⟨b, off, none⟩) qs.length cap ∧ qs.length ≤ cap ∧ cap ≤ maxLen ∧ b < w.heap.size ∧
    ∀ i, i < qs.length → ∃ x y, w.cell? ⟨b, off + i * 3, none⟩ = some (.bool (negQ (qs.getD i 0))) ∧ w.cell? ⟨b, off + i * 3 + 1, none⟩ = some x ∧ w.cell? ⟨b, off + i * 3 + 2, none⟩ = some y ∧ Num w x (qs.getD i 0).num.natAbs ∧ Num w y (qs.getD i 0).den
theorem RowV.fwd {w w' : World} {v : Value} {qs : List Rat} (h : RowV w v qs) (k : Fwd w w') : RowV w' v qs := by
  rcases h with h | ⟨b, off, cap, h1, h2, h3, h4, h5⟩
  · exact .inl h
  · refine .inr ⟨b, off, cap, h1, h2, h3, Nat.lt_of_lt_of_le h4 k.size, fun i hi => ?_⟩
    obtain ⟨x, y, c1, c2, c3, n1, n2⟩ := h5 i hi
    exact ⟨x, y, k.cell c1, k.cell c2, k.cell c3, n1.fwd k, n2.fwd k⟩

/-- Is a number of the one a number of the other? -/
def meetB (ps qs : List Rat) : Bool := qs.any fun q => ps.any fun p => decide (p = q)

/-- The set of the numbers. -/
def setQ (K : Rat → Lit) (qs : List Rat) : DataW Unit := setOf (.agg []) (qs.map K)
theorem setQ_nil (K : Rat → Lit) : setQ K [] = .map [] := rfl
theorem setQ_snoc (K : Rat → Lit) (qs : List Rat) (q : Rat) : setQ K (qs ++ [q]) = (setQ K qs).put (K q) (.agg []) := by
  unfold setQ setOf
  rw [List.map_append, List.foldl_append]; rfl
theorem setQ_take (K : Rat → Lit) (qs : List Rat) (k : Nat) (hk : k < qs.length) : setQ K (qs.take (k + 1)) = (setQ K (qs.take k)).put (K (qs.getD k 0)) (.agg []) := by
  rw [List.take_succ_eq_append_getElem hk, setQ_snoc]
  simp [hk]

/-- A row, opened at a place. -/
theorem RowV.open {w : World} {v : Value} {qs : List Rat} (h : RowV w v qs) : ∃ base cap, v = .slice base qs.length cap ∧ qs.length ≤ cap ∧ cap ≤ maxLen ∧
    ∀ w' i, Fwd w w' → i < qs.length → ∃ b off x y, base = some ⟨b, off, none⟩ ∧ w'.cell? ⟨b, off + i * 3, none⟩ = some (.bool (negQ (qs.getD i 0))) ∧ w'.cell? ⟨b, off + i * 3 + 1, none⟩ = some x ∧ w'.cell? ⟨b, off + i * 3 + 2, none⟩ = some y ∧ RV w' (.agg #[.bool (negQ (qs.getD i 0)), x, y]) (qs.getD i 0) := by
  rcases h with ⟨rfl, rfl⟩ | ⟨b, off, cap, rfl, h2, h3, h4, h5⟩
  · exact ⟨none, 0, rfl, Nat.le_refl _, by unfold maxLen; omega, fun w' i _ hi => by simp at hi⟩
  · refine ⟨some ⟨b, off, none⟩, cap, rfl, h2, h3, fun w' i hw hi => ?_⟩
    obtain ⟨x, y, c1, c2, c3, n1, n2⟩ := h5 i hi
    exact ⟨b, off, x, y, rfl, hw.cell c1, hw.cell c2, hw.cell c3, ⟨x, y, rfl, n1.fwd hw, n2.fwd hw⟩⟩

theorem RV.sl1 {w : World} {s : Bool} {x y : Value} {q : Rat} (h : RV w (.agg #[.bool s, x, y]) q) : Sl x := by
  obtain ⟨a, b, e, h1, h2⟩ := h
  simp at e
  obtain ⟨_, rfl, rfl⟩ := e
  exact h1.sl
theorem RV.sl2 {w : World} {s : Bool} {x y : Value} {q : Rat} (h : RV w (.agg #[.bool s, x, y]) q) : Sl y := by
  obtain ⟨a, b, e, h1, h2⟩ := h
  simp at e
  obtain ⟨_, rfl, rfl⟩ := e
  exact h2.sl

end Go.Proofs.YtcfhajnboamnnabGreatDoor

namespace Go.Proofs.YtcfhajnboamnnabGreatDoor
open Go.RowKit
set_option linter.unusedVariables false
set_option linter.unusedSimpArgs false

theorem Rd.sl {w : World} {v : Value} {xs : List Nat} (h : Rd w v xs) : ∃ a c, v = .slice a xs.length c ∧ xs.length ≤ c ∧ c ≤ maxLen := by
  rcases h.2 with ⟨rfl, rfl⟩ | ⟨b, off, cap, rfl, h1, h2, _⟩
  · exact ⟨none, 0, rfl, Nat.le_refl _, by unfold maxLen; omega⟩
  · exact ⟨_, cap, rfl, h1, h2⟩

def refusedR (s : Bool) (xs ys : List Nat) : Bool := decide (4 < xs.length) || (decide (4 < ys.length) || !rightR s xs ys)

end Go.Proofs.YtcfhajnboamnnabGreatDoor

namespace Go.Proofs.YtcfhajnboamnnabGreatDoor
open Go.RowKit
set_option linter.unusedVariables false

theorem Fwd.undrew {a w : World} (h : Fwd a w) : Fwd a.drew w := ⟨h.os, h.tape, h.output, h.size, h.block⟩
theorem cell_drew_alloc {w : World} {o : Obj} {p : Addr} {v : Value} (h : w.drew.cell? p = some v) : (w.alloc o).drew.cell? p = some v := Fwd.cell ((Fwd.refl w).alloc o) h
theorem only_of_set2 {w : World} {g : Nat} {T : TypeId} {cs : List Value} (k : BlkV w g T cs) (a b : Value) : Only g w ((w.setCell ⟨g, 0, none⟩ a).setCell ⟨g, 1, none⟩ b) := (Only.set _ _ _ _).setv _ _
theorem only_of_set3 {w : World} {g : Nat} {T : TypeId} {cs : List Value} (k : BlkV w g T cs) (a b c : Value) : Only g w (((w.setCell ⟨g, 0, none⟩ a).setCell ⟨g, 1, none⟩ b).setCell ⟨g, 2, none⟩ c) := ((Only.set _ _ _ _).setv _ _).setv _ _

end Go.Proofs.YtcfhajnboamnnabGreatDoor

namespace Go.Proofs.YtcfhajnboamnnabGreatDoor
open Go.RowKit
set_option linter.unusedVariables false

end Go.Proofs.YtcfhajnboamnnabGreatDoor

namespace Go.Proofs.YtcfhajnboamnnabGreatDoor
open Go.RowKit
set_option linter.unusedVariables false

end Go.Proofs.YtcfhajnboamnnabGreatDoor

namespace Go.Proofs.YtcfhajnboamnnabGreatDoor
open Go.RowKit
set_option linter.unusedVariables false

theorem mkQ_int (n : Int) : mkQ (!(decide (n < 0) == decide ((1 : Int) < 0))) n.natAbs (1 : Int).natAbs = (n : Rat) := by
  have h1 : decide ((1 : Int) < 0) = false := by decide
  have h2 : (1 : Int).natAbs = 1 := rfl
  have h3 : sgQ (!(decide (n < 0) == false)) n.natAbs = n := by
    by_cases h : n < 0
    · simp [sgQ, h]; omega
    · simp [sgQ, h]; omega
  unfold mkQ
  rw [h1, h2, h3, Rat.mkRat_one]

end Go.Proofs.YtcfhajnboamnnabGreatDoor
