/- What every row of floats needs besides its walk: the table of rules lies as the program's text lays it; a world for the witness in which it does. -/
import Derived.Test.YtcfhajnboamnnaaDoorCards
import Derived.Test.YtcfhajnboamnnaaDoorTie
import Derived.Test.YtcfhajnboamnnaaDoorYXF4
import Derived.ProofKit
import Derived.OpenShut
import Derived.ChangeOld
import Derived.Deep.DeepHandedRow
namespace Go.Proofs.YtcfhajnboamnnaaDoor
open Go.ChangeShapes Go.WideShapes Go.ChangeAt Go.RowKit
set_option linter.unusedVariables false

theorem ownGodebug : ownKnob Tryd.prog.godebug = none := by kernel_rfl
theorem laidOutAll : laidOutB Tryd.prog = true := by kernel_rfl
theorem cellsU8 : Tryd.prog.cellsOf 5 = 1 := by kernel_rfl
theorem cellsBool : Tryd.prog.cellsOf 4 = 1 := by kernel_rfl
theorem cellsRule : Tryd.prog.cellsOf 65 = 3 := by kernel_rfl
theorem cellsRules : Tryd.prog.cellsOf 91 = 15 := by kernel_rfl

set_option maxRecDepth 100000 in
theorem rule_cells {W : World} {fuel : Nat} {cs : List Value} {x : DataW Unit × List MemPlace} (h : DataW.trod (fun _ => ()) Tryd.prog W 0 (fun _ => true) false fuel 65 cs = some x) :
    ∃ a b c, cs = [.int .u8 a, .int .u8 b, .bool c] ∧ x.1 = .agg [.lit (.int .u8 a), .lit (.int .u8 b), .lit (.bool c)] := by
  obtain ⟨xs, n, _, ex, hlen, hl, hel⟩ := DataW.trod_struct Tryd.underlying65 h
  rw [cellsRule] at hlen
  match cs, hlen with
  | [u, v, w], _ =>
    match xs, hl with
    | [x0, x1, x2], _ =>
      have k0 : DataW.trod (fun _ => ()) Tryd.prog W 0 (fun _ => true) false n 5 ((([u, v, w] : List Value).drop 0).take (Tryd.prog.cellsOf 5)) = [x0, x1, x2][0]? := hel 0 _ rfl
      have k1 : DataW.trod (fun _ => ()) Tryd.prog W 0 (fun _ => true) false n 5 ((([u, v, w] : List Value).drop 1).take (Tryd.prog.cellsOf 5)) = [x0, x1, x2][1]? := hel 1 _ rfl
      have k2 : DataW.trod (fun _ => ()) Tryd.prog W 0 (fun _ => true) false n 4 ((([u, v, w] : List Value).drop 2).take (Tryd.prog.cellsOf 4)) = [x0, x1, x2][2]? := hel 2 _ rfl
      rw [cellsU8] at k0 k1
      rw [cellsBool] at k2
      obtain ⟨z0, a0, b0, _⟩ := DataW.trod_int Tryd.underlying5 k0
      obtain ⟨z1, a1, b1, _⟩ := DataW.trod_int Tryd.underlying5 k1
      obtain ⟨z2, a2, b2⟩ := DataW.trod_bool Tryd.underlying4 k2
      simp at a0 a1 a2
      subst a0 a1 a2
      refine ⟨z0, z1, z2, rfl, ?_⟩
      rw [ex, b0, b1, b2]
      rfl

set_option maxRecDepth 100000 in
theorem ru_of_laid {W : World} (h : laidMetH Tryd.prog [("anticline/sfloat.rules", Rows.laid_anticline_sfloat_rules)] W) : Ru W := by
  rw [MakeChecks.laidMetH_plain _ _ _ (by kernel_rfl)] at h
  obtain ⟨ps, ⟨g, t, cs, fuel, p, q, hg, ht, hv, hd, _, _⟩, _, _⟩ := h
  obtain rfl := Option.some.inj ((show Tryd.prog.globalNamed "anticline/sfloat.rules" = some 0 by kernel_rfl).symm.trans hg)
  obtain rfl := Option.some.inj ((show (Tryd.prog.globals[(0 : Nat)]?).map (·.type) = some 91 by kernel_rfl).symm.trans ht)
  obtain ⟨xs, m, _, ex, hlen, hl, hel⟩ := DataW.trod_array Tryd.underlying91 hd
  rw [cellsRules] at hlen
  match xs, hl with
  | [x0, x1, x2, x3, x4], _ =>
    have k0 := hel 0 (by omega)
    have k1 := hel 1 (by omega)
    have k2 := hel 2 (by omega)
    have k3 := hel 3 (by omega)
    have k4 := hel 4 (by omega)
    rw [cellsRule] at k0 k1 k2 k3 k4
    obtain ⟨a0, b0, c0, e0, f0⟩ := rule_cells k0
    obtain ⟨a1, b1, c1, e1, f1⟩ := rule_cells k1
    obtain ⟨a2, b2, c2, e2, f2⟩ := rule_cells k2
    obtain ⟨a3, b3, c3, e3, f3⟩ := rule_cells k3
    obtain ⟨a4, b4, c4, e4, f4⟩ := rule_cells k4
    have e := (Prod.mk.inj ex).1
    simp only [Rows.laid_anticline_sfloat_rules, List.map_cons, List.map_nil, f0, f1, f2, f3, f4, DataW.agg.injEq, List.cons.injEq, DataW.lit.injEq, Lit.int.injEq, Lit.bool.injEq, true_and, and_true] at e
    obtain ⟨⟨rfl, rfl, rfl⟩, ⟨rfl, rfl, rfl⟩, ⟨rfl, rfl, rfl⟩, ⟨rfl, rfl, rfl⟩, ⟨rfl, rfl, rfl⟩⟩ := e
    have hcs : cs.toList = rulesL := by
      generalize cs.toList = l at *
      match l, hlen with
      | [l0, l1, l2, l3, l4, l5, l6, l7, l8, l9, l10, l11, l12, l13, l14], _ =>
        simp at e0 e1 e2 e3 e4
        obtain ⟨rfl, rfl, rfl⟩ := e0
        obtain ⟨rfl, rfl, rfl⟩ := e1
        obtain ⟨rfl, rfl, rfl⟩ := e2
        obtain ⟨rfl, rfl, rfl⟩ := e3
        obtain ⟨rfl, rfl, rfl⟩ := e4
        rfl
    intro i v hi
    rw [World.var?_cell hg hv i]
    rw [← hcs] at hi
    simpa using hi

/-- A block's cells laid anew. -/
def withCells (c : Array Value) : Obj → Obj
  | .cells _ t frozen => .cells c t frozen
  | o => o
/-- A world with the table laid: for the witness. -/
def relaid (w : World) : World := { w with heap := w.heap.modify 0 (withCells rulesL.toArray) }
end Go.Proofs.YtcfhajnboamnnaaDoor
