/- What every row of floats needs besides its walk: the table of rules lies as the program's text lays it; a world for the witness in which it does. -/
/- An enclosure that came in: two words. -/
import Derived.Test.YtcfhajnboamnnabGreatDoorCards
import Derived.Test.YtcfhajnboamnnabGreatDoorTie
import Derived.Test.YtcfhajnboamnnabGreatDoorYXF4
import Derived.ProofKit
import Derived.OpenShut
import Derived.ChangeOld
import Derived.Deep.DeepHandedRow
import Derived.Deep.Strs
namespace Go.Proofs.YtcfhajnboamnnabGreatDoor
open Go.ChangeShapes Go.WideShapes Go.ChangeAt Go.RowKit
set_option linter.unusedVariables false

theorem ownGodebug : ownKnob Tryz.prog.godebug = none := by kernel_rfl
theorem laidOutAll : laidOutB Tryz.prog = true := by kernel_rfl
theorem cellsU8 : Tryz.prog.cellsOf 5 = 1 := by kernel_rfl
theorem cellsBool : Tryz.prog.cellsOf 4 = 1 := by kernel_rfl
theorem cellsRule : Tryz.prog.cellsOf 97 = 3 := by kernel_rfl
theorem cellsRules : Tryz.prog.cellsOf 121 = 15 := by kernel_rfl

set_option maxRecDepth 100000 in
theorem rule_cells {W : World} {fuel : Nat} {cs : List Value} {x : DataW Unit × List MemPlace} (h : DataW.trod (fun _ => ()) Tryz.prog W 0 (fun _ => true) false fuel 97 cs = some x) :
    ∃ a b c, cs = [.int .u8 a, .int .u8 b, .bool c] ∧ x.1 = .agg [.lit (.int .u8 a), .lit (.int .u8 b), .lit (.bool c)] := by
  obtain ⟨xs, n, _, ex, hlen, hl, hel⟩ := DataW.trod_struct Tryz.underlying97 h
  rw [cellsRule] at hlen
  match cs, hlen with
  | [u, v, w], _ =>
    match xs, hl with
    | [x0, x1, x2], _ =>
      have k0 : DataW.trod (fun _ => ()) Tryz.prog W 0 (fun _ => true) false n 5 ((([u, v, w] : List Value).drop 0).take (Tryz.prog.cellsOf 5)) = [x0, x1, x2][0]? := hel 0 _ rfl
      have k1 : DataW.trod (fun _ => ()) Tryz.prog W 0 (fun _ => true) false n 5 ((([u, v, w] : List Value).drop 1).take (Tryz.prog.cellsOf 5)) = [x0, x1, x2][1]? := hel 1 _ rfl
      have k2 : DataW.trod (fun _ => ()) Tryz.prog W 0 (fun _ => true) false n 4 ((([u, v, w] : List Value).drop 2).take (Tryz.prog.cellsOf 4)) = [x0, x1, x2][2]? := hel 2 _ rfl
      rw [cellsU8] at k0 k1
      rw [cellsBool] at k2
      obtain ⟨z0, a0, b0, _⟩ := DataW.trod_int Tryz.underlying5 k0
      obtain ⟨z1, a1, b1, _⟩ := DataW.trod_int Tryz.underlying5 k1
      obtain ⟨z2, a2, b2⟩ := DataW.trod_bool Tryz.underlying4 k2
      simp at a0 a1 a2
      subst a0 a1 a2
      refine ⟨z0, z1, z2, rfl, ?_⟩
      rw [ex, b0, b1, b2]
      rfl

set_option maxRecDepth 100000 in
theorem ru_of_laid {W : World} (h : laidMetH Tryz.prog [("anticline/sfloat.rules", Rows.laid_anticline_sfloat_rules)] W) : Ru W := by
  rw [MakeChecks.laidMetH_plain _ _ _ (by kernel_rfl)] at h
  obtain ⟨ps, ⟨g, t, cs, fuel, p, q, hg, ht, hv, hd, _, _⟩, _, _⟩ := h
  obtain rfl := Option.some.inj ((show Tryz.prog.globalNamed "anticline/sfloat.rules" = some 0 by kernel_rfl).symm.trans hg)
  obtain rfl := Option.some.inj ((show (Tryz.prog.globals[(0 : Nat)]?).map (·.type) = some 121 by kernel_rfl).symm.trans ht)
  obtain ⟨xs, m, _, ex, hlen, hl, hel⟩ := DataW.trod_array Tryz.underlying121 hd
  rw [cellsRules] at hlen
  match xs, hl with
  | [x0, x1, x2, x3, x4], _ =>
    have k0 := hel 0 (by omega)
    have k1 := hel 1 (by omega)
    have k2 := hel 2 (by omega)
    have k3 := hel 3 (by omega)
    have k4 := hel 4 (by omega)
    rw [cellsRule] at k0 k1 k2 k3 k4
    obtain ⟨a0, b0, c0, e0, f0⟩ := rule_cells k0
    obtain ⟨a1, b1, c1, e1, f1⟩ := rule_cells k1
    obtain ⟨a2, b2, c2, e2, f2⟩ := rule_cells k2
    obtain ⟨a3, b3, c3, e3, f3⟩ := rule_cells k3
    obtain ⟨a4, b4, c4, e4, f4⟩ := rule_cells k4
    have e := (Prod.mk.inj ex).1
    simp only [Rows.laid_anticline_sfloat_rules, List.map_cons, List.map_nil, f0, f1, f2, f3, f4, DataW.agg.injEq, List.cons.injEq, DataW.lit.injEq, Lit.int.injEq, Lit.bool.injEq, true_and, and_true] at e
    obtain ⟨⟨rfl, rfl, rfl⟩, ⟨rfl, rfl, rfl⟩, ⟨rfl, rfl, rfl⟩, ⟨rfl, rfl, rfl⟩, ⟨rfl, rfl, rfl⟩⟩ := e
    have hcs : cs.toList = rulesL := by
      generalize cs.toList = l at *
      match l, hlen with
      | [l0, l1, l2, l3, l4, l5, l6, l7, l8, l9, l10, l11, l12, l13, l14], _ =>
        simp at e0 e1 e2 e3 e4
        obtain ⟨rfl, rfl, rfl⟩ := e0
        obtain ⟨rfl, rfl, rfl⟩ := e1
        obtain ⟨rfl, rfl, rfl⟩ := e2
        obtain ⟨rfl, rfl, rfl⟩ := e3
        obtain ⟨rfl, rfl, rfl⟩ := e4
        rfl
    intro i v hi
    rw [World.var?_cell hg hv i]
    rw [← hcs] at hi
    simpa using hi

/-- A block's cells laid anew. -/
def withCells (c : Array Value) : Obj → Obj
  | .cells _ t frozen => .cells c t frozen
  | o => o
/-- A world with the table laid: for the witness. -/
def relaid (w : World) : World := { w with heap := w.heap.modify 0 (withCells rulesL.toArray) }
end Go.Proofs.YtcfhajnboamnnabGreatDoor

namespace Go.Proofs.YtcfhajnboamnnabGreatDoor
open Go.ChangeShapes Go.WideShapes Go.ChangeAt Go.RowKit
set_option linter.unusedVariables false
set_option maxRecDepth 100000

theorem ivalCells : Tryz.prog.cellsOf 24 = 2 := by kernel_rfl
theorem u64Cells : Tryz.prog.cellsOf 22 = 1 := by kernel_rfl
theorem ival_open {H : Type} {enc : TypeId × Value → H} {W : World} {base : Nat} {v : Value} {d : DataW H} {p : List MemPlace} (hval : Value.okWide Tryz.prog W .any base 24 v)
    (h : DataW.Trod enc Tryz.prog W 0 (fun _ => true) true 24 v d p) : ∃ a b : Int, v = .agg #[.int .u64 a, .int .u64 b] ∧ (Lit.int .u64 a).wf = true ∧ (Lit.int .u64 b).wf = true := by
  obtain ⟨fuel, hf⟩ := h
  simp only [Value.okWide, Tryz.underlying24] at hval
  obtain ⟨cs, rfl, hsz, -⟩ := hval
  rw [ivalCells] at hsz
  obtain ⟨cl⟩ := cs
  match cl, hsz with
  | [c0, c1], _ =>
    obtain ⟨xs, n, _, hx, hl, hlen, hg⟩ := DataW.trod_struct Tryz.underlying24 hf
    match xs, hlen with
    | [y0, y1], _ =>
      have t0 := hg 0 _ rfl
      have t1 := hg 1 _ rfl
      simp only [Value.cells] at t0 t1
      obtain ⟨a, ha, _, hwa⟩ := DataW.trod_int Tryz.underlying22 t0
      obtain ⟨b, hb, _, hwb⟩ := DataW.trod_int Tryz.underlying22 t1
      simp [u64Cells] at ha hb
      subst ha hb
      exact ⟨a, b, rfl, hwa, hwb⟩
end Go.Proofs.YtcfhajnboamnnabGreatDoor
