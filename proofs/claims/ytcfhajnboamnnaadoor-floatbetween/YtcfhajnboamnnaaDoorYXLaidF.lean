/- What every row of floats needs besides its walk: the table of rules lies as the program's text lays it; a world for the witness in which it does. -/
/- (Over LaidF.) A rational number that came in, as a raw struct: a sign and two rows of limbs. -/
import Derived.Test.YtcfhajnboamnnaaDoorCards
import Derived.Test.YtcfhajnboamnnaaDoorTie
import Derived.Test.YtcfhajnboamnnaaDoorYXF4
import Derived.ProofKit
import Derived.OpenShut
import Derived.ChangeOld
import Derived.Deep.DeepHandedRow
import Derived.Test.YtcfhajnboamnnaaDoorYXP11
import Derived.Deep.Strs
namespace Go.Proofs.YtcfhajnboamnnaaDoor
open Go.ChangeShapes Go.WideShapes Go.ChangeAt Go.RowKit
set_option linter.unusedVariables false

theorem ownGodebug : ownKnob Tryd.prog.godebug = none := by kernel_rfl
theorem laidOutAll : laidOutB Tryd.prog = true := by kernel_rfl
theorem cellsU8 : Tryd.prog.cellsOf 5 = 1 := by kernel_rfl
theorem cellsBool : Tryd.prog.cellsOf 4 = 1 := by kernel_rfl
theorem cellsRule : Tryd.prog.cellsOf 65 = 3 := by kernel_rfl
theorem cellsRules : Tryd.prog.cellsOf 91 = 15 := by kernel_rfl

set_option maxRecDepth 100000 in
theorem rule_cells {W : World} {fuel : Nat} {cs : List Value} {x : DataW Unit × List MemPlace} (h : DataW.trod (fun _ => ()) Tryd.prog W 0 (fun _ => true) false fuel 65 cs = some x) :
    ∃ a b c, cs = [.int .u8 a, .int .u8 b, .bool c] ∧ x.1 = .agg [.lit (.int .u8 a), .lit (.int .u8 b), .lit (.bool c)] := by
  obtain ⟨xs, n, _, ex, hlen, hl, hel⟩ := DataW.trod_struct Tryd.underlying65 h
  rw [cellsRule] at hlen
  match cs, hlen with
  | [u, v, w], _ =>
    match xs, hl with
    | [x0, x1, x2], _ =>
      have k0 : DataW.trod (fun _ => ()) Tryd.prog W 0 (fun _ => true) false n 5 ((([u, v, w] : List Value).drop 0).take (Tryd.prog.cellsOf 5)) = [x0, x1, x2][0]? := hel 0 _ rfl
      have k1 : DataW.trod (fun _ => ()) Tryd.prog W 0 (fun _ => true) false n 5 ((([u, v, w] : List Value).drop 1).take (Tryd.prog.cellsOf 5)) = [x0, x1, x2][1]? := hel 1 _ rfl
      have k2 : DataW.trod (fun _ => ()) Tryd.prog W 0 (fun _ => true) false n 4 ((([u, v, w] : List Value).drop 2).take (Tryd.prog.cellsOf 4)) = [x0, x1, x2][2]? := hel 2 _ rfl
      rw [cellsU8] at k0 k1
      rw [cellsBool] at k2
      obtain ⟨z0, a0, b0, _⟩ := DataW.trod_int Tryd.underlying5 k0
      obtain ⟨z1, a1, b1, _⟩ := DataW.trod_int Tryd.underlying5 k1
      obtain ⟨z2, a2, b2⟩ := DataW.trod_bool Tryd.underlying4 k2
      simp at a0 a1 a2
      subst a0 a1 a2
      refine ⟨z0, z1, z2, rfl, ?_⟩
      rw [ex, b0, b1, b2]
      rfl

set_option maxRecDepth 100000 in
theorem ru_of_laid {W : World} (h : laidMetH Tryd.prog [("anticline/sfloat.rules", Rows.laid_anticline_sfloat_rules)] W) : Ru W := by
  rw [MakeChecks.laidMetH_plain _ _ _ (by kernel_rfl)] at h
  obtain ⟨ps, ⟨g, t, cs, fuel, p, q, hg, ht, hv, hd, _, _⟩, _, _⟩ := h
  obtain rfl := Option.some.inj ((show Tryd.prog.globalNamed "anticline/sfloat.rules" = some 0 by kernel_rfl).symm.trans hg)
  obtain rfl := Option.some.inj ((show (Tryd.prog.globals[(0 : Nat)]?).map (·.type) = some 91 by kernel_rfl).symm.trans ht)
  obtain ⟨xs, m, _, ex, hlen, hl, hel⟩ := DataW.trod_array Tryd.underlying91 hd
  rw [cellsRules] at hlen
  match xs, hl with
  | [x0, x1, x2, x3, x4], _ =>
    have k0 := hel 0 (by omega)
    have k1 := hel 1 (by omega)
    have k2 := hel 2 (by omega)
    have k3 := hel 3 (by omega)
    have k4 := hel 4 (by omega)
    rw [cellsRule] at k0 k1 k2 k3 k4
    obtain ⟨a0, b0, c0, e0, f0⟩ := rule_cells k0
    obtain ⟨a1, b1, c1, e1, f1⟩ := rule_cells k1
    obtain ⟨a2, b2, c2, e2, f2⟩ := rule_cells k2
    obtain ⟨a3, b3, c3, e3, f3⟩ := rule_cells k3
    obtain ⟨a4, b4, c4, e4, f4⟩ := rule_cells k4
    have e := (Prod.mk.inj ex).1
    simp only [Rows.laid_anticline_sfloat_rules, List.map_cons, List.map_nil, f0, f1, f2, f3, f4, DataW.agg.injEq, List.cons.injEq, DataW.lit.injEq, Lit.int.injEq, Lit.bool.injEq, true_and, and_true] at e
    obtain ⟨⟨rfl, rfl, rfl⟩, ⟨rfl, rfl, rfl⟩, ⟨rfl, rfl, rfl⟩, ⟨rfl, rfl, rfl⟩, ⟨rfl, rfl, rfl⟩⟩ := e
    have hcs : cs.toList = rulesL := by
      generalize cs.toList = l at *
      match l, hlen with
      | [l0, l1, l2, l3, l4, l5, l6, l7, l8, l9, l10, l11, l12, l13, l14], _ =>
        simp at e0 e1 e2 e3 e4
        obtain ⟨rfl, rfl, rfl⟩ := e0
        obtain ⟨rfl, rfl, rfl⟩ := e1
        obtain ⟨rfl, rfl, rfl⟩ := e2
        obtain ⟨rfl, rfl, rfl⟩ := e3
        obtain ⟨rfl, rfl, rfl⟩ := e4
        rfl
    intro i v hi
    rw [World.var?_cell hg hv i]
    rw [← hcs] at hi
    simpa using hi

/-- A block's cells laid anew. -/
def withCells (c : Array Value) : Obj → Obj
  | .cells _ t frozen => .cells c t frozen
  | o => o
/-- A world with the table laid: for the witness. -/
def relaid (w : World) : World := { w with heap := w.heap.modify 0 (withCells rulesL.toArray) }
end Go.Proofs.YtcfhajnboamnnaaDoor

namespace Go.Proofs.YtcfhajnboamnnaaDoor
open Go.ChangeShapes Go.WideShapes Go.ChangeAt Go.RowKit
set_option linter.unusedVariables false
set_option maxRecDepth 100000

theorem cellsU32 : Tryd.prog.cellsOf 61 = 1 := by kernel_rfl

theorem rd_of {W : World} {b off len cap : Nat} {zs : List Int} (hl : len ≤ cap) (hm : cap ≤ maxLen) (hz : zs.length = cap)
    (hcell : ∀ i, i < zs.length → W.cell? ((⟨b, off, none⟩ : Addr).add i) = some (.int .u32 (zs.getD i 0))) (hwz : ∀ n ∈ zs, (Lit.int .u32 n).wf = true) (hb : b < W.heap.size) : ∃ xs, Rd W (.slice (some ⟨b, off, none⟩) len cap) xs := by
  refine ⟨(zs.take len).map Int.toNat, ?_, .inr ⟨b, off, cap, ?_, ?_, hm, ?_, hb⟩⟩
  · intro y hy
    obtain ⟨n, hn, rfl⟩ := List.mem_map.1 hy
    have := bounds_u32 (hwz n (List.mem_of_mem_take hn)); omega
  · have : ((zs.take len).map Int.toNat).length = len := by rw [List.length_map, List.length_take]; omega
    rw [this]
  · rw [List.length_map, List.length_take]; omega
  · intro i hi
    rw [List.length_map, List.length_take] at hi
    have hiz : i < zs.length := by omega
    have hc := hcell i hiz
    rw [show (⟨b, off, none⟩ : Addr).add i = ⟨b, off + i, none⟩ from by unfold Addr.add; split <;> simp_all] at hc
    rw [hc]
    have hw := bounds_u32 (hwz (zs[i]) (List.getElem_mem hiz))
    have hil : i < len := by omega
    simp [hiz, hil]
    omega

theorem shape_lt {W : World} {b : Nat} {x : TypeId × Nat} (h : W.shape? b = some x) : b < W.heap.size := by
  rcases Nat.lt_or_ge b W.heap.size with h1 | h1
  · exact h1
  · simp [World.shape?, Array.getElem?_eq_none h1] at h

theorem slice_open {H : Type} {enc : TypeId × Value → H} {W : World} {base fuel : Nat} {c : Value} {x : DataW H × List MemPlace} (hok : Cell.okWide Tryd.prog W .any base 22 c)
    (h : DataW.trod enc Tryd.prog W 0 (fun _ => true) true fuel 22 [c] = some x) : ∃ xs, Rd W c xs := by
  rcases open_ints Tryd.underlying22 Tryd.underlying61 cellsU32 h with ⟨hcs, _⟩ | ⟨a, l, cp, zs, hcs, _, hl, hm, hz, _, hcell, hwz⟩
  · simp at hcs
    subst hcs
    exact ⟨[], Rd.nil W⟩
  · simp at hcs
    subst hcs
    simp only [Cell.okWide, Cell.ok, Tryd.underlying22] at hok
    obtain ⟨_, _, _, hsp, row, cells, hsh, _⟩ := hok
    obtain ⟨b, off, spot⟩ := a
    obtain rfl : spot = none := hsp
    exact rd_of hl hm (by simpa using hz) hcell hwz (shape_lt hsh)

theorem ratTypes : Tryd.prog.cellTypes Tryd.prog.depth 24 = some [4, 22, 22] := by kernel_rfl
theorem ratCells : Tryd.prog.cellsOf 24 = 3 := by kernel_rfl
theorem slCells : Tryd.prog.cellsOf 22 = 1 := by kernel_rfl
theorem blCells : Tryd.prog.cellsOf 4 = 1 := by kernel_rfl

theorem rat_open {H : Type} {enc : TypeId × Value → H} {W : World} {base : Nat} {v : Value} {d : DataW H} {p : List MemPlace} (hval : Value.okWide Tryd.prog W .any base 24 v)
    (h : DataW.Trod enc Tryd.prog W 0 (fun _ => true) true 24 v d p) : ∃ s xs ys, RawA W v s xs ys := by
  obtain ⟨fuel, hf⟩ := h
  have hv := hval
  simp only [Value.okWide, Tryd.underlying24] at hv
  obtain ⟨cs, rfl, hsz, ts, hts, _, hrow⟩ := hv
  rw [ratTypes] at hts
  obtain rfl := (Option.some.inj hts).symm
  rw [ratCells] at hsz
  obtain ⟨cl⟩ := cs
  match cl, hsz with
  | [c0, c1, c2], _ =>
    have k1 := hrow 1 c1 rfl
    have k2 := hrow 2 c2 rfl
    obtain ⟨u1, e1, k1⟩ := k1
    obtain ⟨u2, e2, k2⟩ := k2
    simp at e1 e2
    subst e1
    subst e2
    obtain ⟨y0, y1, y2, n, _, _, t0, t1, t2⟩ := Go.Deep.trod_struct3 Tryd.underlying24 hf
    simp only [Value.cells, blCells, slCells] at t0 t1 t2
    obtain ⟨xs, hx⟩ := slice_open k1 t1
    obtain ⟨ys, hy⟩ := slice_open k2 t2
    have hb : ∃ s, c0 = .bool s := by
      have k0 := hrow 0 c0 rfl
      obtain ⟨u0, e0, k0⟩ := k0
      simp at e0
      subst e0
      simp only [Cell.okWide, Cell.ok, Tryd.underlying4] at k0
      cases c0 <;> simp_all
    obtain ⟨s, rfl⟩ := hb
    exact ⟨s, xs, ys, c1, c2, rfl, hx, hy⟩

end Go.Proofs.YtcfhajnboamnnaaDoor
