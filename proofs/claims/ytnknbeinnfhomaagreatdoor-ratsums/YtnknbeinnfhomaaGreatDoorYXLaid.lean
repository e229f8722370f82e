/- What every row of this seat needs besides its walk: arguments that come in, read as limbs; a world for the witness in which the two tables of unicode/utf8 hold what they are laid with. -/
/- A rational number that came in, as a raw struct: a sign and two rows of limbs. -/
import Derived.Test.YtnknbeinnfhomaaGreatDoorCards
import Derived.Test.YtnknbeinnfhomaaGreatDoorTie
import Derived.Test.YtnknbeinnfhomaaGreatDoorKB
import Derived.ProofKit
import Derived.OpenShut
import Derived.ShutString
import Derived.ChangeOld
import Derived.Deep.DeepHandedRow
import Derived.Test.YtnknbeinnfhomaaGreatDoorXU1
import Derived.Deep.Strs
namespace Go.Proofs.YtnknbeinnfhomaaGreatDoor
open Go.ChangeShapes Go.WideShapes Go.ChangeAt Go.RowKit
set_option linter.unusedVariables false

theorem ownGodebug : ownKnob Tryz.prog.godebug = none := by kernel_rfl
theorem laidOutAll : laidOutB Tryz.prog = true := by kernel_rfl
theorem cellsU32 : Tryz.prog.cellsOf 43 = 1 := by kernel_rfl

/-- A slice of numbers that came in reads as limbs. -/
theorem arg_of {W : World} {x : Addr} {len cap : Nat} {zs : List Int} (hl : len ≤ cap) (hm : cap ≤ maxLen) (hz : zs.length = cap)
    (hcell : ∀ i, i < zs.length → W.cell? (x.add i) = some (.int .u32 (zs.getD i 0))) (hwz : ∀ n ∈ zs, (Lit.int .u32 n).wf = true) : ∃ xs, Arg W (.slice (some x) len cap) xs := by
  by_cases h0 : len = 0
  · subst h0; exact ⟨[], .inr ⟨rfl, x, cap, rfl, hm⟩⟩
  · obtain ⟨b, off, spot⟩ := x
    have hspot : spot = none := by simpa [Addr.add] using World.cell?_spot (hcell 0 (by omega))
    subst hspot
    refine ⟨(zs.take len).map Int.toNat, .inl ⟨?_, .inr ⟨b, off, cap, ?_, ?_, hm, ?_, ?_⟩⟩⟩
    · intro y hy
      obtain ⟨n, hn, rfl⟩ := List.mem_map.1 hy
      have := bounds_u32 (hwz n (List.mem_of_mem_take hn)); omega
    · have : ((zs.take len).map Int.toNat).length = len := by rw [List.length_map, List.length_take]; omega
      rw [this]
    · rw [List.length_map, List.length_take]; omega
    · intro i hi
      rw [List.length_map, List.length_take] at hi
      have hiz : i < zs.length := by omega
      have hc := hcell i hiz
      rw [show (⟨b, off, none⟩ : Addr).add i = ⟨b, off + i, none⟩ from by unfold Addr.add; split <;> simp_all] at hc
      rw [hc]
      have hw := bounds_u32 (hwz (zs[i]) (List.getElem_mem hiz))
      have hil : i < len := by omega
      simp [hiz, hil]
      omega
    · exact World.block_lt_of_cell? W _ (hcell 0 (by omega))

theorem arg_open {H : Type} {enc : TypeId × Value → H} {W : World} {a : Option Addr} {len cap : Nat} {d : DataW H} {p : List MemPlace}
    (h : DataW.Trod enc Tryz.prog W 0 (fun _ => true) true 22 (.slice a len cap) d p) : ∃ xs, Arg W (.slice a len cap) xs := by
  obtain ⟨fuel, hf⟩ := h
  rcases open_ints Tryz.underlying22 Tryz.underlying43 cellsU32 hf with ⟨hcs, _⟩ | ⟨x, l, c, zs, hcs, _, hl, hm, hz, _, hcell, hwz⟩
  · simp [Value.cells] at hcs
    obtain ⟨rfl, rfl, rfl⟩ := hcs
    exact ⟨[], .inl (Rd.nil W)⟩
  · simp [Value.cells] at hcs
    obtain ⟨rfl, rfl, rfl⟩ := hcs
    exact arg_of hl hm (by simpa using hz) hcell hwz

/-- The cells of unicode/utf8's two tables. -/
def firstCells : Array Value := (Go.Pinned.utf8FirstZ.map fun n : Nat => Value.int .u8 (n : Int)).toArray
def acceptCells : Array Value := #[.int .u8 128, .int .u8 191, .int .u8 160, .int .u8 191, .int .u8 128, .int .u8 159, .int .u8 144, .int .u8 191, .int .u8 128, .int .u8 143,
  .int .u8 0, .int .u8 0, .int .u8 0, .int .u8 0, .int .u8 0, .int .u8 0, .int .u8 0, .int .u8 0, .int .u8 0, .int .u8 0, .int .u8 0, .int .u8 0, .int .u8 0, .int .u8 0, .int .u8 0, .int .u8 0, .int .u8 0, .int .u8 0, .int .u8 0, .int .u8 0, .int .u8 0, .int .u8 0]

/-- A block's cells laid anew. -/
def withCells (c : Array Value) : Obj → Obj
  | .cells _ t frozen => .cells c t frozen
  | o => o
/-- A world with both tables laid: for the witness. -/
def relaid (w : World) : World := { w with heap := (w.heap.modify 0 (withCells firstCells)).modify 1 (withCells acceptCells) }

end Go.Proofs.YtnknbeinnfhomaaGreatDoor

namespace Go.Proofs.YtnknbeinnfhomaaGreatDoor
open Go.ChangeShapes Go.WideShapes Go.ChangeAt Go.RowKit
set_option linter.unusedVariables false
set_option maxRecDepth 100000

theorem rd_of {W : World} {b off len cap : Nat} {zs : List Int} (hl : len ≤ cap) (hm : cap ≤ maxLen) (hz : zs.length = cap)
    (hcell : ∀ i, i < zs.length → W.cell? ((⟨b, off, none⟩ : Addr).add i) = some (.int .u32 (zs.getD i 0))) (hwz : ∀ n ∈ zs, (Lit.int .u32 n).wf = true) (hb : b < W.heap.size) : ∃ xs, Rd W (.slice (some ⟨b, off, none⟩) len cap) xs := by
  refine ⟨(zs.take len).map Int.toNat, ?_, .inr ⟨b, off, cap, ?_, ?_, hm, ?_, hb⟩⟩
  · intro y hy
    obtain ⟨n, hn, rfl⟩ := List.mem_map.1 hy
    have := bounds_u32 (hwz n (List.mem_of_mem_take hn)); omega
  · have : ((zs.take len).map Int.toNat).length = len := by rw [List.length_map, List.length_take]; omega
    rw [this]
  · rw [List.length_map, List.length_take]; omega
  · intro i hi
    rw [List.length_map, List.length_take] at hi
    have hiz : i < zs.length := by omega
    have hc := hcell i hiz
    rw [show (⟨b, off, none⟩ : Addr).add i = ⟨b, off + i, none⟩ from by unfold Addr.add; split <;> simp_all] at hc
    rw [hc]
    have hw := bounds_u32 (hwz (zs[i]) (List.getElem_mem hiz))
    have hil : i < len := by omega
    simp [hiz, hil]
    omega

theorem shape_lt {W : World} {b : Nat} {x : TypeId × Nat} (h : W.shape? b = some x) : b < W.heap.size := by
  rcases Nat.lt_or_ge b W.heap.size with h1 | h1
  · exact h1
  · simp [World.shape?, Array.getElem?_eq_none h1] at h

theorem slice_open {H : Type} {enc : TypeId × Value → H} {W : World} {base fuel : Nat} {c : Value} {x : DataW H × List MemPlace} (hok : Cell.okWide Tryz.prog W .any base 22 c)
    (h : DataW.trod enc Tryz.prog W 0 (fun _ => true) true fuel 22 [c] = some x) : ∃ xs, Rd W c xs := by
  rcases open_ints Tryz.underlying22 Tryz.underlying43 cellsU32 h with ⟨hcs, _⟩ | ⟨a, l, cp, zs, hcs, _, hl, hm, hz, _, hcell, hwz⟩
  · simp at hcs
    subst hcs
    exact ⟨[], Rd.nil W⟩
  · simp at hcs
    subst hcs
    simp only [Cell.okWide, Cell.ok, Tryz.underlying22] at hok
    obtain ⟨_, _, _, hsp, row, cells, hsh, _⟩ := hok
    obtain ⟨b, off, spot⟩ := a
    obtain rfl : spot = none := hsp
    exact rd_of hl hm (by simpa using hz) hcell hwz (shape_lt hsh)

theorem ratTypes : Tryz.prog.cellTypes Tryz.prog.depth 24 = some [4, 22, 22] := by kernel_rfl
theorem ratCells : Tryz.prog.cellsOf 24 = 3 := by kernel_rfl
theorem slCells : Tryz.prog.cellsOf 22 = 1 := by kernel_rfl
theorem blCells : Tryz.prog.cellsOf 4 = 1 := by kernel_rfl

theorem rat_open {H : Type} {enc : TypeId × Value → H} {W : World} {base : Nat} {v : Value} {d : DataW H} {p : List MemPlace} (hval : Value.okWide Tryz.prog W .any base 24 v)
    (h : DataW.Trod enc Tryz.prog W 0 (fun _ => true) true 24 v d p) : ∃ s xs ys, RawA W v s xs ys := by
  obtain ⟨fuel, hf⟩ := h
  have hv := hval
  simp only [Value.okWide, Tryz.underlying24] at hv
  obtain ⟨cs, rfl, hsz, ts, hts, _, hrow⟩ := hv
  rw [ratTypes] at hts
  obtain rfl := (Option.some.inj hts).symm
  rw [ratCells] at hsz
  obtain ⟨cl⟩ := cs
  match cl, hsz with
  | [c0, c1, c2], _ =>
    have k1 := hrow 1 c1 rfl
    have k2 := hrow 2 c2 rfl
    obtain ⟨u1, e1, k1⟩ := k1
    obtain ⟨u2, e2, k2⟩ := k2
    simp at e1 e2
    subst e1
    subst e2
    obtain ⟨y0, y1, y2, n, _, _, t0, t1, t2⟩ := Go.Deep.trod_struct3 Tryz.underlying24 hf
    simp only [Value.cells, blCells, slCells] at t0 t1 t2
    obtain ⟨xs, hx⟩ := slice_open k1 t1
    obtain ⟨ys, hy⟩ := slice_open k2 t2
    have hb : ∃ s, c0 = .bool s := by
      have k0 := hrow 0 c0 rfl
      obtain ⟨u0, e0, k0⟩ := k0
      simp at e0
      subst e0
      simp only [Cell.okWide, Cell.ok, Tryz.underlying4] at k0
      cases c0 <;> simp_all
    obtain ⟨s, rfl⟩ := hb
    exact ⟨s, xs, ys, c1, c2, rfl, hx, hy⟩

end Go.Proofs.YtnknbeinnfhomaaGreatDoor
