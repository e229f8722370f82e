/- What every row of chapter 8's laws needs besides its walk: lists that came in, read as numbers; their road names no package variable. -/
import Derived.Test.YtimlpehgafjkpaaXLaid0
namespace Go.Proofs.Ytimlpehgafjkpaa
open Go.ChangeShapes Go.WideShapes Go.ChangeAt Go.RowKit
set_option linter.unusedVariables false

theorem cellsU32 : Try.prog.cellsOf 22 = 1 := by kernel_rfl

/-- A slice of numbers that came in reads as limbs. -/
theorem arg_of {W : World} {x : Addr} {len cap : Nat} {zs : List Int} (hl : len ≤ cap) (hm : cap ≤ maxLen) (hz : zs.length = cap)
    (hcell : ∀ i, i < zs.length → W.cell? (x.add i) = some (.int .u32 (zs.getD i 0))) (hwz : ∀ n ∈ zs, (Lit.int .u32 n).wf = true) : ∃ xs, Arg W (.slice (some x) len cap) xs := by
  by_cases h0 : len = 0
  · subst h0; exact ⟨[], .inr ⟨rfl, x, cap, rfl, hm⟩⟩
  · obtain ⟨b, off, spot⟩ := x
    have hspot : spot = none := by simpa [Addr.add] using World.cell?_spot (hcell 0 (by omega))
    subst hspot
    refine ⟨(zs.take len).map Int.toNat, .inl ⟨?_, .inr ⟨b, off, cap, ?_, ?_, hm, ?_, ?_⟩⟩⟩
    · intro y hy
      obtain ⟨n, hn, rfl⟩ := List.mem_map.1 hy
      have := bounds_u32 (hwz n (List.mem_of_mem_take hn)); omega
    · have : ((zs.take len).map Int.toNat).length = len := by rw [List.length_map, List.length_take]; omega
      rw [this]
    · rw [List.length_map, List.length_take]; omega
    · intro i hi
      rw [List.length_map, List.length_take] at hi
      have hiz : i < zs.length := by omega
      have hc := hcell i hiz
      rw [show (⟨b, off, none⟩ : Addr).add i = ⟨b, off + i, none⟩ from by unfold Addr.add; split <;> simp_all] at hc
      rw [hc]
      have hw := bounds_u32 (hwz (zs[i]) (List.getElem_mem hiz))
      have hil : i < len := by omega
      simp [hiz, hil]
      omega
    · exact World.block_lt_of_cell? W _ (hcell 0 (by omega))

theorem arg_open {H : Type} {enc : TypeId × Value → H} {W : World} {a : Option Addr} {len cap : Nat} {d : DataW H} {p : List MemPlace}
    (h : DataW.Trod enc Try.prog W 0 (fun _ => true) true 27 (.slice a len cap) d p) : ∃ xs, Arg W (.slice a len cap) xs := by
  obtain ⟨fuel, hf⟩ := h
  rcases open_ints Try.underlying27 Try.underlying22 cellsU32 hf with ⟨hcs, _⟩ | ⟨x, l, c, zs, hcs, _, hl, hm, hz, _, hcell, hwz⟩
  · simp [Value.cells] at hcs
    obtain ⟨rfl, rfl, rfl⟩ := hcs
    exact ⟨[], .inl (Rd.nil W)⟩
  · simp [Value.cells] at hcs
    obtain ⟨rfl, rfl, rfl⟩ := hcs
    exact arg_of hl hm (by simpa using hz) hcell hwz

end Go.Proofs.Ytimlpehgafjkpaa
