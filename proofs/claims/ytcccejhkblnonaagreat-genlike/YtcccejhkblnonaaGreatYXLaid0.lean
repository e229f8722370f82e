/- What every row needs besides its walk where the road names no package variable. -/
/- An argument that is a row of whole numbers, opened. -/
import Derived.Test.YtcccejhkblnonaaGreatRows
import Derived.Test.YtcccejhkblnonaaGreatKB
import Derived.ProofKit
import Derived.OpenShut
import Derived.ShutString
import Derived.ChangeOld
import Derived.LaidLaws
import Derived.Deep.DeepHandedRow
import Derived.Test.YtcccejhkblnonaaGreatYXM2
namespace Go.Proofs.YtcccejhkblnonaaGreat
open Go.ChangeShapes Go.WideShapes Go.ChangeAt Go.RowKit
set_option linter.unusedVariables false

theorem ownGodebug : ownKnob Tryz.prog.godebug = none := by kernel_rfl
theorem laidOutAll : laidOutB Tryz.prog = true := by kernel_rfl
/-- The witness's world, as it is. -/
def relaid (w : World) : World := w
end Go.Proofs.YtcccejhkblnonaaGreat

namespace Go.Proofs.YtcccejhkblnonaaGreat
open Go.ChangeShapes Go.WideShapes Go.ChangeAt Go.RowKit
set_option linter.unusedVariables false

theorem cellsI64 : Tryz.prog.cellsOf 3 = 1 := by kernel_rfl

theorem add_none (b off i : Nat) : (⟨b, off, none⟩ : Addr).add i = ⟨b, off + i, none⟩ := by unfold Addr.add; split <;> simp_all

theorem ns_open {H : Type} {enc : TypeId × Value → H} {W : World} {a : Option Addr} {len cap : Nat} {d : DataW H} {p : List MemPlace}
    (h : DataW.Trod enc Tryz.prog W 0 (fun _ => true) true 22 (.slice a len cap) d p) : ∃ zs, NsV W (.slice a len cap) zs := by
  obtain ⟨fuel, hf⟩ := h
  rcases open_ints Tryz.underlying22 Tryz.underlying3 cellsI64 hf with ⟨hcs, _⟩ | ⟨x, l, c, zs, hcs, _, hl, hm, hz, _, hcell, hwz⟩
  · simp [Value.cells] at hcs
    obtain ⟨rfl, rfl, rfl⟩ := hcs
    exact ⟨[], fun i hi => absurd hi (Nat.not_lt_zero _), none, 0, rfl, Nat.le_refl _, Nat.zero_le _, fun i hi => absurd hi (Nat.not_lt_zero _)⟩
  · simp [Value.cells] at hcs
    obtain ⟨rfl, rfl, rfl⟩ := hcs
    have hz : zs.length = cap := by simpa using hz
    have hlen : (zs.take len).length = len := by rw [List.length_take]; omega
    have hget : ∀ i, i < len → (zs.take len).getD i 0 = zs.getD i 0 := by
      intro i hi
      have : i < zs.length := by omega
      simp [hi]
    refine ⟨zs.take len, fun i hi => ?_, some x, cap, by rw [hlen], by omega, hm, fun i hi => ?_⟩
    · rw [hlen] at hi
      rw [hget i hi]
      have hiz : i < zs.length := by omega
      have hw := bounds_i64 (hwz (zs[i]) (List.getElem_mem hiz))
      simpa [hiz] using hw
    · rw [hlen] at hi
      rw [hget i hi]
      have hiz : i < zs.length := by omega
      have hc := hcell i hiz
      obtain ⟨b, off, spot⟩ := x
      have hspot : spot = none := by simpa [Addr.add] using World.cell?_spot (hcell 0 (by omega))
      subst hspot
      refine ⟨b, off, rfl, ?_⟩
      rw [add_none] at hc
      exact hc
end Go.Proofs.YtcccejhkblnonaaGreat
