/- The second telling's small numbers, and rows of them (laws of chapter 2). -/
import Derived.Test.YtnknbeinnfhomaaGreatDoorXWI
import Derived.Test.YtnknbeinnfhomaaGreatDoorKI
import Derived.Test.YtnknbeinnfhomaaGreatDoorXN3
import Derived.Test.YtnknbeinnfhomaaGreatDoorXEV7
namespace Go.Proofs.YtnknbeinnfhomaaGreatDoor
open Go.RowKit
set_option linter.unusedVariables false
set_option linter.unusedSimpArgs false

/-- The small number of a raw one. -/
def smallQ (n : Int) : Rat := mkRat (n % 41 - 20) (1 + (n.tdiv 41 % 5).toNat)

theorem ofQ_mk (n d : Int) (hd : 0 < d) : mkQ (!(decide (n < 0) == decide (d < 0))) n.natAbs d.natAbs = mkRat n d.toNat := by
  unfold mkQ sgQ
  have h2 : ¬ d < 0 := by omega
  rw [show d.natAbs = d.toNat by omega]
  congr 1
  by_cases h1 : n < 0 <;> simp [h1, h2] <;> omega

set_option maxHeartbeats 4000000 in
set_option maxRecDepth 20000 in
theorem smallR_any (w : World) (n : Int) (n1 : -9223372036854775808 ≤ n) (n2 : n ≤ 9223372036854775807) :
    Calls Tryz.prog 6 #[.int .i64 n] w fun e w' => ∃ v, e = .returned v ∧ RV w' v (smallQ n) ∧ Fwd w w' := by
  have kR : BlkV (w.alloc (.cells #[.bool false, .slice none 0 0, .slice none 0 0] 24)) w.heap.size 24 [.bool false, .slice none 0 0, .slice none 0 0] := BlkV.made' w w.heap.size (by simp) 24 [.bool false, .slice none 0 0, .slice none 0 0]
  have hF := hid ((Fwd.refl w).alloc (.cells #[.bool false, .slice none 0 0, .slice none 0 0] 24))
  have a1 : 0 ≤ n % 41 := Int.emod_nonneg _ (by omega)
  have a2 : n % 41 < 41 := Int.emod_lt_of_pos _ (by omega)
  have b1 : 0 ≤ n.tdiv 41 % 5 := Int.emod_nonneg _ (by omega)
  have b2 : n.tdiv 41 % 5 < 5 := Int.emod_lt_of_pos _ (by omega)
  have q1 : -9223372036854775808 ≤ n.tdiv 41 := by
    rcases Int.le_total 0 n with h | h
    · have := Int.tdiv_nonneg h (show (0 : Int) ≤ 41 by omega); omega
    · have : n.tdiv 41 = -((-n) / 41) := by rw [← Int.neg_neg n, Int.neg_tdiv, Int.tdiv_eq_ediv_of_nonneg (by omega)]; simp
      omega
  have q2 : n.tdiv 41 ≤ 9223372036854775807 := by
    rcases Int.le_total 0 n with h | h
    · rw [Int.tdiv_eq_ediv_of_nonneg h]; omega
    · have : n.tdiv 41 = -((-n) / 41) := by rw [← Int.neg_neg n, Int.neg_tdiv, Int.tdiv_eq_ediv_of_nonneg (by omega)]; simp
      omega
  obtain ⟨r, hr⟩ : ∃ r, r = n % 41 := ⟨_, rfl⟩
  obtain ⟨d, hd⟩ : ∃ d, d = n.tdiv 41 % 5 := ⟨_, rfl⟩
  have HS := hid (show smallQ n = mkRat (r - 20) (1 + d.toNat) by rw [hr, hd]; rfl)
  have HR := hid hr
  have HD := hid hd
  rw [← hr] at a1 a2
  rw [← hd] at b1 b2
  clear hr hd
  have kR := hid kR
  go_enter Tryz.func6, Tryz.ntmps6
  go_wp2_with fail
  refine (within_l2 _ n 41 (by omega) (by omega) n1 n2).mono ?_
  rintro e w1 ⟨rfl, rfl⟩
  rw [show ((41 : Nat) : Int) = 41 from rfl, ← HR.out]
  go_wp2_with fail
  refine (within_l2 _ (n.tdiv 41) 5 (by omega) (by omega) q1 q2).mono ?_
  rintro e w1 ⟨rfl, rfl⟩
  rw [show ((5 : Nat) : Int) = 5 from rfl, ← HD.out]
  go_wp2_with fail
  refine (of2_any _ (r - 20) (1 + d) (by omega) (by omega) (by omega) (by omega) (by omega)).mono ?_
  rintro e w1 ⟨v, rfl, hv, hf1⟩
  rw [ofQ_mk (r - 20) (1 + d) (by omega), show (1 + d).toNat = 1 + d.toNat by omega, ← HS.out] at hv
  have HV := hid hv
  obtain ⟨vN, vD, rfl, h1, h2⟩ := hv
  obtain ⟨xo, xc, rfl, _, _, _⟩ := h1.parts
  obtain ⟨yo, yc, rfl, _, _, _⟩ := h2.parts
  clear h1 h2
  have kR1 := kR.out.fwd hf1
  have hF1 := hid (hF.out.trans hf1)
  clear hf1
  generalize negQ (smallQ n) = s at *
  generalize nl (smallQ n).num.natAbs = ln at *
  generalize nl (smallQ n).den = ld at *
  have kR2 := kR1.alloc (.cells #[.bool s, .slice xo ln xc, .slice yo ld yc] 24)
  have hF2 := hid (hF1.out.alloc (.cells #[.bool s, .slice xo ln xc, .slice yo ld yc] 24))
  have kT := BlkV.made w1 24 [.bool s, .slice xo ln xc, .slice yo ld yc]
  have HV2 := HV.out.fwd ((Fwd.refl w1).alloc (.cells #[.bool s, .slice xo ln xc, .slice yo ld yc] 24))
  clear HV
  go_upto_region 2 with fail
  generalize (w1.alloc (.cells #[.bool s, .slice xo ln xc, .slice yo ld yc] 24)) = w2 at kT kR2 hF2 HV2 ⊢
  have rc0 := BlkV.cell kR2 0 rfl
  have rc1 := BlkV.cell kR2 1 rfl
  have rc2 := BlkV.cell kR2 2 rfl
  have rz0 := BlkV.frozen kR2 0
  have rz1 := BlkV.frozen kR2 1
  have rz2 := BlkV.frozen kR2 2
  have tc0 := BlkV.cell kT 0 rfl
  have tc1 := BlkV.cell kT 1 rfl
  have tc2 := BlkV.cell kT 2 rfl
  have HV := hid HV2
  have kR2 := hid kR2
  clear kT HV2
  go_wp2_with fail
  have hz := BlkV.set (BlkV.set (BlkV.set kR2.out 0 (.bool s)) 1 (.slice xo ln xc)) 2 (.slice yo ld yc)
  have hon := only_set3 w.heap.size w2 (.bool s) (.slice xo ln xc) (.slice yo ld yc)
  generalize (((w2.setCell ⟨w.heap.size, 0, none⟩ (.bool s)).setCell ⟨w.heap.size, 1, none⟩ (.slice xo ln xc)).setCell ⟨w.heap.size, 2, none⟩ (.slice yo ld yc)) = wz at hz hon ⊢
  have e0 := BlkV.cell hz 0 rfl
  have e1 := BlkV.cell hz 1 rfl
  have e2 := BlkV.cell hz 2 rfl
  refine bodyPost_ret (by simp [results, Tryz.results6, go_sem, e0, e1, e2]; try rfl) rfl ?_
  exact ⟨_, rfl, RV.keepV HV.out kR2.out (by intro c hc x; simp at hc; rcases hc with rfl | rfl | rfl <;> simp) hon, hF2.out.wrote hon (Nat.le_refl _)⟩
end Go.Proofs.YtnknbeinnfhomaaGreatDoor
