/- NatSizes: a sum has as many digits as the longer one, or one more, a product as both together, or one less; order goes with digits: the law's walk. -/
import Derived.Test.YthaclmceppelbabDoorS3
namespace Go.Proofs.YthaclmceppelbabDoor
open Go.RowKit
set_option linter.unusedVariables false

theorem blen_mono {a b : Nat} (h : a ≤ b) : blen a ≤ blen b := (blen_le_iff a (blen b)).2 (Nat.lt_of_le_of_lt h ((blen_le_iff b (blen b)).1 (Nat.le_refl _)))
theorem blen_lt {X Y : Nat} (h : blen Y < blen X) : Y < X := by
  rcases Nat.lt_or_ge Y X with h1 | h1
  · exact h1
  · have := blen_mono h1; omega
theorem blen_add (X Y : Nat) : blen (X + Y) = max (blen X) (blen Y) ∨ blen (X + Y) = max (blen X) (blen Y) + 1 := by
  have h1 : blen X ≤ blen (X + Y) := blen_mono (by omega)
  have h2 : blen Y ≤ blen (X + Y) := blen_mono (by omega)
  have h3 : blen (X + Y) ≤ max (blen X) (blen Y) + 1 := by
    rw [blen_le_iff, Nat.pow_succ]
    have a := (blen_le_iff X (max (blen X) (blen Y))).1 (by omega)
    have b := (blen_le_iff Y (max (blen X) (blen Y))).1 (by omega)
    omega
  omega
theorem blen_pos {X : Nat} (h : X ≠ 0) : 0 < blen X ∧ 2 ^ (blen X - 1) ≤ X := by
  have h0 : 0 < blen X := by rw [blen_half (x := X) (by omega)]; omega
  refine ⟨h0, ?_⟩
  rcases Nat.lt_or_ge X (2 ^ (blen X - 1)) with h1 | h1
  · have := (blen_le_iff X (blen X - 1)).2 h1; omega
  · exact h1
theorem blen_mul (X Y : Nat) : ((blen X = 0 ∨ blen Y = 0) ∧ blen (X * Y) = 0) ∨ (0 < blen X ∧ 0 < blen Y ∧ (blen (X * Y) = blen X + blen Y ∨ blen (X * Y) + 1 = blen X + blen Y)) := by
  by_cases hx : X = 0
  · left; subst hx; simp [blen_zero]
  by_cases hy : Y = 0
  · left; subst hy; simp [blen_zero]
  right
  obtain ⟨x0, x1⟩ := blen_pos hx
  obtain ⟨y0, y1⟩ := blen_pos hy
  refine ⟨x0, y0, ?_⟩
  have h1 : blen (X * Y) ≤ blen X + blen Y := by
    rw [blen_le_iff, Nat.pow_add]
    exact Nat.mul_lt_mul'' ((blen_le_iff X _).1 (Nat.le_refl _)) ((blen_le_iff Y _).1 (Nat.le_refl _))
  have h2 : ¬ blen (X * Y) ≤ blen X + blen Y - 2 := by
    intro h
    have h3 := (blen_le_iff _ _).1 h
    have h4 := Nat.mul_le_mul x1 y1
    rw [← Nat.pow_add, show blen X - 1 + (blen Y - 1) = blen X + blen Y - 2 by omega] at h4
    omega
  omega

set_option maxHeartbeats 8000000 in
theorem natSizes_walk {w : World} {a b : Value} {xa xb : List Nat} (ha : Arg w a xa) (hb : Arg w b xb) :
    Calls Tryd.prog 7 #[a, b] w fun e w' => e = .returned (.bool true) ∧ Below w.heap.size w w' := by
  go_enter Tryd.func7, Tryd.ntmps7
  go_wp2_with fail
  refine (known_any _).mono ?_
  rintro e w1 ⟨rfl, hf1⟩
  replace ha := ha.fwd hf1
  replace hb := hb.fwd hf1
  have hF := hf1
  go_wp2_with fail
  refine (make_any 12 ha (by omega) (by omega)).mono ?_
  rintro e w2 ⟨vX, rfl, hx, hf2⟩
  have bX := nl_take ha.ok 12
  generalize val (List.take 12 _) = X at hx bX
  replace hb := hb.fwd hf2
  replace hF := hF.trans hf2
  clear hf2
  clear ha
  go_wp2_with fail
  refine (make_any 12 hb (by omega) (by omega)).mono ?_
  rintro e w3 ⟨vY, rfl, hy, hf3⟩
  have bY := nl_take hb.ok 12
  generalize val (List.take 12 _) = Y at hy bY
  replace hx := hx.fwd hf3
  replace hF := hF.trans hf3
  clear hf3
  clear hb
  go_wp2_with fail
  refine (bits_any hx (by omega)).mono ?_
  rintro e w4 ⟨rfl, hf4⟩
  replace hx := hx.fwd hf4
  replace hy := hy.fwd hf4
  replace hF := hF.trans hf4
  clear hf4
  go_wp2_with fail
  refine (bits_any hy (by omega)).mono ?_
  rintro e w5 ⟨rfl, hf5⟩
  replace hx := hx.fwd hf5
  replace hy := hy.fwd hf5
  replace hF := hF.trans hf5
  clear hf5
  go_wp2_with fail
  refine (add_any hx hy (by omega) (by omega)).mono ?_
  rintro e w6 ⟨vh1, rfl, h1, hf6⟩
  have b1 := nl_add X Y
  replace hx := hx.fwd hf6
  replace hy := hy.fwd hf6
  replace hF := hF.trans hf6
  clear hf6
  go_wp2_with fail
  refine (bits_any h1 (by omega)).mono ?_
  rintro e w7 ⟨rfl, hf7⟩
  replace hx := hx.fwd hf7
  replace hy := hy.fwd hf7
  replace h1 := h1.fwd hf7
  replace hF := hF.trans hf7
  clear hf7
  clear h1
  go_wp2_with fail
  refine (mul_any hx hy (by omega) (by omega)).mono ?_
  rintro e w8 ⟨vh1, rfl, h1, hf8⟩
  have b2 := nl_mul X Y
  replace hx := hx.fwd hf8
  replace hy := hy.fwd hf8
  replace hF := hF.trans hf8
  clear hf8
  go_wp2_with fail
  refine (bits_any h1 (by omega)).mono ?_
  rintro e w9 ⟨rfl, hf9⟩
  replace hx := hx.fwd hf9
  replace hy := hy.fwd hf9
  replace h1 := h1.fwd hf9
  replace hF := hF.trans hf9
  clear hf9
  clear h1
  have f1 := blen_add X Y
  have f2 := blen_mul X Y
  have f3 : blen Y < blen X → Y < X := blen_lt
  have f4 := blen_nl X
  have f5 := blen_nl Y
  have f6 := blen_nl (X + Y)
  have f7 := blen_nl (X * Y)
  obtain ⟨N, hN⟩ : ∃ N, N = blen X := ⟨_, rfl⟩
  obtain ⟨M, hM⟩ : ∃ M, M = blen Y := ⟨_, rfl⟩
  obtain ⟨S, hS⟩ : ∃ S, S = blen (X + Y) := ⟨_, rfl⟩
  obtain ⟨P, hP⟩ : ∃ P, P = blen (X * Y) := ⟨_, rfl⟩
  rw [← hN, ← hM, ← hS, ← hP]
  rw [← hN, ← hM, ← hS] at f1
  rw [← hN, ← hM, ← hP] at f2
  rw [← hN, ← hM] at f3
  rw [← hN] at f4
  rw [← hM] at f5
  rw [← hS] at f6
  rw [← hP] at f7
  have hXY := hid f3
  clear hN hM hS hP f3
  have cs : (N < M ∨ M < N ∨ N = M) ∧ ((S ≤ max N M ∧ max N M ≤ S) ∨ (S ≤ max N M + 1 ∧ max N M + 1 ≤ S)) ∧ ((N = 0 ∧ P = 0) ∨ (0 < N ∧ M = 0 ∧ P = 0) ∨ (0 < N ∧ 0 < M ∧ P ≤ N + M ∧ N + M ≤ P) ∨ (0 < N ∧ 0 < M ∧ P + 1 ≤ N + M ∧ N + M ≤ P + 1)) := by omega
  clear f1 f2
  obtain ⟨c1, c2, c3⟩ := cs
  rcases c1 with c1 | c1 | rfl <;> rcases c2 with ⟨d1, d2⟩ | ⟨d1, d2⟩ <;> rcases c3 with ⟨g1, g2⟩ | ⟨g1, g2, g3⟩ | ⟨g1, g2, g3, g4⟩ | ⟨g1, g2, g3, g4⟩
  · have t1 : ((S : Int) != (M : Int)) = false := by simp; omega
    have t3 : ((N : Int) == 0) = true := by simp; omega
    skip
    have t5 : ((P : Int) == 0) = true := by simp; omega
    clear d1 d2 g1 g2
    go_wp2
    go_ret
    exact ⟨rfl, hF⟩
  · exfalso; omega
  · have t1 : ((S : Int) != (M : Int)) = false := by simp; omega
    have t3 : ((N : Int) == 0) = false := by simp; omega
    have t4 : ((M : Int) == 0) = false := by simp; omega
    have t6 : ((P : Int) == (N : Int) + (M : Int)) = true := by simp; omega
    clear d1 d2 g1 g2 g3 g4
    go_wp2
    go_ret
    exact ⟨rfl, hF⟩
  · have t1 : ((S : Int) != (M : Int)) = false := by simp; omega
    have t3 : ((N : Int) == 0) = false := by simp; omega
    have t4 : ((M : Int) == 0) = false := by simp; omega
    have t6 : ((P : Int) == (N : Int) + (M : Int)) = false := by simp; omega
    have t7 : ((P : Int) == (N : Int) + (M : Int) - 1) = true := by simp; omega
    clear d1 d2 g1 g2 g3 g4
    go_wp2
    go_ret
    exact ⟨rfl, hF⟩
  · have t1 : ((S : Int) != (M : Int)) = true := by simp; omega
    have t2 : ((S : Int) != (M : Int) + 1) = false := by simp; omega
    have t3 : ((N : Int) == 0) = true := by simp; omega
    skip
    have t5 : ((P : Int) == 0) = true := by simp; omega
    clear d1 d2 g1 g2
    go_wp2
    go_ret
    exact ⟨rfl, hF⟩
  · exfalso; omega
  · have t1 : ((S : Int) != (M : Int)) = true := by simp; omega
    have t2 : ((S : Int) != (M : Int) + 1) = false := by simp; omega
    have t3 : ((N : Int) == 0) = false := by simp; omega
    have t4 : ((M : Int) == 0) = false := by simp; omega
    have t6 : ((P : Int) == (N : Int) + (M : Int)) = true := by simp; omega
    clear d1 d2 g1 g2 g3 g4
    go_wp2
    go_ret
    exact ⟨rfl, hF⟩
  · have t1 : ((S : Int) != (M : Int)) = true := by simp; omega
    have t2 : ((S : Int) != (M : Int) + 1) = false := by simp; omega
    have t3 : ((N : Int) == 0) = false := by simp; omega
    have t4 : ((M : Int) == 0) = false := by simp; omega
    have t6 : ((P : Int) == (N : Int) + (M : Int)) = false := by simp; omega
    have t7 : ((P : Int) == (N : Int) + (M : Int) - 1) = true := by simp; omega
    clear d1 d2 g1 g2 g3 g4
    go_wp2
    go_ret
    exact ⟨rfl, hF⟩
  · exfalso; omega
  · have t1 : ((S : Int) != (N : Int)) = false := by simp; omega
    have t3 : ((N : Int) == 0) = false := by simp; omega
    have t4 : ((M : Int) == 0) = true := by simp; omega
    have t5 : ((P : Int) == 0) = true := by simp; omega
    clear d1 d2 g1 g2 g3
    have hq := hXY.out c1
    go_wp2_with fail
    refine (cmp_any hx hy (by omega) (by omega)).mono ?_
    rintro e wz ⟨rfl, hz⟩
    rw [cmpI_gt (by omega)]
    replace hF := hF.trans hz
    go_wp2
    go_ret
    exact ⟨rfl, hF⟩
  · have t1 : ((S : Int) != (N : Int)) = false := by simp; omega
    have t3 : ((N : Int) == 0) = false := by simp; omega
    have t4 : ((M : Int) == 0) = false := by simp; omega
    have t6 : ((P : Int) == (N : Int) + (M : Int)) = true := by simp; omega
    clear d1 d2 g1 g2 g3 g4
    have hq := hXY.out c1
    go_wp2_with fail
    refine (cmp_any hx hy (by omega) (by omega)).mono ?_
    rintro e wz ⟨rfl, hz⟩
    rw [cmpI_gt (by omega)]
    replace hF := hF.trans hz
    go_wp2
    go_ret
    exact ⟨rfl, hF⟩
  · have t1 : ((S : Int) != (N : Int)) = false := by simp; omega
    have t3 : ((N : Int) == 0) = false := by simp; omega
    have t4 : ((M : Int) == 0) = false := by simp; omega
    have t6 : ((P : Int) == (N : Int) + (M : Int)) = false := by simp; omega
    have t7 : ((P : Int) == (N : Int) + (M : Int) - 1) = true := by simp; omega
    clear d1 d2 g1 g2 g3 g4
    have hq := hXY.out c1
    go_wp2_with fail
    refine (cmp_any hx hy (by omega) (by omega)).mono ?_
    rintro e wz ⟨rfl, hz⟩
    rw [cmpI_gt (by omega)]
    replace hF := hF.trans hz
    go_wp2
    go_ret
    exact ⟨rfl, hF⟩
  · exfalso; omega
  · have t1 : ((S : Int) != (N : Int)) = true := by simp; omega
    have t2 : ((S : Int) != (N : Int) + 1) = false := by simp; omega
    have t3 : ((N : Int) == 0) = false := by simp; omega
    have t4 : ((M : Int) == 0) = true := by simp; omega
    have t5 : ((P : Int) == 0) = true := by simp; omega
    clear d1 d2 g1 g2 g3
    have hq := hXY.out c1
    go_wp2_with fail
    refine (cmp_any hx hy (by omega) (by omega)).mono ?_
    rintro e wz ⟨rfl, hz⟩
    rw [cmpI_gt (by omega)]
    replace hF := hF.trans hz
    go_wp2
    go_ret
    exact ⟨rfl, hF⟩
  · have t1 : ((S : Int) != (N : Int)) = true := by simp; omega
    have t2 : ((S : Int) != (N : Int) + 1) = false := by simp; omega
    have t3 : ((N : Int) == 0) = false := by simp; omega
    have t4 : ((M : Int) == 0) = false := by simp; omega
    have t6 : ((P : Int) == (N : Int) + (M : Int)) = true := by simp; omega
    clear d1 d2 g1 g2 g3 g4
    have hq := hXY.out c1
    go_wp2_with fail
    refine (cmp_any hx hy (by omega) (by omega)).mono ?_
    rintro e wz ⟨rfl, hz⟩
    rw [cmpI_gt (by omega)]
    replace hF := hF.trans hz
    go_wp2
    go_ret
    exact ⟨rfl, hF⟩
  · have t1 : ((S : Int) != (N : Int)) = true := by simp; omega
    have t2 : ((S : Int) != (N : Int) + 1) = false := by simp; omega
    have t3 : ((N : Int) == 0) = false := by simp; omega
    have t4 : ((M : Int) == 0) = false := by simp; omega
    have t6 : ((P : Int) == (N : Int) + (M : Int)) = false := by simp; omega
    have t7 : ((P : Int) == (N : Int) + (M : Int) - 1) = true := by simp; omega
    clear d1 d2 g1 g2 g3 g4
    have hq := hXY.out c1
    go_wp2_with fail
    refine (cmp_any hx hy (by omega) (by omega)).mono ?_
    rintro e wz ⟨rfl, hz⟩
    rw [cmpI_gt (by omega)]
    replace hF := hF.trans hz
    go_wp2
    go_ret
    exact ⟨rfl, hF⟩
  · have t1 : ((S : Int) != (N : Int)) = false := by simp; omega
    have t3 : ((N : Int) == 0) = true := by simp; omega
    skip
    have t5 : ((P : Int) == 0) = true := by simp; omega
    clear d1 d2 g1 g2
    go_wp2
    go_ret
    exact ⟨rfl, hF⟩
  · exfalso; omega
  · have t1 : ((S : Int) != (N : Int)) = false := by simp; omega
    have t3 : ((N : Int) == 0) = false := by simp; omega
    have t6 : ((P : Int) == (N : Int) + (N : Int)) = true := by simp; omega
    clear d1 d2 g1 g2 g3 g4
    go_wp2
    go_ret
    exact ⟨rfl, hF⟩
  · have t1 : ((S : Int) != (N : Int)) = false := by simp; omega
    have t3 : ((N : Int) == 0) = false := by simp; omega
    have t6 : ((P : Int) == (N : Int) + (N : Int)) = false := by simp; omega
    have t7 : ((P : Int) == (N : Int) + (N : Int) - 1) = true := by simp; omega
    clear d1 d2 g1 g2 g3 g4
    go_wp2
    go_ret
    exact ⟨rfl, hF⟩
  · have t1 : ((S : Int) != (N : Int)) = true := by simp; omega
    have t2 : ((S : Int) != (N : Int) + 1) = false := by simp; omega
    have t3 : ((N : Int) == 0) = true := by simp; omega
    skip
    have t5 : ((P : Int) == 0) = true := by simp; omega
    clear d1 d2 g1 g2
    go_wp2
    go_ret
    exact ⟨rfl, hF⟩
  · exfalso; omega
  · have t1 : ((S : Int) != (N : Int)) = true := by simp; omega
    have t2 : ((S : Int) != (N : Int) + 1) = false := by simp; omega
    have t3 : ((N : Int) == 0) = false := by simp; omega
    have t6 : ((P : Int) == (N : Int) + (N : Int)) = true := by simp; omega
    clear d1 d2 g1 g2 g3 g4
    go_wp2
    go_ret
    exact ⟨rfl, hF⟩
  · have t1 : ((S : Int) != (N : Int)) = true := by simp; omega
    have t2 : ((S : Int) != (N : Int) + 1) = false := by simp; omega
    have t3 : ((N : Int) == 0) = false := by simp; omega
    have t6 : ((P : Int) == (N : Int) + (N : Int)) = false := by simp; omega
    have t7 : ((P : Int) == (N : Int) + (N : Int) - 1) = true := by simp; omega
    clear d1 d2 g1 g2 g3 g4
    go_wp2
    go_ret
    exact ⟨rfl, hF⟩

end Go.Proofs.YthaclmceppelbabDoor
