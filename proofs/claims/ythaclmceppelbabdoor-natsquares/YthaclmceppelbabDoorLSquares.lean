/- NatSquares: the square of a sum is both squares, and both products; without the products' double it is that of what is between them: the law's walk. -/
import Derived.Test.YthaclmceppelbabDoorS3
namespace Go.Proofs.YthaclmceppelbabDoor
open Go.RowKit
set_option linter.unusedVariables false

theorem sq_le (X Y : Nat) (h : Y ≤ X) : X * Y * 2 ^ 1 ≤ X * X + Y * Y := by
  obtain ⟨D, rfl⟩ : ∃ D, X = Y + D := ⟨X - Y, by omega⟩
  have : (Y + D) * (Y + D) + Y * Y = (Y + D) * Y * 2 ^ 1 + D * D := by grind
  omega
theorem sq_add (X Y : Nat) : (X + Y) * (X + Y) = X * X + Y * Y + X * Y * 2 ^ 1 := by grind
theorem sq_sub (X Y : Nat) (h : Y ≤ X) : (X - Y) * (X - Y) = X * X + Y * Y - X * Y * 2 ^ 1 := by
  obtain ⟨D, rfl⟩ : ∃ D, X = Y + D := ⟨X - Y, by omega⟩
  have e : (Y + D) * (Y + D) + Y * Y = (Y + D) * Y * 2 ^ 1 + D * D := by grind
  rw [e, show Y + D - Y = D by omega]; omega
theorem cmpI_nonneg {X Y : Nat} (h : Y ≤ X) : ∃ ci : Int, ci = cmpI X Y ∧ 0 ≤ ci := by
  rcases Nat.lt_or_ge Y X with h2 | h2
  · exact ⟨_, rfl, by rw [cmpI_gt (by omega)]; omega⟩
  · exact ⟨_, rfl, by rw [cmpI_eq (by omega)]; omega⟩

set_option maxHeartbeats 8000000 in
theorem natSquares_walk {w : World} {a b : Value} {xa xb : List Nat} (ha : Arg w a xa) (hb : Arg w b xb) :
    Calls Tryd.prog 8 #[a, b] w fun e w' => e = .returned (.bool true) ∧ Below w.heap.size w w' := by
  go_enter Tryd.func8, Tryd.ntmps8
  go_wp2_with fail
  refine (known_any _).mono ?_
  rintro e w1 ⟨rfl, hf1⟩
  replace ha := ha.fwd hf1
  replace hb := hb.fwd hf1
  have hF := hf1
  go_wp2_with fail
  refine (make_any 10 ha (by omega) (by omega)).mono ?_
  rintro e w2 ⟨vX, rfl, hx, hf2⟩
  have bX := nl_take ha.ok 10
  generalize val (List.take 10 _) = X at hx bX
  replace hb := hb.fwd hf2
  replace hF := hF.trans hf2
  clear hf2
  clear ha
  go_wp2_with fail
  refine (make_any 10 hb (by omega) (by omega)).mono ?_
  rintro e w3 ⟨vY, rfl, hy, hf3⟩
  have bY := nl_take hb.ok 10
  generalize val (List.take 10 _) = Y at hy bY
  replace hx := hx.fwd hf3
  replace hF := hF.trans hf3
  clear hf3
  clear hb
  go_wp2_with fail
  refine (refCmp_any hx hy (by omega) (by omega)).mono ?_
  rintro e w4 ⟨rfl, hf4⟩
  replace hx := hx.fwd hf4
  replace hy := hy.fwd hf4
  replace hF := hF.trans hf4
  clear hf4
  by_cases hlt : X < Y
  · have hXY : X ≤ Y := by omega
    rw [cmpI_lt (by omega)]
    clear hlt
    have hsq : Y * X * 2 ^ 1 ≤ Y * Y + X * X := sq_le Y X hXY
    go_wp2_with fail
    refine (mul_any hy hx (by omega) (by omega)).mono ?_
    rintro e w5 ⟨vh1, rfl, h1, hf5⟩
    have b1 := nl_mul Y X
    replace hx := hx.fwd hf5
    replace hy := hy.fwd hf5
    replace hF := hF.trans hf5
    clear hf5
    go_wp2_with fail
    refine (shl_any 1 h1 (by omega) (by omega)).mono ?_
    rintro e w6 ⟨vp, rfl, hp, hf6⟩
    have b2 := nl_shl (Y * X) 1
    replace hx := hx.fwd hf6
    replace hy := hy.fwd hf6
    replace h1 := h1.fwd hf6
    replace hF := hF.trans hf6
    clear hf6
    clear h1
    go_wp2_with fail
    refine (mul_any hy hy (by omega) (by omega)).mono ?_
    rintro e w7 ⟨vh1, rfl, h1, hf7⟩
    have b3 := nl_mul Y Y
    replace hx := hx.fwd hf7
    replace hy := hy.fwd hf7
    replace hp := hp.fwd hf7
    replace hF := hF.trans hf7
    clear hf7
    go_wp2_with fail
    refine (mul_any hx hx (by omega) (by omega)).mono ?_
    rintro e w8 ⟨vh2, rfl, h2, hf8⟩
    have b4 := nl_mul X X
    replace hx := hx.fwd hf8
    replace hy := hy.fwd hf8
    replace hp := hp.fwd hf8
    replace h1 := h1.fwd hf8
    replace hF := hF.trans hf8
    clear hf8
    go_wp2_with fail
    refine (add_any h1 h2 (by omega) (by omega)).mono ?_
    rintro e w9 ⟨vhs, rfl, hs, hf9⟩
    have b5 := nl_add (Y * Y) (X * X)
    replace hx := hx.fwd hf9
    replace hy := hy.fwd hf9
    replace hp := hp.fwd hf9
    replace h1 := h1.fwd hf9
    replace h2 := h2.fwd hf9
    replace hF := hF.trans hf9
    clear hf9
    clear h1 h2
    go_wp2_with fail
    refine (sub_more hy hx (by omega) (by omega) hXY).mono ?_
    rintro e w10 ⟨vd, rfl, hd, hf10⟩
    have b6 := nl_sub Y X
    replace hx := hx.fwd hf10
    replace hy := hy.fwd hf10
    replace hp := hp.fwd hf10
    replace hs := hs.fwd hf10
    replace hF := hF.trans hf10
    clear hf10
    go_wp2_with fail
    refine (add_any hy hx (by omega) (by omega)).mono ?_
    rintro e w11 ⟨vht, rfl, ht, hf11⟩
    have b7 := nl_add Y X
    replace hx := hx.fwd hf11
    replace hy := hy.fwd hf11
    replace hp := hp.fwd hf11
    replace hs := hs.fwd hf11
    replace hd := hd.fwd hf11
    replace hF := hF.trans hf11
    clear hf11
    go_wp2_with fail
    refine (sub_more hs hp (by omega) (by omega) hsq).mono ?_
    rintro e w12 ⟨vq, rfl, hq, hf12⟩
    have b8 := nl_sub (Y * Y + X * X) (Y * X * 2 ^ 1)
    replace hx := hx.fwd hf12
    replace hy := hy.fwd hf12
    replace hp := hp.fwd hf12
    replace hs := hs.fwd hf12
    replace hd := hd.fwd hf12
    replace ht := ht.fwd hf12
    replace hF := hF.trans hf12
    clear hf12
    go_wp2_with fail
    refine (mul_any ht ht (by omega) (by omega)).mono ?_
    rintro e w13 ⟨vh1, rfl, h1, hf13⟩
    have b9 := nl_mul (Y + X) (Y + X)
    replace hx := hx.fwd hf13
    replace hy := hy.fwd hf13
    replace hp := hp.fwd hf13
    replace hs := hs.fwd hf13
    replace hd := hd.fwd hf13
    replace ht := ht.fwd hf13
    replace hq := hq.fwd hf13
    replace hF := hF.trans hf13
    clear hf13
    go_wp2_with fail
    refine (add_any hs hp (by omega) (by omega)).mono ?_
    rintro e w14 ⟨vh2, rfl, h2, hf14⟩
    have c1 := nl_add (Y * Y + X * X) (Y * X * 2 ^ 1)
    replace hx := hx.fwd hf14
    replace hy := hy.fwd hf14
    replace hp := hp.fwd hf14
    replace hs := hs.fwd hf14
    replace hd := hd.fwd hf14
    replace ht := ht.fwd hf14
    replace hq := hq.fwd hf14
    replace h1 := h1.fwd hf14
    replace hF := hF.trans hf14
    clear hf14
    go_wp2_with fail
    refine (same_true h1 h2 (by omega) (by omega) (sq_add Y X)).mono ?_
    rintro e w15 ⟨rfl, hf15⟩
    replace hx := hx.fwd hf15
    replace hy := hy.fwd hf15
    replace hp := hp.fwd hf15
    replace hs := hs.fwd hf15
    replace hd := hd.fwd hf15
    replace ht := ht.fwd hf15
    replace hq := hq.fwd hf15
    replace h1 := h1.fwd hf15
    replace h2 := h2.fwd hf15
    replace hF := hF.trans hf15
    clear hf15
    clear h1 h2
    go_wp2_with fail
    refine (mul_any hd hd (by omega) (by omega)).mono ?_
    rintro e w16 ⟨vh1, rfl, h1, hf16⟩
    have c2 := nl_mul (Y - X) (Y - X)
    replace hx := hx.fwd hf16
    replace hy := hy.fwd hf16
    replace hp := hp.fwd hf16
    replace hs := hs.fwd hf16
    replace hd := hd.fwd hf16
    replace ht := ht.fwd hf16
    replace hq := hq.fwd hf16
    replace hF := hF.trans hf16
    clear hf16
    go_wp2_with fail
    refine (same_true h1 hq (by omega) (by omega) (sq_sub Y X hXY)).mono ?_
    rintro e w17 ⟨rfl, hf17⟩
    replace hx := hx.fwd hf17
    replace hy := hy.fwd hf17
    replace hp := hp.fwd hf17
    replace hs := hs.fwd hf17
    replace hd := hd.fwd hf17
    replace ht := ht.fwd hf17
    replace hq := hq.fwd hf17
    replace h1 := h1.fwd hf17
    replace hF := hF.trans hf17
    clear hf17
    go_wp2
    go_ret
    exact ⟨rfl, hF⟩
  · have hXY : Y ≤ X := by omega
    obtain ⟨ci, hci, hc0⟩ : ∃ ci, ci = cmpI X Y ∧ 0 ≤ ci := cmpI_nonneg hXY
    rw [← hci]
    clear hci hlt
    have hsq : X * Y * 2 ^ 1 ≤ X * X + Y * Y := sq_le X Y hXY
    go_wp2_with fail
    refine (mul_any hx hy (by omega) (by omega)).mono ?_
    rintro e w5 ⟨vh1, rfl, h1, hf5⟩
    have b1 := nl_mul X Y
    replace hx := hx.fwd hf5
    replace hy := hy.fwd hf5
    replace hF := hF.trans hf5
    clear hf5
    go_wp2_with fail
    refine (shl_any 1 h1 (by omega) (by omega)).mono ?_
    rintro e w6 ⟨vp, rfl, hp, hf6⟩
    have b2 := nl_shl (X * Y) 1
    replace hx := hx.fwd hf6
    replace hy := hy.fwd hf6
    replace h1 := h1.fwd hf6
    replace hF := hF.trans hf6
    clear hf6
    clear h1
    go_wp2_with fail
    refine (mul_any hx hx (by omega) (by omega)).mono ?_
    rintro e w7 ⟨vh1, rfl, h1, hf7⟩
    have b3 := nl_mul X X
    replace hx := hx.fwd hf7
    replace hy := hy.fwd hf7
    replace hp := hp.fwd hf7
    replace hF := hF.trans hf7
    clear hf7
    go_wp2_with fail
    refine (mul_any hy hy (by omega) (by omega)).mono ?_
    rintro e w8 ⟨vh2, rfl, h2, hf8⟩
    have b4 := nl_mul Y Y
    replace hx := hx.fwd hf8
    replace hy := hy.fwd hf8
    replace hp := hp.fwd hf8
    replace h1 := h1.fwd hf8
    replace hF := hF.trans hf8
    clear hf8
    go_wp2_with fail
    refine (add_any h1 h2 (by omega) (by omega)).mono ?_
    rintro e w9 ⟨vhs, rfl, hs, hf9⟩
    have b5 := nl_add (X * X) (Y * Y)
    replace hx := hx.fwd hf9
    replace hy := hy.fwd hf9
    replace hp := hp.fwd hf9
    replace h1 := h1.fwd hf9
    replace h2 := h2.fwd hf9
    replace hF := hF.trans hf9
    clear hf9
    clear h1 h2
    go_wp2_with fail
    refine (sub_more hx hy (by omega) (by omega) hXY).mono ?_
    rintro e w10 ⟨vd, rfl, hd, hf10⟩
    have b6 := nl_sub X Y
    replace hx := hx.fwd hf10
    replace hy := hy.fwd hf10
    replace hp := hp.fwd hf10
    replace hs := hs.fwd hf10
    replace hF := hF.trans hf10
    clear hf10
    go_wp2_with fail
    refine (add_any hx hy (by omega) (by omega)).mono ?_
    rintro e w11 ⟨vht, rfl, ht, hf11⟩
    have b7 := nl_add X Y
    replace hx := hx.fwd hf11
    replace hy := hy.fwd hf11
    replace hp := hp.fwd hf11
    replace hs := hs.fwd hf11
    replace hd := hd.fwd hf11
    replace hF := hF.trans hf11
    clear hf11
    go_wp2_with fail
    refine (sub_more hs hp (by omega) (by omega) hsq).mono ?_
    rintro e w12 ⟨vq, rfl, hq, hf12⟩
    have b8 := nl_sub (X * X + Y * Y) (X * Y * 2 ^ 1)
    replace hx := hx.fwd hf12
    replace hy := hy.fwd hf12
    replace hp := hp.fwd hf12
    replace hs := hs.fwd hf12
    replace hd := hd.fwd hf12
    replace ht := ht.fwd hf12
    replace hF := hF.trans hf12
    clear hf12
    go_wp2_with fail
    refine (mul_any ht ht (by omega) (by omega)).mono ?_
    rintro e w13 ⟨vh1, rfl, h1, hf13⟩
    have b9 := nl_mul (X + Y) (X + Y)
    replace hx := hx.fwd hf13
    replace hy := hy.fwd hf13
    replace hp := hp.fwd hf13
    replace hs := hs.fwd hf13
    replace hd := hd.fwd hf13
    replace ht := ht.fwd hf13
    replace hq := hq.fwd hf13
    replace hF := hF.trans hf13
    clear hf13
    go_wp2_with fail
    refine (add_any hs hp (by omega) (by omega)).mono ?_
    rintro e w14 ⟨vh2, rfl, h2, hf14⟩
    have c1 := nl_add (X * X + Y * Y) (X * Y * 2 ^ 1)
    replace hx := hx.fwd hf14
    replace hy := hy.fwd hf14
    replace hp := hp.fwd hf14
    replace hs := hs.fwd hf14
    replace hd := hd.fwd hf14
    replace ht := ht.fwd hf14
    replace hq := hq.fwd hf14
    replace h1 := h1.fwd hf14
    replace hF := hF.trans hf14
    clear hf14
    go_wp2_with fail
    refine (same_true h1 h2 (by omega) (by omega) (sq_add X Y)).mono ?_
    rintro e w15 ⟨rfl, hf15⟩
    replace hx := hx.fwd hf15
    replace hy := hy.fwd hf15
    replace hp := hp.fwd hf15
    replace hs := hs.fwd hf15
    replace hd := hd.fwd hf15
    replace ht := ht.fwd hf15
    replace hq := hq.fwd hf15
    replace h1 := h1.fwd hf15
    replace h2 := h2.fwd hf15
    replace hF := hF.trans hf15
    clear hf15
    clear h1 h2
    go_wp2_with fail
    refine (mul_any hd hd (by omega) (by omega)).mono ?_
    rintro e w16 ⟨vh1, rfl, h1, hf16⟩
    have c2 := nl_mul (X - Y) (X - Y)
    replace hx := hx.fwd hf16
    replace hy := hy.fwd hf16
    replace hp := hp.fwd hf16
    replace hs := hs.fwd hf16
    replace hd := hd.fwd hf16
    replace ht := ht.fwd hf16
    replace hq := hq.fwd hf16
    replace hF := hF.trans hf16
    clear hf16
    go_wp2_with fail
    refine (same_true h1 hq (by omega) (by omega) (sq_sub X Y hXY)).mono ?_
    rintro e w17 ⟨rfl, hf17⟩
    replace hx := hx.fwd hf17
    replace hy := hy.fwd hf17
    replace hp := hp.fwd hf17
    replace hs := hs.fwd hf17
    replace hd := hd.fwd hf17
    replace ht := ht.fwd hf17
    replace hq := hq.fwd hf17
    replace h1 := h1.fwd hf17
    replace hF := hF.trans hf17
    clear hf17
    go_wp2
    go_ret
    exact ⟨rfl, hF⟩

end Go.Proofs.YthaclmceppelbabDoor
