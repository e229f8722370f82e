/- The program's rational numbers: size, Of, Mul, Quo. -/
/- The program's rational numbers: Quo; what stands above a denominator: above, times, plus, minus. -/
/- The program's rational numbers: Mul, Quo as numbers; slices.Clone; Neg, Abs, turn, Cmp. -/
import Derived.Test.YtcccejhkblnonaaGreatYXP1
import Derived.Deep.RegionHeld3
namespace Go.Proofs.YtcccejhkblnonaaGreat
open Go.RowKit
set_option linter.unusedVariables false

set_option maxHeartbeats 4000000 in
set_option maxRecDepth 20000 in
theorem rmul_raw {w : World} {a b : Value} {sa sb : Bool} {ma da mb db : Nat} (ha : RW w a sa ma da) (bam : nl ma ≤ 10000) (bad : nl da ≤ 10000) (hb : RW w b sb mb db) (bbm : nl mb ≤ 10000) (bbd : nl db ≤ 10000) (za : da ≠ 0) (zb : db ≠ 0) :
    Calls Tryz.prog 76 #[a, b] w fun e w' => ∃ v, e = .returned v ∧ RW w' v ((sa != sb) && !(ma / Nat.gcd ma db * (mb / Nat.gcd mb da) == 0)) (ma / Nat.gcd ma db * (mb / Nat.gcd mb da)) (da / Nat.gcd mb da * (db / Nat.gcd ma db)) ∧ Fwd w w' := by
  have g10 : Nat.gcd ma db ≠ 0 := fun e => zb (Nat.eq_zero_of_gcd_eq_zero_right e)
  have g20 : Nat.gcd mb da ≠ 0 := fun e => za (Nat.eq_zero_of_gcd_eq_zero_right e)
  have G10 := hid g10
  have G20 := hid g20
  clear g10 g20
  have e1 := nl_gcd ma db
  have e2 := nl_gcd mb da
  have e3 := nl_div ma (Nat.gcd ma db)
  have e4 := nl_div mb (Nat.gcd mb da)
  have e5 := nl_div da (Nat.gcd mb da)
  have e6 := nl_div db (Nat.gcd ma db)
  have e7 := nl_mul (ma / Nat.gcd ma db) (mb / Nat.gcd mb da)
  obtain ⟨ao, ac, ap, ae, rfl, a1, a2, a3, a4, aN, aD⟩ := RW.open ha
  clear ha
  obtain ⟨bo, bc, bp, be, rfl, b1, b2, b3, b4, bN, bD⟩ := RW.open hb
  clear hb
  have kA : BlkV (((w.alloc (.cells #[.bool sa, .slice ao (nl (ma)) ac, .slice ap (nl (da)) ae] 34)).alloc (.cells #[.bool sb, .slice bo (nl (mb)) bc, .slice bp (nl (db)) be] 34)).alloc (.cells #[.bool false, .slice none 0 0, .slice none 0 0] 34)) (w.heap.size) 34 [.bool sa, .slice ao (nl (ma)) ac, .slice ap (nl (da)) ae] := ((BlkV.made' w (w.heap.size) (by simp) 34 [.bool sa, .slice ao (nl (ma)) ac, .slice ap (nl (da)) ae]).alloc _).alloc _
  have kB : BlkV (((w.alloc (.cells #[.bool sa, .slice ao (nl (ma)) ac, .slice ap (nl (da)) ae] 34)).alloc (.cells #[.bool sb, .slice bo (nl (mb)) bc, .slice bp (nl (db)) be] 34)).alloc (.cells #[.bool false, .slice none 0 0, .slice none 0 0] 34)) (w.heap.size + 1) 34 [.bool sb, .slice bo (nl (mb)) bc, .slice bp (nl (db)) be] := (BlkV.made' (w.alloc (.cells #[.bool sa, .slice ao (nl (ma)) ac, .slice ap (nl (da)) ae] 34)) (w.heap.size + 1) (by simp) 34 [.bool sb, .slice bo (nl (mb)) bc, .slice bp (nl (db)) be]).alloc _
  have kR : BlkV (((w.alloc (.cells #[.bool sa, .slice ao (nl (ma)) ac, .slice ap (nl (da)) ae] 34)).alloc (.cells #[.bool sb, .slice bo (nl (mb)) bc, .slice bp (nl (db)) be] 34)).alloc (.cells #[.bool false, .slice none 0 0, .slice none 0 0] 34)) (w.heap.size + 1 + 1) 34 [.bool false, .slice none 0 0, .slice none 0 0] := BlkV.made' ((w.alloc (.cells #[.bool sa, .slice ao (nl (ma)) ac, .slice ap (nl (da)) ae] 34)).alloc (.cells #[.bool sb, .slice bo (nl (mb)) bc, .slice bp (nl (db)) be] 34)) (w.heap.size + 1 + 1) (by simp) 34 [.bool false, .slice none 0 0, .slice none 0 0]
  have hF : Fwd w (((w.alloc (.cells #[.bool sa, .slice ao (nl (ma)) ac, .slice ap (nl (da)) ae] 34)).alloc (.cells #[.bool sb, .slice bo (nl (mb)) bc, .slice bp (nl (db)) be] 34)).alloc (.cells #[.bool false, .slice none 0 0, .slice none 0 0] 34)) := (((Fwd.refl w).alloc _).alloc _).alloc _
  replace aN := aN.fwd hF
  replace aD := aD.fwd hF
  replace bN := bN.fwd hF
  replace bD := bD.fwd hF
  go_enter Tryz.func76, Tryz.ntmps76
  go_wp2_with fail
  replace aN := aN.drew
  replace aD := aD.drew
  replace bN := bN.drew
  replace bD := bD.drew
  replace kA := kA.drew
  replace kB := kB.drew
  replace kR := kR.drew
  replace hF := hF.drew
  have ac0 := BlkV.cell kA 0 rfl
  have ac1 := BlkV.cell kA 1 rfl
  have ac2 := BlkV.cell kA 2 rfl
  have bc0 := BlkV.cell kB 0 rfl
  have bc1 := BlkV.cell kB 1 rfl
  have bc2 := BlkV.cell kB 2 rfl
  have rc0 := BlkV.cell kR 0 rfl
  have rz0 := BlkV.frozen kR 0
  have rc1 := BlkV.cell kR 1 rfl
  have rz1 := BlkV.frozen kR 1
  have rc2 := BlkV.cell kR 2 rfl
  have rz2 := BlkV.frozen kR 2
  go_region_held3 (fun w' => w'.cell? ⟨w.heap.size, 0, none⟩ = some (.bool sa) ∧ w'.cell? ⟨w.heap.size, 1, none⟩ = some (.slice ao (nl (ma)) ac) ∧ w'.cell? ⟨w.heap.size, 2, none⟩ = some (.slice ap (nl (da)) ae) ∧ w'.cell? ⟨w.heap.size + 1, 0, none⟩ = some (.bool sb) ∧ w'.cell? ⟨w.heap.size + 1, 1, none⟩ = some (.slice bo (nl (mb)) bc) ∧ w'.cell? ⟨w.heap.size + 1, 2, none⟩ = some (.slice bp (nl (db)) be))
    (first | exact ⟨by with_reducible assumption, by with_reducible assumption, by with_reducible assumption, by with_reducible assumption, by with_reducible assumption, by with_reducible assumption⟩ | exact ⟨farset (by simp; try omega) (by with_reducible assumption), farset (by simp; try omega) (by with_reducible assumption), farset (by simp; try omega) (by with_reducible assumption), farset (by simp; try omega) (by with_reducible assumption), farset (by simp; try omega) (by with_reducible assumption), farset (by simp; try omega) (by with_reducible assumption)⟩)
    (first
      | (go_at_call 88
         have _ := mk1
         refine (gcd_any bN aD (by omega) (by omega)).mono ?_
         rintro e w2 ⟨v2, rfl, h2, hf2⟩
         replace aN := aN.fwd hf2
         replace aD := aD.fwd hf2
         replace bN := bN.fwd hf2
         replace bD := bD.fwd hf2
         replace h1 := h1.fwd hf2
         replace kA := kA.fwd hf2
         replace kB := kB.fwd hf2
         replace kR := kR.fwd hf2
         replace hF := hF.trans hf2
         clear hf2
         clear ac0 ac1 ac2
         have ac0 := BlkV.cell kA 0 rfl
         have ac1 := BlkV.cell kA 1 rfl
         have ac2 := BlkV.cell kA 2 rfl
         clear bc0 bc1 bc2
         have bc0 := BlkV.cell kB 0 rfl
         have bc1 := BlkV.cell kB 1 rfl
         have bc2 := BlkV.cell kB 2 rfl
         clear rc0 rz0 rc1 rz1 rc2 rz2
         have rc0 := BlkV.cell kR 0 rfl
         have rz0 := BlkV.frozen kR 0
         have rc1 := BlkV.cell kR 1 rfl
         have rz1 := BlkV.frozen kR 1
         have rc2 := BlkV.cell kR 2 rfl
         have rz2 := BlkV.frozen kR 2
         have mk2 : True := trivial)
      | (go_at_call 88
         refine (gcd_any aN bD (by omega) (by omega)).mono ?_
         rintro e w1 ⟨v1, rfl, h1, hf1⟩
         replace aN := aN.fwd hf1
         replace aD := aD.fwd hf1
         replace bN := bN.fwd hf1
         replace bD := bD.fwd hf1
         replace kA := kA.fwd hf1
         replace kB := kB.fwd hf1
         replace kR := kR.fwd hf1
         replace hF := hF.trans hf1
         clear hf1
         clear ac0 ac1 ac2
         have ac0 := BlkV.cell kA 0 rfl
         have ac1 := BlkV.cell kA 1 rfl
         have ac2 := BlkV.cell kA 2 rfl
         clear bc0 bc1 bc2
         have bc0 := BlkV.cell kB 0 rfl
         have bc1 := BlkV.cell kB 1 rfl
         have bc2 := BlkV.cell kB 2 rfl
         clear rc0 rz0 rc1 rz1 rc2 rz2
         have rc0 := BlkV.cell kR 0 rfl
         have rz0 := BlkV.frozen kR 0
         have rc1 := BlkV.cell kR 1 rfl
         have rz1 := BlkV.frozen kR 1
         have rc2 := BlkV.cell kR 2 rfl
         have rz2 := BlkV.frozen kR 2
         have mk1 : True := trivial))
  go_wp2_with fail
  replace aN := aN.drew
  replace aD := aD.drew
  replace bN := bN.drew
  replace bD := bD.drew
  replace h1 := h1.drew
  replace h2 := h2.drew
  replace kA := kA.drew
  replace kB := kB.drew
  replace kR := kR.drew
  replace hF := hF.drew
  clear ac0 ac1 ac2
  have ac0 := BlkV.cell kA 0 rfl
  have ac1 := BlkV.cell kA 1 rfl
  have ac2 := BlkV.cell kA 2 rfl
  clear bc0 bc1 bc2
  have bc0 := BlkV.cell kB 0 rfl
  have bc1 := BlkV.cell kB 1 rfl
  have bc2 := BlkV.cell kB 2 rfl
  clear rc0 rz0 rc1 rz1 rc2 rz2
  have rc0 := BlkV.cell kR 0 rfl
  have rz0 := BlkV.frozen kR 0
  have rc1 := BlkV.cell kR 1 rfl
  have rz1 := BlkV.frozen kR 1
  have rc2 := BlkV.cell kR 2 rfl
  have rz2 := BlkV.frozen kR 2
  go_region_held3 (fun w' => w'.cell? ⟨w.heap.size, 0, none⟩ = some (.bool sa) ∧ w'.cell? ⟨w.heap.size, 1, none⟩ = some (.slice ao (nl (ma)) ac) ∧ w'.cell? ⟨w.heap.size, 2, none⟩ = some (.slice ap (nl (da)) ae) ∧ w'.cell? ⟨w.heap.size + 1, 0, none⟩ = some (.bool sb) ∧ w'.cell? ⟨w.heap.size + 1, 1, none⟩ = some (.slice bo (nl (mb)) bc) ∧ w'.cell? ⟨w.heap.size + 1, 2, none⟩ = some (.slice bp (nl (db)) be))
    (first | exact ⟨by with_reducible assumption, by with_reducible assumption, by with_reducible assumption, by with_reducible assumption, by with_reducible assumption, by with_reducible assumption⟩ | exact ⟨farset (by simp; try omega) (by with_reducible assumption), farset (by simp; try omega) (by with_reducible assumption), farset (by simp; try omega) (by with_reducible assumption), farset (by simp; try omega) (by with_reducible assumption), farset (by simp; try omega) (by with_reducible assumption), farset (by simp; try omega) (by with_reducible assumption)⟩)
    (first
      | (go_at_call 89
         have _ := mk4
         refine (mul_any h3 h4 (by omega) (by omega)).mono ?_
         rintro e w5 ⟨v5, rfl, h5, hf5⟩
         replace aN := aN.fwd hf5
         replace aD := aD.fwd hf5
         replace bN := bN.fwd hf5
         replace bD := bD.fwd hf5
         replace h1 := h1.fwd hf5
         replace h2 := h2.fwd hf5
         replace h3 := h3.fwd hf5
         replace h4 := h4.fwd hf5
         replace kA := kA.fwd hf5
         replace kB := kB.fwd hf5
         replace kR := kR.fwd hf5
         replace hF := hF.trans hf5
         clear hf5
         clear ac0 ac1 ac2
         have ac0 := BlkV.cell kA 0 rfl
         have ac1 := BlkV.cell kA 1 rfl
         have ac2 := BlkV.cell kA 2 rfl
         clear bc0 bc1 bc2
         have bc0 := BlkV.cell kB 0 rfl
         have bc1 := BlkV.cell kB 1 rfl
         have bc2 := BlkV.cell kB 2 rfl
         clear rc0 rz0 rc1 rz1 rc2 rz2
         have rc0 := BlkV.cell kR 0 rfl
         have rz0 := BlkV.frozen kR 0
         have rc1 := BlkV.cell kR 1 rfl
         have rz1 := BlkV.frozen kR 1
         have rc2 := BlkV.cell kR 2 rfl
         have rz2 := BlkV.frozen kR 2
         have mk5 : True := trivial)
      | (go_at_call 90
         have _ := mk3
         refine (rover_any bN h2 (by omega) (by omega) G20.out).mono ?_
         rintro e w4 ⟨v4, rfl, h4, hf4⟩
         replace aN := aN.fwd hf4
         replace aD := aD.fwd hf4
         replace bN := bN.fwd hf4
         replace bD := bD.fwd hf4
         replace h1 := h1.fwd hf4
         replace h2 := h2.fwd hf4
         replace h3 := h3.fwd hf4
         replace kA := kA.fwd hf4
         replace kB := kB.fwd hf4
         replace kR := kR.fwd hf4
         replace hF := hF.trans hf4
         clear hf4
         clear ac0 ac1 ac2
         have ac0 := BlkV.cell kA 0 rfl
         have ac1 := BlkV.cell kA 1 rfl
         have ac2 := BlkV.cell kA 2 rfl
         clear bc0 bc1 bc2
         have bc0 := BlkV.cell kB 0 rfl
         have bc1 := BlkV.cell kB 1 rfl
         have bc2 := BlkV.cell kB 2 rfl
         clear rc0 rz0 rc1 rz1 rc2 rz2
         have rc0 := BlkV.cell kR 0 rfl
         have rz0 := BlkV.frozen kR 0
         have rc1 := BlkV.cell kR 1 rfl
         have rz1 := BlkV.frozen kR 1
         have rc2 := BlkV.cell kR 2 rfl
         have rz2 := BlkV.frozen kR 2
         have mk4 : True := trivial)
      | (go_at_call 90
         refine (rover_any aN h1 (by omega) (by omega) G10.out).mono ?_
         rintro e w3 ⟨v3, rfl, h3, hf3⟩
         replace aN := aN.fwd hf3
         replace aD := aD.fwd hf3
         replace bN := bN.fwd hf3
         replace bD := bD.fwd hf3
         replace h1 := h1.fwd hf3
         replace h2 := h2.fwd hf3
         replace kA := kA.fwd hf3
         replace kB := kB.fwd hf3
         replace kR := kR.fwd hf3
         replace hF := hF.trans hf3
         clear hf3
         clear ac0 ac1 ac2
         have ac0 := BlkV.cell kA 0 rfl
         have ac1 := BlkV.cell kA 1 rfl
         have ac2 := BlkV.cell kA 2 rfl
         clear bc0 bc1 bc2
         have bc0 := BlkV.cell kB 0 rfl
         have bc1 := BlkV.cell kB 1 rfl
         have bc2 := BlkV.cell kB 2 rfl
         clear rc0 rz0 rc1 rz1 rc2 rz2
         have rc0 := BlkV.cell kR 0 rfl
         have rz0 := BlkV.frozen kR 0
         have rc1 := BlkV.cell kR 1 rfl
         have rz1 := BlkV.frozen kR 1
         have rc2 := BlkV.cell kR 2 rfl
         have rz2 := BlkV.frozen kR 2
         have mk3 : True := trivial))
  go_wp2_with fail
  replace aN := aN.drew
  replace aD := aD.drew
  replace bN := bN.drew
  replace bD := bD.drew
  replace h1 := h1.drew
  replace h2 := h2.drew
  replace h3 := h3.drew
  replace h4 := h4.drew
  replace h5 := h5.drew
  replace kA := kA.drew
  replace kB := kB.drew
  replace kR := kR.drew
  replace hF := hF.drew
  clear ac0 ac1 ac2
  have ac0 := BlkV.cell kA 0 rfl
  have ac1 := BlkV.cell kA 1 rfl
  have ac2 := BlkV.cell kA 2 rfl
  clear bc0 bc1 bc2
  have bc0 := BlkV.cell kB 0 rfl
  have bc1 := BlkV.cell kB 1 rfl
  have bc2 := BlkV.cell kB 2 rfl
  clear rc0 rz0 rc1 rz1 rc2 rz2
  have rc0 := BlkV.cell kR 0 rfl
  have rz0 := BlkV.frozen kR 0
  have rc1 := BlkV.cell kR 1 rfl
  have rz1 := BlkV.frozen kR 1
  have rc2 := BlkV.cell kR 2 rfl
  have rz2 := BlkV.frozen kR 2
  go_region_held3 (fun w' => w'.cell? ⟨w.heap.size, 0, none⟩ = some (.bool sa) ∧ w'.cell? ⟨w.heap.size, 1, none⟩ = some (.slice ao (nl (ma)) ac) ∧ w'.cell? ⟨w.heap.size, 2, none⟩ = some (.slice ap (nl (da)) ae) ∧ w'.cell? ⟨w.heap.size + 1, 0, none⟩ = some (.bool sb) ∧ w'.cell? ⟨w.heap.size + 1, 1, none⟩ = some (.slice bo (nl (mb)) bc) ∧ w'.cell? ⟨w.heap.size + 1, 2, none⟩ = some (.slice bp (nl (db)) be))
    (first | exact ⟨by with_reducible assumption, by with_reducible assumption, by with_reducible assumption, by with_reducible assumption, by with_reducible assumption, by with_reducible assumption⟩ | exact ⟨farset (by simp; try omega) (by with_reducible assumption), farset (by simp; try omega) (by with_reducible assumption), farset (by simp; try omega) (by with_reducible assumption), farset (by simp; try omega) (by with_reducible assumption), farset (by simp; try omega) (by with_reducible assumption), farset (by simp; try omega) (by with_reducible assumption)⟩)
    (first
      | (go_at_call 89
         have _ := mk7
         refine (mul_any h6 h7 (by omega) (by omega)).mono ?_
         rintro e w8 ⟨v8, rfl, h8, hf8⟩
         replace aN := aN.fwd hf8
         replace aD := aD.fwd hf8
         replace bN := bN.fwd hf8
         replace bD := bD.fwd hf8
         replace h1 := h1.fwd hf8
         replace h2 := h2.fwd hf8
         replace h3 := h3.fwd hf8
         replace h4 := h4.fwd hf8
         replace h5 := h5.fwd hf8
         replace h6 := h6.fwd hf8
         replace h7 := h7.fwd hf8
         replace kA := kA.fwd hf8
         replace kB := kB.fwd hf8
         replace kR := kR.fwd hf8
         replace hF := hF.trans hf8
         clear hf8
         clear ac0 ac1 ac2
         have ac0 := BlkV.cell kA 0 rfl
         have ac1 := BlkV.cell kA 1 rfl
         have ac2 := BlkV.cell kA 2 rfl
         clear bc0 bc1 bc2
         have bc0 := BlkV.cell kB 0 rfl
         have bc1 := BlkV.cell kB 1 rfl
         have bc2 := BlkV.cell kB 2 rfl
         clear rc0 rz0 rc1 rz1 rc2 rz2
         have rc0 := BlkV.cell kR 0 rfl
         have rz0 := BlkV.frozen kR 0
         have rc1 := BlkV.cell kR 1 rfl
         have rz1 := BlkV.frozen kR 1
         have rc2 := BlkV.cell kR 2 rfl
         have rz2 := BlkV.frozen kR 2
         have mk8 : True := trivial)
      | (go_at_call 90
         have _ := mk6
         refine (rover_any bD h1 (by omega) (by omega) G10.out).mono ?_
         rintro e w7 ⟨v7, rfl, h7, hf7⟩
         replace aN := aN.fwd hf7
         replace aD := aD.fwd hf7
         replace bN := bN.fwd hf7
         replace bD := bD.fwd hf7
         replace h1 := h1.fwd hf7
         replace h2 := h2.fwd hf7
         replace h3 := h3.fwd hf7
         replace h4 := h4.fwd hf7
         replace h5 := h5.fwd hf7
         replace h6 := h6.fwd hf7
         replace kA := kA.fwd hf7
         replace kB := kB.fwd hf7
         replace kR := kR.fwd hf7
         replace hF := hF.trans hf7
         clear hf7
         clear ac0 ac1 ac2
         have ac0 := BlkV.cell kA 0 rfl
         have ac1 := BlkV.cell kA 1 rfl
         have ac2 := BlkV.cell kA 2 rfl
         clear bc0 bc1 bc2
         have bc0 := BlkV.cell kB 0 rfl
         have bc1 := BlkV.cell kB 1 rfl
         have bc2 := BlkV.cell kB 2 rfl
         clear rc0 rz0 rc1 rz1 rc2 rz2
         have rc0 := BlkV.cell kR 0 rfl
         have rz0 := BlkV.frozen kR 0
         have rc1 := BlkV.cell kR 1 rfl
         have rz1 := BlkV.frozen kR 1
         have rc2 := BlkV.cell kR 2 rfl
         have rz2 := BlkV.frozen kR 2
         have mk7 : True := trivial)
      | (go_at_call 90
         refine (rover_any aD h2 (by omega) (by omega) G20.out).mono ?_
         rintro e w6 ⟨v6, rfl, h6, hf6⟩
         replace aN := aN.fwd hf6
         replace aD := aD.fwd hf6
         replace bN := bN.fwd hf6
         replace bD := bD.fwd hf6
         replace h1 := h1.fwd hf6
         replace h2 := h2.fwd hf6
         replace h3 := h3.fwd hf6
         replace h4 := h4.fwd hf6
         replace h5 := h5.fwd hf6
         replace kA := kA.fwd hf6
         replace kB := kB.fwd hf6
         replace kR := kR.fwd hf6
         replace hF := hF.trans hf6
         clear hf6
         clear ac0 ac1 ac2
         have ac0 := BlkV.cell kA 0 rfl
         have ac1 := BlkV.cell kA 1 rfl
         have ac2 := BlkV.cell kA 2 rfl
         clear bc0 bc1 bc2
         have bc0 := BlkV.cell kB 0 rfl
         have bc1 := BlkV.cell kB 1 rfl
         have bc2 := BlkV.cell kB 2 rfl
         clear rc0 rz0 rc1 rz1 rc2 rz2
         have rc0 := BlkV.cell kR 0 rfl
         have rz0 := BlkV.frozen kR 0
         have rc1 := BlkV.cell kR 1 rfl
         have rz1 := BlkV.frozen kR 1
         have rc2 := BlkV.cell kR 2 rfl
         have rz2 := BlkV.frozen kR 2
         have mk6 : True := trivial))
  go_wp2_with fail
  refine (signed_raw _ h5 h8 (by omega)).mono ?_
  rintro e w9 ⟨v, rfl, hv, hf9⟩
  replace aN := aN.fwd hf9
  replace aD := aD.fwd hf9
  replace bN := bN.fwd hf9
  replace bD := bD.fwd hf9
  replace h1 := h1.fwd hf9
  replace h2 := h2.fwd hf9
  replace h3 := h3.fwd hf9
  replace h4 := h4.fwd hf9
  replace h5 := h5.fwd hf9
  replace h6 := h6.fwd hf9
  replace h7 := h7.fwd hf9
  replace h8 := h8.fwd hf9
  replace kA := kA.fwd hf9
  replace kB := kB.fwd hf9
  replace kR := kR.fwd hf9
  replace hF := hF.trans hf9
  clear hf9
  clear ac0 ac1 ac2
  have ac0 := BlkV.cell kA 0 rfl
  have ac1 := BlkV.cell kA 1 rfl
  have ac2 := BlkV.cell kA 2 rfl
  clear bc0 bc1 bc2
  have bc0 := BlkV.cell kB 0 rfl
  have bc1 := BlkV.cell kB 1 rfl
  have bc2 := BlkV.cell kB 2 rfl
  clear rc0 rz0 rc1 rz1 rc2 rz2
  have rc0 := BlkV.cell kR 0 rfl
  have rz0 := BlkV.frozen kR 0
  have rc1 := BlkV.cell kR 1 rfl
  have rz1 := BlkV.frozen kR 1
  have rc2 := BlkV.cell kR 2 rfl
  have rz2 := BlkV.frozen kR 2
  have HV := hid hv
  obtain ⟨xo, xc, yo, yc, rfl, x1, x2, x3, x4, xN, xD⟩ := RW.open hv
  clear hv xN xD aN aD bN bD h1 h2 h3 h4 h5 h6 h7 h8
  have hv := HV.out
  clear HV
  generalize hn : ma / Nat.gcd ma db * (mb / Nat.gcd mb da) = N at hv ⊢
  generalize hd : da / Nat.gcd mb da * (db / Nat.gcd ma db) = D at hv ⊢
  have HN := hid hn
  have HD := hid hd
  clear hn hd
  go_wp2_with (with_reducible refine stop_here ?_)
  refine ⟨?_⟩
  have hz : BlkV (((w9.setCell ⟨w.heap.size + 1 + 1, 0, none⟩ (.bool (!(sa == sb) && !(N == 0)))).setCell ⟨w.heap.size + 1 + 1, 1, none⟩ (.slice xo (nl N) xc)).setCell ⟨w.heap.size + 1 + 1, 2, none⟩ (.slice yo (nl D) yc)) (w.heap.size + 1 + 1) 34 [.bool (!(sa == sb) && !(N == 0)), .slice xo (nl N) xc, .slice yo (nl D) yc] := ((BlkV.set kR 0 (.bool (!(sa == sb) && !(N == 0)))).set 1 (.slice xo (nl N) xc)).set 2 (.slice yo (nl D) yc)
  have hon : Only (w.heap.size + 1 + 1) w9 (((w9.setCell ⟨w.heap.size + 1 + 1, 0, none⟩ (.bool (!(sa == sb) && !(N == 0)))).setCell ⟨w.heap.size + 1 + 1, 1, none⟩ (.slice xo (nl N) xc)).setCell ⟨w.heap.size + 1 + 1, 2, none⟩ (.slice yo (nl D) yc)) := ((Only.set (w.heap.size + 1 + 1) w9 0 (.bool (!(sa == sb) && !(N == 0)))).setv 1 (.slice xo (nl N) xc)).setv 2 (.slice yo (nl D) yc)
  replace hv := hv.keepV kR (by simp) hon
  replace kA := BlkV.only kA hon (by omega)
  replace kB := BlkV.only kB hon (by omega)
  replace hF := hF.wrote hon (by omega)
  clear kR
  have kR := hz
  clear hz hon
  generalize (((w9.setCell ⟨w.heap.size + 1 + 1, 0, none⟩ (.bool (!(sa == sb) && !(N == 0)))).setCell ⟨w.heap.size + 1 + 1, 1, none⟩ (.slice xo (nl N) xc)).setCell ⟨w.heap.size + 1 + 1, 2, none⟩ (.slice yo (nl D) yc)) = w10 at hv kA kB kR hF ⊢
  clear ac0 ac1 ac2
  have ac0 := BlkV.cell kA 0 rfl
  have ac1 := BlkV.cell kA 1 rfl
  have ac2 := BlkV.cell kA 2 rfl
  clear bc0 bc1 bc2
  have bc0 := BlkV.cell kB 0 rfl
  have bc1 := BlkV.cell kB 1 rfl
  have bc2 := BlkV.cell kB 2 rfl
  clear rc0 rz0 rc1 rz1 rc2 rz2
  have rc0 := BlkV.cell kR 0 rfl
  have rz0 := BlkV.frozen kR 0
  have rc1 := BlkV.cell kR 1 rfl
  have rz1 := BlkV.frozen kR 1
  have rc2 := BlkV.cell kR 2 rfl
  have rz2 := BlkV.frozen kR 2
  refine bodyPost_ret (by simp [results, Tryz.results76, go_sem, rc0, rc1, rc2]; try rfl) rfl ?_
  refine ⟨_, rfl, ?_, hF⟩
  rw [HN.out, HD.out]
  exact hv

end Go.Proofs.YtcccejhkblnonaaGreat

namespace Go.Proofs.YtcccejhkblnonaaGreat
open Go.RowKit
set_option linter.unusedVariables false

/-- The struct v is a sign and a size. -/
def WH (w : World) (v : Value) (s : Bool) (m : Nat) : Prop := ∃ vN, v = .agg #[.bool s, vN] ∧ Num w vN m
theorem WH.fwd {w w' : World} {v : Value} {s : Bool} {m : Nat} (h : WH w v s m) (k : Fwd w w') : WH w' v s m := by
  obtain ⟨vN, e, h1⟩ := h
  exact ⟨vN, e, h1.fwd k⟩
theorem WH.open {w : World} {v : Value} {s : Bool} {m : Nat} (h : WH w v s m) : ∃ no nc, v = .agg #[.bool s, .slice no (nl m) nc] ∧ nl m ≤ nc ∧ nc ≤ 9223372036854775807 ∧ Num w (.slice no (nl m) nc) m := by
  obtain ⟨vN, rfl, h1⟩ := h
  obtain ⟨no, nc, rfl, a1, a2, _⟩ := h1.parts
  unfold maxLen at a2
  exact ⟨no, nc, rfl, a1, by omega, h1⟩
theorem WH.keepV {w w' : World} {v : Value} {s : Bool} {m g : Nat} {T : TypeId} {cs : List Value} (h : WH w v s m) (hb : BlkV w g T cs) (hcs : ∀ c ∈ cs, ∀ x, c ≠ .int .u32 x) (k : Only g w w') : WH w' v s m := by
  obtain ⟨a, e, h3⟩ := h
  exact ⟨a, e, h3.keepV hb hcs k⟩
theorem WH.drew {w : World} {v : Value} {s : Bool} {m : Nat} (h : WH w v s m) : WH w.drew v s m := h
theorem nl_plus (s : Bool) (m : Nat) (t : Bool) (n : Nat) : nl (plusN s m t n) ≤ max (nl m) (nl n) + 1 := by
  unfold plusN
  split
  · have := nl_add m n; omega
  · split
    · have := nl_sub n m; omega
    · have := nl_sub m n; omega

set_option maxHeartbeats 4000000 in
set_option maxRecDepth 20000 in
theorem rquo_raw {w : World} {a b : Value} {sa sb : Bool} {ma da mb db : Nat} (ha : RW w a sa ma da) (bam : nl ma ≤ 10000) (bad : nl da ≤ 10000) (hb : RW w b sb mb db) (bbm : nl mb ≤ 10000) (bbd : nl db ≤ 10000) (za : da ≠ 0) (zb : mb ≠ 0) :
    Calls Tryz.prog 77 #[a, b] w fun e w' => ∃ v, e = .returned (.tuple #[v, .int .i64 0]) ∧ RW w' v ((sa != sb) && !(ma / Nat.gcd ma mb * (db / Nat.gcd db da) == 0)) (ma / Nat.gcd ma mb * (db / Nat.gcd db da)) (da / Nat.gcd db da * (mb / Nat.gcd ma mb)) ∧ Fwd w w' := by
  have hb0 : (mb == 0) = false := by simpa using zb
  obtain ⟨ao, ac, ap, ae, rfl, a1, a2, a3, a4, aN, aD⟩ := RW.open ha
  clear ha
  obtain ⟨bo, bc, bp, be, rfl, b1, b2, b3, b4, bN, bD⟩ := RW.open hb
  clear hb
  have kA : BlkV (((w.alloc (.cells #[.bool sa, .slice ao (nl (ma)) ac, .slice ap (nl (da)) ae] 34)).alloc (.cells #[.bool sb, .slice bo (nl (mb)) bc, .slice bp (nl (db)) be] 34)).alloc (.cells #[.bool false, .slice none 0 0, .slice none 0 0] 34)) (w.heap.size) 34 [.bool sa, .slice ao (nl (ma)) ac, .slice ap (nl (da)) ae] := ((BlkV.made' w (w.heap.size) (by simp) 34 [.bool sa, .slice ao (nl (ma)) ac, .slice ap (nl (da)) ae]).alloc _).alloc _
  have kB : BlkV (((w.alloc (.cells #[.bool sa, .slice ao (nl (ma)) ac, .slice ap (nl (da)) ae] 34)).alloc (.cells #[.bool sb, .slice bo (nl (mb)) bc, .slice bp (nl (db)) be] 34)).alloc (.cells #[.bool false, .slice none 0 0, .slice none 0 0] 34)) (w.heap.size + 1) 34 [.bool sb, .slice bo (nl (mb)) bc, .slice bp (nl (db)) be] := (BlkV.made' (w.alloc (.cells #[.bool sa, .slice ao (nl (ma)) ac, .slice ap (nl (da)) ae] 34)) (w.heap.size + 1) (by simp) 34 [.bool sb, .slice bo (nl (mb)) bc, .slice bp (nl (db)) be]).alloc _
  have kR : BlkV (((w.alloc (.cells #[.bool sa, .slice ao (nl (ma)) ac, .slice ap (nl (da)) ae] 34)).alloc (.cells #[.bool sb, .slice bo (nl (mb)) bc, .slice bp (nl (db)) be] 34)).alloc (.cells #[.bool false, .slice none 0 0, .slice none 0 0] 34)) (w.heap.size + 1 + 1) 34 [.bool false, .slice none 0 0, .slice none 0 0] := BlkV.made' ((w.alloc (.cells #[.bool sa, .slice ao (nl (ma)) ac, .slice ap (nl (da)) ae] 34)).alloc (.cells #[.bool sb, .slice bo (nl (mb)) bc, .slice bp (nl (db)) be] 34)) (w.heap.size + 1 + 1) (by simp) 34 [.bool false, .slice none 0 0, .slice none 0 0]
  have hF : Fwd w (((w.alloc (.cells #[.bool sa, .slice ao (nl (ma)) ac, .slice ap (nl (da)) ae] 34)).alloc (.cells #[.bool sb, .slice bo (nl (mb)) bc, .slice bp (nl (db)) be] 34)).alloc (.cells #[.bool false, .slice none 0 0, .slice none 0 0] 34)) := (((Fwd.refl w).alloc _).alloc _).alloc _
  replace aN := aN.fwd hF
  replace aD := aD.fwd hF
  replace bN := bN.fwd hF
  replace bD := bD.fwd hF
  go_enter Tryz.func77, Tryz.ntmps77
  have ac0 := BlkV.cell kA 0 rfl
  have ac1 := BlkV.cell kA 1 rfl
  have ac2 := BlkV.cell kA 2 rfl
  have bc0 := BlkV.cell kB 0 rfl
  have bc1 := BlkV.cell kB 1 rfl
  have bc2 := BlkV.cell kB 2 rfl
  have rc0 := BlkV.cell kR 0 rfl
  have rz0 := BlkV.frozen kR 0
  have rc1 := BlkV.cell kR 1 rfl
  have rz1 := BlkV.frozen kR 1
  have rc2 := BlkV.cell kR 2 rfl
  have rz2 := BlkV.frozen kR 2
  go_wp2_with fail
  refine (isNought_any bN (by omega)).mono ?_
  rintro e w1 ⟨rfl, hf1⟩
  replace aN := aN.fwd hf1
  replace aD := aD.fwd hf1
  replace bN := bN.fwd hf1
  replace bD := bD.fwd hf1
  replace kA := kA.fwd hf1
  replace kB := kB.fwd hf1
  replace kR := kR.fwd hf1
  replace hF := hF.trans hf1
  clear hf1
  clear ac0 ac1 ac2
  have ac0 := BlkV.cell kA 0 rfl
  have ac1 := BlkV.cell kA 1 rfl
  have ac2 := BlkV.cell kA 2 rfl
  clear bc0 bc1 bc2
  have bc0 := BlkV.cell kB 0 rfl
  have bc1 := BlkV.cell kB 1 rfl
  have bc2 := BlkV.cell kB 2 rfl
  clear rc0 rz0 rc1 rz1 rc2 rz2
  have rc0 := BlkV.cell kR 0 rfl
  have rz0 := BlkV.frozen kR 0
  have rc1 := BlkV.cell kR 1 rfl
  have rz1 := BlkV.frozen kR 1
  have rc2 := BlkV.cell kR 2 rfl
  have rz2 := BlkV.frozen kR 2
  have ha' : RW w1 (.agg #[.bool sa, .slice ao (nl ma) ac, .slice ap (nl da) ae]) sa ma da := ⟨_, _, rfl, aN, aD⟩
  have hb' : RW w1 (.agg #[.bool sb, .slice bp (nl db) be, .slice bo (nl mb) bc]) sb db mb := ⟨_, _, rfl, bD, bN⟩
  clear aN aD bN bD
  go_wp2_with fail
  refine (rmul_raw ha' bam bad hb' bbd bbm za zb).mono ?_
  rintro e w2 ⟨v, rfl, hv, hf2⟩
  replace ha' := ha'.fwd hf2
  replace hb' := hb'.fwd hf2
  replace kA := kA.fwd hf2
  replace kB := kB.fwd hf2
  replace kR := kR.fwd hf2
  replace hF := hF.trans hf2
  clear hf2
  clear ac0 ac1 ac2
  have ac0 := BlkV.cell kA 0 rfl
  have ac1 := BlkV.cell kA 1 rfl
  have ac2 := BlkV.cell kA 2 rfl
  clear bc0 bc1 bc2
  have bc0 := BlkV.cell kB 0 rfl
  have bc1 := BlkV.cell kB 1 rfl
  have bc2 := BlkV.cell kB 2 rfl
  clear rc0 rz0 rc1 rz1 rc2 rz2
  have rc0 := BlkV.cell kR 0 rfl
  have rz0 := BlkV.frozen kR 0
  have rc1 := BlkV.cell kR 1 rfl
  have rz1 := BlkV.frozen kR 1
  have rc2 := BlkV.cell kR 2 rfl
  have rz2 := BlkV.frozen kR 2
  have HV := hid hv
  obtain ⟨xo, xc, yo, yc, rfl, x1, x2, x3, x4, xN, xD⟩ := RW.open hv
  clear hv xN xD ha' hb'
  have hv := HV.out
  clear HV
  generalize hs0 : ((sa != sb) && !(ma / Nat.gcd ma mb * (db / Nat.gcd db da) == 0)) = S at hv ⊢
  generalize hn : ma / Nat.gcd ma mb * (db / Nat.gcd db da) = N at hv ⊢
  generalize hd : da / Nat.gcd db da * (mb / Nat.gcd ma mb) = D at hv ⊢
  have HS := hid hs0
  have HN := hid hn
  have HD := hid hd
  clear hs0 hn hd
  go_wp2_with (with_reducible refine stop_here ?_)
  refine ⟨?_⟩
  have hz : BlkV (((w2.setCell ⟨w.heap.size + 1 + 1, 0, none⟩ (.bool S)).setCell ⟨w.heap.size + 1 + 1, 1, none⟩ (.slice xo (nl N) xc)).setCell ⟨w.heap.size + 1 + 1, 2, none⟩ (.slice yo (nl D) yc)) (w.heap.size + 1 + 1) 34 [.bool S, .slice xo (nl N) xc, .slice yo (nl D) yc] := ((BlkV.set kR 0 (.bool S)).set 1 (.slice xo (nl N) xc)).set 2 (.slice yo (nl D) yc)
  have hon : Only (w.heap.size + 1 + 1) w2 (((w2.setCell ⟨w.heap.size + 1 + 1, 0, none⟩ (.bool S)).setCell ⟨w.heap.size + 1 + 1, 1, none⟩ (.slice xo (nl N) xc)).setCell ⟨w.heap.size + 1 + 1, 2, none⟩ (.slice yo (nl D) yc)) := ((Only.set (w.heap.size + 1 + 1) w2 0 (.bool S)).setv 1 (.slice xo (nl N) xc)).setv 2 (.slice yo (nl D) yc)
  replace hv := hv.keepV kR (by simp) hon
  replace kA := BlkV.only kA hon (by omega)
  replace kB := BlkV.only kB hon (by omega)
  replace hF := hF.wrote hon (by omega)
  clear kR
  have kR := hz
  clear hz hon
  generalize (((w2.setCell ⟨w.heap.size + 1 + 1, 0, none⟩ (.bool S)).setCell ⟨w.heap.size + 1 + 1, 1, none⟩ (.slice xo (nl N) xc)).setCell ⟨w.heap.size + 1 + 1, 2, none⟩ (.slice yo (nl D) yc)) = w3 at hv kA kB kR hF ⊢
  clear ac0 ac1 ac2
  have ac0 := BlkV.cell kA 0 rfl
  have ac1 := BlkV.cell kA 1 rfl
  have ac2 := BlkV.cell kA 2 rfl
  clear bc0 bc1 bc2
  have bc0 := BlkV.cell kB 0 rfl
  have bc1 := BlkV.cell kB 1 rfl
  have bc2 := BlkV.cell kB 2 rfl
  clear rc0 rz0 rc1 rz1 rc2 rz2
  have rc0 := BlkV.cell kR 0 rfl
  have rz0 := BlkV.frozen kR 0
  have rc1 := BlkV.cell kR 1 rfl
  have rz1 := BlkV.frozen kR 1
  have rc2 := BlkV.cell kR 2 rfl
  have rz2 := BlkV.frozen kR 2
  refine bodyPost_ret (by simp [results, Tryz.results77, go_sem, rc0, rc1, rc2]; try rfl) rfl ?_
  refine ⟨_, rfl, ?_, hF⟩
  rw [HS.out, HN.out, HD.out]
  exact hv

set_option maxHeartbeats 4000000 in
set_option maxRecDepth 20000 in
theorem rquo_zero {w : World} {a b : Value} {sa sb : Bool} {ma da mb db : Nat} (ha : RW w a sa ma da) (bam : nl ma ≤ 10000) (bad : nl da ≤ 10000) (hb : RW w b sb mb db) (bbm : nl mb ≤ 10000) (bbd : nl db ≤ 10000) (hz : mb = 0) :
    Calls Tryz.prog 77 #[a, b] w fun e w' => e = .returned (.tuple #[ratZero, .int .i64 5]) ∧ Fwd w w' := by
  subst hz
  have bz : nl 0 = 0 := nl_zero
  obtain ⟨ao, ac, ap, ae, rfl, a1, a2, a3, a4, aN, aD⟩ := RW.open ha
  clear ha
  obtain ⟨bo, bc, bp, be, rfl, b1, b2, b3, b4, bN, bD⟩ := RW.open hb
  clear hb
  have kA : BlkV (((w.alloc (.cells #[.bool sa, .slice ao (nl (ma)) ac, .slice ap (nl (da)) ae] 34)).alloc (.cells #[.bool sb, .slice bo (nl (0)) bc, .slice bp (nl (db)) be] 34)).alloc (.cells #[.bool false, .slice none 0 0, .slice none 0 0] 34)) (w.heap.size) 34 [.bool sa, .slice ao (nl (ma)) ac, .slice ap (nl (da)) ae] := ((BlkV.made' w (w.heap.size) (by simp) 34 [.bool sa, .slice ao (nl (ma)) ac, .slice ap (nl (da)) ae]).alloc _).alloc _
  have kB : BlkV (((w.alloc (.cells #[.bool sa, .slice ao (nl (ma)) ac, .slice ap (nl (da)) ae] 34)).alloc (.cells #[.bool sb, .slice bo (nl (0)) bc, .slice bp (nl (db)) be] 34)).alloc (.cells #[.bool false, .slice none 0 0, .slice none 0 0] 34)) (w.heap.size + 1) 34 [.bool sb, .slice bo (nl (0)) bc, .slice bp (nl (db)) be] := (BlkV.made' (w.alloc (.cells #[.bool sa, .slice ao (nl (ma)) ac, .slice ap (nl (da)) ae] 34)) (w.heap.size + 1) (by simp) 34 [.bool sb, .slice bo (nl (0)) bc, .slice bp (nl (db)) be]).alloc _
  have kR : BlkV (((w.alloc (.cells #[.bool sa, .slice ao (nl (ma)) ac, .slice ap (nl (da)) ae] 34)).alloc (.cells #[.bool sb, .slice bo (nl (0)) bc, .slice bp (nl (db)) be] 34)).alloc (.cells #[.bool false, .slice none 0 0, .slice none 0 0] 34)) (w.heap.size + 1 + 1) 34 [.bool false, .slice none 0 0, .slice none 0 0] := BlkV.made' ((w.alloc (.cells #[.bool sa, .slice ao (nl (ma)) ac, .slice ap (nl (da)) ae] 34)).alloc (.cells #[.bool sb, .slice bo (nl (0)) bc, .slice bp (nl (db)) be] 34)) (w.heap.size + 1 + 1) (by simp) 34 [.bool false, .slice none 0 0, .slice none 0 0]
  have hF : Fwd w (((w.alloc (.cells #[.bool sa, .slice ao (nl (ma)) ac, .slice ap (nl (da)) ae] 34)).alloc (.cells #[.bool sb, .slice bo (nl (0)) bc, .slice bp (nl (db)) be] 34)).alloc (.cells #[.bool false, .slice none 0 0, .slice none 0 0] 34)) := (((Fwd.refl w).alloc _).alloc _).alloc _
  replace aN := aN.fwd hF
  replace aD := aD.fwd hF
  replace bN := bN.fwd hF
  replace bD := bD.fwd hF
  go_enter Tryz.func77, Tryz.ntmps77
  have ac0 := BlkV.cell kA 0 rfl
  have ac1 := BlkV.cell kA 1 rfl
  have ac2 := BlkV.cell kA 2 rfl
  have bc0 := BlkV.cell kB 0 rfl
  have bc1 := BlkV.cell kB 1 rfl
  have bc2 := BlkV.cell kB 2 rfl
  have rc0 := BlkV.cell kR 0 rfl
  have rz0 := BlkV.frozen kR 0
  have rc1 := BlkV.cell kR 1 rfl
  have rz1 := BlkV.frozen kR 1
  have rc2 := BlkV.cell kR 2 rfl
  have rz2 := BlkV.frozen kR 2
  go_wp2_with fail
  refine (isNought_any bN (by omega)).mono ?_
  rintro e w1 ⟨rfl, hf1⟩
  replace aN := aN.fwd hf1
  replace aD := aD.fwd hf1
  replace bN := bN.fwd hf1
  replace bD := bD.fwd hf1
  replace kA := kA.fwd hf1
  replace kB := kB.fwd hf1
  replace kR := kR.fwd hf1
  replace hF := hF.trans hf1
  clear hf1
  clear ac0 ac1 ac2
  have ac0 := BlkV.cell kA 0 rfl
  have ac1 := BlkV.cell kA 1 rfl
  have ac2 := BlkV.cell kA 2 rfl
  clear bc0 bc1 bc2
  have bc0 := BlkV.cell kB 0 rfl
  have bc1 := BlkV.cell kB 1 rfl
  have bc2 := BlkV.cell kB 2 rfl
  clear rc0 rz0 rc1 rz1 rc2 rz2
  have rc0 := BlkV.cell kR 0 rfl
  have rz0 := BlkV.frozen kR 0
  have rc1 := BlkV.cell kR 1 rfl
  have rz1 := BlkV.frozen kR 1
  have rc2 := BlkV.cell kR 2 rfl
  have rz2 := BlkV.frozen kR 2
  go_wp2_with (with_reducible refine stop_here ?_)
  refine ⟨?_⟩
  have hz : BlkV (((w1.setCell ⟨w.heap.size + 1 + 1, 0, none⟩ (.bool false)).setCell ⟨w.heap.size + 1 + 1, 1, none⟩ (.slice none 0 0)).setCell ⟨w.heap.size + 1 + 1, 2, none⟩ (.slice none 0 0)) (w.heap.size + 1 + 1) 34 [.bool false, .slice none 0 0, .slice none 0 0] := ((BlkV.set kR 0 (.bool false)).set 1 (.slice none 0 0)).set 2 (.slice none 0 0)
  have hon : Only (w.heap.size + 1 + 1) w1 (((w1.setCell ⟨w.heap.size + 1 + 1, 0, none⟩ (.bool false)).setCell ⟨w.heap.size + 1 + 1, 1, none⟩ (.slice none 0 0)).setCell ⟨w.heap.size + 1 + 1, 2, none⟩ (.slice none 0 0)) := ((Only.set (w.heap.size + 1 + 1) w1 0 (.bool false)).setv 1 (.slice none 0 0)).setv 2 (.slice none 0 0)
  replace aN := aN.keepV kR (by simp) hon
  replace aD := aD.keepV kR (by simp) hon
  replace bN := bN.keepV kR (by simp) hon
  replace bD := bD.keepV kR (by simp) hon
  replace kA := BlkV.only kA hon (by omega)
  replace kB := BlkV.only kB hon (by omega)
  replace hF := hF.wrote hon (by omega)
  clear kR
  have kR := hz
  clear hz hon
  generalize (((w1.setCell ⟨w.heap.size + 1 + 1, 0, none⟩ (.bool false)).setCell ⟨w.heap.size + 1 + 1, 1, none⟩ (.slice none 0 0)).setCell ⟨w.heap.size + 1 + 1, 2, none⟩ (.slice none 0 0)) = w2 at aN aD bN bD kA kB kR hF ⊢
  clear ac0 ac1 ac2
  have ac0 := BlkV.cell kA 0 rfl
  have ac1 := BlkV.cell kA 1 rfl
  have ac2 := BlkV.cell kA 2 rfl
  clear bc0 bc1 bc2
  have bc0 := BlkV.cell kB 0 rfl
  have bc1 := BlkV.cell kB 1 rfl
  have bc2 := BlkV.cell kB 2 rfl
  clear rc0 rz0 rc1 rz1 rc2 rz2
  have rc0 := BlkV.cell kR 0 rfl
  have rz0 := BlkV.frozen kR 0
  have rc1 := BlkV.cell kR 1 rfl
  have rz1 := BlkV.frozen kR 1
  have rc2 := BlkV.cell kR 2 rfl
  have rz2 := BlkV.frozen kR 2
  refine bodyPost_ret (by simp [results, Tryz.results77, go_sem, rc0, rc1, rc2]; try rfl) rfl ?_
  exact ⟨rfl, hF⟩

set_option maxHeartbeats 4000000 in
set_option maxRecDepth 20000 in
theorem above_any {w : World} {a : Value} {sa : Bool} {ma da : Nat} (ha : RW w a sa ma da) (bam : nl ma ≤ 100000) (bad : nl da ≤ 100000) :
    Calls Tryz.prog 110 #[a] w fun e w' => ∃ v, e = .returned v ∧ WH w' v sa ma ∧ Fwd w w' := by
  obtain ⟨ao, ac, ap, ae, rfl, a1, a2, a3, a4, aN, aD⟩ := RW.open ha
  clear aD
  go_enter Tryz.func110, Tryz.ntmps110
  go_wp2_with fail
  have hf := ((Fwd.refl w).alloc (.cells #[.bool sa, .slice ao (nl ma) ac, .slice ap (nl da) ae] 34)).alloc (.cells #[.bool sa, .slice ao (nl ma) ac] 111)
  refine bodyPost_ret (by simp [results, Tryz.results110, go_sem]; try rfl) rfl ?_
  exact ⟨_, rfl, ⟨_, rfl, aN.fwd hf⟩, hf⟩

set_option maxHeartbeats 4000000 in
set_option maxRecDepth 20000 in
theorem rtimes_any {w : World} {x m : Value} {sx : Bool} {mx n : Nat} (hx : WH w x sx mx) (hm : Num w m n) (bx : nl mx ≤ 100000) (bn : nl n ≤ 100000) :
    Calls Tryz.prog 111 #[x, m] w fun e w' => ∃ v, e = .returned v ∧ WH w' v sx (mx * n) ∧ Fwd w w' := by
  obtain ⟨xo, xc, rfl, x1, x2, xN⟩ := WH.open hx
  clear hx
  have kX : BlkV ((w.alloc (.cells #[.bool sx, .slice xo (nl (mx)) xc] 111)).alloc (.cells #[.bool false, .slice none 0 0] 111)) (w.heap.size) 111 [.bool sx, .slice xo (nl (mx)) xc] := (BlkV.made' w (w.heap.size) (by simp) 111 [.bool sx, .slice xo (nl (mx)) xc]).alloc _
  have kR : BlkV ((w.alloc (.cells #[.bool sx, .slice xo (nl (mx)) xc] 111)).alloc (.cells #[.bool false, .slice none 0 0] 111)) (w.heap.size + 1) 111 [.bool false, .slice none 0 0] := BlkV.made' (w.alloc (.cells #[.bool sx, .slice xo (nl (mx)) xc] 111)) (w.heap.size + 1) (by simp) 111 [.bool false, .slice none 0 0]
  have hF : Fwd w ((w.alloc (.cells #[.bool sx, .slice xo (nl (mx)) xc] 111)).alloc (.cells #[.bool false, .slice none 0 0] 111)) := ((Fwd.refl w).alloc _).alloc _
  replace xN := xN.fwd hF
  replace hm := hm.fwd hF
  go_enter Tryz.func111, Tryz.ntmps111
  go_wp2_with fail
  replace xN := xN.drew
  replace hm := hm.drew
  replace kX := kX.drew
  replace kR := kR.drew
  replace hF := hF.drew
  have xc0 := BlkV.cell kX 0 rfl
  have xc1 := BlkV.cell kX 1 rfl
  have rc0 := BlkV.cell kR 0 rfl
  have rz0 := BlkV.frozen kR 0
  have rc1 := BlkV.cell kR 1 rfl
  have rz1 := BlkV.frozen kR 1
  go_region_held3 (fun w' => w'.cell? ⟨w.heap.size, 0, none⟩ = some (.bool sx) ∧ w'.cell? ⟨w.heap.size, 1, none⟩ = some (.slice xo (nl (mx)) xc))
    (first | exact ⟨by with_reducible assumption, by with_reducible assumption⟩ | exact ⟨(farset (by simp; try omega) (farset (by simp; try omega) (by with_reducible assumption))), (farset (by simp; try omega) (farset (by simp; try omega) (by with_reducible assumption)))⟩)
    (first
      | (go_at_call 89
         refine (mul_any xN hm (by omega) (by omega)).mono ?_
         rintro e w1 ⟨v1, rfl, h1, hf1⟩
         replace xN := xN.fwd hf1
         replace hm := hm.fwd hf1
         replace kX := kX.fwd hf1
         replace kR := kR.fwd hf1
         replace hF := hF.trans hf1
         clear hf1
         obtain ⟨yo, yc, rfl, y1, y2, _⟩ := h1.parts
         unfold maxLen at y2
         clear xc0 xc1
         have xc0 := BlkV.cell kX 0 rfl
         have xc1 := BlkV.cell kX 1 rfl
         clear rc0 rz0 rc1 rz1
         have rc0 := BlkV.cell kR 0 rfl
         have rz0 := BlkV.frozen kR 0
         have rc1 := BlkV.cell kR 1 rfl
         have rz1 := BlkV.frozen kR 1
         have mk1 : True := trivial))
  go_wp2_with (with_reducible refine stop_here ?_)
  refine ⟨?_⟩
  have hz : BlkV ((w1.setCell ⟨w.heap.size + 1, 0, none⟩ (.bool sx)).setCell ⟨w.heap.size + 1, 1, none⟩ (.slice yo (nl (mx * n)) yc)) (w.heap.size + 1) 111 [.bool sx, .slice yo (nl (mx * n)) yc] := (BlkV.set kR 0 (.bool sx)).set 1 (.slice yo (nl (mx * n)) yc)
  have hon : Only (w.heap.size + 1) w1 ((w1.setCell ⟨w.heap.size + 1, 0, none⟩ (.bool sx)).setCell ⟨w.heap.size + 1, 1, none⟩ (.slice yo (nl (mx * n)) yc)) := (Only.set (w.heap.size + 1) w1 0 (.bool sx)).setv 1 (.slice yo (nl (mx * n)) yc)
  replace xN := xN.keepV kR (by simp) hon
  replace hm := hm.keepV kR (by simp) hon
  replace h1 := h1.keepV kR (by simp) hon
  replace kX := BlkV.only kX hon (by omega)
  replace hF := hF.wrote hon (by omega)
  clear kR
  have kR := hz
  clear hz hon
  generalize ((w1.setCell ⟨w.heap.size + 1, 0, none⟩ (.bool sx)).setCell ⟨w.heap.size + 1, 1, none⟩ (.slice yo (nl (mx * n)) yc)) = w2 at xN hm h1 kX kR hF ⊢
  clear xc0 xc1
  have xc0 := BlkV.cell kX 0 rfl
  have xc1 := BlkV.cell kX 1 rfl
  clear rc0 rz0 rc1 rz1
  have rc0 := BlkV.cell kR 0 rfl
  have rz0 := BlkV.frozen kR 0
  have rc1 := BlkV.cell kR 1 rfl
  have rz1 := BlkV.frozen kR 1
  refine bodyPost_ret (by simp [results, Tryz.results111, go_sem, rc0, rc1]; try rfl) rfl ?_
  exact ⟨_, rfl, ⟨_, rfl, h1⟩, hF⟩

set_option maxHeartbeats 4000000 in
set_option maxRecDepth 20000 in
theorem rplus_any {w : World} {x y : Value} {sx sy : Bool} {mx my : Nat} (hx : WH w x sx mx) (hy : WH w y sy my) (bx : nl mx ≤ 100000) (by' : nl my ≤ 100000) :
    Calls Tryz.prog 95 #[x, y] w fun e w' => ∃ v, e = .returned v ∧ WH w' v (plusS sx mx sy my) (plusN sx mx sy my) ∧ Fwd w w' := by
  have bs := nl_add mx my
  by_cases hst : sx = sy
  · subst hst
    have HP : Hid (plusS sx mx sx my = sx ∧ plusN sx mx sx my = mx + my) := hid ⟨by simp [plusS], by simp [plusN]⟩
    have hss : (sx == sx) = true := by simp
    obtain ⟨xo, xc, rfl, x1, x2, xN⟩ := WH.open hx
    clear hx
    obtain ⟨yo, yc, rfl, y1, y2, yN⟩ := WH.open hy
    clear hy
    have kX : BlkV (((w.alloc (.cells #[.bool sx, .slice xo (nl (mx)) xc] 111)).alloc (.cells #[.bool sx, .slice yo (nl (my)) yc] 111)).alloc (.cells #[.bool false, .slice none 0 0] 111)) (w.heap.size) 111 [.bool sx, .slice xo (nl (mx)) xc] := ((BlkV.made' w (w.heap.size) (by simp) 111 [.bool sx, .slice xo (nl (mx)) xc]).alloc _).alloc _
    have kY : BlkV (((w.alloc (.cells #[.bool sx, .slice xo (nl (mx)) xc] 111)).alloc (.cells #[.bool sx, .slice yo (nl (my)) yc] 111)).alloc (.cells #[.bool false, .slice none 0 0] 111)) (w.heap.size + 1) 111 [.bool sx, .slice yo (nl (my)) yc] := (BlkV.made' (w.alloc (.cells #[.bool sx, .slice xo (nl (mx)) xc] 111)) (w.heap.size + 1) (by simp) 111 [.bool sx, .slice yo (nl (my)) yc]).alloc _
    have kR : BlkV (((w.alloc (.cells #[.bool sx, .slice xo (nl (mx)) xc] 111)).alloc (.cells #[.bool sx, .slice yo (nl (my)) yc] 111)).alloc (.cells #[.bool false, .slice none 0 0] 111)) (w.heap.size + 1 + 1) 111 [.bool false, .slice none 0 0] := BlkV.made' ((w.alloc (.cells #[.bool sx, .slice xo (nl (mx)) xc] 111)).alloc (.cells #[.bool sx, .slice yo (nl (my)) yc] 111)) (w.heap.size + 1 + 1) (by simp) 111 [.bool false, .slice none 0 0]
    have hF : Fwd w (((w.alloc (.cells #[.bool sx, .slice xo (nl (mx)) xc] 111)).alloc (.cells #[.bool sx, .slice yo (nl (my)) yc] 111)).alloc (.cells #[.bool false, .slice none 0 0] 111)) := (((Fwd.refl w).alloc _).alloc _).alloc _
    replace xN := xN.fwd hF
    replace yN := yN.fwd hF
    go_enter Tryz.func95, Tryz.ntmps95
    go_wp2_with fail
    replace xN := xN.drew
    replace yN := yN.drew
    replace kX := kX.drew
    replace kY := kY.drew
    replace kR := kR.drew
    replace hF := hF.drew
    have xc0 := BlkV.cell kX 0 rfl
    have xc1 := BlkV.cell kX 1 rfl
    have yc0 := BlkV.cell kY 0 rfl
    have yc1 := BlkV.cell kY 1 rfl
    have rc0 := BlkV.cell kR 0 rfl
    have rz0 := BlkV.frozen kR 0
    have rc1 := BlkV.cell kR 1 rfl
    have rz1 := BlkV.frozen kR 1
    go_region_held3 (fun w' => w'.cell? ⟨w.heap.size, 0, none⟩ = some (.bool sx) ∧ w'.cell? ⟨w.heap.size, 1, none⟩ = some (.slice xo (nl (mx)) xc) ∧ w'.cell? ⟨w.heap.size + 1, 0, none⟩ = some (.bool sx) ∧ w'.cell? ⟨w.heap.size + 1, 1, none⟩ = some (.slice yo (nl (my)) yc))
      (first | exact ⟨by with_reducible assumption, by with_reducible assumption, by with_reducible assumption, by with_reducible assumption⟩ | exact ⟨(farset (by simp; try omega) (farset (by simp; try omega) (by with_reducible assumption))), (farset (by simp; try omega) (farset (by simp; try omega) (by with_reducible assumption))), (farset (by simp; try omega) (farset (by simp; try omega) (by with_reducible assumption))), (farset (by simp; try omega) (farset (by simp; try omega) (by with_reducible assumption)))⟩)
      (first
        | (go_at_call 112
           refine (nadd_any xN yN (by omega) (by omega)).mono ?_
           rintro e w1 ⟨v1, rfl, h1, hf1⟩
           replace xN := xN.fwd hf1
           replace yN := yN.fwd hf1
           replace kX := kX.fwd hf1
           replace kY := kY.fwd hf1
           replace kR := kR.fwd hf1
           replace hF := hF.trans hf1
           clear hf1
           obtain ⟨zo, zc, rfl, z1, z2, _⟩ := h1.parts
           unfold maxLen at z2
           clear xc0 xc1
           have xc0 := BlkV.cell kX 0 rfl
           have xc1 := BlkV.cell kX 1 rfl
           clear yc0 yc1
           have yc0 := BlkV.cell kY 0 rfl
           have yc1 := BlkV.cell kY 1 rfl
           clear rc0 rz0 rc1 rz1
           have rc0 := BlkV.cell kR 0 rfl
           have rz0 := BlkV.frozen kR 0
           have rc1 := BlkV.cell kR 1 rfl
           have rz1 := BlkV.frozen kR 1
           have mk1 : True := trivial))
    go_wp2_with (with_reducible refine stop_here ?_)
    refine ⟨?_⟩
    have hz : BlkV ((w1.setCell ⟨w.heap.size + 1 + 1, 0, none⟩ (.bool sx)).setCell ⟨w.heap.size + 1 + 1, 1, none⟩ (.slice zo (nl (mx + my)) zc)) (w.heap.size + 1 + 1) 111 [.bool sx, .slice zo (nl (mx + my)) zc] := (BlkV.set kR 0 (.bool sx)).set 1 (.slice zo (nl (mx + my)) zc)
    have hon : Only (w.heap.size + 1 + 1) w1 ((w1.setCell ⟨w.heap.size + 1 + 1, 0, none⟩ (.bool sx)).setCell ⟨w.heap.size + 1 + 1, 1, none⟩ (.slice zo (nl (mx + my)) zc)) := (Only.set (w.heap.size + 1 + 1) w1 0 (.bool sx)).setv 1 (.slice zo (nl (mx + my)) zc)
    replace xN := xN.keepV kR (by simp) hon
    replace yN := yN.keepV kR (by simp) hon
    replace h1 := h1.keepV kR (by simp) hon
    replace kX := BlkV.only kX hon (by omega)
    replace kY := BlkV.only kY hon (by omega)
    replace hF := hF.wrote hon (by omega)
    clear kR
    have kR := hz
    clear hz hon
    generalize ((w1.setCell ⟨w.heap.size + 1 + 1, 0, none⟩ (.bool sx)).setCell ⟨w.heap.size + 1 + 1, 1, none⟩ (.slice zo (nl (mx + my)) zc)) = w2 at xN yN h1 kX kY kR hF ⊢
    clear xc0 xc1
    have xc0 := BlkV.cell kX 0 rfl
    have xc1 := BlkV.cell kX 1 rfl
    clear yc0 yc1
    have yc0 := BlkV.cell kY 0 rfl
    have yc1 := BlkV.cell kY 1 rfl
    clear rc0 rz0 rc1 rz1
    have rc0 := BlkV.cell kR 0 rfl
    have rz0 := BlkV.frozen kR 0
    have rc1 := BlkV.cell kR 1 rfl
    have rz1 := BlkV.frozen kR 1
    refine bodyPost_ret (by simp [results, Tryz.results95, go_sem, rc0, rc1]; try rfl) rfl ?_
    refine ⟨_, rfl, ?_, hF⟩
    rw [HP.out.1, HP.out.2]
    exact ⟨_, rfl, h1⟩
  · have hss : (sx == sy) = false := by simpa using hst
    rcases Nat.lt_or_ge mx my with hlt | hge
    · have HP : Hid (plusS sx mx sy my = sy ∧ plusN sx mx sy my = my - mx) := hid ⟨by simp [plusS, hst, hlt], by simp [plusN, hst, hlt]⟩
      have HST := hid hst
      clear hst
      obtain ⟨xo, xc, rfl, x1, x2, xN⟩ := WH.open hx
      clear hx
      obtain ⟨yo, yc, rfl, y1, y2, yN⟩ := WH.open hy
      clear hy
      have kX : BlkV (((w.alloc (.cells #[.bool sx, .slice xo (nl (mx)) xc] 111)).alloc (.cells #[.bool sy, .slice yo (nl (my)) yc] 111)).alloc (.cells #[.bool false, .slice none 0 0] 111)) (w.heap.size) 111 [.bool sx, .slice xo (nl (mx)) xc] := ((BlkV.made' w (w.heap.size) (by simp) 111 [.bool sx, .slice xo (nl (mx)) xc]).alloc _).alloc _
      have kY : BlkV (((w.alloc (.cells #[.bool sx, .slice xo (nl (mx)) xc] 111)).alloc (.cells #[.bool sy, .slice yo (nl (my)) yc] 111)).alloc (.cells #[.bool false, .slice none 0 0] 111)) (w.heap.size + 1) 111 [.bool sy, .slice yo (nl (my)) yc] := (BlkV.made' (w.alloc (.cells #[.bool sx, .slice xo (nl (mx)) xc] 111)) (w.heap.size + 1) (by simp) 111 [.bool sy, .slice yo (nl (my)) yc]).alloc _
      have kR : BlkV (((w.alloc (.cells #[.bool sx, .slice xo (nl (mx)) xc] 111)).alloc (.cells #[.bool sy, .slice yo (nl (my)) yc] 111)).alloc (.cells #[.bool false, .slice none 0 0] 111)) (w.heap.size + 1 + 1) 111 [.bool false, .slice none 0 0] := BlkV.made' ((w.alloc (.cells #[.bool sx, .slice xo (nl (mx)) xc] 111)).alloc (.cells #[.bool sy, .slice yo (nl (my)) yc] 111)) (w.heap.size + 1 + 1) (by simp) 111 [.bool false, .slice none 0 0]
      have hF : Fwd w (((w.alloc (.cells #[.bool sx, .slice xo (nl (mx)) xc] 111)).alloc (.cells #[.bool sy, .slice yo (nl (my)) yc] 111)).alloc (.cells #[.bool false, .slice none 0 0] 111)) := (((Fwd.refl w).alloc _).alloc _).alloc _
      replace xN := xN.fwd hF
      replace yN := yN.fwd hF
      go_enter Tryz.func95, Tryz.ntmps95
      have xc0 := BlkV.cell kX 0 rfl
      have xz0 := BlkV.frozen kX 0
      have xc1 := BlkV.cell kX 1 rfl
      have xz1 := BlkV.frozen kX 1
      have yc0 := BlkV.cell kY 0 rfl
      have yz0 := BlkV.frozen kY 0
      have yc1 := BlkV.cell kY 1 rfl
      have yz1 := BlkV.frozen kY 1
      have rc0 := BlkV.cell kR 0 rfl
      have rz0 := BlkV.frozen kR 0
      have rc1 := BlkV.cell kR 1 rfl
      have rz1 := BlkV.frozen kR 1
      go_wp2_with fail
      refine (cmp_any xN yN (by omega) (by omega)).mono ?_
      rintro e w1 ⟨rfl, hf1⟩
      replace xN := xN.fwd hf1
      replace yN := yN.fwd hf1
      replace kX := kX.fwd hf1
      replace kY := kY.fwd hf1
      replace kR := kR.fwd hf1
      replace hF := hF.trans hf1
      clear hf1
      clear xc0 xz0 xc1 xz1
      have xc0 := BlkV.cell kX 0 rfl
      have xz0 := BlkV.frozen kX 0
      have xc1 := BlkV.cell kX 1 rfl
      have xz1 := BlkV.frozen kX 1
      clear yc0 yz0 yc1 yz1
      have yc0 := BlkV.cell kY 0 rfl
      have yz0 := BlkV.frozen kY 0
      have yc1 := BlkV.cell kY 1 rfl
      have yz1 := BlkV.frozen kY 1
      clear rc0 rz0 rc1 rz1
      have rc0 := BlkV.cell kR 0 rfl
      have rz0 := BlkV.frozen kR 0
      have rc1 := BlkV.cell kR 1 rfl
      have rz1 := BlkV.frozen kR 1
      rw [cmpI_lt (by omega)]
      go_wp2_with fail
      have hz : BlkV ((w1.setCell ⟨w.heap.size, 0, none⟩ (.bool sy)).setCell ⟨w.heap.size, 1, none⟩ (.slice yo (nl my) yc)) (w.heap.size) 111 [.bool sy, .slice yo (nl my) yc] := (BlkV.set kX 0 (.bool sy)).set 1 (.slice yo (nl my) yc)
      have hon : Only (w.heap.size) w1 ((w1.setCell ⟨w.heap.size, 0, none⟩ (.bool sy)).setCell ⟨w.heap.size, 1, none⟩ (.slice yo (nl my) yc)) := (Only.set (w.heap.size) w1 0 (.bool sy)).setv 1 (.slice yo (nl my) yc)
      replace xN := xN.keepV kX (by simp) hon
      replace yN := yN.keepV kX (by simp) hon
      replace kY := BlkV.only kY hon (by omega)
      replace kR := BlkV.only kR hon (by omega)
      replace hF := hF.wrote hon (by omega)
      clear kX
      have kX := hz
      clear hz hon
      have hz : BlkV ((((w1.setCell ⟨w.heap.size, 0, none⟩ (.bool sy)).setCell ⟨w.heap.size, 1, none⟩ (.slice yo (nl my) yc)).setCell ⟨w.heap.size + 1, 0, none⟩ (.bool sx)).setCell ⟨w.heap.size + 1, 1, none⟩ (.slice xo (nl mx) xc)) (w.heap.size + 1) 111 [.bool sx, .slice xo (nl mx) xc] := (BlkV.set kY 0 (.bool sx)).set 1 (.slice xo (nl mx) xc)
      have hon : Only (w.heap.size + 1) ((w1.setCell ⟨w.heap.size, 0, none⟩ (.bool sy)).setCell ⟨w.heap.size, 1, none⟩ (.slice yo (nl my) yc)) ((((w1.setCell ⟨w.heap.size, 0, none⟩ (.bool sy)).setCell ⟨w.heap.size, 1, none⟩ (.slice yo (nl my) yc)).setCell ⟨w.heap.size + 1, 0, none⟩ (.bool sx)).setCell ⟨w.heap.size + 1, 1, none⟩ (.slice xo (nl mx) xc)) := (Only.set (w.heap.size + 1) ((w1.setCell ⟨w.heap.size, 0, none⟩ (.bool sy)).setCell ⟨w.heap.size, 1, none⟩ (.slice yo (nl my) yc)) 0 (.bool sx)).setv 1 (.slice xo (nl mx) xc)
      replace xN := xN.keepV kY (by simp) hon
      replace yN := yN.keepV kY (by simp) hon
      replace kX := BlkV.only kX hon (by omega)
      replace kR := BlkV.only kR hon (by omega)
      replace hF := hF.wrote hon (by omega)
      clear kY
      have kY := hz
      clear hz hon
      generalize ((((w1.setCell ⟨w.heap.size, 0, none⟩ (.bool sy)).setCell ⟨w.heap.size, 1, none⟩ (.slice yo (nl my) yc)).setCell ⟨w.heap.size + 1, 0, none⟩ (.bool sx)).setCell ⟨w.heap.size + 1, 1, none⟩ (.slice xo (nl mx) xc)) = w2 at xN yN kX kY kR hF ⊢
      clear xc0 xz0 xc1 xz1
      have xc0 := BlkV.cell kX 0 rfl
      have xz0 := BlkV.frozen kX 0
      have xc1 := BlkV.cell kX 1 rfl
      have xz1 := BlkV.frozen kX 1
      clear yc0 yz0 yc1 yz1
      have yc0 := BlkV.cell kY 0 rfl
      have yz0 := BlkV.frozen kY 0
      have yc1 := BlkV.cell kY 1 rfl
      have yz1 := BlkV.frozen kY 1
      clear rc0 rz0 rc1 rz1
      have rc0 := BlkV.cell kR 0 rfl
      have rz0 := BlkV.frozen kR 0
      have rc1 := BlkV.cell kR 1 rfl
      have rz1 := BlkV.frozen kR 1
      refine (sub_more yN xN (by omega) (by omega) (by omega)).mono ?_
      rintro e w3 ⟨v1, rfl, h1, hf3⟩
      replace xN := xN.fwd hf3
      replace yN := yN.fwd hf3
      replace kX := kX.fwd hf3
      replace kY := kY.fwd hf3
      replace kR := kR.fwd hf3
      replace hF := hF.trans hf3
      clear hf3
      clear xc0 xz0 xc1 xz1
      have xc0 := BlkV.cell kX 0 rfl
      have xz0 := BlkV.frozen kX 0
      have xc1 := BlkV.cell kX 1 rfl
      have xz1 := BlkV.frozen kX 1
      clear yc0 yz0 yc1 yz1
      have yc0 := BlkV.cell kY 0 rfl
      have yz0 := BlkV.frozen kY 0
      have yc1 := BlkV.cell kY 1 rfl
      have yz1 := BlkV.frozen kY 1
      clear rc0 rz0 rc1 rz1
      have rc0 := BlkV.cell kR 0 rfl
      have rz0 := BlkV.frozen kR 0
      have rc1 := BlkV.cell kR 1 rfl
      have rz1 := BlkV.frozen kR 1
      obtain ⟨zo, zc, rfl, z1, z2, _⟩ := h1.parts
      unfold maxLen at z2
      go_wp2_with (with_reducible refine stop_here ?_)
      refine ⟨?_⟩
      have hz : BlkV ((w3.setCell ⟨w.heap.size + 1 + 1, 0, none⟩ (.bool sy)).setCell ⟨w.heap.size + 1 + 1, 1, none⟩ (.slice zo (nl (my - mx)) zc)) (w.heap.size + 1 + 1) 111 [.bool sy, .slice zo (nl (my - mx)) zc] := (BlkV.set kR 0 (.bool sy)).set 1 (.slice zo (nl (my - mx)) zc)
      have hon : Only (w.heap.size + 1 + 1) w3 ((w3.setCell ⟨w.heap.size + 1 + 1, 0, none⟩ (.bool sy)).setCell ⟨w.heap.size + 1 + 1, 1, none⟩ (.slice zo (nl (my - mx)) zc)) := (Only.set (w.heap.size + 1 + 1) w3 0 (.bool sy)).setv 1 (.slice zo (nl (my - mx)) zc)
      replace xN := xN.keepV kR (by simp) hon
      replace yN := yN.keepV kR (by simp) hon
      replace h1 := h1.keepV kR (by simp) hon
      replace kX := BlkV.only kX hon (by omega)
      replace kY := BlkV.only kY hon (by omega)
      replace hF := hF.wrote hon (by omega)
      clear kR
      have kR := hz
      clear hz hon
      generalize ((w3.setCell ⟨w.heap.size + 1 + 1, 0, none⟩ (.bool sy)).setCell ⟨w.heap.size + 1 + 1, 1, none⟩ (.slice zo (nl (my - mx)) zc)) = w4 at xN yN h1 kX kY kR hF ⊢
      clear xc0 xz0 xc1 xz1
      have xc0 := BlkV.cell kX 0 rfl
      have xz0 := BlkV.frozen kX 0
      have xc1 := BlkV.cell kX 1 rfl
      have xz1 := BlkV.frozen kX 1
      clear yc0 yz0 yc1 yz1
      have yc0 := BlkV.cell kY 0 rfl
      have yz0 := BlkV.frozen kY 0
      have yc1 := BlkV.cell kY 1 rfl
      have yz1 := BlkV.frozen kY 1
      clear rc0 rz0 rc1 rz1
      have rc0 := BlkV.cell kR 0 rfl
      have rz0 := BlkV.frozen kR 0
      have rc1 := BlkV.cell kR 1 rfl
      have rz1 := BlkV.frozen kR 1
      refine bodyPost_ret (by simp [results, Tryz.results95, go_sem, rc0, rc1]; try rfl) rfl ?_
      refine ⟨_, rfl, ?_, hF⟩
      rw [HP.out.1, HP.out.2]
      exact ⟨_, rfl, h1⟩
    · have HP : Hid (plusS sx mx sy my = sx ∧ plusN sx mx sy my = mx - my) := hid ⟨by simp [plusS, hst]; omega, by simp [plusN, hst]; omega⟩
      have HST := hid hst
      clear hst
      obtain ⟨xo, xc, rfl, x1, x2, xN⟩ := WH.open hx
      clear hx
      obtain ⟨yo, yc, rfl, y1, y2, yN⟩ := WH.open hy
      clear hy
      have kX : BlkV (((w.alloc (.cells #[.bool sx, .slice xo (nl (mx)) xc] 111)).alloc (.cells #[.bool sy, .slice yo (nl (my)) yc] 111)).alloc (.cells #[.bool false, .slice none 0 0] 111)) (w.heap.size) 111 [.bool sx, .slice xo (nl (mx)) xc] := ((BlkV.made' w (w.heap.size) (by simp) 111 [.bool sx, .slice xo (nl (mx)) xc]).alloc _).alloc _
      have kY : BlkV (((w.alloc (.cells #[.bool sx, .slice xo (nl (mx)) xc] 111)).alloc (.cells #[.bool sy, .slice yo (nl (my)) yc] 111)).alloc (.cells #[.bool false, .slice none 0 0] 111)) (w.heap.size + 1) 111 [.bool sy, .slice yo (nl (my)) yc] := (BlkV.made' (w.alloc (.cells #[.bool sx, .slice xo (nl (mx)) xc] 111)) (w.heap.size + 1) (by simp) 111 [.bool sy, .slice yo (nl (my)) yc]).alloc _
      have kR : BlkV (((w.alloc (.cells #[.bool sx, .slice xo (nl (mx)) xc] 111)).alloc (.cells #[.bool sy, .slice yo (nl (my)) yc] 111)).alloc (.cells #[.bool false, .slice none 0 0] 111)) (w.heap.size + 1 + 1) 111 [.bool false, .slice none 0 0] := BlkV.made' ((w.alloc (.cells #[.bool sx, .slice xo (nl (mx)) xc] 111)).alloc (.cells #[.bool sy, .slice yo (nl (my)) yc] 111)) (w.heap.size + 1 + 1) (by simp) 111 [.bool false, .slice none 0 0]
      have hF : Fwd w (((w.alloc (.cells #[.bool sx, .slice xo (nl (mx)) xc] 111)).alloc (.cells #[.bool sy, .slice yo (nl (my)) yc] 111)).alloc (.cells #[.bool false, .slice none 0 0] 111)) := (((Fwd.refl w).alloc _).alloc _).alloc _
      replace xN := xN.fwd hF
      replace yN := yN.fwd hF
      go_enter Tryz.func95, Tryz.ntmps95
      have xc0 := BlkV.cell kX 0 rfl
      have xc1 := BlkV.cell kX 1 rfl
      have yc0 := BlkV.cell kY 0 rfl
      have yc1 := BlkV.cell kY 1 rfl
      have rc0 := BlkV.cell kR 0 rfl
      have rz0 := BlkV.frozen kR 0
      have rc1 := BlkV.cell kR 1 rfl
      have rz1 := BlkV.frozen kR 1
      go_wp2_with fail
      refine (cmp_any xN yN (by omega) (by omega)).mono ?_
      rintro e w1 ⟨rfl, hf1⟩
      replace xN := xN.fwd hf1
      replace yN := yN.fwd hf1
      replace kX := kX.fwd hf1
      replace kY := kY.fwd hf1
      replace kR := kR.fwd hf1
      replace hF := hF.trans hf1
      clear hf1
      clear xc0 xc1
      have xc0 := BlkV.cell kX 0 rfl
      have xc1 := BlkV.cell kX 1 rfl
      clear yc0 yc1
      have yc0 := BlkV.cell kY 0 rfl
      have yc1 := BlkV.cell kY 1 rfl
      clear rc0 rz0 rc1 rz1
      have rc0 := BlkV.cell kR 0 rfl
      have rz0 := BlkV.frozen kR 0
      have rc1 := BlkV.cell kR 1 rfl
      have rz1 := BlkV.frozen kR 1
      obtain ⟨ci, hci, hci0⟩ := cmpI_nn hge
      rw [← hci]
      clear hci
      go_wp2_with fail
      refine (sub_more xN yN (by omega) (by omega) (by omega)).mono ?_
      rintro e w2 ⟨v1, rfl, h1, hf2⟩
      replace xN := xN.fwd hf2
      replace yN := yN.fwd hf2
      replace kX := kX.fwd hf2
      replace kY := kY.fwd hf2
      replace kR := kR.fwd hf2
      replace hF := hF.trans hf2
      clear hf2
      clear xc0 xc1
      have xc0 := BlkV.cell kX 0 rfl
      have xc1 := BlkV.cell kX 1 rfl
      clear yc0 yc1
      have yc0 := BlkV.cell kY 0 rfl
      have yc1 := BlkV.cell kY 1 rfl
      clear rc0 rz0 rc1 rz1
      have rc0 := BlkV.cell kR 0 rfl
      have rz0 := BlkV.frozen kR 0
      have rc1 := BlkV.cell kR 1 rfl
      have rz1 := BlkV.frozen kR 1
      obtain ⟨zo, zc, rfl, z1, z2, _⟩ := h1.parts
      unfold maxLen at z2
      go_wp2_with (with_reducible refine stop_here ?_)
      refine ⟨?_⟩
      have hz : BlkV ((w2.setCell ⟨w.heap.size + 1 + 1, 0, none⟩ (.bool sx)).setCell ⟨w.heap.size + 1 + 1, 1, none⟩ (.slice zo (nl (mx - my)) zc)) (w.heap.size + 1 + 1) 111 [.bool sx, .slice zo (nl (mx - my)) zc] := (BlkV.set kR 0 (.bool sx)).set 1 (.slice zo (nl (mx - my)) zc)
      have hon : Only (w.heap.size + 1 + 1) w2 ((w2.setCell ⟨w.heap.size + 1 + 1, 0, none⟩ (.bool sx)).setCell ⟨w.heap.size + 1 + 1, 1, none⟩ (.slice zo (nl (mx - my)) zc)) := (Only.set (w.heap.size + 1 + 1) w2 0 (.bool sx)).setv 1 (.slice zo (nl (mx - my)) zc)
      replace xN := xN.keepV kR (by simp) hon
      replace yN := yN.keepV kR (by simp) hon
      replace h1 := h1.keepV kR (by simp) hon
      replace kX := BlkV.only kX hon (by omega)
      replace kY := BlkV.only kY hon (by omega)
      replace hF := hF.wrote hon (by omega)
      clear kR
      have kR := hz
      clear hz hon
      generalize ((w2.setCell ⟨w.heap.size + 1 + 1, 0, none⟩ (.bool sx)).setCell ⟨w.heap.size + 1 + 1, 1, none⟩ (.slice zo (nl (mx - my)) zc)) = w3 at xN yN h1 kX kY kR hF ⊢
      clear xc0 xc1
      have xc0 := BlkV.cell kX 0 rfl
      have xc1 := BlkV.cell kX 1 rfl
      clear yc0 yc1
      have yc0 := BlkV.cell kY 0 rfl
      have yc1 := BlkV.cell kY 1 rfl
      clear rc0 rz0 rc1 rz1
      have rc0 := BlkV.cell kR 0 rfl
      have rz0 := BlkV.frozen kR 0
      have rc1 := BlkV.cell kR 1 rfl
      have rz1 := BlkV.frozen kR 1
      refine bodyPost_ret (by simp [results, Tryz.results95, go_sem, rc0, rc1]; try rfl) rfl ?_
      refine ⟨_, rfl, ?_, hF⟩
      rw [HP.out.1, HP.out.2]
      exact ⟨_, rfl, h1⟩

set_option maxHeartbeats 4000000 in
set_option maxRecDepth 20000 in
theorem minus_any {w : World} {x y : Value} {sx sy : Bool} {mx my : Nat} (hx : WH w x sx mx) (hy : WH w y sy my) (bx : nl mx ≤ 100000) (by' : nl my ≤ 100000) :
    Calls Tryz.prog 94 #[x, y] w fun e w' => ∃ v, e = .returned v ∧ WH w' v (plusS sx mx (!sy) my) (plusN sx mx (!sy) my) ∧ Fwd w w' := by
  obtain ⟨xo, xc, rfl, x1, x2, xN⟩ := WH.open hx
  clear hx
  obtain ⟨yo, yc, rfl, y1, y2, yN⟩ := WH.open hy
  clear hy
  have kX : BlkV (((w.alloc (.cells #[.bool sx, .slice xo (nl (mx)) xc] 111)).alloc (.cells #[.bool sy, .slice yo (nl (my)) yc] 111)).alloc (.cells #[.bool false, .slice none 0 0] 111)) (w.heap.size) 111 [.bool sx, .slice xo (nl (mx)) xc] := ((BlkV.made' w (w.heap.size) (by simp) 111 [.bool sx, .slice xo (nl (mx)) xc]).alloc _).alloc _
  have kY : BlkV (((w.alloc (.cells #[.bool sx, .slice xo (nl (mx)) xc] 111)).alloc (.cells #[.bool sy, .slice yo (nl (my)) yc] 111)).alloc (.cells #[.bool false, .slice none 0 0] 111)) (w.heap.size + 1) 111 [.bool sy, .slice yo (nl (my)) yc] := (BlkV.made' (w.alloc (.cells #[.bool sx, .slice xo (nl (mx)) xc] 111)) (w.heap.size + 1) (by simp) 111 [.bool sy, .slice yo (nl (my)) yc]).alloc _
  have kR : BlkV (((w.alloc (.cells #[.bool sx, .slice xo (nl (mx)) xc] 111)).alloc (.cells #[.bool sy, .slice yo (nl (my)) yc] 111)).alloc (.cells #[.bool false, .slice none 0 0] 111)) (w.heap.size + 1 + 1) 111 [.bool false, .slice none 0 0] := BlkV.made' ((w.alloc (.cells #[.bool sx, .slice xo (nl (mx)) xc] 111)).alloc (.cells #[.bool sy, .slice yo (nl (my)) yc] 111)) (w.heap.size + 1 + 1) (by simp) 111 [.bool false, .slice none 0 0]
  have hF : Fwd w (((w.alloc (.cells #[.bool sx, .slice xo (nl (mx)) xc] 111)).alloc (.cells #[.bool sy, .slice yo (nl (my)) yc] 111)).alloc (.cells #[.bool false, .slice none 0 0] 111)) := (((Fwd.refl w).alloc _).alloc _).alloc _
  replace xN := xN.fwd hF
  replace yN := yN.fwd hF
  go_enter Tryz.func94, Tryz.ntmps94
  have xc0 := BlkV.cell kX 0 rfl
  have xc1 := BlkV.cell kX 1 rfl
  have yc0 := BlkV.cell kY 0 rfl
  have yc1 := BlkV.cell kY 1 rfl
  have rc0 := BlkV.cell kR 0 rfl
  have rz0 := BlkV.frozen kR 0
  have rc1 := BlkV.cell kR 1 rfl
  have rz1 := BlkV.frozen kR 1
  have hx' : WH (((w.alloc (.cells #[.bool sx, .slice xo (nl (mx)) xc] 111)).alloc (.cells #[.bool sy, .slice yo (nl (my)) yc] 111)).alloc (.cells #[.bool false, .slice none 0 0] 111)) (.agg #[.bool sx, .slice xo (nl mx) xc]) sx mx := ⟨_, rfl, xN⟩
  have hy' : WH (((w.alloc (.cells #[.bool sx, .slice xo (nl (mx)) xc] 111)).alloc (.cells #[.bool sy, .slice yo (nl (my)) yc] 111)).alloc (.cells #[.bool false, .slice none 0 0] 111)) (.agg #[.bool (!sy), .slice yo (nl my) yc]) (!sy) my := ⟨_, rfl, yN⟩
  clear xN yN
  go_wp2_with fail
  refine (rplus_any hx' hy' bx by').mono ?_
  rintro e w1 ⟨v, rfl, hv, hf1⟩
  replace hx' := hx'.fwd hf1
  replace hy' := hy'.fwd hf1
  replace kX := kX.fwd hf1
  replace kY := kY.fwd hf1
  replace kR := kR.fwd hf1
  replace hF := hF.trans hf1
  clear hf1
  clear xc0 xc1
  have xc0 := BlkV.cell kX 0 rfl
  have xc1 := BlkV.cell kX 1 rfl
  clear yc0 yc1
  have yc0 := BlkV.cell kY 0 rfl
  have yc1 := BlkV.cell kY 1 rfl
  clear rc0 rz0 rc1 rz1
  have rc0 := BlkV.cell kR 0 rfl
  have rz0 := BlkV.frozen kR 0
  have rc1 := BlkV.cell kR 1 rfl
  have rz1 := BlkV.frozen kR 1
  have HV := hid hv
  obtain ⟨zo, zc, rfl, z1, z2, zN⟩ := WH.open hv
  clear hv zN hx' hy'
  have hv := HV.out
  clear HV
  go_wp2_with (with_reducible refine stop_here ?_)
  refine ⟨?_⟩
  have hz : BlkV ((w1.setCell ⟨w.heap.size + 1 + 1, 0, none⟩ (.bool (plusS sx mx (!sy) my))).setCell ⟨w.heap.size + 1 + 1, 1, none⟩ (.slice zo (nl (plusN sx mx (!sy) my)) zc)) (w.heap.size + 1 + 1) 111 [.bool (plusS sx mx (!sy) my), .slice zo (nl (plusN sx mx (!sy) my)) zc] := (BlkV.set kR 0 (.bool (plusS sx mx (!sy) my))).set 1 (.slice zo (nl (plusN sx mx (!sy) my)) zc)
  have hon : Only (w.heap.size + 1 + 1) w1 ((w1.setCell ⟨w.heap.size + 1 + 1, 0, none⟩ (.bool (plusS sx mx (!sy) my))).setCell ⟨w.heap.size + 1 + 1, 1, none⟩ (.slice zo (nl (plusN sx mx (!sy) my)) zc)) := (Only.set (w.heap.size + 1 + 1) w1 0 (.bool (plusS sx mx (!sy) my))).setv 1 (.slice zo (nl (plusN sx mx (!sy) my)) zc)
  replace hv := hv.keepV kR (by simp) hon
  replace kX := BlkV.only kX hon (by omega)
  replace kY := BlkV.only kY hon (by omega)
  replace hF := hF.wrote hon (by omega)
  clear kR
  have kR := hz
  clear hz hon
  generalize ((w1.setCell ⟨w.heap.size + 1 + 1, 0, none⟩ (.bool (plusS sx mx (!sy) my))).setCell ⟨w.heap.size + 1 + 1, 1, none⟩ (.slice zo (nl (plusN sx mx (!sy) my)) zc)) = w2 at hv kX kY kR hF ⊢
  clear xc0 xc1
  have xc0 := BlkV.cell kX 0 rfl
  have xc1 := BlkV.cell kX 1 rfl
  clear yc0 yc1
  have yc0 := BlkV.cell kY 0 rfl
  have yc1 := BlkV.cell kY 1 rfl
  clear rc0 rz0 rc1 rz1
  have rc0 := BlkV.cell kR 0 rfl
  have rz0 := BlkV.frozen kR 0
  have rc1 := BlkV.cell kR 1 rfl
  have rz1 := BlkV.frozen kR 1
  refine bodyPost_ret (by simp [results, Tryz.results94, go_sem, rc0, rc1]; try rfl) rfl ?_
  exact ⟨_, rfl, hv, hF⟩

end Go.Proofs.YtcccejhkblnonaaGreat

namespace Go.Proofs.YtcccejhkblnonaaGreat
open Go.RowKit
set_option linter.unusedVariables false

theorem RV.rw' {w : World} {v : Value} {q : Rat} (h : RV w v q) : RW w v (negQ q) q.num.natAbs q.den := h
theorem RV.drew {w : World} {v : Value} {q : Rat} (h : RV w v q) : RV w.drew v q := h
theorem RV.keepV {w w' : World} {v : Value} {q : Rat} {g : Nat} {T : TypeId} {cs : List Value} (h : RV w v q) (hb : BlkV w g T cs) (hcs : ∀ c ∈ cs, ∀ x, c ≠ .int .u32 x) (k : Only g w w') : RV w' v q := RW.keepV h hb hcs k
theorem nr_le {q : Rat} {B : Nat} (h : nr q ≤ B) : nl q.num.natAbs ≤ B ∧ nl q.den ≤ B := ⟨Nat.le_trans (nr_num q) h, Nat.le_trans (nr_den q) h⟩

theorem rmul_any {w : World} {a b : Value} {p q : Rat} (ha : RV w a p) (hb : RV w b q) (bp : nr p ≤ 10000) (bq : nr q ≤ 10000) :
    Calls Tryz.prog 76 #[a, b] w fun e w' => ∃ v, e = .returned v ∧ RV w' v (p * q) ∧ Fwd w w' := by
  refine (rmul_raw ha.rw' (nr_le bp).1 (nr_le bp).2 hb.rw' (nr_le bq).1 (nr_le bq).2 p.den_nz q.den_nz).mono ?_
  rintro e w' ⟨v, rfl, hv, hf⟩
  obtain ⟨e1, e2, e3⟩ := Q_times p q
  refine ⟨v, rfl, ?_, hf⟩
  unfold RV
  rw [e1, e2, e3]
  exact hv

theorem rquo_any {w : World} {a b : Value} {p q : Rat} (ha : RV w a p) (hb : RV w b q) (bp : nr p ≤ 10000) (bq : nr q ≤ 10000) (hq : q ≠ 0) :
    Calls Tryz.prog 77 #[a, b] w fun e w' => ∃ v, e = .returned (.tuple #[v, .int .i64 0]) ∧ RV w' v (p / q) ∧ Fwd w w' := by
  have hq0 : q.num.natAbs ≠ 0 := fun h => hq ((natAbs_zero_iff q).1 h)
  refine (rquo_raw ha.rw' (nr_le bp).1 (nr_le bp).2 hb.rw' (nr_le bq).1 (nr_le bq).2 p.den_nz hq0).mono ?_
  rintro e w' ⟨v, rfl, hv, hf⟩
  obtain ⟨e1, e2, e3⟩ := Q_times p q⁻¹
  obtain ⟨i1, i2, i3⟩ := Q_inv hq
  rw [i2, i3] at e1 e2 e3
  rw [i1] at e3
  refine ⟨v, rfl, ?_, hf⟩
  unfold RV
  rw [Rat.div_def, e1, e2, e3]
  exact hv

theorem rquo_nought {w : World} {a b : Value} {p q : Rat} (ha : RV w a p) (hb : RV w b q) (bp : nr p ≤ 10000) (bq : nr q ≤ 10000) (hq : q = 0) :
    Calls Tryz.prog 77 #[a, b] w fun e w' => e = .returned (.tuple #[ratZero, .int .i64 5]) ∧ Fwd w w' :=
  rquo_zero ha.rw' (nr_le bp).1 (nr_le bp).2 hb.rw' (nr_le bq).1 (nr_le bq).2 ((natAbs_zero_iff q).2 hq)

set_option maxHeartbeats 4000000 in
set_option maxRecDepth 20000 in
theorem rclone_any {w : World} {a : Value} {n : Nat} (ha : Num w a n) (hn : nl n ≤ 1000000) :
    Calls Tryz.prog 75 #[a] w fun e w' => ∃ v, e = .returned v ∧ Num w' v n ∧ Fwd w w' := by
  have hnum := ha
  rcases ha.2 with ⟨rfl, h0⟩ | ⟨b, off, cap, rfl, h1, h2, h3, h4⟩
  · have hnil := fun wx => Lib.run_eql_slice_nil (P := Tryz.prog) wx 32 44 none 0 0 0 0 Tryz.underlying32
    go_enter Tryz.func75, Tryz.ntmps75
    go_wp2
    go_ret
    exact ⟨_, rfl, ha, Fwd.refl w⟩
  · have hll : (lim n).length ≤ 1000000000 := by show nl n ≤ _; omega
    have hg : (w.alloc (.cells #[] 44)).heap[w.heap.size]? = some (.cells #[] 44 (0, 0)) := heap_alloc_new w _
    have HG := hid hg
    have hf3 : Fwd w (w.alloc (.cells #[] 44)) := (Fwd.refl w).alloc _
    have HA : Hid (Arg (w.alloc (.cells #[] 44)) (.slice (some ⟨b, off, none⟩) (lim n).length cap) (lim n)) := hid (.inl (hnum.fwd hf3))
    have HF3 := hid hf3
    have hnil := fun wx => Lib.run_eql_slice_nil (P := Tryz.prog) wx 32 44 (some ⟨b, off, none⟩) (lim n).length cap 0 0 Tryz.underlying32
    clear hg hf3 h3 hnum ha
    go_enter Tryz.func75, Tryz.ntmps75
    go_wp2_with (at_builtin; refine law_append0 rfl (.tmp 5) (.tmp 6) rfl w.heap.size rfl HG.out _ (lim n) rfl HA.out hll ?_)
    intro v' w4 hr hne hon4 hbl
    have hF4 : Fwd w w4 := HF3.out.wrote hon4 (Nat.le_refl _)
    clear hne hon4 hbl HA HG
    go_wp2_with fail
    go_ret
    exact ⟨_, rfl, hr, hF4⟩

theorem signed_abs {w : World} {n d : Value} {N D : Nat} (hn : Num w n N) (hd : Num w d D) (hN : nl N ≤ 1000000) :
    Calls Tryz.prog 91 #[.bool false, n, d] w fun e w' => ∃ v, e = .returned v ∧ RW w' v false N D ∧ Fwd w w' := signed_raw false hn hd hN

/-- What holds of sizes, turned about below nought. -/
def turnI (s : Bool) (n : Int) : Int := if s then -n else n

end Go.Proofs.YtcccejhkblnonaaGreat
