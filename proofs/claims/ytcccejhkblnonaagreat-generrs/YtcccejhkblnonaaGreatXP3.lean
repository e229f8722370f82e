/- The program's rational numbers: size, Of, Mul, Quo. -/
import Derived.Test.YtcccejhkblnonaaGreatXP2
import Derived.Deep.RegionHeld3
namespace Go.Proofs.YtcccejhkblnonaaGreat
open Go.RowKit
set_option linter.unusedVariables false

set_option maxHeartbeats 4000000 in
set_option maxRecDepth 20000 in
theorem rmul_raw {w : World} {a b : Value} {sa sb : Bool} {ma da mb db : Nat} (ha : RW w a sa ma da) (bam : nl ma ≤ 10000) (bad : nl da ≤ 10000) (hb : RW w b sb mb db) (bbm : nl mb ≤ 10000) (bbd : nl db ≤ 10000) (za : da ≠ 0) (zb : db ≠ 0) :
    Calls Tryz.prog 76 #[a, b] w fun e w' => ∃ v, e = .returned v ∧ RW w' v ((sa != sb) && !(ma / Nat.gcd ma db * (mb / Nat.gcd mb da) == 0)) (ma / Nat.gcd ma db * (mb / Nat.gcd mb da)) (da / Nat.gcd mb da * (db / Nat.gcd ma db)) ∧ Fwd w w' := by
  have g10 : Nat.gcd ma db ≠ 0 := fun e => zb (Nat.eq_zero_of_gcd_eq_zero_right e)
  have g20 : Nat.gcd mb da ≠ 0 := fun e => za (Nat.eq_zero_of_gcd_eq_zero_right e)
  have G10 := hid g10
  have G20 := hid g20
  clear g10 g20
  have e1 := nl_gcd ma db
  have e2 := nl_gcd mb da
  have e3 := nl_div ma (Nat.gcd ma db)
  have e4 := nl_div mb (Nat.gcd mb da)
  have e5 := nl_div da (Nat.gcd mb da)
  have e6 := nl_div db (Nat.gcd ma db)
  have e7 := nl_mul (ma / Nat.gcd ma db) (mb / Nat.gcd mb da)
  obtain ⟨ao, ac, ap, ae, rfl, a1, a2, a3, a4, aN, aD⟩ := RW.open ha
  clear ha
  obtain ⟨bo, bc, bp, be, rfl, b1, b2, b3, b4, bN, bD⟩ := RW.open hb
  clear hb
  have kA : BlkV (((w.alloc (.cells #[.bool sa, .slice ao (nl (ma)) ac, .slice ap (nl (da)) ae] 34)).alloc (.cells #[.bool sb, .slice bo (nl (mb)) bc, .slice bp (nl (db)) be] 34)).alloc (.cells #[.bool false, .slice none 0 0, .slice none 0 0] 34)) (w.heap.size) 34 [.bool sa, .slice ao (nl (ma)) ac, .slice ap (nl (da)) ae] := ((BlkV.made' w (w.heap.size) (by simp) 34 [.bool sa, .slice ao (nl (ma)) ac, .slice ap (nl (da)) ae]).alloc _).alloc _
  have kB : BlkV (((w.alloc (.cells #[.bool sa, .slice ao (nl (ma)) ac, .slice ap (nl (da)) ae] 34)).alloc (.cells #[.bool sb, .slice bo (nl (mb)) bc, .slice bp (nl (db)) be] 34)).alloc (.cells #[.bool false, .slice none 0 0, .slice none 0 0] 34)) (w.heap.size + 1) 34 [.bool sb, .slice bo (nl (mb)) bc, .slice bp (nl (db)) be] := (BlkV.made' (w.alloc (.cells #[.bool sa, .slice ao (nl (ma)) ac, .slice ap (nl (da)) ae] 34)) (w.heap.size + 1) (by simp) 34 [.bool sb, .slice bo (nl (mb)) bc, .slice bp (nl (db)) be]).alloc _
  have kR : BlkV (((w.alloc (.cells #[.bool sa, .slice ao (nl (ma)) ac, .slice ap (nl (da)) ae] 34)).alloc (.cells #[.bool sb, .slice bo (nl (mb)) bc, .slice bp (nl (db)) be] 34)).alloc (.cells #[.bool false, .slice none 0 0, .slice none 0 0] 34)) (w.heap.size + 1 + 1) 34 [.bool false, .slice none 0 0, .slice none 0 0] := BlkV.made' ((w.alloc (.cells #[.bool sa, .slice ao (nl (ma)) ac, .slice ap (nl (da)) ae] 34)).alloc (.cells #[.bool sb, .slice bo (nl (mb)) bc, .slice bp (nl (db)) be] 34)) (w.heap.size + 1 + 1) (by simp) 34 [.bool false, .slice none 0 0, .slice none 0 0]
  have hF : Fwd w (((w.alloc (.cells #[.bool sa, .slice ao (nl (ma)) ac, .slice ap (nl (da)) ae] 34)).alloc (.cells #[.bool sb, .slice bo (nl (mb)) bc, .slice bp (nl (db)) be] 34)).alloc (.cells #[.bool false, .slice none 0 0, .slice none 0 0] 34)) := (((Fwd.refl w).alloc _).alloc _).alloc _
  replace aN := aN.fwd hF
  replace aD := aD.fwd hF
  replace bN := bN.fwd hF
  replace bD := bD.fwd hF
  go_enter Tryz.func76, Tryz.ntmps76
  go_wp2_with fail
  replace aN := aN.drew
  replace aD := aD.drew
  replace bN := bN.drew
  replace bD := bD.drew
  replace kA := kA.drew
  replace kB := kB.drew
  replace kR := kR.drew
  replace hF := hF.drew
  have ac0 := BlkV.cell kA 0 rfl
  have ac1 := BlkV.cell kA 1 rfl
  have ac2 := BlkV.cell kA 2 rfl
  have bc0 := BlkV.cell kB 0 rfl
  have bc1 := BlkV.cell kB 1 rfl
  have bc2 := BlkV.cell kB 2 rfl
  have rc0 := BlkV.cell kR 0 rfl
  have rz0 := BlkV.frozen kR 0
  have rc1 := BlkV.cell kR 1 rfl
  have rz1 := BlkV.frozen kR 1
  have rc2 := BlkV.cell kR 2 rfl
  have rz2 := BlkV.frozen kR 2
  go_region_held3 (fun w' => w'.cell? ⟨w.heap.size, 0, none⟩ = some (.bool sa) ∧ w'.cell? ⟨w.heap.size, 1, none⟩ = some (.slice ao (nl (ma)) ac) ∧ w'.cell? ⟨w.heap.size, 2, none⟩ = some (.slice ap (nl (da)) ae) ∧ w'.cell? ⟨w.heap.size + 1, 0, none⟩ = some (.bool sb) ∧ w'.cell? ⟨w.heap.size + 1, 1, none⟩ = some (.slice bo (nl (mb)) bc) ∧ w'.cell? ⟨w.heap.size + 1, 2, none⟩ = some (.slice bp (nl (db)) be))
    (first | exact ⟨by with_reducible assumption, by with_reducible assumption, by with_reducible assumption, by with_reducible assumption, by with_reducible assumption, by with_reducible assumption⟩ | exact ⟨farset (by simp; try omega) (by with_reducible assumption), farset (by simp; try omega) (by with_reducible assumption), farset (by simp; try omega) (by with_reducible assumption), farset (by simp; try omega) (by with_reducible assumption), farset (by simp; try omega) (by with_reducible assumption), farset (by simp; try omega) (by with_reducible assumption)⟩)
    (first
      | (go_at_call 88
         have _ := mk1
         refine (gcd_any bN aD (by omega) (by omega)).mono ?_
         rintro e w2 ⟨v2, rfl, h2, hf2⟩
         replace aN := aN.fwd hf2
         replace aD := aD.fwd hf2
         replace bN := bN.fwd hf2
         replace bD := bD.fwd hf2
         replace h1 := h1.fwd hf2
         replace kA := kA.fwd hf2
         replace kB := kB.fwd hf2
         replace kR := kR.fwd hf2
         replace hF := hF.trans hf2
         clear hf2
         clear ac0 ac1 ac2
         have ac0 := BlkV.cell kA 0 rfl
         have ac1 := BlkV.cell kA 1 rfl
         have ac2 := BlkV.cell kA 2 rfl
         clear bc0 bc1 bc2
         have bc0 := BlkV.cell kB 0 rfl
         have bc1 := BlkV.cell kB 1 rfl
         have bc2 := BlkV.cell kB 2 rfl
         clear rc0 rz0 rc1 rz1 rc2 rz2
         have rc0 := BlkV.cell kR 0 rfl
         have rz0 := BlkV.frozen kR 0
         have rc1 := BlkV.cell kR 1 rfl
         have rz1 := BlkV.frozen kR 1
         have rc2 := BlkV.cell kR 2 rfl
         have rz2 := BlkV.frozen kR 2
         have mk2 : True := trivial)
      | (go_at_call 88
         refine (gcd_any aN bD (by omega) (by omega)).mono ?_
         rintro e w1 ⟨v1, rfl, h1, hf1⟩
         replace aN := aN.fwd hf1
         replace aD := aD.fwd hf1
         replace bN := bN.fwd hf1
         replace bD := bD.fwd hf1
         replace kA := kA.fwd hf1
         replace kB := kB.fwd hf1
         replace kR := kR.fwd hf1
         replace hF := hF.trans hf1
         clear hf1
         clear ac0 ac1 ac2
         have ac0 := BlkV.cell kA 0 rfl
         have ac1 := BlkV.cell kA 1 rfl
         have ac2 := BlkV.cell kA 2 rfl
         clear bc0 bc1 bc2
         have bc0 := BlkV.cell kB 0 rfl
         have bc1 := BlkV.cell kB 1 rfl
         have bc2 := BlkV.cell kB 2 rfl
         clear rc0 rz0 rc1 rz1 rc2 rz2
         have rc0 := BlkV.cell kR 0 rfl
         have rz0 := BlkV.frozen kR 0
         have rc1 := BlkV.cell kR 1 rfl
         have rz1 := BlkV.frozen kR 1
         have rc2 := BlkV.cell kR 2 rfl
         have rz2 := BlkV.frozen kR 2
         have mk1 : True := trivial))
  go_wp2_with fail
  replace aN := aN.drew
  replace aD := aD.drew
  replace bN := bN.drew
  replace bD := bD.drew
  replace h1 := h1.drew
  replace h2 := h2.drew
  replace kA := kA.drew
  replace kB := kB.drew
  replace kR := kR.drew
  replace hF := hF.drew
  clear ac0 ac1 ac2
  have ac0 := BlkV.cell kA 0 rfl
  have ac1 := BlkV.cell kA 1 rfl
  have ac2 := BlkV.cell kA 2 rfl
  clear bc0 bc1 bc2
  have bc0 := BlkV.cell kB 0 rfl
  have bc1 := BlkV.cell kB 1 rfl
  have bc2 := BlkV.cell kB 2 rfl
  clear rc0 rz0 rc1 rz1 rc2 rz2
  have rc0 := BlkV.cell kR 0 rfl
  have rz0 := BlkV.frozen kR 0
  have rc1 := BlkV.cell kR 1 rfl
  have rz1 := BlkV.frozen kR 1
  have rc2 := BlkV.cell kR 2 rfl
  have rz2 := BlkV.frozen kR 2
  go_region_held3 (fun w' => w'.cell? ⟨w.heap.size, 0, none⟩ = some (.bool sa) ∧ w'.cell? ⟨w.heap.size, 1, none⟩ = some (.slice ao (nl (ma)) ac) ∧ w'.cell? ⟨w.heap.size, 2, none⟩ = some (.slice ap (nl (da)) ae) ∧ w'.cell? ⟨w.heap.size + 1, 0, none⟩ = some (.bool sb) ∧ w'.cell? ⟨w.heap.size + 1, 1, none⟩ = some (.slice bo (nl (mb)) bc) ∧ w'.cell? ⟨w.heap.size + 1, 2, none⟩ = some (.slice bp (nl (db)) be))
    (first | exact ⟨by with_reducible assumption, by with_reducible assumption, by with_reducible assumption, by with_reducible assumption, by with_reducible assumption, by with_reducible assumption⟩ | exact ⟨farset (by simp; try omega) (by with_reducible assumption), farset (by simp; try omega) (by with_reducible assumption), farset (by simp; try omega) (by with_reducible assumption), farset (by simp; try omega) (by with_reducible assumption), farset (by simp; try omega) (by with_reducible assumption), farset (by simp; try omega) (by with_reducible assumption)⟩)
    (first
      | (go_at_call 89
         have _ := mk4
         refine (mul_any h3 h4 (by omega) (by omega)).mono ?_
         rintro e w5 ⟨v5, rfl, h5, hf5⟩
         replace aN := aN.fwd hf5
         replace aD := aD.fwd hf5
         replace bN := bN.fwd hf5
         replace bD := bD.fwd hf5
         replace h1 := h1.fwd hf5
         replace h2 := h2.fwd hf5
         replace h3 := h3.fwd hf5
         replace h4 := h4.fwd hf5
         replace kA := kA.fwd hf5
         replace kB := kB.fwd hf5
         replace kR := kR.fwd hf5
         replace hF := hF.trans hf5
         clear hf5
         clear ac0 ac1 ac2
         have ac0 := BlkV.cell kA 0 rfl
         have ac1 := BlkV.cell kA 1 rfl
         have ac2 := BlkV.cell kA 2 rfl
         clear bc0 bc1 bc2
         have bc0 := BlkV.cell kB 0 rfl
         have bc1 := BlkV.cell kB 1 rfl
         have bc2 := BlkV.cell kB 2 rfl
         clear rc0 rz0 rc1 rz1 rc2 rz2
         have rc0 := BlkV.cell kR 0 rfl
         have rz0 := BlkV.frozen kR 0
         have rc1 := BlkV.cell kR 1 rfl
         have rz1 := BlkV.frozen kR 1
         have rc2 := BlkV.cell kR 2 rfl
         have rz2 := BlkV.frozen kR 2
         have mk5 : True := trivial)
      | (go_at_call 90
         have _ := mk3
         refine (rover_any bN h2 (by omega) (by omega) G20.out).mono ?_
         rintro e w4 ⟨v4, rfl, h4, hf4⟩
         replace aN := aN.fwd hf4
         replace aD := aD.fwd hf4
         replace bN := bN.fwd hf4
         replace bD := bD.fwd hf4
         replace h1 := h1.fwd hf4
         replace h2 := h2.fwd hf4
         replace h3 := h3.fwd hf4
         replace kA := kA.fwd hf4
         replace kB := kB.fwd hf4
         replace kR := kR.fwd hf4
         replace hF := hF.trans hf4
         clear hf4
         clear ac0 ac1 ac2
         have ac0 := BlkV.cell kA 0 rfl
         have ac1 := BlkV.cell kA 1 rfl
         have ac2 := BlkV.cell kA 2 rfl
         clear bc0 bc1 bc2
         have bc0 := BlkV.cell kB 0 rfl
         have bc1 := BlkV.cell kB 1 rfl
         have bc2 := BlkV.cell kB 2 rfl
         clear rc0 rz0 rc1 rz1 rc2 rz2
         have rc0 := BlkV.cell kR 0 rfl
         have rz0 := BlkV.frozen kR 0
         have rc1 := BlkV.cell kR 1 rfl
         have rz1 := BlkV.frozen kR 1
         have rc2 := BlkV.cell kR 2 rfl
         have rz2 := BlkV.frozen kR 2
         have mk4 : True := trivial)
      | (go_at_call 90
         refine (rover_any aN h1 (by omega) (by omega) G10.out).mono ?_
         rintro e w3 ⟨v3, rfl, h3, hf3⟩
         replace aN := aN.fwd hf3
         replace aD := aD.fwd hf3
         replace bN := bN.fwd hf3
         replace bD := bD.fwd hf3
         replace h1 := h1.fwd hf3
         replace h2 := h2.fwd hf3
         replace kA := kA.fwd hf3
         replace kB := kB.fwd hf3
         replace kR := kR.fwd hf3
         replace hF := hF.trans hf3
         clear hf3
         clear ac0 ac1 ac2
         have ac0 := BlkV.cell kA 0 rfl
         have ac1 := BlkV.cell kA 1 rfl
         have ac2 := BlkV.cell kA 2 rfl
         clear bc0 bc1 bc2
         have bc0 := BlkV.cell kB 0 rfl
         have bc1 := BlkV.cell kB 1 rfl
         have bc2 := BlkV.cell kB 2 rfl
         clear rc0 rz0 rc1 rz1 rc2 rz2
         have rc0 := BlkV.cell kR 0 rfl
         have rz0 := BlkV.frozen kR 0
         have rc1 := BlkV.cell kR 1 rfl
         have rz1 := BlkV.frozen kR 1
         have rc2 := BlkV.cell kR 2 rfl
         have rz2 := BlkV.frozen kR 2
         have mk3 : True := trivial))
  go_wp2_with fail
  replace aN := aN.drew
  replace aD := aD.drew
  replace bN := bN.drew
  replace bD := bD.drew
  replace h1 := h1.drew
  replace h2 := h2.drew
  replace h3 := h3.drew
  replace h4 := h4.drew
  replace h5 := h5.drew
  replace kA := kA.drew
  replace kB := kB.drew
  replace kR := kR.drew
  replace hF := hF.drew
  clear ac0 ac1 ac2
  have ac0 := BlkV.cell kA 0 rfl
  have ac1 := BlkV.cell kA 1 rfl
  have ac2 := BlkV.cell kA 2 rfl
  clear bc0 bc1 bc2
  have bc0 := BlkV.cell kB 0 rfl
  have bc1 := BlkV.cell kB 1 rfl
  have bc2 := BlkV.cell kB 2 rfl
  clear rc0 rz0 rc1 rz1 rc2 rz2
  have rc0 := BlkV.cell kR 0 rfl
  have rz0 := BlkV.frozen kR 0
  have rc1 := BlkV.cell kR 1 rfl
  have rz1 := BlkV.frozen kR 1
  have rc2 := BlkV.cell kR 2 rfl
  have rz2 := BlkV.frozen kR 2
  go_region_held3 (fun w' => w'.cell? ⟨w.heap.size, 0, none⟩ = some (.bool sa) ∧ w'.cell? ⟨w.heap.size, 1, none⟩ = some (.slice ao (nl (ma)) ac) ∧ w'.cell? ⟨w.heap.size, 2, none⟩ = some (.slice ap (nl (da)) ae) ∧ w'.cell? ⟨w.heap.size + 1, 0, none⟩ = some (.bool sb) ∧ w'.cell? ⟨w.heap.size + 1, 1, none⟩ = some (.slice bo (nl (mb)) bc) ∧ w'.cell? ⟨w.heap.size + 1, 2, none⟩ = some (.slice bp (nl (db)) be))
    (first | exact ⟨by with_reducible assumption, by with_reducible assumption, by with_reducible assumption, by with_reducible assumption, by with_reducible assumption, by with_reducible assumption⟩ | exact ⟨farset (by simp; try omega) (by with_reducible assumption), farset (by simp; try omega) (by with_reducible assumption), farset (by simp; try omega) (by with_reducible assumption), farset (by simp; try omega) (by with_reducible assumption), farset (by simp; try omega) (by with_reducible assumption), farset (by simp; try omega) (by with_reducible assumption)⟩)
    (first
      | (go_at_call 89
         have _ := mk7
         refine (mul_any h6 h7 (by omega) (by omega)).mono ?_
         rintro e w8 ⟨v8, rfl, h8, hf8⟩
         replace aN := aN.fwd hf8
         replace aD := aD.fwd hf8
         replace bN := bN.fwd hf8
         replace bD := bD.fwd hf8
         replace h1 := h1.fwd hf8
         replace h2 := h2.fwd hf8
         replace h3 := h3.fwd hf8
         replace h4 := h4.fwd hf8
         replace h5 := h5.fwd hf8
         replace h6 := h6.fwd hf8
         replace h7 := h7.fwd hf8
         replace kA := kA.fwd hf8
         replace kB := kB.fwd hf8
         replace kR := kR.fwd hf8
         replace hF := hF.trans hf8
         clear hf8
         clear ac0 ac1 ac2
         have ac0 := BlkV.cell kA 0 rfl
         have ac1 := BlkV.cell kA 1 rfl
         have ac2 := BlkV.cell kA 2 rfl
         clear bc0 bc1 bc2
         have bc0 := BlkV.cell kB 0 rfl
         have bc1 := BlkV.cell kB 1 rfl
         have bc2 := BlkV.cell kB 2 rfl
         clear rc0 rz0 rc1 rz1 rc2 rz2
         have rc0 := BlkV.cell kR 0 rfl
         have rz0 := BlkV.frozen kR 0
         have rc1 := BlkV.cell kR 1 rfl
         have rz1 := BlkV.frozen kR 1
         have rc2 := BlkV.cell kR 2 rfl
         have rz2 := BlkV.frozen kR 2
         have mk8 : True := trivial)
      | (go_at_call 90
         have _ := mk6
         refine (rover_any bD h1 (by omega) (by omega) G10.out).mono ?_
         rintro e w7 ⟨v7, rfl, h7, hf7⟩
         replace aN := aN.fwd hf7
         replace aD := aD.fwd hf7
         replace bN := bN.fwd hf7
         replace bD := bD.fwd hf7
         replace h1 := h1.fwd hf7
         replace h2 := h2.fwd hf7
         replace h3 := h3.fwd hf7
         replace h4 := h4.fwd hf7
         replace h5 := h5.fwd hf7
         replace h6 := h6.fwd hf7
         replace kA := kA.fwd hf7
         replace kB := kB.fwd hf7
         replace kR := kR.fwd hf7
         replace hF := hF.trans hf7
         clear hf7
         clear ac0 ac1 ac2
         have ac0 := BlkV.cell kA 0 rfl
         have ac1 := BlkV.cell kA 1 rfl
         have ac2 := BlkV.cell kA 2 rfl
         clear bc0 bc1 bc2
         have bc0 := BlkV.cell kB 0 rfl
         have bc1 := BlkV.cell kB 1 rfl
         have bc2 := BlkV.cell kB 2 rfl
         clear rc0 rz0 rc1 rz1 rc2 rz2
         have rc0 := BlkV.cell kR 0 rfl
         have rz0 := BlkV.frozen kR 0
         have rc1 := BlkV.cell kR 1 rfl
         have rz1 := BlkV.frozen kR 1
         have rc2 := BlkV.cell kR 2 rfl
         have rz2 := BlkV.frozen kR 2
         have mk7 : True := trivial)
      | (go_at_call 90
         refine (rover_any aD h2 (by omega) (by omega) G20.out).mono ?_
         rintro e w6 ⟨v6, rfl, h6, hf6⟩
         replace aN := aN.fwd hf6
         replace aD := aD.fwd hf6
         replace bN := bN.fwd hf6
         replace bD := bD.fwd hf6
         replace h1 := h1.fwd hf6
         replace h2 := h2.fwd hf6
         replace h3 := h3.fwd hf6
         replace h4 := h4.fwd hf6
         replace h5 := h5.fwd hf6
         replace kA := kA.fwd hf6
         replace kB := kB.fwd hf6
         replace kR := kR.fwd hf6
         replace hF := hF.trans hf6
         clear hf6
         clear ac0 ac1 ac2
         have ac0 := BlkV.cell kA 0 rfl
         have ac1 := BlkV.cell kA 1 rfl
         have ac2 := BlkV.cell kA 2 rfl
         clear bc0 bc1 bc2
         have bc0 := BlkV.cell kB 0 rfl
         have bc1 := BlkV.cell kB 1 rfl
         have bc2 := BlkV.cell kB 2 rfl
         clear rc0 rz0 rc1 rz1 rc2 rz2
         have rc0 := BlkV.cell kR 0 rfl
         have rz0 := BlkV.frozen kR 0
         have rc1 := BlkV.cell kR 1 rfl
         have rz1 := BlkV.frozen kR 1
         have rc2 := BlkV.cell kR 2 rfl
         have rz2 := BlkV.frozen kR 2
         have mk6 : True := trivial))
  go_wp2_with fail
  refine (signed_raw _ h5 h8 (by omega)).mono ?_
  rintro e w9 ⟨v, rfl, hv, hf9⟩
  replace aN := aN.fwd hf9
  replace aD := aD.fwd hf9
  replace bN := bN.fwd hf9
  replace bD := bD.fwd hf9
  replace h1 := h1.fwd hf9
  replace h2 := h2.fwd hf9
  replace h3 := h3.fwd hf9
  replace h4 := h4.fwd hf9
  replace h5 := h5.fwd hf9
  replace h6 := h6.fwd hf9
  replace h7 := h7.fwd hf9
  replace h8 := h8.fwd hf9
  replace kA := kA.fwd hf9
  replace kB := kB.fwd hf9
  replace kR := kR.fwd hf9
  replace hF := hF.trans hf9
  clear hf9
  clear ac0 ac1 ac2
  have ac0 := BlkV.cell kA 0 rfl
  have ac1 := BlkV.cell kA 1 rfl
  have ac2 := BlkV.cell kA 2 rfl
  clear bc0 bc1 bc2
  have bc0 := BlkV.cell kB 0 rfl
  have bc1 := BlkV.cell kB 1 rfl
  have bc2 := BlkV.cell kB 2 rfl
  clear rc0 rz0 rc1 rz1 rc2 rz2
  have rc0 := BlkV.cell kR 0 rfl
  have rz0 := BlkV.frozen kR 0
  have rc1 := BlkV.cell kR 1 rfl
  have rz1 := BlkV.frozen kR 1
  have rc2 := BlkV.cell kR 2 rfl
  have rz2 := BlkV.frozen kR 2
  have HV := hid hv
  obtain ⟨xo, xc, yo, yc, rfl, x1, x2, x3, x4, xN, xD⟩ := RW.open hv
  clear hv xN xD aN aD bN bD h1 h2 h3 h4 h5 h6 h7 h8
  have hv := HV.out
  clear HV
  generalize hn : ma / Nat.gcd ma db * (mb / Nat.gcd mb da) = N at hv ⊢
  generalize hd : da / Nat.gcd mb da * (db / Nat.gcd ma db) = D at hv ⊢
  have HN := hid hn
  have HD := hid hd
  clear hn hd
  go_wp2_with (with_reducible refine stop_here ?_)
  refine ⟨?_⟩
  have hz : BlkV (((w9.setCell ⟨w.heap.size + 1 + 1, 0, none⟩ (.bool (!(sa == sb) && !(N == 0)))).setCell ⟨w.heap.size + 1 + 1, 1, none⟩ (.slice xo (nl N) xc)).setCell ⟨w.heap.size + 1 + 1, 2, none⟩ (.slice yo (nl D) yc)) (w.heap.size + 1 + 1) 34 [.bool (!(sa == sb) && !(N == 0)), .slice xo (nl N) xc, .slice yo (nl D) yc] := ((BlkV.set kR 0 (.bool (!(sa == sb) && !(N == 0)))).set 1 (.slice xo (nl N) xc)).set 2 (.slice yo (nl D) yc)
  have hon : Only (w.heap.size + 1 + 1) w9 (((w9.setCell ⟨w.heap.size + 1 + 1, 0, none⟩ (.bool (!(sa == sb) && !(N == 0)))).setCell ⟨w.heap.size + 1 + 1, 1, none⟩ (.slice xo (nl N) xc)).setCell ⟨w.heap.size + 1 + 1, 2, none⟩ (.slice yo (nl D) yc)) := ((Only.set (w.heap.size + 1 + 1) w9 0 (.bool (!(sa == sb) && !(N == 0)))).setv 1 (.slice xo (nl N) xc)).setv 2 (.slice yo (nl D) yc)
  replace hv := hv.keepV kR (by simp) hon
  replace kA := BlkV.only kA hon (by omega)
  replace kB := BlkV.only kB hon (by omega)
  replace hF := hF.wrote hon (by omega)
  clear kR
  have kR := hz
  clear hz hon
  generalize (((w9.setCell ⟨w.heap.size + 1 + 1, 0, none⟩ (.bool (!(sa == sb) && !(N == 0)))).setCell ⟨w.heap.size + 1 + 1, 1, none⟩ (.slice xo (nl N) xc)).setCell ⟨w.heap.size + 1 + 1, 2, none⟩ (.slice yo (nl D) yc)) = w10 at hv kA kB kR hF ⊢
  clear ac0 ac1 ac2
  have ac0 := BlkV.cell kA 0 rfl
  have ac1 := BlkV.cell kA 1 rfl
  have ac2 := BlkV.cell kA 2 rfl
  clear bc0 bc1 bc2
  have bc0 := BlkV.cell kB 0 rfl
  have bc1 := BlkV.cell kB 1 rfl
  have bc2 := BlkV.cell kB 2 rfl
  clear rc0 rz0 rc1 rz1 rc2 rz2
  have rc0 := BlkV.cell kR 0 rfl
  have rz0 := BlkV.frozen kR 0
  have rc1 := BlkV.cell kR 1 rfl
  have rz1 := BlkV.frozen kR 1
  have rc2 := BlkV.cell kR 2 rfl
  have rz2 := BlkV.frozen kR 2
  refine bodyPost_ret (by simp [results, Tryz.results76, go_sem, rc0, rc1, rc2]; try rfl) rfl ?_
  refine ⟨_, rfl, ?_, hF⟩
  rw [HN.out, HD.out]
  exact hv

end Go.Proofs.YtcccejhkblnonaaGreat
