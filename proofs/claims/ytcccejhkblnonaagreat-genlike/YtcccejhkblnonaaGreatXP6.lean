/- The program's rational numbers: join, Add, Sub. -/
import Derived.Test.YtcccejhkblnonaaGreatKL
import Derived.Deep.DeepCutAuto
namespace Go.Proofs.YtcccejhkblnonaaGreat
open Go.RowKit
set_option linter.unusedVariables false

theorem Fwd.undrew {a w : World} (h : Fwd a w) : Fwd a.drew w := ⟨h.os, h.tape, h.output, h.size, h.block⟩
theorem cell_drew_alloc {w : World} {o : Obj} {p : Addr} {v : Value} (h : w.drew.cell? p = some v) : (w.alloc o).drew.cell? p = some v := Fwd.cell ((Fwd.refl w).alloc o) h
theorem only_of_set2 {w : World} {g : Nat} {T : TypeId} {cs : List Value} (k : BlkV w g T cs) (a b : Value) : Only g w ((w.setCell ⟨g, 0, none⟩ a).setCell ⟨g, 1, none⟩ b) := (Only.set _ _ _ _).setv _ _
theorem only_of_set3 {w : World} {g : Nat} {T : TypeId} {cs : List Value} (k : BlkV w g T cs) (a b c : Value) : Only g w (((w.setCell ⟨g, 0, none⟩ a).setCell ⟨g, 1, none⟩ b).setCell ⟨g, 2, none⟩ c) := ((Only.set _ _ _ _).setv _ _).setv _ _

set_option maxHeartbeats 4000000 in
set_option maxRecDepth 20000 in
theorem join_plus {w : World} {a b : Value} {sa sb : Bool} {ma da mb db : Nat} (ha : RW w a sa ma da) (bam : nl ma ≤ 10000) (bad : nl da ≤ 10000) (hb : RW w b sb mb db) (bbm : nl mb ≤ 10000) (bbd : nl db ≤ 10000) (za : da ≠ 0) (zb : db ≠ 0) {S : Bool} {Z G rA rB L : Nat} (hG : G = Nat.gcd da db) (hA : rA = da / G) (hB : rB = db / G) (hS : S = plusS sa (ma * rB) sb (mb * rA)) (hZ : Z = plusN sa (ma * rB) sb (mb * rA)) (hL : L = Nat.gcd Z G) :
    Calls Tryz.prog 93 #[a, b, .func (.func 95) #[] #[]] w fun e w' => ∃ v, e = .returned v ∧ RW w' v (S && !(Z / L == 0)) (Z / L) (rA * (db / L)) ∧ Fwd w w' := by
  have HG := hid hG
  have HA := hid hA
  have HB := hid hB
  have HS := hid hS
  have HZ := hid hZ
  have HL := hid hL
  have g0 : G ≠ 0 := fun e => za (by rw [hG] at e; exact Nat.eq_zero_of_gcd_eq_zero_left e)
  have G0 := hid g0
  have l0 : L ≠ 0 := fun e => g0 (by rw [hL] at e; exact Nat.eq_zero_of_gcd_eq_zero_right e)
  have L0 := hid l0
  have e1 : nl G ≤ nl da := by rw [hG]; exact nl_mono (Nat.gcd_le_left _ (Nat.pos_of_ne_zero za))
  have e2 : nl rA ≤ nl da := by rw [hA]; exact nl_mono (Nat.div_le_self _ _)
  have e3 : nl rB ≤ nl db := by rw [hB]; exact nl_mono (Nat.div_le_self _ _)
  have e4 := nl_mul ma rB
  have e5 := nl_mul mb rA
  have e6 : nl Z ≤ max (nl (ma * rB)) (nl (mb * rA)) + 1 := by rw [hZ]; exact nl_plus _ _ _ _
  have e7 : nl L ≤ nl G := by rw [hL]; exact nl_mono (Nat.gcd_le_right _ (Nat.pos_of_ne_zero g0))
  have e8 := nl_div Z L
  have e9 := nl_div db L
  have e10 := nl_mul rA (db / L)
  clear hG hA hB hS hZ hL g0 l0
  obtain ⟨ao, ac, ap, ae, rfl, a1, a2, a3, a4, aN, aD⟩ := RW.open ha
  clear ha
  obtain ⟨bo, bc, bp, be, rfl, b1, b2, b3, b4, bN, bD⟩ := RW.open hb
  clear hb
  have kA : BlkV (((w.alloc (.cells #[.bool sa, .slice ao (nl (ma)) ac, .slice ap (nl (da)) ae] 34)).alloc (.cells #[.bool sb, .slice bo (nl (mb)) bc, .slice bp (nl (db)) be] 34)).alloc (.cells #[.bool false, .slice none 0 0, .slice none 0 0] 34)) (w.heap.size) 34 [.bool sa, .slice ao (nl (ma)) ac, .slice ap (nl (da)) ae] := ((BlkV.made' w (w.heap.size) (by simp) 34 [.bool sa, .slice ao (nl (ma)) ac, .slice ap (nl (da)) ae]).alloc _).alloc _
  have kB : BlkV (((w.alloc (.cells #[.bool sa, .slice ao (nl (ma)) ac, .slice ap (nl (da)) ae] 34)).alloc (.cells #[.bool sb, .slice bo (nl (mb)) bc, .slice bp (nl (db)) be] 34)).alloc (.cells #[.bool false, .slice none 0 0, .slice none 0 0] 34)) (w.heap.size + 1) 34 [.bool sb, .slice bo (nl (mb)) bc, .slice bp (nl (db)) be] := (BlkV.made' (w.alloc (.cells #[.bool sa, .slice ao (nl (ma)) ac, .slice ap (nl (da)) ae] 34)) (w.heap.size + 1) (by simp) 34 [.bool sb, .slice bo (nl (mb)) bc, .slice bp (nl (db)) be]).alloc _
  have kR : BlkV (((w.alloc (.cells #[.bool sa, .slice ao (nl (ma)) ac, .slice ap (nl (da)) ae] 34)).alloc (.cells #[.bool sb, .slice bo (nl (mb)) bc, .slice bp (nl (db)) be] 34)).alloc (.cells #[.bool false, .slice none 0 0, .slice none 0 0] 34)) (w.heap.size + 1 + 1) 34 [.bool false, .slice none 0 0, .slice none 0 0] := BlkV.made' ((w.alloc (.cells #[.bool sa, .slice ao (nl (ma)) ac, .slice ap (nl (da)) ae] 34)).alloc (.cells #[.bool sb, .slice bo (nl (mb)) bc, .slice bp (nl (db)) be] 34)) (w.heap.size + 1 + 1) (by simp) 34 [.bool false, .slice none 0 0, .slice none 0 0]
  have hF : Fwd w (((w.alloc (.cells #[.bool sa, .slice ao (nl (ma)) ac, .slice ap (nl (da)) ae] 34)).alloc (.cells #[.bool sb, .slice bo (nl (mb)) bc, .slice bp (nl (db)) be] 34)).alloc (.cells #[.bool false, .slice none 0 0, .slice none 0 0] 34)) := (((Fwd.refl w).alloc _).alloc _).alloc _
  replace aN := aN.fwd hF
  replace aD := aD.fwd hF
  replace bN := bN.fwd hF
  replace bD := bD.fwd hF
  go_enter Tryz.func93, Tryz.ntmps93
  have ac0 := BlkV.cell kA 0 rfl
  have ac1 := BlkV.cell kA 1 rfl
  have ac2 := BlkV.cell kA 2 rfl
  have bc0 := BlkV.cell kB 0 rfl
  have bc1 := BlkV.cell kB 1 rfl
  have bc2 := BlkV.cell kB 2 rfl
  have rc0 := BlkV.cell kR 0 rfl
  have rz0 := BlkV.frozen kR 0
  have rc1 := BlkV.cell kR 1 rfl
  have rz1 := BlkV.frozen kR 1
  have rc2 := BlkV.cell kR 2 rfl
  have rz2 := BlkV.frozen kR 2
  go_wp2_with fail
  refine (gcd_any aD bD (by omega) (by omega)).mono ?_
  rintro e w1 ⟨v1, rfl, h1, hf1⟩
  replace aN := aN.fwd hf1
  replace aD := aD.fwd hf1
  replace bN := bN.fwd hf1
  replace bD := bD.fwd hf1
  replace kA := kA.fwd hf1
  replace kB := kB.fwd hf1
  replace kR := kR.fwd hf1
  replace hF := hF.trans hf1
  clear hf1
  clear ac0 ac1 ac2
  have ac0 := BlkV.cell kA 0 rfl
  have ac1 := BlkV.cell kA 1 rfl
  have ac2 := BlkV.cell kA 2 rfl
  clear bc0 bc1 bc2
  have bc0 := BlkV.cell kB 0 rfl
  have bc1 := BlkV.cell kB 1 rfl
  have bc2 := BlkV.cell kB 2 rfl
  clear rc0 rz0 rc1 rz1 rc2 rz2
  have rc0 := BlkV.cell kR 0 rfl
  have rz0 := BlkV.frozen kR 0
  have rc1 := BlkV.cell kR 1 rfl
  have rz1 := BlkV.frozen kR 1
  have rc2 := BlkV.cell kR 2 rfl
  have rz2 := BlkV.frozen kR 2
  rw [← HG.out] at h1
  go_wp2_with fail
  replace aN := aN.drew
  replace aD := aD.drew
  replace bN := bN.drew
  replace bD := bD.drew
  replace h1 := h1.drew
  replace kA := kA.drew
  replace kB := kB.drew
  replace kR := kR.drew
  replace hF := hF.drew
  clear ac0 ac1 ac2
  have ac0 := BlkV.cell kA 0 rfl
  have ac1 := BlkV.cell kA 1 rfl
  have ac2 := BlkV.cell kA 2 rfl
  clear bc0 bc1 bc2
  have bc0 := BlkV.cell kB 0 rfl
  have bc1 := BlkV.cell kB 1 rfl
  have bc2 := BlkV.cell kB 2 rfl
  clear rc0 rz0 rc1 rz1 rc2 rz2
  have rc0 := BlkV.cell kR 0 rfl
  have rz0 := BlkV.frozen kR 0
  have rc1 := BlkV.cell kR 1 rfl
  have rz1 := BlkV.frozen kR 1
  have rc2 := BlkV.cell kR 2 rfl
  have rz2 := BlkV.frozen kR 2
  go_region_held3 (fun w' => w'.cell? ⟨w.heap.size, 0, none⟩ = some (.bool sa) ∧ w'.cell? ⟨w.heap.size, 1, none⟩ = some (.slice ao (nl (ma)) ac) ∧ w'.cell? ⟨w.heap.size, 2, none⟩ = some (.slice ap (nl (da)) ae) ∧ w'.cell? ⟨w.heap.size + 1, 0, none⟩ = some (.bool sb) ∧ w'.cell? ⟨w.heap.size + 1, 1, none⟩ = some (.slice bo (nl (mb)) bc) ∧ w'.cell? ⟨w.heap.size + 1, 2, none⟩ = some (.slice bp (nl (db)) be))
    (first | exact ⟨by with_reducible assumption, by with_reducible assumption, by with_reducible assumption, by with_reducible assumption, by with_reducible assumption, by with_reducible assumption⟩ | exact ⟨(farset (by simp; try omega) (farset (by simp; try omega) (farset (by simp; try omega) (by with_reducible assumption)))), (farset (by simp; try omega) (farset (by simp; try omega) (farset (by simp; try omega) (by with_reducible assumption)))), (farset (by simp; try omega) (farset (by simp; try omega) (farset (by simp; try omega) (by with_reducible assumption)))), (farset (by simp; try omega) (farset (by simp; try omega) (farset (by simp; try omega) (by with_reducible assumption)))), (farset (by simp; try omega) (farset (by simp; try omega) (farset (by simp; try omega) (by with_reducible assumption)))), (farset (by simp; try omega) (farset (by simp; try omega) (farset (by simp; try omega) (by with_reducible assumption))))⟩)
    (first
      | (go_at_call 90
         have _ := mk2
         refine (rover_any bD h1 (by omega) (by omega) G0.out).mono ?_
         rintro e w3 ⟨v3, rfl, h3, hf3⟩
         replace aN := aN.fwd hf3
         replace aD := aD.fwd hf3
         replace bN := bN.fwd hf3
         replace bD := bD.fwd hf3
         replace h1 := h1.fwd hf3
         replace h2 := h2.fwd hf3
         replace kA := kA.fwd hf3
         replace kB := kB.fwd hf3
         replace kR := kR.fwd hf3
         replace hF := hF.trans hf3
         clear hf3
         rw [← HB.out] at h3
         clear ac0 ac1 ac2
         have ac0 := BlkV.cell kA 0 rfl
         have ac1 := BlkV.cell kA 1 rfl
         have ac2 := BlkV.cell kA 2 rfl
         clear bc0 bc1 bc2
         have bc0 := BlkV.cell kB 0 rfl
         have bc1 := BlkV.cell kB 1 rfl
         have bc2 := BlkV.cell kB 2 rfl
         clear rc0 rz0 rc1 rz1 rc2 rz2
         have rc0 := BlkV.cell kR 0 rfl
         have rz0 := BlkV.frozen kR 0
         have rc1 := BlkV.cell kR 1 rfl
         have rz1 := BlkV.frozen kR 1
         have rc2 := BlkV.cell kR 2 rfl
         have rz2 := BlkV.frozen kR 2
         have mk3 : True := trivial)
      | (go_at_call 90
         refine (rover_any aD h1 (by omega) (by omega) G0.out).mono ?_
         rintro e w2 ⟨v2, rfl, h2, hf2⟩
         replace aN := aN.fwd hf2
         replace aD := aD.fwd hf2
         replace bN := bN.fwd hf2
         replace bD := bD.fwd hf2
         replace h1 := h1.fwd hf2
         replace kA := kA.fwd hf2
         replace kB := kB.fwd hf2
         replace kR := kR.fwd hf2
         replace hF := hF.trans hf2
         clear hf2
         rw [← HA.out] at h2
         clear ac0 ac1 ac2
         have ac0 := BlkV.cell kA 0 rfl
         have ac1 := BlkV.cell kA 1 rfl
         have ac2 := BlkV.cell kA 2 rfl
         clear bc0 bc1 bc2
         have bc0 := BlkV.cell kB 0 rfl
         have bc1 := BlkV.cell kB 1 rfl
         have bc2 := BlkV.cell kB 2 rfl
         clear rc0 rz0 rc1 rz1 rc2 rz2
         have rc0 := BlkV.cell kR 0 rfl
         have rz0 := BlkV.frozen kR 0
         have rc1 := BlkV.cell kR 1 rfl
         have rz1 := BlkV.frozen kR 1
         have rc2 := BlkV.cell kR 2 rfl
         have rz2 := BlkV.frozen kR 2
         have mk2 : True := trivial))
  have ha' : RW w3 (.agg #[.bool sa, .slice ao (nl ma) ac, .slice ap (nl da) ae]) sa ma da := ⟨_, _, rfl, aN, aD⟩
  have hb' : RW w3 (.agg #[.bool sb, .slice bo (nl mb) bc, .slice bp (nl db) be]) sb mb db := ⟨_, _, rfl, bN, bD⟩
  clear aN aD bN
  go_upto_region 3 with fail
  go_cut [10] (fun s wx => ∃ g jo jc, s = .pointer (some ⟨g, 0, none⟩) ∧ w.heap.size + 3 ≤ g ∧ BlkV wx g 111 [.bool S, .slice jo (nl Z) jc] ∧ nl Z ≤ jc ∧ jc ≤ 9223372036854775807 ∧ Num wx (.slice jo (nl Z) jc) Z ∧ Num wx (.slice bp (nl (db)) be) (db) ∧ Num wx v1 G ∧ Num wx v2 rA ∧ BlkV wx (w.heap.size) 34 [.bool sa, .slice ao (nl (ma)) ac, .slice ap (nl (da)) ae] ∧ BlkV wx (w.heap.size + 1) 34 [.bool sb, .slice bo (nl (mb)) bc, .slice bp (nl (db)) be] ∧ BlkV wx (w.heap.size + 1 + 1) 34 [.bool false, .slice none 0 0, .slice none 0 0] ∧ Fwd w wx)
  case first =>
    replace bD := bD.drew
    replace h1 := h1.drew
    replace h2 := h2.drew
    replace h3 := h3.drew
    replace ha' := ha'.drew
    replace hb' := hb'.drew
    replace kA := kA.drew
    replace kB := kB.drew
    replace kR := kR.drew
    replace hF := hF.drew
    clear ac0 ac1 ac2
    have ac0 := BlkV.cell kA 0 rfl
    have ac1 := BlkV.cell kA 1 rfl
    have ac2 := BlkV.cell kA 2 rfl
    clear bc0 bc1 bc2
    have bc0 := BlkV.cell kB 0 rfl
    have bc1 := BlkV.cell kB 1 rfl
    have bc2 := BlkV.cell kB 2 rfl
    clear rc0 rz0 rc1 rz1 rc2 rz2
    have rc0 := BlkV.cell kR 0 rfl
    have rz0 := BlkV.frozen kR 0
    have rc1 := BlkV.cell kR 1 rfl
    have rz1 := BlkV.frozen kR 1
    have rc2 := BlkV.cell kR 2 rfl
    have rz2 := BlkV.frozen kR 2
    go_region_held3 (fun w' => w'.cell? ⟨w.heap.size, 0, none⟩ = some (.bool sa) ∧ w'.cell? ⟨w.heap.size, 1, none⟩ = some (.slice ao (nl (ma)) ac) ∧ w'.cell? ⟨w.heap.size, 2, none⟩ = some (.slice ap (nl (da)) ae) ∧ w'.cell? ⟨w.heap.size + 1, 0, none⟩ = some (.bool sb) ∧ w'.cell? ⟨w.heap.size + 1, 1, none⟩ = some (.slice bo (nl (mb)) bc) ∧ w'.cell? ⟨w.heap.size + 1, 2, none⟩ = some (.slice bp (nl (db)) be))
      (first | exact ⟨(by with_reducible assumption), (by with_reducible assumption), (by with_reducible assumption), (by with_reducible assumption), (by with_reducible assumption), (by with_reducible assumption)⟩ | exact ⟨(Fwd.cell ((Fwd.refl _).alloc _) (by with_reducible assumption)), (Fwd.cell ((Fwd.refl _).alloc _) (by with_reducible assumption)), (Fwd.cell ((Fwd.refl _).alloc _) (by with_reducible assumption)), (Fwd.cell ((Fwd.refl _).alloc _) (by with_reducible assumption)), (Fwd.cell ((Fwd.refl _).alloc _) (by with_reducible assumption)), (Fwd.cell ((Fwd.refl _).alloc _) (by with_reducible assumption))⟩ | exact ⟨(cell_drew_alloc (by with_reducible assumption)), (cell_drew_alloc (by with_reducible assumption)), (cell_drew_alloc (by with_reducible assumption)), (cell_drew_alloc (by with_reducible assumption)), (cell_drew_alloc (by with_reducible assumption)), (cell_drew_alloc (by with_reducible assumption))⟩ | exact ⟨(farset (by simp; try omega) (farset (by simp; try omega) (by with_reducible assumption))), (farset (by simp; try omega) (farset (by simp; try omega) (by with_reducible assumption))), (farset (by simp; try omega) (farset (by simp; try omega) (by with_reducible assumption))), (farset (by simp; try omega) (farset (by simp; try omega) (by with_reducible assumption))), (farset (by simp; try omega) (farset (by simp; try omega) (by with_reducible assumption))), (farset (by simp; try omega) (farset (by simp; try omega) (by with_reducible assumption)))⟩ | exact ⟨(farset (by simp; try omega) (farset (by simp; try omega) (Fwd.cell ((Fwd.refl _).alloc _) (by with_reducible assumption)))), (farset (by simp; try omega) (farset (by simp; try omega) (Fwd.cell ((Fwd.refl _).alloc _) (by with_reducible assumption)))), (farset (by simp; try omega) (farset (by simp; try omega) (Fwd.cell ((Fwd.refl _).alloc _) (by with_reducible assumption)))), (farset (by simp; try omega) (farset (by simp; try omega) (Fwd.cell ((Fwd.refl _).alloc _) (by with_reducible assumption)))), (farset (by simp; try omega) (farset (by simp; try omega) (Fwd.cell ((Fwd.refl _).alloc _) (by with_reducible assumption)))), (farset (by simp; try omega) (farset (by simp; try omega) (Fwd.cell ((Fwd.refl _).alloc _) (by with_reducible assumption))))⟩)
      (first
        | (go_at_call 95
           have _ := mk7
           first
           | (have _ := kJ
              with_reducible refine (rplus_any h5 h7 (by omega) (by omega)).mono ?_
              rintro e w8 ⟨v8, rfl, h8, hf8⟩
              replace bD := bD.fwd hf8
              replace h1 := h1.fwd hf8
              replace h2 := h2.fwd hf8
              replace h3 := h3.fwd hf8
              replace ha' := ha'.fwd hf8
              replace hb' := hb'.fwd hf8
              replace h4 := h4.fwd hf8
              replace h5 := h5.fwd hf8
              replace h6 := h6.fwd hf8
              replace h7 := h7.fwd hf8
              replace kA := kA.fwd hf8
              replace kB := kB.fwd hf8
              replace kR := kR.fwd hf8
              replace hF := hF.trans hf8
              replace kJ := kJ.fwd hf8
              clear jc0 jc1 jz0 jz1
              have jc0 := BlkV.cell kJ 0 rfl
              have jc1 := BlkV.cell kJ 1 rfl
              have jz0 := BlkV.frozen kJ 0
              have jz1 := BlkV.frozen kJ 1
              clear hf8
              rw [← HS.out, ← HZ.out] at h8
              obtain ⟨jo, jc, rfl, j1, j2, jN⟩ := WH.open h8
              clear h8
              clear ac0 ac1 ac2
              have ac0 := BlkV.cell kA 0 rfl
              have ac1 := BlkV.cell kA 1 rfl
              have ac2 := BlkV.cell kA 2 rfl
              clear bc0 bc1 bc2
              have bc0 := BlkV.cell kB 0 rfl
              have bc1 := BlkV.cell kB 1 rfl
              have bc2 := BlkV.cell kB 2 rfl
              clear rc0 rz0 rc1 rz1 rc2 rz2
              have rc0 := BlkV.cell kR 0 rfl
              have rz0 := BlkV.frozen kR 0
              have rc1 := BlkV.cell kR 1 rfl
              have rz1 := BlkV.frozen kR 1
              have rc2 := BlkV.cell kR 2 rfl
              have rz2 := BlkV.frozen kR 2
              have mk8 : True := trivial)
           | (with_reducible refine (rplus_any h5 h7 (by omega) (by omega)).mono ?_
              rintro e w8 ⟨v8, rfl, h8, hf8⟩
              replace bD := bD.fwd hf8
              replace h1 := h1.fwd hf8
              replace h2 := h2.fwd hf8
              replace h3 := h3.fwd hf8
              replace ha' := ha'.fwd hf8
              replace hb' := hb'.fwd hf8
              replace h4 := h4.fwd hf8
              replace h5 := h5.fwd hf8
              replace h6 := h6.fwd hf8
              replace h7 := h7.fwd hf8
              replace kA := kA.fwd hf8
              replace kB := kB.fwd hf8
              replace kR := kR.fwd hf8
              replace hF := hF.trans hf8
              clear hf8
              rw [← HS.out, ← HZ.out] at h8
              obtain ⟨jo, jc, rfl, j1, j2, jN⟩ := WH.open h8
              clear h8
              clear ac0 ac1 ac2
              have ac0 := BlkV.cell kA 0 rfl
              have ac1 := BlkV.cell kA 1 rfl
              have ac2 := BlkV.cell kA 2 rfl
              clear bc0 bc1 bc2
              have bc0 := BlkV.cell kB 0 rfl
              have bc1 := BlkV.cell kB 1 rfl
              have bc2 := BlkV.cell kB 2 rfl
              clear rc0 rz0 rc1 rz1 rc2 rz2
              have rc0 := BlkV.cell kR 0 rfl
              have rz0 := BlkV.frozen kR 0
              have rc1 := BlkV.cell kR 1 rfl
              have rz1 := BlkV.frozen kR 1
              have rc2 := BlkV.cell kR 2 rfl
              have rz2 := BlkV.frozen kR 2
              have mk8 : True := trivial)
           | (have hfJ : Fwd w7 (w7.alloc (.cells #[.bool false, .slice none 0 0] 111)) := (Fwd.refl _).alloc _
              have hgJ : w.heap.size + 3 ≤ (w7).heap.size := (by have := hF.size; have := kA.lt; have := kB.lt; have := kR.lt; omega : w.heap.size + 3 ≤ (w7).heap.size)
              replace bD := bD.fwd hfJ
              replace h1 := h1.fwd hfJ
              replace h2 := h2.fwd hfJ
              replace h3 := h3.fwd hfJ
              replace ha' := ha'.fwd hfJ
              replace hb' := hb'.fwd hfJ
              replace h4 := h4.fwd hfJ
              replace h5 := h5.fwd hfJ
              replace h6 := h6.fwd hfJ
              replace h7 := h7.fwd hfJ
              replace kA := kA.fwd hfJ
              replace kB := kB.fwd hfJ
              replace kR := kR.fwd hfJ
              replace hF := hF.trans hfJ
              have kJ := BlkV.made (w7) 111 [.bool false, .slice none 0 0]
              clear hfJ
              with_reducible refine (rplus_any h5 h7 (by omega) (by omega)).mono ?_
              rintro e w8 ⟨v8, rfl, h8, hf8⟩
              replace bD := bD.fwd hf8
              replace h1 := h1.fwd hf8
              replace h2 := h2.fwd hf8
              replace h3 := h3.fwd hf8
              replace ha' := ha'.fwd hf8
              replace hb' := hb'.fwd hf8
              replace h4 := h4.fwd hf8
              replace h5 := h5.fwd hf8
              replace h6 := h6.fwd hf8
              replace h7 := h7.fwd hf8
              replace kA := kA.fwd hf8
              replace kB := kB.fwd hf8
              replace kR := kR.fwd hf8
              replace hF := hF.trans hf8
              replace kJ := kJ.fwd hf8
              have jc0 := BlkV.cell kJ 0 rfl
              have jc1 := BlkV.cell kJ 1 rfl
              have jz0 := BlkV.frozen kJ 0
              have jz1 := BlkV.frozen kJ 1
              clear hf8
              rw [← HS.out, ← HZ.out] at h8
              obtain ⟨jo, jc, rfl, j1, j2, jN⟩ := WH.open h8
              clear h8
              clear ac0 ac1 ac2
              have ac0 := BlkV.cell kA 0 rfl
              have ac1 := BlkV.cell kA 1 rfl
              have ac2 := BlkV.cell kA 2 rfl
              clear bc0 bc1 bc2
              have bc0 := BlkV.cell kB 0 rfl
              have bc1 := BlkV.cell kB 1 rfl
              have bc2 := BlkV.cell kB 2 rfl
              clear rc0 rz0 rc1 rz1 rc2 rz2
              have rc0 := BlkV.cell kR 0 rfl
              have rz0 := BlkV.frozen kR 0
              have rc1 := BlkV.cell kR 1 rfl
              have rz1 := BlkV.frozen kR 1
              have rc2 := BlkV.cell kR 2 rfl
              have rz2 := BlkV.frozen kR 2
              have mk8 : True := trivial))
        | (go_at_call 111
           have _ := mk6
           first
           | (have _ := kJ
              with_reducible refine (rtimes_any h6 h2 (by omega) (by omega)).mono ?_
              rintro e w7 ⟨v7, rfl, h7, hf7⟩
              replace bD := bD.fwd hf7
              replace h1 := h1.fwd hf7
              replace h2 := h2.fwd hf7
              replace h3 := h3.fwd hf7
              replace ha' := ha'.fwd hf7
              replace hb' := hb'.fwd hf7
              replace h4 := h4.fwd hf7
              replace h5 := h5.fwd hf7
              replace h6 := h6.fwd hf7
              replace kA := kA.fwd hf7
              replace kB := kB.fwd hf7
              replace kR := kR.fwd hf7
              replace hF := hF.trans hf7
              replace kJ := kJ.fwd hf7
              clear jc0 jc1 jz0 jz1
              have jc0 := BlkV.cell kJ 0 rfl
              have jc1 := BlkV.cell kJ 1 rfl
              have jz0 := BlkV.frozen kJ 0
              have jz1 := BlkV.frozen kJ 1
              clear hf7
              clear ac0 ac1 ac2
              have ac0 := BlkV.cell kA 0 rfl
              have ac1 := BlkV.cell kA 1 rfl
              have ac2 := BlkV.cell kA 2 rfl
              clear bc0 bc1 bc2
              have bc0 := BlkV.cell kB 0 rfl
              have bc1 := BlkV.cell kB 1 rfl
              have bc2 := BlkV.cell kB 2 rfl
              clear rc0 rz0 rc1 rz1 rc2 rz2
              have rc0 := BlkV.cell kR 0 rfl
              have rz0 := BlkV.frozen kR 0
              have rc1 := BlkV.cell kR 1 rfl
              have rz1 := BlkV.frozen kR 1
              have rc2 := BlkV.cell kR 2 rfl
              have rz2 := BlkV.frozen kR 2
              have mk7 : True := trivial)
           | (with_reducible refine (rtimes_any h6 h2 (by omega) (by omega)).mono ?_
              rintro e w7 ⟨v7, rfl, h7, hf7⟩
              replace bD := bD.fwd hf7
              replace h1 := h1.fwd hf7
              replace h2 := h2.fwd hf7
              replace h3 := h3.fwd hf7
              replace ha' := ha'.fwd hf7
              replace hb' := hb'.fwd hf7
              replace h4 := h4.fwd hf7
              replace h5 := h5.fwd hf7
              replace h6 := h6.fwd hf7
              replace kA := kA.fwd hf7
              replace kB := kB.fwd hf7
              replace kR := kR.fwd hf7
              replace hF := hF.trans hf7
              clear hf7
              clear ac0 ac1 ac2
              have ac0 := BlkV.cell kA 0 rfl
              have ac1 := BlkV.cell kA 1 rfl
              have ac2 := BlkV.cell kA 2 rfl
              clear bc0 bc1 bc2
              have bc0 := BlkV.cell kB 0 rfl
              have bc1 := BlkV.cell kB 1 rfl
              have bc2 := BlkV.cell kB 2 rfl
              clear rc0 rz0 rc1 rz1 rc2 rz2
              have rc0 := BlkV.cell kR 0 rfl
              have rz0 := BlkV.frozen kR 0
              have rc1 := BlkV.cell kR 1 rfl
              have rz1 := BlkV.frozen kR 1
              have rc2 := BlkV.cell kR 2 rfl
              have rz2 := BlkV.frozen kR 2
              have mk7 : True := trivial)
           | (have hfJ : Fwd w6 (w6.alloc (.cells #[.bool false, .slice none 0 0] 111)) := (Fwd.refl _).alloc _
              have hgJ : w.heap.size + 3 ≤ (w6).heap.size := (by have := hF.size; have := kA.lt; have := kB.lt; have := kR.lt; omega : w.heap.size + 3 ≤ (w6).heap.size)
              replace bD := bD.fwd hfJ
              replace h1 := h1.fwd hfJ
              replace h2 := h2.fwd hfJ
              replace h3 := h3.fwd hfJ
              replace ha' := ha'.fwd hfJ
              replace hb' := hb'.fwd hfJ
              replace h4 := h4.fwd hfJ
              replace h5 := h5.fwd hfJ
              replace h6 := h6.fwd hfJ
              replace kA := kA.fwd hfJ
              replace kB := kB.fwd hfJ
              replace kR := kR.fwd hfJ
              replace hF := hF.trans hfJ
              have kJ := BlkV.made (w6) 111 [.bool false, .slice none 0 0]
              clear hfJ
              with_reducible refine (rtimes_any h6 h2 (by omega) (by omega)).mono ?_
              rintro e w7 ⟨v7, rfl, h7, hf7⟩
              replace bD := bD.fwd hf7
              replace h1 := h1.fwd hf7
              replace h2 := h2.fwd hf7
              replace h3 := h3.fwd hf7
              replace ha' := ha'.fwd hf7
              replace hb' := hb'.fwd hf7
              replace h4 := h4.fwd hf7
              replace h5 := h5.fwd hf7
              replace h6 := h6.fwd hf7
              replace kA := kA.fwd hf7
              replace kB := kB.fwd hf7
              replace kR := kR.fwd hf7
              replace hF := hF.trans hf7
              replace kJ := kJ.fwd hf7
              have jc0 := BlkV.cell kJ 0 rfl
              have jc1 := BlkV.cell kJ 1 rfl
              have jz0 := BlkV.frozen kJ 0
              have jz1 := BlkV.frozen kJ 1
              clear hf7
              clear ac0 ac1 ac2
              have ac0 := BlkV.cell kA 0 rfl
              have ac1 := BlkV.cell kA 1 rfl
              have ac2 := BlkV.cell kA 2 rfl
              clear bc0 bc1 bc2
              have bc0 := BlkV.cell kB 0 rfl
              have bc1 := BlkV.cell kB 1 rfl
              have bc2 := BlkV.cell kB 2 rfl
              clear rc0 rz0 rc1 rz1 rc2 rz2
              have rc0 := BlkV.cell kR 0 rfl
              have rz0 := BlkV.frozen kR 0
              have rc1 := BlkV.cell kR 1 rfl
              have rz1 := BlkV.frozen kR 1
              have rc2 := BlkV.cell kR 2 rfl
              have rz2 := BlkV.frozen kR 2
              have mk7 : True := trivial))
        | (go_at_call 110
           have _ := mk5
           first
           | (have _ := kJ
              with_reducible refine (above_any hb' (by omega) (by omega)).mono ?_
              rintro e w6 ⟨v6, rfl, h6, hf6⟩
              replace bD := bD.fwd hf6
              replace h1 := h1.fwd hf6
              replace h2 := h2.fwd hf6
              replace h3 := h3.fwd hf6
              replace ha' := ha'.fwd hf6
              replace hb' := hb'.fwd hf6
              replace h4 := h4.fwd hf6
              replace h5 := h5.fwd hf6
              replace kA := kA.fwd hf6
              replace kB := kB.fwd hf6
              replace kR := kR.fwd hf6
              replace hF := hF.trans hf6
              replace kJ := kJ.fwd hf6
              clear jc0 jc1 jz0 jz1
              have jc0 := BlkV.cell kJ 0 rfl
              have jc1 := BlkV.cell kJ 1 rfl
              have jz0 := BlkV.frozen kJ 0
              have jz1 := BlkV.frozen kJ 1
              clear hf6
              clear ac0 ac1 ac2
              have ac0 := BlkV.cell kA 0 rfl
              have ac1 := BlkV.cell kA 1 rfl
              have ac2 := BlkV.cell kA 2 rfl
              clear bc0 bc1 bc2
              have bc0 := BlkV.cell kB 0 rfl
              have bc1 := BlkV.cell kB 1 rfl
              have bc2 := BlkV.cell kB 2 rfl
              clear rc0 rz0 rc1 rz1 rc2 rz2
              have rc0 := BlkV.cell kR 0 rfl
              have rz0 := BlkV.frozen kR 0
              have rc1 := BlkV.cell kR 1 rfl
              have rz1 := BlkV.frozen kR 1
              have rc2 := BlkV.cell kR 2 rfl
              have rz2 := BlkV.frozen kR 2
              have mk6 : True := trivial)
           | (with_reducible refine (above_any hb' (by omega) (by omega)).mono ?_
              rintro e w6 ⟨v6, rfl, h6, hf6⟩
              replace bD := bD.fwd hf6
              replace h1 := h1.fwd hf6
              replace h2 := h2.fwd hf6
              replace h3 := h3.fwd hf6
              replace ha' := ha'.fwd hf6
              replace hb' := hb'.fwd hf6
              replace h4 := h4.fwd hf6
              replace h5 := h5.fwd hf6
              replace kA := kA.fwd hf6
              replace kB := kB.fwd hf6
              replace kR := kR.fwd hf6
              replace hF := hF.trans hf6
              clear hf6
              clear ac0 ac1 ac2
              have ac0 := BlkV.cell kA 0 rfl
              have ac1 := BlkV.cell kA 1 rfl
              have ac2 := BlkV.cell kA 2 rfl
              clear bc0 bc1 bc2
              have bc0 := BlkV.cell kB 0 rfl
              have bc1 := BlkV.cell kB 1 rfl
              have bc2 := BlkV.cell kB 2 rfl
              clear rc0 rz0 rc1 rz1 rc2 rz2
              have rc0 := BlkV.cell kR 0 rfl
              have rz0 := BlkV.frozen kR 0
              have rc1 := BlkV.cell kR 1 rfl
              have rz1 := BlkV.frozen kR 1
              have rc2 := BlkV.cell kR 2 rfl
              have rz2 := BlkV.frozen kR 2
              have mk6 : True := trivial)
           | (have hfJ : Fwd w5 (w5.alloc (.cells #[.bool false, .slice none 0 0] 111)) := (Fwd.refl _).alloc _
              have hgJ : w.heap.size + 3 ≤ (w5).heap.size := (by have := hF.size; have := kA.lt; have := kB.lt; have := kR.lt; omega : w.heap.size + 3 ≤ (w5).heap.size)
              replace bD := bD.fwd hfJ
              replace h1 := h1.fwd hfJ
              replace h2 := h2.fwd hfJ
              replace h3 := h3.fwd hfJ
              replace ha' := ha'.fwd hfJ
              replace hb' := hb'.fwd hfJ
              replace h4 := h4.fwd hfJ
              replace h5 := h5.fwd hfJ
              replace kA := kA.fwd hfJ
              replace kB := kB.fwd hfJ
              replace kR := kR.fwd hfJ
              replace hF := hF.trans hfJ
              have kJ := BlkV.made (w5) 111 [.bool false, .slice none 0 0]
              clear hfJ
              with_reducible refine (above_any hb' (by omega) (by omega)).mono ?_
              rintro e w6 ⟨v6, rfl, h6, hf6⟩
              replace bD := bD.fwd hf6
              replace h1 := h1.fwd hf6
              replace h2 := h2.fwd hf6
              replace h3 := h3.fwd hf6
              replace ha' := ha'.fwd hf6
              replace hb' := hb'.fwd hf6
              replace h4 := h4.fwd hf6
              replace h5 := h5.fwd hf6
              replace kA := kA.fwd hf6
              replace kB := kB.fwd hf6
              replace kR := kR.fwd hf6
              replace hF := hF.trans hf6
              replace kJ := kJ.fwd hf6
              have jc0 := BlkV.cell kJ 0 rfl
              have jc1 := BlkV.cell kJ 1 rfl
              have jz0 := BlkV.frozen kJ 0
              have jz1 := BlkV.frozen kJ 1
              clear hf6
              clear ac0 ac1 ac2
              have ac0 := BlkV.cell kA 0 rfl
              have ac1 := BlkV.cell kA 1 rfl
              have ac2 := BlkV.cell kA 2 rfl
              clear bc0 bc1 bc2
              have bc0 := BlkV.cell kB 0 rfl
              have bc1 := BlkV.cell kB 1 rfl
              have bc2 := BlkV.cell kB 2 rfl
              clear rc0 rz0 rc1 rz1 rc2 rz2
              have rc0 := BlkV.cell kR 0 rfl
              have rz0 := BlkV.frozen kR 0
              have rc1 := BlkV.cell kR 1 rfl
              have rz1 := BlkV.frozen kR 1
              have rc2 := BlkV.cell kR 2 rfl
              have rz2 := BlkV.frozen kR 2
              have mk6 : True := trivial))
        | (go_at_call 111
           have _ := mk4
           first
           | (have _ := kJ
              with_reducible refine (rtimes_any h4 h3 (by omega) (by omega)).mono ?_
              rintro e w5 ⟨v5, rfl, h5, hf5⟩
              replace bD := bD.fwd hf5
              replace h1 := h1.fwd hf5
              replace h2 := h2.fwd hf5
              replace h3 := h3.fwd hf5
              replace ha' := ha'.fwd hf5
              replace hb' := hb'.fwd hf5
              replace h4 := h4.fwd hf5
              replace kA := kA.fwd hf5
              replace kB := kB.fwd hf5
              replace kR := kR.fwd hf5
              replace hF := hF.trans hf5
              replace kJ := kJ.fwd hf5
              clear jc0 jc1 jz0 jz1
              have jc0 := BlkV.cell kJ 0 rfl
              have jc1 := BlkV.cell kJ 1 rfl
              have jz0 := BlkV.frozen kJ 0
              have jz1 := BlkV.frozen kJ 1
              clear hf5
              clear ac0 ac1 ac2
              have ac0 := BlkV.cell kA 0 rfl
              have ac1 := BlkV.cell kA 1 rfl
              have ac2 := BlkV.cell kA 2 rfl
              clear bc0 bc1 bc2
              have bc0 := BlkV.cell kB 0 rfl
              have bc1 := BlkV.cell kB 1 rfl
              have bc2 := BlkV.cell kB 2 rfl
              clear rc0 rz0 rc1 rz1 rc2 rz2
              have rc0 := BlkV.cell kR 0 rfl
              have rz0 := BlkV.frozen kR 0
              have rc1 := BlkV.cell kR 1 rfl
              have rz1 := BlkV.frozen kR 1
              have rc2 := BlkV.cell kR 2 rfl
              have rz2 := BlkV.frozen kR 2
              have mk5 : True := trivial)
           | (with_reducible refine (rtimes_any h4 h3 (by omega) (by omega)).mono ?_
              rintro e w5 ⟨v5, rfl, h5, hf5⟩
              replace bD := bD.fwd hf5
              replace h1 := h1.fwd hf5
              replace h2 := h2.fwd hf5
              replace h3 := h3.fwd hf5
              replace ha' := ha'.fwd hf5
              replace hb' := hb'.fwd hf5
              replace h4 := h4.fwd hf5
              replace kA := kA.fwd hf5
              replace kB := kB.fwd hf5
              replace kR := kR.fwd hf5
              replace hF := hF.trans hf5
              clear hf5
              clear ac0 ac1 ac2
              have ac0 := BlkV.cell kA 0 rfl
              have ac1 := BlkV.cell kA 1 rfl
              have ac2 := BlkV.cell kA 2 rfl
              clear bc0 bc1 bc2
              have bc0 := BlkV.cell kB 0 rfl
              have bc1 := BlkV.cell kB 1 rfl
              have bc2 := BlkV.cell kB 2 rfl
              clear rc0 rz0 rc1 rz1 rc2 rz2
              have rc0 := BlkV.cell kR 0 rfl
              have rz0 := BlkV.frozen kR 0
              have rc1 := BlkV.cell kR 1 rfl
              have rz1 := BlkV.frozen kR 1
              have rc2 := BlkV.cell kR 2 rfl
              have rz2 := BlkV.frozen kR 2
              have mk5 : True := trivial)
           | (have hfJ : Fwd w4 (w4.alloc (.cells #[.bool false, .slice none 0 0] 111)) := (Fwd.refl _).alloc _
              have hgJ : w.heap.size + 3 ≤ (w4).heap.size := (by have := hF.size; have := kA.lt; have := kB.lt; have := kR.lt; omega : w.heap.size + 3 ≤ (w4).heap.size)
              replace bD := bD.fwd hfJ
              replace h1 := h1.fwd hfJ
              replace h2 := h2.fwd hfJ
              replace h3 := h3.fwd hfJ
              replace ha' := ha'.fwd hfJ
              replace hb' := hb'.fwd hfJ
              replace h4 := h4.fwd hfJ
              replace kA := kA.fwd hfJ
              replace kB := kB.fwd hfJ
              replace kR := kR.fwd hfJ
              replace hF := hF.trans hfJ
              have kJ := BlkV.made (w4) 111 [.bool false, .slice none 0 0]
              clear hfJ
              with_reducible refine (rtimes_any h4 h3 (by omega) (by omega)).mono ?_
              rintro e w5 ⟨v5, rfl, h5, hf5⟩
              replace bD := bD.fwd hf5
              replace h1 := h1.fwd hf5
              replace h2 := h2.fwd hf5
              replace h3 := h3.fwd hf5
              replace ha' := ha'.fwd hf5
              replace hb' := hb'.fwd hf5
              replace h4 := h4.fwd hf5
              replace kA := kA.fwd hf5
              replace kB := kB.fwd hf5
              replace kR := kR.fwd hf5
              replace hF := hF.trans hf5
              replace kJ := kJ.fwd hf5
              have jc0 := BlkV.cell kJ 0 rfl
              have jc1 := BlkV.cell kJ 1 rfl
              have jz0 := BlkV.frozen kJ 0
              have jz1 := BlkV.frozen kJ 1
              clear hf5
              clear ac0 ac1 ac2
              have ac0 := BlkV.cell kA 0 rfl
              have ac1 := BlkV.cell kA 1 rfl
              have ac2 := BlkV.cell kA 2 rfl
              clear bc0 bc1 bc2
              have bc0 := BlkV.cell kB 0 rfl
              have bc1 := BlkV.cell kB 1 rfl
              have bc2 := BlkV.cell kB 2 rfl
              clear rc0 rz0 rc1 rz1 rc2 rz2
              have rc0 := BlkV.cell kR 0 rfl
              have rz0 := BlkV.frozen kR 0
              have rc1 := BlkV.cell kR 1 rfl
              have rz1 := BlkV.frozen kR 1
              have rc2 := BlkV.cell kR 2 rfl
              have rz2 := BlkV.frozen kR 2
              have mk5 : True := trivial))
        | (go_at_call 110
           first
           | (with_reducible refine (above_any ha' (by omega) (by omega)).mono ?_
              rintro e w4 ⟨v4, rfl, h4, hf4⟩
              replace bD := bD.fwd hf4
              replace h1 := h1.fwd hf4
              replace h2 := h2.fwd hf4
              replace h3 := h3.fwd hf4
              replace ha' := ha'.fwd hf4
              replace hb' := hb'.fwd hf4
              replace kA := kA.fwd hf4
              replace kB := kB.fwd hf4
              replace kR := kR.fwd hf4
              replace hF := hF.trans hf4
              clear hf4
              clear ac0 ac1 ac2
              have ac0 := BlkV.cell kA 0 rfl
              have ac1 := BlkV.cell kA 1 rfl
              have ac2 := BlkV.cell kA 2 rfl
              clear bc0 bc1 bc2
              have bc0 := BlkV.cell kB 0 rfl
              have bc1 := BlkV.cell kB 1 rfl
              have bc2 := BlkV.cell kB 2 rfl
              clear rc0 rz0 rc1 rz1 rc2 rz2
              have rc0 := BlkV.cell kR 0 rfl
              have rz0 := BlkV.frozen kR 0
              have rc1 := BlkV.cell kR 1 rfl
              have rz1 := BlkV.frozen kR 1
              have rc2 := BlkV.cell kR 2 rfl
              have rz2 := BlkV.frozen kR 2
              have mk4 : True := trivial)
           | (have hfJ : Fwd w3.drew (w3.alloc (.cells #[.bool false, .slice none 0 0] 111)).drew := ((Fwd.refl _).alloc _).undrew.drew
              have hgJ : w.heap.size + 3 ≤ (w3).heap.size := (by have := hF.size; have := kA.lt; have := kB.lt; have := kR.lt; omega : w.heap.size + 3 ≤ (w3.drew).heap.size)
              replace bD := bD.fwd hfJ
              replace h1 := h1.fwd hfJ
              replace h2 := h2.fwd hfJ
              replace h3 := h3.fwd hfJ
              replace ha' := ha'.fwd hfJ
              replace hb' := hb'.fwd hfJ
              replace kA := kA.fwd hfJ
              replace kB := kB.fwd hfJ
              replace kR := kR.fwd hfJ
              replace hF := hF.trans hfJ
              have kJ := BlkV.drew (BlkV.made (w3) 111 [.bool false, .slice none 0 0])
              clear hfJ
              with_reducible refine (above_any ha' (by omega) (by omega)).mono ?_
              rintro e w4 ⟨v4, rfl, h4, hf4⟩
              replace bD := bD.fwd hf4
              replace h1 := h1.fwd hf4
              replace h2 := h2.fwd hf4
              replace h3 := h3.fwd hf4
              replace ha' := ha'.fwd hf4
              replace hb' := hb'.fwd hf4
              replace kA := kA.fwd hf4
              replace kB := kB.fwd hf4
              replace kR := kR.fwd hf4
              replace hF := hF.trans hf4
              replace kJ := kJ.fwd hf4
              have jc0 := BlkV.cell kJ 0 rfl
              have jc1 := BlkV.cell kJ 1 rfl
              have jz0 := BlkV.frozen kJ 0
              have jz1 := BlkV.frozen kJ 1
              clear hf4
              clear ac0 ac1 ac2
              have ac0 := BlkV.cell kA 0 rfl
              have ac1 := BlkV.cell kA 1 rfl
              have ac2 := BlkV.cell kA 2 rfl
              clear bc0 bc1 bc2
              have bc0 := BlkV.cell kB 0 rfl
              have bc1 := BlkV.cell kB 1 rfl
              have bc2 := BlkV.cell kB 2 rfl
              clear rc0 rz0 rc1 rz1 rc2 rz2
              have rc0 := BlkV.cell kR 0 rfl
              have rz0 := BlkV.frozen kR 0
              have rc1 := BlkV.cell kR 1 rfl
              have rz1 := BlkV.frozen kR 1
              have rc2 := BlkV.cell kR 2 rfl
              have rz2 := BlkV.frozen kR 2
              have mk4 : True := trivial)))
    all_goals
      first
      | (have _ := kJ
         have hz := (BlkV.set kJ 0 (.bool S)).set 1 (.slice jo (nl Z) jc)
         have hon := only_of_set2 kJ (.bool S) (.slice jo (nl Z) jc)
         replace jN := jN.keepV kJ (by simp) hon
         replace bD := bD.keepV kJ (by simp) hon
         replace h1 := h1.keepV kJ (by simp) hon
         replace h2 := h2.keepV kJ (by simp) hon
         replace kA := BlkV.only kA hon (by omega)
         replace kB := BlkV.only kB hon (by omega)
         replace kR := BlkV.only kR hon (by omega)
         replace hF := hF.wrote hon (by omega)
         go_wp2_with fail
         go_meet
         exact ⟨_, _, _, rfl, by omega, hz, j1, j2, jN, bD, h1, h2, kA, kB, kR, hF⟩)
      | (have hfJ : Fwd w8 (w8.alloc (.cells #[.bool S, .slice jo (nl Z) jc] 111)) := (Fwd.refl _).alloc _
         have hgJ : w.heap.size + 3 ≤ w8.heap.size := by have := hF.size; have := kA.lt; have := kB.lt; have := kR.lt; omega
         have hz := BlkV.made w8 111 [.bool S, .slice jo (nl Z) jc]
         replace jN := jN.fwd hfJ
         replace bD := bD.fwd hfJ
         replace h1 := h1.fwd hfJ
         replace h2 := h2.fwd hfJ
         replace kA := kA.fwd hfJ
         replace kB := kB.fwd hfJ
         replace kR := kR.fwd hfJ
         replace hF := hF.trans hfJ
         go_wp2_with fail
         go_meet
         exact ⟨_, _, _, rfl, by omega, hz, j1, j2, jN, bD, h1, h2, kA, kB, kR, hF⟩)
  case rest =>
  clear hF bD h1 h2 h3 ha' hb' kA kB kR ac0 ac1 ac2 bc0 bc1 bc2 rc0 rz0 rc1 rz1 rc2 rz2
  obtain ⟨gJ, jo, jc, rfl, hgJ, kJ, j1, j2, jN, bD, h1, h2, kA, kB, kR, hF⟩ := hcut
  have ac0 := BlkV.cell kA 0 rfl
  have ac1 := BlkV.cell kA 1 rfl
  have ac2 := BlkV.cell kA 2 rfl
  have bc0 := BlkV.cell kB 0 rfl
  have bc1 := BlkV.cell kB 1 rfl
  have bc2 := BlkV.cell kB 2 rfl
  have rc0 := BlkV.cell kR 0 rfl
  have rz0 := BlkV.frozen kR 0
  have rc1 := BlkV.cell kR 1 rfl
  have rz1 := BlkV.frozen kR 1
  have rc2 := BlkV.cell kR 2 rfl
  have rz2 := BlkV.frozen kR 2
  have jc0 := BlkV.cell kJ 0 rfl
  have jc1 := BlkV.cell kJ 1 rfl
  go_wp2_with fail
  refine (gcd_any jN h1 (by omega) (by omega)).mono ?_
  rintro e w9 ⟨v9, rfl, h9, hf9⟩
  replace jN := jN.fwd hf9
  replace bD := bD.fwd hf9
  replace h1 := h1.fwd hf9
  replace h2 := h2.fwd hf9
  replace kA := kA.fwd hf9
  replace kB := kB.fwd hf9
  replace kR := kR.fwd hf9
  replace kJ := kJ.fwd hf9
  replace hF := hF.trans hf9
  clear hf9
  clear ac0 ac1 ac2
  have ac0 := BlkV.cell kA 0 rfl
  have ac1 := BlkV.cell kA 1 rfl
  have ac2 := BlkV.cell kA 2 rfl
  clear bc0 bc1 bc2
  have bc0 := BlkV.cell kB 0 rfl
  have bc1 := BlkV.cell kB 1 rfl
  have bc2 := BlkV.cell kB 2 rfl
  clear rc0 rz0 rc1 rz1 rc2 rz2
  have rc0 := BlkV.cell kR 0 rfl
  have rz0 := BlkV.frozen kR 0
  have rc1 := BlkV.cell kR 1 rfl
  have rz1 := BlkV.frozen kR 1
  have rc2 := BlkV.cell kR 2 rfl
  have rz2 := BlkV.frozen kR 2
  clear jc0 jc1
  have jc0 := BlkV.cell kJ 0 rfl
  have jc1 := BlkV.cell kJ 1 rfl
  rw [← HL.out] at h9
  go_wp2_with fail
  replace jN := jN.drew
  replace bD := bD.drew
  replace h1 := h1.drew
  replace h2 := h2.drew
  replace h9 := h9.drew
  replace kA := kA.drew
  replace kB := kB.drew
  replace kR := kR.drew
  replace kJ := kJ.drew
  replace hF := hF.drew
  clear ac0 ac1 ac2
  have ac0 := BlkV.cell kA 0 rfl
  have ac1 := BlkV.cell kA 1 rfl
  have ac2 := BlkV.cell kA 2 rfl
  clear bc0 bc1 bc2
  have bc0 := BlkV.cell kB 0 rfl
  have bc1 := BlkV.cell kB 1 rfl
  have bc2 := BlkV.cell kB 2 rfl
  clear rc0 rz0 rc1 rz1 rc2 rz2
  have rc0 := BlkV.cell kR 0 rfl
  have rz0 := BlkV.frozen kR 0
  have rc1 := BlkV.cell kR 1 rfl
  have rz1 := BlkV.frozen kR 1
  have rc2 := BlkV.cell kR 2 rfl
  have rz2 := BlkV.frozen kR 2
  clear jc0 jc1
  have jc0 := BlkV.cell kJ 0 rfl
  have jc1 := BlkV.cell kJ 1 rfl
  go_region_held3 (fun w' => w'.cell? ⟨w.heap.size, 0, none⟩ = some (.bool sa) ∧ w'.cell? ⟨w.heap.size, 1, none⟩ = some (.slice ao (nl (ma)) ac) ∧ w'.cell? ⟨w.heap.size, 2, none⟩ = some (.slice ap (nl (da)) ae) ∧ w'.cell? ⟨w.heap.size + 1, 0, none⟩ = some (.bool sb) ∧ w'.cell? ⟨w.heap.size + 1, 1, none⟩ = some (.slice bo (nl (mb)) bc) ∧ w'.cell? ⟨w.heap.size + 1, 2, none⟩ = some (.slice bp (nl (db)) be) ∧ w'.cell? ⟨gJ, 0, none⟩ = some (.bool S) ∧ w'.cell? ⟨gJ, 1, none⟩ = some (.slice jo (nl Z) jc))
    (first | exact ⟨by with_reducible assumption, by with_reducible assumption, by with_reducible assumption, by with_reducible assumption, by with_reducible assumption, by with_reducible assumption, by with_reducible assumption, by with_reducible assumption⟩ | exact ⟨(farset (by simp; try omega) (farset (by simp; try omega) (farset (by simp; try omega) (by with_reducible assumption)))), (farset (by simp; try omega) (farset (by simp; try omega) (farset (by simp; try omega) (by with_reducible assumption)))), (farset (by simp; try omega) (farset (by simp; try omega) (farset (by simp; try omega) (by with_reducible assumption)))), (farset (by simp; try omega) (farset (by simp; try omega) (farset (by simp; try omega) (by with_reducible assumption)))), (farset (by simp; try omega) (farset (by simp; try omega) (farset (by simp; try omega) (by with_reducible assumption)))), (farset (by simp; try omega) (farset (by simp; try omega) (farset (by simp; try omega) (by with_reducible assumption)))), (farset (by simp; try omega) (farset (by simp; try omega) (farset (by simp; try omega) (by with_reducible assumption)))), (farset (by simp; try omega) (farset (by simp; try omega) (farset (by simp; try omega) (by with_reducible assumption))))⟩)
    (first
      | (go_at_call 91
         have _ := mk12
         refine (signed_raw S h10 h12 (by omega)).mono ?_
         rintro e w13 ⟨v, rfl, hv, hf13⟩
         replace jN := jN.fwd hf13
         replace bD := bD.fwd hf13
         replace h1 := h1.fwd hf13
         replace h2 := h2.fwd hf13
         replace h9 := h9.fwd hf13
         replace h10 := h10.fwd hf13
         replace h11 := h11.fwd hf13
         replace h12 := h12.fwd hf13
         replace kA := kA.fwd hf13
         replace kB := kB.fwd hf13
         replace kR := kR.fwd hf13
         replace kJ := kJ.fwd hf13
         replace hF := hF.trans hf13
         clear hf13
         have HV := hid hv
         obtain ⟨xo, xc, yo, yc, rfl, x1, x2, x3, x4, xN, xD⟩ := RW.open hv
         clear hv xN xD
         have hv := HV.out
         clear HV
         clear ac0 ac1 ac2
         have ac0 := BlkV.cell kA 0 rfl
         have ac1 := BlkV.cell kA 1 rfl
         have ac2 := BlkV.cell kA 2 rfl
         clear bc0 bc1 bc2
         have bc0 := BlkV.cell kB 0 rfl
         have bc1 := BlkV.cell kB 1 rfl
         have bc2 := BlkV.cell kB 2 rfl
         clear rc0 rz0 rc1 rz1 rc2 rz2
         have rc0 := BlkV.cell kR 0 rfl
         have rz0 := BlkV.frozen kR 0
         have rc1 := BlkV.cell kR 1 rfl
         have rz1 := BlkV.frozen kR 1
         have rc2 := BlkV.cell kR 2 rfl
         have rz2 := BlkV.frozen kR 2
         clear jc0 jc1
         have jc0 := BlkV.cell kJ 0 rfl
         have jc1 := BlkV.cell kJ 1 rfl
         have mk13 : True := trivial)
      | (go_at_call 89
         have _ := mk11
         refine (mul_any h2 h11 (by omega) (by omega)).mono ?_
         rintro e w12 ⟨v12, rfl, h12, hf12⟩
         replace jN := jN.fwd hf12
         replace bD := bD.fwd hf12
         replace h1 := h1.fwd hf12
         replace h2 := h2.fwd hf12
         replace h9 := h9.fwd hf12
         replace h10 := h10.fwd hf12
         replace h11 := h11.fwd hf12
         replace kA := kA.fwd hf12
         replace kB := kB.fwd hf12
         replace kR := kR.fwd hf12
         replace kJ := kJ.fwd hf12
         replace hF := hF.trans hf12
         clear hf12
         clear ac0 ac1 ac2
         have ac0 := BlkV.cell kA 0 rfl
         have ac1 := BlkV.cell kA 1 rfl
         have ac2 := BlkV.cell kA 2 rfl
         clear bc0 bc1 bc2
         have bc0 := BlkV.cell kB 0 rfl
         have bc1 := BlkV.cell kB 1 rfl
         have bc2 := BlkV.cell kB 2 rfl
         clear rc0 rz0 rc1 rz1 rc2 rz2
         have rc0 := BlkV.cell kR 0 rfl
         have rz0 := BlkV.frozen kR 0
         have rc1 := BlkV.cell kR 1 rfl
         have rz1 := BlkV.frozen kR 1
         have rc2 := BlkV.cell kR 2 rfl
         have rz2 := BlkV.frozen kR 2
         clear jc0 jc1
         have jc0 := BlkV.cell kJ 0 rfl
         have jc1 := BlkV.cell kJ 1 rfl
         have mk12 : True := trivial)
      | (go_at_call 90
         have _ := mk10
         refine (rover_any bD h9 (by omega) (by omega) L0.out).mono ?_
         rintro e w11 ⟨v11, rfl, h11, hf11⟩
         replace jN := jN.fwd hf11
         replace bD := bD.fwd hf11
         replace h1 := h1.fwd hf11
         replace h2 := h2.fwd hf11
         replace h9 := h9.fwd hf11
         replace h10 := h10.fwd hf11
         replace kA := kA.fwd hf11
         replace kB := kB.fwd hf11
         replace kR := kR.fwd hf11
         replace kJ := kJ.fwd hf11
         replace hF := hF.trans hf11
         clear hf11
         clear ac0 ac1 ac2
         have ac0 := BlkV.cell kA 0 rfl
         have ac1 := BlkV.cell kA 1 rfl
         have ac2 := BlkV.cell kA 2 rfl
         clear bc0 bc1 bc2
         have bc0 := BlkV.cell kB 0 rfl
         have bc1 := BlkV.cell kB 1 rfl
         have bc2 := BlkV.cell kB 2 rfl
         clear rc0 rz0 rc1 rz1 rc2 rz2
         have rc0 := BlkV.cell kR 0 rfl
         have rz0 := BlkV.frozen kR 0
         have rc1 := BlkV.cell kR 1 rfl
         have rz1 := BlkV.frozen kR 1
         have rc2 := BlkV.cell kR 2 rfl
         have rz2 := BlkV.frozen kR 2
         clear jc0 jc1
         have jc0 := BlkV.cell kJ 0 rfl
         have jc1 := BlkV.cell kJ 1 rfl
         have mk11 : True := trivial)
      | (go_at_call 90
         refine (rover_any jN h9 (by omega) (by omega) L0.out).mono ?_
         rintro e w10 ⟨v10, rfl, h10, hf10⟩
         replace jN := jN.fwd hf10
         replace bD := bD.fwd hf10
         replace h1 := h1.fwd hf10
         replace h2 := h2.fwd hf10
         replace h9 := h9.fwd hf10
         replace kA := kA.fwd hf10
         replace kB := kB.fwd hf10
         replace kR := kR.fwd hf10
         replace kJ := kJ.fwd hf10
         replace hF := hF.trans hf10
         clear hf10
         clear ac0 ac1 ac2
         have ac0 := BlkV.cell kA 0 rfl
         have ac1 := BlkV.cell kA 1 rfl
         have ac2 := BlkV.cell kA 2 rfl
         clear bc0 bc1 bc2
         have bc0 := BlkV.cell kB 0 rfl
         have bc1 := BlkV.cell kB 1 rfl
         have bc2 := BlkV.cell kB 2 rfl
         clear rc0 rz0 rc1 rz1 rc2 rz2
         have rc0 := BlkV.cell kR 0 rfl
         have rz0 := BlkV.frozen kR 0
         have rc1 := BlkV.cell kR 1 rfl
         have rz1 := BlkV.frozen kR 1
         have rc2 := BlkV.cell kR 2 rfl
         have rz2 := BlkV.frozen kR 2
         clear jc0 jc1
         have jc0 := BlkV.cell kJ 0 rfl
         have jc1 := BlkV.cell kJ 1 rfl
         have mk10 : True := trivial))
  clear jN bD h1 h2 h9 h10 h11 h12
  generalize hsq : (S && !(Z / L == 0)) = sq at hv ⊢
  have HSQ := hid hsq
  clear hsq
  generalize hn : Z / L = N at hv ⊢
  generalize hd : rA * (db / L) = D at hv ⊢
  have HN := hid hn
  have HD := hid hd
  clear hn hd
  go_wp2_with (with_reducible refine stop_here ?_)
  refine ⟨?_⟩
  have hz : BlkV (((w13.setCell ⟨w.heap.size + 1 + 1, 0, none⟩ (.bool sq)).setCell ⟨w.heap.size + 1 + 1, 1, none⟩ (.slice xo (nl N) xc)).setCell ⟨w.heap.size + 1 + 1, 2, none⟩ (.slice yo (nl D) yc)) (w.heap.size + 1 + 1) 34 [.bool sq, .slice xo (nl N) xc, .slice yo (nl D) yc] := ((BlkV.set kR 0 (.bool sq)).set 1 (.slice xo (nl N) xc)).set 2 (.slice yo (nl D) yc)
  have hon : Only (w.heap.size + 1 + 1) w13 (((w13.setCell ⟨w.heap.size + 1 + 1, 0, none⟩ (.bool sq)).setCell ⟨w.heap.size + 1 + 1, 1, none⟩ (.slice xo (nl N) xc)).setCell ⟨w.heap.size + 1 + 1, 2, none⟩ (.slice yo (nl D) yc)) := ((Only.set (w.heap.size + 1 + 1) w13 0 (.bool sq)).setv 1 (.slice xo (nl N) xc)).setv 2 (.slice yo (nl D) yc)
  replace hv := hv.keepV kR (by simp) hon
  replace kA := BlkV.only kA hon (by omega)
  replace kB := BlkV.only kB hon (by omega)
  replace kJ := BlkV.only kJ hon (by omega)
  replace hF := hF.wrote hon (by omega)
  clear kR
  have kR := hz
  clear hz hon
  generalize (((w13.setCell ⟨w.heap.size + 1 + 1, 0, none⟩ (.bool sq)).setCell ⟨w.heap.size + 1 + 1, 1, none⟩ (.slice xo (nl N) xc)).setCell ⟨w.heap.size + 1 + 1, 2, none⟩ (.slice yo (nl D) yc)) = w14 at hv kA kB kR kJ hF ⊢
  clear ac0 ac1 ac2
  have ac0 := BlkV.cell kA 0 rfl
  have ac1 := BlkV.cell kA 1 rfl
  have ac2 := BlkV.cell kA 2 rfl
  clear bc0 bc1 bc2
  have bc0 := BlkV.cell kB 0 rfl
  have bc1 := BlkV.cell kB 1 rfl
  have bc2 := BlkV.cell kB 2 rfl
  clear rc0 rz0 rc1 rz1 rc2 rz2
  have rc0 := BlkV.cell kR 0 rfl
  have rz0 := BlkV.frozen kR 0
  have rc1 := BlkV.cell kR 1 rfl
  have rz1 := BlkV.frozen kR 1
  have rc2 := BlkV.cell kR 2 rfl
  have rz2 := BlkV.frozen kR 2
  clear jc0 jc1
  have jc0 := BlkV.cell kJ 0 rfl
  have jc1 := BlkV.cell kJ 1 rfl
  refine bodyPost_ret (by simp [results, Tryz.results93, go_sem, rc0, rc1, rc2]; try rfl) rfl ?_
  refine ⟨_, rfl, ?_, hF⟩
  rw [HSQ.out, HN.out, HD.out]
  exact hv

end Go.Proofs.YtcccejhkblnonaaGreat
