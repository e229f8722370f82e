/- RatField: numbers are added and multiplied as in a field; what was taken away, divided by, is given back: the law's walk. -/
import Derived.Test.YtjkoiocemolcbaaDoorXP13
import Derived.Test.YtjkoiocemolcbaaDoorXU1
import Derived.Test.YtjkoiocemolcbaaDoorXV1
import Derived.Test.YtjkoiocemolcbaaDoorXP8
import Derived.Test.YtjkoiocemolcbaaDoorXP10
import Derived.Test.YtjkoiocemolcbaaDoorXP12
namespace Go.Proofs.YtjkoiocemolcbaaDoor
open Go.RowKit
set_option linter.unusedVariables false
set_option linter.unusedSimpArgs false

set_option maxHeartbeats 40000000 in
set_option maxRecDepth 20000 in
theorem ratField_walk {w : World} {a : Value} {sa : Bool} {xa ya : List Nat} {b : Value} {sb : Bool} {xb yb : List Nat} {c : Value} {sc : Bool} {xc yc : List Nat} (ha : RawA w a sa xa ya) (hb : RawA w b sb xb yb) (hc : RawA w c sc xc yc) :
    Calls Tryd.prog 6 #[a, b, c] w fun e w' => e = .returned (.bool true) ∧ Below w.heap.size w w' := by
  obtain ⟨vNa, vDa, rfl, aN, aD⟩ := ha
  obtain ⟨vNb, vDb, rfl, bN, bD⟩ := hb
  obtain ⟨vNc, vDc, rfl, cN, cD⟩ := hc
  have kA : BlkV (((w.alloc (.cells #[.bool sa, vNa, vDa] 24)).alloc (.cells #[.bool sb, vNb, vDb] 24)).alloc (.cells #[.bool sc, vNc, vDc] 24)) (w.heap.size) 24 [.bool sa, vNa, vDa] := ((BlkV.made' w (w.heap.size) (by simp) 24 [.bool sa, vNa, vDa]).alloc _).alloc _
  have kB : BlkV (((w.alloc (.cells #[.bool sa, vNa, vDa] 24)).alloc (.cells #[.bool sb, vNb, vDb] 24)).alloc (.cells #[.bool sc, vNc, vDc] 24)) (w.heap.size + 1) 24 [.bool sb, vNb, vDb] := (BlkV.made' (w.alloc (.cells #[.bool sa, vNa, vDa] 24)) (w.heap.size + 1) (by simp) 24 [.bool sb, vNb, vDb]).alloc _
  have kC : BlkV (((w.alloc (.cells #[.bool sa, vNa, vDa] 24)).alloc (.cells #[.bool sb, vNb, vDb] 24)).alloc (.cells #[.bool sc, vNc, vDc] 24)) (w.heap.size + 1 + 1) 24 [.bool sc, vNc, vDc] := BlkV.made' ((w.alloc (.cells #[.bool sa, vNa, vDa] 24)).alloc (.cells #[.bool sb, vNb, vDb] 24)) (w.heap.size + 1 + 1) (by simp) 24 [.bool sc, vNc, vDc]
  have hF : Fwd w (((w.alloc (.cells #[.bool sa, vNa, vDa] 24)).alloc (.cells #[.bool sb, vNb, vDb] 24)).alloc (.cells #[.bool sc, vNc, vDc] 24)) := (((Fwd.refl w).alloc _).alloc _).alloc _
  replace aN := aN.fwd hF
  replace aD := aD.fwd hF
  replace bN := bN.fwd hF
  replace bD := bD.fwd hF
  replace cN := cN.fwd hF
  replace cD := cD.fwd hF
  go_enter Tryd.func6, Tryd.ntmps6
  have ac0 := BlkV.cell kA 0 rfl
  have ac1 := BlkV.cell kA 1 rfl
  have ac2 := BlkV.cell kA 2 rfl
  have bc0 := BlkV.cell kB 0 rfl
  have bc1 := BlkV.cell kB 1 rfl
  have bc2 := BlkV.cell kB 2 rfl
  have cc0 := BlkV.cell kC 0 rfl
  have cc1 := BlkV.cell kC 1 rfl
  have cc2 := BlkV.cell kC 2 rfl
  go_wp2_with fail
  refine (known2_any _).mono ?_
  rintro e w1 ⟨rfl, hf1⟩
  replace aN := aN.fwd hf1
  replace aD := aD.fwd hf1
  replace bN := bN.fwd hf1
  replace bD := bD.fwd hf1
  replace cN := cN.fwd hf1
  replace cD := cD.fwd hf1
  replace kA := kA.fwd hf1
  replace kB := kB.fwd hf1
  replace kC := kC.fwd hf1
  replace hF := hF.trans hf1
  clear hf1
  clear ac0 ac1 ac2
  have ac0 := BlkV.cell kA 0 rfl
  have ac1 := BlkV.cell kA 1 rfl
  have ac2 := BlkV.cell kA 2 rfl
  clear bc0 bc1 bc2
  have bc0 := BlkV.cell kB 0 rfl
  have bc1 := BlkV.cell kB 1 rfl
  have bc2 := BlkV.cell kB 2 rfl
  clear cc0 cc1 cc2
  have cc0 := BlkV.cell kC 0 rfl
  have cc1 := BlkV.cell kC 1 rfl
  have cc2 := BlkV.cell kC 2 rfl
  have raa : RawA w1 (.agg #[.bool sa, vNa, vDa]) sa xa ya := ⟨_, _, rfl, aN, aD⟩
  have bqX := nr_rawQ sa aN.ok aD.ok
  obtain ⟨qX, hqX⟩ : ∃ q, q = rawQ sa xa ya := ⟨_, rfl⟩
  rw [← hqX] at bqX
  have HQX := hid hqX
  clear hqX
  have rab : RawA w1 (.agg #[.bool sb, vNb, vDb]) sb xb yb := ⟨_, _, rfl, bN, bD⟩
  have bqY := nr_rawQ sb bN.ok bD.ok
  obtain ⟨qY, hqY⟩ : ∃ q, q = rawQ sb xb yb := ⟨_, rfl⟩
  rw [← hqY] at bqY
  have HQY := hid hqY
  clear hqY
  have rac : RawA w1 (.agg #[.bool sc, vNc, vDc]) sc xc yc := ⟨_, _, rfl, cN, cD⟩
  have bqZ := nr_rawQ sc cN.ok cD.ok
  obtain ⟨qZ, hqZ⟩ : ∃ q, q = rawQ sc xc yc := ⟨_, rfl⟩
  rw [← hqZ] at bqZ
  have HQZ := hid hqZ
  clear hqZ
  go_upto_region 3 with fail
  refine wp_region_inv (I := (fun a0 listed a' wq => ∃ (b0 b1 b2 b3 b4 b5 b6 b7 b8 b9 b10 b11 : Bool) (s14 s15 s16 s17 s18 s19 s7 s8 s9 : Value), listed = #[b0, b1, b2, b3, b4, b5, b6, b7, b8, b9, b10, b11] ∧ a' = (Act.put (Act.put (Act.put (Act.put (Act.put (Act.put (Act.put (Act.put (Act.put a0 (some 14) s14) (some 15) s15) (some 16) s16) (some 17) s17) (some 18) s18) (some 19) s19) (some 7) s7) (some 8) s8) (some 9) s9) ∧ Fwd w1 wq ∧ (b0 = true → s14 = .agg #[.bool sa, vNa, vDa]) ∧ (b2 = true → s16 = .agg #[.bool sb, vNb, vDb]) ∧ (b4 = true → s18 = .agg #[.bool sc, vNc, vDc]) ∧ (b1 = true → RV wq s15 qX) ∧ (b3 = true → RV wq s17 qY) ∧ (b5 = true → RV wq s19 qZ) ∧ VarS wq w1.heap.size 24 [.bool false, .slice none 0 0, .slice none 0 0] b6 b9 s7 s15 ∧ VarS wq w1.heap.size 24 [.bool false, .slice none 0 0, .slice none 0 0] b7 b10 s8 s17 ∧ VarS wq w1.heap.size 24 [.bool false, .slice none 0 0, .slice none 0 0] b8 b11 s9 s19 ∧ (b9 = true → b6 = true ∧ b1 = true) ∧ (b10 = true → b7 = true ∧ b3 = true) ∧ (b11 = true → b8 = true ∧ b5 = true) ∧ VarD b6 b7 s7 s8 ∧ VarD b6 b8 s7 s9 ∧ VarD b7 b8 s8 s9)) (by kernel_rfl) (by kernel_rfl) ?h0 ?hsz ?hstep ?hdone
  case h0 =>
    exact ⟨false, false, false, false, false, false, false, false, false, false, false, false, undef, undef, undef, undef, undef, undef, undef, undef, undef, rfl, rfl, ((Fwd.refl _).drew), (fun h => by cases h), (fun h => by cases h), (fun h => by cases h), (fun h => by cases h), (fun h => by cases h), (fun h => by cases h), VarS.none _ _ _ _ _ _ _, VarS.none _ _ _ _ _ _ _, VarS.none _ _ _ _ _ _ _, (fun h => by cases h), (fun h => by cases h), (fun h => by cases h), VarD.left _ _ _, VarD.left _ _ _, VarD.left _ _ _⟩
  case hsz =>
    rintro listed a' wq ⟨b0, b1, b2, b3, b4, b5, b6, b7, b8, b9, b10, b11, s14, s15, s16, s17, s18, s19, s7, s8, s9, rfl, -⟩
    rfl
  case hstep =>
    rintro listed a' wq i ⟨b0, b1, b2, b3, b4, b5, b6, b7, b8, b9, b10, b11, s14, s15, s16, s17, s18, s19, s7, s8, s9, rfl, rfl, hFq, hl0, hl2, hl4, hc1, hc3, hc5, hv6, hv7, hv8, hs9, hs10, hs11, hd6_7, hd6_8, hd7_8⟩ hi
    obtain ⟨hun, o, ho, haf⟩ := mem_ready.1 hi
    have hlt : i < 12 := (Array.getElem?_eq_some_iff.1 ho).1
    clear hi
    simp only [Act.put, List.setIfInBounds_toArray, List.set_cons_zero, List.set_cons_succ]
    have hcs : i = 0 ∨ i = 1 ∨ i = 2 ∨ i = 3 ∨ i = 4 ∨ i = 5 ∨ i = 6 ∨ i = 7 ∨ i = 8 ∨ i = 9 ∨ i = 10 ∨ i = 11 := by omega
    clear hlt
    rcases hcs with rfl | rfl | rfl | rfl | rfl | rfl | rfl | rfl | rfl | rfl | rfl | rfl
    · simp only [List.getElem?_toArray, List.getElem?_cons_succ, List.getElem?_cons_zero, Option.some.injEq] at ho
      subst ho
      obtain rfl : b0 = false := by simpa using hun
      clear hun
      clear haf
      have q0 := hFq.cell ac0
      have q1 := hFq.cell ac1
      have q2 := hFq.cell ac2
      refine wpOp_step rfl (fun K' hK => ?_)
      have HK := hid hK
      clear hK
      go_simp
      refine HK.out _ _ ?_
      exact ⟨true, b1, b2, b3, b4, b5, b6, b7, b8, b9, b10, b11, _, s15, s16, s17, s18, s19, s7, s8, s9, rfl, rfl, hFq, (fun _ => rfl), hl2, hl4, hc1, hc3, hc5, hv6, hv7, hv8, hs9, hs10, hs11, hd6_7, hd6_8, hd7_8⟩
    · simp only [List.getElem?_toArray, List.getElem?_cons_succ, List.getElem?_cons_zero, Option.some.injEq] at ho
      subst ho
      obtain rfl : b1 = false := by simpa using hun
      clear hun
      obtain rfl : b0 = true := by simpa [Region.binds] using haf ⟨0, .data⟩ (by simp) (by rfl)
      clear haf
      obtain rfl : b9 = false := by cases hb : b9; rfl; exact absurd (hs9 hb).2 (by simp)
      have raa' := raa.fwd hFq
      obtain rfl := hl0 rfl
      refine wpOp_step rfl (fun K' hK => ?_)
      have HK := hid hK
      clear hK
      go_simp
      refine (make2law_any raa').mono ?_
      rintro e wz ⟨v, rfl, hv, hfz⟩
      go_wp2_with fail
      refine HK.out _ _ ?_
      exact ⟨true, true, b2, b3, b4, b5, b6, b7, b8, false, b10, b11, _, _, s16, s17, s18, s19, s7, s8, s9, rfl, rfl, (hFq.trans hfz), (fun _ => rfl), hl2, hl4, (fun _ => (by rw [HQX.out]; exact hv)), (fun h => (hc3 h).fwd hfz), (fun h => (hc5 h).fwd hfz), (hv6.unstored.fwd hfz), (hv7.fwd hfz), (hv8.fwd hfz), (fun h => by cases h), hs10, hs11, hd6_7, hd6_8, hd7_8⟩
    · simp only [List.getElem?_toArray, List.getElem?_cons_succ, List.getElem?_cons_zero, Option.some.injEq] at ho
      subst ho
      obtain rfl : b2 = false := by simpa using hun
      clear hun
      clear haf
      have q0 := hFq.cell bc0
      have q1 := hFq.cell bc1
      have q2 := hFq.cell bc2
      refine wpOp_step rfl (fun K' hK => ?_)
      have HK := hid hK
      clear hK
      go_simp
      refine HK.out _ _ ?_
      exact ⟨b0, b1, true, b3, b4, b5, b6, b7, b8, b9, b10, b11, s14, s15, _, s17, s18, s19, s7, s8, s9, rfl, rfl, hFq, hl0, (fun _ => rfl), hl4, hc1, hc3, hc5, hv6, hv7, hv8, hs9, hs10, hs11, hd6_7, hd6_8, hd7_8⟩
    · simp only [List.getElem?_toArray, List.getElem?_cons_succ, List.getElem?_cons_zero, Option.some.injEq] at ho
      subst ho
      obtain rfl : b3 = false := by simpa using hun
      clear hun
      obtain rfl : b2 = true := by simpa [Region.binds] using haf ⟨2, .data⟩ (by simp) (by rfl)
      clear haf
      obtain rfl : b10 = false := by cases hb : b10; rfl; exact absurd (hs10 hb).2 (by simp)
      have rab' := rab.fwd hFq
      obtain rfl := hl2 rfl
      refine wpOp_step rfl (fun K' hK => ?_)
      have HK := hid hK
      clear hK
      go_simp
      refine (make2law_any rab').mono ?_
      rintro e wz ⟨v, rfl, hv, hfz⟩
      go_wp2_with fail
      refine HK.out _ _ ?_
      exact ⟨b0, b1, true, true, b4, b5, b6, b7, b8, b9, false, b11, s14, s15, _, _, s18, s19, s7, s8, s9, rfl, rfl, (hFq.trans hfz), hl0, (fun _ => rfl), hl4, (fun h => (hc1 h).fwd hfz), (fun _ => (by rw [HQY.out]; exact hv)), (fun h => (hc5 h).fwd hfz), (hv6.fwd hfz), (hv7.unstored.fwd hfz), (hv8.fwd hfz), hs9, (fun h => by cases h), hs11, hd6_7, hd6_8, hd7_8⟩
    · simp only [List.getElem?_toArray, List.getElem?_cons_succ, List.getElem?_cons_zero, Option.some.injEq] at ho
      subst ho
      obtain rfl : b4 = false := by simpa using hun
      clear hun
      clear haf
      have q0 := hFq.cell cc0
      have q1 := hFq.cell cc1
      have q2 := hFq.cell cc2
      refine wpOp_step rfl (fun K' hK => ?_)
      have HK := hid hK
      clear hK
      go_simp
      refine HK.out _ _ ?_
      exact ⟨b0, b1, b2, b3, true, b5, b6, b7, b8, b9, b10, b11, s14, s15, s16, s17, _, s19, s7, s8, s9, rfl, rfl, hFq, hl0, hl2, (fun _ => rfl), hc1, hc3, hc5, hv6, hv7, hv8, hs9, hs10, hs11, hd6_7, hd6_8, hd7_8⟩
    · simp only [List.getElem?_toArray, List.getElem?_cons_succ, List.getElem?_cons_zero, Option.some.injEq] at ho
      subst ho
      obtain rfl : b5 = false := by simpa using hun
      clear hun
      obtain rfl : b4 = true := by simpa [Region.binds] using haf ⟨4, .data⟩ (by simp) (by rfl)
      clear haf
      obtain rfl : b11 = false := by cases hb : b11; rfl; exact absurd (hs11 hb).2 (by simp)
      have rac' := rac.fwd hFq
      obtain rfl := hl4 rfl
      refine wpOp_step rfl (fun K' hK => ?_)
      have HK := hid hK
      clear hK
      go_simp
      refine (make2law_any rac').mono ?_
      rintro e wz ⟨v, rfl, hv, hfz⟩
      go_wp2_with fail
      refine HK.out _ _ ?_
      exact ⟨b0, b1, b2, b3, true, true, b6, b7, b8, b9, b10, false, s14, s15, s16, s17, _, _, s7, s8, s9, rfl, rfl, (hFq.trans hfz), hl0, hl2, (fun _ => rfl), (fun h => (hc1 h).fwd hfz), (fun h => (hc3 h).fwd hfz), (fun _ => (by rw [HQZ.out]; exact hv)), (hv6.fwd hfz), (hv7.fwd hfz), (hv8.unstored.fwd hfz), hs9, hs10, (fun h => by cases h), hd6_7, hd6_8, hd7_8⟩
    · simp only [List.getElem?_toArray, List.getElem?_cons_succ, List.getElem?_cons_zero, Option.some.injEq] at ho
      subst ho
      obtain rfl : b6 = false := by simpa using hun
      clear hun
      clear haf
      obtain rfl : b9 = false := by cases hb : b9; rfl; exact absurd (hs9 hb).1 (by simp)
      have hfz : Fwd wq (wq.alloc (.cells #[.bool false, .slice none 0 0, .slice none 0 0] 24)) := (Fwd.refl wq).alloc _
      refine wpOp_step rfl (fun K' hK => ?_)
      have HK := hid hK
      clear hK
      go_simp
      refine HK.out _ _ ?_
      exact ⟨b0, b1, b2, b3, b4, b5, true, b7, b8, false, b10, b11, s14, s15, s16, s17, s18, s19, _, s8, s9, rfl, rfl, (hFq.trans hfz), hl0, hl2, hl4, (fun h => (hc1 h).fwd hfz), (fun h => (hc3 h).fwd hfz), (fun h => (hc5 h).fwd hfz), (fun _ => ⟨wq.heap.size, rfl, hFq.size, fun _ => BlkV.made wq 24 [.bool false, .slice none 0 0, .slice none 0 0], (fun h => by cases h)⟩), (hv7.fwd hfz), (hv8.fwd hfz), (fun h => by cases h), hs10, hs11, (fun _ h e => hv7.lt h e.symm), (fun _ h e => hv8.lt h e.symm), hd7_8⟩
    · simp only [List.getElem?_toArray, List.getElem?_cons_succ, List.getElem?_cons_zero, Option.some.injEq] at ho
      subst ho
      obtain rfl : b7 = false := by simpa using hun
      clear hun
      clear haf
      obtain rfl : b10 = false := by cases hb : b10; rfl; exact absurd (hs10 hb).1 (by simp)
      have hfz : Fwd wq (wq.alloc (.cells #[.bool false, .slice none 0 0, .slice none 0 0] 24)) := (Fwd.refl wq).alloc _
      refine wpOp_step rfl (fun K' hK => ?_)
      have HK := hid hK
      clear hK
      go_simp
      refine HK.out _ _ ?_
      exact ⟨b0, b1, b2, b3, b4, b5, b6, true, b8, b9, false, b11, s14, s15, s16, s17, s18, s19, s7, _, s9, rfl, rfl, (hFq.trans hfz), hl0, hl2, hl4, (fun h => (hc1 h).fwd hfz), (fun h => (hc3 h).fwd hfz), (fun h => (hc5 h).fwd hfz), (hv6.fwd hfz), (fun _ => ⟨wq.heap.size, rfl, hFq.size, fun _ => BlkV.made wq 24 [.bool false, .slice none 0 0, .slice none 0 0], (fun h => by cases h)⟩), (hv8.fwd hfz), hs9, (fun h => by cases h), hs11, (fun h _ e => hv6.lt h e), hd6_8, (fun _ h e => hv8.lt h e.symm)⟩
    · simp only [List.getElem?_toArray, List.getElem?_cons_succ, List.getElem?_cons_zero, Option.some.injEq] at ho
      subst ho
      obtain rfl : b8 = false := by simpa using hun
      clear hun
      clear haf
      obtain rfl : b11 = false := by cases hb : b11; rfl; exact absurd (hs11 hb).1 (by simp)
      have hfz : Fwd wq (wq.alloc (.cells #[.bool false, .slice none 0 0, .slice none 0 0] 24)) := (Fwd.refl wq).alloc _
      refine wpOp_step rfl (fun K' hK => ?_)
      have HK := hid hK
      clear hK
      go_simp
      refine HK.out _ _ ?_
      exact ⟨b0, b1, b2, b3, b4, b5, b6, b7, true, b9, b10, false, s14, s15, s16, s17, s18, s19, s7, s8, _, rfl, rfl, (hFq.trans hfz), hl0, hl2, hl4, (fun h => (hc1 h).fwd hfz), (fun h => (hc3 h).fwd hfz), (fun h => (hc5 h).fwd hfz), (hv6.fwd hfz), (hv7.fwd hfz), (fun _ => ⟨wq.heap.size, rfl, hFq.size, fun _ => BlkV.made wq 24 [.bool false, .slice none 0 0, .slice none 0 0], (fun h => by cases h)⟩), hs9, hs10, (fun h => by cases h), hd6_7, (fun h _ e => hv6.lt h e), (fun h _ e => hv7.lt h e)⟩
    · simp only [List.getElem?_toArray, List.getElem?_cons_succ, List.getElem?_cons_zero, Option.some.injEq] at ho
      subst ho
      obtain rfl : b9 = false := by simpa using hun
      clear hun
      obtain rfl : b1 = true := by simpa [Region.binds] using haf ⟨1, .data⟩ (by simp) (by rfl)
      obtain rfl : b6 = true := by simpa [Region.binds] using haf ⟨6, .data⟩ (by simp) (by rfl)
      clear haf
      obtain ⟨g, rfl, hge, hz, -⟩ := hv6 rfl
      have kz := hz rfl
      have hC := hc1 rfl
      obtain ⟨po, pc, qo, qc, rfl, p1, p2, p3, p4, -, -⟩ := RW.open hC.rw'
      have z0 := BlkV.cell kz 0 rfl
      have zz0 := BlkV.frozen kz 0
      have z1 := BlkV.cell kz 1 rfl
      have zz1 := BlkV.frozen kz 1
      have z2 := BlkV.cell kz 2 rfl
      have zz2 := BlkV.frozen kz 2
      have hon := only_of_set3 kz (.bool (negQ qX)) (.slice po (nl qX.num.natAbs) pc) (.slice qo (nl qX.den) qc)
      have hset := ((BlkV.set kz 0 (.bool (negQ qX))).set 1 (.slice po (nl qX.num.natAbs) pc)).set 2 (.slice qo (nl qX.den) qc)
      refine wpOp_step rfl (fun K' hK => ?_)
      have HK := hid hK
      clear hK
      go_simp
      refine HK.out _ _ ?_
      exact ⟨b0, true, b2, b3, b4, b5, true, b7, b8, true, b10, b11, s14, _, s16, s17, s18, s19, _, s8, s9, rfl, rfl, (hFq.wrote hon hge), hl0, hl2, hl4, (fun h => (hc1 h).keepV kz (by simp) hon), (fun h => (hc3 h).keepV kz (by simp) hon), (fun h => (hc5 h).keepV kz (by simp) hon), (fun _ => ⟨g, rfl, hge, (fun h => by cases h), fun _ => ⟨[.bool (negQ qX), .slice po (nl qX.num.natAbs) pc, .slice qo (nl qX.den) qc], rfl, hset⟩⟩), (hv7.only (fun h e => hd6_7 rfl h e.symm) hon), (hv8.only (fun h e => hd6_8 rfl h e.symm) hon), (fun _ => ⟨rfl, rfl⟩), hs10, hs11, hd6_7, hd6_8, hd7_8⟩
    · simp only [List.getElem?_toArray, List.getElem?_cons_succ, List.getElem?_cons_zero, Option.some.injEq] at ho
      subst ho
      obtain rfl : b10 = false := by simpa using hun
      clear hun
      obtain rfl : b3 = true := by simpa [Region.binds] using haf ⟨3, .data⟩ (by simp) (by rfl)
      obtain rfl : b7 = true := by simpa [Region.binds] using haf ⟨7, .data⟩ (by simp) (by rfl)
      clear haf
      obtain ⟨g, rfl, hge, hz, -⟩ := hv7 rfl
      have kz := hz rfl
      have hC := hc3 rfl
      obtain ⟨po, pc, qo, qc, rfl, p1, p2, p3, p4, -, -⟩ := RW.open hC.rw'
      have z0 := BlkV.cell kz 0 rfl
      have zz0 := BlkV.frozen kz 0
      have z1 := BlkV.cell kz 1 rfl
      have zz1 := BlkV.frozen kz 1
      have z2 := BlkV.cell kz 2 rfl
      have zz2 := BlkV.frozen kz 2
      have hon := only_of_set3 kz (.bool (negQ qY)) (.slice po (nl qY.num.natAbs) pc) (.slice qo (nl qY.den) qc)
      have hset := ((BlkV.set kz 0 (.bool (negQ qY))).set 1 (.slice po (nl qY.num.natAbs) pc)).set 2 (.slice qo (nl qY.den) qc)
      refine wpOp_step rfl (fun K' hK => ?_)
      have HK := hid hK
      clear hK
      go_simp
      refine HK.out _ _ ?_
      exact ⟨b0, b1, b2, true, b4, b5, b6, true, b8, b9, true, b11, s14, s15, s16, _, s18, s19, s7, _, s9, rfl, rfl, (hFq.wrote hon hge), hl0, hl2, hl4, (fun h => (hc1 h).keepV kz (by simp) hon), (fun h => (hc3 h).keepV kz (by simp) hon), (fun h => (hc5 h).keepV kz (by simp) hon), (hv6.only (fun h e => hd6_7 h rfl e) hon), (fun _ => ⟨g, rfl, hge, (fun h => by cases h), fun _ => ⟨[.bool (negQ qY), .slice po (nl qY.num.natAbs) pc, .slice qo (nl qY.den) qc], rfl, hset⟩⟩), (hv8.only (fun h e => hd7_8 rfl h e.symm) hon), hs9, (fun _ => ⟨rfl, rfl⟩), hs11, hd6_7, hd6_8, hd7_8⟩
    · simp only [List.getElem?_toArray, List.getElem?_cons_succ, List.getElem?_cons_zero, Option.some.injEq] at ho
      subst ho
      obtain rfl : b11 = false := by simpa using hun
      clear hun
      obtain rfl : b5 = true := by simpa [Region.binds] using haf ⟨5, .data⟩ (by simp) (by rfl)
      obtain rfl : b8 = true := by simpa [Region.binds] using haf ⟨8, .data⟩ (by simp) (by rfl)
      clear haf
      obtain ⟨g, rfl, hge, hz, -⟩ := hv8 rfl
      have kz := hz rfl
      have hC := hc5 rfl
      obtain ⟨po, pc, qo, qc, rfl, p1, p2, p3, p4, -, -⟩ := RW.open hC.rw'
      have z0 := BlkV.cell kz 0 rfl
      have zz0 := BlkV.frozen kz 0
      have z1 := BlkV.cell kz 1 rfl
      have zz1 := BlkV.frozen kz 1
      have z2 := BlkV.cell kz 2 rfl
      have zz2 := BlkV.frozen kz 2
      have hon := only_of_set3 kz (.bool (negQ qZ)) (.slice po (nl qZ.num.natAbs) pc) (.slice qo (nl qZ.den) qc)
      have hset := ((BlkV.set kz 0 (.bool (negQ qZ))).set 1 (.slice po (nl qZ.num.natAbs) pc)).set 2 (.slice qo (nl qZ.den) qc)
      refine wpOp_step rfl (fun K' hK => ?_)
      have HK := hid hK
      clear hK
      go_simp
      refine HK.out _ _ ?_
      exact ⟨b0, b1, b2, b3, b4, true, b6, b7, true, b9, b10, true, s14, s15, s16, s17, s18, _, s7, s8, _, rfl, rfl, (hFq.wrote hon hge), hl0, hl2, hl4, (fun h => (hc1 h).keepV kz (by simp) hon), (fun h => (hc3 h).keepV kz (by simp) hon), (fun h => (hc5 h).keepV kz (by simp) hon), (hv6.only (fun h e => hd6_8 h rfl e) hon), (hv7.only (fun h e => hd7_8 h rfl e) hon), (fun _ => ⟨g, rfl, hge, (fun h => by cases h), fun _ => ⟨[.bool (negQ qZ), .slice po (nl qZ.num.natAbs) pc, .slice qo (nl qZ.den) qc], rfl, hset⟩⟩), hs9, hs10, (fun _ => ⟨rfl, rfl⟩), hd6_7, hd6_8, hd7_8⟩
  case hdone =>
  rintro listed a' w2 ⟨b0, b1, b2, b3, b4, b5, b6, b7, b8, b9, b10, b11, s14, s15, s16, s17, s18, s19, s7, s8, s9, rfl, rfl, hFq, hl0, hl2, hl4, hc1, hc3, hc5, hv6, hv7, hv8, hs9, hs10, hs11, hd6_7, hd6_8, hd7_8⟩ hall
  obtain rfl : b0 = true := by simpa using hall 0 (by simp)
  obtain rfl : b1 = true := by simpa using hall 1 (by simp)
  obtain rfl : b2 = true := by simpa using hall 2 (by simp)
  obtain rfl : b3 = true := by simpa using hall 3 (by simp)
  obtain rfl : b4 = true := by simpa using hall 4 (by simp)
  obtain rfl : b5 = true := by simpa using hall 5 (by simp)
  obtain rfl : b6 = true := by simpa using hall 6 (by simp)
  obtain rfl : b7 = true := by simpa using hall 7 (by simp)
  obtain rfl : b8 = true := by simpa using hall 8 (by simp)
  obtain rfl : b9 = true := by simpa using hall 9 (by simp)
  obtain rfl : b10 = true := by simpa using hall 10 (by simp)
  obtain rfl : b11 = true := by simpa using hall 11 (by simp)
  clear hall
  obtain rfl := hl0 rfl
  obtain rfl := hl2 rfl
  obtain rfl := hl4 rfl
  obtain ⟨gX, rfl, hgeX, -, hstX⟩ := hv6 rfl
  obtain ⟨csX, hcsX, kX⟩ := hstX rfl
  have rX := hc1 rfl
  obtain ⟨poX, pcX, qoX, qcX, rfl, p1X, p2X, p3X, p4X, -, -⟩ := RW.open rX.rw'
  obtain rfl : csX = [.bool (negQ qX), .slice poX (nl qX.num.natAbs) pcX, .slice qoX (nl qX.den) qcX] := by injection hcsX with h; exact (List.toArray_inj h).symm
  clear hcsX hstX hv6 hc1 hs9
  obtain ⟨gY, rfl, hgeY, -, hstY⟩ := hv7 rfl
  obtain ⟨csY, hcsY, kY⟩ := hstY rfl
  have rY := hc3 rfl
  obtain ⟨poY, pcY, qoY, qcY, rfl, p1Y, p2Y, p3Y, p4Y, -, -⟩ := RW.open rY.rw'
  obtain rfl : csY = [.bool (negQ qY), .slice poY (nl qY.num.natAbs) pcY, .slice qoY (nl qY.den) qcY] := by injection hcsY with h; exact (List.toArray_inj h).symm
  clear hcsY hstY hv7 hc3 hs10
  obtain ⟨gZ, rfl, hgeZ, -, hstZ⟩ := hv8 rfl
  obtain ⟨csZ, hcsZ, kZ⟩ := hstZ rfl
  have rZ := hc5 rfl
  obtain ⟨poZ, pcZ, qoZ, qcZ, rfl, p1Z, p2Z, p3Z, p4Z, -, -⟩ := RW.open rZ.rw'
  obtain rfl : csZ = [.bool (negQ qZ), .slice poZ (nl qZ.num.natAbs) pcZ, .slice qoZ (nl qZ.den) qcZ] := by injection hcsZ with h; exact (List.toArray_inj h).symm
  clear hcsZ hstZ hv8 hc5 hs11
  have hne0_1 : gX ≠ gY := fun e => hd6_7 rfl rfl (by rw [e])
  clear hd6_7
  have hne0_2 : gX ≠ gZ := fun e => hd6_8 rfl rfl (by rw [e])
  clear hd6_8
  have hne1_2 : gY ≠ gZ := fun e => hd7_8 rfl rfl (by rw [e])
  clear hd7_8
  clear ac0 ac1 ac2 bc0 bc1 bc2 cc0 cc1 cc2
  have hsz0 : w.heap.size < w1.heap.size ∧ w.heap.size + 1 < w1.heap.size ∧ w.heap.size + 1 + 1 < w1.heap.size := ⟨kA.lt, kB.lt, kC.lt⟩
  replace kA := kA.fwd hFq
  replace kB := kB.fwd hFq
  replace kC := kC.fwd hFq
  replace hF := hF.trans hFq
  clear hFq
  simp only [Act.put, List.setIfInBounds_toArray, List.set_cons_zero, List.set_cons_succ]
  have ac0 := BlkV.cell kA 0 rfl
  have ac1 := BlkV.cell kA 1 rfl
  have ac2 := BlkV.cell kA 2 rfl
  have bc0 := BlkV.cell kB 0 rfl
  have bc1 := BlkV.cell kB 1 rfl
  have bc2 := BlkV.cell kB 2 rfl
  have cc0 := BlkV.cell kC 0 rfl
  have cc1 := BlkV.cell kC 1 rfl
  have cc2 := BlkV.cell kC 2 rfl
  have xc0 := BlkV.cell kX 0 rfl
  have xc1 := BlkV.cell kX 1 rfl
  have xc2 := BlkV.cell kX 2 rfl
  have yc0 := BlkV.cell kY 0 rfl
  have yc1 := BlkV.cell kY 1 rfl
  have yc2 := BlkV.cell kY 2 rfl
  have zc0 := BlkV.cell kZ 0 rfl
  have zc1 := BlkV.cell kZ 1 rfl
  have zc2 := BlkV.cell kZ 2 rfl
  clear kA raa kB rab kC rac ac0 ac1 ac2 bc0 bc1 bc2 cc0 cc1 cc2
  go_upto_region 4 with fail
  have bnf1 := nr_add qX qY
  have bnf2 := nr_add qY qX
  have bnf3 := nr_mul qX qY
  have bnf4 := nr_mul qY qX
  have bnf5 := nr_add qX qY
  have bnf6 := nr_add (qX + qY) qZ
  have bnf7 := nr_add qY qZ
  have bnf8 := nr_add qX (qY + qZ)
  have bnf9 := nr_add qX qY
  have bnf10 := nr_mul (qX + qY) qZ
  have bnf11 := nr_mul qX qZ
  have bnf12 := nr_mul qY qZ
  have bnf13 := nr_add (qX * qZ) (qY * qZ)
  have bnf14 := nr_add qX qY
  have bnf15 := nr_sub (qX + qY) qY
  have bnf16 := nr_neg qX
  have bnf17 := nr_add qX (-qX)
  have bz : nr (0 : Rat) ≤ 1 := by decide +kernel
  replace rX := rX.drew
  replace rY := rY.drew
  replace rZ := rZ.drew
  replace kX := kX.drew
  replace kY := kY.drew
  replace kZ := kZ.drew
  replace hF := hF.drew
  clear xc0 xc1 xc2
  have xc0 := BlkV.cell kX 0 rfl
  have xc1 := BlkV.cell kX 1 rfl
  have xc2 := BlkV.cell kX 2 rfl
  clear yc0 yc1 yc2
  have yc0 := BlkV.cell kY 0 rfl
  have yc1 := BlkV.cell kY 1 rfl
  have yc2 := BlkV.cell kY 2 rfl
  clear zc0 zc1 zc2
  have zc0 := BlkV.cell kZ 0 rfl
  have zc1 := BlkV.cell kZ 1 rfl
  have zc2 := BlkV.cell kZ 2 rfl
  refine wp_region_held_drew (S := fun w' => w'.cell? ⟨gX, 0, none⟩ = some (.bool (negQ qX)) ∧ w'.cell? ⟨gX, 1, none⟩ = some (.slice poX (nl qX.num.natAbs) pcX) ∧ w'.cell? ⟨gX, 2, none⟩ = some (.slice qoX (nl qX.den) qcX) ∧ w'.cell? ⟨gY, 0, none⟩ = some (.bool (negQ qY)) ∧ w'.cell? ⟨gY, 1, none⟩ = some (.slice poY (nl qY.num.natAbs) pcY) ∧ w'.cell? ⟨gY, 2, none⟩ = some (.slice qoY (nl qY.den) qcY) ∧ w'.cell? ⟨gZ, 0, none⟩ = some (.bool (negQ qZ)) ∧ w'.cell? ⟨gZ, 1, none⟩ = some (.slice poZ (nl qZ.num.natAbs) pcZ) ∧ w'.cell? ⟨gZ, 2, none⟩ = some (.slice qoZ (nl qZ.den) qcZ)) (by kernel_rfl) ⟨by with_reducible assumption, by with_reducible assumption, by with_reducible assumption, by with_reducible assumption, by with_reducible assumption, by with_reducible assumption, by with_reducible assumption, by with_reducible assumption, by with_reducible assumption⟩ (fun hHeld => ?_)
  refine wpAnyH_take (i := 0) (oi := ?oi2_401_0) (v := ?vv2_401_0) ?hi2_401_0 (by kernel_rfl) (by kernel_rfl) (by kernel_rfl) ?hq2_401_0 ?hy2_401_0 hHeld ?rest2_401_0
  case hi2_401_0 => (simp only [List.getElem?_toArray, List.getElem?_cons_succ, List.getElem?_cons_zero]; rfl)
  case hq2_401_0 => exact fun _ _ _ h => h
  case hy2_401_0 =>
    refine Or.inl ⟨by rfl, ?_⟩
    intro wS hSw
    try dsimp only at hSw
    obtain ⟨q0, q1, q2, q3, q4, q5, q6, q7, q8⟩ := hSw
    go_simp
    try with_reducible rfl
  simp only [Act.put, List.setIfInBounds_toArray, List.set_cons_zero, List.set_cons_succ]
  refine wpAnyH_take (i := 1) (oi := ?oi2_412_1) (v := ?vv2_412_1) ?hi2_412_1 (by kernel_rfl) (by kernel_rfl) (by kernel_rfl) ?hq2_412_1 ?hy2_412_1 hHeld ?rest2_412_1
  case hi2_412_1 => (simp only [List.getElem?_toArray, List.getElem?_cons_succ, List.getElem?_cons_zero]; rfl)
  case hq2_412_1 => exact fun _ _ _ h => h
  case hy2_412_1 =>
    refine Or.inl ⟨by rfl, ?_⟩
    intro wS hSw
    try dsimp only at hSw
    obtain ⟨q0, q1, q2, q3, q4, q5, q6, q7, q8⟩ := hSw
    go_simp
    try with_reducible rfl
  simp only [Act.put, List.setIfInBounds_toArray, List.set_cons_zero, List.set_cons_succ]
  refine wpAnyH_take (i := 3) (oi := ?oi2_423_3) (v := ?vv2_423_3) ?hi2_423_3 (by kernel_rfl) (by kernel_rfl) (by kernel_rfl) ?hq2_423_3 ?hy2_423_3 hHeld ?rest2_423_3
  case hi2_423_3 => (simp only [List.getElem?_toArray, List.getElem?_cons_succ, List.getElem?_cons_zero]; rfl)
  case hq2_423_3 => exact fun _ _ _ h => h
  case hy2_423_3 =>
    refine Or.inl ⟨by rfl, ?_⟩
    intro wS hSw
    try dsimp only at hSw
    obtain ⟨q0, q1, q2, q3, q4, q5, q6, q7, q8⟩ := hSw
    go_simp
    try with_reducible rfl
  simp only [Act.put, List.setIfInBounds_toArray, List.set_cons_zero, List.set_cons_succ]
  refine wpAnyH_take (i := 4) (oi := ?oi2_434_4) (v := ?vv2_434_4) ?hi2_434_4 (by kernel_rfl) (by kernel_rfl) (by kernel_rfl) ?hq2_434_4 ?hy2_434_4 hHeld ?rest2_434_4
  case hi2_434_4 => (simp only [List.getElem?_toArray, List.getElem?_cons_succ, List.getElem?_cons_zero]; rfl)
  case hq2_434_4 => exact fun _ _ _ h => h
  case hy2_434_4 =>
    refine Or.inl ⟨by rfl, ?_⟩
    intro wS hSw
    try dsimp only at hSw
    obtain ⟨q0, q1, q2, q3, q4, q5, q6, q7, q8⟩ := hSw
    go_simp
    try with_reducible rfl
  simp only [Act.put, List.setIfInBounds_toArray, List.set_cons_zero, List.set_cons_succ]
  refine wpAnyH_ready (rs := [2]) (by kernel_rfl) (by simp) ?_
  refine AllReadyH.cons rfl (fun K hK => ?_) AllReadyH.nil
  go_simp
  refine (radd_any rX rY (by omega) (by omega)).mono ?_
  rintro e w3 ⟨vf1, rfl, f1, hf3⟩
  replace rX := rX.fwd hf3
  replace rY := rY.fwd hf3
  replace rZ := rZ.fwd hf3
  replace kX := kX.fwd hf3
  replace kY := kY.fwd hf3
  replace kZ := kZ.fwd hf3
  replace hF := hF.trans hf3
  clear hf3
  clear xc0 xc1 xc2
  have xc0 := BlkV.cell kX 0 rfl
  have xc1 := BlkV.cell kX 1 rfl
  have xc2 := BlkV.cell kX 2 rfl
  clear yc0 yc1 yc2
  have yc0 := BlkV.cell kY 0 rfl
  have yc1 := BlkV.cell kY 1 rfl
  have yc2 := BlkV.cell kY 2 rfl
  clear zc0 zc1 zc2
  have zc0 := BlkV.cell kZ 0 rfl
  have zc1 := BlkV.cell kZ 1 rfl
  have zc2 := BlkV.cell kZ 2 rfl
  go_wp2_with fail
  clear hHeld
  refine hK.out _ _ ⟨by with_reducible assumption, by with_reducible assumption, by with_reducible assumption, by with_reducible assumption, by with_reducible assumption, by with_reducible assumption, by with_reducible assumption, by with_reducible assumption, by with_reducible assumption⟩ (fun hHeld => ?_)
  clear hK K
  try simp only [Act.put, List.setIfInBounds_toArray, List.set_cons_zero, List.set_cons_succ]
  refine wpAnyH_ready (rs := [5]) (by kernel_rfl) (by simp) ?_
  refine AllReadyH.cons rfl (fun K hK => ?_) AllReadyH.nil
  go_simp
  refine (radd_any rY rX (by omega) (by omega)).mono ?_
  rintro e w4 ⟨vf2, rfl, f2, hf4⟩
  replace rX := rX.fwd hf4
  replace rY := rY.fwd hf4
  replace rZ := rZ.fwd hf4
  replace f1 := f1.fwd hf4
  replace kX := kX.fwd hf4
  replace kY := kY.fwd hf4
  replace kZ := kZ.fwd hf4
  replace hF := hF.trans hf4
  clear hf4
  clear xc0 xc1 xc2
  have xc0 := BlkV.cell kX 0 rfl
  have xc1 := BlkV.cell kX 1 rfl
  have xc2 := BlkV.cell kX 2 rfl
  clear yc0 yc1 yc2
  have yc0 := BlkV.cell kY 0 rfl
  have yc1 := BlkV.cell kY 1 rfl
  have yc2 := BlkV.cell kY 2 rfl
  clear zc0 zc1 zc2
  have zc0 := BlkV.cell kZ 0 rfl
  have zc1 := BlkV.cell kZ 1 rfl
  have zc2 := BlkV.cell kZ 2 rfl
  go_wp2_with fail
  clear hHeld
  refine hK.out _ _ ⟨by with_reducible assumption, by with_reducible assumption, by with_reducible assumption, by with_reducible assumption, by with_reducible assumption, by with_reducible assumption, by with_reducible assumption, by with_reducible assumption, by with_reducible assumption⟩ (fun hHeld => ?_)
  clear hK K
  try simp only [Act.put, List.setIfInBounds_toArray, List.set_cons_zero, List.set_cons_succ]
  refine wpAnyH_ready (rs := [6]) (by kernel_rfl) (by simp) ?_
  refine AllReadyH.cons rfl (fun K hK => ?_) AllReadyH.nil
  go_simp
  refine (same2_true f1 f2 (by omega) (by omega) (Rat.add_comm _ _)).mono ?_
  rintro e w5 ⟨rfl, hf5⟩
  replace rX := rX.fwd hf5
  replace rY := rY.fwd hf5
  replace rZ := rZ.fwd hf5
  replace f1 := f1.fwd hf5
  replace f2 := f2.fwd hf5
  replace kX := kX.fwd hf5
  replace kY := kY.fwd hf5
  replace kZ := kZ.fwd hf5
  replace hF := hF.trans hf5
  clear hf5
  clear xc0 xc1 xc2
  have xc0 := BlkV.cell kX 0 rfl
  have xc1 := BlkV.cell kX 1 rfl
  have xc2 := BlkV.cell kX 2 rfl
  clear yc0 yc1 yc2
  have yc0 := BlkV.cell kY 0 rfl
  have yc1 := BlkV.cell kY 1 rfl
  have yc2 := BlkV.cell kY 2 rfl
  clear zc0 zc1 zc2
  have zc0 := BlkV.cell kZ 0 rfl
  have zc1 := BlkV.cell kZ 1 rfl
  have zc2 := BlkV.cell kZ 2 rfl
  go_wp2_with fail
  clear hHeld
  refine hK.out _ _ ⟨by with_reducible assumption, by with_reducible assumption, by with_reducible assumption, by with_reducible assumption, by with_reducible assumption, by with_reducible assumption, by with_reducible assumption, by with_reducible assumption, by with_reducible assumption⟩ (fun hHeld => ?_)
  clear hK K
  try simp only [Act.put, List.setIfInBounds_toArray, List.set_cons_zero, List.set_cons_succ]
  refine wpAnyH_take (i := 7) (oi := ?oi2_538_7) (v := ?vv2_538_7) ?hi2_538_7 (by kernel_rfl) (by kernel_rfl) (by kernel_rfl) ?hq2_538_7 ?hy2_538_7 hHeld ?rest2_538_7
  case hi2_538_7 => (simp only [List.getElem?_toArray, List.getElem?_cons_succ, List.getElem?_cons_zero]; rfl)
  case hq2_538_7 => exact fun _ _ _ h => h
  case hy2_538_7 =>
    refine Or.inl ⟨by rfl, ?_⟩
    intro wS hSw
    try dsimp only at hSw
    obtain ⟨q0, q1, q2, q3, q4, q5, q6, q7, q8⟩ := hSw
    go_simp
    try with_reducible rfl
  simp only [Act.put, List.setIfInBounds_toArray, List.set_cons_zero, List.set_cons_succ]
  refine wpAnyH_take (i := 8) (oi := ?oi2_549_8) (v := ?vv2_549_8) ?hi2_549_8 (by kernel_rfl) (by kernel_rfl) (by kernel_rfl) ?hq2_549_8 ?hy2_549_8 hHeld ?rest2_549_8
  case hi2_549_8 => (simp only [List.getElem?_toArray, List.getElem?_cons_succ, List.getElem?_cons_zero]; rfl)
  case hq2_549_8 => exact fun _ _ _ h => h
  case hy2_549_8 =>
    refine Or.inl ⟨by rfl, ?_⟩
    intro wS hSw
    try dsimp only at hSw
    obtain ⟨q0, q1, q2, q3, q4, q5, q6, q7, q8⟩ := hSw
    go_simp
    try with_reducible rfl
  simp only [Act.put, List.setIfInBounds_toArray, List.set_cons_zero, List.set_cons_succ]
  refine wpAnyH_take (i := 9) (oi := ?oi2_560_9) (v := ?vv2_560_9) ?hi2_560_9 (by kernel_rfl) (by kernel_rfl) (by kernel_rfl) ?hq2_560_9 ?hy2_560_9 hHeld ?rest2_560_9
  case hi2_560_9 => (simp only [List.getElem?_toArray, List.getElem?_cons_succ, List.getElem?_cons_zero]; rfl)
  case hq2_560_9 => exact fun _ _ _ h => h
  case hy2_560_9 =>
    refine Or.inl ⟨by rfl, ?_⟩
    intro wS hSw
    try dsimp only at hSw
    obtain ⟨q0, q1, q2, q3, q4, q5, q6, q7, q8⟩ := hSw
    go_simp
    try with_reducible rfl
  simp only [Act.put, List.setIfInBounds_toArray, List.set_cons_zero, List.set_cons_succ]
  refine wpAnyH_take (i := 10) (oi := ?oi2_571_10) (v := ?vv2_571_10) ?hi2_571_10 (by kernel_rfl) (by kernel_rfl) (by kernel_rfl) ?hq2_571_10 ?hy2_571_10 hHeld ?rest2_571_10
  case hi2_571_10 => (simp only [List.getElem?_toArray, List.getElem?_cons_succ, List.getElem?_cons_zero]; rfl)
  case hq2_571_10 => exact fun _ _ _ h => h
  case hy2_571_10 =>
    refine Or.inl ⟨by rfl, ?_⟩
    intro wS hSw
    try dsimp only at hSw
    obtain ⟨q0, q1, q2, q3, q4, q5, q6, q7, q8⟩ := hSw
    go_simp
    try with_reducible rfl
  simp only [Act.put, List.setIfInBounds_toArray, List.set_cons_zero, List.set_cons_succ]
  refine wpAnyH_take (i := 12) (oi := ?oi2_582_12) (v := ?vv2_582_12) ?hi2_582_12 (by kernel_rfl) (by kernel_rfl) (by kernel_rfl) ?hq2_582_12 ?hy2_582_12 hHeld ?rest2_582_12
  case hi2_582_12 => (simp only [List.getElem?_toArray, List.getElem?_cons_succ, List.getElem?_cons_zero]; rfl)
  case hq2_582_12 => exact fun _ _ _ h => h
  case hy2_582_12 =>
    refine Or.inl ⟨by rfl, ?_⟩
    intro wS hSw
    try dsimp only at hSw
    obtain ⟨q0, q1, q2, q3, q4, q5, q6, q7, q8⟩ := hSw
    go_simp
    try with_reducible rfl
  simp only [Act.put, List.setIfInBounds_toArray, List.set_cons_zero, List.set_cons_succ]
  refine wpAnyH_take (i := 13) (oi := ?oi2_593_13) (v := ?vv2_593_13) ?hi2_593_13 (by kernel_rfl) (by kernel_rfl) (by kernel_rfl) ?hq2_593_13 ?hy2_593_13 hHeld ?rest2_593_13
  case hi2_593_13 => (simp only [List.getElem?_toArray, List.getElem?_cons_succ, List.getElem?_cons_zero]; rfl)
  case hq2_593_13 => exact fun _ _ _ h => h
  case hy2_593_13 =>
    refine Or.inl ⟨by rfl, ?_⟩
    intro wS hSw
    try dsimp only at hSw
    obtain ⟨q0, q1, q2, q3, q4, q5, q6, q7, q8⟩ := hSw
    go_simp
    try with_reducible rfl
  simp only [Act.put, List.setIfInBounds_toArray, List.set_cons_zero, List.set_cons_succ]
  refine wpAnyH_ready (rs := [11]) (by kernel_rfl) (by simp) ?_
  refine AllReadyH.cons rfl (fun K hK => ?_) AllReadyH.nil
  go_simp
  refine (rmul_any rX rY (by omega) (by omega)).mono ?_
  rintro e w6 ⟨vf3, rfl, f3, hf6⟩
  replace rX := rX.fwd hf6
  replace rY := rY.fwd hf6
  replace rZ := rZ.fwd hf6
  replace f1 := f1.fwd hf6
  replace f2 := f2.fwd hf6
  replace kX := kX.fwd hf6
  replace kY := kY.fwd hf6
  replace kZ := kZ.fwd hf6
  replace hF := hF.trans hf6
  clear hf6
  clear xc0 xc1 xc2
  have xc0 := BlkV.cell kX 0 rfl
  have xc1 := BlkV.cell kX 1 rfl
  have xc2 := BlkV.cell kX 2 rfl
  clear yc0 yc1 yc2
  have yc0 := BlkV.cell kY 0 rfl
  have yc1 := BlkV.cell kY 1 rfl
  have yc2 := BlkV.cell kY 2 rfl
  clear zc0 zc1 zc2
  have zc0 := BlkV.cell kZ 0 rfl
  have zc1 := BlkV.cell kZ 1 rfl
  have zc2 := BlkV.cell kZ 2 rfl
  go_wp2_with fail
  clear hHeld
  refine hK.out _ _ ⟨by with_reducible assumption, by with_reducible assumption, by with_reducible assumption, by with_reducible assumption, by with_reducible assumption, by with_reducible assumption, by with_reducible assumption, by with_reducible assumption, by with_reducible assumption⟩ (fun hHeld => ?_)
  clear hK K
  try simp only [Act.put, List.setIfInBounds_toArray, List.set_cons_zero, List.set_cons_succ]
  refine wpAnyH_ready (rs := [14]) (by kernel_rfl) (by simp) ?_
  refine AllReadyH.cons rfl (fun K hK => ?_) AllReadyH.nil
  go_simp
  refine (rmul_any rY rX (by omega) (by omega)).mono ?_
  rintro e w7 ⟨vf4, rfl, f4, hf7⟩
  replace rX := rX.fwd hf7
  replace rY := rY.fwd hf7
  replace rZ := rZ.fwd hf7
  replace f1 := f1.fwd hf7
  replace f2 := f2.fwd hf7
  replace f3 := f3.fwd hf7
  replace kX := kX.fwd hf7
  replace kY := kY.fwd hf7
  replace kZ := kZ.fwd hf7
  replace hF := hF.trans hf7
  clear hf7
  clear xc0 xc1 xc2
  have xc0 := BlkV.cell kX 0 rfl
  have xc1 := BlkV.cell kX 1 rfl
  have xc2 := BlkV.cell kX 2 rfl
  clear yc0 yc1 yc2
  have yc0 := BlkV.cell kY 0 rfl
  have yc1 := BlkV.cell kY 1 rfl
  have yc2 := BlkV.cell kY 2 rfl
  clear zc0 zc1 zc2
  have zc0 := BlkV.cell kZ 0 rfl
  have zc1 := BlkV.cell kZ 1 rfl
  have zc2 := BlkV.cell kZ 2 rfl
  go_wp2_with fail
  clear hHeld
  refine hK.out _ _ ⟨by with_reducible assumption, by with_reducible assumption, by with_reducible assumption, by with_reducible assumption, by with_reducible assumption, by with_reducible assumption, by with_reducible assumption, by with_reducible assumption, by with_reducible assumption⟩ (fun hHeld => ?_)
  clear hK K
  try simp only [Act.put, List.setIfInBounds_toArray, List.set_cons_zero, List.set_cons_succ]
  refine wpAnyH_ready (rs := [15]) (by kernel_rfl) (by simp) ?_
  refine AllReadyH.cons rfl (fun K hK => ?_) AllReadyH.nil
  go_simp
  refine (same2_true f3 f4 (by omega) (by omega) (Rat.mul_comm _ _)).mono ?_
  rintro e w8 ⟨rfl, hf8⟩
  replace rX := rX.fwd hf8
  replace rY := rY.fwd hf8
  replace rZ := rZ.fwd hf8
  replace f1 := f1.fwd hf8
  replace f2 := f2.fwd hf8
  replace f3 := f3.fwd hf8
  replace f4 := f4.fwd hf8
  replace kX := kX.fwd hf8
  replace kY := kY.fwd hf8
  replace kZ := kZ.fwd hf8
  replace hF := hF.trans hf8
  clear hf8
  clear xc0 xc1 xc2
  have xc0 := BlkV.cell kX 0 rfl
  have xc1 := BlkV.cell kX 1 rfl
  have xc2 := BlkV.cell kX 2 rfl
  clear yc0 yc1 yc2
  have yc0 := BlkV.cell kY 0 rfl
  have yc1 := BlkV.cell kY 1 rfl
  have yc2 := BlkV.cell kY 2 rfl
  clear zc0 zc1 zc2
  have zc0 := BlkV.cell kZ 0 rfl
  have zc1 := BlkV.cell kZ 1 rfl
  have zc2 := BlkV.cell kZ 2 rfl
  go_wp2_with fail
  clear hHeld
  refine hK.out _ _ ⟨by with_reducible assumption, by with_reducible assumption, by with_reducible assumption, by with_reducible assumption, by with_reducible assumption, by with_reducible assumption, by with_reducible assumption, by with_reducible assumption, by with_reducible assumption⟩ (fun hHeld => ?_)
  clear hK K
  try simp only [Act.put, List.setIfInBounds_toArray, List.set_cons_zero, List.set_cons_succ]
  refine wpAnyH_take (i := 16) (oi := ?oi2_703_16) (v := ?vv2_703_16) ?hi2_703_16 (by kernel_rfl) (by kernel_rfl) (by kernel_rfl) ?hq2_703_16 ?hy2_703_16 hHeld ?rest2_703_16
  case hi2_703_16 => (simp only [List.getElem?_toArray, List.getElem?_cons_succ, List.getElem?_cons_zero]; rfl)
  case hq2_703_16 => exact fun _ _ _ h => h
  case hy2_703_16 =>
    refine Or.inl ⟨by rfl, ?_⟩
    intro wS hSw
    try dsimp only at hSw
    obtain ⟨q0, q1, q2, q3, q4, q5, q6, q7, q8⟩ := hSw
    go_simp
    try with_reducible rfl
  simp only [Act.put, List.setIfInBounds_toArray, List.set_cons_zero, List.set_cons_succ]
  refine wpAnyH_take (i := 17) (oi := ?oi2_714_17) (v := ?vv2_714_17) ?hi2_714_17 (by kernel_rfl) (by kernel_rfl) (by kernel_rfl) ?hq2_714_17 ?hy2_714_17 hHeld ?rest2_714_17
  case hi2_714_17 => (simp only [List.getElem?_toArray, List.getElem?_cons_succ, List.getElem?_cons_zero]; rfl)
  case hq2_714_17 => exact fun _ _ _ h => h
  case hy2_714_17 =>
    refine Or.inl ⟨by rfl, ?_⟩
    intro wS hSw
    try dsimp only at hSw
    obtain ⟨q0, q1, q2, q3, q4, q5, q6, q7, q8⟩ := hSw
    go_simp
    try with_reducible rfl
  simp only [Act.put, List.setIfInBounds_toArray, List.set_cons_zero, List.set_cons_succ]
  refine wpAnyH_take (i := 18) (oi := ?oi2_725_18) (v := ?vv2_725_18) ?hi2_725_18 (by kernel_rfl) (by kernel_rfl) (by kernel_rfl) ?hq2_725_18 ?hy2_725_18 hHeld ?rest2_725_18
  case hi2_725_18 => (simp only [List.getElem?_toArray, List.getElem?_cons_succ, List.getElem?_cons_zero]; rfl)
  case hq2_725_18 => exact fun _ _ _ h => h
  case hy2_725_18 =>
    refine Or.inl ⟨by rfl, ?_⟩
    intro wS hSw
    try dsimp only at hSw
    obtain ⟨q0, q1, q2, q3, q4, q5, q6, q7, q8⟩ := hSw
    go_simp
    try with_reducible rfl
  simp only [Act.put, List.setIfInBounds_toArray, List.set_cons_zero, List.set_cons_succ]
  refine wpAnyH_take (i := 19) (oi := ?oi2_736_19) (v := ?vv2_736_19) ?hi2_736_19 (by kernel_rfl) (by kernel_rfl) (by kernel_rfl) ?hq2_736_19 ?hy2_736_19 hHeld ?rest2_736_19
  case hi2_736_19 => (simp only [List.getElem?_toArray, List.getElem?_cons_succ, List.getElem?_cons_zero]; rfl)
  case hq2_736_19 => exact fun _ _ _ h => h
  case hy2_736_19 =>
    refine Or.inl ⟨by rfl, ?_⟩
    intro wS hSw
    try dsimp only at hSw
    obtain ⟨q0, q1, q2, q3, q4, q5, q6, q7, q8⟩ := hSw
    go_simp
    try with_reducible rfl
  simp only [Act.put, List.setIfInBounds_toArray, List.set_cons_zero, List.set_cons_succ]
  refine wpAnyH_take (i := 20) (oi := ?oi2_747_20) (v := ?vv2_747_20) ?hi2_747_20 (by kernel_rfl) (by kernel_rfl) (by kernel_rfl) ?hq2_747_20 ?hy2_747_20 hHeld ?rest2_747_20
  case hi2_747_20 => (simp only [List.getElem?_toArray, List.getElem?_cons_succ, List.getElem?_cons_zero]; rfl)
  case hq2_747_20 => exact fun _ _ _ h => h
  case hy2_747_20 =>
    refine Or.inl ⟨by rfl, ?_⟩
    intro wS hSw
    try dsimp only at hSw
    obtain ⟨q0, q1, q2, q3, q4, q5, q6, q7, q8⟩ := hSw
    go_simp
    try with_reducible rfl
  simp only [Act.put, List.setIfInBounds_toArray, List.set_cons_zero, List.set_cons_succ]
  refine wpAnyH_take (i := 22) (oi := ?oi2_758_22) (v := ?vv2_758_22) ?hi2_758_22 (by kernel_rfl) (by kernel_rfl) (by kernel_rfl) ?hq2_758_22 ?hy2_758_22 hHeld ?rest2_758_22
  case hi2_758_22 => (simp only [List.getElem?_toArray, List.getElem?_cons_succ, List.getElem?_cons_zero]; rfl)
  case hq2_758_22 => exact fun _ _ _ h => h
  case hy2_758_22 =>
    refine Or.inl ⟨by rfl, ?_⟩
    intro wS hSw
    try dsimp only at hSw
    obtain ⟨q0, q1, q2, q3, q4, q5, q6, q7, q8⟩ := hSw
    go_simp
    try with_reducible rfl
  simp only [Act.put, List.setIfInBounds_toArray, List.set_cons_zero, List.set_cons_succ]
  refine wpAnyH_take (i := 24) (oi := ?oi2_769_24) (v := ?vv2_769_24) ?hi2_769_24 (by kernel_rfl) (by kernel_rfl) (by kernel_rfl) ?hq2_769_24 ?hy2_769_24 hHeld ?rest2_769_24
  case hi2_769_24 => (simp only [List.getElem?_toArray, List.getElem?_cons_succ, List.getElem?_cons_zero]; rfl)
  case hq2_769_24 => exact fun _ _ _ h => h
  case hy2_769_24 =>
    refine Or.inl ⟨by rfl, ?_⟩
    intro wS hSw
    try dsimp only at hSw
    obtain ⟨q0, q1, q2, q3, q4, q5, q6, q7, q8⟩ := hSw
    go_simp
    try with_reducible rfl
  simp only [Act.put, List.setIfInBounds_toArray, List.set_cons_zero, List.set_cons_succ]
  refine wpAnyH_take (i := 25) (oi := ?oi2_780_25) (v := ?vv2_780_25) ?hi2_780_25 (by kernel_rfl) (by kernel_rfl) (by kernel_rfl) ?hq2_780_25 ?hy2_780_25 hHeld ?rest2_780_25
  case hi2_780_25 => (simp only [List.getElem?_toArray, List.getElem?_cons_succ, List.getElem?_cons_zero]; rfl)
  case hq2_780_25 => exact fun _ _ _ h => h
  case hy2_780_25 =>
    refine Or.inl ⟨by rfl, ?_⟩
    intro wS hSw
    try dsimp only at hSw
    obtain ⟨q0, q1, q2, q3, q4, q5, q6, q7, q8⟩ := hSw
    go_simp
    try with_reducible rfl
  simp only [Act.put, List.setIfInBounds_toArray, List.set_cons_zero, List.set_cons_succ]
  refine wpAnyH_take (i := 26) (oi := ?oi2_791_26) (v := ?vv2_791_26) ?hi2_791_26 (by kernel_rfl) (by kernel_rfl) (by kernel_rfl) ?hq2_791_26 ?hy2_791_26 hHeld ?rest2_791_26
  case hi2_791_26 => (simp only [List.getElem?_toArray, List.getElem?_cons_succ, List.getElem?_cons_zero]; rfl)
  case hq2_791_26 => exact fun _ _ _ h => h
  case hy2_791_26 =>
    refine Or.inl ⟨by rfl, ?_⟩
    intro wS hSw
    try dsimp only at hSw
    obtain ⟨q0, q1, q2, q3, q4, q5, q6, q7, q8⟩ := hSw
    go_simp
    try with_reducible rfl
  simp only [Act.put, List.setIfInBounds_toArray, List.set_cons_zero, List.set_cons_succ]
  refine wpAnyH_ready (rs := [21]) (by kernel_rfl) (by simp) ?_
  refine AllReadyH.cons rfl (fun K hK => ?_) AllReadyH.nil
  go_simp
  refine (radd_any rX rY (by omega) (by omega)).mono ?_
  rintro e w9 ⟨vf5, rfl, f5, hf9⟩
  replace rX := rX.fwd hf9
  replace rY := rY.fwd hf9
  replace rZ := rZ.fwd hf9
  replace f1 := f1.fwd hf9
  replace f2 := f2.fwd hf9
  replace f3 := f3.fwd hf9
  replace f4 := f4.fwd hf9
  replace kX := kX.fwd hf9
  replace kY := kY.fwd hf9
  replace kZ := kZ.fwd hf9
  replace hF := hF.trans hf9
  clear hf9
  clear xc0 xc1 xc2
  have xc0 := BlkV.cell kX 0 rfl
  have xc1 := BlkV.cell kX 1 rfl
  have xc2 := BlkV.cell kX 2 rfl
  clear yc0 yc1 yc2
  have yc0 := BlkV.cell kY 0 rfl
  have yc1 := BlkV.cell kY 1 rfl
  have yc2 := BlkV.cell kY 2 rfl
  clear zc0 zc1 zc2
  have zc0 := BlkV.cell kZ 0 rfl
  have zc1 := BlkV.cell kZ 1 rfl
  have zc2 := BlkV.cell kZ 2 rfl
  go_wp2_with fail
  clear hHeld
  refine hK.out _ _ ⟨by with_reducible assumption, by with_reducible assumption, by with_reducible assumption, by with_reducible assumption, by with_reducible assumption, by with_reducible assumption, by with_reducible assumption, by with_reducible assumption, by with_reducible assumption⟩ (fun hHeld => ?_)
  clear hK K
  try simp only [Act.put, List.setIfInBounds_toArray, List.set_cons_zero, List.set_cons_succ]
  refine wpAnyH_ready (rs := [23]) (by kernel_rfl) (by simp) ?_
  refine AllReadyH.cons rfl (fun K hK => ?_) AllReadyH.nil
  go_simp
  refine (radd_any f5 rZ (by omega) (by omega)).mono ?_
  rintro e w10 ⟨vf6, rfl, f6, hf10⟩
  replace rX := rX.fwd hf10
  replace rY := rY.fwd hf10
  replace rZ := rZ.fwd hf10
  replace f1 := f1.fwd hf10
  replace f2 := f2.fwd hf10
  replace f3 := f3.fwd hf10
  replace f4 := f4.fwd hf10
  replace f5 := f5.fwd hf10
  replace kX := kX.fwd hf10
  replace kY := kY.fwd hf10
  replace kZ := kZ.fwd hf10
  replace hF := hF.trans hf10
  clear hf10
  clear xc0 xc1 xc2
  have xc0 := BlkV.cell kX 0 rfl
  have xc1 := BlkV.cell kX 1 rfl
  have xc2 := BlkV.cell kX 2 rfl
  clear yc0 yc1 yc2
  have yc0 := BlkV.cell kY 0 rfl
  have yc1 := BlkV.cell kY 1 rfl
  have yc2 := BlkV.cell kY 2 rfl
  clear zc0 zc1 zc2
  have zc0 := BlkV.cell kZ 0 rfl
  have zc1 := BlkV.cell kZ 1 rfl
  have zc2 := BlkV.cell kZ 2 rfl
  go_wp2_with fail
  clear hHeld
  refine hK.out _ _ ⟨by with_reducible assumption, by with_reducible assumption, by with_reducible assumption, by with_reducible assumption, by with_reducible assumption, by with_reducible assumption, by with_reducible assumption, by with_reducible assumption, by with_reducible assumption⟩ (fun hHeld => ?_)
  clear hK K
  try simp only [Act.put, List.setIfInBounds_toArray, List.set_cons_zero, List.set_cons_succ]
  refine wpAnyH_ready (rs := [27]) (by kernel_rfl) (by simp) ?_
  refine AllReadyH.cons rfl (fun K hK => ?_) AllReadyH.nil
  go_simp
  refine (radd_any rY rZ (by omega) (by omega)).mono ?_
  rintro e w11 ⟨vf7, rfl, f7, hf11⟩
  replace rX := rX.fwd hf11
  replace rY := rY.fwd hf11
  replace rZ := rZ.fwd hf11
  replace f1 := f1.fwd hf11
  replace f2 := f2.fwd hf11
  replace f3 := f3.fwd hf11
  replace f4 := f4.fwd hf11
  replace f5 := f5.fwd hf11
  replace f6 := f6.fwd hf11
  replace kX := kX.fwd hf11
  replace kY := kY.fwd hf11
  replace kZ := kZ.fwd hf11
  replace hF := hF.trans hf11
  clear hf11
  clear xc0 xc1 xc2
  have xc0 := BlkV.cell kX 0 rfl
  have xc1 := BlkV.cell kX 1 rfl
  have xc2 := BlkV.cell kX 2 rfl
  clear yc0 yc1 yc2
  have yc0 := BlkV.cell kY 0 rfl
  have yc1 := BlkV.cell kY 1 rfl
  have yc2 := BlkV.cell kY 2 rfl
  clear zc0 zc1 zc2
  have zc0 := BlkV.cell kZ 0 rfl
  have zc1 := BlkV.cell kZ 1 rfl
  have zc2 := BlkV.cell kZ 2 rfl
  go_wp2_with fail
  clear hHeld
  refine hK.out _ _ ⟨by with_reducible assumption, by with_reducible assumption, by with_reducible assumption, by with_reducible assumption, by with_reducible assumption, by with_reducible assumption, by with_reducible assumption, by with_reducible assumption, by with_reducible assumption⟩ (fun hHeld => ?_)
  clear hK K
  try simp only [Act.put, List.setIfInBounds_toArray, List.set_cons_zero, List.set_cons_succ]
  refine wpAnyH_ready (rs := [28]) (by kernel_rfl) (by simp) ?_
  refine AllReadyH.cons rfl (fun K hK => ?_) AllReadyH.nil
  go_simp
  refine (radd_any rX f7 (by omega) (by omega)).mono ?_
  rintro e w12 ⟨vf8, rfl, f8, hf12⟩
  replace rX := rX.fwd hf12
  replace rY := rY.fwd hf12
  replace rZ := rZ.fwd hf12
  replace f1 := f1.fwd hf12
  replace f2 := f2.fwd hf12
  replace f3 := f3.fwd hf12
  replace f4 := f4.fwd hf12
  replace f5 := f5.fwd hf12
  replace f6 := f6.fwd hf12
  replace f7 := f7.fwd hf12
  replace kX := kX.fwd hf12
  replace kY := kY.fwd hf12
  replace kZ := kZ.fwd hf12
  replace hF := hF.trans hf12
  clear hf12
  clear xc0 xc1 xc2
  have xc0 := BlkV.cell kX 0 rfl
  have xc1 := BlkV.cell kX 1 rfl
  have xc2 := BlkV.cell kX 2 rfl
  clear yc0 yc1 yc2
  have yc0 := BlkV.cell kY 0 rfl
  have yc1 := BlkV.cell kY 1 rfl
  have yc2 := BlkV.cell kY 2 rfl
  clear zc0 zc1 zc2
  have zc0 := BlkV.cell kZ 0 rfl
  have zc1 := BlkV.cell kZ 1 rfl
  have zc2 := BlkV.cell kZ 2 rfl
  go_wp2_with fail
  clear hHeld
  refine hK.out _ _ ⟨by with_reducible assumption, by with_reducible assumption, by with_reducible assumption, by with_reducible assumption, by with_reducible assumption, by with_reducible assumption, by with_reducible assumption, by with_reducible assumption, by with_reducible assumption⟩ (fun hHeld => ?_)
  clear hK K
  try simp only [Act.put, List.setIfInBounds_toArray, List.set_cons_zero, List.set_cons_succ]
  refine wpAnyH_ready (rs := [29]) (by kernel_rfl) (by simp) ?_
  refine AllReadyH.cons rfl (fun K hK => ?_) AllReadyH.nil
  go_simp
  refine (same2_true f6 f8 (by omega) (by omega) (Rat.add_assoc _ _ _)).mono ?_
  rintro e w13 ⟨rfl, hf13⟩
  replace rX := rX.fwd hf13
  replace rY := rY.fwd hf13
  replace rZ := rZ.fwd hf13
  replace f1 := f1.fwd hf13
  replace f2 := f2.fwd hf13
  replace f3 := f3.fwd hf13
  replace f4 := f4.fwd hf13
  replace f5 := f5.fwd hf13
  replace f6 := f6.fwd hf13
  replace f7 := f7.fwd hf13
  replace f8 := f8.fwd hf13
  replace kX := kX.fwd hf13
  replace kY := kY.fwd hf13
  replace kZ := kZ.fwd hf13
  replace hF := hF.trans hf13
  clear hf13
  clear xc0 xc1 xc2
  have xc0 := BlkV.cell kX 0 rfl
  have xc1 := BlkV.cell kX 1 rfl
  have xc2 := BlkV.cell kX 2 rfl
  clear yc0 yc1 yc2
  have yc0 := BlkV.cell kY 0 rfl
  have yc1 := BlkV.cell kY 1 rfl
  have yc2 := BlkV.cell kY 2 rfl
  clear zc0 zc1 zc2
  have zc0 := BlkV.cell kZ 0 rfl
  have zc1 := BlkV.cell kZ 1 rfl
  have zc2 := BlkV.cell kZ 2 rfl
  go_wp2_with fail
  clear hHeld
  refine hK.out _ _ ⟨by with_reducible assumption, by with_reducible assumption, by with_reducible assumption, by with_reducible assumption, by with_reducible assumption, by with_reducible assumption, by with_reducible assumption, by with_reducible assumption, by with_reducible assumption⟩ (fun hHeld => ?_)
  clear hK K
  try simp only [Act.put, List.setIfInBounds_toArray, List.set_cons_zero, List.set_cons_succ]
  refine wpAnyH_take (i := 30) (oi := ?oi2_982_30) (v := ?vv2_982_30) ?hi2_982_30 (by kernel_rfl) (by kernel_rfl) (by kernel_rfl) ?hq2_982_30 ?hy2_982_30 hHeld ?rest2_982_30
  case hi2_982_30 => (simp only [List.getElem?_toArray, List.getElem?_cons_succ, List.getElem?_cons_zero]; rfl)
  case hq2_982_30 => exact fun _ _ _ h => h
  case hy2_982_30 =>
    refine Or.inl ⟨by rfl, ?_⟩
    intro wS hSw
    try dsimp only at hSw
    obtain ⟨q0, q1, q2, q3, q4, q5, q6, q7, q8⟩ := hSw
    go_simp
    try with_reducible rfl
  simp only [Act.put, List.setIfInBounds_toArray, List.set_cons_zero, List.set_cons_succ]
  refine wpAnyH_take (i := 31) (oi := ?oi2_993_31) (v := ?vv2_993_31) ?hi2_993_31 (by kernel_rfl) (by kernel_rfl) (by kernel_rfl) ?hq2_993_31 ?hy2_993_31 hHeld ?rest2_993_31
  case hi2_993_31 => (simp only [List.getElem?_toArray, List.getElem?_cons_succ, List.getElem?_cons_zero]; rfl)
  case hq2_993_31 => exact fun _ _ _ h => h
  case hy2_993_31 =>
    refine Or.inl ⟨by rfl, ?_⟩
    intro wS hSw
    try dsimp only at hSw
    obtain ⟨q0, q1, q2, q3, q4, q5, q6, q7, q8⟩ := hSw
    go_simp
    try with_reducible rfl
  simp only [Act.put, List.setIfInBounds_toArray, List.set_cons_zero, List.set_cons_succ]
  refine wpAnyH_take (i := 32) (oi := ?oi2_1004_32) (v := ?vv2_1004_32) ?hi2_1004_32 (by kernel_rfl) (by kernel_rfl) (by kernel_rfl) ?hq2_1004_32 ?hy2_1004_32 hHeld ?rest2_1004_32
  case hi2_1004_32 => (simp only [List.getElem?_toArray, List.getElem?_cons_succ, List.getElem?_cons_zero]; rfl)
  case hq2_1004_32 => exact fun _ _ _ h => h
  case hy2_1004_32 =>
    refine Or.inl ⟨by rfl, ?_⟩
    intro wS hSw
    try dsimp only at hSw
    obtain ⟨q0, q1, q2, q3, q4, q5, q6, q7, q8⟩ := hSw
    go_simp
    try with_reducible rfl
  simp only [Act.put, List.setIfInBounds_toArray, List.set_cons_zero, List.set_cons_succ]
  refine wpAnyH_take (i := 33) (oi := ?oi2_1015_33) (v := ?vv2_1015_33) ?hi2_1015_33 (by kernel_rfl) (by kernel_rfl) (by kernel_rfl) ?hq2_1015_33 ?hy2_1015_33 hHeld ?rest2_1015_33
  case hi2_1015_33 => (simp only [List.getElem?_toArray, List.getElem?_cons_succ, List.getElem?_cons_zero]; rfl)
  case hq2_1015_33 => exact fun _ _ _ h => h
  case hy2_1015_33 =>
    refine Or.inl ⟨by rfl, ?_⟩
    intro wS hSw
    try dsimp only at hSw
    obtain ⟨q0, q1, q2, q3, q4, q5, q6, q7, q8⟩ := hSw
    go_simp
    try with_reducible rfl
  simp only [Act.put, List.setIfInBounds_toArray, List.set_cons_zero, List.set_cons_succ]
  refine wpAnyH_take (i := 34) (oi := ?oi2_1026_34) (v := ?vv2_1026_34) ?hi2_1026_34 (by kernel_rfl) (by kernel_rfl) (by kernel_rfl) ?hq2_1026_34 ?hy2_1026_34 hHeld ?rest2_1026_34
  case hi2_1026_34 => (simp only [List.getElem?_toArray, List.getElem?_cons_succ, List.getElem?_cons_zero]; rfl)
  case hq2_1026_34 => exact fun _ _ _ h => h
  case hy2_1026_34 =>
    refine Or.inl ⟨by rfl, ?_⟩
    intro wS hSw
    try dsimp only at hSw
    obtain ⟨q0, q1, q2, q3, q4, q5, q6, q7, q8⟩ := hSw
    go_simp
    try with_reducible rfl
  simp only [Act.put, List.setIfInBounds_toArray, List.set_cons_zero, List.set_cons_succ]
  refine wpAnyH_take (i := 36) (oi := ?oi2_1037_36) (v := ?vv2_1037_36) ?hi2_1037_36 (by kernel_rfl) (by kernel_rfl) (by kernel_rfl) ?hq2_1037_36 ?hy2_1037_36 hHeld ?rest2_1037_36
  case hi2_1037_36 => (simp only [List.getElem?_toArray, List.getElem?_cons_succ, List.getElem?_cons_zero]; rfl)
  case hq2_1037_36 => exact fun _ _ _ h => h
  case hy2_1037_36 =>
    refine Or.inl ⟨by rfl, ?_⟩
    intro wS hSw
    try dsimp only at hSw
    obtain ⟨q0, q1, q2, q3, q4, q5, q6, q7, q8⟩ := hSw
    go_simp
    try with_reducible rfl
  simp only [Act.put, List.setIfInBounds_toArray, List.set_cons_zero, List.set_cons_succ]
  refine wpAnyH_take (i := 38) (oi := ?oi2_1048_38) (v := ?vv2_1048_38) ?hi2_1048_38 (by kernel_rfl) (by kernel_rfl) (by kernel_rfl) ?hq2_1048_38 ?hy2_1048_38 hHeld ?rest2_1048_38
  case hi2_1048_38 => (simp only [List.getElem?_toArray, List.getElem?_cons_succ, List.getElem?_cons_zero]; rfl)
  case hq2_1048_38 => exact fun _ _ _ h => h
  case hy2_1048_38 =>
    refine Or.inl ⟨by rfl, ?_⟩
    intro wS hSw
    try dsimp only at hSw
    obtain ⟨q0, q1, q2, q3, q4, q5, q6, q7, q8⟩ := hSw
    go_simp
    try with_reducible rfl
  simp only [Act.put, List.setIfInBounds_toArray, List.set_cons_zero, List.set_cons_succ]
  refine wpAnyH_take (i := 39) (oi := ?oi2_1059_39) (v := ?vv2_1059_39) ?hi2_1059_39 (by kernel_rfl) (by kernel_rfl) (by kernel_rfl) ?hq2_1059_39 ?hy2_1059_39 hHeld ?rest2_1059_39
  case hi2_1059_39 => (simp only [List.getElem?_toArray, List.getElem?_cons_succ, List.getElem?_cons_zero]; rfl)
  case hq2_1059_39 => exact fun _ _ _ h => h
  case hy2_1059_39 =>
    refine Or.inl ⟨by rfl, ?_⟩
    intro wS hSw
    try dsimp only at hSw
    obtain ⟨q0, q1, q2, q3, q4, q5, q6, q7, q8⟩ := hSw
    go_simp
    try with_reducible rfl
  simp only [Act.put, List.setIfInBounds_toArray, List.set_cons_zero, List.set_cons_succ]
  refine wpAnyH_take (i := 41) (oi := ?oi2_1070_41) (v := ?vv2_1070_41) ?hi2_1070_41 (by kernel_rfl) (by kernel_rfl) (by kernel_rfl) ?hq2_1070_41 ?hy2_1070_41 hHeld ?rest2_1070_41
  case hi2_1070_41 => (simp only [List.getElem?_toArray, List.getElem?_cons_succ, List.getElem?_cons_zero]; rfl)
  case hq2_1070_41 => exact fun _ _ _ h => h
  case hy2_1070_41 =>
    refine Or.inl ⟨by rfl, ?_⟩
    intro wS hSw
    try dsimp only at hSw
    obtain ⟨q0, q1, q2, q3, q4, q5, q6, q7, q8⟩ := hSw
    go_simp
    try with_reducible rfl
  simp only [Act.put, List.setIfInBounds_toArray, List.set_cons_zero, List.set_cons_succ]
  refine wpAnyH_take (i := 42) (oi := ?oi2_1081_42) (v := ?vv2_1081_42) ?hi2_1081_42 (by kernel_rfl) (by kernel_rfl) (by kernel_rfl) ?hq2_1081_42 ?hy2_1081_42 hHeld ?rest2_1081_42
  case hi2_1081_42 => (simp only [List.getElem?_toArray, List.getElem?_cons_succ, List.getElem?_cons_zero]; rfl)
  case hq2_1081_42 => exact fun _ _ _ h => h
  case hy2_1081_42 =>
    refine Or.inl ⟨by rfl, ?_⟩
    intro wS hSw
    try dsimp only at hSw
    obtain ⟨q0, q1, q2, q3, q4, q5, q6, q7, q8⟩ := hSw
    go_simp
    try with_reducible rfl
  simp only [Act.put, List.setIfInBounds_toArray, List.set_cons_zero, List.set_cons_succ]
  refine wpAnyH_ready (rs := [35]) (by kernel_rfl) (by simp) ?_
  refine AllReadyH.cons rfl (fun K hK => ?_) AllReadyH.nil
  go_simp
  refine (radd_any rX rY (by omega) (by omega)).mono ?_
  rintro e w14 ⟨vf9, rfl, f9, hf14⟩
  replace rX := rX.fwd hf14
  replace rY := rY.fwd hf14
  replace rZ := rZ.fwd hf14
  replace f1 := f1.fwd hf14
  replace f2 := f2.fwd hf14
  replace f3 := f3.fwd hf14
  replace f4 := f4.fwd hf14
  replace f5 := f5.fwd hf14
  replace f6 := f6.fwd hf14
  replace f7 := f7.fwd hf14
  replace f8 := f8.fwd hf14
  replace kX := kX.fwd hf14
  replace kY := kY.fwd hf14
  replace kZ := kZ.fwd hf14
  replace hF := hF.trans hf14
  clear hf14
  clear xc0 xc1 xc2
  have xc0 := BlkV.cell kX 0 rfl
  have xc1 := BlkV.cell kX 1 rfl
  have xc2 := BlkV.cell kX 2 rfl
  clear yc0 yc1 yc2
  have yc0 := BlkV.cell kY 0 rfl
  have yc1 := BlkV.cell kY 1 rfl
  have yc2 := BlkV.cell kY 2 rfl
  clear zc0 zc1 zc2
  have zc0 := BlkV.cell kZ 0 rfl
  have zc1 := BlkV.cell kZ 1 rfl
  have zc2 := BlkV.cell kZ 2 rfl
  go_wp2_with fail
  clear hHeld
  refine hK.out _ _ ⟨by with_reducible assumption, by with_reducible assumption, by with_reducible assumption, by with_reducible assumption, by with_reducible assumption, by with_reducible assumption, by with_reducible assumption, by with_reducible assumption, by with_reducible assumption⟩ (fun hHeld => ?_)
  clear hK K
  try simp only [Act.put, List.setIfInBounds_toArray, List.set_cons_zero, List.set_cons_succ]
  refine wpAnyH_ready (rs := [37]) (by kernel_rfl) (by simp) ?_
  refine AllReadyH.cons rfl (fun K hK => ?_) AllReadyH.nil
  go_simp
  refine (rmul_any f9 rZ (by omega) (by omega)).mono ?_
  rintro e w15 ⟨vf10, rfl, f10, hf15⟩
  replace rX := rX.fwd hf15
  replace rY := rY.fwd hf15
  replace rZ := rZ.fwd hf15
  replace f1 := f1.fwd hf15
  replace f2 := f2.fwd hf15
  replace f3 := f3.fwd hf15
  replace f4 := f4.fwd hf15
  replace f5 := f5.fwd hf15
  replace f6 := f6.fwd hf15
  replace f7 := f7.fwd hf15
  replace f8 := f8.fwd hf15
  replace f9 := f9.fwd hf15
  replace kX := kX.fwd hf15
  replace kY := kY.fwd hf15
  replace kZ := kZ.fwd hf15
  replace hF := hF.trans hf15
  clear hf15
  clear xc0 xc1 xc2
  have xc0 := BlkV.cell kX 0 rfl
  have xc1 := BlkV.cell kX 1 rfl
  have xc2 := BlkV.cell kX 2 rfl
  clear yc0 yc1 yc2
  have yc0 := BlkV.cell kY 0 rfl
  have yc1 := BlkV.cell kY 1 rfl
  have yc2 := BlkV.cell kY 2 rfl
  clear zc0 zc1 zc2
  have zc0 := BlkV.cell kZ 0 rfl
  have zc1 := BlkV.cell kZ 1 rfl
  have zc2 := BlkV.cell kZ 2 rfl
  go_wp2_with fail
  clear hHeld
  refine hK.out _ _ ⟨by with_reducible assumption, by with_reducible assumption, by with_reducible assumption, by with_reducible assumption, by with_reducible assumption, by with_reducible assumption, by with_reducible assumption, by with_reducible assumption, by with_reducible assumption⟩ (fun hHeld => ?_)
  clear hK K
  try simp only [Act.put, List.setIfInBounds_toArray, List.set_cons_zero, List.set_cons_succ]
  refine wpAnyH_ready (rs := [40]) (by kernel_rfl) (by simp) ?_
  refine AllReadyH.cons rfl (fun K hK => ?_) AllReadyH.nil
  go_simp
  refine (rmul_any rX rZ (by omega) (by omega)).mono ?_
  rintro e w16 ⟨vf11, rfl, f11, hf16⟩
  replace rX := rX.fwd hf16
  replace rY := rY.fwd hf16
  replace rZ := rZ.fwd hf16
  replace f1 := f1.fwd hf16
  replace f2 := f2.fwd hf16
  replace f3 := f3.fwd hf16
  replace f4 := f4.fwd hf16
  replace f5 := f5.fwd hf16
  replace f6 := f6.fwd hf16
  replace f7 := f7.fwd hf16
  replace f8 := f8.fwd hf16
  replace f9 := f9.fwd hf16
  replace f10 := f10.fwd hf16
  replace kX := kX.fwd hf16
  replace kY := kY.fwd hf16
  replace kZ := kZ.fwd hf16
  replace hF := hF.trans hf16
  clear hf16
  clear xc0 xc1 xc2
  have xc0 := BlkV.cell kX 0 rfl
  have xc1 := BlkV.cell kX 1 rfl
  have xc2 := BlkV.cell kX 2 rfl
  clear yc0 yc1 yc2
  have yc0 := BlkV.cell kY 0 rfl
  have yc1 := BlkV.cell kY 1 rfl
  have yc2 := BlkV.cell kY 2 rfl
  clear zc0 zc1 zc2
  have zc0 := BlkV.cell kZ 0 rfl
  have zc1 := BlkV.cell kZ 1 rfl
  have zc2 := BlkV.cell kZ 2 rfl
  go_wp2_with fail
  clear hHeld
  refine hK.out _ _ ⟨by with_reducible assumption, by with_reducible assumption, by with_reducible assumption, by with_reducible assumption, by with_reducible assumption, by with_reducible assumption, by with_reducible assumption, by with_reducible assumption, by with_reducible assumption⟩ (fun hHeld => ?_)
  clear hK K
  try simp only [Act.put, List.setIfInBounds_toArray, List.set_cons_zero, List.set_cons_succ]
  refine wpAnyH_ready (rs := [43]) (by kernel_rfl) (by simp) ?_
  refine AllReadyH.cons rfl (fun K hK => ?_) AllReadyH.nil
  go_simp
  refine (rmul_any rY rZ (by omega) (by omega)).mono ?_
  rintro e w17 ⟨vf12, rfl, f12, hf17⟩
  replace rX := rX.fwd hf17
  replace rY := rY.fwd hf17
  replace rZ := rZ.fwd hf17
  replace f1 := f1.fwd hf17
  replace f2 := f2.fwd hf17
  replace f3 := f3.fwd hf17
  replace f4 := f4.fwd hf17
  replace f5 := f5.fwd hf17
  replace f6 := f6.fwd hf17
  replace f7 := f7.fwd hf17
  replace f8 := f8.fwd hf17
  replace f9 := f9.fwd hf17
  replace f10 := f10.fwd hf17
  replace f11 := f11.fwd hf17
  replace kX := kX.fwd hf17
  replace kY := kY.fwd hf17
  replace kZ := kZ.fwd hf17
  replace hF := hF.trans hf17
  clear hf17
  clear xc0 xc1 xc2
  have xc0 := BlkV.cell kX 0 rfl
  have xc1 := BlkV.cell kX 1 rfl
  have xc2 := BlkV.cell kX 2 rfl
  clear yc0 yc1 yc2
  have yc0 := BlkV.cell kY 0 rfl
  have yc1 := BlkV.cell kY 1 rfl
  have yc2 := BlkV.cell kY 2 rfl
  clear zc0 zc1 zc2
  have zc0 := BlkV.cell kZ 0 rfl
  have zc1 := BlkV.cell kZ 1 rfl
  have zc2 := BlkV.cell kZ 2 rfl
  go_wp2_with fail
  clear hHeld
  refine hK.out _ _ ⟨by with_reducible assumption, by with_reducible assumption, by with_reducible assumption, by with_reducible assumption, by with_reducible assumption, by with_reducible assumption, by with_reducible assumption, by with_reducible assumption, by with_reducible assumption⟩ (fun hHeld => ?_)
  clear hK K
  try simp only [Act.put, List.setIfInBounds_toArray, List.set_cons_zero, List.set_cons_succ]
  refine wpAnyH_ready (rs := [44]) (by kernel_rfl) (by simp) ?_
  refine AllReadyH.cons rfl (fun K hK => ?_) AllReadyH.nil
  go_simp
  refine (radd_any f11 f12 (by omega) (by omega)).mono ?_
  rintro e w18 ⟨vf13, rfl, f13, hf18⟩
  replace rX := rX.fwd hf18
  replace rY := rY.fwd hf18
  replace rZ := rZ.fwd hf18
  replace f1 := f1.fwd hf18
  replace f2 := f2.fwd hf18
  replace f3 := f3.fwd hf18
  replace f4 := f4.fwd hf18
  replace f5 := f5.fwd hf18
  replace f6 := f6.fwd hf18
  replace f7 := f7.fwd hf18
  replace f8 := f8.fwd hf18
  replace f9 := f9.fwd hf18
  replace f10 := f10.fwd hf18
  replace f11 := f11.fwd hf18
  replace f12 := f12.fwd hf18
  replace kX := kX.fwd hf18
  replace kY := kY.fwd hf18
  replace kZ := kZ.fwd hf18
  replace hF := hF.trans hf18
  clear hf18
  clear xc0 xc1 xc2
  have xc0 := BlkV.cell kX 0 rfl
  have xc1 := BlkV.cell kX 1 rfl
  have xc2 := BlkV.cell kX 2 rfl
  clear yc0 yc1 yc2
  have yc0 := BlkV.cell kY 0 rfl
  have yc1 := BlkV.cell kY 1 rfl
  have yc2 := BlkV.cell kY 2 rfl
  clear zc0 zc1 zc2
  have zc0 := BlkV.cell kZ 0 rfl
  have zc1 := BlkV.cell kZ 1 rfl
  have zc2 := BlkV.cell kZ 2 rfl
  go_wp2_with fail
  clear hHeld
  refine hK.out _ _ ⟨by with_reducible assumption, by with_reducible assumption, by with_reducible assumption, by with_reducible assumption, by with_reducible assumption, by with_reducible assumption, by with_reducible assumption, by with_reducible assumption, by with_reducible assumption⟩ (fun hHeld => ?_)
  clear hK K
  try simp only [Act.put, List.setIfInBounds_toArray, List.set_cons_zero, List.set_cons_succ]
  refine wpAnyH_ready (rs := [45]) (by kernel_rfl) (by simp) ?_
  refine AllReadyH.cons rfl (fun K hK => ?_) AllReadyH.nil
  go_simp
  refine (same2_true f10 f13 (by omega) (by omega) (Rat.add_mul _ _ _)).mono ?_
  rintro e w19 ⟨rfl, hf19⟩
  replace rX := rX.fwd hf19
  replace rY := rY.fwd hf19
  replace rZ := rZ.fwd hf19
  replace f1 := f1.fwd hf19
  replace f2 := f2.fwd hf19
  replace f3 := f3.fwd hf19
  replace f4 := f4.fwd hf19
  replace f5 := f5.fwd hf19
  replace f6 := f6.fwd hf19
  replace f7 := f7.fwd hf19
  replace f8 := f8.fwd hf19
  replace f9 := f9.fwd hf19
  replace f10 := f10.fwd hf19
  replace f11 := f11.fwd hf19
  replace f12 := f12.fwd hf19
  replace f13 := f13.fwd hf19
  replace kX := kX.fwd hf19
  replace kY := kY.fwd hf19
  replace kZ := kZ.fwd hf19
  replace hF := hF.trans hf19
  clear hf19
  clear xc0 xc1 xc2
  have xc0 := BlkV.cell kX 0 rfl
  have xc1 := BlkV.cell kX 1 rfl
  have xc2 := BlkV.cell kX 2 rfl
  clear yc0 yc1 yc2
  have yc0 := BlkV.cell kY 0 rfl
  have yc1 := BlkV.cell kY 1 rfl
  have yc2 := BlkV.cell kY 2 rfl
  clear zc0 zc1 zc2
  have zc0 := BlkV.cell kZ 0 rfl
  have zc1 := BlkV.cell kZ 1 rfl
  have zc2 := BlkV.cell kZ 2 rfl
  go_wp2_with fail
  clear hHeld
  refine hK.out _ _ ⟨by with_reducible assumption, by with_reducible assumption, by with_reducible assumption, by with_reducible assumption, by with_reducible assumption, by with_reducible assumption, by with_reducible assumption, by with_reducible assumption, by with_reducible assumption⟩ (fun hHeld => ?_)
  clear hK K
  try simp only [Act.put, List.setIfInBounds_toArray, List.set_cons_zero, List.set_cons_succ]
  refine wpAnyH_take (i := 46) (oi := ?oi2_1335_46) (v := ?vv2_1335_46) ?hi2_1335_46 (by kernel_rfl) (by kernel_rfl) (by kernel_rfl) ?hq2_1335_46 ?hy2_1335_46 hHeld ?rest2_1335_46
  case hi2_1335_46 => (simp only [List.getElem?_toArray, List.getElem?_cons_succ, List.getElem?_cons_zero]; rfl)
  case hq2_1335_46 => exact fun _ _ _ h => h
  case hy2_1335_46 =>
    refine Or.inl ⟨by rfl, ?_⟩
    intro wS hSw
    try dsimp only at hSw
    obtain ⟨q0, q1, q2, q3, q4, q5, q6, q7, q8⟩ := hSw
    go_simp
    try with_reducible rfl
  simp only [Act.put, List.setIfInBounds_toArray, List.set_cons_zero, List.set_cons_succ]
  refine wpAnyH_take (i := 47) (oi := ?oi2_1346_47) (v := ?vv2_1346_47) ?hi2_1346_47 (by kernel_rfl) (by kernel_rfl) (by kernel_rfl) ?hq2_1346_47 ?hy2_1346_47 hHeld ?rest2_1346_47
  case hi2_1346_47 => (simp only [List.getElem?_toArray, List.getElem?_cons_succ, List.getElem?_cons_zero]; rfl)
  case hq2_1346_47 => exact fun _ _ _ h => h
  case hy2_1346_47 =>
    refine Or.inl ⟨by rfl, ?_⟩
    intro wS hSw
    try dsimp only at hSw
    obtain ⟨q0, q1, q2, q3, q4, q5, q6, q7, q8⟩ := hSw
    go_simp
    try with_reducible rfl
  simp only [Act.put, List.setIfInBounds_toArray, List.set_cons_zero, List.set_cons_succ]
  refine wpAnyH_take (i := 48) (oi := ?oi2_1357_48) (v := ?vv2_1357_48) ?hi2_1357_48 (by kernel_rfl) (by kernel_rfl) (by kernel_rfl) ?hq2_1357_48 ?hy2_1357_48 hHeld ?rest2_1357_48
  case hi2_1357_48 => (simp only [List.getElem?_toArray, List.getElem?_cons_succ, List.getElem?_cons_zero]; rfl)
  case hq2_1357_48 => exact fun _ _ _ h => h
  case hy2_1357_48 =>
    refine Or.inl ⟨by rfl, ?_⟩
    intro wS hSw
    try dsimp only at hSw
    obtain ⟨q0, q1, q2, q3, q4, q5, q6, q7, q8⟩ := hSw
    go_simp
    try with_reducible rfl
  simp only [Act.put, List.setIfInBounds_toArray, List.set_cons_zero, List.set_cons_succ]
  refine wpAnyH_take (i := 49) (oi := ?oi2_1368_49) (v := ?vv2_1368_49) ?hi2_1368_49 (by kernel_rfl) (by kernel_rfl) (by kernel_rfl) ?hq2_1368_49 ?hy2_1368_49 hHeld ?rest2_1368_49
  case hi2_1368_49 => (simp only [List.getElem?_toArray, List.getElem?_cons_succ, List.getElem?_cons_zero]; rfl)
  case hq2_1368_49 => exact fun _ _ _ h => h
  case hy2_1368_49 =>
    refine Or.inl ⟨by rfl, ?_⟩
    intro wS hSw
    try dsimp only at hSw
    obtain ⟨q0, q1, q2, q3, q4, q5, q6, q7, q8⟩ := hSw
    go_simp
    try with_reducible rfl
  simp only [Act.put, List.setIfInBounds_toArray, List.set_cons_zero, List.set_cons_succ]
  refine wpAnyH_take (i := 50) (oi := ?oi2_1379_50) (v := ?vv2_1379_50) ?hi2_1379_50 (by kernel_rfl) (by kernel_rfl) (by kernel_rfl) ?hq2_1379_50 ?hy2_1379_50 hHeld ?rest2_1379_50
  case hi2_1379_50 => (simp only [List.getElem?_toArray, List.getElem?_cons_succ, List.getElem?_cons_zero]; rfl)
  case hq2_1379_50 => exact fun _ _ _ h => h
  case hy2_1379_50 =>
    refine Or.inl ⟨by rfl, ?_⟩
    intro wS hSw
    try dsimp only at hSw
    obtain ⟨q0, q1, q2, q3, q4, q5, q6, q7, q8⟩ := hSw
    go_simp
    try with_reducible rfl
  simp only [Act.put, List.setIfInBounds_toArray, List.set_cons_zero, List.set_cons_succ]
  refine wpAnyH_take (i := 52) (oi := ?oi2_1390_52) (v := ?vv2_1390_52) ?hi2_1390_52 (by kernel_rfl) (by kernel_rfl) (by kernel_rfl) ?hq2_1390_52 ?hy2_1390_52 hHeld ?rest2_1390_52
  case hi2_1390_52 => (simp only [List.getElem?_toArray, List.getElem?_cons_succ, List.getElem?_cons_zero]; rfl)
  case hq2_1390_52 => exact fun _ _ _ h => h
  case hy2_1390_52 =>
    refine Or.inl ⟨by rfl, ?_⟩
    intro wS hSw
    try dsimp only at hSw
    obtain ⟨q0, q1, q2, q3, q4, q5, q6, q7, q8⟩ := hSw
    go_simp
    try with_reducible rfl
  simp only [Act.put, List.setIfInBounds_toArray, List.set_cons_zero, List.set_cons_succ]
  refine wpAnyH_take (i := 54) (oi := ?oi2_1401_54) (v := ?vv2_1401_54) ?hi2_1401_54 (by kernel_rfl) (by kernel_rfl) (by kernel_rfl) ?hq2_1401_54 ?hy2_1401_54 hHeld ?rest2_1401_54
  case hi2_1401_54 => (simp only [List.getElem?_toArray, List.getElem?_cons_succ, List.getElem?_cons_zero]; rfl)
  case hq2_1401_54 => exact fun _ _ _ h => h
  case hy2_1401_54 =>
    refine Or.inl ⟨by rfl, ?_⟩
    intro wS hSw
    try dsimp only at hSw
    obtain ⟨q0, q1, q2, q3, q4, q5, q6, q7, q8⟩ := hSw
    go_simp
    try with_reducible rfl
  simp only [Act.put, List.setIfInBounds_toArray, List.set_cons_zero, List.set_cons_succ]
  refine wpAnyH_ready (rs := [51]) (by kernel_rfl) (by simp) ?_
  refine AllReadyH.cons rfl (fun K hK => ?_) AllReadyH.nil
  go_simp
  refine (radd_any rX rY (by omega) (by omega)).mono ?_
  rintro e w20 ⟨vf14, rfl, f14, hf20⟩
  replace rX := rX.fwd hf20
  replace rY := rY.fwd hf20
  replace rZ := rZ.fwd hf20
  replace f1 := f1.fwd hf20
  replace f2 := f2.fwd hf20
  replace f3 := f3.fwd hf20
  replace f4 := f4.fwd hf20
  replace f5 := f5.fwd hf20
  replace f6 := f6.fwd hf20
  replace f7 := f7.fwd hf20
  replace f8 := f8.fwd hf20
  replace f9 := f9.fwd hf20
  replace f10 := f10.fwd hf20
  replace f11 := f11.fwd hf20
  replace f12 := f12.fwd hf20
  replace f13 := f13.fwd hf20
  replace kX := kX.fwd hf20
  replace kY := kY.fwd hf20
  replace kZ := kZ.fwd hf20
  replace hF := hF.trans hf20
  clear hf20
  clear xc0 xc1 xc2
  have xc0 := BlkV.cell kX 0 rfl
  have xc1 := BlkV.cell kX 1 rfl
  have xc2 := BlkV.cell kX 2 rfl
  clear yc0 yc1 yc2
  have yc0 := BlkV.cell kY 0 rfl
  have yc1 := BlkV.cell kY 1 rfl
  have yc2 := BlkV.cell kY 2 rfl
  clear zc0 zc1 zc2
  have zc0 := BlkV.cell kZ 0 rfl
  have zc1 := BlkV.cell kZ 1 rfl
  have zc2 := BlkV.cell kZ 2 rfl
  go_wp2_with fail
  clear hHeld
  refine hK.out _ _ ⟨by with_reducible assumption, by with_reducible assumption, by with_reducible assumption, by with_reducible assumption, by with_reducible assumption, by with_reducible assumption, by with_reducible assumption, by with_reducible assumption, by with_reducible assumption⟩ (fun hHeld => ?_)
  clear hK K
  try simp only [Act.put, List.setIfInBounds_toArray, List.set_cons_zero, List.set_cons_succ]
  refine wpAnyH_ready (rs := [53]) (by kernel_rfl) (by simp) ?_
  refine AllReadyH.cons rfl (fun K hK => ?_) AllReadyH.nil
  go_simp
  refine (rsub_any f14 rY (by omega) (by omega)).mono ?_
  rintro e w21 ⟨vf15, rfl, f15, hf21⟩
  replace rX := rX.fwd hf21
  replace rY := rY.fwd hf21
  replace rZ := rZ.fwd hf21
  replace f1 := f1.fwd hf21
  replace f2 := f2.fwd hf21
  replace f3 := f3.fwd hf21
  replace f4 := f4.fwd hf21
  replace f5 := f5.fwd hf21
  replace f6 := f6.fwd hf21
  replace f7 := f7.fwd hf21
  replace f8 := f8.fwd hf21
  replace f9 := f9.fwd hf21
  replace f10 := f10.fwd hf21
  replace f11 := f11.fwd hf21
  replace f12 := f12.fwd hf21
  replace f13 := f13.fwd hf21
  replace f14 := f14.fwd hf21
  replace kX := kX.fwd hf21
  replace kY := kY.fwd hf21
  replace kZ := kZ.fwd hf21
  replace hF := hF.trans hf21
  clear hf21
  clear xc0 xc1 xc2
  have xc0 := BlkV.cell kX 0 rfl
  have xc1 := BlkV.cell kX 1 rfl
  have xc2 := BlkV.cell kX 2 rfl
  clear yc0 yc1 yc2
  have yc0 := BlkV.cell kY 0 rfl
  have yc1 := BlkV.cell kY 1 rfl
  have yc2 := BlkV.cell kY 2 rfl
  clear zc0 zc1 zc2
  have zc0 := BlkV.cell kZ 0 rfl
  have zc1 := BlkV.cell kZ 1 rfl
  have zc2 := BlkV.cell kZ 2 rfl
  go_wp2_with fail
  clear hHeld
  refine hK.out _ _ ⟨by with_reducible assumption, by with_reducible assumption, by with_reducible assumption, by with_reducible assumption, by with_reducible assumption, by with_reducible assumption, by with_reducible assumption, by with_reducible assumption, by with_reducible assumption⟩ (fun hHeld => ?_)
  clear hK K
  try simp only [Act.put, List.setIfInBounds_toArray, List.set_cons_zero, List.set_cons_succ]
  refine wpAnyH_ready (rs := [55]) (by kernel_rfl) (by simp) ?_
  refine AllReadyH.cons rfl (fun K hK => ?_) AllReadyH.nil
  go_simp
  refine (same2_true f15 rX (by omega) (by omega) (by grind)).mono ?_
  rintro e w22 ⟨rfl, hf22⟩
  replace rX := rX.fwd hf22
  replace rY := rY.fwd hf22
  replace rZ := rZ.fwd hf22
  replace f1 := f1.fwd hf22
  replace f2 := f2.fwd hf22
  replace f3 := f3.fwd hf22
  replace f4 := f4.fwd hf22
  replace f5 := f5.fwd hf22
  replace f6 := f6.fwd hf22
  replace f7 := f7.fwd hf22
  replace f8 := f8.fwd hf22
  replace f9 := f9.fwd hf22
  replace f10 := f10.fwd hf22
  replace f11 := f11.fwd hf22
  replace f12 := f12.fwd hf22
  replace f13 := f13.fwd hf22
  replace f14 := f14.fwd hf22
  replace f15 := f15.fwd hf22
  replace kX := kX.fwd hf22
  replace kY := kY.fwd hf22
  replace kZ := kZ.fwd hf22
  replace hF := hF.trans hf22
  clear hf22
  clear xc0 xc1 xc2
  have xc0 := BlkV.cell kX 0 rfl
  have xc1 := BlkV.cell kX 1 rfl
  have xc2 := BlkV.cell kX 2 rfl
  clear yc0 yc1 yc2
  have yc0 := BlkV.cell kY 0 rfl
  have yc1 := BlkV.cell kY 1 rfl
  have yc2 := BlkV.cell kY 2 rfl
  clear zc0 zc1 zc2
  have zc0 := BlkV.cell kZ 0 rfl
  have zc1 := BlkV.cell kZ 1 rfl
  have zc2 := BlkV.cell kZ 2 rfl
  go_wp2_with fail
  clear hHeld
  refine hK.out _ _ ⟨by with_reducible assumption, by with_reducible assumption, by with_reducible assumption, by with_reducible assumption, by with_reducible assumption, by with_reducible assumption, by with_reducible assumption, by with_reducible assumption, by with_reducible assumption⟩ (fun hHeld => ?_)
  clear hK K
  try simp only [Act.put, List.setIfInBounds_toArray, List.set_cons_zero, List.set_cons_succ]
  refine wpAnyH_take (i := 56) (oi := ?oi2_1544_56) (v := ?vv2_1544_56) ?hi2_1544_56 (by kernel_rfl) (by kernel_rfl) (by kernel_rfl) ?hq2_1544_56 ?hy2_1544_56 hHeld ?rest2_1544_56
  case hi2_1544_56 => (simp only [List.getElem?_toArray, List.getElem?_cons_succ, List.getElem?_cons_zero]; rfl)
  case hq2_1544_56 => exact fun _ _ _ h => h
  case hy2_1544_56 =>
    refine Or.inl ⟨by rfl, ?_⟩
    intro wS hSw
    try dsimp only at hSw
    obtain ⟨q0, q1, q2, q3, q4, q5, q6, q7, q8⟩ := hSw
    go_simp
    try with_reducible rfl
  simp only [Act.put, List.setIfInBounds_toArray, List.set_cons_zero, List.set_cons_succ]
  refine wpAnyH_take (i := 57) (oi := ?oi2_1555_57) (v := ?vv2_1555_57) ?hi2_1555_57 (by kernel_rfl) (by kernel_rfl) (by kernel_rfl) ?hq2_1555_57 ?hy2_1555_57 hHeld ?rest2_1555_57
  case hi2_1555_57 => (simp only [List.getElem?_toArray, List.getElem?_cons_succ, List.getElem?_cons_zero]; rfl)
  case hq2_1555_57 => exact fun _ _ _ h => h
  case hy2_1555_57 =>
    refine Or.inl ⟨by rfl, ?_⟩
    intro wS hSw
    try dsimp only at hSw
    obtain ⟨q0, q1, q2, q3, q4, q5, q6, q7, q8⟩ := hSw
    go_simp
    try with_reducible rfl
  simp only [Act.put, List.setIfInBounds_toArray, List.set_cons_zero, List.set_cons_succ]
  refine wpAnyH_take (i := 58) (oi := ?oi2_1566_58) (v := ?vv2_1566_58) ?hi2_1566_58 (by kernel_rfl) (by kernel_rfl) (by kernel_rfl) ?hq2_1566_58 ?hy2_1566_58 hHeld ?rest2_1566_58
  case hi2_1566_58 => (simp only [List.getElem?_toArray, List.getElem?_cons_succ, List.getElem?_cons_zero]; rfl)
  case hq2_1566_58 => exact fun _ _ _ h => h
  case hy2_1566_58 =>
    refine Or.inl ⟨by rfl, ?_⟩
    intro wS hSw
    try dsimp only at hSw
    obtain ⟨q0, q1, q2, q3, q4, q5, q6, q7, q8⟩ := hSw
    go_simp
    try with_reducible rfl
  simp only [Act.put, List.setIfInBounds_toArray, List.set_cons_zero, List.set_cons_succ]
  refine wpAnyH_take (i := 59) (oi := ?oi2_1577_59) (v := ?vv2_1577_59) ?hi2_1577_59 (by kernel_rfl) (by kernel_rfl) (by kernel_rfl) ?hq2_1577_59 ?hy2_1577_59 hHeld ?rest2_1577_59
  case hi2_1577_59 => (simp only [List.getElem?_toArray, List.getElem?_cons_succ, List.getElem?_cons_zero]; rfl)
  case hq2_1577_59 => exact fun _ _ _ h => h
  case hy2_1577_59 =>
    refine Or.inl ⟨by rfl, ?_⟩
    intro wS hSw
    try dsimp only at hSw
    obtain ⟨q0, q1, q2, q3, q4, q5, q6, q7, q8⟩ := hSw
    go_simp
    try with_reducible rfl
  simp only [Act.put, List.setIfInBounds_toArray, List.set_cons_zero, List.set_cons_succ]
  refine wpAnyH_take (i := 60) (oi := ?oi2_1588_60) (v := ?vv2_1588_60) ?hi2_1588_60 (by kernel_rfl) (by kernel_rfl) (by kernel_rfl) ?hq2_1588_60 ?hy2_1588_60 hHeld ?rest2_1588_60
  case hi2_1588_60 => (simp only [List.getElem?_toArray, List.getElem?_cons_succ, List.getElem?_cons_zero]; rfl)
  case hq2_1588_60 => exact fun _ _ _ h => h
  case hy2_1588_60 =>
    refine Or.inl ⟨by rfl, ?_⟩
    intro wS hSw
    try dsimp only at hSw
    obtain ⟨q0, q1, q2, q3, q4, q5, q6, q7, q8⟩ := hSw
    go_simp
    try with_reducible rfl
  simp only [Act.put, List.setIfInBounds_toArray, List.set_cons_zero, List.set_cons_succ]
  refine wpAnyH_ready (rs := [61]) (by kernel_rfl) (by simp) ?_
  refine AllReadyH.cons rfl (fun K hK => ?_) AllReadyH.nil
  go_simp
  refine (rneg_any rX (by omega)).mono ?_
  rintro e w23 ⟨vf16, rfl, f16, hf23⟩
  replace rX := rX.fwd hf23
  replace rY := rY.fwd hf23
  replace rZ := rZ.fwd hf23
  replace f1 := f1.fwd hf23
  replace f2 := f2.fwd hf23
  replace f3 := f3.fwd hf23
  replace f4 := f4.fwd hf23
  replace f5 := f5.fwd hf23
  replace f6 := f6.fwd hf23
  replace f7 := f7.fwd hf23
  replace f8 := f8.fwd hf23
  replace f9 := f9.fwd hf23
  replace f10 := f10.fwd hf23
  replace f11 := f11.fwd hf23
  replace f12 := f12.fwd hf23
  replace f13 := f13.fwd hf23
  replace f14 := f14.fwd hf23
  replace f15 := f15.fwd hf23
  replace kX := kX.fwd hf23
  replace kY := kY.fwd hf23
  replace kZ := kZ.fwd hf23
  replace hF := hF.trans hf23
  clear hf23
  clear xc0 xc1 xc2
  have xc0 := BlkV.cell kX 0 rfl
  have xc1 := BlkV.cell kX 1 rfl
  have xc2 := BlkV.cell kX 2 rfl
  clear yc0 yc1 yc2
  have yc0 := BlkV.cell kY 0 rfl
  have yc1 := BlkV.cell kY 1 rfl
  have yc2 := BlkV.cell kY 2 rfl
  clear zc0 zc1 zc2
  have zc0 := BlkV.cell kZ 0 rfl
  have zc1 := BlkV.cell kZ 1 rfl
  have zc2 := BlkV.cell kZ 2 rfl
  go_wp2_with fail
  clear hHeld
  refine hK.out _ _ ⟨by with_reducible assumption, by with_reducible assumption, by with_reducible assumption, by with_reducible assumption, by with_reducible assumption, by with_reducible assumption, by with_reducible assumption, by with_reducible assumption, by with_reducible assumption⟩ (fun hHeld => ?_)
  clear hK K
  try simp only [Act.put, List.setIfInBounds_toArray, List.set_cons_zero, List.set_cons_succ]
  refine wpAnyH_ready (rs := [62]) (by kernel_rfl) (by simp) ?_
  refine AllReadyH.cons rfl (fun K hK => ?_) AllReadyH.nil
  go_simp
  refine (radd_any rX f16 (by omega) (by omega)).mono ?_
  rintro e w24 ⟨vf17, rfl, f17, hf24⟩
  replace rX := rX.fwd hf24
  replace rY := rY.fwd hf24
  replace rZ := rZ.fwd hf24
  replace f1 := f1.fwd hf24
  replace f2 := f2.fwd hf24
  replace f3 := f3.fwd hf24
  replace f4 := f4.fwd hf24
  replace f5 := f5.fwd hf24
  replace f6 := f6.fwd hf24
  replace f7 := f7.fwd hf24
  replace f8 := f8.fwd hf24
  replace f9 := f9.fwd hf24
  replace f10 := f10.fwd hf24
  replace f11 := f11.fwd hf24
  replace f12 := f12.fwd hf24
  replace f13 := f13.fwd hf24
  replace f14 := f14.fwd hf24
  replace f15 := f15.fwd hf24
  replace f16 := f16.fwd hf24
  replace kX := kX.fwd hf24
  replace kY := kY.fwd hf24
  replace kZ := kZ.fwd hf24
  replace hF := hF.trans hf24
  clear hf24
  clear xc0 xc1 xc2
  have xc0 := BlkV.cell kX 0 rfl
  have xc1 := BlkV.cell kX 1 rfl
  have xc2 := BlkV.cell kX 2 rfl
  clear yc0 yc1 yc2
  have yc0 := BlkV.cell kY 0 rfl
  have yc1 := BlkV.cell kY 1 rfl
  have yc2 := BlkV.cell kY 2 rfl
  clear zc0 zc1 zc2
  have zc0 := BlkV.cell kZ 0 rfl
  have zc1 := BlkV.cell kZ 1 rfl
  have zc2 := BlkV.cell kZ 2 rfl
  go_wp2_with fail
  clear hHeld
  refine hK.out _ _ ⟨by with_reducible assumption, by with_reducible assumption, by with_reducible assumption, by with_reducible assumption, by with_reducible assumption, by with_reducible assumption, by with_reducible assumption, by with_reducible assumption, by with_reducible assumption⟩ (fun hHeld => ?_)
  clear hK K
  try simp only [Act.put, List.setIfInBounds_toArray, List.set_cons_zero, List.set_cons_succ]
  refine wpAnyH_ready (rs := [63]) (by kernel_rfl) (by simp) ?_
  refine AllReadyH.cons rfl (fun K hK => ?_) AllReadyH.nil
  go_simp
  refine (refZero_any _).mono ?_
  rintro e w25 ⟨v18, rfl, f18, hf25⟩
  replace rX := rX.fwd hf25
  replace rY := rY.fwd hf25
  replace rZ := rZ.fwd hf25
  replace f1 := f1.fwd hf25
  replace f2 := f2.fwd hf25
  replace f3 := f3.fwd hf25
  replace f4 := f4.fwd hf25
  replace f5 := f5.fwd hf25
  replace f6 := f6.fwd hf25
  replace f7 := f7.fwd hf25
  replace f8 := f8.fwd hf25
  replace f9 := f9.fwd hf25
  replace f10 := f10.fwd hf25
  replace f11 := f11.fwd hf25
  replace f12 := f12.fwd hf25
  replace f13 := f13.fwd hf25
  replace f14 := f14.fwd hf25
  replace f15 := f15.fwd hf25
  replace f16 := f16.fwd hf25
  replace f17 := f17.fwd hf25
  replace kX := kX.fwd hf25
  replace kY := kY.fwd hf25
  replace kZ := kZ.fwd hf25
  replace hF := hF.trans hf25
  clear hf25
  clear xc0 xc1 xc2
  have xc0 := BlkV.cell kX 0 rfl
  have xc1 := BlkV.cell kX 1 rfl
  have xc2 := BlkV.cell kX 2 rfl
  clear yc0 yc1 yc2
  have yc0 := BlkV.cell kY 0 rfl
  have yc1 := BlkV.cell kY 1 rfl
  have yc2 := BlkV.cell kY 2 rfl
  clear zc0 zc1 zc2
  have zc0 := BlkV.cell kZ 0 rfl
  have zc1 := BlkV.cell kZ 1 rfl
  have zc2 := BlkV.cell kZ 2 rfl
  go_wp2_with fail
  clear hHeld
  refine hK.out _ _ ⟨by with_reducible assumption, by with_reducible assumption, by with_reducible assumption, by with_reducible assumption, by with_reducible assumption, by with_reducible assumption, by with_reducible assumption, by with_reducible assumption, by with_reducible assumption⟩ (fun hHeld => ?_)
  clear hK K
  try simp only [Act.put, List.setIfInBounds_toArray, List.set_cons_zero, List.set_cons_succ]
  refine wpAnyH_ready (rs := [64]) (by kernel_rfl) (by simp) ?_
  refine AllReadyH.cons rfl (fun K hK => ?_) AllReadyH.nil
  go_simp
  refine (same2_true f17 f18 (by omega) (by omega) (by grind)).mono ?_
  rintro e w26 ⟨rfl, hf26⟩
  replace rX := rX.fwd hf26
  replace rY := rY.fwd hf26
  replace rZ := rZ.fwd hf26
  replace f1 := f1.fwd hf26
  replace f2 := f2.fwd hf26
  replace f3 := f3.fwd hf26
  replace f4 := f4.fwd hf26
  replace f5 := f5.fwd hf26
  replace f6 := f6.fwd hf26
  replace f7 := f7.fwd hf26
  replace f8 := f8.fwd hf26
  replace f9 := f9.fwd hf26
  replace f10 := f10.fwd hf26
  replace f11 := f11.fwd hf26
  replace f12 := f12.fwd hf26
  replace f13 := f13.fwd hf26
  replace f14 := f14.fwd hf26
  replace f15 := f15.fwd hf26
  replace f16 := f16.fwd hf26
  replace f17 := f17.fwd hf26
  replace f18 := f18.fwd hf26
  replace kX := kX.fwd hf26
  replace kY := kY.fwd hf26
  replace kZ := kZ.fwd hf26
  replace hF := hF.trans hf26
  clear hf26
  clear xc0 xc1 xc2
  have xc0 := BlkV.cell kX 0 rfl
  have xc1 := BlkV.cell kX 1 rfl
  have xc2 := BlkV.cell kX 2 rfl
  clear yc0 yc1 yc2
  have yc0 := BlkV.cell kY 0 rfl
  have yc1 := BlkV.cell kY 1 rfl
  have yc2 := BlkV.cell kY 2 rfl
  clear zc0 zc1 zc2
  have zc0 := BlkV.cell kZ 0 rfl
  have zc1 := BlkV.cell kZ 1 rfl
  have zc2 := BlkV.cell kZ 2 rfl
  go_wp2_with fail
  clear hHeld
  refine hK.out _ _ ⟨by with_reducible assumption, by with_reducible assumption, by with_reducible assumption, by with_reducible assumption, by with_reducible assumption, by with_reducible assumption, by with_reducible assumption, by with_reducible assumption, by with_reducible assumption⟩ (fun hHeld => ?_)
  clear hK K
  try simp only [Act.put, List.setIfInBounds_toArray, List.set_cons_zero, List.set_cons_succ]
  refine wpAnyH_take (i := 65) (oi := ?oi2_1785_65) (v := ?vv2_1785_65) ?hi2_1785_65 (by kernel_rfl) (by kernel_rfl) (by kernel_rfl) ?hq2_1785_65 ?hy2_1785_65 hHeld ?rest2_1785_65
  case hi2_1785_65 => (simp only [List.getElem?_toArray, List.getElem?_cons_succ, List.getElem?_cons_zero]; rfl)
  case hq2_1785_65 => exact fun _ _ _ h => h
  case hy2_1785_65 =>
    refine Or.inl ⟨by rfl, ?_⟩
    intro wS hSw
    try dsimp only at hSw
    obtain ⟨q0, q1, q2, q3, q4, q5, q6, q7, q8⟩ := hSw
    go_simp
    try with_reducible rfl
  simp only [Act.put, List.setIfInBounds_toArray, List.set_cons_zero, List.set_cons_succ]
  refine wpAnyH_take (i := 66) (oi := ?oi2_1796_66) (v := ?vv2_1796_66) ?hi2_1796_66 (by kernel_rfl) (by kernel_rfl) (by kernel_rfl) ?hq2_1796_66 ?hy2_1796_66 hHeld ?rest2_1796_66
  case hi2_1796_66 => (simp only [List.getElem?_toArray, List.getElem?_cons_succ, List.getElem?_cons_zero]; rfl)
  case hq2_1796_66 => exact fun _ _ _ h => h
  case hy2_1796_66 =>
    refine Or.inl ⟨by rfl, ?_⟩
    intro wS hSw
    try dsimp only at hSw
    obtain ⟨q0, q1, q2, q3, q4, q5, q6, q7, q8⟩ := hSw
    go_simp
    try with_reducible rfl
  simp only [Act.put, List.setIfInBounds_toArray, List.set_cons_zero, List.set_cons_succ]
  refine wpAnyH_done (by kernel_rfl) ?_ _
  clear f1 f2 f3 f4 f5 f6 f7 f8 f9 f10 f11 f12 f13 f14 f15 f16 f17 f18
  by_cases hy0 : qY = 0
  · have hd0 : decide (qY = 0) = true := decide_eq_true hy0
    have HY0 := hid hy0
    clear hy0
    go_wp2_with fail
    refine (rquo_nought rX rY (by omega) (by omega) HY0.out).mono ?_
    rintro e w27 ⟨rfl, hf27⟩
    replace rX := rX.fwd hf27
    replace rY := rY.fwd hf27
    replace rZ := rZ.fwd hf27
    replace kX := kX.fwd hf27
    replace kY := kY.fwd hf27
    replace kZ := kZ.fwd hf27
    replace hF := hF.trans hf27
    clear hf27
    clear xc0 xc1 xc2
    have xc0 := BlkV.cell kX 0 rfl
    have xc1 := BlkV.cell kX 1 rfl
    have xc2 := BlkV.cell kX 2 rfl
    clear yc0 yc1 yc2
    have yc0 := BlkV.cell kY 0 rfl
    have yc1 := BlkV.cell kY 1 rfl
    have yc2 := BlkV.cell kY 2 rfl
    clear zc0 zc1 zc2
    have zc0 := BlkV.cell kZ 0 rfl
    have zc1 := BlkV.cell kZ 1 rfl
    have zc2 := BlkV.cell kZ 2 rfl
    unfold ratZero
    have hfB : Fwd w27 (w27.alloc (.cells #[.bool false, .slice none 0 0, .slice none 0 0] 24)) := (Fwd.refl _).alloc _
    replace rX := rX.fwd hfB
    replace rY := rY.fwd hfB
    replace rZ := rZ.fwd hfB
    replace kX := kX.fwd hfB
    replace kY := kY.fwd hfB
    replace kZ := kZ.fwd hfB
    replace hF := hF.trans hfB
    clear hfB
    clear xc0 xc1 xc2
    have xc0 := BlkV.cell kX 0 rfl
    have xc1 := BlkV.cell kX 1 rfl
    have xc2 := BlkV.cell kX 2 rfl
    clear yc0 yc1 yc2
    have yc0 := BlkV.cell kY 0 rfl
    have yc1 := BlkV.cell kY 1 rfl
    have yc2 := BlkV.cell kY 2 rfl
    clear zc0 zc1 zc2
    have zc0 := BlkV.cell kZ 0 rfl
    have zc1 := BlkV.cell kZ 1 rfl
    have zc2 := BlkV.cell kZ 2 rfl
    have kQ := BlkV.made w27 24 [.bool false, .slice none 0 0, .slice none 0 0]
    go_upto_region 7 with fail
    generalize (w27.alloc (.cells #[.bool false, .slice none 0 0, .slice none 0 0] 24)) = w28 at kQ rX rY rZ kX kY kZ hF ⊢
    clear xc0 xc1 xc2 yc0 yc1 yc2 zc0 zc1 zc2
    have xc0 := BlkV.cell kX 0 rfl
    have xc1 := BlkV.cell kX 1 rfl
    have xc2 := BlkV.cell kX 2 rfl
    have yc0 := BlkV.cell kY 0 rfl
    have yc1 := BlkV.cell kY 1 rfl
    have yc2 := BlkV.cell kY 2 rfl
    have zc0 := BlkV.cell kZ 0 rfl
    have zc1 := BlkV.cell kZ 1 rfl
    have zc2 := BlkV.cell kZ 2 rfl
    have qc0 := BlkV.cell kQ 0 rfl
    have qc1 := BlkV.cell kQ 1 rfl
    have qc2 := BlkV.cell kQ 2 rfl
    go_wp2_with fail
    refine (nought2_num rY (by omega)).mono ?_
    rintro e w29 ⟨rfl, hf29⟩
    replace rX := rX.fwd hf29
    replace rY := rY.fwd hf29
    replace rZ := rZ.fwd hf29
    replace kX := kX.fwd hf29
    replace kY := kY.fwd hf29
    replace kZ := kZ.fwd hf29
    replace kQ := kQ.fwd hf29
    replace hF := hF.trans hf29
    clear hf29
    clear xc0 xc1 xc2
    have xc0 := BlkV.cell kX 0 rfl
    have xc1 := BlkV.cell kX 1 rfl
    have xc2 := BlkV.cell kX 2 rfl
    clear yc0 yc1 yc2
    have yc0 := BlkV.cell kY 0 rfl
    have yc1 := BlkV.cell kY 1 rfl
    have yc2 := BlkV.cell kY 2 rfl
    clear zc0 zc1 zc2
    have zc0 := BlkV.cell kZ 0 rfl
    have zc1 := BlkV.cell kZ 1 rfl
    have zc2 := BlkV.cell kZ 2 rfl
    clear qc0 qc1 qc2
    have qc0 := BlkV.cell kQ 0 rfl
    have qc1 := BlkV.cell kQ 1 rfl
    have qc2 := BlkV.cell kQ 2 rfl
    rw [hd0]
    go_wp2_with fail
    go_ret
    exact ⟨rfl, hF⟩
  · have hd0 : decide (qY = 0) = false := decide_eq_false hy0
    have bnq := nr_div (a := qX) hy0
    have HY0 := hid hy0
    have HM : Hid (qX / qY * qY = qX) := hid (by grind)
    clear hy0
    obtain ⟨qQ, hqQ⟩ : ∃ q, q = qX / qY := ⟨_, rfl⟩
    rw [← hqQ] at bnq HM
    have HQQ := hid hqQ
    clear hqQ
    go_wp2_with fail
    refine (rquo_any rX rY (by omega) (by omega) HY0.out).mono ?_
    rintro e w27 ⟨v, rfl, rQ, hf27⟩
    replace rX := rX.fwd hf27
    replace rY := rY.fwd hf27
    replace rZ := rZ.fwd hf27
    replace kX := kX.fwd hf27
    replace kY := kY.fwd hf27
    replace kZ := kZ.fwd hf27
    replace hF := hF.trans hf27
    clear hf27
    clear xc0 xc1 xc2
    have xc0 := BlkV.cell kX 0 rfl
    have xc1 := BlkV.cell kX 1 rfl
    have xc2 := BlkV.cell kX 2 rfl
    clear yc0 yc1 yc2
    have yc0 := BlkV.cell kY 0 rfl
    have yc1 := BlkV.cell kY 1 rfl
    have yc2 := BlkV.cell kY 2 rfl
    clear zc0 zc1 zc2
    have zc0 := BlkV.cell kZ 0 rfl
    have zc1 := BlkV.cell kZ 1 rfl
    have zc2 := BlkV.cell kZ 2 rfl
    rw [← HQQ.out] at rQ
    have HV := hid rQ
    obtain ⟨poQ, pcQ, qoQ, qcQ, rfl, p1Q, p2Q, p3Q, p4Q, -, -⟩ := RW.open rQ.rw'
    clear rQ
    have rQ := HV.out
    clear HV
    have hfB : Fwd w27 (w27.alloc (.cells #[.bool (negQ qQ), .slice poQ (nl qQ.num.natAbs) pcQ, .slice qoQ (nl qQ.den) qcQ] 24)) := (Fwd.refl _).alloc _
    replace rX := rX.fwd hfB
    replace rY := rY.fwd hfB
    replace rZ := rZ.fwd hfB
    replace rQ := rQ.fwd hfB
    replace kX := kX.fwd hfB
    replace kY := kY.fwd hfB
    replace kZ := kZ.fwd hfB
    replace hF := hF.trans hfB
    clear hfB
    clear xc0 xc1 xc2
    have xc0 := BlkV.cell kX 0 rfl
    have xc1 := BlkV.cell kX 1 rfl
    have xc2 := BlkV.cell kX 2 rfl
    clear yc0 yc1 yc2
    have yc0 := BlkV.cell kY 0 rfl
    have yc1 := BlkV.cell kY 1 rfl
    have yc2 := BlkV.cell kY 2 rfl
    clear zc0 zc1 zc2
    have zc0 := BlkV.cell kZ 0 rfl
    have zc1 := BlkV.cell kZ 1 rfl
    have zc2 := BlkV.cell kZ 2 rfl
    have kQ := BlkV.made w27 24 [.bool (negQ qQ), .slice poQ (nl qQ.num.natAbs) pcQ, .slice qoQ (nl qQ.den) qcQ]
    go_upto_region 7 with fail
    generalize (w27.alloc (.cells #[.bool (negQ qQ), .slice poQ (nl qQ.num.natAbs) pcQ, .slice qoQ (nl qQ.den) qcQ] 24)) = w28 at kQ rX rY rZ rQ kX kY kZ hF ⊢
    clear xc0 xc1 xc2 yc0 yc1 yc2 zc0 zc1 zc2
    have xc0 := BlkV.cell kX 0 rfl
    have xc1 := BlkV.cell kX 1 rfl
    have xc2 := BlkV.cell kX 2 rfl
    have yc0 := BlkV.cell kY 0 rfl
    have yc1 := BlkV.cell kY 1 rfl
    have yc2 := BlkV.cell kY 2 rfl
    have zc0 := BlkV.cell kZ 0 rfl
    have zc1 := BlkV.cell kZ 1 rfl
    have zc2 := BlkV.cell kZ 2 rfl
    have qc0 := BlkV.cell kQ 0 rfl
    have qc1 := BlkV.cell kQ 1 rfl
    have qc2 := BlkV.cell kQ 2 rfl
    go_wp2_with fail
    refine (nought2_num rY (by omega)).mono ?_
    rintro e w29 ⟨rfl, hf29⟩
    replace rX := rX.fwd hf29
    replace rY := rY.fwd hf29
    replace rZ := rZ.fwd hf29
    replace rQ := rQ.fwd hf29
    replace kX := kX.fwd hf29
    replace kY := kY.fwd hf29
    replace kZ := kZ.fwd hf29
    replace kQ := kQ.fwd hf29
    replace hF := hF.trans hf29
    clear hf29
    clear xc0 xc1 xc2
    have xc0 := BlkV.cell kX 0 rfl
    have xc1 := BlkV.cell kX 1 rfl
    have xc2 := BlkV.cell kX 2 rfl
    clear yc0 yc1 yc2
    have yc0 := BlkV.cell kY 0 rfl
    have yc1 := BlkV.cell kY 1 rfl
    have yc2 := BlkV.cell kY 2 rfl
    clear zc0 zc1 zc2
    have zc0 := BlkV.cell kZ 0 rfl
    have zc1 := BlkV.cell kZ 1 rfl
    have zc2 := BlkV.cell kZ 2 rfl
    clear qc0 qc1 qc2
    have qc0 := BlkV.cell kQ 0 rfl
    have qc1 := BlkV.cell kQ 1 rfl
    have qc2 := BlkV.cell kQ 2 rfl
    rw [hd0]
    go_upto_region 9 with fail
    have bng1 := nr_mul qQ qY
    replace rX := rX.drew
    replace rY := rY.drew
    replace rZ := rZ.drew
    replace rQ := rQ.drew
    replace kX := kX.drew
    replace kY := kY.drew
    replace kZ := kZ.drew
    replace kQ := kQ.drew
    replace hF := hF.drew
    clear xc0 xc1 xc2
    have xc0 := BlkV.cell kX 0 rfl
    have xc1 := BlkV.cell kX 1 rfl
    have xc2 := BlkV.cell kX 2 rfl
    clear yc0 yc1 yc2
    have yc0 := BlkV.cell kY 0 rfl
    have yc1 := BlkV.cell kY 1 rfl
    have yc2 := BlkV.cell kY 2 rfl
    clear zc0 zc1 zc2
    have zc0 := BlkV.cell kZ 0 rfl
    have zc1 := BlkV.cell kZ 1 rfl
    have zc2 := BlkV.cell kZ 2 rfl
    clear qc0 qc1 qc2
    have qc0 := BlkV.cell kQ 0 rfl
    have qc1 := BlkV.cell kQ 1 rfl
    have qc2 := BlkV.cell kQ 2 rfl
    refine wp_region_held_drew (S := fun w' => w'.cell? ⟨gX, 0, none⟩ = some (.bool (negQ qX)) ∧ w'.cell? ⟨gX, 1, none⟩ = some (.slice poX (nl qX.num.natAbs) pcX) ∧ w'.cell? ⟨gX, 2, none⟩ = some (.slice qoX (nl qX.den) qcX) ∧ w'.cell? ⟨gY, 0, none⟩ = some (.bool (negQ qY)) ∧ w'.cell? ⟨gY, 1, none⟩ = some (.slice poY (nl qY.num.natAbs) pcY) ∧ w'.cell? ⟨gY, 2, none⟩ = some (.slice qoY (nl qY.den) qcY) ∧ w'.cell? ⟨gZ, 0, none⟩ = some (.bool (negQ qZ)) ∧ w'.cell? ⟨gZ, 1, none⟩ = some (.slice poZ (nl qZ.num.natAbs) pcZ) ∧ w'.cell? ⟨gZ, 2, none⟩ = some (.slice qoZ (nl qZ.den) qcZ) ∧ w'.cell? ⟨w27.heap.size, 0, none⟩ = some (.bool (negQ qQ)) ∧ w'.cell? ⟨w27.heap.size, 1, none⟩ = some (.slice poQ (nl qQ.num.natAbs) pcQ) ∧ w'.cell? ⟨w27.heap.size, 2, none⟩ = some (.slice qoQ (nl qQ.den) qcQ)) (by kernel_rfl) ⟨by with_reducible assumption, by with_reducible assumption, by with_reducible assumption, by with_reducible assumption, by with_reducible assumption, by with_reducible assumption, by with_reducible assumption, by with_reducible assumption, by with_reducible assumption, by with_reducible assumption, by with_reducible assumption, by with_reducible assumption⟩ (fun hHeld => ?_)
    refine wpAnyH_take (i := 0) (oi := ?oi4_134_0) (v := ?vv4_134_0) ?hi4_134_0 (by kernel_rfl) (by kernel_rfl) (by kernel_rfl) ?hq4_134_0 ?hy4_134_0 hHeld ?rest4_134_0
    case hi4_134_0 => (simp only [List.getElem?_toArray, List.getElem?_cons_succ, List.getElem?_cons_zero]; rfl)
    case hq4_134_0 => exact fun _ _ _ h => h
    case hy4_134_0 =>
      refine Or.inl ⟨by rfl, ?_⟩
      intro wS hSw
      try dsimp only at hSw
      obtain ⟨q0, q1, q2, q3, q4, q5, q6, q7, q8, q9, q10, q11⟩ := hSw
      go_simp
      try with_reducible rfl
    simp only [Act.put, List.setIfInBounds_toArray, List.set_cons_zero, List.set_cons_succ]
    refine wpAnyH_take (i := 1) (oi := ?oi4_145_1) (v := ?vv4_145_1) ?hi4_145_1 (by kernel_rfl) (by kernel_rfl) (by kernel_rfl) ?hq4_145_1 ?hy4_145_1 hHeld ?rest4_145_1
    case hi4_145_1 => (simp only [List.getElem?_toArray, List.getElem?_cons_succ, List.getElem?_cons_zero]; rfl)
    case hq4_145_1 => exact fun _ _ _ h => h
    case hy4_145_1 =>
      refine Or.inl ⟨by rfl, ?_⟩
      intro wS hSw
      try dsimp only at hSw
      obtain ⟨q0, q1, q2, q3, q4, q5, q6, q7, q8, q9, q10, q11⟩ := hSw
      go_simp
      try with_reducible rfl
    simp only [Act.put, List.setIfInBounds_toArray, List.set_cons_zero, List.set_cons_succ]
    refine wpAnyH_take (i := 2) (oi := ?oi4_156_2) (v := ?vv4_156_2) ?hi4_156_2 (by kernel_rfl) (by kernel_rfl) (by kernel_rfl) ?hq4_156_2 ?hy4_156_2 hHeld ?rest4_156_2
    case hi4_156_2 => (simp only [List.getElem?_toArray, List.getElem?_cons_succ, List.getElem?_cons_zero]; rfl)
    case hq4_156_2 => exact fun _ _ _ h => h
    case hy4_156_2 =>
      refine Or.inl ⟨by rfl, ?_⟩
      intro wS hSw
      try dsimp only at hSw
      obtain ⟨q0, q1, q2, q3, q4, q5, q6, q7, q8, q9, q10, q11⟩ := hSw
      go_simp
      try with_reducible rfl
    simp only [Act.put, List.setIfInBounds_toArray, List.set_cons_zero, List.set_cons_succ]
    refine wpAnyH_take (i := 3) (oi := ?oi4_167_3) (v := ?vv4_167_3) ?hi4_167_3 (by kernel_rfl) (by kernel_rfl) (by kernel_rfl) ?hq4_167_3 ?hy4_167_3 hHeld ?rest4_167_3
    case hi4_167_3 => (simp only [List.getElem?_toArray, List.getElem?_cons_succ, List.getElem?_cons_zero]; rfl)
    case hq4_167_3 => exact fun _ _ _ h => h
    case hy4_167_3 =>
      refine Or.inl ⟨by rfl, ?_⟩
      intro wS hSw
      try dsimp only at hSw
      obtain ⟨q0, q1, q2, q3, q4, q5, q6, q7, q8, q9, q10, q11⟩ := hSw
      go_simp
      try with_reducible rfl
    simp only [Act.put, List.setIfInBounds_toArray, List.set_cons_zero, List.set_cons_succ]
    refine wpAnyH_take (i := 4) (oi := ?oi4_178_4) (v := ?vv4_178_4) ?hi4_178_4 (by kernel_rfl) (by kernel_rfl) (by kernel_rfl) ?hq4_178_4 ?hy4_178_4 hHeld ?rest4_178_4
    case hi4_178_4 => (simp only [List.getElem?_toArray, List.getElem?_cons_succ, List.getElem?_cons_zero]; rfl)
    case hq4_178_4 => exact fun _ _ _ h => h
    case hy4_178_4 =>
      refine Or.inl ⟨by rfl, ?_⟩
      intro wS hSw
      try dsimp only at hSw
      obtain ⟨q0, q1, q2, q3, q4, q5, q6, q7, q8, q9, q10, q11⟩ := hSw
      go_simp
      try with_reducible rfl
    simp only [Act.put, List.setIfInBounds_toArray, List.set_cons_zero, List.set_cons_succ]
    refine wpAnyH_take (i := 6) (oi := ?oi4_189_6) (v := ?vv4_189_6) ?hi4_189_6 (by kernel_rfl) (by kernel_rfl) (by kernel_rfl) ?hq4_189_6 ?hy4_189_6 hHeld ?rest4_189_6
    case hi4_189_6 => (simp only [List.getElem?_toArray, List.getElem?_cons_succ, List.getElem?_cons_zero]; rfl)
    case hq4_189_6 => exact fun _ _ _ h => h
    case hy4_189_6 =>
      refine Or.inl ⟨by rfl, ?_⟩
      intro wS hSw
      try dsimp only at hSw
      obtain ⟨q0, q1, q2, q3, q4, q5, q6, q7, q8, q9, q10, q11⟩ := hSw
      go_simp
      try with_reducible rfl
    simp only [Act.put, List.setIfInBounds_toArray, List.set_cons_zero, List.set_cons_succ]
    refine wpAnyH_ready (rs := [5]) (by kernel_rfl) (by simp) ?_
    refine AllReadyH.cons rfl (fun K hK => ?_) AllReadyH.nil
    go_simp
    refine (rmul_any rQ rY (by omega) (by omega)).mono ?_
    rintro e w30 ⟨vg1, rfl, g1, hf30⟩
    replace rX := rX.fwd hf30
    replace rY := rY.fwd hf30
    replace rZ := rZ.fwd hf30
    replace rQ := rQ.fwd hf30
    replace kX := kX.fwd hf30
    replace kY := kY.fwd hf30
    replace kZ := kZ.fwd hf30
    replace kQ := kQ.fwd hf30
    replace hF := hF.trans hf30
    clear hf30
    clear xc0 xc1 xc2
    have xc0 := BlkV.cell kX 0 rfl
    have xc1 := BlkV.cell kX 1 rfl
    have xc2 := BlkV.cell kX 2 rfl
    clear yc0 yc1 yc2
    have yc0 := BlkV.cell kY 0 rfl
    have yc1 := BlkV.cell kY 1 rfl
    have yc2 := BlkV.cell kY 2 rfl
    clear zc0 zc1 zc2
    have zc0 := BlkV.cell kZ 0 rfl
    have zc1 := BlkV.cell kZ 1 rfl
    have zc2 := BlkV.cell kZ 2 rfl
    clear qc0 qc1 qc2
    have qc0 := BlkV.cell kQ 0 rfl
    have qc1 := BlkV.cell kQ 1 rfl
    have qc2 := BlkV.cell kQ 2 rfl
    go_wp2_with fail
    clear hHeld
    refine hK.out _ _ ⟨by with_reducible assumption, by with_reducible assumption, by with_reducible assumption, by with_reducible assumption, by with_reducible assumption, by with_reducible assumption, by with_reducible assumption, by with_reducible assumption, by with_reducible assumption, by with_reducible assumption, by with_reducible assumption, by with_reducible assumption⟩ (fun hHeld => ?_)
    clear hK K
    try simp only [Act.put, List.setIfInBounds_toArray, List.set_cons_zero, List.set_cons_succ]
    refine wpAnyH_ready (rs := [7]) (by kernel_rfl) (by simp) ?_
    refine AllReadyH.cons rfl (fun K hK => ?_) AllReadyH.nil
    go_simp
    refine (same2_true g1 rX (by omega) (by omega) (HM.out)).mono ?_
    rintro e w31 ⟨rfl, hf31⟩
    replace rX := rX.fwd hf31
    replace rY := rY.fwd hf31
    replace rZ := rZ.fwd hf31
    replace rQ := rQ.fwd hf31
    replace g1 := g1.fwd hf31
    replace kX := kX.fwd hf31
    replace kY := kY.fwd hf31
    replace kZ := kZ.fwd hf31
    replace kQ := kQ.fwd hf31
    replace hF := hF.trans hf31
    clear hf31
    clear xc0 xc1 xc2
    have xc0 := BlkV.cell kX 0 rfl
    have xc1 := BlkV.cell kX 1 rfl
    have xc2 := BlkV.cell kX 2 rfl
    clear yc0 yc1 yc2
    have yc0 := BlkV.cell kY 0 rfl
    have yc1 := BlkV.cell kY 1 rfl
    have yc2 := BlkV.cell kY 2 rfl
    clear zc0 zc1 zc2
    have zc0 := BlkV.cell kZ 0 rfl
    have zc1 := BlkV.cell kZ 1 rfl
    have zc2 := BlkV.cell kZ 2 rfl
    clear qc0 qc1 qc2
    have qc0 := BlkV.cell kQ 0 rfl
    have qc1 := BlkV.cell kQ 1 rfl
    have qc2 := BlkV.cell kQ 2 rfl
    go_wp2_with fail
    clear hHeld
    refine hK.out _ _ ⟨by with_reducible assumption, by with_reducible assumption, by with_reducible assumption, by with_reducible assumption, by with_reducible assumption, by with_reducible assumption, by with_reducible assumption, by with_reducible assumption, by with_reducible assumption, by with_reducible assumption, by with_reducible assumption, by with_reducible assumption⟩ (fun hHeld => ?_)
    clear hK K
    try simp only [Act.put, List.setIfInBounds_toArray, List.set_cons_zero, List.set_cons_succ]
    refine wpAnyH_take (i := 8) (oi := ?oi4_273_8) (v := ?vv4_273_8) ?hi4_273_8 (by kernel_rfl) (by kernel_rfl) (by kernel_rfl) ?hq4_273_8 ?hy4_273_8 hHeld ?rest4_273_8
    case hi4_273_8 => (simp only [List.getElem?_toArray, List.getElem?_cons_succ, List.getElem?_cons_zero]; rfl)
    case hq4_273_8 => exact fun _ _ _ h => h
    case hy4_273_8 =>
      refine Or.inl ⟨by rfl, ?_⟩
      intro wS hSw
      try dsimp only at hSw
      obtain ⟨q0, q1, q2, q3, q4, q5, q6, q7, q8, q9, q10, q11⟩ := hSw
      go_simp
      try with_reducible rfl
    simp only [Act.put, List.setIfInBounds_toArray, List.set_cons_zero, List.set_cons_succ]
    refine wpAnyH_take (i := 9) (oi := ?oi4_284_9) (v := ?vv4_284_9) ?hi4_284_9 (by kernel_rfl) (by kernel_rfl) (by kernel_rfl) ?hq4_284_9 ?hy4_284_9 hHeld ?rest4_284_9
    case hi4_284_9 => (simp only [List.getElem?_toArray, List.getElem?_cons_succ, List.getElem?_cons_zero]; rfl)
    case hq4_284_9 => exact fun _ _ _ h => h
    case hy4_284_9 =>
      refine Or.inl ⟨by rfl, ?_⟩
      intro wS hSw
      try dsimp only at hSw
      obtain ⟨q0, q1, q2, q3, q4, q5, q6, q7, q8, q9, q10, q11⟩ := hSw
      go_simp
      try with_reducible rfl
    simp only [Act.put, List.setIfInBounds_toArray, List.set_cons_zero, List.set_cons_succ]
    refine wpAnyH_take (i := 10) (oi := ?oi4_295_10) (v := ?vv4_295_10) ?hi4_295_10 (by kernel_rfl) (by kernel_rfl) (by kernel_rfl) ?hq4_295_10 ?hy4_295_10 hHeld ?rest4_295_10
    case hi4_295_10 => (simp only [List.getElem?_toArray, List.getElem?_cons_succ, List.getElem?_cons_zero]; rfl)
    case hq4_295_10 => exact fun _ _ _ h => h
    case hy4_295_10 =>
      refine Or.inl ⟨by rfl, ?_⟩
      intro wS hSw
      try dsimp only at hSw
      obtain ⟨q0, q1, q2, q3, q4, q5, q6, q7, q8, q9, q10, q11⟩ := hSw
      go_simp
      try with_reducible rfl
    simp only [Act.put, List.setIfInBounds_toArray, List.set_cons_zero, List.set_cons_succ]
    refine wpAnyH_ready (rs := [11]) (by kernel_rfl) (by simp) ?_
    refine AllReadyH.cons rfl (fun K hK => ?_) AllReadyH.nil
    go_simp
    refine (rright_true rQ (by omega)).mono ?_
    rintro e w32 ⟨rfl, hf32⟩
    replace rX := rX.fwd hf32
    replace rY := rY.fwd hf32
    replace rZ := rZ.fwd hf32
    replace rQ := rQ.fwd hf32
    replace g1 := g1.fwd hf32
    replace kX := kX.fwd hf32
    replace kY := kY.fwd hf32
    replace kZ := kZ.fwd hf32
    replace kQ := kQ.fwd hf32
    replace hF := hF.trans hf32
    clear hf32
    clear xc0 xc1 xc2
    have xc0 := BlkV.cell kX 0 rfl
    have xc1 := BlkV.cell kX 1 rfl
    have xc2 := BlkV.cell kX 2 rfl
    clear yc0 yc1 yc2
    have yc0 := BlkV.cell kY 0 rfl
    have yc1 := BlkV.cell kY 1 rfl
    have yc2 := BlkV.cell kY 2 rfl
    clear zc0 zc1 zc2
    have zc0 := BlkV.cell kZ 0 rfl
    have zc1 := BlkV.cell kZ 1 rfl
    have zc2 := BlkV.cell kZ 2 rfl
    clear qc0 qc1 qc2
    have qc0 := BlkV.cell kQ 0 rfl
    have qc1 := BlkV.cell kQ 1 rfl
    have qc2 := BlkV.cell kQ 2 rfl
    go_wp2_with fail
    clear hHeld
    refine hK.out _ _ ⟨by with_reducible assumption, by with_reducible assumption, by with_reducible assumption, by with_reducible assumption, by with_reducible assumption, by with_reducible assumption, by with_reducible assumption, by with_reducible assumption, by with_reducible assumption, by with_reducible assumption, by with_reducible assumption, by with_reducible assumption⟩ (fun hHeld => ?_)
    clear hK K
    try simp only [Act.put, List.setIfInBounds_toArray, List.set_cons_zero, List.set_cons_succ]
    refine wpAnyH_take (i := 12) (oi := ?oi4_343_12) (v := ?vv4_343_12) ?hi4_343_12 (by kernel_rfl) (by kernel_rfl) (by kernel_rfl) ?hq4_343_12 ?hy4_343_12 hHeld ?rest4_343_12
    case hi4_343_12 => (simp only [List.getElem?_toArray, List.getElem?_cons_succ, List.getElem?_cons_zero]; rfl)
    case hq4_343_12 => exact fun _ _ _ h => h
    case hy4_343_12 =>
      refine Or.inl ⟨by rfl, ?_⟩
      intro wS hSw
      try dsimp only at hSw
      obtain ⟨q0, q1, q2, q3, q4, q5, q6, q7, q8, q9, q10, q11⟩ := hSw
      go_simp
      try with_reducible rfl
    simp only [Act.put, List.setIfInBounds_toArray, List.set_cons_zero, List.set_cons_succ]
    refine wpAnyH_take (i := 13) (oi := ?oi4_354_13) (v := ?vv4_354_13) ?hi4_354_13 (by kernel_rfl) (by kernel_rfl) (by kernel_rfl) ?hq4_354_13 ?hy4_354_13 hHeld ?rest4_354_13
    case hi4_354_13 => (simp only [List.getElem?_toArray, List.getElem?_cons_succ, List.getElem?_cons_zero]; rfl)
    case hq4_354_13 => exact fun _ _ _ h => h
    case hy4_354_13 =>
      refine Or.inl ⟨by rfl, ?_⟩
      intro wS hSw
      try dsimp only at hSw
      obtain ⟨q0, q1, q2, q3, q4, q5, q6, q7, q8, q9, q10, q11⟩ := hSw
      go_simp
      try with_reducible rfl
    simp only [Act.put, List.setIfInBounds_toArray, List.set_cons_zero, List.set_cons_succ]
    refine wpAnyH_done (by kernel_rfl) ?_ _
    go_wp2_with fail
    go_ret
    exact ⟨rfl, hF⟩

end Go.Proofs.YtjkoiocemolcbaaDoor
