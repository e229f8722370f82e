/- RatHalves: half of the sum of two numbers lies between them; nearer ones are told in order: the law's walk. -/
import Derived.Test.YtjkoiocemolcbabDoorXQ9
import Derived.Test.YtjkoiocemolcbabDoorXU1
import Derived.Test.YtjkoiocemolcbabDoorXV1
import Derived.Test.YtjkoiocemolcbabDoorXP8
import Derived.Test.YtjkoiocemolcbabDoorXP10
import Derived.Test.YtjkoiocemolcbabDoorXP12
namespace Go.Proofs.YtjkoiocemolcbabDoor
open Go.RowKit
set_option linter.unusedVariables false
set_option linter.unusedSimpArgs false

theorem half_cmp {x y h : Rat} (e : h + h = x + y) : cmpQ x h = cmpQ x y ∧ cmpQ h y = cmpQ x y ∧ h - x = y - h := by
  refine ⟨?_, ?_, by grind⟩
  · unfold cmpQ
    have h1 : (x < h) ↔ (x < y) := by grind
    have h2 : (h < x) ↔ (y < x) := by grind
    simp only [h1, h2]
  · unfold cmpQ
    have h1 : (h < y) ↔ (x < y) := by grind
    have h2 : (y < h) ↔ (y < x) := by grind
    simp only [h1, h2]

set_option maxHeartbeats 40000000 in
set_option maxRecDepth 20000 in
theorem ratHalves_walk {w : World} {a : Value} {sa : Bool} {xa ya : List Nat} {b : Value} {sb : Bool} {xb yb : List Nat} (ha : RawA w a sa xa ya) (hb : RawA w b sb xb yb) :
    Calls Tryd.prog 6 #[a, b] w fun e w' => e = .returned (.bool true) ∧ Below w.heap.size w w' := by
  obtain ⟨vNa, vDa, rfl, aN, aD⟩ := ha
  obtain ⟨vNb, vDb, rfl, bN, bD⟩ := hb
  have kA : BlkV ((w.alloc (.cells #[.bool sa, vNa, vDa] 27)).alloc (.cells #[.bool sb, vNb, vDb] 27)) (w.heap.size) 27 [.bool sa, vNa, vDa] := (BlkV.made' w (w.heap.size) (by simp) 27 [.bool sa, vNa, vDa]).alloc _
  have kB : BlkV ((w.alloc (.cells #[.bool sa, vNa, vDa] 27)).alloc (.cells #[.bool sb, vNb, vDb] 27)) (w.heap.size + 1) 27 [.bool sb, vNb, vDb] := BlkV.made' (w.alloc (.cells #[.bool sa, vNa, vDa] 27)) (w.heap.size + 1) (by simp) 27 [.bool sb, vNb, vDb]
  have hF : Fwd w ((w.alloc (.cells #[.bool sa, vNa, vDa] 27)).alloc (.cells #[.bool sb, vNb, vDb] 27)) := ((Fwd.refl w).alloc _).alloc _
  replace aN := aN.fwd hF
  replace aD := aD.fwd hF
  replace bN := bN.fwd hF
  replace bD := bD.fwd hF
  go_enter Tryd.func6, Tryd.ntmps6
  have ac0 := BlkV.cell kA 0 rfl
  have ac1 := BlkV.cell kA 1 rfl
  have ac2 := BlkV.cell kA 2 rfl
  have bc0 := BlkV.cell kB 0 rfl
  have bc1 := BlkV.cell kB 1 rfl
  have bc2 := BlkV.cell kB 2 rfl
  go_wp2_with fail
  refine (known2_any _).mono ?_
  rintro e w1 ⟨rfl, hf1⟩
  replace aN := aN.fwd hf1
  replace aD := aD.fwd hf1
  replace bN := bN.fwd hf1
  replace bD := bD.fwd hf1
  replace kA := kA.fwd hf1
  replace kB := kB.fwd hf1
  replace hF := hF.trans hf1
  clear hf1
  clear ac0 ac1 ac2
  have ac0 := BlkV.cell kA 0 rfl
  have ac1 := BlkV.cell kA 1 rfl
  have ac2 := BlkV.cell kA 2 rfl
  clear bc0 bc1 bc2
  have bc0 := BlkV.cell kB 0 rfl
  have bc1 := BlkV.cell kB 1 rfl
  have bc2 := BlkV.cell kB 2 rfl
  have raa : RawA w1 (.agg #[.bool sa, vNa, vDa]) sa xa ya := ⟨_, _, rfl, aN, aD⟩
  have bqX := nr_rawQ sa aN.ok aD.ok
  obtain ⟨qX, hqX⟩ : ∃ q, q = rawQ sa xa ya := ⟨_, rfl⟩
  rw [← hqX] at bqX
  have HQX := hid hqX
  clear hqX
  have rab : RawA w1 (.agg #[.bool sb, vNb, vDb]) sb xb yb := ⟨_, _, rfl, bN, bD⟩
  have bqY := nr_rawQ sb bN.ok bD.ok
  obtain ⟨qY, hqY⟩ : ∃ q, q = rawQ sb xb yb := ⟨_, rfl⟩
  rw [← hqY] at bqY
  have HQY := hid hqY
  clear hqY
  go_upto_region 3 with fail
  refine wp_region_inv (I := (fun a0 listed a' wq => ∃ (b0 b1 b2 b3 b4 b5 b6 b7 : Bool) (s12 s13 s14 s15 s5 s6 : Value), listed = #[b0, b1, b2, b3, b4, b5, b6, b7] ∧ a' = (Act.put (Act.put (Act.put (Act.put (Act.put (Act.put a0 (some 12) s12) (some 13) s13) (some 14) s14) (some 15) s15) (some 5) s5) (some 6) s6) ∧ Fwd w1 wq ∧ (b0 = true → s12 = .agg #[.bool sa, vNa, vDa]) ∧ (b2 = true → s14 = .agg #[.bool sb, vNb, vDb]) ∧ (b1 = true → RV wq s13 qX) ∧ (b3 = true → RV wq s15 qY) ∧ VarS wq w1.heap.size 27 [.bool false, .slice none 0 0, .slice none 0 0] b4 b6 s5 s13 ∧ VarS wq w1.heap.size 27 [.bool false, .slice none 0 0, .slice none 0 0] b5 b7 s6 s15 ∧ (b6 = true → b4 = true ∧ b1 = true) ∧ (b7 = true → b5 = true ∧ b3 = true) ∧ VarD b4 b5 s5 s6)) (by kernel_rfl) (by kernel_rfl) ?h0 ?hsz ?hstep ?hdone
  case h0 =>
    exact ⟨false, false, false, false, false, false, false, false, undef, undef, undef, undef, undef, undef, rfl, rfl, ((Fwd.refl _).drew), (fun h => by cases h), (fun h => by cases h), (fun h => by cases h), (fun h => by cases h), VarS.none _ _ _ _ _ _ _, VarS.none _ _ _ _ _ _ _, (fun h => by cases h), (fun h => by cases h), VarD.left _ _ _⟩
  case hsz =>
    rintro listed a' wq ⟨b0, b1, b2, b3, b4, b5, b6, b7, s12, s13, s14, s15, s5, s6, rfl, -⟩
    rfl
  case hstep =>
    rintro listed a' wq i ⟨b0, b1, b2, b3, b4, b5, b6, b7, s12, s13, s14, s15, s5, s6, rfl, rfl, hFq, hl0, hl2, hc1, hc3, hv4, hv5, hs6, hs7, hd4_5⟩ hi
    obtain ⟨hun, o, ho, haf⟩ := mem_ready.1 hi
    have hlt : i < 8 := (Array.getElem?_eq_some_iff.1 ho).1
    clear hi
    simp only [Act.put, List.setIfInBounds_toArray, List.set_cons_zero, List.set_cons_succ]
    have hcs : i = 0 ∨ i = 1 ∨ i = 2 ∨ i = 3 ∨ i = 4 ∨ i = 5 ∨ i = 6 ∨ i = 7 := by omega
    clear hlt
    rcases hcs with rfl | rfl | rfl | rfl | rfl | rfl | rfl | rfl
    · simp only [List.getElem?_toArray, List.getElem?_cons_succ, List.getElem?_cons_zero, Option.some.injEq] at ho
      subst ho
      obtain rfl : b0 = false := by simpa using hun
      clear hun
      clear haf
      have q0 := hFq.cell ac0
      have q1 := hFq.cell ac1
      have q2 := hFq.cell ac2
      refine wpOp_step rfl (fun K' hK => ?_)
      have HK := hid hK
      clear hK
      go_simp
      refine HK.out _ _ ?_
      exact ⟨true, b1, b2, b3, b4, b5, b6, b7, _, s13, s14, s15, s5, s6, rfl, rfl, hFq, (fun _ => rfl), hl2, hc1, hc3, hv4, hv5, hs6, hs7, hd4_5⟩
    · simp only [List.getElem?_toArray, List.getElem?_cons_succ, List.getElem?_cons_zero, Option.some.injEq] at ho
      subst ho
      obtain rfl : b1 = false := by simpa using hun
      clear hun
      obtain rfl : b0 = true := by simpa [Region.binds] using haf ⟨0, .data⟩ (by simp) (by rfl)
      clear haf
      obtain rfl : b6 = false := by cases hb : b6; rfl; exact absurd (hs6 hb).2 (by simp)
      have raa' := raa.fwd hFq
      obtain rfl := hl0 rfl
      refine wpOp_step rfl (fun K' hK => ?_)
      have HK := hid hK
      clear hK
      go_simp
      refine (make2law_any raa').mono ?_
      rintro e wz ⟨v, rfl, hv, hfz⟩
      go_wp2_with fail
      refine HK.out _ _ ?_
      exact ⟨true, true, b2, b3, b4, b5, false, b7, _, _, s14, s15, s5, s6, rfl, rfl, (hFq.trans hfz), (fun _ => rfl), hl2, (fun _ => (by rw [HQX.out]; exact hv)), (fun h => (hc3 h).fwd hfz), (hv4.unstored.fwd hfz), (hv5.fwd hfz), (fun h => by cases h), hs7, hd4_5⟩
    · simp only [List.getElem?_toArray, List.getElem?_cons_succ, List.getElem?_cons_zero, Option.some.injEq] at ho
      subst ho
      obtain rfl : b2 = false := by simpa using hun
      clear hun
      clear haf
      have q0 := hFq.cell bc0
      have q1 := hFq.cell bc1
      have q2 := hFq.cell bc2
      refine wpOp_step rfl (fun K' hK => ?_)
      have HK := hid hK
      clear hK
      go_simp
      refine HK.out _ _ ?_
      exact ⟨b0, b1, true, b3, b4, b5, b6, b7, s12, s13, _, s15, s5, s6, rfl, rfl, hFq, hl0, (fun _ => rfl), hc1, hc3, hv4, hv5, hs6, hs7, hd4_5⟩
    · simp only [List.getElem?_toArray, List.getElem?_cons_succ, List.getElem?_cons_zero, Option.some.injEq] at ho
      subst ho
      obtain rfl : b3 = false := by simpa using hun
      clear hun
      obtain rfl : b2 = true := by simpa [Region.binds] using haf ⟨2, .data⟩ (by simp) (by rfl)
      clear haf
      obtain rfl : b7 = false := by cases hb : b7; rfl; exact absurd (hs7 hb).2 (by simp)
      have rab' := rab.fwd hFq
      obtain rfl := hl2 rfl
      refine wpOp_step rfl (fun K' hK => ?_)
      have HK := hid hK
      clear hK
      go_simp
      refine (make2law_any rab').mono ?_
      rintro e wz ⟨v, rfl, hv, hfz⟩
      go_wp2_with fail
      refine HK.out _ _ ?_
      exact ⟨b0, b1, true, true, b4, b5, b6, false, s12, s13, _, _, s5, s6, rfl, rfl, (hFq.trans hfz), hl0, (fun _ => rfl), (fun h => (hc1 h).fwd hfz), (fun _ => (by rw [HQY.out]; exact hv)), (hv4.fwd hfz), (hv5.unstored.fwd hfz), hs6, (fun h => by cases h), hd4_5⟩
    · simp only [List.getElem?_toArray, List.getElem?_cons_succ, List.getElem?_cons_zero, Option.some.injEq] at ho
      subst ho
      obtain rfl : b4 = false := by simpa using hun
      clear hun
      clear haf
      obtain rfl : b6 = false := by cases hb : b6; rfl; exact absurd (hs6 hb).1 (by simp)
      have hfz : Fwd wq (wq.alloc (.cells #[.bool false, .slice none 0 0, .slice none 0 0] 27)) := (Fwd.refl wq).alloc _
      refine wpOp_step rfl (fun K' hK => ?_)
      have HK := hid hK
      clear hK
      go_simp
      refine HK.out _ _ ?_
      exact ⟨b0, b1, b2, b3, true, b5, false, b7, s12, s13, s14, s15, _, s6, rfl, rfl, (hFq.trans hfz), hl0, hl2, (fun h => (hc1 h).fwd hfz), (fun h => (hc3 h).fwd hfz), (fun _ => ⟨wq.heap.size, rfl, hFq.size, fun _ => BlkV.made wq 27 [.bool false, .slice none 0 0, .slice none 0 0], (fun h => by cases h)⟩), (hv5.fwd hfz), (fun h => by cases h), hs7, (fun _ h e => hv5.lt h e.symm)⟩
    · simp only [List.getElem?_toArray, List.getElem?_cons_succ, List.getElem?_cons_zero, Option.some.injEq] at ho
      subst ho
      obtain rfl : b5 = false := by simpa using hun
      clear hun
      clear haf
      obtain rfl : b7 = false := by cases hb : b7; rfl; exact absurd (hs7 hb).1 (by simp)
      have hfz : Fwd wq (wq.alloc (.cells #[.bool false, .slice none 0 0, .slice none 0 0] 27)) := (Fwd.refl wq).alloc _
      refine wpOp_step rfl (fun K' hK => ?_)
      have HK := hid hK
      clear hK
      go_simp
      refine HK.out _ _ ?_
      exact ⟨b0, b1, b2, b3, b4, true, b6, false, s12, s13, s14, s15, s5, _, rfl, rfl, (hFq.trans hfz), hl0, hl2, (fun h => (hc1 h).fwd hfz), (fun h => (hc3 h).fwd hfz), (hv4.fwd hfz), (fun _ => ⟨wq.heap.size, rfl, hFq.size, fun _ => BlkV.made wq 27 [.bool false, .slice none 0 0, .slice none 0 0], (fun h => by cases h)⟩), hs6, (fun h => by cases h), (fun h _ e => hv4.lt h e)⟩
    · simp only [List.getElem?_toArray, List.getElem?_cons_succ, List.getElem?_cons_zero, Option.some.injEq] at ho
      subst ho
      obtain rfl : b6 = false := by simpa using hun
      clear hun
      obtain rfl : b1 = true := by simpa [Region.binds] using haf ⟨1, .data⟩ (by simp) (by rfl)
      obtain rfl : b4 = true := by simpa [Region.binds] using haf ⟨4, .data⟩ (by simp) (by rfl)
      clear haf
      obtain ⟨g, rfl, hge, hz, -⟩ := hv4 rfl
      have kz := hz rfl
      have hC := hc1 rfl
      obtain ⟨po, pc, qo, qc, rfl, p1, p2, p3, p4, -, -⟩ := RW.open hC.rw'
      have z0 := BlkV.cell kz 0 rfl
      have zz0 := BlkV.frozen kz 0
      have z1 := BlkV.cell kz 1 rfl
      have zz1 := BlkV.frozen kz 1
      have z2 := BlkV.cell kz 2 rfl
      have zz2 := BlkV.frozen kz 2
      have hon := only_of_set3 kz (.bool (negQ qX)) (.slice po (nl qX.num.natAbs) pc) (.slice qo (nl qX.den) qc)
      have hset := ((BlkV.set kz 0 (.bool (negQ qX))).set 1 (.slice po (nl qX.num.natAbs) pc)).set 2 (.slice qo (nl qX.den) qc)
      refine wpOp_step rfl (fun K' hK => ?_)
      have HK := hid hK
      clear hK
      go_simp
      refine HK.out _ _ ?_
      exact ⟨b0, true, b2, b3, true, b5, true, b7, s12, _, s14, s15, _, s6, rfl, rfl, (hFq.wrote hon hge), hl0, hl2, (fun h => (hc1 h).keepV kz (by simp) hon), (fun h => (hc3 h).keepV kz (by simp) hon), (fun _ => ⟨g, rfl, hge, (fun h => by cases h), fun _ => ⟨[.bool (negQ qX), .slice po (nl qX.num.natAbs) pc, .slice qo (nl qX.den) qc], rfl, hset⟩⟩), (hv5.only (fun h e => hd4_5 rfl h e.symm) hon), (fun _ => ⟨rfl, rfl⟩), hs7, hd4_5⟩
    · simp only [List.getElem?_toArray, List.getElem?_cons_succ, List.getElem?_cons_zero, Option.some.injEq] at ho
      subst ho
      obtain rfl : b7 = false := by simpa using hun
      clear hun
      obtain rfl : b3 = true := by simpa [Region.binds] using haf ⟨3, .data⟩ (by simp) (by rfl)
      obtain rfl : b5 = true := by simpa [Region.binds] using haf ⟨5, .data⟩ (by simp) (by rfl)
      clear haf
      obtain ⟨g, rfl, hge, hz, -⟩ := hv5 rfl
      have kz := hz rfl
      have hC := hc3 rfl
      obtain ⟨po, pc, qo, qc, rfl, p1, p2, p3, p4, -, -⟩ := RW.open hC.rw'
      have z0 := BlkV.cell kz 0 rfl
      have zz0 := BlkV.frozen kz 0
      have z1 := BlkV.cell kz 1 rfl
      have zz1 := BlkV.frozen kz 1
      have z2 := BlkV.cell kz 2 rfl
      have zz2 := BlkV.frozen kz 2
      have hon := only_of_set3 kz (.bool (negQ qY)) (.slice po (nl qY.num.natAbs) pc) (.slice qo (nl qY.den) qc)
      have hset := ((BlkV.set kz 0 (.bool (negQ qY))).set 1 (.slice po (nl qY.num.natAbs) pc)).set 2 (.slice qo (nl qY.den) qc)
      refine wpOp_step rfl (fun K' hK => ?_)
      have HK := hid hK
      clear hK
      go_simp
      refine HK.out _ _ ?_
      exact ⟨b0, b1, b2, true, b4, true, b6, true, s12, s13, s14, _, s5, _, rfl, rfl, (hFq.wrote hon hge), hl0, hl2, (fun h => (hc1 h).keepV kz (by simp) hon), (fun h => (hc3 h).keepV kz (by simp) hon), (hv4.only (fun h e => hd4_5 h rfl e) hon), (fun _ => ⟨g, rfl, hge, (fun h => by cases h), fun _ => ⟨[.bool (negQ qY), .slice po (nl qY.num.natAbs) pc, .slice qo (nl qY.den) qc], rfl, hset⟩⟩), hs6, (fun _ => ⟨rfl, rfl⟩), hd4_5⟩
  case hdone =>
  rintro listed a' w2 ⟨b0, b1, b2, b3, b4, b5, b6, b7, s12, s13, s14, s15, s5, s6, rfl, rfl, hFq, hl0, hl2, hc1, hc3, hv4, hv5, hs6, hs7, hd4_5⟩ hall
  obtain rfl : b0 = true := by simpa using hall 0 (by simp)
  obtain rfl : b1 = true := by simpa using hall 1 (by simp)
  obtain rfl : b2 = true := by simpa using hall 2 (by simp)
  obtain rfl : b3 = true := by simpa using hall 3 (by simp)
  obtain rfl : b4 = true := by simpa using hall 4 (by simp)
  obtain rfl : b5 = true := by simpa using hall 5 (by simp)
  obtain rfl : b6 = true := by simpa using hall 6 (by simp)
  obtain rfl : b7 = true := by simpa using hall 7 (by simp)
  clear hall
  obtain rfl := hl0 rfl
  obtain rfl := hl2 rfl
  obtain ⟨gX, rfl, hgeX, -, hstX⟩ := hv4 rfl
  obtain ⟨csX, hcsX, kX⟩ := hstX rfl
  have rX := hc1 rfl
  obtain ⟨poX, pcX, qoX, qcX, rfl, p1X, p2X, p3X, p4X, -, -⟩ := RW.open rX.rw'
  obtain rfl : csX = [.bool (negQ qX), .slice poX (nl qX.num.natAbs) pcX, .slice qoX (nl qX.den) qcX] := by injection hcsX with h; exact (List.toArray_inj h).symm
  clear hcsX hstX hv4 hc1 hs6
  obtain ⟨gY, rfl, hgeY, -, hstY⟩ := hv5 rfl
  obtain ⟨csY, hcsY, kY⟩ := hstY rfl
  have rY := hc3 rfl
  obtain ⟨poY, pcY, qoY, qcY, rfl, p1Y, p2Y, p3Y, p4Y, -, -⟩ := RW.open rY.rw'
  obtain rfl : csY = [.bool (negQ qY), .slice poY (nl qY.num.natAbs) pcY, .slice qoY (nl qY.den) qcY] := by injection hcsY with h; exact (List.toArray_inj h).symm
  clear hcsY hstY hv5 hc3 hs7
  have hne0_1 : gX ≠ gY := fun e => hd4_5 rfl rfl (by rw [e])
  clear hd4_5
  clear ac0 ac1 ac2 bc0 bc1 bc2
  have hsz0 : w.heap.size < w1.heap.size ∧ w.heap.size + 1 < w1.heap.size := ⟨kA.lt, kB.lt⟩
  replace kA := kA.fwd hFq
  replace kB := kB.fwd hFq
  replace hF := hF.trans hFq
  clear hFq
  simp only [Act.put, List.setIfInBounds_toArray, List.set_cons_zero, List.set_cons_succ]
  have ac0 := BlkV.cell kA 0 rfl
  have ac1 := BlkV.cell kA 1 rfl
  have ac2 := BlkV.cell kA 2 rfl
  have bc0 := BlkV.cell kB 0 rfl
  have bc1 := BlkV.cell kB 1 rfl
  have bc2 := BlkV.cell kB 2 rfl
  have xc0 := BlkV.cell kX 0 rfl
  have xc1 := BlkV.cell kX 1 rfl
  have xc2 := BlkV.cell kX 2 rfl
  have yc0 := BlkV.cell kY 0 rfl
  have yc1 := BlkV.cell kY 1 rfl
  have yc2 := BlkV.cell kY 2 rfl
  clear kA raa kB rab ac0 ac1 ac2 bc0 bc1 bc2
  have b2 : nr ((2 : Int) : Rat) ≤ 1 := by decide +kernel
  have h20 : ((2 : Int) : Rat) ≠ 0 := by decide +kernel
  have H20 := hid h20
  clear h20
  have bnf1 := nr_add qX qY
  have bd := nr_div (a := qX + qY) H20.out
  obtain ⟨qH, hqH⟩ : ∃ q, q = (qX + qY) / ((2 : Int) : Rat) := ⟨_, rfl⟩
  rw [← hqH] at bd
  have HQH := hid hqH
  have h2e : qH + qH = qX + qY := by
    rw [hqH]
    have e2 : ((2 : Int) : Rat) = 2 := by decide +kernel
    rw [e2]
    grind
  have HM := hid (half_cmp h2e)
  clear hqH h2e
  obtain ⟨o, ho⟩ : ∃ o, o = cmpQ qX qY := ⟨_, rfl⟩
  rw [← ho] at HM
  have HO := hid ho
  have ob : -1 ≤ o ∧ o ≤ 1 := by
    rw [ho]
    unfold cmpQ
    split
    · omega
    · split <;> omega
  obtain ⟨ob1, ob2⟩ := ob
  clear ho
  go_wp2_with fail
  refine (radd_any rX rY (by omega) (by omega)).mono ?_
  rintro e w3 ⟨vf1, rfl, f1, hf3⟩
  replace rX := rX.fwd hf3
  replace rY := rY.fwd hf3
  replace kX := kX.fwd hf3
  replace kY := kY.fwd hf3
  replace hF := hF.trans hf3
  clear hf3
  clear xc0 xc1 xc2
  have xc0 := BlkV.cell kX 0 rfl
  have xc1 := BlkV.cell kX 1 rfl
  have xc2 := BlkV.cell kX 2 rfl
  clear yc0 yc1 yc2
  have yc0 := BlkV.cell kY 0 rfl
  have yc1 := BlkV.cell kY 1 rfl
  have yc2 := BlkV.cell kY 2 rfl
  go_wp2_with fail
  refine (int2_any _ 2 (by omega) (by omega)).mono ?_
  rintro e w4 ⟨v2, rfl, f2, hf4⟩
  replace rX := rX.fwd hf4
  replace rY := rY.fwd hf4
  replace f1 := f1.fwd hf4
  replace kX := kX.fwd hf4
  replace kY := kY.fwd hf4
  replace hF := hF.trans hf4
  clear hf4
  clear xc0 xc1 xc2
  have xc0 := BlkV.cell kX 0 rfl
  have xc1 := BlkV.cell kX 1 rfl
  have xc2 := BlkV.cell kX 2 rfl
  clear yc0 yc1 yc2
  have yc0 := BlkV.cell kY 0 rfl
  have yc1 := BlkV.cell kY 1 rfl
  have yc2 := BlkV.cell kY 2 rfl
  go_wp2_with fail
  refine (rquo_any f1 f2 (by omega) (by omega) H20.out).mono ?_
  rintro e w5 ⟨v, rfl, rH, hf5⟩
  replace rX := rX.fwd hf5
  replace rY := rY.fwd hf5
  replace f1 := f1.fwd hf5
  replace f2 := f2.fwd hf5
  replace kX := kX.fwd hf5
  replace kY := kY.fwd hf5
  replace hF := hF.trans hf5
  clear hf5
  clear xc0 xc1 xc2
  have xc0 := BlkV.cell kX 0 rfl
  have xc1 := BlkV.cell kX 1 rfl
  have xc2 := BlkV.cell kX 2 rfl
  clear yc0 yc1 yc2
  have yc0 := BlkV.cell kY 0 rfl
  have yc1 := BlkV.cell kY 1 rfl
  have yc2 := BlkV.cell kY 2 rfl
  rw [← HQH.out] at rH
  have HV := hid rH
  obtain ⟨poH, pcH, qoH, qcH, rfl, p1H, p2H, p3H, p4H, -, -⟩ := RW.open rH.rw'
  clear rH
  have rH := HV.out
  clear HV
  clear f1 f2
  have ltX5 := BlkV.lt kX
  have ltY5 := BlkV.lt kY
  have hfB : Fwd w5 (w5.alloc (.cells #[.bool (negQ qH), .slice poH (nl qH.num.natAbs) pcH, .slice qoH (nl qH.den) qcH] 27)) := (Fwd.refl _).alloc _
  replace rX := rX.fwd hfB
  replace rY := rY.fwd hfB
  replace rH := rH.fwd hfB
  replace kX := kX.fwd hfB
  replace kY := kY.fwd hfB
  replace hF := hF.trans hfB
  clear hfB
  clear xc0 xc1 xc2
  have xc0 := BlkV.cell kX 0 rfl
  have xc1 := BlkV.cell kX 1 rfl
  have xc2 := BlkV.cell kX 2 rfl
  clear yc0 yc1 yc2
  have yc0 := BlkV.cell kY 0 rfl
  have yc1 := BlkV.cell kY 1 rfl
  have yc2 := BlkV.cell kY 2 rfl
  have kH := BlkV.made w5 27 [.bool (negQ qH), .slice poH (nl qH.num.natAbs) pcH, .slice qoH (nl qH.den) qcH]
  go_upto_region 5 with fail
  generalize (w5.alloc (.cells #[.bool (negQ qH), .slice poH (nl qH.num.natAbs) pcH, .slice qoH (nl qH.den) qcH] 27)) = w6 at kH rX rY rH kX kY hF ⊢
  clear xc0 xc1 xc2 yc0 yc1 yc2
  have xc0 := BlkV.cell kX 0 rfl
  have xc1 := BlkV.cell kX 1 rfl
  have xc2 := BlkV.cell kX 2 rfl
  have yc0 := BlkV.cell kY 0 rfl
  have yc1 := BlkV.cell kY 1 rfl
  have yc2 := BlkV.cell kY 2 rfl
  have hc0 := BlkV.cell kH 0 rfl
  have hc1 := BlkV.cell kH 1 rfl
  have hc2 := BlkV.cell kH 2 rfl
  go_wp2_with fail
  refine (rcmp_any rX rY (by omega) (by omega)).mono ?_
  rintro e w7 ⟨rfl, hf7⟩
  replace rX := rX.fwd hf7
  replace rY := rY.fwd hf7
  replace rH := rH.fwd hf7
  replace kX := kX.fwd hf7
  replace kY := kY.fwd hf7
  replace kH := kH.fwd hf7
  replace hF := hF.trans hf7
  clear hf7
  clear xc0 xc1 xc2
  have xc0 := BlkV.cell kX 0 rfl
  have xc1 := BlkV.cell kX 1 rfl
  have xc2 := BlkV.cell kX 2 rfl
  clear yc0 yc1 yc2
  have yc0 := BlkV.cell kY 0 rfl
  have yc1 := BlkV.cell kY 1 rfl
  have yc2 := BlkV.cell kY 2 rfl
  clear hc0 hc1 hc2
  have hc0 := BlkV.cell kH 0 rfl
  have hc1 := BlkV.cell kH 1 rfl
  have hc2 := BlkV.cell kH 2 rfl
  rw [← HO.out]
  go_upto_region 6 with fail
  have bng1 := nr_sub qH qX
  have bng2 := nr_sub qY qH
  replace rX := rX.drew
  replace rY := rY.drew
  replace rH := rH.drew
  replace kX := kX.drew
  replace kY := kY.drew
  replace kH := kH.drew
  replace hF := hF.drew
  clear xc0 xc1 xc2
  have xc0 := BlkV.cell kX 0 rfl
  have xc1 := BlkV.cell kX 1 rfl
  have xc2 := BlkV.cell kX 2 rfl
  clear yc0 yc1 yc2
  have yc0 := BlkV.cell kY 0 rfl
  have yc1 := BlkV.cell kY 1 rfl
  have yc2 := BlkV.cell kY 2 rfl
  clear hc0 hc1 hc2
  have hc0 := BlkV.cell kH 0 rfl
  have hc1 := BlkV.cell kH 1 rfl
  have hc2 := BlkV.cell kH 2 rfl
  refine wp_region_held_drew (S := fun w' => w'.cell? ⟨gX, 0, none⟩ = some (.bool (negQ qX)) ∧ w'.cell? ⟨gX, 1, none⟩ = some (.slice poX (nl qX.num.natAbs) pcX) ∧ w'.cell? ⟨gX, 2, none⟩ = some (.slice qoX (nl qX.den) qcX) ∧ w'.cell? ⟨gY, 0, none⟩ = some (.bool (negQ qY)) ∧ w'.cell? ⟨gY, 1, none⟩ = some (.slice poY (nl qY.num.natAbs) pcY) ∧ w'.cell? ⟨gY, 2, none⟩ = some (.slice qoY (nl qY.den) qcY) ∧ w'.cell? ⟨w5.heap.size, 0, none⟩ = some (.bool (negQ qH)) ∧ w'.cell? ⟨w5.heap.size, 1, none⟩ = some (.slice poH (nl qH.num.natAbs) pcH) ∧ w'.cell? ⟨w5.heap.size, 2, none⟩ = some (.slice qoH (nl qH.den) qcH)) (by kernel_rfl) ⟨by with_reducible assumption, by with_reducible assumption, by with_reducible assumption, by with_reducible assumption, by with_reducible assumption, by with_reducible assumption, by with_reducible assumption, by with_reducible assumption, by with_reducible assumption⟩ (fun hHeld => ?_)
  refine wpAnyH_take (i := 0) (oi := ?oi2_416_0) (v := ?vv2_416_0) ?hi2_416_0 (by kernel_rfl) (by kernel_rfl) (by kernel_rfl) ?hq2_416_0 ?hy2_416_0 hHeld ?rest2_416_0
  case hi2_416_0 => (simp only [List.getElem?_toArray, List.getElem?_cons_succ, List.getElem?_cons_zero]; rfl)
  case hq2_416_0 => exact fun _ _ _ h => h
  case hy2_416_0 =>
    refine Or.inl ⟨by rfl, ?_⟩
    intro wS hSw
    try dsimp only at hSw
    obtain ⟨q0, q1, q2, q3, q4, q5, q6, q7, q8⟩ := hSw
    go_simp
    try with_reducible rfl
  simp only [Act.put, List.setIfInBounds_toArray, List.set_cons_zero, List.set_cons_succ]
  refine wpAnyH_take (i := 1) (oi := ?oi2_427_1) (v := ?vv2_427_1) ?hi2_427_1 (by kernel_rfl) (by kernel_rfl) (by kernel_rfl) ?hq2_427_1 ?hy2_427_1 hHeld ?rest2_427_1
  case hi2_427_1 => (simp only [List.getElem?_toArray, List.getElem?_cons_succ, List.getElem?_cons_zero]; rfl)
  case hq2_427_1 => exact fun _ _ _ h => h
  case hy2_427_1 =>
    refine Or.inl ⟨by rfl, ?_⟩
    intro wS hSw
    try dsimp only at hSw
    obtain ⟨q0, q1, q2, q3, q4, q5, q6, q7, q8⟩ := hSw
    go_simp
    try with_reducible rfl
  simp only [Act.put, List.setIfInBounds_toArray, List.set_cons_zero, List.set_cons_succ]
  refine wpAnyH_take (i := 2) (oi := ?oi2_438_2) (v := ?vv2_438_2) ?hi2_438_2 (by kernel_rfl) (by kernel_rfl) (by kernel_rfl) ?hq2_438_2 ?hy2_438_2 hHeld ?rest2_438_2
  case hi2_438_2 => (simp only [List.getElem?_toArray, List.getElem?_cons_succ, List.getElem?_cons_zero]; rfl)
  case hq2_438_2 => exact fun _ _ _ h => h
  case hy2_438_2 =>
    refine Or.inl ⟨by rfl, ?_⟩
    intro wS hSw
    try dsimp only at hSw
    obtain ⟨q0, q1, q2, q3, q4, q5, q6, q7, q8⟩ := hSw
    go_simp
    try with_reducible rfl
  simp only [Act.put, List.setIfInBounds_toArray, List.set_cons_zero, List.set_cons_succ]
  refine wpAnyH_take (i := 3) (oi := ?oi2_449_3) (v := ?vv2_449_3) ?hi2_449_3 (by kernel_rfl) (by kernel_rfl) (by kernel_rfl) ?hq2_449_3 ?hy2_449_3 hHeld ?rest2_449_3
  case hi2_449_3 => (simp only [List.getElem?_toArray, List.getElem?_cons_succ, List.getElem?_cons_zero]; rfl)
  case hq2_449_3 => exact fun _ _ _ h => h
  case hy2_449_3 =>
    refine Or.inl ⟨by rfl, ?_⟩
    intro wS hSw
    try dsimp only at hSw
    obtain ⟨q0, q1, q2, q3, q4, q5, q6, q7, q8⟩ := hSw
    go_simp
    try with_reducible rfl
  simp only [Act.put, List.setIfInBounds_toArray, List.set_cons_zero, List.set_cons_succ]
  refine wpAnyH_take (i := 4) (oi := ?oi2_460_4) (v := ?vv2_460_4) ?hi2_460_4 (by kernel_rfl) (by kernel_rfl) (by kernel_rfl) ?hq2_460_4 ?hy2_460_4 hHeld ?rest2_460_4
  case hi2_460_4 => (simp only [List.getElem?_toArray, List.getElem?_cons_succ, List.getElem?_cons_zero]; rfl)
  case hq2_460_4 => exact fun _ _ _ h => h
  case hy2_460_4 =>
    refine Or.inl ⟨by rfl, ?_⟩
    intro wS hSw
    try dsimp only at hSw
    obtain ⟨q0, q1, q2, q3, q4, q5, q6, q7, q8⟩ := hSw
    go_simp
    try with_reducible rfl
  simp only [Act.put, List.setIfInBounds_toArray, List.set_cons_zero, List.set_cons_succ]
  refine wpAnyH_take (i := 6) (oi := ?oi2_471_6) (v := ?vv2_471_6) ?hi2_471_6 (by kernel_rfl) (by kernel_rfl) (by kernel_rfl) ?hq2_471_6 ?hy2_471_6 hHeld ?rest2_471_6
  case hi2_471_6 => (simp only [List.getElem?_toArray, List.getElem?_cons_succ, List.getElem?_cons_zero]; rfl)
  case hq2_471_6 => exact fun _ _ _ h => h
  case hy2_471_6 =>
    refine Or.inl ⟨by rfl, ?_⟩
    intro wS hSw
    try dsimp only at hSw
    obtain ⟨q0, q1, q2, q3, q4, q5, q6, q7, q8⟩ := hSw
    go_simp
    try with_reducible rfl
  simp only [Act.put, List.setIfInBounds_toArray, List.set_cons_zero, List.set_cons_succ]
  refine wpAnyH_ready (rs := [5]) (by kernel_rfl) (by simp) ?_
  refine AllReadyH.cons rfl (fun K hK => ?_) AllReadyH.nil
  go_simp
  refine (rcmp_any rX rH (by omega) (by omega)).mono ?_
  rintro e w8 ⟨rfl, hf8⟩
  replace rX := rX.fwd hf8
  replace rY := rY.fwd hf8
  replace rH := rH.fwd hf8
  replace kX := kX.fwd hf8
  replace kY := kY.fwd hf8
  replace kH := kH.fwd hf8
  replace hF := hF.trans hf8
  clear hf8
  clear xc0 xc1 xc2
  have xc0 := BlkV.cell kX 0 rfl
  have xc1 := BlkV.cell kX 1 rfl
  have xc2 := BlkV.cell kX 2 rfl
  clear yc0 yc1 yc2
  have yc0 := BlkV.cell kY 0 rfl
  have yc1 := BlkV.cell kY 1 rfl
  have yc2 := BlkV.cell kY 2 rfl
  clear hc0 hc1 hc2
  have hc0 := BlkV.cell kH 0 rfl
  have hc1 := BlkV.cell kH 1 rfl
  have hc2 := BlkV.cell kH 2 rfl
  rw [HM.out.1]
  go_wp2_with fail
  clear hHeld
  refine hK.out _ _ ⟨by with_reducible assumption, by with_reducible assumption, by with_reducible assumption, by with_reducible assumption, by with_reducible assumption, by with_reducible assumption, by with_reducible assumption, by with_reducible assumption, by with_reducible assumption⟩ (fun hHeld => ?_)
  clear hK K
  try simp only [Act.put, List.setIfInBounds_toArray, List.set_cons_zero, List.set_cons_succ]
  refine wpAnyH_take (i := 7) (oi := ?oi2_513_7) (v := ?vv2_513_7) ?hi2_513_7 (by kernel_rfl) (by kernel_rfl) (by kernel_rfl) ?hq2_513_7 ?hy2_513_7 hHeld ?rest2_513_7
  case hi2_513_7 => (simp only [List.getElem?_toArray, List.getElem?_cons_succ, List.getElem?_cons_zero]; rfl)
  case hq2_513_7 => exact fun _ _ _ h => h
  case hy2_513_7 =>
    refine Or.inl ⟨by rfl, ?_⟩
    intro wS hSw
    try dsimp only at hSw
    obtain ⟨q0, q1, q2, q3, q4, q5, q6, q7, q8⟩ := hSw
    go_simp
    try with_reducible rfl
  simp only [Act.put, List.setIfInBounds_toArray, List.set_cons_zero, List.set_cons_succ]
  refine wpAnyH_take (i := 8) (oi := ?oi2_524_8) (v := ?vv2_524_8) ?hi2_524_8 (by kernel_rfl) (by kernel_rfl) (by kernel_rfl) ?hq2_524_8 ?hy2_524_8 hHeld ?rest2_524_8
  case hi2_524_8 => (simp only [List.getElem?_toArray, List.getElem?_cons_succ, List.getElem?_cons_zero]; rfl)
  case hq2_524_8 => exact fun _ _ _ h => h
  case hy2_524_8 =>
    refine Or.inl ⟨by rfl, ?_⟩
    intro wS hSw
    try dsimp only at hSw
    obtain ⟨q0, q1, q2, q3, q4, q5, q6, q7, q8⟩ := hSw
    go_simp
    try with_reducible rfl
  simp only [Act.put, List.setIfInBounds_toArray, List.set_cons_zero, List.set_cons_succ]
  refine wpAnyH_take (i := 9) (oi := ?oi2_535_9) (v := ?vv2_535_9) ?hi2_535_9 (by kernel_rfl) (by kernel_rfl) (by kernel_rfl) ?hq2_535_9 ?hy2_535_9 hHeld ?rest2_535_9
  case hi2_535_9 => (simp only [List.getElem?_toArray, List.getElem?_cons_succ, List.getElem?_cons_zero]; rfl)
  case hq2_535_9 => exact fun _ _ _ h => h
  case hy2_535_9 =>
    refine Or.inl ⟨by rfl, ?_⟩
    intro wS hSw
    try dsimp only at hSw
    obtain ⟨q0, q1, q2, q3, q4, q5, q6, q7, q8⟩ := hSw
    go_simp
    try with_reducible rfl
  simp only [Act.put, List.setIfInBounds_toArray, List.set_cons_zero, List.set_cons_succ]
  refine wpAnyH_take (i := 10) (oi := ?oi2_546_10) (v := ?vv2_546_10) ?hi2_546_10 (by kernel_rfl) (by kernel_rfl) (by kernel_rfl) ?hq2_546_10 ?hy2_546_10 hHeld ?rest2_546_10
  case hi2_546_10 => (simp only [List.getElem?_toArray, List.getElem?_cons_succ, List.getElem?_cons_zero]; rfl)
  case hq2_546_10 => exact fun _ _ _ h => h
  case hy2_546_10 =>
    refine Or.inl ⟨by rfl, ?_⟩
    intro wS hSw
    try dsimp only at hSw
    obtain ⟨q0, q1, q2, q3, q4, q5, q6, q7, q8⟩ := hSw
    go_simp
    try with_reducible rfl
  simp only [Act.put, List.setIfInBounds_toArray, List.set_cons_zero, List.set_cons_succ]
  refine wpAnyH_take (i := 11) (oi := ?oi2_557_11) (v := ?vv2_557_11) ?hi2_557_11 (by kernel_rfl) (by kernel_rfl) (by kernel_rfl) ?hq2_557_11 ?hy2_557_11 hHeld ?rest2_557_11
  case hi2_557_11 => (simp only [List.getElem?_toArray, List.getElem?_cons_succ, List.getElem?_cons_zero]; rfl)
  case hq2_557_11 => exact fun _ _ _ h => h
  case hy2_557_11 =>
    refine Or.inl ⟨by rfl, ?_⟩
    intro wS hSw
    try dsimp only at hSw
    obtain ⟨q0, q1, q2, q3, q4, q5, q6, q7, q8⟩ := hSw
    go_simp
    try with_reducible rfl
  simp only [Act.put, List.setIfInBounds_toArray, List.set_cons_zero, List.set_cons_succ]
  refine wpAnyH_take (i := 13) (oi := ?oi2_568_13) (v := ?vv2_568_13) ?hi2_568_13 (by kernel_rfl) (by kernel_rfl) (by kernel_rfl) ?hq2_568_13 ?hy2_568_13 hHeld ?rest2_568_13
  case hi2_568_13 => (simp only [List.getElem?_toArray, List.getElem?_cons_succ, List.getElem?_cons_zero]; rfl)
  case hq2_568_13 => exact fun _ _ _ h => h
  case hy2_568_13 =>
    refine Or.inl ⟨by rfl, ?_⟩
    intro wS hSw
    try dsimp only at hSw
    obtain ⟨q0, q1, q2, q3, q4, q5, q6, q7, q8⟩ := hSw
    go_simp
    try with_reducible rfl
  simp only [Act.put, List.setIfInBounds_toArray, List.set_cons_zero, List.set_cons_succ]
  refine wpAnyH_ready (rs := [12]) (by kernel_rfl) (by simp) ?_
  refine AllReadyH.cons rfl (fun K hK => ?_) AllReadyH.nil
  go_simp
  refine (rcmp_any rH rY (by omega) (by omega)).mono ?_
  rintro e w9 ⟨rfl, hf9⟩
  replace rX := rX.fwd hf9
  replace rY := rY.fwd hf9
  replace rH := rH.fwd hf9
  replace kX := kX.fwd hf9
  replace kY := kY.fwd hf9
  replace kH := kH.fwd hf9
  replace hF := hF.trans hf9
  clear hf9
  clear xc0 xc1 xc2
  have xc0 := BlkV.cell kX 0 rfl
  have xc1 := BlkV.cell kX 1 rfl
  have xc2 := BlkV.cell kX 2 rfl
  clear yc0 yc1 yc2
  have yc0 := BlkV.cell kY 0 rfl
  have yc1 := BlkV.cell kY 1 rfl
  have yc2 := BlkV.cell kY 2 rfl
  clear hc0 hc1 hc2
  have hc0 := BlkV.cell kH 0 rfl
  have hc1 := BlkV.cell kH 1 rfl
  have hc2 := BlkV.cell kH 2 rfl
  rw [HM.out.2.1]
  go_wp2_with fail
  clear hHeld
  refine hK.out _ _ ⟨by with_reducible assumption, by with_reducible assumption, by with_reducible assumption, by with_reducible assumption, by with_reducible assumption, by with_reducible assumption, by with_reducible assumption, by with_reducible assumption, by with_reducible assumption⟩ (fun hHeld => ?_)
  clear hK K
  try simp only [Act.put, List.setIfInBounds_toArray, List.set_cons_zero, List.set_cons_succ]
  refine wpAnyH_take (i := 14) (oi := ?oi2_610_14) (v := ?vv2_610_14) ?hi2_610_14 (by kernel_rfl) (by kernel_rfl) (by kernel_rfl) ?hq2_610_14 ?hy2_610_14 hHeld ?rest2_610_14
  case hi2_610_14 => (simp only [List.getElem?_toArray, List.getElem?_cons_succ, List.getElem?_cons_zero]; rfl)
  case hq2_610_14 => exact fun _ _ _ h => h
  case hy2_610_14 =>
    refine Or.inl ⟨by rfl, ?_⟩
    intro wS hSw
    try dsimp only at hSw
    obtain ⟨q0, q1, q2, q3, q4, q5, q6, q7, q8⟩ := hSw
    go_simp
    try with_reducible rfl
  simp only [Act.put, List.setIfInBounds_toArray, List.set_cons_zero, List.set_cons_succ]
  refine wpAnyH_take (i := 15) (oi := ?oi2_621_15) (v := ?vv2_621_15) ?hi2_621_15 (by kernel_rfl) (by kernel_rfl) (by kernel_rfl) ?hq2_621_15 ?hy2_621_15 hHeld ?rest2_621_15
  case hi2_621_15 => (simp only [List.getElem?_toArray, List.getElem?_cons_succ, List.getElem?_cons_zero]; rfl)
  case hq2_621_15 => exact fun _ _ _ h => h
  case hy2_621_15 =>
    refine Or.inl ⟨by rfl, ?_⟩
    intro wS hSw
    try dsimp only at hSw
    obtain ⟨q0, q1, q2, q3, q4, q5, q6, q7, q8⟩ := hSw
    go_simp
    try with_reducible rfl
  simp only [Act.put, List.setIfInBounds_toArray, List.set_cons_zero, List.set_cons_succ]
  refine wpAnyH_take (i := 16) (oi := ?oi2_632_16) (v := ?vv2_632_16) ?hi2_632_16 (by kernel_rfl) (by kernel_rfl) (by kernel_rfl) ?hq2_632_16 ?hy2_632_16 hHeld ?rest2_632_16
  case hi2_632_16 => (simp only [List.getElem?_toArray, List.getElem?_cons_succ, List.getElem?_cons_zero]; rfl)
  case hq2_632_16 => exact fun _ _ _ h => h
  case hy2_632_16 =>
    refine Or.inl ⟨by rfl, ?_⟩
    intro wS hSw
    try dsimp only at hSw
    obtain ⟨q0, q1, q2, q3, q4, q5, q6, q7, q8⟩ := hSw
    go_simp
    try with_reducible rfl
  simp only [Act.put, List.setIfInBounds_toArray, List.set_cons_zero, List.set_cons_succ]
  refine wpAnyH_take (i := 17) (oi := ?oi2_643_17) (v := ?vv2_643_17) ?hi2_643_17 (by kernel_rfl) (by kernel_rfl) (by kernel_rfl) ?hq2_643_17 ?hy2_643_17 hHeld ?rest2_643_17
  case hi2_643_17 => (simp only [List.getElem?_toArray, List.getElem?_cons_succ, List.getElem?_cons_zero]; rfl)
  case hq2_643_17 => exact fun _ _ _ h => h
  case hy2_643_17 =>
    refine Or.inl ⟨by rfl, ?_⟩
    intro wS hSw
    try dsimp only at hSw
    obtain ⟨q0, q1, q2, q3, q4, q5, q6, q7, q8⟩ := hSw
    go_simp
    try with_reducible rfl
  simp only [Act.put, List.setIfInBounds_toArray, List.set_cons_zero, List.set_cons_succ]
  refine wpAnyH_take (i := 18) (oi := ?oi2_654_18) (v := ?vv2_654_18) ?hi2_654_18 (by kernel_rfl) (by kernel_rfl) (by kernel_rfl) ?hq2_654_18 ?hy2_654_18 hHeld ?rest2_654_18
  case hi2_654_18 => (simp only [List.getElem?_toArray, List.getElem?_cons_succ, List.getElem?_cons_zero]; rfl)
  case hq2_654_18 => exact fun _ _ _ h => h
  case hy2_654_18 =>
    refine Or.inl ⟨by rfl, ?_⟩
    intro wS hSw
    try dsimp only at hSw
    obtain ⟨q0, q1, q2, q3, q4, q5, q6, q7, q8⟩ := hSw
    go_simp
    try with_reducible rfl
  simp only [Act.put, List.setIfInBounds_toArray, List.set_cons_zero, List.set_cons_succ]
  refine wpAnyH_take (i := 20) (oi := ?oi2_665_20) (v := ?vv2_665_20) ?hi2_665_20 (by kernel_rfl) (by kernel_rfl) (by kernel_rfl) ?hq2_665_20 ?hy2_665_20 hHeld ?rest2_665_20
  case hi2_665_20 => (simp only [List.getElem?_toArray, List.getElem?_cons_succ, List.getElem?_cons_zero]; rfl)
  case hq2_665_20 => exact fun _ _ _ h => h
  case hy2_665_20 =>
    refine Or.inl ⟨by rfl, ?_⟩
    intro wS hSw
    try dsimp only at hSw
    obtain ⟨q0, q1, q2, q3, q4, q5, q6, q7, q8⟩ := hSw
    go_simp
    try with_reducible rfl
  simp only [Act.put, List.setIfInBounds_toArray, List.set_cons_zero, List.set_cons_succ]
  refine wpAnyH_take (i := 21) (oi := ?oi2_676_21) (v := ?vv2_676_21) ?hi2_676_21 (by kernel_rfl) (by kernel_rfl) (by kernel_rfl) ?hq2_676_21 ?hy2_676_21 hHeld ?rest2_676_21
  case hi2_676_21 => (simp only [List.getElem?_toArray, List.getElem?_cons_succ, List.getElem?_cons_zero]; rfl)
  case hq2_676_21 => exact fun _ _ _ h => h
  case hy2_676_21 =>
    refine Or.inl ⟨by rfl, ?_⟩
    intro wS hSw
    try dsimp only at hSw
    obtain ⟨q0, q1, q2, q3, q4, q5, q6, q7, q8⟩ := hSw
    go_simp
    try with_reducible rfl
  simp only [Act.put, List.setIfInBounds_toArray, List.set_cons_zero, List.set_cons_succ]
  refine wpAnyH_ready (rs := [19]) (by kernel_rfl) (by simp) ?_
  refine AllReadyH.cons rfl (fun K hK => ?_) AllReadyH.nil
  go_simp
  refine (rsub_any rH rX (by omega) (by omega)).mono ?_
  rintro e w10 ⟨vg1, rfl, g1, hf10⟩
  replace rX := rX.fwd hf10
  replace rY := rY.fwd hf10
  replace rH := rH.fwd hf10
  replace kX := kX.fwd hf10
  replace kY := kY.fwd hf10
  replace kH := kH.fwd hf10
  replace hF := hF.trans hf10
  clear hf10
  clear xc0 xc1 xc2
  have xc0 := BlkV.cell kX 0 rfl
  have xc1 := BlkV.cell kX 1 rfl
  have xc2 := BlkV.cell kX 2 rfl
  clear yc0 yc1 yc2
  have yc0 := BlkV.cell kY 0 rfl
  have yc1 := BlkV.cell kY 1 rfl
  have yc2 := BlkV.cell kY 2 rfl
  clear hc0 hc1 hc2
  have hc0 := BlkV.cell kH 0 rfl
  have hc1 := BlkV.cell kH 1 rfl
  have hc2 := BlkV.cell kH 2 rfl
  go_wp2_with fail
  clear hHeld
  refine hK.out _ _ ⟨by with_reducible assumption, by with_reducible assumption, by with_reducible assumption, by with_reducible assumption, by with_reducible assumption, by with_reducible assumption, by with_reducible assumption, by with_reducible assumption, by with_reducible assumption⟩ (fun hHeld => ?_)
  clear hK K
  try simp only [Act.put, List.setIfInBounds_toArray, List.set_cons_zero, List.set_cons_succ]
  refine wpAnyH_ready (rs := [22]) (by kernel_rfl) (by simp) ?_
  refine AllReadyH.cons rfl (fun K hK => ?_) AllReadyH.nil
  go_simp
  refine (rsub_any rY rH (by omega) (by omega)).mono ?_
  rintro e w11 ⟨vg2, rfl, g2, hf11⟩
  replace rX := rX.fwd hf11
  replace rY := rY.fwd hf11
  replace rH := rH.fwd hf11
  replace g1 := g1.fwd hf11
  replace kX := kX.fwd hf11
  replace kY := kY.fwd hf11
  replace kH := kH.fwd hf11
  replace hF := hF.trans hf11
  clear hf11
  clear xc0 xc1 xc2
  have xc0 := BlkV.cell kX 0 rfl
  have xc1 := BlkV.cell kX 1 rfl
  have xc2 := BlkV.cell kX 2 rfl
  clear yc0 yc1 yc2
  have yc0 := BlkV.cell kY 0 rfl
  have yc1 := BlkV.cell kY 1 rfl
  have yc2 := BlkV.cell kY 2 rfl
  clear hc0 hc1 hc2
  have hc0 := BlkV.cell kH 0 rfl
  have hc1 := BlkV.cell kH 1 rfl
  have hc2 := BlkV.cell kH 2 rfl
  go_wp2_with fail
  clear hHeld
  refine hK.out _ _ ⟨by with_reducible assumption, by with_reducible assumption, by with_reducible assumption, by with_reducible assumption, by with_reducible assumption, by with_reducible assumption, by with_reducible assumption, by with_reducible assumption, by with_reducible assumption⟩ (fun hHeld => ?_)
  clear hK K
  try simp only [Act.put, List.setIfInBounds_toArray, List.set_cons_zero, List.set_cons_succ]
  refine wpAnyH_ready (rs := [23]) (by kernel_rfl) (by simp) ?_
  refine AllReadyH.cons rfl (fun K hK => ?_) AllReadyH.nil
  go_simp
  refine (same2_true g1 g2 (by omega) (by omega) (HM.out.2.2)).mono ?_
  rintro e w12 ⟨rfl, hf12⟩
  replace rX := rX.fwd hf12
  replace rY := rY.fwd hf12
  replace rH := rH.fwd hf12
  replace g1 := g1.fwd hf12
  replace g2 := g2.fwd hf12
  replace kX := kX.fwd hf12
  replace kY := kY.fwd hf12
  replace kH := kH.fwd hf12
  replace hF := hF.trans hf12
  clear hf12
  clear xc0 xc1 xc2
  have xc0 := BlkV.cell kX 0 rfl
  have xc1 := BlkV.cell kX 1 rfl
  have xc2 := BlkV.cell kX 2 rfl
  clear yc0 yc1 yc2
  have yc0 := BlkV.cell kY 0 rfl
  have yc1 := BlkV.cell kY 1 rfl
  have yc2 := BlkV.cell kY 2 rfl
  clear hc0 hc1 hc2
  have hc0 := BlkV.cell kH 0 rfl
  have hc1 := BlkV.cell kH 1 rfl
  have hc2 := BlkV.cell kH 2 rfl
  go_wp2_with fail
  clear hHeld
  refine hK.out _ _ ⟨by with_reducible assumption, by with_reducible assumption, by with_reducible assumption, by with_reducible assumption, by with_reducible assumption, by with_reducible assumption, by with_reducible assumption, by with_reducible assumption, by with_reducible assumption⟩ (fun hHeld => ?_)
  clear hK K
  try simp only [Act.put, List.setIfInBounds_toArray, List.set_cons_zero, List.set_cons_succ]
  refine wpAnyH_take (i := 24) (oi := ?oi2_780_24) (v := ?vv2_780_24) ?hi2_780_24 (by kernel_rfl) (by kernel_rfl) (by kernel_rfl) ?hq2_780_24 ?hy2_780_24 hHeld ?rest2_780_24
  case hi2_780_24 => (simp only [List.getElem?_toArray, List.getElem?_cons_succ, List.getElem?_cons_zero]; rfl)
  case hq2_780_24 => exact fun _ _ _ h => h
  case hy2_780_24 =>
    refine Or.inl ⟨by rfl, ?_⟩
    intro wS hSw
    try dsimp only at hSw
    obtain ⟨q0, q1, q2, q3, q4, q5, q6, q7, q8⟩ := hSw
    go_simp
    try with_reducible rfl
  simp only [Act.put, List.setIfInBounds_toArray, List.set_cons_zero, List.set_cons_succ]
  refine wpAnyH_take (i := 25) (oi := ?oi2_791_25) (v := ?vv2_791_25) ?hi2_791_25 (by kernel_rfl) (by kernel_rfl) (by kernel_rfl) ?hq2_791_25 ?hy2_791_25 hHeld ?rest2_791_25
  case hi2_791_25 => (simp only [List.getElem?_toArray, List.getElem?_cons_succ, List.getElem?_cons_zero]; rfl)
  case hq2_791_25 => exact fun _ _ _ h => h
  case hy2_791_25 =>
    refine Or.inl ⟨by rfl, ?_⟩
    intro wS hSw
    try dsimp only at hSw
    obtain ⟨q0, q1, q2, q3, q4, q5, q6, q7, q8⟩ := hSw
    go_simp
    try with_reducible rfl
  simp only [Act.put, List.setIfInBounds_toArray, List.set_cons_zero, List.set_cons_succ]
  refine wpAnyH_done (by kernel_rfl) ?_ _
  go_wp2_with fail
  go_ret
  exact ⟨rfl, hF⟩

end Go.Proofs.YtjkoiocemolcbabDoor
