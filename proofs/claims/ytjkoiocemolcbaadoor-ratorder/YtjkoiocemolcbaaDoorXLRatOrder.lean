/- RatOrder: less and greater go with sums, and with products by what is above nought: the law's walk. -/
import Derived.Test.YtjkoiocemolcbaaDoorXU1
import Derived.Test.YtjkoiocemolcbaaDoorXV1
import Derived.Test.YtjkoiocemolcbaaDoorXP8
import Derived.Test.YtjkoiocemolcbaaDoorXP10
import Derived.Test.YtjkoiocemolcbaaDoorXP12
namespace Go.Proofs.YtjkoiocemolcbaaDoor
open Go.RowKit
set_option linter.unusedVariables false
set_option linter.unusedSimpArgs false

theorem cmpQ_bd (x y : Rat) : -1 ≤ cmpQ x y ∧ cmpQ x y ≤ 1 := by
  unfold cmpQ
  split
  · omega
  · split <;> omega
theorem cmpQ_mul {x y p : Rat} (hp : 0 < p) : cmpQ (x * p) (y * p) = cmpQ x y := by
  unfold cmpQ; simp only [Rat.mul_lt_mul_right hp]
theorem cmpQ_add (x y z : Rat) : cmpQ (x + z) (y + z) = cmpQ x y := by
  unfold cmpQ
  have h1 : (x + z < y + z) ↔ (x < y) := by grind
  have h2 : (y + z < x + z) ↔ (y < x) := by grind
  simp only [h1, h2]
theorem cmpQ_neg2 (x y : Rat) : cmpQ (-x) (-y) = cmpQ y x := by
  unfold cmpQ
  have h1 : (-x < -y) ↔ (y < x) := by grind
  have h2 : (-y < -x) ↔ (x < y) := by grind
  simp only [h1, h2]
theorem absQ_pos {q : Rat} (h : q ≠ 0) : 0 < absQ q := by unfold absQ; split <;> grind
theorem absQ_tri (x y : Rat) : cmpQ (absQ (x + y)) (absQ x + absQ y) ≤ 0 := by
  have : absQ (x + y) ≤ absQ x + absQ y := by unfold absQ; split <;> split <;> split <;> grind
  unfold cmpQ; split
  · omega
  · split
    · grind
    · omega
theorem cmpQ_pos {p : Rat} (h : 0 < p) : cmpQ p 0 = 1 := by
  unfold cmpQ; rw [if_neg (by grind), if_pos h]
theorem nr_abs (q : Rat) : nr (absQ q) = nr q := by
  obtain ⟨_, e2, e3⟩ := absQ_parts q
  unfold nr
  rw [e2, e3]

set_option maxHeartbeats 40000000 in
set_option maxRecDepth 20000 in
theorem ratOrder_walk {w : World} {a : Value} {sa : Bool} {xa ya : List Nat} {b : Value} {sb : Bool} {xb yb : List Nat} {c : Value} {sc : Bool} {xc yc : List Nat} (ha : RawA w a sa xa ya) (hb : RawA w b sb xb yb) (hc : RawA w c sc xc yc) :
    Calls Tryd.prog 7 #[a, b, c] w fun e w' => e = .returned (.bool true) ∧ Below w.heap.size w w' := by
  obtain ⟨vNa, vDa, rfl, aN, aD⟩ := ha
  obtain ⟨vNb, vDb, rfl, bN, bD⟩ := hb
  obtain ⟨vNc, vDc, rfl, cN, cD⟩ := hc
  have kA : BlkV (((w.alloc (.cells #[.bool sa, vNa, vDa] 24)).alloc (.cells #[.bool sb, vNb, vDb] 24)).alloc (.cells #[.bool sc, vNc, vDc] 24)) (w.heap.size) 24 [.bool sa, vNa, vDa] := ((BlkV.made' w (w.heap.size) (by simp) 24 [.bool sa, vNa, vDa]).alloc _).alloc _
  have kB : BlkV (((w.alloc (.cells #[.bool sa, vNa, vDa] 24)).alloc (.cells #[.bool sb, vNb, vDb] 24)).alloc (.cells #[.bool sc, vNc, vDc] 24)) (w.heap.size + 1) 24 [.bool sb, vNb, vDb] := (BlkV.made' (w.alloc (.cells #[.bool sa, vNa, vDa] 24)) (w.heap.size + 1) (by simp) 24 [.bool sb, vNb, vDb]).alloc _
  have kC : BlkV (((w.alloc (.cells #[.bool sa, vNa, vDa] 24)).alloc (.cells #[.bool sb, vNb, vDb] 24)).alloc (.cells #[.bool sc, vNc, vDc] 24)) (w.heap.size + 1 + 1) 24 [.bool sc, vNc, vDc] := BlkV.made' ((w.alloc (.cells #[.bool sa, vNa, vDa] 24)).alloc (.cells #[.bool sb, vNb, vDb] 24)) (w.heap.size + 1 + 1) (by simp) 24 [.bool sc, vNc, vDc]
  have hF : Fwd w (((w.alloc (.cells #[.bool sa, vNa, vDa] 24)).alloc (.cells #[.bool sb, vNb, vDb] 24)).alloc (.cells #[.bool sc, vNc, vDc] 24)) := (((Fwd.refl w).alloc _).alloc _).alloc _
  replace aN := aN.fwd hF
  replace aD := aD.fwd hF
  replace bN := bN.fwd hF
  replace bD := bD.fwd hF
  replace cN := cN.fwd hF
  replace cD := cD.fwd hF
  go_enter Tryd.func7, Tryd.ntmps7
  have ac0 := BlkV.cell kA 0 rfl
  have ac1 := BlkV.cell kA 1 rfl
  have ac2 := BlkV.cell kA 2 rfl
  have bc0 := BlkV.cell kB 0 rfl
  have bc1 := BlkV.cell kB 1 rfl
  have bc2 := BlkV.cell kB 2 rfl
  have cc0 := BlkV.cell kC 0 rfl
  have cc1 := BlkV.cell kC 1 rfl
  have cc2 := BlkV.cell kC 2 rfl
  go_wp2_with fail
  refine (known2_any _).mono ?_
  rintro e w1 ⟨rfl, hf1⟩
  replace aN := aN.fwd hf1
  replace aD := aD.fwd hf1
  replace bN := bN.fwd hf1
  replace bD := bD.fwd hf1
  replace cN := cN.fwd hf1
  replace cD := cD.fwd hf1
  replace kA := kA.fwd hf1
  replace kB := kB.fwd hf1
  replace kC := kC.fwd hf1
  replace hF := hF.trans hf1
  clear hf1
  clear ac0 ac1 ac2
  have ac0 := BlkV.cell kA 0 rfl
  have ac1 := BlkV.cell kA 1 rfl
  have ac2 := BlkV.cell kA 2 rfl
  clear bc0 bc1 bc2
  have bc0 := BlkV.cell kB 0 rfl
  have bc1 := BlkV.cell kB 1 rfl
  have bc2 := BlkV.cell kB 2 rfl
  clear cc0 cc1 cc2
  have cc0 := BlkV.cell kC 0 rfl
  have cc1 := BlkV.cell kC 1 rfl
  have cc2 := BlkV.cell kC 2 rfl
  have raa : RawA w1 (.agg #[.bool sa, vNa, vDa]) sa xa ya := ⟨_, _, rfl, aN, aD⟩
  have bqX := nr_rawQ sa aN.ok aD.ok
  obtain ⟨qX, hqX⟩ : ∃ q, q = rawQ sa xa ya := ⟨_, rfl⟩
  rw [← hqX] at bqX
  have HQX := hid hqX
  clear hqX
  have rab : RawA w1 (.agg #[.bool sb, vNb, vDb]) sb xb yb := ⟨_, _, rfl, bN, bD⟩
  have bqY := nr_rawQ sb bN.ok bD.ok
  obtain ⟨qY, hqY⟩ : ∃ q, q = rawQ sb xb yb := ⟨_, rfl⟩
  rw [← hqY] at bqY
  have HQY := hid hqY
  clear hqY
  have rac : RawA w1 (.agg #[.bool sc, vNc, vDc]) sc xc yc := ⟨_, _, rfl, cN, cD⟩
  have bqZ := nr_rawQ sc cN.ok cD.ok
  obtain ⟨qZ, hqZ⟩ : ∃ q, q = rawQ sc xc yc := ⟨_, rfl⟩
  rw [← hqZ] at bqZ
  have HQZ := hid hqZ
  clear hqZ
  go_upto_region 3 with fail
  refine wp_region_inv (I := (fun a0 listed a' wq => ∃ (b0 b1 b2 b3 b4 b5 b6 b7 b8 b9 b10 b11 : Bool) (s14 s15 s16 s17 s18 s19 s7 s8 s9 : Value), listed = #[b0, b1, b2, b3, b4, b5, b6, b7, b8, b9, b10, b11] ∧ a' = (Act.put (Act.put (Act.put (Act.put (Act.put (Act.put (Act.put (Act.put (Act.put a0 (some 14) s14) (some 15) s15) (some 16) s16) (some 17) s17) (some 18) s18) (some 19) s19) (some 7) s7) (some 8) s8) (some 9) s9) ∧ Fwd w1 wq ∧ (b0 = true → s14 = .agg #[.bool sa, vNa, vDa]) ∧ (b2 = true → s16 = .agg #[.bool sb, vNb, vDb]) ∧ (b4 = true → s18 = .agg #[.bool sc, vNc, vDc]) ∧ (b1 = true → RV wq s15 qX) ∧ (b3 = true → RV wq s17 qY) ∧ (b5 = true → RV wq s19 qZ) ∧ VarS wq w1.heap.size 24 [.bool false, .slice none 0 0, .slice none 0 0] b6 b9 s7 s15 ∧ VarS wq w1.heap.size 24 [.bool false, .slice none 0 0, .slice none 0 0] b7 b10 s8 s17 ∧ VarS wq w1.heap.size 24 [.bool false, .slice none 0 0, .slice none 0 0] b8 b11 s9 s19 ∧ (b9 = true → b6 = true ∧ b1 = true) ∧ (b10 = true → b7 = true ∧ b3 = true) ∧ (b11 = true → b8 = true ∧ b5 = true) ∧ VarD b6 b7 s7 s8 ∧ VarD b6 b8 s7 s9 ∧ VarD b7 b8 s8 s9)) (by kernel_rfl) (by kernel_rfl) ?h0 ?hsz ?hstep ?hdone
  case h0 =>
    exact ⟨false, false, false, false, false, false, false, false, false, false, false, false, undef, undef, undef, undef, undef, undef, undef, undef, undef, rfl, rfl, ((Fwd.refl _).drew), (fun h => by cases h), (fun h => by cases h), (fun h => by cases h), (fun h => by cases h), (fun h => by cases h), (fun h => by cases h), VarS.none _ _ _ _ _ _ _, VarS.none _ _ _ _ _ _ _, VarS.none _ _ _ _ _ _ _, (fun h => by cases h), (fun h => by cases h), (fun h => by cases h), VarD.left _ _ _, VarD.left _ _ _, VarD.left _ _ _⟩
  case hsz =>
    rintro listed a' wq ⟨b0, b1, b2, b3, b4, b5, b6, b7, b8, b9, b10, b11, s14, s15, s16, s17, s18, s19, s7, s8, s9, rfl, -⟩
    rfl
  case hstep =>
    rintro listed a' wq i ⟨b0, b1, b2, b3, b4, b5, b6, b7, b8, b9, b10, b11, s14, s15, s16, s17, s18, s19, s7, s8, s9, rfl, rfl, hFq, hl0, hl2, hl4, hc1, hc3, hc5, hv6, hv7, hv8, hs9, hs10, hs11, hd6_7, hd6_8, hd7_8⟩ hi
    obtain ⟨hun, o, ho, haf⟩ := mem_ready.1 hi
    have hlt : i < 12 := (Array.getElem?_eq_some_iff.1 ho).1
    clear hi
    simp only [Act.put, List.setIfInBounds_toArray, List.set_cons_zero, List.set_cons_succ]
    have hcs : i = 0 ∨ i = 1 ∨ i = 2 ∨ i = 3 ∨ i = 4 ∨ i = 5 ∨ i = 6 ∨ i = 7 ∨ i = 8 ∨ i = 9 ∨ i = 10 ∨ i = 11 := by omega
    clear hlt
    rcases hcs with rfl | rfl | rfl | rfl | rfl | rfl | rfl | rfl | rfl | rfl | rfl | rfl
    · simp only [List.getElem?_toArray, List.getElem?_cons_succ, List.getElem?_cons_zero, Option.some.injEq] at ho
      subst ho
      obtain rfl : b0 = false := by simpa using hun
      clear hun
      clear haf
      have q0 := hFq.cell ac0
      have q1 := hFq.cell ac1
      have q2 := hFq.cell ac2
      refine wpOp_step rfl (fun K' hK => ?_)
      have HK := hid hK
      clear hK
      go_simp
      refine HK.out _ _ ?_
      exact ⟨true, b1, b2, b3, b4, b5, b6, b7, b8, b9, b10, b11, _, s15, s16, s17, s18, s19, s7, s8, s9, rfl, rfl, hFq, (fun _ => rfl), hl2, hl4, hc1, hc3, hc5, hv6, hv7, hv8, hs9, hs10, hs11, hd6_7, hd6_8, hd7_8⟩
    · simp only [List.getElem?_toArray, List.getElem?_cons_succ, List.getElem?_cons_zero, Option.some.injEq] at ho
      subst ho
      obtain rfl : b1 = false := by simpa using hun
      clear hun
      obtain rfl : b0 = true := by simpa [Region.binds] using haf ⟨0, .data⟩ (by simp) (by rfl)
      clear haf
      obtain rfl : b9 = false := by cases hb : b9; rfl; exact absurd (hs9 hb).2 (by simp)
      have raa' := raa.fwd hFq
      obtain rfl := hl0 rfl
      refine wpOp_step rfl (fun K' hK => ?_)
      have HK := hid hK
      clear hK
      go_simp
      refine (make2law_any raa').mono ?_
      rintro e wz ⟨v, rfl, hv, hfz⟩
      go_wp2_with fail
      refine HK.out _ _ ?_
      exact ⟨true, true, b2, b3, b4, b5, b6, b7, b8, false, b10, b11, _, _, s16, s17, s18, s19, s7, s8, s9, rfl, rfl, (hFq.trans hfz), (fun _ => rfl), hl2, hl4, (fun _ => (by rw [HQX.out]; exact hv)), (fun h => (hc3 h).fwd hfz), (fun h => (hc5 h).fwd hfz), (hv6.unstored.fwd hfz), (hv7.fwd hfz), (hv8.fwd hfz), (fun h => by cases h), hs10, hs11, hd6_7, hd6_8, hd7_8⟩
    · simp only [List.getElem?_toArray, List.getElem?_cons_succ, List.getElem?_cons_zero, Option.some.injEq] at ho
      subst ho
      obtain rfl : b2 = false := by simpa using hun
      clear hun
      clear haf
      have q0 := hFq.cell bc0
      have q1 := hFq.cell bc1
      have q2 := hFq.cell bc2
      refine wpOp_step rfl (fun K' hK => ?_)
      have HK := hid hK
      clear hK
      go_simp
      refine HK.out _ _ ?_
      exact ⟨b0, b1, true, b3, b4, b5, b6, b7, b8, b9, b10, b11, s14, s15, _, s17, s18, s19, s7, s8, s9, rfl, rfl, hFq, hl0, (fun _ => rfl), hl4, hc1, hc3, hc5, hv6, hv7, hv8, hs9, hs10, hs11, hd6_7, hd6_8, hd7_8⟩
    · simp only [List.getElem?_toArray, List.getElem?_cons_succ, List.getElem?_cons_zero, Option.some.injEq] at ho
      subst ho
      obtain rfl : b3 = false := by simpa using hun
      clear hun
      obtain rfl : b2 = true := by simpa [Region.binds] using haf ⟨2, .data⟩ (by simp) (by rfl)
      clear haf
      obtain rfl : b10 = false := by cases hb : b10; rfl; exact absurd (hs10 hb).2 (by simp)
      have rab' := rab.fwd hFq
      obtain rfl := hl2 rfl
      refine wpOp_step rfl (fun K' hK => ?_)
      have HK := hid hK
      clear hK
      go_simp
      refine (make2law_any rab').mono ?_
      rintro e wz ⟨v, rfl, hv, hfz⟩
      go_wp2_with fail
      refine HK.out _ _ ?_
      exact ⟨b0, b1, true, true, b4, b5, b6, b7, b8, b9, false, b11, s14, s15, _, _, s18, s19, s7, s8, s9, rfl, rfl, (hFq.trans hfz), hl0, (fun _ => rfl), hl4, (fun h => (hc1 h).fwd hfz), (fun _ => (by rw [HQY.out]; exact hv)), (fun h => (hc5 h).fwd hfz), (hv6.fwd hfz), (hv7.unstored.fwd hfz), (hv8.fwd hfz), hs9, (fun h => by cases h), hs11, hd6_7, hd6_8, hd7_8⟩
    · simp only [List.getElem?_toArray, List.getElem?_cons_succ, List.getElem?_cons_zero, Option.some.injEq] at ho
      subst ho
      obtain rfl : b4 = false := by simpa using hun
      clear hun
      clear haf
      have q0 := hFq.cell cc0
      have q1 := hFq.cell cc1
      have q2 := hFq.cell cc2
      refine wpOp_step rfl (fun K' hK => ?_)
      have HK := hid hK
      clear hK
      go_simp
      refine HK.out _ _ ?_
      exact ⟨b0, b1, b2, b3, true, b5, b6, b7, b8, b9, b10, b11, s14, s15, s16, s17, _, s19, s7, s8, s9, rfl, rfl, hFq, hl0, hl2, (fun _ => rfl), hc1, hc3, hc5, hv6, hv7, hv8, hs9, hs10, hs11, hd6_7, hd6_8, hd7_8⟩
    · simp only [List.getElem?_toArray, List.getElem?_cons_succ, List.getElem?_cons_zero, Option.some.injEq] at ho
      subst ho
      obtain rfl : b5 = false := by simpa using hun
      clear hun
      obtain rfl : b4 = true := by simpa [Region.binds] using haf ⟨4, .data⟩ (by simp) (by rfl)
      clear haf
      obtain rfl : b11 = false := by cases hb : b11; rfl; exact absurd (hs11 hb).2 (by simp)
      have rac' := rac.fwd hFq
      obtain rfl := hl4 rfl
      refine wpOp_step rfl (fun K' hK => ?_)
      have HK := hid hK
      clear hK
      go_simp
      refine (make2law_any rac').mono ?_
      rintro e wz ⟨v, rfl, hv, hfz⟩
      go_wp2_with fail
      refine HK.out _ _ ?_
      exact ⟨b0, b1, b2, b3, true, true, b6, b7, b8, b9, b10, false, s14, s15, s16, s17, _, _, s7, s8, s9, rfl, rfl, (hFq.trans hfz), hl0, hl2, (fun _ => rfl), (fun h => (hc1 h).fwd hfz), (fun h => (hc3 h).fwd hfz), (fun _ => (by rw [HQZ.out]; exact hv)), (hv6.fwd hfz), (hv7.fwd hfz), (hv8.unstored.fwd hfz), hs9, hs10, (fun h => by cases h), hd6_7, hd6_8, hd7_8⟩
    · simp only [List.getElem?_toArray, List.getElem?_cons_succ, List.getElem?_cons_zero, Option.some.injEq] at ho
      subst ho
      obtain rfl : b6 = false := by simpa using hun
      clear hun
      clear haf
      obtain rfl : b9 = false := by cases hb : b9; rfl; exact absurd (hs9 hb).1 (by simp)
      have hfz : Fwd wq (wq.alloc (.cells #[.bool false, .slice none 0 0, .slice none 0 0] 24)) := (Fwd.refl wq).alloc _
      refine wpOp_step rfl (fun K' hK => ?_)
      have HK := hid hK
      clear hK
      go_simp
      refine HK.out _ _ ?_
      exact ⟨b0, b1, b2, b3, b4, b5, true, b7, b8, false, b10, b11, s14, s15, s16, s17, s18, s19, _, s8, s9, rfl, rfl, (hFq.trans hfz), hl0, hl2, hl4, (fun h => (hc1 h).fwd hfz), (fun h => (hc3 h).fwd hfz), (fun h => (hc5 h).fwd hfz), (fun _ => ⟨wq.heap.size, rfl, hFq.size, fun _ => BlkV.made wq 24 [.bool false, .slice none 0 0, .slice none 0 0], (fun h => by cases h)⟩), (hv7.fwd hfz), (hv8.fwd hfz), (fun h => by cases h), hs10, hs11, (fun _ h e => hv7.lt h e.symm), (fun _ h e => hv8.lt h e.symm), hd7_8⟩
    · simp only [List.getElem?_toArray, List.getElem?_cons_succ, List.getElem?_cons_zero, Option.some.injEq] at ho
      subst ho
      obtain rfl : b7 = false := by simpa using hun
      clear hun
      clear haf
      obtain rfl : b10 = false := by cases hb : b10; rfl; exact absurd (hs10 hb).1 (by simp)
      have hfz : Fwd wq (wq.alloc (.cells #[.bool false, .slice none 0 0, .slice none 0 0] 24)) := (Fwd.refl wq).alloc _
      refine wpOp_step rfl (fun K' hK => ?_)
      have HK := hid hK
      clear hK
      go_simp
      refine HK.out _ _ ?_
      exact ⟨b0, b1, b2, b3, b4, b5, b6, true, b8, b9, false, b11, s14, s15, s16, s17, s18, s19, s7, _, s9, rfl, rfl, (hFq.trans hfz), hl0, hl2, hl4, (fun h => (hc1 h).fwd hfz), (fun h => (hc3 h).fwd hfz), (fun h => (hc5 h).fwd hfz), (hv6.fwd hfz), (fun _ => ⟨wq.heap.size, rfl, hFq.size, fun _ => BlkV.made wq 24 [.bool false, .slice none 0 0, .slice none 0 0], (fun h => by cases h)⟩), (hv8.fwd hfz), hs9, (fun h => by cases h), hs11, (fun h _ e => hv6.lt h e), hd6_8, (fun _ h e => hv8.lt h e.symm)⟩
    · simp only [List.getElem?_toArray, List.getElem?_cons_succ, List.getElem?_cons_zero, Option.some.injEq] at ho
      subst ho
      obtain rfl : b8 = false := by simpa using hun
      clear hun
      clear haf
      obtain rfl : b11 = false := by cases hb : b11; rfl; exact absurd (hs11 hb).1 (by simp)
      have hfz : Fwd wq (wq.alloc (.cells #[.bool false, .slice none 0 0, .slice none 0 0] 24)) := (Fwd.refl wq).alloc _
      refine wpOp_step rfl (fun K' hK => ?_)
      have HK := hid hK
      clear hK
      go_simp
      refine HK.out _ _ ?_
      exact ⟨b0, b1, b2, b3, b4, b5, b6, b7, true, b9, b10, false, s14, s15, s16, s17, s18, s19, s7, s8, _, rfl, rfl, (hFq.trans hfz), hl0, hl2, hl4, (fun h => (hc1 h).fwd hfz), (fun h => (hc3 h).fwd hfz), (fun h => (hc5 h).fwd hfz), (hv6.fwd hfz), (hv7.fwd hfz), (fun _ => ⟨wq.heap.size, rfl, hFq.size, fun _ => BlkV.made wq 24 [.bool false, .slice none 0 0, .slice none 0 0], (fun h => by cases h)⟩), hs9, hs10, (fun h => by cases h), hd6_7, (fun h _ e => hv6.lt h e), (fun h _ e => hv7.lt h e)⟩
    · simp only [List.getElem?_toArray, List.getElem?_cons_succ, List.getElem?_cons_zero, Option.some.injEq] at ho
      subst ho
      obtain rfl : b9 = false := by simpa using hun
      clear hun
      obtain rfl : b1 = true := by simpa [Region.binds] using haf ⟨1, .data⟩ (by simp) (by rfl)
      obtain rfl : b6 = true := by simpa [Region.binds] using haf ⟨6, .data⟩ (by simp) (by rfl)
      clear haf
      obtain ⟨g, rfl, hge, hz, -⟩ := hv6 rfl
      have kz := hz rfl
      have hC := hc1 rfl
      obtain ⟨po, pc, qo, qc, rfl, p1, p2, p3, p4, -, -⟩ := RW.open hC.rw'
      have z0 := BlkV.cell kz 0 rfl
      have zz0 := BlkV.frozen kz 0
      have z1 := BlkV.cell kz 1 rfl
      have zz1 := BlkV.frozen kz 1
      have z2 := BlkV.cell kz 2 rfl
      have zz2 := BlkV.frozen kz 2
      have hon := only_of_set3 kz (.bool (negQ qX)) (.slice po (nl qX.num.natAbs) pc) (.slice qo (nl qX.den) qc)
      have hset := ((BlkV.set kz 0 (.bool (negQ qX))).set 1 (.slice po (nl qX.num.natAbs) pc)).set 2 (.slice qo (nl qX.den) qc)
      refine wpOp_step rfl (fun K' hK => ?_)
      have HK := hid hK
      clear hK
      go_simp
      refine HK.out _ _ ?_
      exact ⟨b0, true, b2, b3, b4, b5, true, b7, b8, true, b10, b11, s14, _, s16, s17, s18, s19, _, s8, s9, rfl, rfl, (hFq.wrote hon hge), hl0, hl2, hl4, (fun h => (hc1 h).keepV kz (by simp) hon), (fun h => (hc3 h).keepV kz (by simp) hon), (fun h => (hc5 h).keepV kz (by simp) hon), (fun _ => ⟨g, rfl, hge, (fun h => by cases h), fun _ => ⟨[.bool (negQ qX), .slice po (nl qX.num.natAbs) pc, .slice qo (nl qX.den) qc], rfl, hset⟩⟩), (hv7.only (fun h e => hd6_7 rfl h e.symm) hon), (hv8.only (fun h e => hd6_8 rfl h e.symm) hon), (fun _ => ⟨rfl, rfl⟩), hs10, hs11, hd6_7, hd6_8, hd7_8⟩
    · simp only [List.getElem?_toArray, List.getElem?_cons_succ, List.getElem?_cons_zero, Option.some.injEq] at ho
      subst ho
      obtain rfl : b10 = false := by simpa using hun
      clear hun
      obtain rfl : b3 = true := by simpa [Region.binds] using haf ⟨3, .data⟩ (by simp) (by rfl)
      obtain rfl : b7 = true := by simpa [Region.binds] using haf ⟨7, .data⟩ (by simp) (by rfl)
      clear haf
      obtain ⟨g, rfl, hge, hz, -⟩ := hv7 rfl
      have kz := hz rfl
      have hC := hc3 rfl
      obtain ⟨po, pc, qo, qc, rfl, p1, p2, p3, p4, -, -⟩ := RW.open hC.rw'
      have z0 := BlkV.cell kz 0 rfl
      have zz0 := BlkV.frozen kz 0
      have z1 := BlkV.cell kz 1 rfl
      have zz1 := BlkV.frozen kz 1
      have z2 := BlkV.cell kz 2 rfl
      have zz2 := BlkV.frozen kz 2
      have hon := only_of_set3 kz (.bool (negQ qY)) (.slice po (nl qY.num.natAbs) pc) (.slice qo (nl qY.den) qc)
      have hset := ((BlkV.set kz 0 (.bool (negQ qY))).set 1 (.slice po (nl qY.num.natAbs) pc)).set 2 (.slice qo (nl qY.den) qc)
      refine wpOp_step rfl (fun K' hK => ?_)
      have HK := hid hK
      clear hK
      go_simp
      refine HK.out _ _ ?_
      exact ⟨b0, b1, b2, true, b4, b5, b6, true, b8, b9, true, b11, s14, s15, s16, _, s18, s19, s7, _, s9, rfl, rfl, (hFq.wrote hon hge), hl0, hl2, hl4, (fun h => (hc1 h).keepV kz (by simp) hon), (fun h => (hc3 h).keepV kz (by simp) hon), (fun h => (hc5 h).keepV kz (by simp) hon), (hv6.only (fun h e => hd6_7 h rfl e) hon), (fun _ => ⟨g, rfl, hge, (fun h => by cases h), fun _ => ⟨[.bool (negQ qY), .slice po (nl qY.num.natAbs) pc, .slice qo (nl qY.den) qc], rfl, hset⟩⟩), (hv8.only (fun h e => hd7_8 rfl h e.symm) hon), hs9, (fun _ => ⟨rfl, rfl⟩), hs11, hd6_7, hd6_8, hd7_8⟩
    · simp only [List.getElem?_toArray, List.getElem?_cons_succ, List.getElem?_cons_zero, Option.some.injEq] at ho
      subst ho
      obtain rfl : b11 = false := by simpa using hun
      clear hun
      obtain rfl : b5 = true := by simpa [Region.binds] using haf ⟨5, .data⟩ (by simp) (by rfl)
      obtain rfl : b8 = true := by simpa [Region.binds] using haf ⟨8, .data⟩ (by simp) (by rfl)
      clear haf
      obtain ⟨g, rfl, hge, hz, -⟩ := hv8 rfl
      have kz := hz rfl
      have hC := hc5 rfl
      obtain ⟨po, pc, qo, qc, rfl, p1, p2, p3, p4, -, -⟩ := RW.open hC.rw'
      have z0 := BlkV.cell kz 0 rfl
      have zz0 := BlkV.frozen kz 0
      have z1 := BlkV.cell kz 1 rfl
      have zz1 := BlkV.frozen kz 1
      have z2 := BlkV.cell kz 2 rfl
      have zz2 := BlkV.frozen kz 2
      have hon := only_of_set3 kz (.bool (negQ qZ)) (.slice po (nl qZ.num.natAbs) pc) (.slice qo (nl qZ.den) qc)
      have hset := ((BlkV.set kz 0 (.bool (negQ qZ))).set 1 (.slice po (nl qZ.num.natAbs) pc)).set 2 (.slice qo (nl qZ.den) qc)
      refine wpOp_step rfl (fun K' hK => ?_)
      have HK := hid hK
      clear hK
      go_simp
      refine HK.out _ _ ?_
      exact ⟨b0, b1, b2, b3, b4, true, b6, b7, true, b9, b10, true, s14, s15, s16, s17, s18, _, s7, s8, _, rfl, rfl, (hFq.wrote hon hge), hl0, hl2, hl4, (fun h => (hc1 h).keepV kz (by simp) hon), (fun h => (hc3 h).keepV kz (by simp) hon), (fun h => (hc5 h).keepV kz (by simp) hon), (hv6.only (fun h e => hd6_8 h rfl e) hon), (hv7.only (fun h e => hd7_8 h rfl e) hon), (fun _ => ⟨g, rfl, hge, (fun h => by cases h), fun _ => ⟨[.bool (negQ qZ), .slice po (nl qZ.num.natAbs) pc, .slice qo (nl qZ.den) qc], rfl, hset⟩⟩), hs9, hs10, (fun _ => ⟨rfl, rfl⟩), hd6_7, hd6_8, hd7_8⟩
  case hdone =>
  rintro listed a' w2 ⟨b0, b1, b2, b3, b4, b5, b6, b7, b8, b9, b10, b11, s14, s15, s16, s17, s18, s19, s7, s8, s9, rfl, rfl, hFq, hl0, hl2, hl4, hc1, hc3, hc5, hv6, hv7, hv8, hs9, hs10, hs11, hd6_7, hd6_8, hd7_8⟩ hall
  obtain rfl : b0 = true := by simpa using hall 0 (by simp)
  obtain rfl : b1 = true := by simpa using hall 1 (by simp)
  obtain rfl : b2 = true := by simpa using hall 2 (by simp)
  obtain rfl : b3 = true := by simpa using hall 3 (by simp)
  obtain rfl : b4 = true := by simpa using hall 4 (by simp)
  obtain rfl : b5 = true := by simpa using hall 5 (by simp)
  obtain rfl : b6 = true := by simpa using hall 6 (by simp)
  obtain rfl : b7 = true := by simpa using hall 7 (by simp)
  obtain rfl : b8 = true := by simpa using hall 8 (by simp)
  obtain rfl : b9 = true := by simpa using hall 9 (by simp)
  obtain rfl : b10 = true := by simpa using hall 10 (by simp)
  obtain rfl : b11 = true := by simpa using hall 11 (by simp)
  clear hall
  obtain rfl := hl0 rfl
  obtain rfl := hl2 rfl
  obtain rfl := hl4 rfl
  obtain ⟨gX, rfl, hgeX, -, hstX⟩ := hv6 rfl
  obtain ⟨csX, hcsX, kX⟩ := hstX rfl
  have rX := hc1 rfl
  obtain ⟨poX, pcX, qoX, qcX, rfl, p1X, p2X, p3X, p4X, -, -⟩ := RW.open rX.rw'
  obtain rfl : csX = [.bool (negQ qX), .slice poX (nl qX.num.natAbs) pcX, .slice qoX (nl qX.den) qcX] := by injection hcsX with h; exact (List.toArray_inj h).symm
  clear hcsX hstX hv6 hc1 hs9
  obtain ⟨gY, rfl, hgeY, -, hstY⟩ := hv7 rfl
  obtain ⟨csY, hcsY, kY⟩ := hstY rfl
  have rY := hc3 rfl
  obtain ⟨poY, pcY, qoY, qcY, rfl, p1Y, p2Y, p3Y, p4Y, -, -⟩ := RW.open rY.rw'
  obtain rfl : csY = [.bool (negQ qY), .slice poY (nl qY.num.natAbs) pcY, .slice qoY (nl qY.den) qcY] := by injection hcsY with h; exact (List.toArray_inj h).symm
  clear hcsY hstY hv7 hc3 hs10
  obtain ⟨gZ, rfl, hgeZ, -, hstZ⟩ := hv8 rfl
  obtain ⟨csZ, hcsZ, kZ⟩ := hstZ rfl
  have rZ := hc5 rfl
  obtain ⟨poZ, pcZ, qoZ, qcZ, rfl, p1Z, p2Z, p3Z, p4Z, -, -⟩ := RW.open rZ.rw'
  obtain rfl : csZ = [.bool (negQ qZ), .slice poZ (nl qZ.num.natAbs) pcZ, .slice qoZ (nl qZ.den) qcZ] := by injection hcsZ with h; exact (List.toArray_inj h).symm
  clear hcsZ hstZ hv8 hc5 hs11
  have hne0_1 : gX ≠ gY := fun e => hd6_7 rfl rfl (by rw [e])
  clear hd6_7
  have hne0_2 : gX ≠ gZ := fun e => hd6_8 rfl rfl (by rw [e])
  clear hd6_8
  have hne1_2 : gY ≠ gZ := fun e => hd7_8 rfl rfl (by rw [e])
  clear hd7_8
  clear ac0 ac1 ac2 bc0 bc1 bc2 cc0 cc1 cc2
  have hsz0 : w.heap.size < w1.heap.size ∧ w.heap.size + 1 < w1.heap.size ∧ w.heap.size + 1 + 1 < w1.heap.size := ⟨kA.lt, kB.lt, kC.lt⟩
  replace kA := kA.fwd hFq
  replace kB := kB.fwd hFq
  replace kC := kC.fwd hFq
  replace hF := hF.trans hFq
  clear hFq
  simp only [Act.put, List.setIfInBounds_toArray, List.set_cons_zero, List.set_cons_succ]
  have ac0 := BlkV.cell kA 0 rfl
  have ac1 := BlkV.cell kA 1 rfl
  have ac2 := BlkV.cell kA 2 rfl
  have bc0 := BlkV.cell kB 0 rfl
  have bc1 := BlkV.cell kB 1 rfl
  have bc2 := BlkV.cell kB 2 rfl
  have cc0 := BlkV.cell kC 0 rfl
  have cc1 := BlkV.cell kC 1 rfl
  have cc2 := BlkV.cell kC 2 rfl
  have xc0 := BlkV.cell kX 0 rfl
  have xc1 := BlkV.cell kX 1 rfl
  have xc2 := BlkV.cell kX 2 rfl
  have yc0 := BlkV.cell kY 0 rfl
  have yc1 := BlkV.cell kY 1 rfl
  have yc2 := BlkV.cell kY 2 rfl
  have zc0 := BlkV.cell kZ 0 rfl
  have zc1 := BlkV.cell kZ 1 rfl
  have zc2 := BlkV.cell kZ 2 rfl
  clear kA raa kB rab kC rac ac0 ac1 ac2 bc0 bc1 bc2 cc0 cc1 cc2
  obtain ⟨o, ho⟩ : ∃ o, o = cmpQ qX qY := ⟨_, rfl⟩
  have ob : -1 ≤ o ∧ o ≤ 1 := by rw [ho]; exact cmpQ_bd _ _
  obtain ⟨ob1, ob2⟩ := ob
  have H1 : Hid (cmpQ qY qX = -o) := hid (by rw [ho]; exact cmpQ_neg _ _)
  have H2 : Hid (cmpQ (qX + qZ) (qY + qZ) = o) := hid (by rw [ho]; exact cmpQ_add _ _ _)
  have H3 : Hid (decide (qX = qY) = (o == 0)) := hid (by rw [ho, Bool.eq_iff_iff]; simp [cmpQ_zero])
  have H4 : Hid (cmpQ (-qX) (-qY) = -o) := hid (by rw [ho, cmpQ_neg2]; exact cmpQ_neg _ _)
  have HO := hid ho
  clear ho
  have hwr : IntKind.i64.wrap (-o) = -o := by rw [IntKind.wrap_i64]; omega
  go_wp2_with fail
  refine (rcmp_any rX rY (by omega) (by omega)).mono ?_
  rintro e w3 ⟨rfl, hf3⟩
  replace rX := rX.fwd hf3
  replace rY := rY.fwd hf3
  replace rZ := rZ.fwd hf3
  replace kX := kX.fwd hf3
  replace kY := kY.fwd hf3
  replace kZ := kZ.fwd hf3
  replace hF := hF.trans hf3
  clear hf3
  clear xc0 xc1 xc2
  have xc0 := BlkV.cell kX 0 rfl
  have xc1 := BlkV.cell kX 1 rfl
  have xc2 := BlkV.cell kX 2 rfl
  clear yc0 yc1 yc2
  have yc0 := BlkV.cell kY 0 rfl
  have yc1 := BlkV.cell kY 1 rfl
  have yc2 := BlkV.cell kY 2 rfl
  clear zc0 zc1 zc2
  have zc0 := BlkV.cell kZ 0 rfl
  have zc1 := BlkV.cell kZ 1 rfl
  have zc2 := BlkV.cell kZ 2 rfl
  rw [← HO.out]
  go_upto_region 5 with fail
  have bnf1 := nr_add qX qZ
  have bnf2 := nr_add qY qZ
  have bnf3 := nr_neg qX
  have bnf4 := nr_neg qY
  replace rX := rX.drew
  replace rY := rY.drew
  replace rZ := rZ.drew
  replace kX := kX.drew
  replace kY := kY.drew
  replace kZ := kZ.drew
  replace hF := hF.drew
  clear xc0 xc1 xc2
  have xc0 := BlkV.cell kX 0 rfl
  have xc1 := BlkV.cell kX 1 rfl
  have xc2 := BlkV.cell kX 2 rfl
  clear yc0 yc1 yc2
  have yc0 := BlkV.cell kY 0 rfl
  have yc1 := BlkV.cell kY 1 rfl
  have yc2 := BlkV.cell kY 2 rfl
  clear zc0 zc1 zc2
  have zc0 := BlkV.cell kZ 0 rfl
  have zc1 := BlkV.cell kZ 1 rfl
  have zc2 := BlkV.cell kZ 2 rfl
  refine wp_region_held_drew (S := fun w' => w'.cell? ⟨gX, 0, none⟩ = some (.bool (negQ qX)) ∧ w'.cell? ⟨gX, 1, none⟩ = some (.slice poX (nl qX.num.natAbs) pcX) ∧ w'.cell? ⟨gX, 2, none⟩ = some (.slice qoX (nl qX.den) qcX) ∧ w'.cell? ⟨gY, 0, none⟩ = some (.bool (negQ qY)) ∧ w'.cell? ⟨gY, 1, none⟩ = some (.slice poY (nl qY.num.natAbs) pcY) ∧ w'.cell? ⟨gY, 2, none⟩ = some (.slice qoY (nl qY.den) qcY) ∧ w'.cell? ⟨gZ, 0, none⟩ = some (.bool (negQ qZ)) ∧ w'.cell? ⟨gZ, 1, none⟩ = some (.slice poZ (nl qZ.num.natAbs) pcZ) ∧ w'.cell? ⟨gZ, 2, none⟩ = some (.slice qoZ (nl qZ.den) qcZ)) (by kernel_rfl) ⟨by with_reducible assumption, by with_reducible assumption, by with_reducible assumption, by with_reducible assumption, by with_reducible assumption, by with_reducible assumption, by with_reducible assumption, by with_reducible assumption, by with_reducible assumption⟩ (fun hHeld => ?_)
  refine wpAnyH_take (i := 0) (oi := ?oi2_421_0) (v := ?vv2_421_0) ?hi2_421_0 (by kernel_rfl) (by kernel_rfl) (by kernel_rfl) ?hq2_421_0 ?hy2_421_0 hHeld ?rest2_421_0
  case hi2_421_0 => (simp only [List.getElem?_toArray, List.getElem?_cons_succ, List.getElem?_cons_zero]; rfl)
  case hq2_421_0 => exact fun _ _ _ h => h
  case hy2_421_0 =>
    refine Or.inl ⟨by rfl, ?_⟩
    intro wS hSw
    try dsimp only at hSw
    obtain ⟨q0, q1, q2, q3, q4, q5, q6, q7, q8⟩ := hSw
    go_simp
    try with_reducible rfl
  simp only [Act.put, List.setIfInBounds_toArray, List.set_cons_zero, List.set_cons_succ]
  refine wpAnyH_take (i := 1) (oi := ?oi2_432_1) (v := ?vv2_432_1) ?hi2_432_1 (by kernel_rfl) (by kernel_rfl) (by kernel_rfl) ?hq2_432_1 ?hy2_432_1 hHeld ?rest2_432_1
  case hi2_432_1 => (simp only [List.getElem?_toArray, List.getElem?_cons_succ, List.getElem?_cons_zero]; rfl)
  case hq2_432_1 => exact fun _ _ _ h => h
  case hy2_432_1 =>
    refine Or.inl ⟨by rfl, ?_⟩
    intro wS hSw
    try dsimp only at hSw
    obtain ⟨q0, q1, q2, q3, q4, q5, q6, q7, q8⟩ := hSw
    go_simp
    try with_reducible rfl
  simp only [Act.put, List.setIfInBounds_toArray, List.set_cons_zero, List.set_cons_succ]
  refine wpAnyH_take (i := 3) (oi := ?oi2_443_3) (v := ?vv2_443_3) ?hi2_443_3 (by kernel_rfl) (by kernel_rfl) (by kernel_rfl) ?hq2_443_3 ?hy2_443_3 hHeld ?rest2_443_3
  case hi2_443_3 => (simp only [List.getElem?_toArray, List.getElem?_cons_succ, List.getElem?_cons_zero]; rfl)
  case hq2_443_3 => exact fun _ _ _ h => h
  case hy2_443_3 =>
    refine Or.inl ⟨by rfl, ?_⟩
    intro wS hSw
    try dsimp only at hSw
    obtain ⟨q0, q1, q2, q3, q4, q5, q6, q7, q8⟩ := hSw
    go_simp
    try with_reducible rfl
  simp only [Act.put, List.setIfInBounds_toArray, List.set_cons_zero, List.set_cons_succ]
  refine wpAnyH_take (i := 4) (oi := ?oi2_454_4) (v := ?vv2_454_4) ?hi2_454_4 (by kernel_rfl) (by kernel_rfl) (by kernel_rfl) ?hq2_454_4 ?hy2_454_4 hHeld ?rest2_454_4
  case hi2_454_4 => (simp only [List.getElem?_toArray, List.getElem?_cons_succ, List.getElem?_cons_zero]; rfl)
  case hq2_454_4 => exact fun _ _ _ h => h
  case hy2_454_4 =>
    refine Or.inl ⟨by rfl, ?_⟩
    intro wS hSw
    try dsimp only at hSw
    obtain ⟨q0, q1, q2, q3, q4, q5, q6, q7, q8⟩ := hSw
    go_simp
    try with_reducible rfl
  simp only [Act.put, List.setIfInBounds_toArray, List.set_cons_zero, List.set_cons_succ]
  refine wpAnyH_ready (rs := [2]) (by kernel_rfl) (by simp) ?_
  refine AllReadyH.cons rfl (fun K hK => ?_) AllReadyH.nil
  go_simp
  refine (rcmp_any rY rX (by omega) (by omega)).mono ?_
  rintro e w4 ⟨rfl, hf4⟩
  replace rX := rX.fwd hf4
  replace rY := rY.fwd hf4
  replace rZ := rZ.fwd hf4
  replace kX := kX.fwd hf4
  replace kY := kY.fwd hf4
  replace kZ := kZ.fwd hf4
  replace hF := hF.trans hf4
  clear hf4
  clear xc0 xc1 xc2
  have xc0 := BlkV.cell kX 0 rfl
  have xc1 := BlkV.cell kX 1 rfl
  have xc2 := BlkV.cell kX 2 rfl
  clear yc0 yc1 yc2
  have yc0 := BlkV.cell kY 0 rfl
  have yc1 := BlkV.cell kY 1 rfl
  have yc2 := BlkV.cell kY 2 rfl
  clear zc0 zc1 zc2
  have zc0 := BlkV.cell kZ 0 rfl
  have zc1 := BlkV.cell kZ 1 rfl
  have zc2 := BlkV.cell kZ 2 rfl
  rw [H1.out]
  go_wp2_with fail
  clear hHeld
  refine hK.out _ _ ⟨by with_reducible assumption, by with_reducible assumption, by with_reducible assumption, by with_reducible assumption, by with_reducible assumption, by with_reducible assumption, by with_reducible assumption, by with_reducible assumption, by with_reducible assumption⟩ (fun hHeld => ?_)
  clear hK K
  try simp only [Act.put, List.setIfInBounds_toArray, List.set_cons_zero, List.set_cons_succ]
  refine wpAnyH_take (i := 5) (oi := ?oi2_496_5) (v := ?vv2_496_5) ?hi2_496_5 (by kernel_rfl) (by kernel_rfl) (by kernel_rfl) ?hq2_496_5 ?hy2_496_5 hHeld ?rest2_496_5
  case hi2_496_5 => (simp only [List.getElem?_toArray, List.getElem?_cons_succ, List.getElem?_cons_zero]; rfl)
  case hq2_496_5 => exact fun _ _ _ h => h
  case hy2_496_5 =>
    refine Or.inl ⟨by rfl, ?_⟩
    intro wS hSw
    try dsimp only at hSw
    obtain ⟨q0, q1, q2, q3, q4, q5, q6, q7, q8⟩ := hSw
    go_simp
    try with_reducible rfl
  simp only [Act.put, List.setIfInBounds_toArray, List.set_cons_zero, List.set_cons_succ]
  refine wpAnyH_take (i := 6) (oi := ?oi2_507_6) (v := ?vv2_507_6) ?hi2_507_6 (by kernel_rfl) (by kernel_rfl) (by kernel_rfl) ?hq2_507_6 ?hy2_507_6 hHeld ?rest2_507_6
  case hi2_507_6 => (simp only [List.getElem?_toArray, List.getElem?_cons_succ, List.getElem?_cons_zero]; rfl)
  case hq2_507_6 => exact fun _ _ _ h => h
  case hy2_507_6 =>
    refine Or.inl ⟨by rfl, ?_⟩
    intro wS hSw
    try dsimp only at hSw
    obtain ⟨q0, q1, q2, q3, q4, q5, q6, q7, q8⟩ := hSw
    go_simp
    try with_reducible rfl
  simp only [Act.put, List.setIfInBounds_toArray, List.set_cons_zero, List.set_cons_succ]
  refine wpAnyH_take (i := 7) (oi := ?oi2_518_7) (v := ?vv2_518_7) ?hi2_518_7 (by kernel_rfl) (by kernel_rfl) (by kernel_rfl) ?hq2_518_7 ?hy2_518_7 hHeld ?rest2_518_7
  case hi2_518_7 => (simp only [List.getElem?_toArray, List.getElem?_cons_succ, List.getElem?_cons_zero]; rfl)
  case hq2_518_7 => exact fun _ _ _ h => h
  case hy2_518_7 =>
    refine Or.inl ⟨by rfl, ?_⟩
    intro wS hSw
    try dsimp only at hSw
    obtain ⟨q0, q1, q2, q3, q4, q5, q6, q7, q8⟩ := hSw
    go_simp
    try with_reducible rfl
  simp only [Act.put, List.setIfInBounds_toArray, List.set_cons_zero, List.set_cons_succ]
  refine wpAnyH_take (i := 8) (oi := ?oi2_529_8) (v := ?vv2_529_8) ?hi2_529_8 (by kernel_rfl) (by kernel_rfl) (by kernel_rfl) ?hq2_529_8 ?hy2_529_8 hHeld ?rest2_529_8
  case hi2_529_8 => (simp only [List.getElem?_toArray, List.getElem?_cons_succ, List.getElem?_cons_zero]; rfl)
  case hq2_529_8 => exact fun _ _ _ h => h
  case hy2_529_8 =>
    refine Or.inl ⟨by rfl, ?_⟩
    intro wS hSw
    try dsimp only at hSw
    obtain ⟨q0, q1, q2, q3, q4, q5, q6, q7, q8⟩ := hSw
    go_simp
    try with_reducible rfl
  simp only [Act.put, List.setIfInBounds_toArray, List.set_cons_zero, List.set_cons_succ]
  refine wpAnyH_take (i := 10) (oi := ?oi2_540_10) (v := ?vv2_540_10) ?hi2_540_10 (by kernel_rfl) (by kernel_rfl) (by kernel_rfl) ?hq2_540_10 ?hy2_540_10 hHeld ?rest2_540_10
  case hi2_540_10 => (simp only [List.getElem?_toArray, List.getElem?_cons_succ, List.getElem?_cons_zero]; rfl)
  case hq2_540_10 => exact fun _ _ _ h => h
  case hy2_540_10 =>
    refine Or.inl ⟨by rfl, ?_⟩
    intro wS hSw
    try dsimp only at hSw
    obtain ⟨q0, q1, q2, q3, q4, q5, q6, q7, q8⟩ := hSw
    go_simp
    try with_reducible rfl
  simp only [Act.put, List.setIfInBounds_toArray, List.set_cons_zero, List.set_cons_succ]
  refine wpAnyH_take (i := 11) (oi := ?oi2_551_11) (v := ?vv2_551_11) ?hi2_551_11 (by kernel_rfl) (by kernel_rfl) (by kernel_rfl) ?hq2_551_11 ?hy2_551_11 hHeld ?rest2_551_11
  case hi2_551_11 => (simp only [List.getElem?_toArray, List.getElem?_cons_succ, List.getElem?_cons_zero]; rfl)
  case hq2_551_11 => exact fun _ _ _ h => h
  case hy2_551_11 =>
    refine Or.inl ⟨by rfl, ?_⟩
    intro wS hSw
    try dsimp only at hSw
    obtain ⟨q0, q1, q2, q3, q4, q5, q6, q7, q8⟩ := hSw
    go_simp
    try with_reducible rfl
  simp only [Act.put, List.setIfInBounds_toArray, List.set_cons_zero, List.set_cons_succ]
  refine wpAnyH_take (i := 14) (oi := ?oi2_562_14) (v := ?vv2_562_14) ?hi2_562_14 (by kernel_rfl) (by kernel_rfl) (by kernel_rfl) ?hq2_562_14 ?hy2_562_14 hHeld ?rest2_562_14
  case hi2_562_14 => (simp only [List.getElem?_toArray, List.getElem?_cons_succ, List.getElem?_cons_zero]; rfl)
  case hq2_562_14 => exact fun _ _ _ h => h
  case hy2_562_14 =>
    refine Or.inl ⟨by rfl, ?_⟩
    intro wS hSw
    try dsimp only at hSw
    obtain ⟨q0, q1, q2, q3, q4, q5, q6, q7, q8⟩ := hSw
    go_simp
    try with_reducible rfl
  simp only [Act.put, List.setIfInBounds_toArray, List.set_cons_zero, List.set_cons_succ]
  refine wpAnyH_ready (rs := [9]) (by kernel_rfl) (by simp) ?_
  refine AllReadyH.cons rfl (fun K hK => ?_) AllReadyH.nil
  go_simp
  refine (radd_any rX rZ (by omega) (by omega)).mono ?_
  rintro e w5 ⟨vf1, rfl, f1, hf5⟩
  replace rX := rX.fwd hf5
  replace rY := rY.fwd hf5
  replace rZ := rZ.fwd hf5
  replace kX := kX.fwd hf5
  replace kY := kY.fwd hf5
  replace kZ := kZ.fwd hf5
  replace hF := hF.trans hf5
  clear hf5
  clear xc0 xc1 xc2
  have xc0 := BlkV.cell kX 0 rfl
  have xc1 := BlkV.cell kX 1 rfl
  have xc2 := BlkV.cell kX 2 rfl
  clear yc0 yc1 yc2
  have yc0 := BlkV.cell kY 0 rfl
  have yc1 := BlkV.cell kY 1 rfl
  have yc2 := BlkV.cell kY 2 rfl
  clear zc0 zc1 zc2
  have zc0 := BlkV.cell kZ 0 rfl
  have zc1 := BlkV.cell kZ 1 rfl
  have zc2 := BlkV.cell kZ 2 rfl
  go_wp2_with fail
  clear hHeld
  refine hK.out _ _ ⟨by with_reducible assumption, by with_reducible assumption, by with_reducible assumption, by with_reducible assumption, by with_reducible assumption, by with_reducible assumption, by with_reducible assumption, by with_reducible assumption, by with_reducible assumption⟩ (fun hHeld => ?_)
  clear hK K
  try simp only [Act.put, List.setIfInBounds_toArray, List.set_cons_zero, List.set_cons_succ]
  refine wpAnyH_ready (rs := [12]) (by kernel_rfl) (by simp) ?_
  refine AllReadyH.cons rfl (fun K hK => ?_) AllReadyH.nil
  go_simp
  refine (radd_any rY rZ (by omega) (by omega)).mono ?_
  rintro e w6 ⟨vf2, rfl, f2, hf6⟩
  replace rX := rX.fwd hf6
  replace rY := rY.fwd hf6
  replace rZ := rZ.fwd hf6
  replace f1 := f1.fwd hf6
  replace kX := kX.fwd hf6
  replace kY := kY.fwd hf6
  replace kZ := kZ.fwd hf6
  replace hF := hF.trans hf6
  clear hf6
  clear xc0 xc1 xc2
  have xc0 := BlkV.cell kX 0 rfl
  have xc1 := BlkV.cell kX 1 rfl
  have xc2 := BlkV.cell kX 2 rfl
  clear yc0 yc1 yc2
  have yc0 := BlkV.cell kY 0 rfl
  have yc1 := BlkV.cell kY 1 rfl
  have yc2 := BlkV.cell kY 2 rfl
  clear zc0 zc1 zc2
  have zc0 := BlkV.cell kZ 0 rfl
  have zc1 := BlkV.cell kZ 1 rfl
  have zc2 := BlkV.cell kZ 2 rfl
  go_wp2_with fail
  clear hHeld
  refine hK.out _ _ ⟨by with_reducible assumption, by with_reducible assumption, by with_reducible assumption, by with_reducible assumption, by with_reducible assumption, by with_reducible assumption, by with_reducible assumption, by with_reducible assumption, by with_reducible assumption⟩ (fun hHeld => ?_)
  clear hK K
  try simp only [Act.put, List.setIfInBounds_toArray, List.set_cons_zero, List.set_cons_succ]
  refine wpAnyH_ready (rs := [13]) (by kernel_rfl) (by simp) ?_
  refine AllReadyH.cons rfl (fun K hK => ?_) AllReadyH.nil
  go_simp
  refine (rcmp_any f1 f2 (by omega) (by omega)).mono ?_
  rintro e w7 ⟨rfl, hf7⟩
  replace rX := rX.fwd hf7
  replace rY := rY.fwd hf7
  replace rZ := rZ.fwd hf7
  replace f1 := f1.fwd hf7
  replace f2 := f2.fwd hf7
  replace kX := kX.fwd hf7
  replace kY := kY.fwd hf7
  replace kZ := kZ.fwd hf7
  replace hF := hF.trans hf7
  clear hf7
  clear xc0 xc1 xc2
  have xc0 := BlkV.cell kX 0 rfl
  have xc1 := BlkV.cell kX 1 rfl
  have xc2 := BlkV.cell kX 2 rfl
  clear yc0 yc1 yc2
  have yc0 := BlkV.cell kY 0 rfl
  have yc1 := BlkV.cell kY 1 rfl
  have yc2 := BlkV.cell kY 2 rfl
  clear zc0 zc1 zc2
  have zc0 := BlkV.cell kZ 0 rfl
  have zc1 := BlkV.cell kZ 1 rfl
  have zc2 := BlkV.cell kZ 2 rfl
  rw [H2.out]
  go_wp2_with fail
  clear hHeld
  refine hK.out _ _ ⟨by with_reducible assumption, by with_reducible assumption, by with_reducible assumption, by with_reducible assumption, by with_reducible assumption, by with_reducible assumption, by with_reducible assumption, by with_reducible assumption, by with_reducible assumption⟩ (fun hHeld => ?_)
  clear hK K
  try simp only [Act.put, List.setIfInBounds_toArray, List.set_cons_zero, List.set_cons_succ]
  refine wpAnyH_take (i := 15) (oi := ?oi2_667_15) (v := ?vv2_667_15) ?hi2_667_15 (by kernel_rfl) (by kernel_rfl) (by kernel_rfl) ?hq2_667_15 ?hy2_667_15 hHeld ?rest2_667_15
  case hi2_667_15 => (simp only [List.getElem?_toArray, List.getElem?_cons_succ, List.getElem?_cons_zero]; rfl)
  case hq2_667_15 => exact fun _ _ _ h => h
  case hy2_667_15 =>
    refine Or.inl ⟨by rfl, ?_⟩
    intro wS hSw
    try dsimp only at hSw
    obtain ⟨q0, q1, q2, q3, q4, q5, q6, q7, q8⟩ := hSw
    go_simp
    try with_reducible rfl
  simp only [Act.put, List.setIfInBounds_toArray, List.set_cons_zero, List.set_cons_succ]
  refine wpAnyH_take (i := 16) (oi := ?oi2_678_16) (v := ?vv2_678_16) ?hi2_678_16 (by kernel_rfl) (by kernel_rfl) (by kernel_rfl) ?hq2_678_16 ?hy2_678_16 hHeld ?rest2_678_16
  case hi2_678_16 => (simp only [List.getElem?_toArray, List.getElem?_cons_succ, List.getElem?_cons_zero]; rfl)
  case hq2_678_16 => exact fun _ _ _ h => h
  case hy2_678_16 =>
    refine Or.inl ⟨by rfl, ?_⟩
    intro wS hSw
    try dsimp only at hSw
    obtain ⟨q0, q1, q2, q3, q4, q5, q6, q7, q8⟩ := hSw
    go_simp
    try with_reducible rfl
  simp only [Act.put, List.setIfInBounds_toArray, List.set_cons_zero, List.set_cons_succ]
  refine wpAnyH_take (i := 17) (oi := ?oi2_689_17) (v := ?vv2_689_17) ?hi2_689_17 (by kernel_rfl) (by kernel_rfl) (by kernel_rfl) ?hq2_689_17 ?hy2_689_17 hHeld ?rest2_689_17
  case hi2_689_17 => (simp only [List.getElem?_toArray, List.getElem?_cons_succ, List.getElem?_cons_zero]; rfl)
  case hq2_689_17 => exact fun _ _ _ h => h
  case hy2_689_17 =>
    refine Or.inl ⟨by rfl, ?_⟩
    intro wS hSw
    try dsimp only at hSw
    obtain ⟨q0, q1, q2, q3, q4, q5, q6, q7, q8⟩ := hSw
    go_simp
    try with_reducible rfl
  simp only [Act.put, List.setIfInBounds_toArray, List.set_cons_zero, List.set_cons_succ]
  refine wpAnyH_take (i := 18) (oi := ?oi2_700_18) (v := ?vv2_700_18) ?hi2_700_18 (by kernel_rfl) (by kernel_rfl) (by kernel_rfl) ?hq2_700_18 ?hy2_700_18 hHeld ?rest2_700_18
  case hi2_700_18 => (simp only [List.getElem?_toArray, List.getElem?_cons_succ, List.getElem?_cons_zero]; rfl)
  case hq2_700_18 => exact fun _ _ _ h => h
  case hy2_700_18 =>
    refine Or.inl ⟨by rfl, ?_⟩
    intro wS hSw
    try dsimp only at hSw
    obtain ⟨q0, q1, q2, q3, q4, q5, q6, q7, q8⟩ := hSw
    go_simp
    try with_reducible rfl
  simp only [Act.put, List.setIfInBounds_toArray, List.set_cons_zero, List.set_cons_succ]
  refine wpAnyH_take (i := 19) (oi := ?oi2_711_19) (v := ?vv2_711_19) ?hi2_711_19 (by kernel_rfl) (by kernel_rfl) (by kernel_rfl) ?hq2_711_19 ?hy2_711_19 hHeld ?rest2_711_19
  case hi2_711_19 => (simp only [List.getElem?_toArray, List.getElem?_cons_succ, List.getElem?_cons_zero]; rfl)
  case hq2_711_19 => exact fun _ _ _ h => h
  case hy2_711_19 =>
    refine Or.inl ⟨by rfl, ?_⟩
    intro wS hSw
    try dsimp only at hSw
    obtain ⟨q0, q1, q2, q3, q4, q5, q6, q7, q8⟩ := hSw
    go_simp
    try with_reducible rfl
  simp only [Act.put, List.setIfInBounds_toArray, List.set_cons_zero, List.set_cons_succ]
  refine wpAnyH_take (i := 20) (oi := ?oi2_722_20) (v := ?vv2_722_20) ?hi2_722_20 (by kernel_rfl) (by kernel_rfl) (by kernel_rfl) ?hq2_722_20 ?hy2_722_20 hHeld ?rest2_722_20
  case hi2_722_20 => (simp only [List.getElem?_toArray, List.getElem?_cons_succ, List.getElem?_cons_zero]; rfl)
  case hq2_722_20 => exact fun _ _ _ h => h
  case hy2_722_20 =>
    refine Or.inl ⟨by rfl, ?_⟩
    intro wS hSw
    try dsimp only at hSw
    obtain ⟨q0, q1, q2, q3, q4, q5, q6, q7, q8⟩ := hSw
    go_simp
    try with_reducible rfl
  simp only [Act.put, List.setIfInBounds_toArray, List.set_cons_zero, List.set_cons_succ]
  refine wpAnyH_take (i := 21) (oi := ?oi2_733_21) (v := ?vv2_733_21) ?hi2_733_21 (by kernel_rfl) (by kernel_rfl) (by kernel_rfl) ?hq2_733_21 ?hy2_733_21 hHeld ?rest2_733_21
  case hi2_733_21 => (simp only [List.getElem?_toArray, List.getElem?_cons_succ, List.getElem?_cons_zero]; rfl)
  case hq2_733_21 => exact fun _ _ _ h => h
  case hy2_733_21 =>
    refine Or.inl ⟨by rfl, ?_⟩
    intro wS hSw
    try dsimp only at hSw
    obtain ⟨q0, q1, q2, q3, q4, q5, q6, q7, q8⟩ := hSw
    go_simp
    try with_reducible rfl
  simp only [Act.put, List.setIfInBounds_toArray, List.set_cons_zero, List.set_cons_succ]
  refine wpAnyH_ready (rs := [22]) (by kernel_rfl) (by simp) ?_
  refine AllReadyH.cons rfl (fun K hK => ?_) AllReadyH.nil
  go_simp
  refine (rsame_any rX rY (by omega) (by omega)).mono ?_
  rintro e w8 ⟨rfl, hf8⟩
  replace rX := rX.fwd hf8
  replace rY := rY.fwd hf8
  replace rZ := rZ.fwd hf8
  replace f1 := f1.fwd hf8
  replace f2 := f2.fwd hf8
  replace kX := kX.fwd hf8
  replace kY := kY.fwd hf8
  replace kZ := kZ.fwd hf8
  replace hF := hF.trans hf8
  clear hf8
  clear xc0 xc1 xc2
  have xc0 := BlkV.cell kX 0 rfl
  have xc1 := BlkV.cell kX 1 rfl
  have xc2 := BlkV.cell kX 2 rfl
  clear yc0 yc1 yc2
  have yc0 := BlkV.cell kY 0 rfl
  have yc1 := BlkV.cell kY 1 rfl
  have yc2 := BlkV.cell kY 2 rfl
  clear zc0 zc1 zc2
  have zc0 := BlkV.cell kZ 0 rfl
  have zc1 := BlkV.cell kZ 1 rfl
  have zc2 := BlkV.cell kZ 2 rfl
  rw [H3.out]
  go_wp2_with fail
  clear hHeld
  refine hK.out _ _ ⟨by with_reducible assumption, by with_reducible assumption, by with_reducible assumption, by with_reducible assumption, by with_reducible assumption, by with_reducible assumption, by with_reducible assumption, by with_reducible assumption, by with_reducible assumption⟩ (fun hHeld => ?_)
  clear hK K
  try simp only [Act.put, List.setIfInBounds_toArray, List.set_cons_zero, List.set_cons_succ]
  refine wpAnyH_take (i := 23) (oi := ?oi2_777_23) (v := ?vv2_777_23) ?hi2_777_23 (by kernel_rfl) (by kernel_rfl) (by kernel_rfl) ?hq2_777_23 ?hy2_777_23 hHeld ?rest2_777_23
  case hi2_777_23 => (simp only [List.getElem?_toArray, List.getElem?_cons_succ, List.getElem?_cons_zero]; rfl)
  case hq2_777_23 => exact fun _ _ _ h => h
  case hy2_777_23 =>
    refine Or.inl ⟨by rfl, ?_⟩
    intro wS hSw
    try dsimp only at hSw
    obtain ⟨q0, q1, q2, q3, q4, q5, q6, q7, q8⟩ := hSw
    go_simp
    try with_reducible rfl
  simp only [Act.put, List.setIfInBounds_toArray, List.set_cons_zero, List.set_cons_succ]
  refine wpAnyH_take (i := 24) (oi := ?oi2_788_24) (v := ?vv2_788_24) ?hi2_788_24 (by kernel_rfl) (by kernel_rfl) (by kernel_rfl) ?hq2_788_24 ?hy2_788_24 hHeld ?rest2_788_24
  case hi2_788_24 => (simp only [List.getElem?_toArray, List.getElem?_cons_succ, List.getElem?_cons_zero]; rfl)
  case hq2_788_24 => exact fun _ _ _ h => h
  case hy2_788_24 =>
    refine Or.inl ⟨by rfl, ?_⟩
    intro wS hSw
    try dsimp only at hSw
    obtain ⟨q0, q1, q2, q3, q4, q5, q6, q7, q8⟩ := hSw
    go_simp
    try with_reducible rfl
  simp only [Act.put, List.setIfInBounds_toArray, List.set_cons_zero, List.set_cons_succ]
  refine wpAnyH_take (i := 25) (oi := ?oi2_799_25) (v := ?vv2_799_25) ?hi2_799_25 (by kernel_rfl) (by kernel_rfl) (by kernel_rfl) ?hq2_799_25 ?hy2_799_25 hHeld ?rest2_799_25
  case hi2_799_25 => (simp only [List.getElem?_toArray, List.getElem?_cons_succ, List.getElem?_cons_zero]; rfl)
  case hq2_799_25 => exact fun _ _ _ h => h
  case hy2_799_25 =>
    refine Or.inl ⟨by rfl, ?_⟩
    intro wS hSw
    try dsimp only at hSw
    obtain ⟨q0, q1, q2, q3, q4, q5, q6, q7, q8⟩ := hSw
    go_simp
    try with_reducible rfl
  simp only [Act.put, List.setIfInBounds_toArray, List.set_cons_zero, List.set_cons_succ]
  refine wpAnyH_take (i := 26) (oi := ?oi2_810_26) (v := ?vv2_810_26) ?hi2_810_26 (by kernel_rfl) (by kernel_rfl) (by kernel_rfl) ?hq2_810_26 ?hy2_810_26 hHeld ?rest2_810_26
  case hi2_810_26 => (simp only [List.getElem?_toArray, List.getElem?_cons_succ, List.getElem?_cons_zero]; rfl)
  case hq2_810_26 => exact fun _ _ _ h => h
  case hy2_810_26 =>
    refine Or.inl ⟨by rfl, ?_⟩
    intro wS hSw
    try dsimp only at hSw
    obtain ⟨q0, q1, q2, q3, q4, q5, q6, q7, q8⟩ := hSw
    go_simp
    try with_reducible rfl
  simp only [Act.put, List.setIfInBounds_toArray, List.set_cons_zero, List.set_cons_succ]
  refine wpAnyH_take (i := 28) (oi := ?oi2_821_28) (v := ?vv2_821_28) ?hi2_821_28 (by kernel_rfl) (by kernel_rfl) (by kernel_rfl) ?hq2_821_28 ?hy2_821_28 hHeld ?rest2_821_28
  case hi2_821_28 => (simp only [List.getElem?_toArray, List.getElem?_cons_succ, List.getElem?_cons_zero]; rfl)
  case hq2_821_28 => exact fun _ _ _ h => h
  case hy2_821_28 =>
    refine Or.inl ⟨by rfl, ?_⟩
    intro wS hSw
    try dsimp only at hSw
    obtain ⟨q0, q1, q2, q3, q4, q5, q6, q7, q8⟩ := hSw
    go_simp
    try with_reducible rfl
  simp only [Act.put, List.setIfInBounds_toArray, List.set_cons_zero, List.set_cons_succ]
  refine wpAnyH_take (i := 31) (oi := ?oi2_832_31) (v := ?vv2_832_31) ?hi2_832_31 (by kernel_rfl) (by kernel_rfl) (by kernel_rfl) ?hq2_832_31 ?hy2_832_31 hHeld ?rest2_832_31
  case hi2_832_31 => (simp only [List.getElem?_toArray, List.getElem?_cons_succ, List.getElem?_cons_zero]; rfl)
  case hq2_832_31 => exact fun _ _ _ h => h
  case hy2_832_31 =>
    refine Or.inl ⟨by rfl, ?_⟩
    intro wS hSw
    try dsimp only at hSw
    obtain ⟨q0, q1, q2, q3, q4, q5, q6, q7, q8⟩ := hSw
    go_simp
    try with_reducible rfl
  simp only [Act.put, List.setIfInBounds_toArray, List.set_cons_zero, List.set_cons_succ]
  refine wpAnyH_take (i := 32) (oi := ?oi2_843_32) (v := ?vv2_843_32) ?hi2_843_32 (by kernel_rfl) (by kernel_rfl) (by kernel_rfl) ?hq2_843_32 ?hy2_843_32 hHeld ?rest2_843_32
  case hi2_843_32 => (simp only [List.getElem?_toArray, List.getElem?_cons_succ, List.getElem?_cons_zero]; rfl)
  case hq2_843_32 => exact fun _ _ _ h => h
  case hy2_843_32 =>
    refine Or.inl ⟨by rfl, ?_⟩
    intro wS hSw
    try dsimp only at hSw
    obtain ⟨q0, q1, q2, q3, q4, q5, q6, q7, q8⟩ := hSw
    go_simp
    try with_reducible rfl
  simp only [Act.put, List.setIfInBounds_toArray, List.set_cons_zero, List.set_cons_succ]
  refine wpAnyH_ready (rs := [27]) (by kernel_rfl) (by simp) ?_
  refine AllReadyH.cons rfl (fun K hK => ?_) AllReadyH.nil
  go_simp
  refine (rneg_any rX (by omega)).mono ?_
  rintro e w9 ⟨vf3, rfl, f3, hf9⟩
  replace rX := rX.fwd hf9
  replace rY := rY.fwd hf9
  replace rZ := rZ.fwd hf9
  replace f1 := f1.fwd hf9
  replace f2 := f2.fwd hf9
  replace kX := kX.fwd hf9
  replace kY := kY.fwd hf9
  replace kZ := kZ.fwd hf9
  replace hF := hF.trans hf9
  clear hf9
  clear xc0 xc1 xc2
  have xc0 := BlkV.cell kX 0 rfl
  have xc1 := BlkV.cell kX 1 rfl
  have xc2 := BlkV.cell kX 2 rfl
  clear yc0 yc1 yc2
  have yc0 := BlkV.cell kY 0 rfl
  have yc1 := BlkV.cell kY 1 rfl
  have yc2 := BlkV.cell kY 2 rfl
  clear zc0 zc1 zc2
  have zc0 := BlkV.cell kZ 0 rfl
  have zc1 := BlkV.cell kZ 1 rfl
  have zc2 := BlkV.cell kZ 2 rfl
  go_wp2_with fail
  clear hHeld
  refine hK.out _ _ ⟨by with_reducible assumption, by with_reducible assumption, by with_reducible assumption, by with_reducible assumption, by with_reducible assumption, by with_reducible assumption, by with_reducible assumption, by with_reducible assumption, by with_reducible assumption⟩ (fun hHeld => ?_)
  clear hK K
  try simp only [Act.put, List.setIfInBounds_toArray, List.set_cons_zero, List.set_cons_succ]
  refine wpAnyH_ready (rs := [29]) (by kernel_rfl) (by simp) ?_
  refine AllReadyH.cons rfl (fun K hK => ?_) AllReadyH.nil
  go_simp
  refine (rneg_any rY (by omega)).mono ?_
  rintro e w10 ⟨vf4, rfl, f4, hf10⟩
  replace rX := rX.fwd hf10
  replace rY := rY.fwd hf10
  replace rZ := rZ.fwd hf10
  replace f1 := f1.fwd hf10
  replace f2 := f2.fwd hf10
  replace f3 := f3.fwd hf10
  replace kX := kX.fwd hf10
  replace kY := kY.fwd hf10
  replace kZ := kZ.fwd hf10
  replace hF := hF.trans hf10
  clear hf10
  clear xc0 xc1 xc2
  have xc0 := BlkV.cell kX 0 rfl
  have xc1 := BlkV.cell kX 1 rfl
  have xc2 := BlkV.cell kX 2 rfl
  clear yc0 yc1 yc2
  have yc0 := BlkV.cell kY 0 rfl
  have yc1 := BlkV.cell kY 1 rfl
  have yc2 := BlkV.cell kY 2 rfl
  clear zc0 zc1 zc2
  have zc0 := BlkV.cell kZ 0 rfl
  have zc1 := BlkV.cell kZ 1 rfl
  have zc2 := BlkV.cell kZ 2 rfl
  go_wp2_with fail
  clear hHeld
  refine hK.out _ _ ⟨by with_reducible assumption, by with_reducible assumption, by with_reducible assumption, by with_reducible assumption, by with_reducible assumption, by with_reducible assumption, by with_reducible assumption, by with_reducible assumption, by with_reducible assumption⟩ (fun hHeld => ?_)
  clear hK K
  try simp only [Act.put, List.setIfInBounds_toArray, List.set_cons_zero, List.set_cons_succ]
  refine wpAnyH_ready (rs := [30]) (by kernel_rfl) (by simp) ?_
  refine AllReadyH.cons rfl (fun K hK => ?_) AllReadyH.nil
  go_simp
  refine (rcmp_any f3 f4 (by omega) (by omega)).mono ?_
  rintro e w11 ⟨rfl, hf11⟩
  replace rX := rX.fwd hf11
  replace rY := rY.fwd hf11
  replace rZ := rZ.fwd hf11
  replace f1 := f1.fwd hf11
  replace f2 := f2.fwd hf11
  replace f3 := f3.fwd hf11
  replace f4 := f4.fwd hf11
  replace kX := kX.fwd hf11
  replace kY := kY.fwd hf11
  replace kZ := kZ.fwd hf11
  replace hF := hF.trans hf11
  clear hf11
  clear xc0 xc1 xc2
  have xc0 := BlkV.cell kX 0 rfl
  have xc1 := BlkV.cell kX 1 rfl
  have xc2 := BlkV.cell kX 2 rfl
  clear yc0 yc1 yc2
  have yc0 := BlkV.cell kY 0 rfl
  have yc1 := BlkV.cell kY 1 rfl
  have yc2 := BlkV.cell kY 2 rfl
  clear zc0 zc1 zc2
  have zc0 := BlkV.cell kZ 0 rfl
  have zc1 := BlkV.cell kZ 1 rfl
  have zc2 := BlkV.cell kZ 2 rfl
  rw [H4.out]
  go_wp2_with fail
  clear hHeld
  refine hK.out _ _ ⟨by with_reducible assumption, by with_reducible assumption, by with_reducible assumption, by with_reducible assumption, by with_reducible assumption, by with_reducible assumption, by with_reducible assumption, by with_reducible assumption, by with_reducible assumption⟩ (fun hHeld => ?_)
  clear hK K
  try simp only [Act.put, List.setIfInBounds_toArray, List.set_cons_zero, List.set_cons_succ]
  refine wpAnyH_take (i := 33) (oi := ?oi2_954_33) (v := ?vv2_954_33) ?hi2_954_33 (by kernel_rfl) (by kernel_rfl) (by kernel_rfl) ?hq2_954_33 ?hy2_954_33 hHeld ?rest2_954_33
  case hi2_954_33 => (simp only [List.getElem?_toArray, List.getElem?_cons_succ, List.getElem?_cons_zero]; rfl)
  case hq2_954_33 => exact fun _ _ _ h => h
  case hy2_954_33 =>
    refine Or.inl ⟨by rfl, ?_⟩
    intro wS hSw
    try dsimp only at hSw
    obtain ⟨q0, q1, q2, q3, q4, q5, q6, q7, q8⟩ := hSw
    go_simp
    try with_reducible rfl
  simp only [Act.put, List.setIfInBounds_toArray, List.set_cons_zero, List.set_cons_succ]
  refine wpAnyH_take (i := 34) (oi := ?oi2_965_34) (v := ?vv2_965_34) ?hi2_965_34 (by kernel_rfl) (by kernel_rfl) (by kernel_rfl) ?hq2_965_34 ?hy2_965_34 hHeld ?rest2_965_34
  case hi2_965_34 => (simp only [List.getElem?_toArray, List.getElem?_cons_succ, List.getElem?_cons_zero]; rfl)
  case hq2_965_34 => exact fun _ _ _ h => h
  case hy2_965_34 =>
    refine Or.inl ⟨by rfl, ?_⟩
    intro wS hSw
    try dsimp only at hSw
    obtain ⟨q0, q1, q2, q3, q4, q5, q6, q7, q8⟩ := hSw
    go_simp
    try with_reducible rfl
  simp only [Act.put, List.setIfInBounds_toArray, List.set_cons_zero, List.set_cons_succ]
  refine wpAnyH_done (by kernel_rfl) ?_ _
  clear f1 f2 f3 f4
  have bP := nr_abs qZ
  obtain ⟨qP, hqP⟩ : ∃ q, q = absQ qZ := ⟨_, rfl⟩
  rw [← hqP] at bP
  have HP := hid hqP
  clear hqP
  go_wp2_with fail
  refine (rabs_any rZ (by omega)).mono ?_
  rintro e w12 ⟨v, rfl, rP, hf12⟩
  replace rX := rX.fwd hf12
  replace rY := rY.fwd hf12
  replace rZ := rZ.fwd hf12
  replace kX := kX.fwd hf12
  replace kY := kY.fwd hf12
  replace kZ := kZ.fwd hf12
  replace hF := hF.trans hf12
  clear hf12
  clear xc0 xc1 xc2
  have xc0 := BlkV.cell kX 0 rfl
  have xc1 := BlkV.cell kX 1 rfl
  have xc2 := BlkV.cell kX 2 rfl
  clear yc0 yc1 yc2
  have yc0 := BlkV.cell kY 0 rfl
  have yc1 := BlkV.cell kY 1 rfl
  have yc2 := BlkV.cell kY 2 rfl
  clear zc0 zc1 zc2
  have zc0 := BlkV.cell kZ 0 rfl
  have zc1 := BlkV.cell kZ 1 rfl
  have zc2 := BlkV.cell kZ 2 rfl
  rw [← HP.out] at rP
  have HV := hid rP
  obtain ⟨poP, pcP, qoP, qcP, rfl, p1P, p2P, p3P, p4P, -, -⟩ := RW.open rP.rw'
  clear rP
  have rP := HV.out
  clear HV
  have hfB : Fwd w12 (w12.alloc (.cells #[.bool (negQ qP), .slice poP (nl qP.num.natAbs) pcP, .slice qoP (nl qP.den) qcP] 24)) := (Fwd.refl _).alloc _
  replace rX := rX.fwd hfB
  replace rY := rY.fwd hfB
  replace rZ := rZ.fwd hfB
  replace rP := rP.fwd hfB
  replace kX := kX.fwd hfB
  replace kY := kY.fwd hfB
  replace kZ := kZ.fwd hfB
  replace hF := hF.trans hfB
  clear hfB
  clear xc0 xc1 xc2
  have xc0 := BlkV.cell kX 0 rfl
  have xc1 := BlkV.cell kX 1 rfl
  have xc2 := BlkV.cell kX 2 rfl
  clear yc0 yc1 yc2
  have yc0 := BlkV.cell kY 0 rfl
  have yc1 := BlkV.cell kY 1 rfl
  have yc2 := BlkV.cell kY 2 rfl
  clear zc0 zc1 zc2
  have zc0 := BlkV.cell kZ 0 rfl
  have zc1 := BlkV.cell kZ 1 rfl
  have zc2 := BlkV.cell kZ 2 rfl
  have kP := BlkV.made w12 24 [.bool (negQ qP), .slice poP (nl qP.num.natAbs) pcP, .slice qoP (nl qP.den) qcP]
  go_upto_region 8 with fail
  generalize (w12.alloc (.cells #[.bool (negQ qP), .slice poP (nl qP.num.natAbs) pcP, .slice qoP (nl qP.den) qcP] 24)) = w13 at kP rX rY rZ rP kX kY kZ hF ⊢
  clear xc0 xc1 xc2 yc0 yc1 yc2 zc0 zc1 zc2
  have xc0 := BlkV.cell kX 0 rfl
  have xc1 := BlkV.cell kX 1 rfl
  have xc2 := BlkV.cell kX 2 rfl
  have yc0 := BlkV.cell kY 0 rfl
  have yc1 := BlkV.cell kY 1 rfl
  have yc2 := BlkV.cell kY 2 rfl
  have zc0 := BlkV.cell kZ 0 rfl
  have zc1 := BlkV.cell kZ 1 rfl
  have zc2 := BlkV.cell kZ 2 rfl
  have pc0 := BlkV.cell kP 0 rfl
  have pc1 := BlkV.cell kP 1 rfl
  have pc2 := BlkV.cell kP 2 rfl
  by_cases hz : qZ = 0
  · have hd0 : decide (qZ = 0) = true := decide_eq_true hz
    clear hz
    replace rX := rX.drew
    replace rY := rY.drew
    replace rZ := rZ.drew
    replace rP := rP.drew
    replace kX := kX.drew
    replace kY := kY.drew
    replace kZ := kZ.drew
    replace kP := kP.drew
    replace hF := hF.drew
    clear xc0 xc1 xc2
    have xc0 := BlkV.cell kX 0 rfl
    have xc1 := BlkV.cell kX 1 rfl
    have xc2 := BlkV.cell kX 2 rfl
    clear yc0 yc1 yc2
    have yc0 := BlkV.cell kY 0 rfl
    have yc1 := BlkV.cell kY 1 rfl
    have yc2 := BlkV.cell kY 2 rfl
    clear zc0 zc1 zc2
    have zc0 := BlkV.cell kZ 0 rfl
    have zc1 := BlkV.cell kZ 1 rfl
    have zc2 := BlkV.cell kZ 2 rfl
    clear pc0 pc1 pc2
    have pc0 := BlkV.cell kP 0 rfl
    have pc1 := BlkV.cell kP 1 rfl
    have pc2 := BlkV.cell kP 2 rfl
    refine wp_region_held_drew (S := fun w' => w'.cell? ⟨gX, 0, none⟩ = some (.bool (negQ qX)) ∧ w'.cell? ⟨gX, 1, none⟩ = some (.slice poX (nl qX.num.natAbs) pcX) ∧ w'.cell? ⟨gX, 2, none⟩ = some (.slice qoX (nl qX.den) qcX) ∧ w'.cell? ⟨gY, 0, none⟩ = some (.bool (negQ qY)) ∧ w'.cell? ⟨gY, 1, none⟩ = some (.slice poY (nl qY.num.natAbs) pcY) ∧ w'.cell? ⟨gY, 2, none⟩ = some (.slice qoY (nl qY.den) qcY) ∧ w'.cell? ⟨gZ, 0, none⟩ = some (.bool (negQ qZ)) ∧ w'.cell? ⟨gZ, 1, none⟩ = some (.slice poZ (nl qZ.num.natAbs) pcZ) ∧ w'.cell? ⟨gZ, 2, none⟩ = some (.slice qoZ (nl qZ.den) qcZ) ∧ w'.cell? ⟨w12.heap.size, 0, none⟩ = some (.bool (negQ qP)) ∧ w'.cell? ⟨w12.heap.size, 1, none⟩ = some (.slice poP (nl qP.num.natAbs) pcP) ∧ w'.cell? ⟨w12.heap.size, 2, none⟩ = some (.slice qoP (nl qP.den) qcP)) (by kernel_rfl) ⟨by with_reducible assumption, by with_reducible assumption, by with_reducible assumption, by with_reducible assumption, by with_reducible assumption, by with_reducible assumption, by with_reducible assumption, by with_reducible assumption, by with_reducible assumption, by with_reducible assumption, by with_reducible assumption, by with_reducible assumption⟩ (fun hHeld => ?_)
    refine wpAnyH_take (i := 0) (oi := ?oi4_28_0) (v := ?vv4_28_0) ?hi4_28_0 (by kernel_rfl) (by kernel_rfl) (by kernel_rfl) ?hq4_28_0 ?hy4_28_0 hHeld ?rest4_28_0
    case hi4_28_0 => (simp only [List.getElem?_toArray, List.getElem?_cons_succ, List.getElem?_cons_zero]; rfl)
    case hq4_28_0 => exact fun _ _ _ h => h
    case hy4_28_0 =>
      refine Or.inl ⟨by rfl, ?_⟩
      intro wS hSw
      try dsimp only at hSw
      obtain ⟨q0, q1, q2, q3, q4, q5, q6, q7, q8, q9, q10, q11⟩ := hSw
      go_simp
      try with_reducible rfl
    simp only [Act.put, List.setIfInBounds_toArray, List.set_cons_zero, List.set_cons_succ]
    refine wpAnyH_ready (rs := [1]) (by kernel_rfl) (by simp) ?_
    refine AllReadyH.cons rfl (fun K hK => ?_) AllReadyH.nil
    go_simp
    refine (nought2_num rZ (by omega)).mono ?_
    rintro e w14 ⟨rfl, hf14⟩
    replace rX := rX.fwd hf14
    replace rY := rY.fwd hf14
    replace rZ := rZ.fwd hf14
    replace rP := rP.fwd hf14
    replace kX := kX.fwd hf14
    replace kY := kY.fwd hf14
    replace kZ := kZ.fwd hf14
    replace kP := kP.fwd hf14
    replace hF := hF.trans hf14
    clear hf14
    clear xc0 xc1 xc2
    have xc0 := BlkV.cell kX 0 rfl
    have xc1 := BlkV.cell kX 1 rfl
    have xc2 := BlkV.cell kX 2 rfl
    clear yc0 yc1 yc2
    have yc0 := BlkV.cell kY 0 rfl
    have yc1 := BlkV.cell kY 1 rfl
    have yc2 := BlkV.cell kY 2 rfl
    clear zc0 zc1 zc2
    have zc0 := BlkV.cell kZ 0 rfl
    have zc1 := BlkV.cell kZ 1 rfl
    have zc2 := BlkV.cell kZ 2 rfl
    clear pc0 pc1 pc2
    have pc0 := BlkV.cell kP 0 rfl
    have pc1 := BlkV.cell kP 1 rfl
    have pc2 := BlkV.cell kP 2 rfl
    rw [hd0]
    go_wp2_with fail
    clear hHeld
    refine hK.out _ _ ⟨by with_reducible assumption, by with_reducible assumption, by with_reducible assumption, by with_reducible assumption, by with_reducible assumption, by with_reducible assumption, by with_reducible assumption, by with_reducible assumption, by with_reducible assumption, by with_reducible assumption, by with_reducible assumption, by with_reducible assumption⟩ (fun hHeld => ?_)
    clear hK K
    try simp only [Act.put, List.setIfInBounds_toArray, List.set_cons_zero, List.set_cons_succ]
    refine wpAnyH_take (i := 2) (oi := ?oi4_76_2) (v := ?vv4_76_2) ?hi4_76_2 (by kernel_rfl) (by kernel_rfl) (by kernel_rfl) ?hq4_76_2 ?hy4_76_2 hHeld ?rest4_76_2
    case hi4_76_2 => (simp only [List.getElem?_toArray, List.getElem?_cons_succ, List.getElem?_cons_zero]; rfl)
    case hq4_76_2 => exact fun _ _ _ h => h
    case hy4_76_2 =>
      refine Or.inl ⟨by rfl, ?_⟩
      intro wS hSw
      try dsimp only at hSw
      obtain ⟨q0, q1, q2, q3, q4, q5, q6, q7, q8, q9, q10, q11⟩ := hSw
      go_simp
      try with_reducible rfl
    simp only [Act.put, List.setIfInBounds_toArray, List.set_cons_zero, List.set_cons_succ]
    refine wpAnyH_take (i := 3) (oi := ?oi4_87_3) (v := undef) ?hi4_87_3 (by kernel_rfl) (by kernel_rfl) (by kernel_rfl) ?hq4_87_3 ?hy4_87_3 hHeld ?rest4_87_3
    case hi4_87_3 => (simp only [List.getElem?_toArray, List.getElem?_cons_succ, List.getElem?_cons_zero]; rfl)
    case hq4_87_3 => exact fun _ _ _ h => h
    case hy4_87_3 => exact Or.inr ⟨by rfl, rfl⟩
    simp only [Act.put, List.setIfInBounds_toArray, List.set_cons_zero, List.set_cons_succ]
    refine wpAnyH_take (i := 4) (oi := ?oi4_92_4) (v := undef) ?hi4_92_4 (by kernel_rfl) (by kernel_rfl) (by kernel_rfl) ?hq4_92_4 ?hy4_92_4 hHeld ?rest4_92_4
    case hi4_92_4 => (simp only [List.getElem?_toArray, List.getElem?_cons_succ, List.getElem?_cons_zero]; rfl)
    case hq4_92_4 => exact fun _ _ _ h => h
    case hy4_92_4 => exact Or.inr ⟨by rfl, rfl⟩
    simp only [Act.put, List.setIfInBounds_toArray, List.set_cons_zero, List.set_cons_succ]
    refine wpAnyH_take (i := 5) (oi := ?oi4_97_5) (v := undef) ?hi4_97_5 (by kernel_rfl) (by kernel_rfl) (by kernel_rfl) ?hq4_97_5 ?hy4_97_5 hHeld ?rest4_97_5
    case hi4_97_5 => (simp only [List.getElem?_toArray, List.getElem?_cons_succ, List.getElem?_cons_zero]; rfl)
    case hq4_97_5 => exact fun _ _ _ h => h
    case hy4_97_5 => exact Or.inr ⟨by rfl, rfl⟩
    simp only [Act.put, List.setIfInBounds_toArray, List.set_cons_zero, List.set_cons_succ]
    refine wpAnyH_take (i := 6) (oi := ?oi4_102_6) (v := undef) ?hi4_102_6 (by kernel_rfl) (by kernel_rfl) (by kernel_rfl) ?hq4_102_6 ?hy4_102_6 hHeld ?rest4_102_6
    case hi4_102_6 => (simp only [List.getElem?_toArray, List.getElem?_cons_succ, List.getElem?_cons_zero]; rfl)
    case hq4_102_6 => exact fun _ _ _ h => h
    case hy4_102_6 => exact Or.inr ⟨by rfl, rfl⟩
    simp only [Act.put, List.setIfInBounds_toArray, List.set_cons_zero, List.set_cons_succ]
    refine wpAnyH_take (i := 7) (oi := ?oi4_107_7) (v := undef) ?hi4_107_7 (by kernel_rfl) (by kernel_rfl) (by kernel_rfl) ?hq4_107_7 ?hy4_107_7 hHeld ?rest4_107_7
    case hi4_107_7 => (simp only [List.getElem?_toArray, List.getElem?_cons_succ, List.getElem?_cons_zero]; rfl)
    case hq4_107_7 => exact fun _ _ _ h => h
    case hy4_107_7 => exact Or.inr ⟨by rfl, rfl⟩
    simp only [Act.put, List.setIfInBounds_toArray, List.set_cons_zero, List.set_cons_succ]
    refine wpAnyH_take (i := 8) (oi := ?oi4_112_8) (v := undef) ?hi4_112_8 (by kernel_rfl) (by kernel_rfl) (by kernel_rfl) ?hq4_112_8 ?hy4_112_8 hHeld ?rest4_112_8
    case hi4_112_8 => (simp only [List.getElem?_toArray, List.getElem?_cons_succ, List.getElem?_cons_zero]; rfl)
    case hq4_112_8 => exact fun _ _ _ h => h
    case hy4_112_8 => exact Or.inr ⟨by rfl, rfl⟩
    simp only [Act.put, List.setIfInBounds_toArray, List.set_cons_zero, List.set_cons_succ]
    refine wpAnyH_take (i := 9) (oi := ?oi4_117_9) (v := undef) ?hi4_117_9 (by kernel_rfl) (by kernel_rfl) (by kernel_rfl) ?hq4_117_9 ?hy4_117_9 hHeld ?rest4_117_9
    case hi4_117_9 => (simp only [List.getElem?_toArray, List.getElem?_cons_succ, List.getElem?_cons_zero]; rfl)
    case hq4_117_9 => exact fun _ _ _ h => h
    case hy4_117_9 => exact Or.inr ⟨by rfl, rfl⟩
    simp only [Act.put, List.setIfInBounds_toArray, List.set_cons_zero, List.set_cons_succ]
    refine wpAnyH_take (i := 10) (oi := ?oi4_122_10) (v := undef) ?hi4_122_10 (by kernel_rfl) (by kernel_rfl) (by kernel_rfl) ?hq4_122_10 ?hy4_122_10 hHeld ?rest4_122_10
    case hi4_122_10 => (simp only [List.getElem?_toArray, List.getElem?_cons_succ, List.getElem?_cons_zero]; rfl)
    case hq4_122_10 => exact fun _ _ _ h => h
    case hy4_122_10 => exact Or.inr ⟨by rfl, rfl⟩
    simp only [Act.put, List.setIfInBounds_toArray, List.set_cons_zero, List.set_cons_succ]
    refine wpAnyH_take (i := 11) (oi := ?oi4_127_11) (v := undef) ?hi4_127_11 (by kernel_rfl) (by kernel_rfl) (by kernel_rfl) ?hq4_127_11 ?hy4_127_11 hHeld ?rest4_127_11
    case hi4_127_11 => (simp only [List.getElem?_toArray, List.getElem?_cons_succ, List.getElem?_cons_zero]; rfl)
    case hq4_127_11 => exact fun _ _ _ h => h
    case hy4_127_11 => exact Or.inr ⟨by rfl, rfl⟩
    simp only [Act.put, List.setIfInBounds_toArray, List.set_cons_zero, List.set_cons_succ]
    refine wpAnyH_take (i := 12) (oi := ?oi4_132_12) (v := undef) ?hi4_132_12 (by kernel_rfl) (by kernel_rfl) (by kernel_rfl) ?hq4_132_12 ?hy4_132_12 hHeld ?rest4_132_12
    case hi4_132_12 => (simp only [List.getElem?_toArray, List.getElem?_cons_succ, List.getElem?_cons_zero]; rfl)
    case hq4_132_12 => exact fun _ _ _ h => h
    case hy4_132_12 => exact Or.inr ⟨by rfl, rfl⟩
    simp only [Act.put, List.setIfInBounds_toArray, List.set_cons_zero, List.set_cons_succ]
    refine wpAnyH_take (i := 13) (oi := ?oi4_137_13) (v := undef) ?hi4_137_13 (by kernel_rfl) (by kernel_rfl) (by kernel_rfl) ?hq4_137_13 ?hy4_137_13 hHeld ?rest4_137_13
    case hi4_137_13 => (simp only [List.getElem?_toArray, List.getElem?_cons_succ, List.getElem?_cons_zero]; rfl)
    case hq4_137_13 => exact fun _ _ _ h => h
    case hy4_137_13 => exact Or.inr ⟨by rfl, rfl⟩
    simp only [Act.put, List.setIfInBounds_toArray, List.set_cons_zero, List.set_cons_succ]
    refine wpAnyH_take (i := 14) (oi := ?oi4_142_14) (v := undef) ?hi4_142_14 (by kernel_rfl) (by kernel_rfl) (by kernel_rfl) ?hq4_142_14 ?hy4_142_14 hHeld ?rest4_142_14
    case hi4_142_14 => (simp only [List.getElem?_toArray, List.getElem?_cons_succ, List.getElem?_cons_zero]; rfl)
    case hq4_142_14 => exact fun _ _ _ h => h
    case hy4_142_14 => exact Or.inr ⟨by rfl, rfl⟩
    simp only [Act.put, List.setIfInBounds_toArray, List.set_cons_zero, List.set_cons_succ]
    refine wpAnyH_take (i := 15) (oi := ?oi4_147_15) (v := undef) ?hi4_147_15 (by kernel_rfl) (by kernel_rfl) (by kernel_rfl) ?hq4_147_15 ?hy4_147_15 hHeld ?rest4_147_15
    case hi4_147_15 => (simp only [List.getElem?_toArray, List.getElem?_cons_succ, List.getElem?_cons_zero]; rfl)
    case hq4_147_15 => exact fun _ _ _ h => h
    case hy4_147_15 => exact Or.inr ⟨by rfl, rfl⟩
    simp only [Act.put, List.setIfInBounds_toArray, List.set_cons_zero, List.set_cons_succ]
    refine wpAnyH_take (i := 16) (oi := ?oi4_152_16) (v := undef) ?hi4_152_16 (by kernel_rfl) (by kernel_rfl) (by kernel_rfl) ?hq4_152_16 ?hy4_152_16 hHeld ?rest4_152_16
    case hi4_152_16 => (simp only [List.getElem?_toArray, List.getElem?_cons_succ, List.getElem?_cons_zero]; rfl)
    case hq4_152_16 => exact fun _ _ _ h => h
    case hy4_152_16 => exact Or.inr ⟨by rfl, rfl⟩
    simp only [Act.put, List.setIfInBounds_toArray, List.set_cons_zero, List.set_cons_succ]
    refine wpAnyH_take (i := 17) (oi := ?oi4_157_17) (v := undef) ?hi4_157_17 (by kernel_rfl) (by kernel_rfl) (by kernel_rfl) ?hq4_157_17 ?hy4_157_17 hHeld ?rest4_157_17
    case hi4_157_17 => (simp only [List.getElem?_toArray, List.getElem?_cons_succ, List.getElem?_cons_zero]; rfl)
    case hq4_157_17 => exact fun _ _ _ h => h
    case hy4_157_17 => exact Or.inr ⟨by rfl, rfl⟩
    simp only [Act.put, List.setIfInBounds_toArray, List.set_cons_zero, List.set_cons_succ]
    refine wpAnyH_take (i := 18) (oi := ?oi4_162_18) (v := undef) ?hi4_162_18 (by kernel_rfl) (by kernel_rfl) (by kernel_rfl) ?hq4_162_18 ?hy4_162_18 hHeld ?rest4_162_18
    case hi4_162_18 => (simp only [List.getElem?_toArray, List.getElem?_cons_succ, List.getElem?_cons_zero]; rfl)
    case hq4_162_18 => exact fun _ _ _ h => h
    case hy4_162_18 => exact Or.inr ⟨by rfl, rfl⟩
    simp only [Act.put, List.setIfInBounds_toArray, List.set_cons_zero, List.set_cons_succ]
    refine wpAnyH_take (i := 19) (oi := ?oi4_167_19) (v := undef) ?hi4_167_19 (by kernel_rfl) (by kernel_rfl) (by kernel_rfl) ?hq4_167_19 ?hy4_167_19 hHeld ?rest4_167_19
    case hi4_167_19 => (simp only [List.getElem?_toArray, List.getElem?_cons_succ, List.getElem?_cons_zero]; rfl)
    case hq4_167_19 => exact fun _ _ _ h => h
    case hy4_167_19 => exact Or.inr ⟨by rfl, rfl⟩
    simp only [Act.put, List.setIfInBounds_toArray, List.set_cons_zero, List.set_cons_succ]
    refine wpAnyH_take (i := 20) (oi := ?oi4_172_20) (v := undef) ?hi4_172_20 (by kernel_rfl) (by kernel_rfl) (by kernel_rfl) ?hq4_172_20 ?hy4_172_20 hHeld ?rest4_172_20
    case hi4_172_20 => (simp only [List.getElem?_toArray, List.getElem?_cons_succ, List.getElem?_cons_zero]; rfl)
    case hq4_172_20 => exact fun _ _ _ h => h
    case hy4_172_20 => exact Or.inr ⟨by rfl, rfl⟩
    simp only [Act.put, List.setIfInBounds_toArray, List.set_cons_zero, List.set_cons_succ]
    refine wpAnyH_take (i := 21) (oi := ?oi4_177_21) (v := undef) ?hi4_177_21 (by kernel_rfl) (by kernel_rfl) (by kernel_rfl) ?hq4_177_21 ?hy4_177_21 hHeld ?rest4_177_21
    case hi4_177_21 => (simp only [List.getElem?_toArray, List.getElem?_cons_succ, List.getElem?_cons_zero]; rfl)
    case hq4_177_21 => exact fun _ _ _ h => h
    case hy4_177_21 => exact Or.inr ⟨by rfl, rfl⟩
    simp only [Act.put, List.setIfInBounds_toArray, List.set_cons_zero, List.set_cons_succ]
    refine wpAnyH_take (i := 22) (oi := ?oi4_182_22) (v := undef) ?hi4_182_22 (by kernel_rfl) (by kernel_rfl) (by kernel_rfl) ?hq4_182_22 ?hy4_182_22 hHeld ?rest4_182_22
    case hi4_182_22 => (simp only [List.getElem?_toArray, List.getElem?_cons_succ, List.getElem?_cons_zero]; rfl)
    case hq4_182_22 => exact fun _ _ _ h => h
    case hy4_182_22 => exact Or.inr ⟨by rfl, rfl⟩
    simp only [Act.put, List.setIfInBounds_toArray, List.set_cons_zero, List.set_cons_succ]
    refine wpAnyH_take (i := 23) (oi := ?oi4_187_23) (v := undef) ?hi4_187_23 (by kernel_rfl) (by kernel_rfl) (by kernel_rfl) ?hq4_187_23 ?hy4_187_23 hHeld ?rest4_187_23
    case hi4_187_23 => (simp only [List.getElem?_toArray, List.getElem?_cons_succ, List.getElem?_cons_zero]; rfl)
    case hq4_187_23 => exact fun _ _ _ h => h
    case hy4_187_23 => exact Or.inr ⟨by rfl, rfl⟩
    simp only [Act.put, List.setIfInBounds_toArray, List.set_cons_zero, List.set_cons_succ]
    refine wpAnyH_take (i := 24) (oi := ?oi4_192_24) (v := undef) ?hi4_192_24 (by kernel_rfl) (by kernel_rfl) (by kernel_rfl) ?hq4_192_24 ?hy4_192_24 hHeld ?rest4_192_24
    case hi4_192_24 => (simp only [List.getElem?_toArray, List.getElem?_cons_succ, List.getElem?_cons_zero]; rfl)
    case hq4_192_24 => exact fun _ _ _ h => h
    case hy4_192_24 => exact Or.inr ⟨by rfl, rfl⟩
    simp only [Act.put, List.setIfInBounds_toArray, List.set_cons_zero, List.set_cons_succ]
    refine wpAnyH_take (i := 25) (oi := ?oi4_197_25) (v := undef) ?hi4_197_25 (by kernel_rfl) (by kernel_rfl) (by kernel_rfl) ?hq4_197_25 ?hy4_197_25 hHeld ?rest4_197_25
    case hi4_197_25 => (simp only [List.getElem?_toArray, List.getElem?_cons_succ, List.getElem?_cons_zero]; rfl)
    case hq4_197_25 => exact fun _ _ _ h => h
    case hy4_197_25 => exact Or.inr ⟨by rfl, rfl⟩
    simp only [Act.put, List.setIfInBounds_toArray, List.set_cons_zero, List.set_cons_succ]
    refine wpAnyH_take (i := 26) (oi := ?oi4_202_26) (v := undef) ?hi4_202_26 (by kernel_rfl) (by kernel_rfl) (by kernel_rfl) ?hq4_202_26 ?hy4_202_26 hHeld ?rest4_202_26
    case hi4_202_26 => (simp only [List.getElem?_toArray, List.getElem?_cons_succ, List.getElem?_cons_zero]; rfl)
    case hq4_202_26 => exact fun _ _ _ h => h
    case hy4_202_26 => exact Or.inr ⟨by rfl, rfl⟩
    simp only [Act.put, List.setIfInBounds_toArray, List.set_cons_zero, List.set_cons_succ]
    refine wpAnyH_take (i := 27) (oi := ?oi4_207_27) (v := undef) ?hi4_207_27 (by kernel_rfl) (by kernel_rfl) (by kernel_rfl) ?hq4_207_27 ?hy4_207_27 hHeld ?rest4_207_27
    case hi4_207_27 => (simp only [List.getElem?_toArray, List.getElem?_cons_succ, List.getElem?_cons_zero]; rfl)
    case hq4_207_27 => exact fun _ _ _ h => h
    case hy4_207_27 => exact Or.inr ⟨by rfl, rfl⟩
    simp only [Act.put, List.setIfInBounds_toArray, List.set_cons_zero, List.set_cons_succ]
    refine wpAnyH_take (i := 28) (oi := ?oi4_212_28) (v := undef) ?hi4_212_28 (by kernel_rfl) (by kernel_rfl) (by kernel_rfl) ?hq4_212_28 ?hy4_212_28 hHeld ?rest4_212_28
    case hi4_212_28 => (simp only [List.getElem?_toArray, List.getElem?_cons_succ, List.getElem?_cons_zero]; rfl)
    case hq4_212_28 => exact fun _ _ _ h => h
    case hy4_212_28 => exact Or.inr ⟨by rfl, rfl⟩
    simp only [Act.put, List.setIfInBounds_toArray, List.set_cons_zero, List.set_cons_succ]
    refine wpAnyH_take (i := 29) (oi := ?oi4_217_29) (v := undef) ?hi4_217_29 (by kernel_rfl) (by kernel_rfl) (by kernel_rfl) ?hq4_217_29 ?hy4_217_29 hHeld ?rest4_217_29
    case hi4_217_29 => (simp only [List.getElem?_toArray, List.getElem?_cons_succ, List.getElem?_cons_zero]; rfl)
    case hq4_217_29 => exact fun _ _ _ h => h
    case hy4_217_29 => exact Or.inr ⟨by rfl, rfl⟩
    simp only [Act.put, List.setIfInBounds_toArray, List.set_cons_zero, List.set_cons_succ]
    refine wpAnyH_take (i := 30) (oi := ?oi4_222_30) (v := undef) ?hi4_222_30 (by kernel_rfl) (by kernel_rfl) (by kernel_rfl) ?hq4_222_30 ?hy4_222_30 hHeld ?rest4_222_30
    case hi4_222_30 => (simp only [List.getElem?_toArray, List.getElem?_cons_succ, List.getElem?_cons_zero]; rfl)
    case hq4_222_30 => exact fun _ _ _ h => h
    case hy4_222_30 => exact Or.inr ⟨by rfl, rfl⟩
    simp only [Act.put, List.setIfInBounds_toArray, List.set_cons_zero, List.set_cons_succ]
    refine wpAnyH_take (i := 31) (oi := ?oi4_227_31) (v := ?vv4_227_31) ?hi4_227_31 (by kernel_rfl) (by kernel_rfl) (by kernel_rfl) ?hq4_227_31 ?hy4_227_31 hHeld ?rest4_227_31
    case hi4_227_31 => (simp only [List.getElem?_toArray, List.getElem?_cons_succ, List.getElem?_cons_zero]; rfl)
    case hq4_227_31 => exact fun _ _ _ h => h
    case hy4_227_31 =>
      refine Or.inl ⟨by rfl, ?_⟩
      intro wS hSw
      try dsimp only at hSw
      obtain ⟨q0, q1, q2, q3, q4, q5, q6, q7, q8, q9, q10, q11⟩ := hSw
      go_simp
      try with_reducible rfl
    simp only [Act.put, List.setIfInBounds_toArray, List.set_cons_zero, List.set_cons_succ]
    refine wpAnyH_take (i := 32) (oi := ?oi4_238_32) (v := ?vv4_238_32) ?hi4_238_32 (by kernel_rfl) (by kernel_rfl) (by kernel_rfl) ?hq4_238_32 ?hy4_238_32 hHeld ?rest4_238_32
    case hi4_238_32 => (simp only [List.getElem?_toArray, List.getElem?_cons_succ, List.getElem?_cons_zero]; rfl)
    case hq4_238_32 => exact fun _ _ _ h => h
    case hy4_238_32 =>
      refine Or.inl ⟨by rfl, ?_⟩
      intro wS hSw
      try dsimp only at hSw
      obtain ⟨q0, q1, q2, q3, q4, q5, q6, q7, q8, q9, q10, q11⟩ := hSw
      go_simp
      try with_reducible rfl
    simp only [Act.put, List.setIfInBounds_toArray, List.set_cons_zero, List.set_cons_succ]
    refine wpAnyH_done (by kernel_rfl) ?_ _
    go_wp2_with fail
    go_ret
    exact ⟨rfl, hF⟩
  · have hd0 : decide (qZ = 0) = false := decide_eq_false hz
    have hp0 : 0 < qP := by rw [HP.out]; exact absQ_pos hz
    have H5 : Hid (cmpQ (qX * qP) (qY * qP) = o) := hid (by rw [HO.out]; exact cmpQ_mul hp0)
    have H6 : Hid (cmpQ qP 0 = 1) := hid (cmpQ_pos hp0)
    clear hz hp0
    have b1 := nr_abs (qX + qY)
    have b2 := nr_abs qX
    have b3 := nr_abs qY
    have bz : nr (0 : Rat) ≤ 1 := by decide +kernel
    obtain ⟨t, ht⟩ : ∃ t, t = cmpQ (absQ (qX + qY)) (absQ qX + absQ qY) := ⟨_, rfl⟩
    have ht0 : t ≤ 0 := by rw [ht]; exact absQ_tri _ _
    have HT := hid ht
    clear ht
    have bng1 := nr_mul qX qP
    have bng2 := nr_mul qY qP
    have bng3 := nr_add qX qY
    have b4 := nr_add (absQ qX) (absQ qY)
    replace rX := rX.drew
    replace rY := rY.drew
    replace rZ := rZ.drew
    replace rP := rP.drew
    replace kX := kX.drew
    replace kY := kY.drew
    replace kZ := kZ.drew
    replace kP := kP.drew
    replace hF := hF.drew
    clear xc0 xc1 xc2
    have xc0 := BlkV.cell kX 0 rfl
    have xc1 := BlkV.cell kX 1 rfl
    have xc2 := BlkV.cell kX 2 rfl
    clear yc0 yc1 yc2
    have yc0 := BlkV.cell kY 0 rfl
    have yc1 := BlkV.cell kY 1 rfl
    have yc2 := BlkV.cell kY 2 rfl
    clear zc0 zc1 zc2
    have zc0 := BlkV.cell kZ 0 rfl
    have zc1 := BlkV.cell kZ 1 rfl
    have zc2 := BlkV.cell kZ 2 rfl
    clear pc0 pc1 pc2
    have pc0 := BlkV.cell kP 0 rfl
    have pc1 := BlkV.cell kP 1 rfl
    have pc2 := BlkV.cell kP 2 rfl
    refine wp_region_held_drew (S := fun w' => w'.cell? ⟨gX, 0, none⟩ = some (.bool (negQ qX)) ∧ w'.cell? ⟨gX, 1, none⟩ = some (.slice poX (nl qX.num.natAbs) pcX) ∧ w'.cell? ⟨gX, 2, none⟩ = some (.slice qoX (nl qX.den) qcX) ∧ w'.cell? ⟨gY, 0, none⟩ = some (.bool (negQ qY)) ∧ w'.cell? ⟨gY, 1, none⟩ = some (.slice poY (nl qY.num.natAbs) pcY) ∧ w'.cell? ⟨gY, 2, none⟩ = some (.slice qoY (nl qY.den) qcY) ∧ w'.cell? ⟨gZ, 0, none⟩ = some (.bool (negQ qZ)) ∧ w'.cell? ⟨gZ, 1, none⟩ = some (.slice poZ (nl qZ.num.natAbs) pcZ) ∧ w'.cell? ⟨gZ, 2, none⟩ = some (.slice qoZ (nl qZ.den) qcZ) ∧ w'.cell? ⟨w12.heap.size, 0, none⟩ = some (.bool (negQ qP)) ∧ w'.cell? ⟨w12.heap.size, 1, none⟩ = some (.slice poP (nl qP.num.natAbs) pcP) ∧ w'.cell? ⟨w12.heap.size, 2, none⟩ = some (.slice qoP (nl qP.den) qcP)) (by kernel_rfl) ⟨by with_reducible assumption, by with_reducible assumption, by with_reducible assumption, by with_reducible assumption, by with_reducible assumption, by with_reducible assumption, by with_reducible assumption, by with_reducible assumption, by with_reducible assumption, by with_reducible assumption, by with_reducible assumption, by with_reducible assumption⟩ (fun hHeld => ?_)
    refine wpAnyH_take (i := 0) (oi := ?oi4_43_0) (v := ?vv4_43_0) ?hi4_43_0 (by kernel_rfl) (by kernel_rfl) (by kernel_rfl) ?hq4_43_0 ?hy4_43_0 hHeld ?rest4_43_0
    case hi4_43_0 => (simp only [List.getElem?_toArray, List.getElem?_cons_succ, List.getElem?_cons_zero]; rfl)
    case hq4_43_0 => exact fun _ _ _ h => h
    case hy4_43_0 =>
      refine Or.inl ⟨by rfl, ?_⟩
      intro wS hSw
      try dsimp only at hSw
      obtain ⟨q0, q1, q2, q3, q4, q5, q6, q7, q8, q9, q10, q11⟩ := hSw
      go_simp
      try with_reducible rfl
    simp only [Act.put, List.setIfInBounds_toArray, List.set_cons_zero, List.set_cons_succ]
    refine wpAnyH_ready (rs := [1]) (by kernel_rfl) (by simp) ?_
    refine AllReadyH.cons rfl (fun K hK => ?_) AllReadyH.nil
    go_simp
    refine (nought2_num rZ (by omega)).mono ?_
    rintro e w14 ⟨rfl, hf14⟩
    replace rX := rX.fwd hf14
    replace rY := rY.fwd hf14
    replace rZ := rZ.fwd hf14
    replace rP := rP.fwd hf14
    replace kX := kX.fwd hf14
    replace kY := kY.fwd hf14
    replace kZ := kZ.fwd hf14
    replace kP := kP.fwd hf14
    replace hF := hF.trans hf14
    clear hf14
    clear xc0 xc1 xc2
    have xc0 := BlkV.cell kX 0 rfl
    have xc1 := BlkV.cell kX 1 rfl
    have xc2 := BlkV.cell kX 2 rfl
    clear yc0 yc1 yc2
    have yc0 := BlkV.cell kY 0 rfl
    have yc1 := BlkV.cell kY 1 rfl
    have yc2 := BlkV.cell kY 2 rfl
    clear zc0 zc1 zc2
    have zc0 := BlkV.cell kZ 0 rfl
    have zc1 := BlkV.cell kZ 1 rfl
    have zc2 := BlkV.cell kZ 2 rfl
    clear pc0 pc1 pc2
    have pc0 := BlkV.cell kP 0 rfl
    have pc1 := BlkV.cell kP 1 rfl
    have pc2 := BlkV.cell kP 2 rfl
    rw [hd0]
    go_wp2_with fail
    clear hHeld
    refine hK.out _ _ ⟨by with_reducible assumption, by with_reducible assumption, by with_reducible assumption, by with_reducible assumption, by with_reducible assumption, by with_reducible assumption, by with_reducible assumption, by with_reducible assumption, by with_reducible assumption, by with_reducible assumption, by with_reducible assumption, by with_reducible assumption⟩ (fun hHeld => ?_)
    clear hK K
    try simp only [Act.put, List.setIfInBounds_toArray, List.set_cons_zero, List.set_cons_succ]
    refine wpAnyH_take (i := 2) (oi := ?oi4_91_2) (v := ?vv4_91_2) ?hi4_91_2 (by kernel_rfl) (by kernel_rfl) (by kernel_rfl) ?hq4_91_2 ?hy4_91_2 hHeld ?rest4_91_2
    case hi4_91_2 => (simp only [List.getElem?_toArray, List.getElem?_cons_succ, List.getElem?_cons_zero]; rfl)
    case hq4_91_2 => exact fun _ _ _ h => h
    case hy4_91_2 =>
      refine Or.inl ⟨by rfl, ?_⟩
      intro wS hSw
      try dsimp only at hSw
      obtain ⟨q0, q1, q2, q3, q4, q5, q6, q7, q8, q9, q10, q11⟩ := hSw
      go_simp
      try with_reducible rfl
    simp only [Act.put, List.setIfInBounds_toArray, List.set_cons_zero, List.set_cons_succ]
    refine wpAnyH_take (i := 3) (oi := ?oi4_102_3) (v := ?vv4_102_3) ?hi4_102_3 (by kernel_rfl) (by kernel_rfl) (by kernel_rfl) ?hq4_102_3 ?hy4_102_3 hHeld ?rest4_102_3
    case hi4_102_3 => (simp only [List.getElem?_toArray, List.getElem?_cons_succ, List.getElem?_cons_zero]; rfl)
    case hq4_102_3 => exact fun _ _ _ h => h
    case hy4_102_3 =>
      refine Or.inl ⟨by rfl, ?_⟩
      intro wS hSw
      try dsimp only at hSw
      obtain ⟨q0, q1, q2, q3, q4, q5, q6, q7, q8, q9, q10, q11⟩ := hSw
      go_simp
      try with_reducible rfl
    simp only [Act.put, List.setIfInBounds_toArray, List.set_cons_zero, List.set_cons_succ]
    refine wpAnyH_take (i := 4) (oi := ?oi4_113_4) (v := ?vv4_113_4) ?hi4_113_4 (by kernel_rfl) (by kernel_rfl) (by kernel_rfl) ?hq4_113_4 ?hy4_113_4 hHeld ?rest4_113_4
    case hi4_113_4 => (simp only [List.getElem?_toArray, List.getElem?_cons_succ, List.getElem?_cons_zero]; rfl)
    case hq4_113_4 => exact fun _ _ _ h => h
    case hy4_113_4 =>
      refine Or.inl ⟨by rfl, ?_⟩
      intro wS hSw
      try dsimp only at hSw
      obtain ⟨q0, q1, q2, q3, q4, q5, q6, q7, q8, q9, q10, q11⟩ := hSw
      go_simp
      try with_reducible rfl
    simp only [Act.put, List.setIfInBounds_toArray, List.set_cons_zero, List.set_cons_succ]
    refine wpAnyH_take (i := 6) (oi := ?oi4_124_6) (v := ?vv4_124_6) ?hi4_124_6 (by kernel_rfl) (by kernel_rfl) (by kernel_rfl) ?hq4_124_6 ?hy4_124_6 hHeld ?rest4_124_6
    case hi4_124_6 => (simp only [List.getElem?_toArray, List.getElem?_cons_succ, List.getElem?_cons_zero]; rfl)
    case hq4_124_6 => exact fun _ _ _ h => h
    case hy4_124_6 =>
      refine Or.inl ⟨by rfl, ?_⟩
      intro wS hSw
      try dsimp only at hSw
      obtain ⟨q0, q1, q2, q3, q4, q5, q6, q7, q8, q9, q10, q11⟩ := hSw
      go_simp
      try with_reducible rfl
    simp only [Act.put, List.setIfInBounds_toArray, List.set_cons_zero, List.set_cons_succ]
    refine wpAnyH_take (i := 7) (oi := ?oi4_135_7) (v := ?vv4_135_7) ?hi4_135_7 (by kernel_rfl) (by kernel_rfl) (by kernel_rfl) ?hq4_135_7 ?hy4_135_7 hHeld ?rest4_135_7
    case hi4_135_7 => (simp only [List.getElem?_toArray, List.getElem?_cons_succ, List.getElem?_cons_zero]; rfl)
    case hq4_135_7 => exact fun _ _ _ h => h
    case hy4_135_7 =>
      refine Or.inl ⟨by rfl, ?_⟩
      intro wS hSw
      try dsimp only at hSw
      obtain ⟨q0, q1, q2, q3, q4, q5, q6, q7, q8, q9, q10, q11⟩ := hSw
      go_simp
      try with_reducible rfl
    simp only [Act.put, List.setIfInBounds_toArray, List.set_cons_zero, List.set_cons_succ]
    refine wpAnyH_take (i := 10) (oi := ?oi4_146_10) (v := ?vv4_146_10) ?hi4_146_10 (by kernel_rfl) (by kernel_rfl) (by kernel_rfl) ?hq4_146_10 ?hy4_146_10 hHeld ?rest4_146_10
    case hi4_146_10 => (simp only [List.getElem?_toArray, List.getElem?_cons_succ, List.getElem?_cons_zero]; rfl)
    case hq4_146_10 => exact fun _ _ _ h => h
    case hy4_146_10 =>
      refine Or.inl ⟨by rfl, ?_⟩
      intro wS hSw
      try dsimp only at hSw
      obtain ⟨q0, q1, q2, q3, q4, q5, q6, q7, q8, q9, q10, q11⟩ := hSw
      go_simp
      try with_reducible rfl
    simp only [Act.put, List.setIfInBounds_toArray, List.set_cons_zero, List.set_cons_succ]
    refine wpAnyH_ready (rs := [5]) (by kernel_rfl) (by simp) ?_
    refine AllReadyH.cons rfl (fun K hK => ?_) AllReadyH.nil
    go_simp
    refine (rmul_any rX rP (by omega) (by omega)).mono ?_
    rintro e w15 ⟨vg1, rfl, g1, hf15⟩
    replace rX := rX.fwd hf15
    replace rY := rY.fwd hf15
    replace rZ := rZ.fwd hf15
    replace rP := rP.fwd hf15
    replace kX := kX.fwd hf15
    replace kY := kY.fwd hf15
    replace kZ := kZ.fwd hf15
    replace kP := kP.fwd hf15
    replace hF := hF.trans hf15
    clear hf15
    clear xc0 xc1 xc2
    have xc0 := BlkV.cell kX 0 rfl
    have xc1 := BlkV.cell kX 1 rfl
    have xc2 := BlkV.cell kX 2 rfl
    clear yc0 yc1 yc2
    have yc0 := BlkV.cell kY 0 rfl
    have yc1 := BlkV.cell kY 1 rfl
    have yc2 := BlkV.cell kY 2 rfl
    clear zc0 zc1 zc2
    have zc0 := BlkV.cell kZ 0 rfl
    have zc1 := BlkV.cell kZ 1 rfl
    have zc2 := BlkV.cell kZ 2 rfl
    clear pc0 pc1 pc2
    have pc0 := BlkV.cell kP 0 rfl
    have pc1 := BlkV.cell kP 1 rfl
    have pc2 := BlkV.cell kP 2 rfl
    go_wp2_with fail
    clear hHeld
    refine hK.out _ _ ⟨by with_reducible assumption, by with_reducible assumption, by with_reducible assumption, by with_reducible assumption, by with_reducible assumption, by with_reducible assumption, by with_reducible assumption, by with_reducible assumption, by with_reducible assumption, by with_reducible assumption, by with_reducible assumption, by with_reducible assumption⟩ (fun hHeld => ?_)
    clear hK K
    try simp only [Act.put, List.setIfInBounds_toArray, List.set_cons_zero, List.set_cons_succ]
    refine wpAnyH_ready (rs := [8]) (by kernel_rfl) (by simp) ?_
    refine AllReadyH.cons rfl (fun K hK => ?_) AllReadyH.nil
    go_simp
    refine (rmul_any rY rP (by omega) (by omega)).mono ?_
    rintro e w16 ⟨vg2, rfl, g2, hf16⟩
    replace rX := rX.fwd hf16
    replace rY := rY.fwd hf16
    replace rZ := rZ.fwd hf16
    replace rP := rP.fwd hf16
    replace g1 := g1.fwd hf16
    replace kX := kX.fwd hf16
    replace kY := kY.fwd hf16
    replace kZ := kZ.fwd hf16
    replace kP := kP.fwd hf16
    replace hF := hF.trans hf16
    clear hf16
    clear xc0 xc1 xc2
    have xc0 := BlkV.cell kX 0 rfl
    have xc1 := BlkV.cell kX 1 rfl
    have xc2 := BlkV.cell kX 2 rfl
    clear yc0 yc1 yc2
    have yc0 := BlkV.cell kY 0 rfl
    have yc1 := BlkV.cell kY 1 rfl
    have yc2 := BlkV.cell kY 2 rfl
    clear zc0 zc1 zc2
    have zc0 := BlkV.cell kZ 0 rfl
    have zc1 := BlkV.cell kZ 1 rfl
    have zc2 := BlkV.cell kZ 2 rfl
    clear pc0 pc1 pc2
    have pc0 := BlkV.cell kP 0 rfl
    have pc1 := BlkV.cell kP 1 rfl
    have pc2 := BlkV.cell kP 2 rfl
    go_wp2_with fail
    clear hHeld
    refine hK.out _ _ ⟨by with_reducible assumption, by with_reducible assumption, by with_reducible assumption, by with_reducible assumption, by with_reducible assumption, by with_reducible assumption, by with_reducible assumption, by with_reducible assumption, by with_reducible assumption, by with_reducible assumption, by with_reducible assumption, by with_reducible assumption⟩ (fun hHeld => ?_)
    clear hK K
    try simp only [Act.put, List.setIfInBounds_toArray, List.set_cons_zero, List.set_cons_succ]
    refine wpAnyH_ready (rs := [9]) (by kernel_rfl) (by simp) ?_
    refine AllReadyH.cons rfl (fun K hK => ?_) AllReadyH.nil
    go_simp
    refine (rcmp_any g1 g2 (by omega) (by omega)).mono ?_
    rintro e w17 ⟨rfl, hf17⟩
    replace rX := rX.fwd hf17
    replace rY := rY.fwd hf17
    replace rZ := rZ.fwd hf17
    replace rP := rP.fwd hf17
    replace g1 := g1.fwd hf17
    replace g2 := g2.fwd hf17
    replace kX := kX.fwd hf17
    replace kY := kY.fwd hf17
    replace kZ := kZ.fwd hf17
    replace kP := kP.fwd hf17
    replace hF := hF.trans hf17
    clear hf17
    clear xc0 xc1 xc2
    have xc0 := BlkV.cell kX 0 rfl
    have xc1 := BlkV.cell kX 1 rfl
    have xc2 := BlkV.cell kX 2 rfl
    clear yc0 yc1 yc2
    have yc0 := BlkV.cell kY 0 rfl
    have yc1 := BlkV.cell kY 1 rfl
    have yc2 := BlkV.cell kY 2 rfl
    clear zc0 zc1 zc2
    have zc0 := BlkV.cell kZ 0 rfl
    have zc1 := BlkV.cell kZ 1 rfl
    have zc2 := BlkV.cell kZ 2 rfl
    clear pc0 pc1 pc2
    have pc0 := BlkV.cell kP 0 rfl
    have pc1 := BlkV.cell kP 1 rfl
    have pc2 := BlkV.cell kP 2 rfl
    rw [H5.out]
    go_wp2_with fail
    clear hHeld
    refine hK.out _ _ ⟨by with_reducible assumption, by with_reducible assumption, by with_reducible assumption, by with_reducible assumption, by with_reducible assumption, by with_reducible assumption, by with_reducible assumption, by with_reducible assumption, by with_reducible assumption, by with_reducible assumption, by with_reducible assumption, by with_reducible assumption⟩ (fun hHeld => ?_)
    clear hK K
    try simp only [Act.put, List.setIfInBounds_toArray, List.set_cons_zero, List.set_cons_succ]
    refine wpAnyH_take (i := 11) (oi := ?oi4_269_11) (v := ?vv4_269_11) ?hi4_269_11 (by kernel_rfl) (by kernel_rfl) (by kernel_rfl) ?hq4_269_11 ?hy4_269_11 hHeld ?rest4_269_11
    case hi4_269_11 => (simp only [List.getElem?_toArray, List.getElem?_cons_succ, List.getElem?_cons_zero]; rfl)
    case hq4_269_11 => exact fun _ _ _ h => h
    case hy4_269_11 =>
      refine Or.inl ⟨by rfl, ?_⟩
      intro wS hSw
      try dsimp only at hSw
      obtain ⟨q0, q1, q2, q3, q4, q5, q6, q7, q8, q9, q10, q11⟩ := hSw
      go_simp
      try with_reducible rfl
    simp only [Act.put, List.setIfInBounds_toArray, List.set_cons_zero, List.set_cons_succ]
    refine wpAnyH_take (i := 12) (oi := ?oi4_280_12) (v := ?vv4_280_12) ?hi4_280_12 (by kernel_rfl) (by kernel_rfl) (by kernel_rfl) ?hq4_280_12 ?hy4_280_12 hHeld ?rest4_280_12
    case hi4_280_12 => (simp only [List.getElem?_toArray, List.getElem?_cons_succ, List.getElem?_cons_zero]; rfl)
    case hq4_280_12 => exact fun _ _ _ h => h
    case hy4_280_12 =>
      refine Or.inl ⟨by rfl, ?_⟩
      intro wS hSw
      try dsimp only at hSw
      obtain ⟨q0, q1, q2, q3, q4, q5, q6, q7, q8, q9, q10, q11⟩ := hSw
      go_simp
      try with_reducible rfl
    simp only [Act.put, List.setIfInBounds_toArray, List.set_cons_zero, List.set_cons_succ]
    refine wpAnyH_take (i := 13) (oi := ?oi4_291_13) (v := ?vv4_291_13) ?hi4_291_13 (by kernel_rfl) (by kernel_rfl) (by kernel_rfl) ?hq4_291_13 ?hy4_291_13 hHeld ?rest4_291_13
    case hi4_291_13 => (simp only [List.getElem?_toArray, List.getElem?_cons_succ, List.getElem?_cons_zero]; rfl)
    case hq4_291_13 => exact fun _ _ _ h => h
    case hy4_291_13 =>
      refine Or.inl ⟨by rfl, ?_⟩
      intro wS hSw
      try dsimp only at hSw
      obtain ⟨q0, q1, q2, q3, q4, q5, q6, q7, q8, q9, q10, q11⟩ := hSw
      go_simp
      try with_reducible rfl
    simp only [Act.put, List.setIfInBounds_toArray, List.set_cons_zero, List.set_cons_succ]
    refine wpAnyH_ready (rs := [14]) (by kernel_rfl) (by simp) ?_
    refine AllReadyH.cons rfl (fun K hK => ?_) AllReadyH.nil
    go_simp
    refine (refZero_any _).mono ?_
    rintro e w18 ⟨vz, rfl, gz, hf18⟩
    replace rX := rX.fwd hf18
    replace rY := rY.fwd hf18
    replace rZ := rZ.fwd hf18
    replace rP := rP.fwd hf18
    replace g1 := g1.fwd hf18
    replace g2 := g2.fwd hf18
    replace kX := kX.fwd hf18
    replace kY := kY.fwd hf18
    replace kZ := kZ.fwd hf18
    replace kP := kP.fwd hf18
    replace hF := hF.trans hf18
    clear hf18
    clear xc0 xc1 xc2
    have xc0 := BlkV.cell kX 0 rfl
    have xc1 := BlkV.cell kX 1 rfl
    have xc2 := BlkV.cell kX 2 rfl
    clear yc0 yc1 yc2
    have yc0 := BlkV.cell kY 0 rfl
    have yc1 := BlkV.cell kY 1 rfl
    have yc2 := BlkV.cell kY 2 rfl
    clear zc0 zc1 zc2
    have zc0 := BlkV.cell kZ 0 rfl
    have zc1 := BlkV.cell kZ 1 rfl
    have zc2 := BlkV.cell kZ 2 rfl
    clear pc0 pc1 pc2
    have pc0 := BlkV.cell kP 0 rfl
    have pc1 := BlkV.cell kP 1 rfl
    have pc2 := BlkV.cell kP 2 rfl
    go_wp2_with fail
    clear hHeld
    refine hK.out _ _ ⟨by with_reducible assumption, by with_reducible assumption, by with_reducible assumption, by with_reducible assumption, by with_reducible assumption, by with_reducible assumption, by with_reducible assumption, by with_reducible assumption, by with_reducible assumption, by with_reducible assumption, by with_reducible assumption, by with_reducible assumption⟩ (fun hHeld => ?_)
    clear hK K
    try simp only [Act.put, List.setIfInBounds_toArray, List.set_cons_zero, List.set_cons_succ]
    refine wpAnyH_ready (rs := [15]) (by kernel_rfl) (by simp) ?_
    refine AllReadyH.cons rfl (fun K hK => ?_) AllReadyH.nil
    go_simp
    refine (rcmp_any rP gz (by omega) (by omega)).mono ?_
    rintro e w19 ⟨rfl, hf19⟩
    replace rX := rX.fwd hf19
    replace rY := rY.fwd hf19
    replace rZ := rZ.fwd hf19
    replace rP := rP.fwd hf19
    replace g1 := g1.fwd hf19
    replace g2 := g2.fwd hf19
    replace gz := gz.fwd hf19
    replace kX := kX.fwd hf19
    replace kY := kY.fwd hf19
    replace kZ := kZ.fwd hf19
    replace kP := kP.fwd hf19
    replace hF := hF.trans hf19
    clear hf19
    clear xc0 xc1 xc2
    have xc0 := BlkV.cell kX 0 rfl
    have xc1 := BlkV.cell kX 1 rfl
    have xc2 := BlkV.cell kX 2 rfl
    clear yc0 yc1 yc2
    have yc0 := BlkV.cell kY 0 rfl
    have yc1 := BlkV.cell kY 1 rfl
    have yc2 := BlkV.cell kY 2 rfl
    clear zc0 zc1 zc2
    have zc0 := BlkV.cell kZ 0 rfl
    have zc1 := BlkV.cell kZ 1 rfl
    have zc2 := BlkV.cell kZ 2 rfl
    clear pc0 pc1 pc2
    have pc0 := BlkV.cell kP 0 rfl
    have pc1 := BlkV.cell kP 1 rfl
    have pc2 := BlkV.cell kP 2 rfl
    rw [H6.out]
    go_wp2_with fail
    clear hHeld
    refine hK.out _ _ ⟨by with_reducible assumption, by with_reducible assumption, by with_reducible assumption, by with_reducible assumption, by with_reducible assumption, by with_reducible assumption, by with_reducible assumption, by with_reducible assumption, by with_reducible assumption, by with_reducible assumption, by with_reducible assumption, by with_reducible assumption⟩ (fun hHeld => ?_)
    clear hK K
    try simp only [Act.put, List.setIfInBounds_toArray, List.set_cons_zero, List.set_cons_succ]
    refine wpAnyH_take (i := 16) (oi := ?oi4_380_16) (v := ?vv4_380_16) ?hi4_380_16 (by kernel_rfl) (by kernel_rfl) (by kernel_rfl) ?hq4_380_16 ?hy4_380_16 hHeld ?rest4_380_16
    case hi4_380_16 => (simp only [List.getElem?_toArray, List.getElem?_cons_succ, List.getElem?_cons_zero]; rfl)
    case hq4_380_16 => exact fun _ _ _ h => h
    case hy4_380_16 =>
      refine Or.inl ⟨by rfl, ?_⟩
      intro wS hSw
      try dsimp only at hSw
      obtain ⟨q0, q1, q2, q3, q4, q5, q6, q7, q8, q9, q10, q11⟩ := hSw
      go_simp
      try with_reducible rfl
    simp only [Act.put, List.setIfInBounds_toArray, List.set_cons_zero, List.set_cons_succ]
    refine wpAnyH_take (i := 17) (oi := ?oi4_391_17) (v := ?vv4_391_17) ?hi4_391_17 (by kernel_rfl) (by kernel_rfl) (by kernel_rfl) ?hq4_391_17 ?hy4_391_17 hHeld ?rest4_391_17
    case hi4_391_17 => (simp only [List.getElem?_toArray, List.getElem?_cons_succ, List.getElem?_cons_zero]; rfl)
    case hq4_391_17 => exact fun _ _ _ h => h
    case hy4_391_17 =>
      refine Or.inl ⟨by rfl, ?_⟩
      intro wS hSw
      try dsimp only at hSw
      obtain ⟨q0, q1, q2, q3, q4, q5, q6, q7, q8, q9, q10, q11⟩ := hSw
      go_simp
      try with_reducible rfl
    simp only [Act.put, List.setIfInBounds_toArray, List.set_cons_zero, List.set_cons_succ]
    refine wpAnyH_take (i := 18) (oi := ?oi4_402_18) (v := ?vv4_402_18) ?hi4_402_18 (by kernel_rfl) (by kernel_rfl) (by kernel_rfl) ?hq4_402_18 ?hy4_402_18 hHeld ?rest4_402_18
    case hi4_402_18 => (simp only [List.getElem?_toArray, List.getElem?_cons_succ, List.getElem?_cons_zero]; rfl)
    case hq4_402_18 => exact fun _ _ _ h => h
    case hy4_402_18 =>
      refine Or.inl ⟨by rfl, ?_⟩
      intro wS hSw
      try dsimp only at hSw
      obtain ⟨q0, q1, q2, q3, q4, q5, q6, q7, q8, q9, q10, q11⟩ := hSw
      go_simp
      try with_reducible rfl
    simp only [Act.put, List.setIfInBounds_toArray, List.set_cons_zero, List.set_cons_succ]
    refine wpAnyH_take (i := 19) (oi := ?oi4_413_19) (v := ?vv4_413_19) ?hi4_413_19 (by kernel_rfl) (by kernel_rfl) (by kernel_rfl) ?hq4_413_19 ?hy4_413_19 hHeld ?rest4_413_19
    case hi4_413_19 => (simp only [List.getElem?_toArray, List.getElem?_cons_succ, List.getElem?_cons_zero]; rfl)
    case hq4_413_19 => exact fun _ _ _ h => h
    case hy4_413_19 =>
      refine Or.inl ⟨by rfl, ?_⟩
      intro wS hSw
      try dsimp only at hSw
      obtain ⟨q0, q1, q2, q3, q4, q5, q6, q7, q8, q9, q10, q11⟩ := hSw
      go_simp
      try with_reducible rfl
    simp only [Act.put, List.setIfInBounds_toArray, List.set_cons_zero, List.set_cons_succ]
    refine wpAnyH_take (i := 20) (oi := ?oi4_424_20) (v := ?vv4_424_20) ?hi4_424_20 (by kernel_rfl) (by kernel_rfl) (by kernel_rfl) ?hq4_424_20 ?hy4_424_20 hHeld ?rest4_424_20
    case hi4_424_20 => (simp only [List.getElem?_toArray, List.getElem?_cons_succ, List.getElem?_cons_zero]; rfl)
    case hq4_424_20 => exact fun _ _ _ h => h
    case hy4_424_20 =>
      refine Or.inl ⟨by rfl, ?_⟩
      intro wS hSw
      try dsimp only at hSw
      obtain ⟨q0, q1, q2, q3, q4, q5, q6, q7, q8, q9, q10, q11⟩ := hSw
      go_simp
      try with_reducible rfl
    simp only [Act.put, List.setIfInBounds_toArray, List.set_cons_zero, List.set_cons_succ]
    refine wpAnyH_take (i := 23) (oi := ?oi4_435_23) (v := ?vv4_435_23) ?hi4_435_23 (by kernel_rfl) (by kernel_rfl) (by kernel_rfl) ?hq4_435_23 ?hy4_435_23 hHeld ?rest4_435_23
    case hi4_435_23 => (simp only [List.getElem?_toArray, List.getElem?_cons_succ, List.getElem?_cons_zero]; rfl)
    case hq4_435_23 => exact fun _ _ _ h => h
    case hy4_435_23 =>
      refine Or.inl ⟨by rfl, ?_⟩
      intro wS hSw
      try dsimp only at hSw
      obtain ⟨q0, q1, q2, q3, q4, q5, q6, q7, q8, q9, q10, q11⟩ := hSw
      go_simp
      try with_reducible rfl
    simp only [Act.put, List.setIfInBounds_toArray, List.set_cons_zero, List.set_cons_succ]
    refine wpAnyH_take (i := 25) (oi := ?oi4_446_25) (v := ?vv4_446_25) ?hi4_446_25 (by kernel_rfl) (by kernel_rfl) (by kernel_rfl) ?hq4_446_25 ?hy4_446_25 hHeld ?rest4_446_25
    case hi4_446_25 => (simp only [List.getElem?_toArray, List.getElem?_cons_succ, List.getElem?_cons_zero]; rfl)
    case hq4_446_25 => exact fun _ _ _ h => h
    case hy4_446_25 =>
      refine Or.inl ⟨by rfl, ?_⟩
      intro wS hSw
      try dsimp only at hSw
      obtain ⟨q0, q1, q2, q3, q4, q5, q6, q7, q8, q9, q10, q11⟩ := hSw
      go_simp
      try with_reducible rfl
    simp only [Act.put, List.setIfInBounds_toArray, List.set_cons_zero, List.set_cons_succ]
    refine wpAnyH_ready (rs := [21]) (by kernel_rfl) (by simp) ?_
    refine AllReadyH.cons rfl (fun K hK => ?_) AllReadyH.nil
    go_simp
    refine (radd_any rX rY (by omega) (by omega)).mono ?_
    rintro e w20 ⟨vg3, rfl, g3, hf20⟩
    replace rX := rX.fwd hf20
    replace rY := rY.fwd hf20
    replace rZ := rZ.fwd hf20
    replace rP := rP.fwd hf20
    replace g1 := g1.fwd hf20
    replace g2 := g2.fwd hf20
    replace gz := gz.fwd hf20
    replace kX := kX.fwd hf20
    replace kY := kY.fwd hf20
    replace kZ := kZ.fwd hf20
    replace kP := kP.fwd hf20
    replace hF := hF.trans hf20
    clear hf20
    clear xc0 xc1 xc2
    have xc0 := BlkV.cell kX 0 rfl
    have xc1 := BlkV.cell kX 1 rfl
    have xc2 := BlkV.cell kX 2 rfl
    clear yc0 yc1 yc2
    have yc0 := BlkV.cell kY 0 rfl
    have yc1 := BlkV.cell kY 1 rfl
    have yc2 := BlkV.cell kY 2 rfl
    clear zc0 zc1 zc2
    have zc0 := BlkV.cell kZ 0 rfl
    have zc1 := BlkV.cell kZ 1 rfl
    have zc2 := BlkV.cell kZ 2 rfl
    clear pc0 pc1 pc2
    have pc0 := BlkV.cell kP 0 rfl
    have pc1 := BlkV.cell kP 1 rfl
    have pc2 := BlkV.cell kP 2 rfl
    go_wp2_with fail
    clear hHeld
    refine hK.out _ _ ⟨by with_reducible assumption, by with_reducible assumption, by with_reducible assumption, by with_reducible assumption, by with_reducible assumption, by with_reducible assumption, by with_reducible assumption, by with_reducible assumption, by with_reducible assumption, by with_reducible assumption, by with_reducible assumption, by with_reducible assumption⟩ (fun hHeld => ?_)
    clear hK K
    try simp only [Act.put, List.setIfInBounds_toArray, List.set_cons_zero, List.set_cons_succ]
    refine wpAnyH_ready (rs := [22]) (by kernel_rfl) (by simp) ?_
    refine AllReadyH.cons rfl (fun K hK => ?_) AllReadyH.nil
    go_simp
    refine (rabs_any g3 (by omega)).mono ?_
    rintro e w21 ⟨v5, rfl, g5, hf21⟩
    replace rX := rX.fwd hf21
    replace rY := rY.fwd hf21
    replace rZ := rZ.fwd hf21
    replace rP := rP.fwd hf21
    replace g1 := g1.fwd hf21
    replace g2 := g2.fwd hf21
    replace gz := gz.fwd hf21
    replace g3 := g3.fwd hf21
    replace kX := kX.fwd hf21
    replace kY := kY.fwd hf21
    replace kZ := kZ.fwd hf21
    replace kP := kP.fwd hf21
    replace hF := hF.trans hf21
    clear hf21
    clear xc0 xc1 xc2
    have xc0 := BlkV.cell kX 0 rfl
    have xc1 := BlkV.cell kX 1 rfl
    have xc2 := BlkV.cell kX 2 rfl
    clear yc0 yc1 yc2
    have yc0 := BlkV.cell kY 0 rfl
    have yc1 := BlkV.cell kY 1 rfl
    have yc2 := BlkV.cell kY 2 rfl
    clear zc0 zc1 zc2
    have zc0 := BlkV.cell kZ 0 rfl
    have zc1 := BlkV.cell kZ 1 rfl
    have zc2 := BlkV.cell kZ 2 rfl
    clear pc0 pc1 pc2
    have pc0 := BlkV.cell kP 0 rfl
    have pc1 := BlkV.cell kP 1 rfl
    have pc2 := BlkV.cell kP 2 rfl
    go_wp2_with fail
    clear hHeld
    refine hK.out _ _ ⟨by with_reducible assumption, by with_reducible assumption, by with_reducible assumption, by with_reducible assumption, by with_reducible assumption, by with_reducible assumption, by with_reducible assumption, by with_reducible assumption, by with_reducible assumption, by with_reducible assumption, by with_reducible assumption, by with_reducible assumption⟩ (fun hHeld => ?_)
    clear hK K
    try simp only [Act.put, List.setIfInBounds_toArray, List.set_cons_zero, List.set_cons_succ]
    refine wpAnyH_ready (rs := [24]) (by kernel_rfl) (by simp) ?_
    refine AllReadyH.cons rfl (fun K hK => ?_) AllReadyH.nil
    go_simp
    refine (rabs_any rX (by omega)).mono ?_
    rintro e w22 ⟨v6, rfl, g6, hf22⟩
    replace rX := rX.fwd hf22
    replace rY := rY.fwd hf22
    replace rZ := rZ.fwd hf22
    replace rP := rP.fwd hf22
    replace g1 := g1.fwd hf22
    replace g2 := g2.fwd hf22
    replace gz := gz.fwd hf22
    replace g3 := g3.fwd hf22
    replace g5 := g5.fwd hf22
    replace kX := kX.fwd hf22
    replace kY := kY.fwd hf22
    replace kZ := kZ.fwd hf22
    replace kP := kP.fwd hf22
    replace hF := hF.trans hf22
    clear hf22
    clear xc0 xc1 xc2
    have xc0 := BlkV.cell kX 0 rfl
    have xc1 := BlkV.cell kX 1 rfl
    have xc2 := BlkV.cell kX 2 rfl
    clear yc0 yc1 yc2
    have yc0 := BlkV.cell kY 0 rfl
    have yc1 := BlkV.cell kY 1 rfl
    have yc2 := BlkV.cell kY 2 rfl
    clear zc0 zc1 zc2
    have zc0 := BlkV.cell kZ 0 rfl
    have zc1 := BlkV.cell kZ 1 rfl
    have zc2 := BlkV.cell kZ 2 rfl
    clear pc0 pc1 pc2
    have pc0 := BlkV.cell kP 0 rfl
    have pc1 := BlkV.cell kP 1 rfl
    have pc2 := BlkV.cell kP 2 rfl
    go_wp2_with fail
    clear hHeld
    refine hK.out _ _ ⟨by with_reducible assumption, by with_reducible assumption, by with_reducible assumption, by with_reducible assumption, by with_reducible assumption, by with_reducible assumption, by with_reducible assumption, by with_reducible assumption, by with_reducible assumption, by with_reducible assumption, by with_reducible assumption, by with_reducible assumption⟩ (fun hHeld => ?_)
    clear hK K
    try simp only [Act.put, List.setIfInBounds_toArray, List.set_cons_zero, List.set_cons_succ]
    refine wpAnyH_ready (rs := [26]) (by kernel_rfl) (by simp) ?_
    refine AllReadyH.cons rfl (fun K hK => ?_) AllReadyH.nil
    go_simp
    refine (rabs_any rY (by omega)).mono ?_
    rintro e w23 ⟨v7, rfl, g7, hf23⟩
    replace rX := rX.fwd hf23
    replace rY := rY.fwd hf23
    replace rZ := rZ.fwd hf23
    replace rP := rP.fwd hf23
    replace g1 := g1.fwd hf23
    replace g2 := g2.fwd hf23
    replace gz := gz.fwd hf23
    replace g3 := g3.fwd hf23
    replace g5 := g5.fwd hf23
    replace g6 := g6.fwd hf23
    replace kX := kX.fwd hf23
    replace kY := kY.fwd hf23
    replace kZ := kZ.fwd hf23
    replace kP := kP.fwd hf23
    replace hF := hF.trans hf23
    clear hf23
    clear xc0 xc1 xc2
    have xc0 := BlkV.cell kX 0 rfl
    have xc1 := BlkV.cell kX 1 rfl
    have xc2 := BlkV.cell kX 2 rfl
    clear yc0 yc1 yc2
    have yc0 := BlkV.cell kY 0 rfl
    have yc1 := BlkV.cell kY 1 rfl
    have yc2 := BlkV.cell kY 2 rfl
    clear zc0 zc1 zc2
    have zc0 := BlkV.cell kZ 0 rfl
    have zc1 := BlkV.cell kZ 1 rfl
    have zc2 := BlkV.cell kZ 2 rfl
    clear pc0 pc1 pc2
    have pc0 := BlkV.cell kP 0 rfl
    have pc1 := BlkV.cell kP 1 rfl
    have pc2 := BlkV.cell kP 2 rfl
    go_wp2_with fail
    clear hHeld
    refine hK.out _ _ ⟨by with_reducible assumption, by with_reducible assumption, by with_reducible assumption, by with_reducible assumption, by with_reducible assumption, by with_reducible assumption, by with_reducible assumption, by with_reducible assumption, by with_reducible assumption, by with_reducible assumption, by with_reducible assumption, by with_reducible assumption⟩ (fun hHeld => ?_)
    clear hK K
    try simp only [Act.put, List.setIfInBounds_toArray, List.set_cons_zero, List.set_cons_succ]
    refine wpAnyH_ready (rs := [27]) (by kernel_rfl) (by simp) ?_
    refine AllReadyH.cons rfl (fun K hK => ?_) AllReadyH.nil
    go_simp
    refine (radd_any g6 g7 (by omega) (by omega)).mono ?_
    rintro e w24 ⟨v8, rfl, g8, hf24⟩
    replace rX := rX.fwd hf24
    replace rY := rY.fwd hf24
    replace rZ := rZ.fwd hf24
    replace rP := rP.fwd hf24
    replace g1 := g1.fwd hf24
    replace g2 := g2.fwd hf24
    replace gz := gz.fwd hf24
    replace g3 := g3.fwd hf24
    replace g5 := g5.fwd hf24
    replace g6 := g6.fwd hf24
    replace g7 := g7.fwd hf24
    replace kX := kX.fwd hf24
    replace kY := kY.fwd hf24
    replace kZ := kZ.fwd hf24
    replace kP := kP.fwd hf24
    replace hF := hF.trans hf24
    clear hf24
    clear xc0 xc1 xc2
    have xc0 := BlkV.cell kX 0 rfl
    have xc1 := BlkV.cell kX 1 rfl
    have xc2 := BlkV.cell kX 2 rfl
    clear yc0 yc1 yc2
    have yc0 := BlkV.cell kY 0 rfl
    have yc1 := BlkV.cell kY 1 rfl
    have yc2 := BlkV.cell kY 2 rfl
    clear zc0 zc1 zc2
    have zc0 := BlkV.cell kZ 0 rfl
    have zc1 := BlkV.cell kZ 1 rfl
    have zc2 := BlkV.cell kZ 2 rfl
    clear pc0 pc1 pc2
    have pc0 := BlkV.cell kP 0 rfl
    have pc1 := BlkV.cell kP 1 rfl
    have pc2 := BlkV.cell kP 2 rfl
    go_wp2_with fail
    clear hHeld
    refine hK.out _ _ ⟨by with_reducible assumption, by with_reducible assumption, by with_reducible assumption, by with_reducible assumption, by with_reducible assumption, by with_reducible assumption, by with_reducible assumption, by with_reducible assumption, by with_reducible assumption, by with_reducible assumption, by with_reducible assumption, by with_reducible assumption⟩ (fun hHeld => ?_)
    clear hK K
    try simp only [Act.put, List.setIfInBounds_toArray, List.set_cons_zero, List.set_cons_succ]
    refine wpAnyH_ready (rs := [28]) (by kernel_rfl) (by simp) ?_
    refine AllReadyH.cons rfl (fun K hK => ?_) AllReadyH.nil
    go_simp
    refine (rcmp_any g5 g8 (by omega) (by omega)).mono ?_
    rintro e w25 ⟨rfl, hf25⟩
    replace rX := rX.fwd hf25
    replace rY := rY.fwd hf25
    replace rZ := rZ.fwd hf25
    replace rP := rP.fwd hf25
    replace g1 := g1.fwd hf25
    replace g2 := g2.fwd hf25
    replace gz := gz.fwd hf25
    replace g3 := g3.fwd hf25
    replace g5 := g5.fwd hf25
    replace g6 := g6.fwd hf25
    replace g7 := g7.fwd hf25
    replace g8 := g8.fwd hf25
    replace kX := kX.fwd hf25
    replace kY := kY.fwd hf25
    replace kZ := kZ.fwd hf25
    replace kP := kP.fwd hf25
    replace hF := hF.trans hf25
    clear hf25
    clear xc0 xc1 xc2
    have xc0 := BlkV.cell kX 0 rfl
    have xc1 := BlkV.cell kX 1 rfl
    have xc2 := BlkV.cell kX 2 rfl
    clear yc0 yc1 yc2
    have yc0 := BlkV.cell kY 0 rfl
    have yc1 := BlkV.cell kY 1 rfl
    have yc2 := BlkV.cell kY 2 rfl
    clear zc0 zc1 zc2
    have zc0 := BlkV.cell kZ 0 rfl
    have zc1 := BlkV.cell kZ 1 rfl
    have zc2 := BlkV.cell kZ 2 rfl
    clear pc0 pc1 pc2
    have pc0 := BlkV.cell kP 0 rfl
    have pc1 := BlkV.cell kP 1 rfl
    have pc2 := BlkV.cell kP 2 rfl
    rw [← HT.out]
    go_wp2_with fail
    clear hHeld
    refine hK.out _ _ ⟨by with_reducible assumption, by with_reducible assumption, by with_reducible assumption, by with_reducible assumption, by with_reducible assumption, by with_reducible assumption, by with_reducible assumption, by with_reducible assumption, by with_reducible assumption, by with_reducible assumption, by with_reducible assumption, by with_reducible assumption⟩ (fun hHeld => ?_)
    clear hK K
    try simp only [Act.put, List.setIfInBounds_toArray, List.set_cons_zero, List.set_cons_succ]
    refine wpAnyH_take (i := 29) (oi := ?oi4_707_29) (v := ?vv4_707_29) ?hi4_707_29 (by kernel_rfl) (by kernel_rfl) (by kernel_rfl) ?hq4_707_29 ?hy4_707_29 hHeld ?rest4_707_29
    case hi4_707_29 => (simp only [List.getElem?_toArray, List.getElem?_cons_succ, List.getElem?_cons_zero]; rfl)
    case hq4_707_29 => exact fun _ _ _ h => h
    case hy4_707_29 =>
      refine Or.inl ⟨by rfl, ?_⟩
      intro wS hSw
      try dsimp only at hSw
      obtain ⟨q0, q1, q2, q3, q4, q5, q6, q7, q8, q9, q10, q11⟩ := hSw
      go_simp
      try with_reducible rfl
    simp only [Act.put, List.setIfInBounds_toArray, List.set_cons_zero, List.set_cons_succ]
    refine wpAnyH_take (i := 30) (oi := ?oi4_718_30) (v := ?vv4_718_30) ?hi4_718_30 (by kernel_rfl) (by kernel_rfl) (by kernel_rfl) ?hq4_718_30 ?hy4_718_30 hHeld ?rest4_718_30
    case hi4_718_30 => (simp only [List.getElem?_toArray, List.getElem?_cons_succ, List.getElem?_cons_zero]; rfl)
    case hq4_718_30 => exact fun _ _ _ h => h
    case hy4_718_30 =>
      refine Or.inl ⟨by rfl, ?_⟩
      intro wS hSw
      try dsimp only at hSw
      obtain ⟨q0, q1, q2, q3, q4, q5, q6, q7, q8, q9, q10, q11⟩ := hSw
      go_simp
      try with_reducible rfl
    simp only [Act.put, List.setIfInBounds_toArray, List.set_cons_zero, List.set_cons_succ]
    refine wpAnyH_take (i := 31) (oi := ?oi4_729_31) (v := ?vv4_729_31) ?hi4_729_31 (by kernel_rfl) (by kernel_rfl) (by kernel_rfl) ?hq4_729_31 ?hy4_729_31 hHeld ?rest4_729_31
    case hi4_729_31 => (simp only [List.getElem?_toArray, List.getElem?_cons_succ, List.getElem?_cons_zero]; rfl)
    case hq4_729_31 => exact fun _ _ _ h => h
    case hy4_729_31 =>
      refine Or.inl ⟨by rfl, ?_⟩
      intro wS hSw
      try dsimp only at hSw
      obtain ⟨q0, q1, q2, q3, q4, q5, q6, q7, q8, q9, q10, q11⟩ := hSw
      go_simp
      try with_reducible rfl
    simp only [Act.put, List.setIfInBounds_toArray, List.set_cons_zero, List.set_cons_succ]
    refine wpAnyH_take (i := 32) (oi := ?oi4_740_32) (v := ?vv4_740_32) ?hi4_740_32 (by kernel_rfl) (by kernel_rfl) (by kernel_rfl) ?hq4_740_32 ?hy4_740_32 hHeld ?rest4_740_32
    case hi4_740_32 => (simp only [List.getElem?_toArray, List.getElem?_cons_succ, List.getElem?_cons_zero]; rfl)
    case hq4_740_32 => exact fun _ _ _ h => h
    case hy4_740_32 =>
      refine Or.inl ⟨by rfl, ?_⟩
      intro wS hSw
      try dsimp only at hSw
      obtain ⟨q0, q1, q2, q3, q4, q5, q6, q7, q8, q9, q10, q11⟩ := hSw
      go_simp
      try with_reducible rfl
    simp only [Act.put, List.setIfInBounds_toArray, List.set_cons_zero, List.set_cons_succ]
    refine wpAnyH_done (by kernel_rfl) ?_ _
    go_wp2_with fail
    go_ret
    exact ⟨rfl, hF⟩

end Go.Proofs.YtjkoiocemolcbaaDoor
