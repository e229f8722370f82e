/- sfloat's ratio: a rational number as a value. -/
import Derived.Test.YtcfhajnboamnnabGreatDoorYXFM
import Derived.Test.YtcfhajnboamnnabGreatDoorXF10
import Derived.Test.YtcfhajnboamnnabGreatDoorYXP1
namespace Go.Proofs.YtcfhajnboamnnabGreatDoor
open Go.RowKit
set_option linter.unusedVariables false
set_option linter.unusedSimpArgs false

theorem stk_nl (n : Nat) : stk (nl n) = stk n := by
  unfold stk
  by_cases h : n = 0
  · subst h; rw [nl_zero]
  · have : nl n ≠ 0 := fun c => h (by have := lt_pow_nl n; rw [c] at this; simpa using this)
    rw [if_neg h, if_neg this]

set_option maxHeartbeats 8000000 in
set_option maxRecDepth 100000 in
theorem ratio_zero {w : World} {vN vD : Value} {s : Bool} {N D : Nat} (hN : Num w vN N) (hD : Num w vD D) (bN : nl N ≤ 10000) (bD : nl D ≤ 10000) (hD0 : D ≠ 0) (hk : rtS N D = 0) :
    Calls Tryz.prog 93 #[.agg #[.bool s, vN, vD]] w fun e w' => ∃ r, e = .returned r ∧ Fwd w w' ∧ VT r (ratV s N D) := by
  have b1 := blen_nl N
  have b2 := blen_nl D
  have q1 := fun (w' : World) (h : Fwd w w') => bits_any (hN.fwd h) (by omega)
  have q2 := fun (w' : World) (h : Fwd w w') => bits_any (hD.fwd h) (by omega)
  have hl := rt_lt (N := N) hD0
  have hd0 := rtD_pos (N := N) hD0
  have kk : (0 : Nat) ≤ 400000 := by omega
  have eN : rtN N D = N * 2 ^ 0 := by unfold rtN; rw [hk]; rfl
  have eD : rtD N D = D := by unfold rtD; rw [hk]; simp
  have s1 := fun (w' : World) (h : Fwd w w') => shl_any 0 (hN.fwd h) (by omega) (by omega)
  have s2 : ∀ (w' : World) (h : Fwd w w'), Calls Tryz.prog 118 #[vD, .int .i64 0] w' fun e w'' => ∃ v, e = .returned v ∧ Num w'' v (D * 2 ^ 0) ∧ Fwd w' w'' := fun w' h => shl_any 0 (hD.fwd h) (by omega) (by omega)
  have l1 : nl (rtN N D) ≤ 100000 := by rw [eN]; have := nl_shl N 0; omega
  have l2 : nl (rtD N D) ≤ 100000 := by rw [eD]; omega
  have HV : Hid (ratV s N D = (s, false, rtN N D / rtD N D * 18446744073709551616 + stk (rtN N D % rtD N D), -(rtS N D) - 64)) := hid rfl
  rw [hk] at HV
  have s1' : ∀ (w' : World) (h : Fwd w w'), Calls Tryz.prog 118 #[vN, .int .i64 0] w' fun e w'' => ∃ v, e = .returned v ∧ Num w'' v (rtN N D) ∧ Fwd w' w'' := by rw [eN]; simpa using s1
  have s2' : ∀ (w' : World) (h : Fwd w w'), Calls Tryz.prog 118 #[vD, .int .i64 0] w' fun e w'' => ∃ v, e = .returned v ∧ Num w'' v (rtD N D) ∧ Fwd w' w'' := by rw [eD]; simpa using s2
  clear s1 s2 eN eD
  generalize ratV s N D = OV at *
  have hk' : 63 - ((blen N : Int) - (blen D : Int)) = (0 : Int) := hk
  clear hk
  generalize blen N = bn at *
  generalize blen D = bd at *
  generalize rtN N D = A at *
  generalize rtD N D = B at *
  have w1' : IntKind.i64.wrap ((bn : Int) - (bd : Int)) = (bn : Int) - (bd : Int) := by simp [IntKind.wrap, IntKind.bits, IntKind.signed]; omega
  have w2' : IntKind.i64.wrap (63 - ((bn : Int) - (bd : Int))) = (0 : Int) := by rw [hk']; rfl
  obtain ⟨on, cn, rfl, n1, n2, n3⟩ := hN.parts
  obtain ⟨od, cd, rfl, d1, d2, d3⟩ := hD.parts
  clear n3 d3 hN hD hk'
  have kA : BlkV ((w.alloc (.cells #[.bool s, .slice on (nl N) cn, .slice od (nl D) cd] 27)).alloc (.cells #[.bool false, .bool false, .int .u64 0, .int .u64 0, .int .i64 0] 107)) (w.heap.size) 27 [.bool s, .slice on (nl N) cn, .slice od (nl D) cd] := (BlkV.made' w (w.heap.size) (by simp) 27 [.bool s, .slice on (nl N) cn, .slice od (nl D) cd]).alloc _
  have kR : BlkV ((w.alloc (.cells #[.bool s, .slice on (nl N) cn, .slice od (nl D) cd] 27)).alloc (.cells #[.bool false, .bool false, .int .u64 0, .int .u64 0, .int .i64 0] 107)) (w.heap.size + 1) 107 [.bool false, .bool false, .int .u64 0, .int .u64 0, .int .i64 0] := BlkV.made' (w.alloc (.cells #[.bool s, .slice on (nl N) cn, .slice od (nl D) cd] 27)) (w.heap.size + 1) (by simp) 107 [.bool false, .bool false, .int .u64 0, .int .u64 0, .int .i64 0]
  have hF : Fwd w ((w.alloc (.cells #[.bool s, .slice on (nl N) cn, .slice od (nl D) cd] 27)).alloc (.cells #[.bool false, .bool false, .int .u64 0, .int .u64 0, .int .i64 0] 107)) := ((Fwd.refl w).alloc _).alloc _
  go_enter Tryz.func93, Tryz.ntmps93
  have ac0 := BlkV.cell kA 0 rfl
  have az0 := BlkV.frozen kA 0
  have ac1 := BlkV.cell kA 1 rfl
  have az1 := BlkV.frozen kA 1
  have ac2 := BlkV.cell kA 2 rfl
  have az2 := BlkV.frozen kA 2
  have rc0 := BlkV.cell kR 0 rfl
  have rz0 := BlkV.frozen kR 0
  have rc1 := BlkV.cell kR 1 rfl
  have rz1 := BlkV.frozen kR 1
  have rc2 := BlkV.cell kR 2 rfl
  have rz2 := BlkV.frozen kR 2
  have rc3 := BlkV.cell kR 3 rfl
  have rz3 := BlkV.frozen kR 3
  have rc4 := BlkV.cell kR 4 rfl
  have rz4 := BlkV.frozen kR 4
  go_wp2_with fail
  replace kA := kA.drew
  replace kR := kR.drew
  replace hF := hF.drew
  clear ac0 az0 ac1 az1 ac2 az2
  clear rc0 rz0 rc1 rz1 rc2 rz2 rc3 rz3 rc4 rz4
  have ac0 := BlkV.cell kA 0 rfl
  have az0 := BlkV.frozen kA 0
  have ac1 := BlkV.cell kA 1 rfl
  have az1 := BlkV.frozen kA 1
  have ac2 := BlkV.cell kA 2 rfl
  have az2 := BlkV.frozen kA 2
  have rc0 := BlkV.cell kR 0 rfl
  have rz0 := BlkV.frozen kR 0
  have rc1 := BlkV.cell kR 1 rfl
  have rz1 := BlkV.frozen kR 1
  have rc2 := BlkV.cell kR 2 rfl
  have rz2 := BlkV.frozen kR 2
  have rc3 := BlkV.cell kR 3 rfl
  have rz3 := BlkV.frozen kR 3
  have rc4 := BlkV.cell kR 4 rfl
  have rz4 := BlkV.frozen kR 4
  go_region_held3 (fun w' => w'.cell? ⟨w.heap.size, 0, none⟩ = some (.bool s) ∧ w'.cell? ⟨w.heap.size, 1, none⟩ = some (.slice on (nl N) cn) ∧ w'.cell? ⟨w.heap.size, 2, none⟩ = some (.slice od (nl D) cd))
    (first | exact ⟨by with_reducible assumption, by with_reducible assumption, by with_reducible assumption⟩ | exact ⟨(by with_reducible assumption), (by with_reducible assumption), (by with_reducible assumption)⟩)
    (first
      | (go_at_call 117
         have _ := mk1
         refine (q2 _ hF).mono ?_
         rintro e w2 ⟨rfl, hf2⟩
         replace kA := kA.fwd hf2
         replace kR := kR.fwd hf2
         replace hF := hF.trans hf2
         clear hf2
         clear ac0 az0 ac1 az1 ac2 az2
         clear rc0 rz0 rc1 rz1 rc2 rz2 rc3 rz3 rc4 rz4
         have ac0 := BlkV.cell kA 0 rfl
         have az0 := BlkV.frozen kA 0
         have ac1 := BlkV.cell kA 1 rfl
         have az1 := BlkV.frozen kA 1
         have ac2 := BlkV.cell kA 2 rfl
         have az2 := BlkV.frozen kA 2
         have rc0 := BlkV.cell kR 0 rfl
         have rz0 := BlkV.frozen kR 0
         have rc1 := BlkV.cell kR 1 rfl
         have rz1 := BlkV.frozen kR 1
         have rc2 := BlkV.cell kR 2 rfl
         have rz2 := BlkV.frozen kR 2
         have rc3 := BlkV.cell kR 3 rfl
         have rz3 := BlkV.frozen kR 3
         have rc4 := BlkV.cell kR 4 rfl
         have rz4 := BlkV.frozen kR 4
         have mk2 : True := trivial)
      | (go_at_call 117
         refine (q1 _ hF).mono ?_
         rintro e w1 ⟨rfl, hf1⟩
         replace kA := kA.fwd hf1
         replace kR := kR.fwd hf1
         replace hF := hF.trans hf1
         clear hf1
         clear ac0 az0 ac1 az1 ac2 az2
         clear rc0 rz0 rc1 rz1 rc2 rz2 rc3 rz3 rc4 rz4
         have ac0 := BlkV.cell kA 0 rfl
         have az0 := BlkV.frozen kA 0
         have ac1 := BlkV.cell kA 1 rfl
         have az1 := BlkV.frozen kA 1
         have ac2 := BlkV.cell kA 2 rfl
         have az2 := BlkV.frozen kA 2
         have rc0 := BlkV.cell kR 0 rfl
         have rz0 := BlkV.frozen kR 0
         have rc1 := BlkV.cell kR 1 rfl
         have rz1 := BlkV.frozen kR 1
         have rc2 := BlkV.cell kR 2 rfl
         have rz2 := BlkV.frozen kR 2
         have rc3 := BlkV.cell kR 3 rfl
         have rz3 := BlkV.frozen kR 3
         have rc4 := BlkV.cell kR 4 rfl
         have rz4 := BlkV.frozen kR 4
         have mk1 : True := trivial))
  clear mk1 mk2 q1 q2
  go_wp2_with fail
  replace kA := kA.drew
  replace kR := kR.drew
  replace hF := hF.drew
  clear ac0 az0 ac1 az1 ac2 az2
  clear rc0 rz0 rc1 rz1 rc2 rz2 rc3 rz3 rc4 rz4
  have ac0 := BlkV.cell kA 0 rfl
  have az0 := BlkV.frozen kA 0
  have ac1 := BlkV.cell kA 1 rfl
  have az1 := BlkV.frozen kA 1
  have ac2 := BlkV.cell kA 2 rfl
  have az2 := BlkV.frozen kA 2
  have rc0 := BlkV.cell kR 0 rfl
  have rz0 := BlkV.frozen kR 0
  have rc1 := BlkV.cell kR 1 rfl
  have rz1 := BlkV.frozen kR 1
  have rc2 := BlkV.cell kR 2 rfl
  have rz2 := BlkV.frozen kR 2
  have rc3 := BlkV.cell kR 3 rfl
  have rz3 := BlkV.frozen kR 3
  have rc4 := BlkV.cell kR 4 rfl
  have rz4 := BlkV.frozen kR 4
  refine wp_region_held_drew (S := fun w' => w'.cell? ⟨w.heap.size, 0, none⟩ = some (.bool s) ∧ w'.cell? ⟨w.heap.size, 1, none⟩ = some (.slice on (nl N) cn) ∧ w'.cell? ⟨w.heap.size, 2, none⟩ = some (.slice od (nl D) cd)) (by kernel_rfl) ⟨by with_reducible assumption, by with_reducible assumption, by with_reducible assumption⟩ (fun hHeld => ?_)
  refine wpAnyH_take (i := 0) (oi := ?oi1_0) (v := ?vv1_0) ?hi1_0 (by kernel_rfl) (by kernel_rfl) (by kernel_rfl) ?hq1_0 ?hy1_0 hHeld ?rest1_0
  case hi1_0 => (simp only [List.getElem?_toArray, List.getElem?_cons_succ, List.getElem?_cons_zero]; rfl)
  case hq1_0 => exact fun _ _ _ h => h
  case hy1_0 =>
    refine Or.inl ⟨by rfl, ?_⟩
    intro wS hSw
    try dsimp only at hSw
    obtain ⟨q0, q1, q2⟩ := hSw
    go_simp
    try with_reducible rfl
  simp only [Act.put, List.setIfInBounds_toArray, List.set_cons_zero, List.set_cons_succ]
  refine wpAnyH_take (i := 1) (oi := ?oi2_1) (v := ?vv2_1) ?hi2_1 (by kernel_rfl) (by kernel_rfl) (by kernel_rfl) ?hq2_1 ?hy2_1 hHeld ?rest2_1
  case hi2_1 => (simp only [List.getElem?_toArray, List.getElem?_cons_succ, List.getElem?_cons_zero]; rfl)
  case hq2_1 => exact fun _ _ _ h => h
  case hy2_1 =>
    refine Or.inl ⟨by rfl, ?_⟩
    intro wS hSw
    try dsimp only at hSw
    obtain ⟨q0, q1, q2⟩ := hSw
    go_simp
    try with_reducible rfl
  simp only [Act.put, List.setIfInBounds_toArray, List.set_cons_zero, List.set_cons_succ]
  refine wpAnyH_take (i := 2) (oi := ?oi3_2) (v := ?vv3_2) ?hi3_2 (by kernel_rfl) (by kernel_rfl) (by kernel_rfl) ?hq3_2 ?hy3_2 hHeld ?rest3_2
  case hi3_2 => (simp only [List.getElem?_toArray, List.getElem?_cons_succ, List.getElem?_cons_zero]; rfl)
  case hq3_2 => exact fun _ _ _ h => h
  case hy3_2 =>
    refine Or.inl ⟨by rfl, ?_⟩
    intro wS hSw
    try dsimp only at hSw
    obtain ⟨q0, q1, q2⟩ := hSw
    go_simp
    try with_reducible rfl
  simp only [Act.put, List.setIfInBounds_toArray, List.set_cons_zero, List.set_cons_succ]
  refine wpAnyH_take (i := 3) (oi := ?oi4_3) (v := ?vv4_3) ?hi4_3 (by kernel_rfl) (by kernel_rfl) (by kernel_rfl) ?hq4_3 ?hy4_3 hHeld ?rest4_3
  case hi4_3 => (simp only [List.getElem?_toArray, List.getElem?_cons_succ, List.getElem?_cons_zero]; rfl)
  case hq4_3 => exact fun _ _ _ h => h
  case hy4_3 =>
    refine Or.inl ⟨by rfl, ?_⟩
    intro wS hSw
    try dsimp only at hSw
    obtain ⟨q0, q1, q2⟩ := hSw
    go_simp
    try with_reducible rfl
  simp only [Act.put, List.setIfInBounds_toArray, List.set_cons_zero, List.set_cons_succ]
  refine wpAnyH_take (i := 5) (oi := ?oi5_5) (v := ?vv5_5) ?hi5_5 (by kernel_rfl) (by kernel_rfl) (by kernel_rfl) ?hq5_5 ?hy5_5 hHeld ?rest5_5
  case hi5_5 => (simp only [List.getElem?_toArray, List.getElem?_cons_succ, List.getElem?_cons_zero]; rfl)
  case hq5_5 => exact fun _ _ _ h => h
  case hy5_5 =>
    refine Or.inl ⟨by rfl, ?_⟩
    intro wS hSw
    try dsimp only at hSw
    obtain ⟨q0, q1, q2⟩ := hSw
    go_simp
    try with_reducible rfl
  simp only [Act.put, List.setIfInBounds_toArray, List.set_cons_zero, List.set_cons_succ]
  refine wpAnyH_take (i := 6) (oi := ?oi6_6) (v := ?vv6_6) ?hi6_6 (by kernel_rfl) (by kernel_rfl) (by kernel_rfl) ?hq6_6 ?hy6_6 hHeld ?rest6_6
  case hi6_6 => (simp only [List.getElem?_toArray, List.getElem?_cons_succ, List.getElem?_cons_zero]; rfl)
  case hq6_6 => exact fun _ _ _ h => h
  case hy6_6 =>
    refine Or.inl ⟨by rfl, ?_⟩
    intro wS hSw
    try dsimp only at hSw
    obtain ⟨q0, q1, q2⟩ := hSw
    go_simp
    try with_reducible rfl
  simp only [Act.put, List.setIfInBounds_toArray, List.set_cons_zero, List.set_cons_succ]
  refine wpAnyH_take (i := 7) (oi := ?oi7_7) (v := ?vv7_7) ?hi7_7 (by kernel_rfl) (by kernel_rfl) (by kernel_rfl) ?hq7_7 ?hy7_7 hHeld ?rest7_7
  case hi7_7 => (simp only [List.getElem?_toArray, List.getElem?_cons_succ, List.getElem?_cons_zero]; rfl)
  case hq7_7 => exact fun _ _ _ h => h
  case hy7_7 =>
    refine Or.inl ⟨by rfl, ?_⟩
    intro wS hSw
    try dsimp only at hSw
    obtain ⟨q0, q1, q2⟩ := hSw
    go_simp
    try with_reducible rfl
  simp only [Act.put, List.setIfInBounds_toArray, List.set_cons_zero, List.set_cons_succ]
  refine wpAnyH_take (i := 8) (oi := ?oi8_8) (v := ?vv8_8) ?hi8_8 (by kernel_rfl) (by kernel_rfl) (by kernel_rfl) ?hq8_8 ?hy8_8 hHeld ?rest8_8
  case hi8_8 => (simp only [List.getElem?_toArray, List.getElem?_cons_succ, List.getElem?_cons_zero]; rfl)
  case hq8_8 => exact fun _ _ _ h => h
  case hy8_8 =>
    refine Or.inl ⟨by rfl, ?_⟩
    intro wS hSw
    try dsimp only at hSw
    obtain ⟨q0, q1, q2⟩ := hSw
    go_simp
    try with_reducible rfl
  simp only [Act.put, List.setIfInBounds_toArray, List.set_cons_zero, List.set_cons_succ]
  refine wpAnyH_take (i := 9) (oi := ?oi9_9) (v := ?vv9_9) ?hi9_9 (by kernel_rfl) (by kernel_rfl) (by kernel_rfl) ?hq9_9 ?hy9_9 hHeld ?rest9_9
  case hi9_9 => (simp only [List.getElem?_toArray, List.getElem?_cons_succ, List.getElem?_cons_zero]; rfl)
  case hq9_9 => exact fun _ _ _ h => h
  case hy9_9 =>
    refine Or.inl ⟨by rfl, ?_⟩
    intro wS hSw
    try dsimp only at hSw
    obtain ⟨q0, q1, q2⟩ := hSw
    go_simp
    try with_reducible rfl
  simp only [Act.put, List.setIfInBounds_toArray, List.set_cons_zero, List.set_cons_succ]
  refine wpAnyH_ready (rs := [4]) (by kernel_rfl) (by simp) ?_
  refine AllReadyH.cons rfl (fun K hK => ?_) AllReadyH.nil
  go_simp
  refine (s1' _ hF).mono ?_
  rintro e w1 ⟨xn, rfl, hA, hf1⟩
  replace kA := kA.fwd hf1
  replace kR := kR.fwd hf1
  replace hF := hF.trans hf1
  clear hf1
  clear ac0 az0 ac1 az1 ac2 az2
  clear rc0 rz0 rc1 rz1 rc2 rz2 rc3 rz3 rc4 rz4
  have ac0 := BlkV.cell kA 0 rfl
  have az0 := BlkV.frozen kA 0
  have ac1 := BlkV.cell kA 1 rfl
  have az1 := BlkV.frozen kA 1
  have ac2 := BlkV.cell kA 2 rfl
  have az2 := BlkV.frozen kA 2
  have rc0 := BlkV.cell kR 0 rfl
  have rz0 := BlkV.frozen kR 0
  have rc1 := BlkV.cell kR 1 rfl
  have rz1 := BlkV.frozen kR 1
  have rc2 := BlkV.cell kR 2 rfl
  have rz2 := BlkV.frozen kR 2
  have rc3 := BlkV.cell kR 3 rfl
  have rz3 := BlkV.frozen kR 3
  have rc4 := BlkV.cell kR 4 rfl
  have rz4 := BlkV.frozen kR 4
  go_wp2_with fail
  clear hHeld
  refine hK.out _ _ ⟨by with_reducible assumption, by with_reducible assumption, by with_reducible assumption⟩ (fun hHeld => ?_)
  clear hK K
  try simp only [Act.put, List.setIfInBounds_toArray, List.set_cons_zero, List.set_cons_succ]
  refine wpAnyH_ready (rs := [10]) (by kernel_rfl) (by simp) ?_
  refine AllReadyH.cons rfl (fun K hK => ?_) AllReadyH.nil
  go_simp
  refine (s2' _ hF).mono ?_
  rintro e w2 ⟨xd, rfl, hB, hf2⟩
  replace hA := hA.fwd hf2
  replace kA := kA.fwd hf2
  replace kR := kR.fwd hf2
  replace hF := hF.trans hf2
  clear hf2
  clear ac0 az0 ac1 az1 ac2 az2
  clear rc0 rz0 rc1 rz1 rc2 rz2 rc3 rz3 rc4 rz4
  have ac0 := BlkV.cell kA 0 rfl
  have az0 := BlkV.frozen kA 0
  have ac1 := BlkV.cell kA 1 rfl
  have az1 := BlkV.frozen kA 1
  have ac2 := BlkV.cell kA 2 rfl
  have az2 := BlkV.frozen kA 2
  have rc0 := BlkV.cell kR 0 rfl
  have rz0 := BlkV.frozen kR 0
  have rc1 := BlkV.cell kR 1 rfl
  have rz1 := BlkV.frozen kR 1
  have rc2 := BlkV.cell kR 2 rfl
  have rz2 := BlkV.frozen kR 2
  have rc3 := BlkV.cell kR 3 rfl
  have rz3 := BlkV.frozen kR 3
  have rc4 := BlkV.cell kR 4 rfl
  have rz4 := BlkV.frozen kR 4
  go_wp2_with fail
  clear hHeld
  refine hK.out _ _ ⟨by with_reducible assumption, by with_reducible assumption, by with_reducible assumption⟩ (fun hHeld => ?_)
  clear hK K
  try simp only [Act.put, List.setIfInBounds_toArray, List.set_cons_zero, List.set_cons_succ]
  refine wpAnyH_take (i := 11) (oi := ?oi10_11) (v := ?vv10_11) ?hi10_11 (by kernel_rfl) (by kernel_rfl) (by kernel_rfl) ?hq10_11 ?hy10_11 hHeld ?rest10_11
  case hi10_11 => (simp only [List.getElem?_toArray, List.getElem?_cons_succ, List.getElem?_cons_zero]; rfl)
  case hq10_11 => exact fun _ _ _ h => h
  case hy10_11 =>
    refine Or.inl ⟨by rfl, ?_⟩
    intro wS hSw
    try dsimp only at hSw
    obtain ⟨q0, q1, q2⟩ := hSw
    go_simp
    try with_reducible rfl
  simp only [Act.put, List.setIfInBounds_toArray, List.set_cons_zero, List.set_cons_succ]
  refine wpAnyH_take (i := 12) (oi := ?oi11_12) (v := ?vv11_12) ?hi11_12 (by kernel_rfl) (by kernel_rfl) (by kernel_rfl) ?hq11_12 ?hy11_12 hHeld ?rest11_12
  case hi11_12 => (simp only [List.getElem?_toArray, List.getElem?_cons_succ, List.getElem?_cons_zero]; rfl)
  case hq11_12 => exact fun _ _ _ h => h
  case hy11_12 =>
    refine Or.inl ⟨by rfl, ?_⟩
    intro wS hSw
    try dsimp only at hSw
    obtain ⟨q0, q1, q2⟩ := hSw
    go_simp
    try with_reducible rfl
  simp only [Act.put, List.setIfInBounds_toArray, List.set_cons_zero, List.set_cons_succ]
  refine wpAnyH_done (by kernel_rfl) ?_ _
  clear s1' s2'
  have _ := hF
  go_wp2_with fail
  refine (div_any hA hB (by omega) (by omega) (by omega)).mono ?_
  rintro e w11 ⟨xq, xr, rfl, hQ, hr, hf11⟩
  clear hA hB
  replace kA := kA.fwd hf11
  replace kR := kR.fwd hf11
  replace hF := hF.trans hf11
  clear hf11
  clear ac0 az0 ac1 az1 ac2 az2
  clear rc0 rz0 rc1 rz1 rc2 rz2 rc3 rz3 rc4 rz4
  have ac0 := BlkV.cell kA 0 rfl
  have az0 := BlkV.frozen kA 0
  have ac1 := BlkV.cell kA 1 rfl
  have az1 := BlkV.frozen kA 1
  have ac2 := BlkV.cell kA 2 rfl
  have az2 := BlkV.frozen kA 2
  have rc0 := BlkV.cell kR 0 rfl
  have rz0 := BlkV.frozen kR 0
  have rc1 := BlkV.cell kR 1 rfl
  have rz1 := BlkV.frozen kR 1
  have rc2 := BlkV.cell kR 2 rfl
  have rz2 := BlkV.frozen kR 2
  have rc3 := BlkV.cell kR 3 rfl
  have rz3 := BlkV.frozen kR 3
  have rc4 := BlkV.cell kR 4 rfl
  have rz4 := BlkV.frozen kR 4
  have cs := small_any hQ (by have := nl_mono (Nat.div_le_self A B); omega)
  rw [show smallV (A / B) = .tuple #[.int .u64 ((A / B : Nat) : Int), .bool true] from if_pos hl] at cs
  go_wp2_with fail
  refine (cs).mono ?_
  rintro e w12 ⟨rfl, hf12⟩
  replace hr := hr.fwd hf12
  clear cs hQ
  replace kA := kA.fwd hf12
  replace kR := kR.fwd hf12
  replace hF := hF.trans hf12
  clear hf12
  clear ac0 az0 ac1 az1 ac2 az2
  clear rc0 rz0 rc1 rz1 rc2 rz2 rc3 rz3 rc4 rz4
  have ac0 := BlkV.cell kA 0 rfl
  have az0 := BlkV.frozen kA 0
  have ac1 := BlkV.cell kA 1 rfl
  have az1 := BlkV.frozen kA 1
  have ac2 := BlkV.cell kA 2 rfl
  have az2 := BlkV.frozen kA 2
  have rc0 := BlkV.cell kR 0 rfl
  have rz0 := BlkV.frozen kR 0
  have rc1 := BlkV.cell kR 1 rfl
  have rz1 := BlkV.frozen kR 1
  have rc2 := BlkV.cell kR 2 rfl
  have rz2 := BlkV.frozen kR 2
  have rc3 := BlkV.cell kR 3 rfl
  have rz3 := BlkV.frozen kR 3
  have rc4 := BlkV.cell kR 4 rfl
  have rz4 := BlkV.frozen kR 4
  have hnr : nl (A % B) ≤ 100000 := by have := nl_mono (Nat.mod_le A B); omega
  have hst := stk_nl (A % B)
  have HQ := hid HV.out
  clear HV
  generalize A / B = Q at *
  generalize A % B = RM at *
  obtain ⟨orr, cr, rfl, r1, r2, r3⟩ := hr.parts
  clear r3 hr
  have rs' := fun w => (rest_stk w (nl RM) (by omega)).mono (fun e w' h => And.intro h.1 (h.2 ▸ Fwd.refl _ : Fwd w w'))
  rw [hst] at rs'
  have hs := stk_lt RM
  have w9 : IntKind.u64.wrap (nl RM : Int) = (nl RM : Int) := by rw [IntKind.wrap_u64]; omega
  generalize stk RM = sk at *
  go_wp2_with fail
  replace kA := kA.drew
  replace kR := kR.drew
  replace hF := hF.drew
  clear ac0 az0 ac1 az1 ac2 az2
  clear rc0 rz0 rc1 rz1 rc2 rz2 rc3 rz3 rc4 rz4
  have ac0 := BlkV.cell kA 0 rfl
  have az0 := BlkV.frozen kA 0
  have ac1 := BlkV.cell kA 1 rfl
  have az1 := BlkV.frozen kA 1
  have ac2 := BlkV.cell kA 2 rfl
  have az2 := BlkV.frozen kA 2
  have rc0 := BlkV.cell kR 0 rfl
  have rz0 := BlkV.frozen kR 0
  have rc1 := BlkV.cell kR 1 rfl
  have rz1 := BlkV.frozen kR 1
  have rc2 := BlkV.cell kR 2 rfl
  have rz2 := BlkV.frozen kR 2
  have rc3 := BlkV.cell kR 3 rfl
  have rz3 := BlkV.frozen kR 3
  have rc4 := BlkV.cell kR 4 rfl
  have rz4 := BlkV.frozen kR 4
  go_region_held3 (fun w' => w'.cell? ⟨w.heap.size, 0, none⟩ = some (.bool s) ∧ w'.cell? ⟨w.heap.size, 1, none⟩ = some (.slice on (nl N) cn) ∧ w'.cell? ⟨w.heap.size, 2, none⟩ = some (.slice od (nl D) cd))
    (first | exact ⟨by with_reducible assumption, by with_reducible assumption, by with_reducible assumption⟩ | exact ⟨(farset (by simp; try omega) (farset (by simp; try omega) (farset (by simp; try omega) (farset (by simp; try omega) (farset (by simp; try omega) (by with_reducible assumption)))))), (farset (by simp; try omega) (farset (by simp; try omega) (farset (by simp; try omega) (farset (by simp; try omega) (farset (by simp; try omega) (by with_reducible assumption)))))), (farset (by simp; try omega) (farset (by simp; try omega) (farset (by simp; try omega) (farset (by simp; try omega) (farset (by simp; try omega) (by with_reducible assumption))))))⟩)
    (first
      | (go_at_call 121
         refine (rs' _).mono ?_
         rintro e w90 ⟨rfl, hf90⟩
         replace kA := kA.fwd hf90
         replace kR := kR.fwd hf90
         replace hF := hF.trans hf90
         clear hf90
         clear ac0 az0 ac1 az1 ac2 az2
         clear rc0 rz0 rc1 rz1 rc2 rz2 rc3 rz3 rc4 rz4
         have ac0 := BlkV.cell kA 0 rfl
         have az0 := BlkV.frozen kA 0
         have ac1 := BlkV.cell kA 1 rfl
         have az1 := BlkV.frozen kA 1
         have ac2 := BlkV.cell kA 2 rfl
         have az2 := BlkV.frozen kA 2
         have rc0 := BlkV.cell kR 0 rfl
         have rz0 := BlkV.frozen kR 0
         have rc1 := BlkV.cell kR 1 rfl
         have rz1 := BlkV.frozen kR 1
         have rc2 := BlkV.cell kR 2 rfl
         have rz2 := BlkV.frozen kR 2
         have rc3 := BlkV.cell kR 3 rfl
         have rz3 := BlkV.frozen kR 3
         have rc4 := BlkV.cell kR 4 rfl
         have rz4 := BlkV.frozen kR 4))
  go_wp2
  have r0 := BlkV.set kR 0 (.bool s)
  have rs0 := BlkV.cell r0 0 rfl
  have r1 := BlkV.set r0 1 (.bool false)
  have rs1 := BlkV.cell r1 1 rfl
  have r2 := BlkV.set r1 2 (.int .u64 (Q))
  have rs2 := BlkV.cell r2 2 rfl
  have r3 := BlkV.set r2 3 (.int .u64 (sk))
  have rs3 := BlkV.cell r3 3 rfl
  have r4 := BlkV.set r3 4 (.int .i64 (IntKind.i64.wrap (IntKind.i64.wrap 0 - 64)))
  have rs4 := BlkV.cell r4 4 rfl
  refine bodyPost_ret (by simp [results, Tryz.results93, go_sem, rs0, rs1, rs2, rs3, rs4]; try rfl) rfl ?_
  exact ⟨_, rfl, (((((hF).set (by omega)).set (by omega)).set (by omega)).set (by omega)).set (by omega), (by rw [HQ.out]; exact ⟨Q, sk, rfl, hl, by omega, rfl⟩)⟩

set_option maxHeartbeats 8000000 in
set_option maxRecDepth 100000 in
theorem ratio_up {w : World} {vN vD : Value} {s : Bool} {N D k : Nat} (hN : Num w vN N) (hD : Num w vD D) (bN : nl N ≤ 10000) (bD : nl D ≤ 10000) (hD0 : D ≠ 0) (hk1 : 0 < k) (hk : rtS N D = (k : Int)) :
    Calls Tryz.prog 93 #[.agg #[.bool s, vN, vD]] w fun e w' => ∃ r, e = .returned r ∧ Fwd w w' ∧ VT r (ratV s N D) := by
  have b1 := blen_nl N
  have b2 := blen_nl D
  have q1 := fun (w' : World) (h : Fwd w w') => bits_any (hN.fwd h) (by omega)
  have q2 := fun (w' : World) (h : Fwd w w') => bits_any (hD.fwd h) (by omega)
  have hl := rt_lt (N := N) hD0
  have hd0 := rtD_pos (N := N) hD0
  have kk : k ≤ 400000 := by unfold rtS at hk; omega
  have eN : rtN N D = N * 2 ^ k := by unfold rtN; rw [hk]; congr 1
  have eD : rtD N D = D := by unfold rtD; rw [hk, show (-(k : Int)).toNat = 0 by omega]; omega
  have s1 := fun (w' : World) (h : Fwd w w') => shl_any k (hN.fwd h) (by omega) (by omega)
  have s2 : ∀ (w' : World) (h : Fwd w w'), Calls Tryz.prog 118 #[vD, .int .i64 0] w' fun e w'' => ∃ v, e = .returned v ∧ Num w'' v (D * 2 ^ 0) ∧ Fwd w' w'' := fun w' h => shl_any 0 (hD.fwd h) (by omega) (by omega)
  have l1 : nl (rtN N D) ≤ 100000 := by rw [eN]; have := nl_shl N k; omega
  have l2 : nl (rtD N D) ≤ 100000 := by rw [eD]; omega
  have HV : Hid (ratV s N D = (s, false, rtN N D / rtD N D * 18446744073709551616 + stk (rtN N D % rtD N D), -(rtS N D) - 64)) := hid rfl
  rw [hk] at HV
  have s1' : ∀ (w' : World) (h : Fwd w w'), Calls Tryz.prog 118 #[vN, .int .i64 k] w' fun e w'' => ∃ v, e = .returned v ∧ Num w'' v (rtN N D) ∧ Fwd w' w'' := by rw [eN]; simpa using s1
  have s2' : ∀ (w' : World) (h : Fwd w w'), Calls Tryz.prog 118 #[vD, .int .i64 0] w' fun e w'' => ∃ v, e = .returned v ∧ Num w'' v (rtD N D) ∧ Fwd w' w'' := by rw [eD]; simpa using s2
  clear s1 s2 eN eD
  generalize ratV s N D = OV at *
  have hk' : 63 - ((blen N : Int) - (blen D : Int)) = (k : Int) := hk
  clear hk
  generalize blen N = bn at *
  generalize blen D = bd at *
  generalize rtN N D = A at *
  generalize rtD N D = B at *
  have w1' : IntKind.i64.wrap ((bn : Int) - (bd : Int)) = (bn : Int) - (bd : Int) := by simp [IntKind.wrap, IntKind.bits, IntKind.signed]; omega
  have w2' : IntKind.i64.wrap (63 - ((bn : Int) - (bd : Int))) = (k : Int) := by rw [hk']; simp [IntKind.wrap, IntKind.bits, IntKind.signed]; omega
  obtain ⟨on, cn, rfl, n1, n2, n3⟩ := hN.parts
  obtain ⟨od, cd, rfl, d1, d2, d3⟩ := hD.parts
  clear n3 d3 hN hD hk'
  have m1 : (0 : Int) < (k : Int) := by omega
  have m2 : -(k : Int) < 0 := by omega
  have m1' : ¬ (k : Int) < 0 := by omega
  have m7 : ¬ (0 : Int) < -(k : Int) := by omega
  have m3 : IntKind.i64.wrap (-(k : Int)) = -(k : Int) := by simp [IntKind.wrap, IntKind.bits, IntKind.signed]; omega
  have m4 : max (k : Int) 0 = k := by omega
  have m5 : max (-(k : Int)) 0 = 0 := by omega
  have m6 : IntKind.i64.wrap (-(k : Int) - 64) = -(k : Int) - 64 := by simp [IntKind.wrap, IntKind.bits, IntKind.signed]; omega
  have kA : BlkV ((w.alloc (.cells #[.bool s, .slice on (nl N) cn, .slice od (nl D) cd] 27)).alloc (.cells #[.bool false, .bool false, .int .u64 0, .int .u64 0, .int .i64 0] 107)) (w.heap.size) 27 [.bool s, .slice on (nl N) cn, .slice od (nl D) cd] := (BlkV.made' w (w.heap.size) (by simp) 27 [.bool s, .slice on (nl N) cn, .slice od (nl D) cd]).alloc _
  have kR : BlkV ((w.alloc (.cells #[.bool s, .slice on (nl N) cn, .slice od (nl D) cd] 27)).alloc (.cells #[.bool false, .bool false, .int .u64 0, .int .u64 0, .int .i64 0] 107)) (w.heap.size + 1) 107 [.bool false, .bool false, .int .u64 0, .int .u64 0, .int .i64 0] := BlkV.made' (w.alloc (.cells #[.bool s, .slice on (nl N) cn, .slice od (nl D) cd] 27)) (w.heap.size + 1) (by simp) 107 [.bool false, .bool false, .int .u64 0, .int .u64 0, .int .i64 0]
  have hF : Fwd w ((w.alloc (.cells #[.bool s, .slice on (nl N) cn, .slice od (nl D) cd] 27)).alloc (.cells #[.bool false, .bool false, .int .u64 0, .int .u64 0, .int .i64 0] 107)) := ((Fwd.refl w).alloc _).alloc _
  go_enter Tryz.func93, Tryz.ntmps93
  have ac0 := BlkV.cell kA 0 rfl
  have az0 := BlkV.frozen kA 0
  have ac1 := BlkV.cell kA 1 rfl
  have az1 := BlkV.frozen kA 1
  have ac2 := BlkV.cell kA 2 rfl
  have az2 := BlkV.frozen kA 2
  have rc0 := BlkV.cell kR 0 rfl
  have rz0 := BlkV.frozen kR 0
  have rc1 := BlkV.cell kR 1 rfl
  have rz1 := BlkV.frozen kR 1
  have rc2 := BlkV.cell kR 2 rfl
  have rz2 := BlkV.frozen kR 2
  have rc3 := BlkV.cell kR 3 rfl
  have rz3 := BlkV.frozen kR 3
  have rc4 := BlkV.cell kR 4 rfl
  have rz4 := BlkV.frozen kR 4
  go_wp2_with fail
  replace kA := kA.drew
  replace kR := kR.drew
  replace hF := hF.drew
  clear ac0 az0 ac1 az1 ac2 az2
  clear rc0 rz0 rc1 rz1 rc2 rz2 rc3 rz3 rc4 rz4
  have ac0 := BlkV.cell kA 0 rfl
  have az0 := BlkV.frozen kA 0
  have ac1 := BlkV.cell kA 1 rfl
  have az1 := BlkV.frozen kA 1
  have ac2 := BlkV.cell kA 2 rfl
  have az2 := BlkV.frozen kA 2
  have rc0 := BlkV.cell kR 0 rfl
  have rz0 := BlkV.frozen kR 0
  have rc1 := BlkV.cell kR 1 rfl
  have rz1 := BlkV.frozen kR 1
  have rc2 := BlkV.cell kR 2 rfl
  have rz2 := BlkV.frozen kR 2
  have rc3 := BlkV.cell kR 3 rfl
  have rz3 := BlkV.frozen kR 3
  have rc4 := BlkV.cell kR 4 rfl
  have rz4 := BlkV.frozen kR 4
  go_region_held3 (fun w' => w'.cell? ⟨w.heap.size, 0, none⟩ = some (.bool s) ∧ w'.cell? ⟨w.heap.size, 1, none⟩ = some (.slice on (nl N) cn) ∧ w'.cell? ⟨w.heap.size, 2, none⟩ = some (.slice od (nl D) cd))
    (first | exact ⟨by with_reducible assumption, by with_reducible assumption, by with_reducible assumption⟩ | exact ⟨(by with_reducible assumption), (by with_reducible assumption), (by with_reducible assumption)⟩)
    (first
      | (go_at_call 117
         have _ := mk1
         refine (q2 _ hF).mono ?_
         rintro e w2 ⟨rfl, hf2⟩
         replace kA := kA.fwd hf2
         replace kR := kR.fwd hf2
         replace hF := hF.trans hf2
         clear hf2
         clear ac0 az0 ac1 az1 ac2 az2
         clear rc0 rz0 rc1 rz1 rc2 rz2 rc3 rz3 rc4 rz4
         have ac0 := BlkV.cell kA 0 rfl
         have az0 := BlkV.frozen kA 0
         have ac1 := BlkV.cell kA 1 rfl
         have az1 := BlkV.frozen kA 1
         have ac2 := BlkV.cell kA 2 rfl
         have az2 := BlkV.frozen kA 2
         have rc0 := BlkV.cell kR 0 rfl
         have rz0 := BlkV.frozen kR 0
         have rc1 := BlkV.cell kR 1 rfl
         have rz1 := BlkV.frozen kR 1
         have rc2 := BlkV.cell kR 2 rfl
         have rz2 := BlkV.frozen kR 2
         have rc3 := BlkV.cell kR 3 rfl
         have rz3 := BlkV.frozen kR 3
         have rc4 := BlkV.cell kR 4 rfl
         have rz4 := BlkV.frozen kR 4
         have mk2 : True := trivial)
      | (go_at_call 117
         refine (q1 _ hF).mono ?_
         rintro e w1 ⟨rfl, hf1⟩
         replace kA := kA.fwd hf1
         replace kR := kR.fwd hf1
         replace hF := hF.trans hf1
         clear hf1
         clear ac0 az0 ac1 az1 ac2 az2
         clear rc0 rz0 rc1 rz1 rc2 rz2 rc3 rz3 rc4 rz4
         have ac0 := BlkV.cell kA 0 rfl
         have az0 := BlkV.frozen kA 0
         have ac1 := BlkV.cell kA 1 rfl
         have az1 := BlkV.frozen kA 1
         have ac2 := BlkV.cell kA 2 rfl
         have az2 := BlkV.frozen kA 2
         have rc0 := BlkV.cell kR 0 rfl
         have rz0 := BlkV.frozen kR 0
         have rc1 := BlkV.cell kR 1 rfl
         have rz1 := BlkV.frozen kR 1
         have rc2 := BlkV.cell kR 2 rfl
         have rz2 := BlkV.frozen kR 2
         have rc3 := BlkV.cell kR 3 rfl
         have rz3 := BlkV.frozen kR 3
         have rc4 := BlkV.cell kR 4 rfl
         have rz4 := BlkV.frozen kR 4
         have mk1 : True := trivial))
  clear mk1 mk2 q1 q2
  go_wp2_with fail
  replace kA := kA.drew
  replace kR := kR.drew
  replace hF := hF.drew
  clear ac0 az0 ac1 az1 ac2 az2
  clear rc0 rz0 rc1 rz1 rc2 rz2 rc3 rz3 rc4 rz4
  have ac0 := BlkV.cell kA 0 rfl
  have az0 := BlkV.frozen kA 0
  have ac1 := BlkV.cell kA 1 rfl
  have az1 := BlkV.frozen kA 1
  have ac2 := BlkV.cell kA 2 rfl
  have az2 := BlkV.frozen kA 2
  have rc0 := BlkV.cell kR 0 rfl
  have rz0 := BlkV.frozen kR 0
  have rc1 := BlkV.cell kR 1 rfl
  have rz1 := BlkV.frozen kR 1
  have rc2 := BlkV.cell kR 2 rfl
  have rz2 := BlkV.frozen kR 2
  have rc3 := BlkV.cell kR 3 rfl
  have rz3 := BlkV.frozen kR 3
  have rc4 := BlkV.cell kR 4 rfl
  have rz4 := BlkV.frozen kR 4
  refine wp_region_held_drew (S := fun w' => w'.cell? ⟨w.heap.size, 0, none⟩ = some (.bool s) ∧ w'.cell? ⟨w.heap.size, 1, none⟩ = some (.slice on (nl N) cn) ∧ w'.cell? ⟨w.heap.size, 2, none⟩ = some (.slice od (nl D) cd)) (by kernel_rfl) ⟨by with_reducible assumption, by with_reducible assumption, by with_reducible assumption⟩ (fun hHeld => ?_)
  refine wpAnyH_take (i := 0) (oi := ?oi12_0) (v := ?vv12_0) ?hi12_0 (by kernel_rfl) (by kernel_rfl) (by kernel_rfl) ?hq12_0 ?hy12_0 hHeld ?rest12_0
  case hi12_0 => (simp only [List.getElem?_toArray, List.getElem?_cons_succ, List.getElem?_cons_zero]; rfl)
  case hq12_0 => exact fun _ _ _ h => h
  case hy12_0 =>
    refine Or.inl ⟨by rfl, ?_⟩
    intro wS hSw
    try dsimp only at hSw
    obtain ⟨q0, q1, q2⟩ := hSw
    go_simp
    try with_reducible rfl
  simp only [Act.put, List.setIfInBounds_toArray, List.set_cons_zero, List.set_cons_succ]
  refine wpAnyH_take (i := 1) (oi := ?oi13_1) (v := ?vv13_1) ?hi13_1 (by kernel_rfl) (by kernel_rfl) (by kernel_rfl) ?hq13_1 ?hy13_1 hHeld ?rest13_1
  case hi13_1 => (simp only [List.getElem?_toArray, List.getElem?_cons_succ, List.getElem?_cons_zero]; rfl)
  case hq13_1 => exact fun _ _ _ h => h
  case hy13_1 =>
    refine Or.inl ⟨by rfl, ?_⟩
    intro wS hSw
    try dsimp only at hSw
    obtain ⟨q0, q1, q2⟩ := hSw
    go_simp
    try with_reducible rfl
  simp only [Act.put, List.setIfInBounds_toArray, List.set_cons_zero, List.set_cons_succ]
  refine wpAnyH_take (i := 2) (oi := ?oi14_2) (v := ?vv14_2) ?hi14_2 (by kernel_rfl) (by kernel_rfl) (by kernel_rfl) ?hq14_2 ?hy14_2 hHeld ?rest14_2
  case hi14_2 => (simp only [List.getElem?_toArray, List.getElem?_cons_succ, List.getElem?_cons_zero]; rfl)
  case hq14_2 => exact fun _ _ _ h => h
  case hy14_2 =>
    refine Or.inl ⟨by rfl, ?_⟩
    intro wS hSw
    try dsimp only at hSw
    obtain ⟨q0, q1, q2⟩ := hSw
    go_simp
    try with_reducible rfl
  simp only [Act.put, List.setIfInBounds_toArray, List.set_cons_zero, List.set_cons_succ]
  refine wpAnyH_take (i := 3) (oi := ?oi15_3) (v := ?vv15_3) ?hi15_3 (by kernel_rfl) (by kernel_rfl) (by kernel_rfl) ?hq15_3 ?hy15_3 hHeld ?rest15_3
  case hi15_3 => (simp only [List.getElem?_toArray, List.getElem?_cons_succ, List.getElem?_cons_zero]; rfl)
  case hq15_3 => exact fun _ _ _ h => h
  case hy15_3 =>
    refine Or.inl ⟨by rfl, ?_⟩
    intro wS hSw
    try dsimp only at hSw
    obtain ⟨q0, q1, q2⟩ := hSw
    go_simp
    try with_reducible rfl
  simp only [Act.put, List.setIfInBounds_toArray, List.set_cons_zero, List.set_cons_succ]
  refine wpAnyH_take (i := 5) (oi := ?oi16_5) (v := ?vv16_5) ?hi16_5 (by kernel_rfl) (by kernel_rfl) (by kernel_rfl) ?hq16_5 ?hy16_5 hHeld ?rest16_5
  case hi16_5 => (simp only [List.getElem?_toArray, List.getElem?_cons_succ, List.getElem?_cons_zero]; rfl)
  case hq16_5 => exact fun _ _ _ h => h
  case hy16_5 =>
    refine Or.inl ⟨by rfl, ?_⟩
    intro wS hSw
    try dsimp only at hSw
    obtain ⟨q0, q1, q2⟩ := hSw
    go_simp
    try with_reducible rfl
  simp only [Act.put, List.setIfInBounds_toArray, List.set_cons_zero, List.set_cons_succ]
  refine wpAnyH_take (i := 6) (oi := ?oi17_6) (v := ?vv17_6) ?hi17_6 (by kernel_rfl) (by kernel_rfl) (by kernel_rfl) ?hq17_6 ?hy17_6 hHeld ?rest17_6
  case hi17_6 => (simp only [List.getElem?_toArray, List.getElem?_cons_succ, List.getElem?_cons_zero]; rfl)
  case hq17_6 => exact fun _ _ _ h => h
  case hy17_6 =>
    refine Or.inl ⟨by rfl, ?_⟩
    intro wS hSw
    try dsimp only at hSw
    obtain ⟨q0, q1, q2⟩ := hSw
    go_simp
    try with_reducible rfl
  simp only [Act.put, List.setIfInBounds_toArray, List.set_cons_zero, List.set_cons_succ]
  refine wpAnyH_take (i := 7) (oi := ?oi18_7) (v := ?vv18_7) ?hi18_7 (by kernel_rfl) (by kernel_rfl) (by kernel_rfl) ?hq18_7 ?hy18_7 hHeld ?rest18_7
  case hi18_7 => (simp only [List.getElem?_toArray, List.getElem?_cons_succ, List.getElem?_cons_zero]; rfl)
  case hq18_7 => exact fun _ _ _ h => h
  case hy18_7 =>
    refine Or.inl ⟨by rfl, ?_⟩
    intro wS hSw
    try dsimp only at hSw
    obtain ⟨q0, q1, q2⟩ := hSw
    go_simp
    try with_reducible rfl
  simp only [Act.put, List.setIfInBounds_toArray, List.set_cons_zero, List.set_cons_succ]
  refine wpAnyH_take (i := 8) (oi := ?oi19_8) (v := ?vv19_8) ?hi19_8 (by kernel_rfl) (by kernel_rfl) (by kernel_rfl) ?hq19_8 ?hy19_8 hHeld ?rest19_8
  case hi19_8 => (simp only [List.getElem?_toArray, List.getElem?_cons_succ, List.getElem?_cons_zero]; rfl)
  case hq19_8 => exact fun _ _ _ h => h
  case hy19_8 =>
    refine Or.inl ⟨by rfl, ?_⟩
    intro wS hSw
    try dsimp only at hSw
    obtain ⟨q0, q1, q2⟩ := hSw
    go_simp
    try with_reducible rfl
  simp only [Act.put, List.setIfInBounds_toArray, List.set_cons_zero, List.set_cons_succ]
  refine wpAnyH_take (i := 9) (oi := ?oi20_9) (v := ?vv20_9) ?hi20_9 (by kernel_rfl) (by kernel_rfl) (by kernel_rfl) ?hq20_9 ?hy20_9 hHeld ?rest20_9
  case hi20_9 => (simp only [List.getElem?_toArray, List.getElem?_cons_succ, List.getElem?_cons_zero]; rfl)
  case hq20_9 => exact fun _ _ _ h => h
  case hy20_9 =>
    refine Or.inl ⟨by rfl, ?_⟩
    intro wS hSw
    try dsimp only at hSw
    obtain ⟨q0, q1, q2⟩ := hSw
    go_simp
    try with_reducible rfl
  simp only [Act.put, List.setIfInBounds_toArray, List.set_cons_zero, List.set_cons_succ]
  refine wpAnyH_ready (rs := [4]) (by kernel_rfl) (by simp) ?_
  refine AllReadyH.cons rfl (fun K hK => ?_) AllReadyH.nil
  go_simp
  refine (s1' _ hF).mono ?_
  rintro e w1 ⟨xn, rfl, hA, hf1⟩
  replace kA := kA.fwd hf1
  replace kR := kR.fwd hf1
  replace hF := hF.trans hf1
  clear hf1
  clear ac0 az0 ac1 az1 ac2 az2
  clear rc0 rz0 rc1 rz1 rc2 rz2 rc3 rz3 rc4 rz4
  have ac0 := BlkV.cell kA 0 rfl
  have az0 := BlkV.frozen kA 0
  have ac1 := BlkV.cell kA 1 rfl
  have az1 := BlkV.frozen kA 1
  have ac2 := BlkV.cell kA 2 rfl
  have az2 := BlkV.frozen kA 2
  have rc0 := BlkV.cell kR 0 rfl
  have rz0 := BlkV.frozen kR 0
  have rc1 := BlkV.cell kR 1 rfl
  have rz1 := BlkV.frozen kR 1
  have rc2 := BlkV.cell kR 2 rfl
  have rz2 := BlkV.frozen kR 2
  have rc3 := BlkV.cell kR 3 rfl
  have rz3 := BlkV.frozen kR 3
  have rc4 := BlkV.cell kR 4 rfl
  have rz4 := BlkV.frozen kR 4
  go_wp2_with fail
  clear hHeld
  refine hK.out _ _ ⟨by with_reducible assumption, by with_reducible assumption, by with_reducible assumption⟩ (fun hHeld => ?_)
  clear hK K
  try simp only [Act.put, List.setIfInBounds_toArray, List.set_cons_zero, List.set_cons_succ]
  refine wpAnyH_ready (rs := [10]) (by kernel_rfl) (by simp) ?_
  refine AllReadyH.cons rfl (fun K hK => ?_) AllReadyH.nil
  go_simp
  refine (s2' _ hF).mono ?_
  rintro e w2 ⟨xd, rfl, hB, hf2⟩
  replace hA := hA.fwd hf2
  replace kA := kA.fwd hf2
  replace kR := kR.fwd hf2
  replace hF := hF.trans hf2
  clear hf2
  clear ac0 az0 ac1 az1 ac2 az2
  clear rc0 rz0 rc1 rz1 rc2 rz2 rc3 rz3 rc4 rz4
  have ac0 := BlkV.cell kA 0 rfl
  have az0 := BlkV.frozen kA 0
  have ac1 := BlkV.cell kA 1 rfl
  have az1 := BlkV.frozen kA 1
  have ac2 := BlkV.cell kA 2 rfl
  have az2 := BlkV.frozen kA 2
  have rc0 := BlkV.cell kR 0 rfl
  have rz0 := BlkV.frozen kR 0
  have rc1 := BlkV.cell kR 1 rfl
  have rz1 := BlkV.frozen kR 1
  have rc2 := BlkV.cell kR 2 rfl
  have rz2 := BlkV.frozen kR 2
  have rc3 := BlkV.cell kR 3 rfl
  have rz3 := BlkV.frozen kR 3
  have rc4 := BlkV.cell kR 4 rfl
  have rz4 := BlkV.frozen kR 4
  go_wp2_with fail
  clear hHeld
  refine hK.out _ _ ⟨by with_reducible assumption, by with_reducible assumption, by with_reducible assumption⟩ (fun hHeld => ?_)
  clear hK K
  try simp only [Act.put, List.setIfInBounds_toArray, List.set_cons_zero, List.set_cons_succ]
  refine wpAnyH_take (i := 11) (oi := ?oi21_11) (v := ?vv21_11) ?hi21_11 (by kernel_rfl) (by kernel_rfl) (by kernel_rfl) ?hq21_11 ?hy21_11 hHeld ?rest21_11
  case hi21_11 => (simp only [List.getElem?_toArray, List.getElem?_cons_succ, List.getElem?_cons_zero]; rfl)
  case hq21_11 => exact fun _ _ _ h => h
  case hy21_11 =>
    refine Or.inl ⟨by rfl, ?_⟩
    intro wS hSw
    try dsimp only at hSw
    obtain ⟨q0, q1, q2⟩ := hSw
    go_simp
    try with_reducible rfl
  simp only [Act.put, List.setIfInBounds_toArray, List.set_cons_zero, List.set_cons_succ]
  refine wpAnyH_take (i := 12) (oi := ?oi22_12) (v := ?vv22_12) ?hi22_12 (by kernel_rfl) (by kernel_rfl) (by kernel_rfl) ?hq22_12 ?hy22_12 hHeld ?rest22_12
  case hi22_12 => (simp only [List.getElem?_toArray, List.getElem?_cons_succ, List.getElem?_cons_zero]; rfl)
  case hq22_12 => exact fun _ _ _ h => h
  case hy22_12 =>
    refine Or.inl ⟨by rfl, ?_⟩
    intro wS hSw
    try dsimp only at hSw
    obtain ⟨q0, q1, q2⟩ := hSw
    go_simp
    try with_reducible rfl
  simp only [Act.put, List.setIfInBounds_toArray, List.set_cons_zero, List.set_cons_succ]
  refine wpAnyH_done (by kernel_rfl) ?_ _
  clear s1' s2'
  have _ := hF
  go_wp2_with fail
  refine (div_any hA hB (by omega) (by omega) (by omega)).mono ?_
  rintro e w11 ⟨xq, xr, rfl, hQ, hr, hf11⟩
  clear hA hB
  replace kA := kA.fwd hf11
  replace kR := kR.fwd hf11
  replace hF := hF.trans hf11
  clear hf11
  clear ac0 az0 ac1 az1 ac2 az2
  clear rc0 rz0 rc1 rz1 rc2 rz2 rc3 rz3 rc4 rz4
  have ac0 := BlkV.cell kA 0 rfl
  have az0 := BlkV.frozen kA 0
  have ac1 := BlkV.cell kA 1 rfl
  have az1 := BlkV.frozen kA 1
  have ac2 := BlkV.cell kA 2 rfl
  have az2 := BlkV.frozen kA 2
  have rc0 := BlkV.cell kR 0 rfl
  have rz0 := BlkV.frozen kR 0
  have rc1 := BlkV.cell kR 1 rfl
  have rz1 := BlkV.frozen kR 1
  have rc2 := BlkV.cell kR 2 rfl
  have rz2 := BlkV.frozen kR 2
  have rc3 := BlkV.cell kR 3 rfl
  have rz3 := BlkV.frozen kR 3
  have rc4 := BlkV.cell kR 4 rfl
  have rz4 := BlkV.frozen kR 4
  have cs := small_any hQ (by have := nl_mono (Nat.div_le_self A B); omega)
  rw [show smallV (A / B) = .tuple #[.int .u64 ((A / B : Nat) : Int), .bool true] from if_pos hl] at cs
  go_wp2_with fail
  refine (cs).mono ?_
  rintro e w12 ⟨rfl, hf12⟩
  replace hr := hr.fwd hf12
  clear cs hQ
  replace kA := kA.fwd hf12
  replace kR := kR.fwd hf12
  replace hF := hF.trans hf12
  clear hf12
  clear ac0 az0 ac1 az1 ac2 az2
  clear rc0 rz0 rc1 rz1 rc2 rz2 rc3 rz3 rc4 rz4
  have ac0 := BlkV.cell kA 0 rfl
  have az0 := BlkV.frozen kA 0
  have ac1 := BlkV.cell kA 1 rfl
  have az1 := BlkV.frozen kA 1
  have ac2 := BlkV.cell kA 2 rfl
  have az2 := BlkV.frozen kA 2
  have rc0 := BlkV.cell kR 0 rfl
  have rz0 := BlkV.frozen kR 0
  have rc1 := BlkV.cell kR 1 rfl
  have rz1 := BlkV.frozen kR 1
  have rc2 := BlkV.cell kR 2 rfl
  have rz2 := BlkV.frozen kR 2
  have rc3 := BlkV.cell kR 3 rfl
  have rz3 := BlkV.frozen kR 3
  have rc4 := BlkV.cell kR 4 rfl
  have rz4 := BlkV.frozen kR 4
  have hnr : nl (A % B) ≤ 100000 := by have := nl_mono (Nat.mod_le A B); omega
  have hst := stk_nl (A % B)
  have HQ := hid HV.out
  clear HV
  generalize A / B = Q at *
  generalize A % B = RM at *
  obtain ⟨orr, cr, rfl, r1, r2, r3⟩ := hr.parts
  clear r3 hr
  have rs' := fun w => (rest_stk w (nl RM) (by omega)).mono (fun e w' h => And.intro h.1 (h.2 ▸ Fwd.refl _ : Fwd w w'))
  rw [hst] at rs'
  have hs := stk_lt RM
  have w9 : IntKind.u64.wrap (nl RM : Int) = (nl RM : Int) := by rw [IntKind.wrap_u64]; omega
  generalize stk RM = sk at *
  go_wp2_with fail
  replace kA := kA.drew
  replace kR := kR.drew
  replace hF := hF.drew
  clear ac0 az0 ac1 az1 ac2 az2
  clear rc0 rz0 rc1 rz1 rc2 rz2 rc3 rz3 rc4 rz4
  have ac0 := BlkV.cell kA 0 rfl
  have az0 := BlkV.frozen kA 0
  have ac1 := BlkV.cell kA 1 rfl
  have az1 := BlkV.frozen kA 1
  have ac2 := BlkV.cell kA 2 rfl
  have az2 := BlkV.frozen kA 2
  have rc0 := BlkV.cell kR 0 rfl
  have rz0 := BlkV.frozen kR 0
  have rc1 := BlkV.cell kR 1 rfl
  have rz1 := BlkV.frozen kR 1
  have rc2 := BlkV.cell kR 2 rfl
  have rz2 := BlkV.frozen kR 2
  have rc3 := BlkV.cell kR 3 rfl
  have rz3 := BlkV.frozen kR 3
  have rc4 := BlkV.cell kR 4 rfl
  have rz4 := BlkV.frozen kR 4
  go_region_held3 (fun w' => w'.cell? ⟨w.heap.size, 0, none⟩ = some (.bool s) ∧ w'.cell? ⟨w.heap.size, 1, none⟩ = some (.slice on (nl N) cn) ∧ w'.cell? ⟨w.heap.size, 2, none⟩ = some (.slice od (nl D) cd))
    (first | exact ⟨by with_reducible assumption, by with_reducible assumption, by with_reducible assumption⟩ | exact ⟨(farset (by simp; try omega) (farset (by simp; try omega) (farset (by simp; try omega) (farset (by simp; try omega) (farset (by simp; try omega) (by with_reducible assumption)))))), (farset (by simp; try omega) (farset (by simp; try omega) (farset (by simp; try omega) (farset (by simp; try omega) (farset (by simp; try omega) (by with_reducible assumption)))))), (farset (by simp; try omega) (farset (by simp; try omega) (farset (by simp; try omega) (farset (by simp; try omega) (farset (by simp; try omega) (by with_reducible assumption))))))⟩)
    (first
      | (go_at_call 121
         refine (rs' _).mono ?_
         rintro e w90 ⟨rfl, hf90⟩
         replace kA := kA.fwd hf90
         replace kR := kR.fwd hf90
         replace hF := hF.trans hf90
         clear hf90
         clear ac0 az0 ac1 az1 ac2 az2
         clear rc0 rz0 rc1 rz1 rc2 rz2 rc3 rz3 rc4 rz4
         have ac0 := BlkV.cell kA 0 rfl
         have az0 := BlkV.frozen kA 0
         have ac1 := BlkV.cell kA 1 rfl
         have az1 := BlkV.frozen kA 1
         have ac2 := BlkV.cell kA 2 rfl
         have az2 := BlkV.frozen kA 2
         have rc0 := BlkV.cell kR 0 rfl
         have rz0 := BlkV.frozen kR 0
         have rc1 := BlkV.cell kR 1 rfl
         have rz1 := BlkV.frozen kR 1
         have rc2 := BlkV.cell kR 2 rfl
         have rz2 := BlkV.frozen kR 2
         have rc3 := BlkV.cell kR 3 rfl
         have rz3 := BlkV.frozen kR 3
         have rc4 := BlkV.cell kR 4 rfl
         have rz4 := BlkV.frozen kR 4))
  go_wp2
  have r0 := BlkV.set kR 0 (.bool s)
  have rs0 := BlkV.cell r0 0 rfl
  have r1 := BlkV.set r0 1 (.bool false)
  have rs1 := BlkV.cell r1 1 rfl
  have r2 := BlkV.set r1 2 (.int .u64 (Q))
  have rs2 := BlkV.cell r2 2 rfl
  have r3 := BlkV.set r2 3 (.int .u64 (sk))
  have rs3 := BlkV.cell r3 3 rfl
  have r4 := BlkV.set r3 4 (.int .i64 (-(k : Int) - 64))
  have rs4 := BlkV.cell r4 4 rfl
  refine bodyPost_ret (by simp [results, Tryz.results93, go_sem, rs0, rs1, rs2, rs3, rs4]; try rfl) rfl ?_
  exact ⟨_, rfl, (((((hF).set (by omega)).set (by omega)).set (by omega)).set (by omega)).set (by omega), (by rw [HQ.out]; exact ⟨Q, sk, rfl, hl, by omega, rfl⟩)⟩

set_option maxHeartbeats 8000000 in
set_option maxRecDepth 100000 in
theorem ratio_down {w : World} {vN vD : Value} {s : Bool} {N D k : Nat} (hN : Num w vN N) (hD : Num w vD D) (bN : nl N ≤ 10000) (bD : nl D ≤ 10000) (hD0 : D ≠ 0) (hk1 : 0 < k) (hk : rtS N D = -(k : Int)) :
    Calls Tryz.prog 93 #[.agg #[.bool s, vN, vD]] w fun e w' => ∃ r, e = .returned r ∧ Fwd w w' ∧ VT r (ratV s N D) := by
  have b1 := blen_nl N
  have b2 := blen_nl D
  have q1 := fun (w' : World) (h : Fwd w w') => bits_any (hN.fwd h) (by omega)
  have q2 := fun (w' : World) (h : Fwd w w') => bits_any (hD.fwd h) (by omega)
  have hl := rt_lt (N := N) hD0
  have hd0 := rtD_pos (N := N) hD0
  have kk : k ≤ 400000 := by unfold rtS at hk; omega
  have eN : rtN N D = N := by unfold rtN; rw [hk, show (-(k : Int)).toNat = 0 by omega]; omega
  have eD : rtD N D = D * 2 ^ k := by unfold rtD; rw [hk, show (- -(k : Int)).toNat = k by omega]
  have s1 : ∀ (w' : World) (h : Fwd w w'), Calls Tryz.prog 118 #[vN, .int .i64 0] w' fun e w'' => ∃ v, e = .returned v ∧ Num w'' v (N * 2 ^ 0) ∧ Fwd w' w'' := fun w' h => shl_any 0 (hN.fwd h) (by omega) (by omega)
  have s2 := fun (w' : World) (h : Fwd w w') => shl_any k (hD.fwd h) (by omega) (by omega)
  have l1 : nl (rtN N D) ≤ 100000 := by rw [eN]; omega
  have l2 : nl (rtD N D) ≤ 100000 := by rw [eD]; have := nl_shl D k; omega
  have HV : Hid (ratV s N D = (s, false, rtN N D / rtD N D * 18446744073709551616 + stk (rtN N D % rtD N D), -(rtS N D) - 64)) := hid rfl
  rw [hk, show -(-(k : Int)) - 64 = (k : Int) - 64 by omega] at HV
  have s1' : ∀ (w' : World) (h : Fwd w w'), Calls Tryz.prog 118 #[vN, .int .i64 0] w' fun e w'' => ∃ v, e = .returned v ∧ Num w'' v (rtN N D) ∧ Fwd w' w'' := by rw [eN]; simpa using s1
  have s2' : ∀ (w' : World) (h : Fwd w w'), Calls Tryz.prog 118 #[vD, .int .i64 k] w' fun e w'' => ∃ v, e = .returned v ∧ Num w'' v (rtD N D) ∧ Fwd w' w'' := by rw [eD]; simpa using s2
  clear s1 s2 eN eD
  generalize ratV s N D = OV at *
  have hk' : 63 - ((blen N : Int) - (blen D : Int)) = -(k : Int) := hk
  clear hk
  generalize blen N = bn at *
  generalize blen D = bd at *
  generalize rtN N D = A at *
  generalize rtD N D = B at *
  have w1' : IntKind.i64.wrap ((bn : Int) - (bd : Int)) = (bn : Int) - (bd : Int) := by simp [IntKind.wrap, IntKind.bits, IntKind.signed]; omega
  have w2' : IntKind.i64.wrap (63 - ((bn : Int) - (bd : Int))) = -(k : Int) := by rw [hk']; simp [IntKind.wrap, IntKind.bits, IntKind.signed]; omega
  obtain ⟨on, cn, rfl, n1, n2, n3⟩ := hN.parts
  obtain ⟨od, cd, rfl, d1, d2, d3⟩ := hD.parts
  clear n3 d3 hN hD hk'
  have m1 : (0 : Int) < (k : Int) := by omega
  have m2 : -(k : Int) < 0 := by omega
  have m1' : ¬ (k : Int) < 0 := by omega
  have m7 : ¬ (0 : Int) < -(k : Int) := by omega
  have m3 : IntKind.i64.wrap (k : Int) = (k : Int) := by simp [IntKind.wrap, IntKind.bits, IntKind.signed]; omega
  have m4 : max (k : Int) 0 = k := by omega
  have m5 : max (-(k : Int)) 0 = 0 := by omega
  have m6 : IntKind.i64.wrap ((k : Int) - 64) = (k : Int) - 64 := by simp [IntKind.wrap, IntKind.bits, IntKind.signed]; omega
  have kA : BlkV ((w.alloc (.cells #[.bool s, .slice on (nl N) cn, .slice od (nl D) cd] 27)).alloc (.cells #[.bool false, .bool false, .int .u64 0, .int .u64 0, .int .i64 0] 107)) (w.heap.size) 27 [.bool s, .slice on (nl N) cn, .slice od (nl D) cd] := (BlkV.made' w (w.heap.size) (by simp) 27 [.bool s, .slice on (nl N) cn, .slice od (nl D) cd]).alloc _
  have kR : BlkV ((w.alloc (.cells #[.bool s, .slice on (nl N) cn, .slice od (nl D) cd] 27)).alloc (.cells #[.bool false, .bool false, .int .u64 0, .int .u64 0, .int .i64 0] 107)) (w.heap.size + 1) 107 [.bool false, .bool false, .int .u64 0, .int .u64 0, .int .i64 0] := BlkV.made' (w.alloc (.cells #[.bool s, .slice on (nl N) cn, .slice od (nl D) cd] 27)) (w.heap.size + 1) (by simp) 107 [.bool false, .bool false, .int .u64 0, .int .u64 0, .int .i64 0]
  have hF : Fwd w ((w.alloc (.cells #[.bool s, .slice on (nl N) cn, .slice od (nl D) cd] 27)).alloc (.cells #[.bool false, .bool false, .int .u64 0, .int .u64 0, .int .i64 0] 107)) := ((Fwd.refl w).alloc _).alloc _
  go_enter Tryz.func93, Tryz.ntmps93
  have ac0 := BlkV.cell kA 0 rfl
  have az0 := BlkV.frozen kA 0
  have ac1 := BlkV.cell kA 1 rfl
  have az1 := BlkV.frozen kA 1
  have ac2 := BlkV.cell kA 2 rfl
  have az2 := BlkV.frozen kA 2
  have rc0 := BlkV.cell kR 0 rfl
  have rz0 := BlkV.frozen kR 0
  have rc1 := BlkV.cell kR 1 rfl
  have rz1 := BlkV.frozen kR 1
  have rc2 := BlkV.cell kR 2 rfl
  have rz2 := BlkV.frozen kR 2
  have rc3 := BlkV.cell kR 3 rfl
  have rz3 := BlkV.frozen kR 3
  have rc4 := BlkV.cell kR 4 rfl
  have rz4 := BlkV.frozen kR 4
  go_wp2_with fail
  replace kA := kA.drew
  replace kR := kR.drew
  replace hF := hF.drew
  clear ac0 az0 ac1 az1 ac2 az2
  clear rc0 rz0 rc1 rz1 rc2 rz2 rc3 rz3 rc4 rz4
  have ac0 := BlkV.cell kA 0 rfl
  have az0 := BlkV.frozen kA 0
  have ac1 := BlkV.cell kA 1 rfl
  have az1 := BlkV.frozen kA 1
  have ac2 := BlkV.cell kA 2 rfl
  have az2 := BlkV.frozen kA 2
  have rc0 := BlkV.cell kR 0 rfl
  have rz0 := BlkV.frozen kR 0
  have rc1 := BlkV.cell kR 1 rfl
  have rz1 := BlkV.frozen kR 1
  have rc2 := BlkV.cell kR 2 rfl
  have rz2 := BlkV.frozen kR 2
  have rc3 := BlkV.cell kR 3 rfl
  have rz3 := BlkV.frozen kR 3
  have rc4 := BlkV.cell kR 4 rfl
  have rz4 := BlkV.frozen kR 4
  go_region_held3 (fun w' => w'.cell? ⟨w.heap.size, 0, none⟩ = some (.bool s) ∧ w'.cell? ⟨w.heap.size, 1, none⟩ = some (.slice on (nl N) cn) ∧ w'.cell? ⟨w.heap.size, 2, none⟩ = some (.slice od (nl D) cd))
    (first | exact ⟨by with_reducible assumption, by with_reducible assumption, by with_reducible assumption⟩ | exact ⟨(by with_reducible assumption), (by with_reducible assumption), (by with_reducible assumption)⟩)
    (first
      | (go_at_call 117
         have _ := mk1
         refine (q2 _ hF).mono ?_
         rintro e w2 ⟨rfl, hf2⟩
         replace kA := kA.fwd hf2
         replace kR := kR.fwd hf2
         replace hF := hF.trans hf2
         clear hf2
         clear ac0 az0 ac1 az1 ac2 az2
         clear rc0 rz0 rc1 rz1 rc2 rz2 rc3 rz3 rc4 rz4
         have ac0 := BlkV.cell kA 0 rfl
         have az0 := BlkV.frozen kA 0
         have ac1 := BlkV.cell kA 1 rfl
         have az1 := BlkV.frozen kA 1
         have ac2 := BlkV.cell kA 2 rfl
         have az2 := BlkV.frozen kA 2
         have rc0 := BlkV.cell kR 0 rfl
         have rz0 := BlkV.frozen kR 0
         have rc1 := BlkV.cell kR 1 rfl
         have rz1 := BlkV.frozen kR 1
         have rc2 := BlkV.cell kR 2 rfl
         have rz2 := BlkV.frozen kR 2
         have rc3 := BlkV.cell kR 3 rfl
         have rz3 := BlkV.frozen kR 3
         have rc4 := BlkV.cell kR 4 rfl
         have rz4 := BlkV.frozen kR 4
         have mk2 : True := trivial)
      | (go_at_call 117
         refine (q1 _ hF).mono ?_
         rintro e w1 ⟨rfl, hf1⟩
         replace kA := kA.fwd hf1
         replace kR := kR.fwd hf1
         replace hF := hF.trans hf1
         clear hf1
         clear ac0 az0 ac1 az1 ac2 az2
         clear rc0 rz0 rc1 rz1 rc2 rz2 rc3 rz3 rc4 rz4
         have ac0 := BlkV.cell kA 0 rfl
         have az0 := BlkV.frozen kA 0
         have ac1 := BlkV.cell kA 1 rfl
         have az1 := BlkV.frozen kA 1
         have ac2 := BlkV.cell kA 2 rfl
         have az2 := BlkV.frozen kA 2
         have rc0 := BlkV.cell kR 0 rfl
         have rz0 := BlkV.frozen kR 0
         have rc1 := BlkV.cell kR 1 rfl
         have rz1 := BlkV.frozen kR 1
         have rc2 := BlkV.cell kR 2 rfl
         have rz2 := BlkV.frozen kR 2
         have rc3 := BlkV.cell kR 3 rfl
         have rz3 := BlkV.frozen kR 3
         have rc4 := BlkV.cell kR 4 rfl
         have rz4 := BlkV.frozen kR 4
         have mk1 : True := trivial))
  clear mk1 mk2 q1 q2
  go_wp2_with fail
  replace kA := kA.drew
  replace kR := kR.drew
  replace hF := hF.drew
  clear ac0 az0 ac1 az1 ac2 az2
  clear rc0 rz0 rc1 rz1 rc2 rz2 rc3 rz3 rc4 rz4
  have ac0 := BlkV.cell kA 0 rfl
  have az0 := BlkV.frozen kA 0
  have ac1 := BlkV.cell kA 1 rfl
  have az1 := BlkV.frozen kA 1
  have ac2 := BlkV.cell kA 2 rfl
  have az2 := BlkV.frozen kA 2
  have rc0 := BlkV.cell kR 0 rfl
  have rz0 := BlkV.frozen kR 0
  have rc1 := BlkV.cell kR 1 rfl
  have rz1 := BlkV.frozen kR 1
  have rc2 := BlkV.cell kR 2 rfl
  have rz2 := BlkV.frozen kR 2
  have rc3 := BlkV.cell kR 3 rfl
  have rz3 := BlkV.frozen kR 3
  have rc4 := BlkV.cell kR 4 rfl
  have rz4 := BlkV.frozen kR 4
  refine wp_region_held_drew (S := fun w' => w'.cell? ⟨w.heap.size, 0, none⟩ = some (.bool s) ∧ w'.cell? ⟨w.heap.size, 1, none⟩ = some (.slice on (nl N) cn) ∧ w'.cell? ⟨w.heap.size, 2, none⟩ = some (.slice od (nl D) cd)) (by kernel_rfl) ⟨by with_reducible assumption, by with_reducible assumption, by with_reducible assumption⟩ (fun hHeld => ?_)
  refine wpAnyH_take (i := 0) (oi := ?oi23_0) (v := ?vv23_0) ?hi23_0 (by kernel_rfl) (by kernel_rfl) (by kernel_rfl) ?hq23_0 ?hy23_0 hHeld ?rest23_0
  case hi23_0 => (simp only [List.getElem?_toArray, List.getElem?_cons_succ, List.getElem?_cons_zero]; rfl)
  case hq23_0 => exact fun _ _ _ h => h
  case hy23_0 =>
    refine Or.inl ⟨by rfl, ?_⟩
    intro wS hSw
    try dsimp only at hSw
    obtain ⟨q0, q1, q2⟩ := hSw
    go_simp
    try with_reducible rfl
  simp only [Act.put, List.setIfInBounds_toArray, List.set_cons_zero, List.set_cons_succ]
  refine wpAnyH_take (i := 1) (oi := ?oi24_1) (v := ?vv24_1) ?hi24_1 (by kernel_rfl) (by kernel_rfl) (by kernel_rfl) ?hq24_1 ?hy24_1 hHeld ?rest24_1
  case hi24_1 => (simp only [List.getElem?_toArray, List.getElem?_cons_succ, List.getElem?_cons_zero]; rfl)
  case hq24_1 => exact fun _ _ _ h => h
  case hy24_1 =>
    refine Or.inl ⟨by rfl, ?_⟩
    intro wS hSw
    try dsimp only at hSw
    obtain ⟨q0, q1, q2⟩ := hSw
    go_simp
    try with_reducible rfl
  simp only [Act.put, List.setIfInBounds_toArray, List.set_cons_zero, List.set_cons_succ]
  refine wpAnyH_take (i := 2) (oi := ?oi25_2) (v := ?vv25_2) ?hi25_2 (by kernel_rfl) (by kernel_rfl) (by kernel_rfl) ?hq25_2 ?hy25_2 hHeld ?rest25_2
  case hi25_2 => (simp only [List.getElem?_toArray, List.getElem?_cons_succ, List.getElem?_cons_zero]; rfl)
  case hq25_2 => exact fun _ _ _ h => h
  case hy25_2 =>
    refine Or.inl ⟨by rfl, ?_⟩
    intro wS hSw
    try dsimp only at hSw
    obtain ⟨q0, q1, q2⟩ := hSw
    go_simp
    try with_reducible rfl
  simp only [Act.put, List.setIfInBounds_toArray, List.set_cons_zero, List.set_cons_succ]
  refine wpAnyH_take (i := 3) (oi := ?oi26_3) (v := ?vv26_3) ?hi26_3 (by kernel_rfl) (by kernel_rfl) (by kernel_rfl) ?hq26_3 ?hy26_3 hHeld ?rest26_3
  case hi26_3 => (simp only [List.getElem?_toArray, List.getElem?_cons_succ, List.getElem?_cons_zero]; rfl)
  case hq26_3 => exact fun _ _ _ h => h
  case hy26_3 =>
    refine Or.inl ⟨by rfl, ?_⟩
    intro wS hSw
    try dsimp only at hSw
    obtain ⟨q0, q1, q2⟩ := hSw
    go_simp
    try with_reducible rfl
  simp only [Act.put, List.setIfInBounds_toArray, List.set_cons_zero, List.set_cons_succ]
  refine wpAnyH_take (i := 5) (oi := ?oi27_5) (v := ?vv27_5) ?hi27_5 (by kernel_rfl) (by kernel_rfl) (by kernel_rfl) ?hq27_5 ?hy27_5 hHeld ?rest27_5
  case hi27_5 => (simp only [List.getElem?_toArray, List.getElem?_cons_succ, List.getElem?_cons_zero]; rfl)
  case hq27_5 => exact fun _ _ _ h => h
  case hy27_5 =>
    refine Or.inl ⟨by rfl, ?_⟩
    intro wS hSw
    try dsimp only at hSw
    obtain ⟨q0, q1, q2⟩ := hSw
    go_simp
    try with_reducible rfl
  simp only [Act.put, List.setIfInBounds_toArray, List.set_cons_zero, List.set_cons_succ]
  refine wpAnyH_take (i := 6) (oi := ?oi28_6) (v := ?vv28_6) ?hi28_6 (by kernel_rfl) (by kernel_rfl) (by kernel_rfl) ?hq28_6 ?hy28_6 hHeld ?rest28_6
  case hi28_6 => (simp only [List.getElem?_toArray, List.getElem?_cons_succ, List.getElem?_cons_zero]; rfl)
  case hq28_6 => exact fun _ _ _ h => h
  case hy28_6 =>
    refine Or.inl ⟨by rfl, ?_⟩
    intro wS hSw
    try dsimp only at hSw
    obtain ⟨q0, q1, q2⟩ := hSw
    go_simp
    try with_reducible rfl
  simp only [Act.put, List.setIfInBounds_toArray, List.set_cons_zero, List.set_cons_succ]
  refine wpAnyH_take (i := 7) (oi := ?oi29_7) (v := ?vv29_7) ?hi29_7 (by kernel_rfl) (by kernel_rfl) (by kernel_rfl) ?hq29_7 ?hy29_7 hHeld ?rest29_7
  case hi29_7 => (simp only [List.getElem?_toArray, List.getElem?_cons_succ, List.getElem?_cons_zero]; rfl)
  case hq29_7 => exact fun _ _ _ h => h
  case hy29_7 =>
    refine Or.inl ⟨by rfl, ?_⟩
    intro wS hSw
    try dsimp only at hSw
    obtain ⟨q0, q1, q2⟩ := hSw
    go_simp
    try with_reducible rfl
  simp only [Act.put, List.setIfInBounds_toArray, List.set_cons_zero, List.set_cons_succ]
  refine wpAnyH_take (i := 8) (oi := ?oi30_8) (v := ?vv30_8) ?hi30_8 (by kernel_rfl) (by kernel_rfl) (by kernel_rfl) ?hq30_8 ?hy30_8 hHeld ?rest30_8
  case hi30_8 => (simp only [List.getElem?_toArray, List.getElem?_cons_succ, List.getElem?_cons_zero]; rfl)
  case hq30_8 => exact fun _ _ _ h => h
  case hy30_8 =>
    refine Or.inl ⟨by rfl, ?_⟩
    intro wS hSw
    try dsimp only at hSw
    obtain ⟨q0, q1, q2⟩ := hSw
    go_simp
    try with_reducible rfl
  simp only [Act.put, List.setIfInBounds_toArray, List.set_cons_zero, List.set_cons_succ]
  refine wpAnyH_take (i := 9) (oi := ?oi31_9) (v := ?vv31_9) ?hi31_9 (by kernel_rfl) (by kernel_rfl) (by kernel_rfl) ?hq31_9 ?hy31_9 hHeld ?rest31_9
  case hi31_9 => (simp only [List.getElem?_toArray, List.getElem?_cons_succ, List.getElem?_cons_zero]; rfl)
  case hq31_9 => exact fun _ _ _ h => h
  case hy31_9 =>
    refine Or.inl ⟨by rfl, ?_⟩
    intro wS hSw
    try dsimp only at hSw
    obtain ⟨q0, q1, q2⟩ := hSw
    go_simp
    try with_reducible rfl
  simp only [Act.put, List.setIfInBounds_toArray, List.set_cons_zero, List.set_cons_succ]
  refine wpAnyH_ready (rs := [4]) (by kernel_rfl) (by simp) ?_
  refine AllReadyH.cons rfl (fun K hK => ?_) AllReadyH.nil
  go_simp
  refine (s1' _ hF).mono ?_
  rintro e w1 ⟨xn, rfl, hA, hf1⟩
  replace kA := kA.fwd hf1
  replace kR := kR.fwd hf1
  replace hF := hF.trans hf1
  clear hf1
  clear ac0 az0 ac1 az1 ac2 az2
  clear rc0 rz0 rc1 rz1 rc2 rz2 rc3 rz3 rc4 rz4
  have ac0 := BlkV.cell kA 0 rfl
  have az0 := BlkV.frozen kA 0
  have ac1 := BlkV.cell kA 1 rfl
  have az1 := BlkV.frozen kA 1
  have ac2 := BlkV.cell kA 2 rfl
  have az2 := BlkV.frozen kA 2
  have rc0 := BlkV.cell kR 0 rfl
  have rz0 := BlkV.frozen kR 0
  have rc1 := BlkV.cell kR 1 rfl
  have rz1 := BlkV.frozen kR 1
  have rc2 := BlkV.cell kR 2 rfl
  have rz2 := BlkV.frozen kR 2
  have rc3 := BlkV.cell kR 3 rfl
  have rz3 := BlkV.frozen kR 3
  have rc4 := BlkV.cell kR 4 rfl
  have rz4 := BlkV.frozen kR 4
  go_wp2_with fail
  clear hHeld
  refine hK.out _ _ ⟨by with_reducible assumption, by with_reducible assumption, by with_reducible assumption⟩ (fun hHeld => ?_)
  clear hK K
  try simp only [Act.put, List.setIfInBounds_toArray, List.set_cons_zero, List.set_cons_succ]
  refine wpAnyH_ready (rs := [10]) (by kernel_rfl) (by simp) ?_
  refine AllReadyH.cons rfl (fun K hK => ?_) AllReadyH.nil
  go_simp
  refine (s2' _ hF).mono ?_
  rintro e w2 ⟨xd, rfl, hB, hf2⟩
  replace hA := hA.fwd hf2
  replace kA := kA.fwd hf2
  replace kR := kR.fwd hf2
  replace hF := hF.trans hf2
  clear hf2
  clear ac0 az0 ac1 az1 ac2 az2
  clear rc0 rz0 rc1 rz1 rc2 rz2 rc3 rz3 rc4 rz4
  have ac0 := BlkV.cell kA 0 rfl
  have az0 := BlkV.frozen kA 0
  have ac1 := BlkV.cell kA 1 rfl
  have az1 := BlkV.frozen kA 1
  have ac2 := BlkV.cell kA 2 rfl
  have az2 := BlkV.frozen kA 2
  have rc0 := BlkV.cell kR 0 rfl
  have rz0 := BlkV.frozen kR 0
  have rc1 := BlkV.cell kR 1 rfl
  have rz1 := BlkV.frozen kR 1
  have rc2 := BlkV.cell kR 2 rfl
  have rz2 := BlkV.frozen kR 2
  have rc3 := BlkV.cell kR 3 rfl
  have rz3 := BlkV.frozen kR 3
  have rc4 := BlkV.cell kR 4 rfl
  have rz4 := BlkV.frozen kR 4
  go_wp2_with fail
  clear hHeld
  refine hK.out _ _ ⟨by with_reducible assumption, by with_reducible assumption, by with_reducible assumption⟩ (fun hHeld => ?_)
  clear hK K
  try simp only [Act.put, List.setIfInBounds_toArray, List.set_cons_zero, List.set_cons_succ]
  refine wpAnyH_take (i := 11) (oi := ?oi32_11) (v := ?vv32_11) ?hi32_11 (by kernel_rfl) (by kernel_rfl) (by kernel_rfl) ?hq32_11 ?hy32_11 hHeld ?rest32_11
  case hi32_11 => (simp only [List.getElem?_toArray, List.getElem?_cons_succ, List.getElem?_cons_zero]; rfl)
  case hq32_11 => exact fun _ _ _ h => h
  case hy32_11 =>
    refine Or.inl ⟨by rfl, ?_⟩
    intro wS hSw
    try dsimp only at hSw
    obtain ⟨q0, q1, q2⟩ := hSw
    go_simp
    try with_reducible rfl
  simp only [Act.put, List.setIfInBounds_toArray, List.set_cons_zero, List.set_cons_succ]
  refine wpAnyH_take (i := 12) (oi := ?oi33_12) (v := ?vv33_12) ?hi33_12 (by kernel_rfl) (by kernel_rfl) (by kernel_rfl) ?hq33_12 ?hy33_12 hHeld ?rest33_12
  case hi33_12 => (simp only [List.getElem?_toArray, List.getElem?_cons_succ, List.getElem?_cons_zero]; rfl)
  case hq33_12 => exact fun _ _ _ h => h
  case hy33_12 =>
    refine Or.inl ⟨by rfl, ?_⟩
    intro wS hSw
    try dsimp only at hSw
    obtain ⟨q0, q1, q2⟩ := hSw
    go_simp
    try with_reducible rfl
  simp only [Act.put, List.setIfInBounds_toArray, List.set_cons_zero, List.set_cons_succ]
  refine wpAnyH_done (by kernel_rfl) ?_ _
  clear s1' s2'
  have _ := hF
  go_wp2_with fail
  refine (div_any hA hB (by omega) (by omega) (by omega)).mono ?_
  rintro e w11 ⟨xq, xr, rfl, hQ, hr, hf11⟩
  clear hA hB
  replace kA := kA.fwd hf11
  replace kR := kR.fwd hf11
  replace hF := hF.trans hf11
  clear hf11
  clear ac0 az0 ac1 az1 ac2 az2
  clear rc0 rz0 rc1 rz1 rc2 rz2 rc3 rz3 rc4 rz4
  have ac0 := BlkV.cell kA 0 rfl
  have az0 := BlkV.frozen kA 0
  have ac1 := BlkV.cell kA 1 rfl
  have az1 := BlkV.frozen kA 1
  have ac2 := BlkV.cell kA 2 rfl
  have az2 := BlkV.frozen kA 2
  have rc0 := BlkV.cell kR 0 rfl
  have rz0 := BlkV.frozen kR 0
  have rc1 := BlkV.cell kR 1 rfl
  have rz1 := BlkV.frozen kR 1
  have rc2 := BlkV.cell kR 2 rfl
  have rz2 := BlkV.frozen kR 2
  have rc3 := BlkV.cell kR 3 rfl
  have rz3 := BlkV.frozen kR 3
  have rc4 := BlkV.cell kR 4 rfl
  have rz4 := BlkV.frozen kR 4
  have cs := small_any hQ (by have := nl_mono (Nat.div_le_self A B); omega)
  rw [show smallV (A / B) = .tuple #[.int .u64 ((A / B : Nat) : Int), .bool true] from if_pos hl] at cs
  go_wp2_with fail
  refine (cs).mono ?_
  rintro e w12 ⟨rfl, hf12⟩
  replace hr := hr.fwd hf12
  clear cs hQ
  replace kA := kA.fwd hf12
  replace kR := kR.fwd hf12
  replace hF := hF.trans hf12
  clear hf12
  clear ac0 az0 ac1 az1 ac2 az2
  clear rc0 rz0 rc1 rz1 rc2 rz2 rc3 rz3 rc4 rz4
  have ac0 := BlkV.cell kA 0 rfl
  have az0 := BlkV.frozen kA 0
  have ac1 := BlkV.cell kA 1 rfl
  have az1 := BlkV.frozen kA 1
  have ac2 := BlkV.cell kA 2 rfl
  have az2 := BlkV.frozen kA 2
  have rc0 := BlkV.cell kR 0 rfl
  have rz0 := BlkV.frozen kR 0
  have rc1 := BlkV.cell kR 1 rfl
  have rz1 := BlkV.frozen kR 1
  have rc2 := BlkV.cell kR 2 rfl
  have rz2 := BlkV.frozen kR 2
  have rc3 := BlkV.cell kR 3 rfl
  have rz3 := BlkV.frozen kR 3
  have rc4 := BlkV.cell kR 4 rfl
  have rz4 := BlkV.frozen kR 4
  have hnr : nl (A % B) ≤ 100000 := by have := nl_mono (Nat.mod_le A B); omega
  have hst := stk_nl (A % B)
  have HQ := hid HV.out
  clear HV
  generalize A / B = Q at *
  generalize A % B = RM at *
  obtain ⟨orr, cr, rfl, r1, r2, r3⟩ := hr.parts
  clear r3 hr
  have rs' := fun w => (rest_stk w (nl RM) (by omega)).mono (fun e w' h => And.intro h.1 (h.2 ▸ Fwd.refl _ : Fwd w w'))
  rw [hst] at rs'
  have hs := stk_lt RM
  have w9 : IntKind.u64.wrap (nl RM : Int) = (nl RM : Int) := by rw [IntKind.wrap_u64]; omega
  generalize stk RM = sk at *
  go_wp2_with fail
  replace kA := kA.drew
  replace kR := kR.drew
  replace hF := hF.drew
  clear ac0 az0 ac1 az1 ac2 az2
  clear rc0 rz0 rc1 rz1 rc2 rz2 rc3 rz3 rc4 rz4
  have ac0 := BlkV.cell kA 0 rfl
  have az0 := BlkV.frozen kA 0
  have ac1 := BlkV.cell kA 1 rfl
  have az1 := BlkV.frozen kA 1
  have ac2 := BlkV.cell kA 2 rfl
  have az2 := BlkV.frozen kA 2
  have rc0 := BlkV.cell kR 0 rfl
  have rz0 := BlkV.frozen kR 0
  have rc1 := BlkV.cell kR 1 rfl
  have rz1 := BlkV.frozen kR 1
  have rc2 := BlkV.cell kR 2 rfl
  have rz2 := BlkV.frozen kR 2
  have rc3 := BlkV.cell kR 3 rfl
  have rz3 := BlkV.frozen kR 3
  have rc4 := BlkV.cell kR 4 rfl
  have rz4 := BlkV.frozen kR 4
  go_region_held3 (fun w' => w'.cell? ⟨w.heap.size, 0, none⟩ = some (.bool s) ∧ w'.cell? ⟨w.heap.size, 1, none⟩ = some (.slice on (nl N) cn) ∧ w'.cell? ⟨w.heap.size, 2, none⟩ = some (.slice od (nl D) cd))
    (first | exact ⟨by with_reducible assumption, by with_reducible assumption, by with_reducible assumption⟩ | exact ⟨(farset (by simp; try omega) (farset (by simp; try omega) (farset (by simp; try omega) (farset (by simp; try omega) (farset (by simp; try omega) (by with_reducible assumption)))))), (farset (by simp; try omega) (farset (by simp; try omega) (farset (by simp; try omega) (farset (by simp; try omega) (farset (by simp; try omega) (by with_reducible assumption)))))), (farset (by simp; try omega) (farset (by simp; try omega) (farset (by simp; try omega) (farset (by simp; try omega) (farset (by simp; try omega) (by with_reducible assumption))))))⟩)
    (first
      | (go_at_call 121
         refine (rs' _).mono ?_
         rintro e w90 ⟨rfl, hf90⟩
         replace kA := kA.fwd hf90
         replace kR := kR.fwd hf90
         replace hF := hF.trans hf90
         clear hf90
         clear ac0 az0 ac1 az1 ac2 az2
         clear rc0 rz0 rc1 rz1 rc2 rz2 rc3 rz3 rc4 rz4
         have ac0 := BlkV.cell kA 0 rfl
         have az0 := BlkV.frozen kA 0
         have ac1 := BlkV.cell kA 1 rfl
         have az1 := BlkV.frozen kA 1
         have ac2 := BlkV.cell kA 2 rfl
         have az2 := BlkV.frozen kA 2
         have rc0 := BlkV.cell kR 0 rfl
         have rz0 := BlkV.frozen kR 0
         have rc1 := BlkV.cell kR 1 rfl
         have rz1 := BlkV.frozen kR 1
         have rc2 := BlkV.cell kR 2 rfl
         have rz2 := BlkV.frozen kR 2
         have rc3 := BlkV.cell kR 3 rfl
         have rz3 := BlkV.frozen kR 3
         have rc4 := BlkV.cell kR 4 rfl
         have rz4 := BlkV.frozen kR 4))
  go_wp2
  have r0 := BlkV.set kR 0 (.bool s)
  have rs0 := BlkV.cell r0 0 rfl
  have r1 := BlkV.set r0 1 (.bool false)
  have rs1 := BlkV.cell r1 1 rfl
  have r2 := BlkV.set r1 2 (.int .u64 (Q))
  have rs2 := BlkV.cell r2 2 rfl
  have r3 := BlkV.set r2 3 (.int .u64 (sk))
  have rs3 := BlkV.cell r3 3 rfl
  have r4 := BlkV.set r3 4 (.int .i64 ((k : Int) - 64))
  have rs4 := BlkV.cell r4 4 rfl
  refine bodyPost_ret (by simp [results, Tryz.results93, go_sem, rs0, rs1, rs2, rs3, rs4]; try rfl) rfl ?_
  exact ⟨_, rfl, (((((hF).set (by omega)).set (by omega)).set (by omega)).set (by omega)).set (by omega), (by rw [HQ.out]; exact ⟨Q, sk, rfl, hl, by omega, rfl⟩)⟩

end Go.Proofs.YtcfhajnboamnnabGreatDoor
