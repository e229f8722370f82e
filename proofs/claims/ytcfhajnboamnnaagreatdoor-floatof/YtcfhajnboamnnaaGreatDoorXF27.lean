/- sfloat's Rat: a float's number. -/
import Derived.Test.YtcfhajnboamnnaaGreatDoorXF26
import Derived.Test.YtcfhajnboamnnaaGreatDoorYXF34
import Derived.Test.YtcfhajnboamnnaaGreatDoorKJ
import Derived.Test.YtcfhajnboamnnaaGreatDoorYXP1
namespace Go.Proofs.YtcfhajnboamnnaaGreatDoor
open Go.RowKit
set_option linter.unusedVariables false
set_option linter.unusedSimpArgs false

theorem nl_two {n : Nat} (h : n < 9007199254740992) : nl n ≤ 2 := by
  rw [nl_le_iff]
  exact Nat.lt_trans h (by decide)

set_option maxHeartbeats 8000000 in
set_option maxRecDepth 100000 in
theorem rat3_range {w : World} (f : Nat) (hf : f < 18446744073709551616) (hi : 9218868437227405312 ≤ fsz f) :
    Calls Tryz.prog 15 #[.int .u64 f] w fun e w' => e = .returned (.tuple #[ratZero, .int .i64 10]) ∧ Fwd w w' := by
  have h1 := andNot_sign f hf
  have i1 : decide ((9218868437227405312 : Int) ≤ (fsz f : Int)) = true := decide_eq_true (by omega)
  generalize fsz f = z at *
  have kR : BlkV (w.alloc (.cells #[.bool false, .slice none 0 0, .slice none 0 0] 24)) (w.heap.size) 24 [.bool false, .slice none 0 0, .slice none 0 0] := BlkV.made' w (w.heap.size) (by simp) 24 [.bool false, .slice none 0 0, .slice none 0 0]
  have hF : Fwd w (w.alloc (.cells #[.bool false, .slice none 0 0, .slice none 0 0] 24)) := (Fwd.refl w).alloc _
  go_enter Tryz.func15, Tryz.ntmps15
  have rc0 := BlkV.cell kR 0 rfl
  have rz0 := BlkV.frozen kR 0
  have rc1 := BlkV.cell kR 1 rfl
  have rz1 := BlkV.frozen kR 1
  have rc2 := BlkV.cell kR 2 rfl
  have rz2 := BlkV.frozen kR 2
  go_wp2
  refine bodyPost_ret (by simp [results, Tryz.results15, go_sem, rc0, rc1, rc2]; try rfl) rfl ?_
  exact ⟨rfl, hF⟩

set_option maxHeartbeats 8000000 in
set_option maxRecDepth 100000 in
theorem rat3_zero {w : World} (f : Nat) (hf : f < 18446744073709551616) (hi : fsz f < 9218868437227405312) (hk : vex f = 0) :
    Calls Tryz.prog 15 #[.int .u64 f] w fun e w' => ∃ v, e = .returned (.tuple #[v, .int .i64 0]) ∧ RV w' v (mkQ (fneg f) (ratA f) (ratB f)) ∧ Fwd w w' := by
  have h1 := andNot_sign f hf
  have i1 : decide ((9218868437227405312 : Int) ≤ (fsz f : Int)) = false := decide_eq_false (by omega)
  have hne : ¬ fsz f = 9218868437227405312 := by omega
  have cv : ∀ (w : World), Calls Tryz.prog 42 #[.int .u64 f] w fun e w' => ∃ v, e = .returned v ∧ Fwd w w' ∧ VV v (fneg f) false (vsz f) (vex f) := fun w => (valueOf_any (w := w) f hf).mono (fun e w' h => by obtain ⟨v, h1, h2, h3⟩ := h; rw [if_neg hne] at h3; exact ⟨v, h1, h2, h3⟩)
  clear hne
  have hv := vsz_lt f
  have hB0 := ratB_pos f
  have x1 := vex_ge f
  have x2 := vex_le hi
  have eA : ratA f = vsz f * 2 ^ 0 := by unfold ratA; rw [hk]; rfl
  have eB : ratB f = 1 * 2 ^ 0 := by unfold ratB; rw [hk]; rfl
  have n1 : nl (ratA f) ≤ 1000 := by rw [eA]; have := nl_shl (vsz f) 0; have : nl (vsz f) ≤ 2 := nl_two hv; omega
  have n2 : nl (ratB f) ≤ 1000 := by rw [eB]; have := nl_shl 1 0; have : nl 1 ≤ 2 := nl_two (by decide); omega
  have cOf := fun (w : World) => of_any w (vsz f) (by omega)
  have cOne : ∀ (w : World), Calls Tryz.prog 44 #[.int .u64 1] w fun e w' => ∃ v, e = .returned v ∧ Num w' v 1 ∧ Fwd w w' := fun w => of_any w 1 (by omega)
  have sA : ∀ (w : World) (v : Value), Num w v (vsz f) → Calls Tryz.prog 43 #[v, .int .i64 0] w fun e w' => ∃ x, e = .returned x ∧ Num w' x (ratA f) ∧ Fwd w w' := fun w v h => by rw [eA]; exact shl_any 0 h (by have := nl_two hv; omega) (by omega)
  have sB : ∀ (w : World) (v : Value), Num w v 1 → Calls Tryz.prog 43 #[v, .int .i64 0] w fun e w' => ∃ x, e = .returned x ∧ Num w' x (ratB f) ∧ Fwd w w' := fun w v h => by rw [eB]; exact shl_any 0 h (by have := nl_two (n := 1) (by decide); omega) (by omega)
  clear eA eB x1 x2
  have m0 : IntKind.i64.wrap 0 = 0 := rfl
  rw [hk] at cv
  clear hk
  obtain ⟨n, hn⟩ : ∃ n, n = vsz f := ⟨_, rfl⟩
  obtain ⟨A, hA⟩ : ∃ A, A = ratA f := ⟨_, rfl⟩
  obtain ⟨B, hB⟩ : ∃ B, B = ratB f := ⟨_, rfl⟩
  rw [← hn] at cv cOf sA hv
  rw [← hA] at sA n1
  rw [← hB] at sB n2 hB0
  rw [← hA, ← hB]
  clear hn hA hB
  generalize fneg f = s at *
  generalize fsz f = z at *
  have kR : BlkV (w.alloc (.cells #[.bool false, .slice none 0 0, .slice none 0 0] 24)) (w.heap.size) 24 [.bool false, .slice none 0 0, .slice none 0 0] := BlkV.made' w (w.heap.size) (by simp) 24 [.bool false, .slice none 0 0, .slice none 0 0]
  have hF : Fwd w (w.alloc (.cells #[.bool false, .slice none 0 0, .slice none 0 0] 24)) := (Fwd.refl w).alloc _
  go_enter Tryz.func15, Tryz.ntmps15
  have rc0 := BlkV.cell kR 0 rfl
  have rz0 := BlkV.frozen kR 0
  have rc1 := BlkV.cell kR 1 rfl
  have rz1 := BlkV.frozen kR 1
  have rc2 := BlkV.cell kR 2 rfl
  have rz2 := BlkV.frozen kR 2
  go_wp2_with fail
  refine (cv _).mono ?_
  rintro e w1 ⟨v, rfl, hf1, a, b, rfl, a1, b1, hab⟩
  obtain rfl : a = 0 := by omega
  obtain rfl : b = n := by omega
  clear cv hab a1 b1
  replace kR := kR.fwd hf1
  replace hF := hF.trans hf1
  clear hf1
  clear rc0 rz0 rc1 rz1 rc2 rz2
  have rc0 := BlkV.cell kR 0 rfl
  have rz0 := BlkV.frozen kR 0
  have rc1 := BlkV.cell kR 1 rfl
  have rz1 := BlkV.frozen kR 1
  have rc2 := BlkV.cell kR 2 rfl
  have rz2 := BlkV.frozen kR 2
  have ltR1 := BlkV.lt kR
  have hfB : Fwd w1 (w1.alloc (.cells #[.bool s, .bool false, .int .u64 ((0 : Nat) : Int), .int .u64 b, .int .i64 (0)] 65)) := (Fwd.refl _).alloc _
  replace kR := kR.fwd hfB
  replace hF := hF.trans hfB
  clear hfB
  have kV := BlkV.made w1 65 [.bool s, .bool false, .int .u64 ((0 : Nat) : Int), .int .u64 b, .int .i64 (0)]
  go_upto_region 4 with fail
  clear rc0 rz0 rc1 rz1 rc2 rz2
  generalize (w1.alloc (.cells #[.bool s, .bool false, .int .u64 ((0 : Nat) : Int), .int .u64 b, .int .i64 (0)] 65)) = w2 at kV kR hF ⊢
  have rc0 := BlkV.cell kR 0 rfl
  have rz0 := BlkV.frozen kR 0
  have rc1 := BlkV.cell kR 1 rfl
  have rz1 := BlkV.frozen kR 1
  have rc2 := BlkV.cell kR 2 rfl
  have rz2 := BlkV.frozen kR 2
  have vc0 := BlkV.cell kV 0 rfl
  have vz0 := BlkV.frozen kV 0
  have vc1 := BlkV.cell kV 1 rfl
  have vz1 := BlkV.frozen kV 1
  have vc2 := BlkV.cell kV 2 rfl
  have vz2 := BlkV.frozen kV 2
  have vc3 := BlkV.cell kV 3 rfl
  have vz3 := BlkV.frozen kV 3
  have vc4 := BlkV.cell kV 4 rfl
  have vz4 := BlkV.frozen kV 4
  replace kR := kR.drew
  replace kV := kV.drew
  replace hF := hF.drew
  clear rc0 rz0 rc1 rz1 rc2 rz2
  clear vc0 vz0 vc1 vz1 vc2 vz2 vc3 vz3 vc4 vz4
  have rc0 := BlkV.cell kR 0 rfl
  have rz0 := BlkV.frozen kR 0
  have rc1 := BlkV.cell kR 1 rfl
  have rz1 := BlkV.frozen kR 1
  have rc2 := BlkV.cell kR 2 rfl
  have rz2 := BlkV.frozen kR 2
  have vc0 := BlkV.cell kV 0 rfl
  have vz0 := BlkV.frozen kV 0
  have vc1 := BlkV.cell kV 1 rfl
  have vz1 := BlkV.frozen kV 1
  have vc2 := BlkV.cell kV 2 rfl
  have vz2 := BlkV.frozen kV 2
  have vc3 := BlkV.cell kV 3 rfl
  have vz3 := BlkV.frozen kV 3
  have vc4 := BlkV.cell kV 4 rfl
  have vz4 := BlkV.frozen kV 4
  refine wp_region_held_drew (S := fun w' => w'.cell? ⟨w1.heap.size, 0, none⟩ = some (.bool s) ∧ w'.cell? ⟨w1.heap.size, 1, none⟩ = some (.bool false) ∧ w'.cell? ⟨w1.heap.size, 2, none⟩ = some (.int .u64 ((0 : Nat) : Int)) ∧ w'.cell? ⟨w1.heap.size, 3, none⟩ = some (.int .u64 b) ∧ w'.cell? ⟨w1.heap.size, 4, none⟩ = some (.int .i64 (0))) (by kernel_rfl) ⟨by with_reducible assumption, by with_reducible assumption, by with_reducible assumption, by with_reducible assumption, by with_reducible assumption⟩ (fun hHeld => ?_)
  refine wpAnyH_take (i := 0) (oi := ?oi1_0) (v := ?vv1_0) ?hi1_0 (by kernel_rfl) (by kernel_rfl) (by kernel_rfl) ?hq1_0 ?hy1_0 hHeld ?rest1_0
  case hi1_0 => (simp only [List.getElem?_toArray, List.getElem?_cons_succ, List.getElem?_cons_zero]; rfl)
  case hq1_0 => exact fun _ _ _ h => h
  case hy1_0 =>
    refine Or.inl ⟨by rfl, ?_⟩
    intro wS hSw
    try dsimp only at hSw
    obtain ⟨q0, q1, q2, q3, q4⟩ := hSw
    go_simp
    try with_reducible rfl
  simp only [Act.put, List.setIfInBounds_toArray, List.set_cons_zero, List.set_cons_succ]
  refine wpAnyH_take (i := 1) (oi := ?oi2_1) (v := ?vv2_1) ?hi2_1 (by kernel_rfl) (by kernel_rfl) (by kernel_rfl) ?hq2_1 ?hy2_1 hHeld ?rest2_1
  case hi2_1 => (simp only [List.getElem?_toArray, List.getElem?_cons_succ, List.getElem?_cons_zero]; rfl)
  case hq2_1 => exact fun _ _ _ h => h
  case hy2_1 =>
    refine Or.inl ⟨by rfl, ?_⟩
    intro wS hSw
    try dsimp only at hSw
    obtain ⟨q0, q1, q2, q3, q4⟩ := hSw
    go_simp
    try with_reducible rfl
  simp only [Act.put, List.setIfInBounds_toArray, List.set_cons_zero, List.set_cons_succ]
  refine wpAnyH_take (i := 2) (oi := ?oi3_2) (v := ?vv3_2) ?hi3_2 (by kernel_rfl) (by kernel_rfl) (by kernel_rfl) ?hq3_2 ?hy3_2 hHeld ?rest3_2
  case hi3_2 => (simp only [List.getElem?_toArray, List.getElem?_cons_succ, List.getElem?_cons_zero]; rfl)
  case hq3_2 => exact fun _ _ _ h => h
  case hy3_2 =>
    refine Or.inl ⟨by rfl, ?_⟩
    intro wS hSw
    try dsimp only at hSw
    obtain ⟨q0, q1, q2, q3, q4⟩ := hSw
    go_simp
    try with_reducible rfl
  simp only [Act.put, List.setIfInBounds_toArray, List.set_cons_zero, List.set_cons_succ]
  refine wpAnyH_take (i := 4) (oi := ?oi4_4) (v := ?vv4_4) ?hi4_4 (by kernel_rfl) (by kernel_rfl) (by kernel_rfl) ?hq4_4 ?hy4_4 hHeld ?rest4_4
  case hi4_4 => (simp only [List.getElem?_toArray, List.getElem?_cons_succ, List.getElem?_cons_zero]; rfl)
  case hq4_4 => exact fun _ _ _ h => h
  case hy4_4 =>
    refine Or.inl ⟨by rfl, ?_⟩
    intro wS hSw
    try dsimp only at hSw
    obtain ⟨q0, q1, q2, q3, q4⟩ := hSw
    go_simp
    try with_reducible rfl
  simp only [Act.put, List.setIfInBounds_toArray, List.set_cons_zero, List.set_cons_succ]
  refine wpAnyH_take (i := 5) (oi := ?oi5_5) (v := ?vv5_5) ?hi5_5 (by kernel_rfl) (by kernel_rfl) (by kernel_rfl) ?hq5_5 ?hy5_5 hHeld ?rest5_5
  case hi5_5 => (simp only [List.getElem?_toArray, List.getElem?_cons_succ, List.getElem?_cons_zero]; rfl)
  case hq5_5 => exact fun _ _ _ h => h
  case hy5_5 =>
    refine Or.inl ⟨by rfl, ?_⟩
    intro wS hSw
    try dsimp only at hSw
    obtain ⟨q0, q1, q2, q3, q4⟩ := hSw
    go_simp
    try with_reducible rfl
  simp only [Act.put, List.setIfInBounds_toArray, List.set_cons_zero, List.set_cons_succ]
  refine wpAnyH_take (i := 6) (oi := ?oi6_6) (v := ?vv6_6) ?hi6_6 (by kernel_rfl) (by kernel_rfl) (by kernel_rfl) ?hq6_6 ?hy6_6 hHeld ?rest6_6
  case hi6_6 => (simp only [List.getElem?_toArray, List.getElem?_cons_succ, List.getElem?_cons_zero]; rfl)
  case hq6_6 => exact fun _ _ _ h => h
  case hy6_6 =>
    refine Or.inl ⟨by rfl, ?_⟩
    intro wS hSw
    try dsimp only at hSw
    obtain ⟨q0, q1, q2, q3, q4⟩ := hSw
    go_simp
    try with_reducible rfl
  simp only [Act.put, List.setIfInBounds_toArray, List.set_cons_zero, List.set_cons_succ]
  refine wpAnyH_ready (rs := [3]) (by kernel_rfl) (by simp) ?_
  refine AllReadyH.cons rfl (fun K hK => ?_) AllReadyH.nil
  go_simp
  refine (cOf _).mono ?_
  rintro e w21 ⟨xa, rfl, ha, hf21⟩
  have _ := hF
  replace kR := kR.fwd hf21
  replace kV := kV.fwd hf21
  replace hF := hF.trans hf21
  clear hf21
  clear rc0 rz0 rc1 rz1 rc2 rz2
  clear vc0 vz0 vc1 vz1 vc2 vz2 vc3 vz3 vc4 vz4
  have rc0 := BlkV.cell kR 0 rfl
  have rz0 := BlkV.frozen kR 0
  have rc1 := BlkV.cell kR 1 rfl
  have rz1 := BlkV.frozen kR 1
  have rc2 := BlkV.cell kR 2 rfl
  have rz2 := BlkV.frozen kR 2
  have vc0 := BlkV.cell kV 0 rfl
  have vz0 := BlkV.frozen kV 0
  have vc1 := BlkV.cell kV 1 rfl
  have vz1 := BlkV.frozen kV 1
  have vc2 := BlkV.cell kV 2 rfl
  have vz2 := BlkV.frozen kV 2
  have vc3 := BlkV.cell kV 3 rfl
  have vz3 := BlkV.frozen kV 3
  have vc4 := BlkV.cell kV 4 rfl
  have vz4 := BlkV.frozen kV 4
  go_wp2_with fail
  clear hHeld
  refine hK.out _ _ ⟨by with_reducible assumption, by with_reducible assumption, by with_reducible assumption, by with_reducible assumption, by with_reducible assumption⟩ (fun hHeld => ?_)
  clear hK K
  try simp only [Act.put, List.setIfInBounds_toArray, List.set_cons_zero, List.set_cons_succ]
  refine wpAnyH_ready (rs := [7]) (by kernel_rfl) (by simp) ?_
  refine AllReadyH.cons rfl (fun K hK => ?_) AllReadyH.nil
  go_simp
  refine (sA _ xa ha).mono ?_
  rintro e w22 ⟨xA, rfl, hA, hf22⟩
  replace ha := ha.fwd hf22
  replace kR := kR.fwd hf22
  replace kV := kV.fwd hf22
  replace hF := hF.trans hf22
  clear hf22
  clear rc0 rz0 rc1 rz1 rc2 rz2
  clear vc0 vz0 vc1 vz1 vc2 vz2 vc3 vz3 vc4 vz4
  have rc0 := BlkV.cell kR 0 rfl
  have rz0 := BlkV.frozen kR 0
  have rc1 := BlkV.cell kR 1 rfl
  have rz1 := BlkV.frozen kR 1
  have rc2 := BlkV.cell kR 2 rfl
  have rz2 := BlkV.frozen kR 2
  have vc0 := BlkV.cell kV 0 rfl
  have vz0 := BlkV.frozen kV 0
  have vc1 := BlkV.cell kV 1 rfl
  have vz1 := BlkV.frozen kV 1
  have vc2 := BlkV.cell kV 2 rfl
  have vz2 := BlkV.frozen kV 2
  have vc3 := BlkV.cell kV 3 rfl
  have vz3 := BlkV.frozen kV 3
  have vc4 := BlkV.cell kV 4 rfl
  have vz4 := BlkV.frozen kV 4
  go_wp2_with fail
  clear hHeld
  refine hK.out _ _ ⟨by with_reducible assumption, by with_reducible assumption, by with_reducible assumption, by with_reducible assumption, by with_reducible assumption⟩ (fun hHeld => ?_)
  clear hK K
  try simp only [Act.put, List.setIfInBounds_toArray, List.set_cons_zero, List.set_cons_succ]
  refine wpAnyH_take (i := 8) (oi := ?oi7_8) (v := ?vv7_8) ?hi7_8 (by kernel_rfl) (by kernel_rfl) (by kernel_rfl) ?hq7_8 ?hy7_8 hHeld ?rest7_8
  case hi7_8 => (simp only [List.getElem?_toArray, List.getElem?_cons_succ, List.getElem?_cons_zero]; rfl)
  case hq7_8 => exact fun _ _ _ h => h
  case hy7_8 =>
    refine Or.inl ⟨by rfl, ?_⟩
    intro wS hSw
    try dsimp only at hSw
    obtain ⟨q0, q1, q2, q3, q4⟩ := hSw
    go_simp
    try with_reducible rfl
  simp only [Act.put, List.setIfInBounds_toArray, List.set_cons_zero, List.set_cons_succ]
  refine wpAnyH_done (by kernel_rfl) ?_ _
  go_wp2_with fail
  replace hA := hA.drew
  replace kR := kR.drew
  replace kV := kV.drew
  replace hF := hF.drew
  clear rc0 rz0 rc1 rz1 rc2 rz2
  clear vc0 vz0 vc1 vz1 vc2 vz2 vc3 vz3 vc4 vz4
  have rc0 := BlkV.cell kR 0 rfl
  have rz0 := BlkV.frozen kR 0
  have rc1 := BlkV.cell kR 1 rfl
  have rz1 := BlkV.frozen kR 1
  have rc2 := BlkV.cell kR 2 rfl
  have rz2 := BlkV.frozen kR 2
  have vc0 := BlkV.cell kV 0 rfl
  have vz0 := BlkV.frozen kV 0
  have vc1 := BlkV.cell kV 1 rfl
  have vz1 := BlkV.frozen kV 1
  have vc2 := BlkV.cell kV 2 rfl
  have vz2 := BlkV.frozen kV 2
  have vc3 := BlkV.cell kV 3 rfl
  have vz3 := BlkV.frozen kV 3
  have vc4 := BlkV.cell kV 4 rfl
  have vz4 := BlkV.frozen kV 4
  refine wp_region_held_drew (S := fun w' => w'.cell? ⟨w1.heap.size, 0, none⟩ = some (.bool s) ∧ w'.cell? ⟨w1.heap.size, 1, none⟩ = some (.bool false) ∧ w'.cell? ⟨w1.heap.size, 2, none⟩ = some (.int .u64 ((0 : Nat) : Int)) ∧ w'.cell? ⟨w1.heap.size, 3, none⟩ = some (.int .u64 b) ∧ w'.cell? ⟨w1.heap.size, 4, none⟩ = some (.int .i64 (0))) (by kernel_rfl) ⟨by with_reducible assumption, by with_reducible assumption, by with_reducible assumption, by with_reducible assumption, by with_reducible assumption⟩ (fun hHeld => ?_)
  refine wpAnyH_take (i := 1) (oi := ?oi8_1) (v := ?vv8_1) ?hi8_1 (by kernel_rfl) (by kernel_rfl) (by kernel_rfl) ?hq8_1 ?hy8_1 hHeld ?rest8_1
  case hi8_1 => (simp only [List.getElem?_toArray, List.getElem?_cons_succ, List.getElem?_cons_zero]; rfl)
  case hq8_1 => exact fun _ _ _ h => h
  case hy8_1 =>
    refine Or.inl ⟨by rfl, ?_⟩
    intro wS hSw
    try dsimp only at hSw
    obtain ⟨q0, q1, q2, q3, q4⟩ := hSw
    go_simp
    try with_reducible rfl
  simp only [Act.put, List.setIfInBounds_toArray, List.set_cons_zero, List.set_cons_succ]
  refine wpAnyH_take (i := 2) (oi := ?oi9_2) (v := ?vv9_2) ?hi9_2 (by kernel_rfl) (by kernel_rfl) (by kernel_rfl) ?hq9_2 ?hy9_2 hHeld ?rest9_2
  case hi9_2 => (simp only [List.getElem?_toArray, List.getElem?_cons_succ, List.getElem?_cons_zero]; rfl)
  case hq9_2 => exact fun _ _ _ h => h
  case hy9_2 =>
    refine Or.inl ⟨by rfl, ?_⟩
    intro wS hSw
    try dsimp only at hSw
    obtain ⟨q0, q1, q2, q3, q4⟩ := hSw
    go_simp
    try with_reducible rfl
  simp only [Act.put, List.setIfInBounds_toArray, List.set_cons_zero, List.set_cons_succ]
  refine wpAnyH_take (i := 3) (oi := ?oi10_3) (v := ?vv10_3) ?hi10_3 (by kernel_rfl) (by kernel_rfl) (by kernel_rfl) ?hq10_3 ?hy10_3 hHeld ?rest10_3
  case hi10_3 => (simp only [List.getElem?_toArray, List.getElem?_cons_succ, List.getElem?_cons_zero]; rfl)
  case hq10_3 => exact fun _ _ _ h => h
  case hy10_3 =>
    refine Or.inl ⟨by rfl, ?_⟩
    intro wS hSw
    try dsimp only at hSw
    obtain ⟨q0, q1, q2, q3, q4⟩ := hSw
    go_simp
    try with_reducible rfl
  simp only [Act.put, List.setIfInBounds_toArray, List.set_cons_zero, List.set_cons_succ]
  refine wpAnyH_take (i := 4) (oi := ?oi11_4) (v := ?vv11_4) ?hi11_4 (by kernel_rfl) (by kernel_rfl) (by kernel_rfl) ?hq11_4 ?hy11_4 hHeld ?rest11_4
  case hi11_4 => (simp only [List.getElem?_toArray, List.getElem?_cons_succ, List.getElem?_cons_zero]; rfl)
  case hq11_4 => exact fun _ _ _ h => h
  case hy11_4 =>
    refine Or.inl ⟨by rfl, ?_⟩
    intro wS hSw
    try dsimp only at hSw
    obtain ⟨q0, q1, q2, q3, q4⟩ := hSw
    go_simp
    try with_reducible rfl
  simp only [Act.put, List.setIfInBounds_toArray, List.set_cons_zero, List.set_cons_succ]
  refine wpAnyH_ready (rs := [0]) (by kernel_rfl) (by simp) ?_
  refine AllReadyH.cons rfl (fun K hK => ?_) AllReadyH.nil
  go_simp
  refine (cOne _).mono ?_
  rintro e w23 ⟨xb, rfl, hb, hf23⟩
  replace hA := hA.fwd hf23
  replace kR := kR.fwd hf23
  replace kV := kV.fwd hf23
  replace hF := hF.trans hf23
  clear hf23
  clear rc0 rz0 rc1 rz1 rc2 rz2
  clear vc0 vz0 vc1 vz1 vc2 vz2 vc3 vz3 vc4 vz4
  have rc0 := BlkV.cell kR 0 rfl
  have rz0 := BlkV.frozen kR 0
  have rc1 := BlkV.cell kR 1 rfl
  have rz1 := BlkV.frozen kR 1
  have rc2 := BlkV.cell kR 2 rfl
  have rz2 := BlkV.frozen kR 2
  have vc0 := BlkV.cell kV 0 rfl
  have vz0 := BlkV.frozen kV 0
  have vc1 := BlkV.cell kV 1 rfl
  have vz1 := BlkV.frozen kV 1
  have vc2 := BlkV.cell kV 2 rfl
  have vz2 := BlkV.frozen kV 2
  have vc3 := BlkV.cell kV 3 rfl
  have vz3 := BlkV.frozen kV 3
  have vc4 := BlkV.cell kV 4 rfl
  have vz4 := BlkV.frozen kV 4
  go_wp2_with fail
  clear hHeld
  refine hK.out _ _ ⟨by with_reducible assumption, by with_reducible assumption, by with_reducible assumption, by with_reducible assumption, by with_reducible assumption⟩ (fun hHeld => ?_)
  clear hK K
  try simp only [Act.put, List.setIfInBounds_toArray, List.set_cons_zero, List.set_cons_succ]
  refine wpAnyH_ready (rs := [5]) (by kernel_rfl) (by simp) ?_
  refine AllReadyH.cons rfl (fun K hK => ?_) AllReadyH.nil
  go_simp
  refine (sB _ xb hb).mono ?_
  rintro e w24 ⟨xB, rfl, hB, hf24⟩
  replace hA := hA.fwd hf24
  replace kR := kR.fwd hf24
  replace kV := kV.fwd hf24
  replace hF := hF.trans hf24
  clear hf24
  clear rc0 rz0 rc1 rz1 rc2 rz2
  clear vc0 vz0 vc1 vz1 vc2 vz2 vc3 vz3 vc4 vz4
  have rc0 := BlkV.cell kR 0 rfl
  have rz0 := BlkV.frozen kR 0
  have rc1 := BlkV.cell kR 1 rfl
  have rz1 := BlkV.frozen kR 1
  have rc2 := BlkV.cell kR 2 rfl
  have rz2 := BlkV.frozen kR 2
  have vc0 := BlkV.cell kV 0 rfl
  have vz0 := BlkV.frozen kV 0
  have vc1 := BlkV.cell kV 1 rfl
  have vz1 := BlkV.frozen kV 1
  have vc2 := BlkV.cell kV 2 rfl
  have vz2 := BlkV.frozen kV 2
  have vc3 := BlkV.cell kV 3 rfl
  have vz3 := BlkV.frozen kV 3
  have vc4 := BlkV.cell kV 4 rfl
  have vz4 := BlkV.frozen kV 4
  go_wp2_with fail
  clear hHeld
  refine hK.out _ _ ⟨by with_reducible assumption, by with_reducible assumption, by with_reducible assumption, by with_reducible assumption, by with_reducible assumption⟩ (fun hHeld => ?_)
  clear hK K
  try simp only [Act.put, List.setIfInBounds_toArray, List.set_cons_zero, List.set_cons_succ]
  refine wpAnyH_take (i := 6) (oi := ?oi12_6) (v := ?vv12_6) ?hi12_6 (by kernel_rfl) (by kernel_rfl) (by kernel_rfl) ?hq12_6 ?hy12_6 hHeld ?rest12_6
  case hi12_6 => (simp only [List.getElem?_toArray, List.getElem?_cons_succ, List.getElem?_cons_zero]; rfl)
  case hq12_6 => exact fun _ _ _ h => h
  case hy12_6 =>
    refine Or.inl ⟨by rfl, ?_⟩
    intro wS hSw
    try dsimp only at hSw
    obtain ⟨q0, q1, q2, q3, q4⟩ := hSw
    go_simp
    try with_reducible rfl
  simp only [Act.put, List.setIfInBounds_toArray, List.set_cons_zero, List.set_cons_succ]
  refine wpAnyH_done (by kernel_rfl) ?_ _
  go_wp2_with fail
  refine (rmake_any s hA hB (by omega) (by omega) hB0).mono ?_
  rintro e w25 ⟨xr, rfl, hv, hf25⟩
  obtain ⟨po, pc, qo, qc, rfl, p1, p2, p3, p4, -, -⟩ := RW.open hv
  replace kR := kR.fwd hf25
  replace kV := kV.fwd hf25
  replace hF := hF.trans hf25
  clear hf25
  clear rc0 rz0 rc1 rz1 rc2 rz2
  clear vc0 vz0 vc1 vz1 vc2 vz2 vc3 vz3 vc4 vz4
  have rc0 := BlkV.cell kR 0 rfl
  have rz0 := BlkV.frozen kR 0
  have rc1 := BlkV.cell kR 1 rfl
  have rz1 := BlkV.frozen kR 1
  have rc2 := BlkV.cell kR 2 rfl
  have rz2 := BlkV.frozen kR 2
  have vc0 := BlkV.cell kV 0 rfl
  have vz0 := BlkV.frozen kV 0
  have vc1 := BlkV.cell kV 1 rfl
  have vz1 := BlkV.frozen kV 1
  have vc2 := BlkV.cell kV 2 rfl
  have vz2 := BlkV.frozen kV 2
  have vc3 := BlkV.cell kV 3 rfl
  have vz3 := BlkV.frozen kV 3
  have vc4 := BlkV.cell kV 4 rfl
  have vz4 := BlkV.frozen kV 4
  generalize hQ : mkQ s A B = Q at *
  have HQ := hid hQ
  clear hQ ha hb hA hB cOf cOne sA sB
  have HV := hid hv
  clear hv
  go_wp2
  have r0 := BlkV.set kR 0 (.bool (negQ Q))
  have rs0 := BlkV.cell r0 0 rfl
  have r1 := BlkV.set r0 1 (.slice po (nl Q.num.natAbs) pc)
  have rs1 := BlkV.cell r1 1 rfl
  have r2 := BlkV.set r1 2 (.slice qo (nl Q.den) qc)
  have rs2 := BlkV.cell r2 2 rfl
  have hon := ((Only.set (w.heap.size) w25 0 (.bool (negQ Q))).setv 1 (.slice po (nl Q.num.natAbs) pc)).setv 2 (.slice qo (nl Q.den) qc)
  refine bodyPost_ret (by simp [results, Tryz.results15, go_sem, rs0, rs1, rs2]; try rfl) rfl ?_
  exact ⟨_, rfl, (by rw [HQ.out]; exact HV.out.keepV kR (by simp) hon), hF.wrote hon (by omega)⟩

set_option maxHeartbeats 8000000 in
set_option maxRecDepth 100000 in
theorem rat3_up {w : World} (f : Nat) (hf : f < 18446744073709551616) (hi : fsz f < 9218868437227405312) {k : Nat} (hk1 : 0 < k) (hk : vex f = (k : Int)) :
    Calls Tryz.prog 15 #[.int .u64 f] w fun e w' => ∃ v, e = .returned (.tuple #[v, .int .i64 0]) ∧ RV w' v (mkQ (fneg f) (ratA f) (ratB f)) ∧ Fwd w w' := by
  have h1 := andNot_sign f hf
  have i1 : decide ((9218868437227405312 : Int) ≤ (fsz f : Int)) = false := decide_eq_false (by omega)
  have hne : ¬ fsz f = 9218868437227405312 := by omega
  have cv : ∀ (w : World), Calls Tryz.prog 42 #[.int .u64 f] w fun e w' => ∃ v, e = .returned v ∧ Fwd w w' ∧ VV v (fneg f) false (vsz f) (vex f) := fun w => (valueOf_any (w := w) f hf).mono (fun e w' h => by obtain ⟨v, h1, h2, h3⟩ := h; rw [if_neg hne] at h3; exact ⟨v, h1, h2, h3⟩)
  clear hne
  have hv := vsz_lt f
  have hB0 := ratB_pos f
  have x1 := vex_ge f
  have x2 := vex_le hi
  have eA : ratA f = vsz f * 2 ^ k := by unfold ratA; rw [hk]; congr 1
  have eB : ratB f = 1 * 2 ^ 0 := by unfold ratB; rw [hk, show (-(k : Int)).toNat = 0 by omega]
  have kk : k ≤ 2000 := by omega
  have n1 : nl (ratA f) ≤ 1000 := by rw [eA]; have := nl_shl (vsz f) k; have : nl (vsz f) ≤ 2 := nl_two hv; omega
  have n2 : nl (ratB f) ≤ 1000 := by rw [eB]; have := nl_shl 1 0; have : nl 1 ≤ 2 := nl_two (by decide); omega
  have cOf := fun (w : World) => of_any w (vsz f) (by omega)
  have cOne : ∀ (w : World), Calls Tryz.prog 44 #[.int .u64 1] w fun e w' => ∃ v, e = .returned v ∧ Num w' v 1 ∧ Fwd w w' := fun w => of_any w 1 (by omega)
  have sA : ∀ (w : World) (v : Value), Num w v (vsz f) → Calls Tryz.prog 43 #[v, .int .i64 k] w fun e w' => ∃ x, e = .returned x ∧ Num w' x (ratA f) ∧ Fwd w w' := fun w v h => by rw [eA]; exact shl_any k h (by have := nl_two hv; omega) (by omega)
  have sB : ∀ (w : World) (v : Value), Num w v 1 → Calls Tryz.prog 43 #[v, .int .i64 0] w fun e w' => ∃ x, e = .returned x ∧ Num w' x (ratB f) ∧ Fwd w w' := fun w v h => by rw [eB]; exact shl_any 0 h (by have := nl_two (n := 1) (by decide); omega) (by omega)
  clear eA eB x1 x2
  have m1 : (0 : Int) < (k : Int) := by omega
  have m2 : -(k : Int) < 0 := by omega
  have m3 : ¬ (k : Int) < 0 := by omega
  have m7 : ¬ (0 : Int) < -(k : Int) := by omega
  have m8 : IntKind.i64.wrap (-(k : Int)) = -(k : Int) := by simp [IntKind.wrap, IntKind.bits, IntKind.signed]; omega
  rw [hk] at cv
  clear hk
  obtain ⟨n, hn⟩ : ∃ n, n = vsz f := ⟨_, rfl⟩
  obtain ⟨A, hA⟩ : ∃ A, A = ratA f := ⟨_, rfl⟩
  obtain ⟨B, hB⟩ : ∃ B, B = ratB f := ⟨_, rfl⟩
  rw [← hn] at cv cOf sA hv
  rw [← hA] at sA n1
  rw [← hB] at sB n2 hB0
  rw [← hA, ← hB]
  clear hn hA hB
  generalize fneg f = s at *
  generalize fsz f = z at *
  have kR : BlkV (w.alloc (.cells #[.bool false, .slice none 0 0, .slice none 0 0] 24)) (w.heap.size) 24 [.bool false, .slice none 0 0, .slice none 0 0] := BlkV.made' w (w.heap.size) (by simp) 24 [.bool false, .slice none 0 0, .slice none 0 0]
  have hF : Fwd w (w.alloc (.cells #[.bool false, .slice none 0 0, .slice none 0 0] 24)) := (Fwd.refl w).alloc _
  go_enter Tryz.func15, Tryz.ntmps15
  have rc0 := BlkV.cell kR 0 rfl
  have rz0 := BlkV.frozen kR 0
  have rc1 := BlkV.cell kR 1 rfl
  have rz1 := BlkV.frozen kR 1
  have rc2 := BlkV.cell kR 2 rfl
  have rz2 := BlkV.frozen kR 2
  go_wp2_with fail
  refine (cv _).mono ?_
  rintro e w1 ⟨v, rfl, hf1, a, b, rfl, a1, b1, hab⟩
  obtain rfl : a = 0 := by omega
  obtain rfl : b = n := by omega
  clear cv hab a1 b1
  replace kR := kR.fwd hf1
  replace hF := hF.trans hf1
  clear hf1
  clear rc0 rz0 rc1 rz1 rc2 rz2
  have rc0 := BlkV.cell kR 0 rfl
  have rz0 := BlkV.frozen kR 0
  have rc1 := BlkV.cell kR 1 rfl
  have rz1 := BlkV.frozen kR 1
  have rc2 := BlkV.cell kR 2 rfl
  have rz2 := BlkV.frozen kR 2
  have ltR1 := BlkV.lt kR
  have hfB : Fwd w1 (w1.alloc (.cells #[.bool s, .bool false, .int .u64 ((0 : Nat) : Int), .int .u64 b, .int .i64 ((k : Int))] 65)) := (Fwd.refl _).alloc _
  replace kR := kR.fwd hfB
  replace hF := hF.trans hfB
  clear hfB
  have kV := BlkV.made w1 65 [.bool s, .bool false, .int .u64 ((0 : Nat) : Int), .int .u64 b, .int .i64 ((k : Int))]
  go_upto_region 4 with fail
  clear rc0 rz0 rc1 rz1 rc2 rz2
  generalize (w1.alloc (.cells #[.bool s, .bool false, .int .u64 ((0 : Nat) : Int), .int .u64 b, .int .i64 ((k : Int))] 65)) = w2 at kV kR hF ⊢
  have rc0 := BlkV.cell kR 0 rfl
  have rz0 := BlkV.frozen kR 0
  have rc1 := BlkV.cell kR 1 rfl
  have rz1 := BlkV.frozen kR 1
  have rc2 := BlkV.cell kR 2 rfl
  have rz2 := BlkV.frozen kR 2
  have vc0 := BlkV.cell kV 0 rfl
  have vz0 := BlkV.frozen kV 0
  have vc1 := BlkV.cell kV 1 rfl
  have vz1 := BlkV.frozen kV 1
  have vc2 := BlkV.cell kV 2 rfl
  have vz2 := BlkV.frozen kV 2
  have vc3 := BlkV.cell kV 3 rfl
  have vz3 := BlkV.frozen kV 3
  have vc4 := BlkV.cell kV 4 rfl
  have vz4 := BlkV.frozen kV 4
  replace kR := kR.drew
  replace kV := kV.drew
  replace hF := hF.drew
  clear rc0 rz0 rc1 rz1 rc2 rz2
  clear vc0 vz0 vc1 vz1 vc2 vz2 vc3 vz3 vc4 vz4
  have rc0 := BlkV.cell kR 0 rfl
  have rz0 := BlkV.frozen kR 0
  have rc1 := BlkV.cell kR 1 rfl
  have rz1 := BlkV.frozen kR 1
  have rc2 := BlkV.cell kR 2 rfl
  have rz2 := BlkV.frozen kR 2
  have vc0 := BlkV.cell kV 0 rfl
  have vz0 := BlkV.frozen kV 0
  have vc1 := BlkV.cell kV 1 rfl
  have vz1 := BlkV.frozen kV 1
  have vc2 := BlkV.cell kV 2 rfl
  have vz2 := BlkV.frozen kV 2
  have vc3 := BlkV.cell kV 3 rfl
  have vz3 := BlkV.frozen kV 3
  have vc4 := BlkV.cell kV 4 rfl
  have vz4 := BlkV.frozen kV 4
  refine wp_region_held_drew (S := fun w' => w'.cell? ⟨w1.heap.size, 0, none⟩ = some (.bool s) ∧ w'.cell? ⟨w1.heap.size, 1, none⟩ = some (.bool false) ∧ w'.cell? ⟨w1.heap.size, 2, none⟩ = some (.int .u64 ((0 : Nat) : Int)) ∧ w'.cell? ⟨w1.heap.size, 3, none⟩ = some (.int .u64 b) ∧ w'.cell? ⟨w1.heap.size, 4, none⟩ = some (.int .i64 ((k : Int)))) (by kernel_rfl) ⟨by with_reducible assumption, by with_reducible assumption, by with_reducible assumption, by with_reducible assumption, by with_reducible assumption⟩ (fun hHeld => ?_)
  refine wpAnyH_take (i := 0) (oi := ?oi13_0) (v := ?vv13_0) ?hi13_0 (by kernel_rfl) (by kernel_rfl) (by kernel_rfl) ?hq13_0 ?hy13_0 hHeld ?rest13_0
  case hi13_0 => (simp only [List.getElem?_toArray, List.getElem?_cons_succ, List.getElem?_cons_zero]; rfl)
  case hq13_0 => exact fun _ _ _ h => h
  case hy13_0 =>
    refine Or.inl ⟨by rfl, ?_⟩
    intro wS hSw
    try dsimp only at hSw
    obtain ⟨q0, q1, q2, q3, q4⟩ := hSw
    go_simp
    try with_reducible rfl
  simp only [Act.put, List.setIfInBounds_toArray, List.set_cons_zero, List.set_cons_succ]
  refine wpAnyH_take (i := 1) (oi := ?oi14_1) (v := ?vv14_1) ?hi14_1 (by kernel_rfl) (by kernel_rfl) (by kernel_rfl) ?hq14_1 ?hy14_1 hHeld ?rest14_1
  case hi14_1 => (simp only [List.getElem?_toArray, List.getElem?_cons_succ, List.getElem?_cons_zero]; rfl)
  case hq14_1 => exact fun _ _ _ h => h
  case hy14_1 =>
    refine Or.inl ⟨by rfl, ?_⟩
    intro wS hSw
    try dsimp only at hSw
    obtain ⟨q0, q1, q2, q3, q4⟩ := hSw
    go_simp
    try with_reducible rfl
  simp only [Act.put, List.setIfInBounds_toArray, List.set_cons_zero, List.set_cons_succ]
  refine wpAnyH_take (i := 2) (oi := ?oi15_2) (v := ?vv15_2) ?hi15_2 (by kernel_rfl) (by kernel_rfl) (by kernel_rfl) ?hq15_2 ?hy15_2 hHeld ?rest15_2
  case hi15_2 => (simp only [List.getElem?_toArray, List.getElem?_cons_succ, List.getElem?_cons_zero]; rfl)
  case hq15_2 => exact fun _ _ _ h => h
  case hy15_2 =>
    refine Or.inl ⟨by rfl, ?_⟩
    intro wS hSw
    try dsimp only at hSw
    obtain ⟨q0, q1, q2, q3, q4⟩ := hSw
    go_simp
    try with_reducible rfl
  simp only [Act.put, List.setIfInBounds_toArray, List.set_cons_zero, List.set_cons_succ]
  refine wpAnyH_take (i := 4) (oi := ?oi16_4) (v := ?vv16_4) ?hi16_4 (by kernel_rfl) (by kernel_rfl) (by kernel_rfl) ?hq16_4 ?hy16_4 hHeld ?rest16_4
  case hi16_4 => (simp only [List.getElem?_toArray, List.getElem?_cons_succ, List.getElem?_cons_zero]; rfl)
  case hq16_4 => exact fun _ _ _ h => h
  case hy16_4 =>
    refine Or.inl ⟨by rfl, ?_⟩
    intro wS hSw
    try dsimp only at hSw
    obtain ⟨q0, q1, q2, q3, q4⟩ := hSw
    go_simp
    try with_reducible rfl
  simp only [Act.put, List.setIfInBounds_toArray, List.set_cons_zero, List.set_cons_succ]
  refine wpAnyH_take (i := 5) (oi := ?oi17_5) (v := ?vv17_5) ?hi17_5 (by kernel_rfl) (by kernel_rfl) (by kernel_rfl) ?hq17_5 ?hy17_5 hHeld ?rest17_5
  case hi17_5 => (simp only [List.getElem?_toArray, List.getElem?_cons_succ, List.getElem?_cons_zero]; rfl)
  case hq17_5 => exact fun _ _ _ h => h
  case hy17_5 =>
    refine Or.inl ⟨by rfl, ?_⟩
    intro wS hSw
    try dsimp only at hSw
    obtain ⟨q0, q1, q2, q3, q4⟩ := hSw
    go_simp
    try with_reducible rfl
  simp only [Act.put, List.setIfInBounds_toArray, List.set_cons_zero, List.set_cons_succ]
  refine wpAnyH_take (i := 6) (oi := ?oi18_6) (v := ?vv18_6) ?hi18_6 (by kernel_rfl) (by kernel_rfl) (by kernel_rfl) ?hq18_6 ?hy18_6 hHeld ?rest18_6
  case hi18_6 => (simp only [List.getElem?_toArray, List.getElem?_cons_succ, List.getElem?_cons_zero]; rfl)
  case hq18_6 => exact fun _ _ _ h => h
  case hy18_6 =>
    refine Or.inl ⟨by rfl, ?_⟩
    intro wS hSw
    try dsimp only at hSw
    obtain ⟨q0, q1, q2, q3, q4⟩ := hSw
    go_simp
    try with_reducible rfl
  simp only [Act.put, List.setIfInBounds_toArray, List.set_cons_zero, List.set_cons_succ]
  refine wpAnyH_ready (rs := [3]) (by kernel_rfl) (by simp) ?_
  refine AllReadyH.cons rfl (fun K hK => ?_) AllReadyH.nil
  go_simp
  refine (cOf _).mono ?_
  rintro e w21 ⟨xa, rfl, ha, hf21⟩
  have _ := hF
  replace kR := kR.fwd hf21
  replace kV := kV.fwd hf21
  replace hF := hF.trans hf21
  clear hf21
  clear rc0 rz0 rc1 rz1 rc2 rz2
  clear vc0 vz0 vc1 vz1 vc2 vz2 vc3 vz3 vc4 vz4
  have rc0 := BlkV.cell kR 0 rfl
  have rz0 := BlkV.frozen kR 0
  have rc1 := BlkV.cell kR 1 rfl
  have rz1 := BlkV.frozen kR 1
  have rc2 := BlkV.cell kR 2 rfl
  have rz2 := BlkV.frozen kR 2
  have vc0 := BlkV.cell kV 0 rfl
  have vz0 := BlkV.frozen kV 0
  have vc1 := BlkV.cell kV 1 rfl
  have vz1 := BlkV.frozen kV 1
  have vc2 := BlkV.cell kV 2 rfl
  have vz2 := BlkV.frozen kV 2
  have vc3 := BlkV.cell kV 3 rfl
  have vz3 := BlkV.frozen kV 3
  have vc4 := BlkV.cell kV 4 rfl
  have vz4 := BlkV.frozen kV 4
  go_wp2_with fail
  clear hHeld
  refine hK.out _ _ ⟨by with_reducible assumption, by with_reducible assumption, by with_reducible assumption, by with_reducible assumption, by with_reducible assumption⟩ (fun hHeld => ?_)
  clear hK K
  try simp only [Act.put, List.setIfInBounds_toArray, List.set_cons_zero, List.set_cons_succ]
  refine wpAnyH_ready (rs := [7]) (by kernel_rfl) (by simp) ?_
  refine AllReadyH.cons rfl (fun K hK => ?_) AllReadyH.nil
  go_simp
  refine (sA _ xa ha).mono ?_
  rintro e w22 ⟨xA, rfl, hA, hf22⟩
  replace ha := ha.fwd hf22
  replace kR := kR.fwd hf22
  replace kV := kV.fwd hf22
  replace hF := hF.trans hf22
  clear hf22
  clear rc0 rz0 rc1 rz1 rc2 rz2
  clear vc0 vz0 vc1 vz1 vc2 vz2 vc3 vz3 vc4 vz4
  have rc0 := BlkV.cell kR 0 rfl
  have rz0 := BlkV.frozen kR 0
  have rc1 := BlkV.cell kR 1 rfl
  have rz1 := BlkV.frozen kR 1
  have rc2 := BlkV.cell kR 2 rfl
  have rz2 := BlkV.frozen kR 2
  have vc0 := BlkV.cell kV 0 rfl
  have vz0 := BlkV.frozen kV 0
  have vc1 := BlkV.cell kV 1 rfl
  have vz1 := BlkV.frozen kV 1
  have vc2 := BlkV.cell kV 2 rfl
  have vz2 := BlkV.frozen kV 2
  have vc3 := BlkV.cell kV 3 rfl
  have vz3 := BlkV.frozen kV 3
  have vc4 := BlkV.cell kV 4 rfl
  have vz4 := BlkV.frozen kV 4
  go_wp2_with fail
  clear hHeld
  refine hK.out _ _ ⟨by with_reducible assumption, by with_reducible assumption, by with_reducible assumption, by with_reducible assumption, by with_reducible assumption⟩ (fun hHeld => ?_)
  clear hK K
  try simp only [Act.put, List.setIfInBounds_toArray, List.set_cons_zero, List.set_cons_succ]
  refine wpAnyH_take (i := 8) (oi := ?oi19_8) (v := ?vv19_8) ?hi19_8 (by kernel_rfl) (by kernel_rfl) (by kernel_rfl) ?hq19_8 ?hy19_8 hHeld ?rest19_8
  case hi19_8 => (simp only [List.getElem?_toArray, List.getElem?_cons_succ, List.getElem?_cons_zero]; rfl)
  case hq19_8 => exact fun _ _ _ h => h
  case hy19_8 =>
    refine Or.inl ⟨by rfl, ?_⟩
    intro wS hSw
    try dsimp only at hSw
    obtain ⟨q0, q1, q2, q3, q4⟩ := hSw
    go_simp
    try with_reducible rfl
  simp only [Act.put, List.setIfInBounds_toArray, List.set_cons_zero, List.set_cons_succ]
  refine wpAnyH_done (by kernel_rfl) ?_ _
  go_wp2_with fail
  replace hA := hA.drew
  replace kR := kR.drew
  replace kV := kV.drew
  replace hF := hF.drew
  clear rc0 rz0 rc1 rz1 rc2 rz2
  clear vc0 vz0 vc1 vz1 vc2 vz2 vc3 vz3 vc4 vz4
  have rc0 := BlkV.cell kR 0 rfl
  have rz0 := BlkV.frozen kR 0
  have rc1 := BlkV.cell kR 1 rfl
  have rz1 := BlkV.frozen kR 1
  have rc2 := BlkV.cell kR 2 rfl
  have rz2 := BlkV.frozen kR 2
  have vc0 := BlkV.cell kV 0 rfl
  have vz0 := BlkV.frozen kV 0
  have vc1 := BlkV.cell kV 1 rfl
  have vz1 := BlkV.frozen kV 1
  have vc2 := BlkV.cell kV 2 rfl
  have vz2 := BlkV.frozen kV 2
  have vc3 := BlkV.cell kV 3 rfl
  have vz3 := BlkV.frozen kV 3
  have vc4 := BlkV.cell kV 4 rfl
  have vz4 := BlkV.frozen kV 4
  refine wp_region_held_drew (S := fun w' => w'.cell? ⟨w1.heap.size, 0, none⟩ = some (.bool s) ∧ w'.cell? ⟨w1.heap.size, 1, none⟩ = some (.bool false) ∧ w'.cell? ⟨w1.heap.size, 2, none⟩ = some (.int .u64 ((0 : Nat) : Int)) ∧ w'.cell? ⟨w1.heap.size, 3, none⟩ = some (.int .u64 b) ∧ w'.cell? ⟨w1.heap.size, 4, none⟩ = some (.int .i64 ((k : Int)))) (by kernel_rfl) ⟨by with_reducible assumption, by with_reducible assumption, by with_reducible assumption, by with_reducible assumption, by with_reducible assumption⟩ (fun hHeld => ?_)
  refine wpAnyH_take (i := 1) (oi := ?oi20_1) (v := ?vv20_1) ?hi20_1 (by kernel_rfl) (by kernel_rfl) (by kernel_rfl) ?hq20_1 ?hy20_1 hHeld ?rest20_1
  case hi20_1 => (simp only [List.getElem?_toArray, List.getElem?_cons_succ, List.getElem?_cons_zero]; rfl)
  case hq20_1 => exact fun _ _ _ h => h
  case hy20_1 =>
    refine Or.inl ⟨by rfl, ?_⟩
    intro wS hSw
    try dsimp only at hSw
    obtain ⟨q0, q1, q2, q3, q4⟩ := hSw
    go_simp
    try with_reducible rfl
  simp only [Act.put, List.setIfInBounds_toArray, List.set_cons_zero, List.set_cons_succ]
  refine wpAnyH_take (i := 2) (oi := ?oi21_2) (v := ?vv21_2) ?hi21_2 (by kernel_rfl) (by kernel_rfl) (by kernel_rfl) ?hq21_2 ?hy21_2 hHeld ?rest21_2
  case hi21_2 => (simp only [List.getElem?_toArray, List.getElem?_cons_succ, List.getElem?_cons_zero]; rfl)
  case hq21_2 => exact fun _ _ _ h => h
  case hy21_2 =>
    refine Or.inl ⟨by rfl, ?_⟩
    intro wS hSw
    try dsimp only at hSw
    obtain ⟨q0, q1, q2, q3, q4⟩ := hSw
    go_simp
    try with_reducible rfl
  simp only [Act.put, List.setIfInBounds_toArray, List.set_cons_zero, List.set_cons_succ]
  refine wpAnyH_take (i := 3) (oi := ?oi22_3) (v := ?vv22_3) ?hi22_3 (by kernel_rfl) (by kernel_rfl) (by kernel_rfl) ?hq22_3 ?hy22_3 hHeld ?rest22_3
  case hi22_3 => (simp only [List.getElem?_toArray, List.getElem?_cons_succ, List.getElem?_cons_zero]; rfl)
  case hq22_3 => exact fun _ _ _ h => h
  case hy22_3 =>
    refine Or.inl ⟨by rfl, ?_⟩
    intro wS hSw
    try dsimp only at hSw
    obtain ⟨q0, q1, q2, q3, q4⟩ := hSw
    go_simp
    try with_reducible rfl
  simp only [Act.put, List.setIfInBounds_toArray, List.set_cons_zero, List.set_cons_succ]
  refine wpAnyH_take (i := 4) (oi := ?oi23_4) (v := ?vv23_4) ?hi23_4 (by kernel_rfl) (by kernel_rfl) (by kernel_rfl) ?hq23_4 ?hy23_4 hHeld ?rest23_4
  case hi23_4 => (simp only [List.getElem?_toArray, List.getElem?_cons_succ, List.getElem?_cons_zero]; rfl)
  case hq23_4 => exact fun _ _ _ h => h
  case hy23_4 =>
    refine Or.inl ⟨by rfl, ?_⟩
    intro wS hSw
    try dsimp only at hSw
    obtain ⟨q0, q1, q2, q3, q4⟩ := hSw
    go_simp
    try with_reducible rfl
  simp only [Act.put, List.setIfInBounds_toArray, List.set_cons_zero, List.set_cons_succ]
  refine wpAnyH_ready (rs := [0]) (by kernel_rfl) (by simp) ?_
  refine AllReadyH.cons rfl (fun K hK => ?_) AllReadyH.nil
  go_simp
  refine (cOne _).mono ?_
  rintro e w23 ⟨xb, rfl, hb, hf23⟩
  replace hA := hA.fwd hf23
  replace kR := kR.fwd hf23
  replace kV := kV.fwd hf23
  replace hF := hF.trans hf23
  clear hf23
  clear rc0 rz0 rc1 rz1 rc2 rz2
  clear vc0 vz0 vc1 vz1 vc2 vz2 vc3 vz3 vc4 vz4
  have rc0 := BlkV.cell kR 0 rfl
  have rz0 := BlkV.frozen kR 0
  have rc1 := BlkV.cell kR 1 rfl
  have rz1 := BlkV.frozen kR 1
  have rc2 := BlkV.cell kR 2 rfl
  have rz2 := BlkV.frozen kR 2
  have vc0 := BlkV.cell kV 0 rfl
  have vz0 := BlkV.frozen kV 0
  have vc1 := BlkV.cell kV 1 rfl
  have vz1 := BlkV.frozen kV 1
  have vc2 := BlkV.cell kV 2 rfl
  have vz2 := BlkV.frozen kV 2
  have vc3 := BlkV.cell kV 3 rfl
  have vz3 := BlkV.frozen kV 3
  have vc4 := BlkV.cell kV 4 rfl
  have vz4 := BlkV.frozen kV 4
  go_wp2_with fail
  clear hHeld
  refine hK.out _ _ ⟨by with_reducible assumption, by with_reducible assumption, by with_reducible assumption, by with_reducible assumption, by with_reducible assumption⟩ (fun hHeld => ?_)
  clear hK K
  try simp only [Act.put, List.setIfInBounds_toArray, List.set_cons_zero, List.set_cons_succ]
  refine wpAnyH_ready (rs := [5]) (by kernel_rfl) (by simp) ?_
  refine AllReadyH.cons rfl (fun K hK => ?_) AllReadyH.nil
  go_simp
  refine (sB _ xb hb).mono ?_
  rintro e w24 ⟨xB, rfl, hB, hf24⟩
  replace hA := hA.fwd hf24
  replace kR := kR.fwd hf24
  replace kV := kV.fwd hf24
  replace hF := hF.trans hf24
  clear hf24
  clear rc0 rz0 rc1 rz1 rc2 rz2
  clear vc0 vz0 vc1 vz1 vc2 vz2 vc3 vz3 vc4 vz4
  have rc0 := BlkV.cell kR 0 rfl
  have rz0 := BlkV.frozen kR 0
  have rc1 := BlkV.cell kR 1 rfl
  have rz1 := BlkV.frozen kR 1
  have rc2 := BlkV.cell kR 2 rfl
  have rz2 := BlkV.frozen kR 2
  have vc0 := BlkV.cell kV 0 rfl
  have vz0 := BlkV.frozen kV 0
  have vc1 := BlkV.cell kV 1 rfl
  have vz1 := BlkV.frozen kV 1
  have vc2 := BlkV.cell kV 2 rfl
  have vz2 := BlkV.frozen kV 2
  have vc3 := BlkV.cell kV 3 rfl
  have vz3 := BlkV.frozen kV 3
  have vc4 := BlkV.cell kV 4 rfl
  have vz4 := BlkV.frozen kV 4
  go_wp2_with fail
  clear hHeld
  refine hK.out _ _ ⟨by with_reducible assumption, by with_reducible assumption, by with_reducible assumption, by with_reducible assumption, by with_reducible assumption⟩ (fun hHeld => ?_)
  clear hK K
  try simp only [Act.put, List.setIfInBounds_toArray, List.set_cons_zero, List.set_cons_succ]
  refine wpAnyH_take (i := 6) (oi := ?oi24_6) (v := ?vv24_6) ?hi24_6 (by kernel_rfl) (by kernel_rfl) (by kernel_rfl) ?hq24_6 ?hy24_6 hHeld ?rest24_6
  case hi24_6 => (simp only [List.getElem?_toArray, List.getElem?_cons_succ, List.getElem?_cons_zero]; rfl)
  case hq24_6 => exact fun _ _ _ h => h
  case hy24_6 =>
    refine Or.inl ⟨by rfl, ?_⟩
    intro wS hSw
    try dsimp only at hSw
    obtain ⟨q0, q1, q2, q3, q4⟩ := hSw
    go_simp
    try with_reducible rfl
  simp only [Act.put, List.setIfInBounds_toArray, List.set_cons_zero, List.set_cons_succ]
  refine wpAnyH_done (by kernel_rfl) ?_ _
  go_wp2_with fail
  refine (rmake_any s hA hB (by omega) (by omega) hB0).mono ?_
  rintro e w25 ⟨xr, rfl, hv, hf25⟩
  obtain ⟨po, pc, qo, qc, rfl, p1, p2, p3, p4, -, -⟩ := RW.open hv
  replace kR := kR.fwd hf25
  replace kV := kV.fwd hf25
  replace hF := hF.trans hf25
  clear hf25
  clear rc0 rz0 rc1 rz1 rc2 rz2
  clear vc0 vz0 vc1 vz1 vc2 vz2 vc3 vz3 vc4 vz4
  have rc0 := BlkV.cell kR 0 rfl
  have rz0 := BlkV.frozen kR 0
  have rc1 := BlkV.cell kR 1 rfl
  have rz1 := BlkV.frozen kR 1
  have rc2 := BlkV.cell kR 2 rfl
  have rz2 := BlkV.frozen kR 2
  have vc0 := BlkV.cell kV 0 rfl
  have vz0 := BlkV.frozen kV 0
  have vc1 := BlkV.cell kV 1 rfl
  have vz1 := BlkV.frozen kV 1
  have vc2 := BlkV.cell kV 2 rfl
  have vz2 := BlkV.frozen kV 2
  have vc3 := BlkV.cell kV 3 rfl
  have vz3 := BlkV.frozen kV 3
  have vc4 := BlkV.cell kV 4 rfl
  have vz4 := BlkV.frozen kV 4
  generalize hQ : mkQ s A B = Q at *
  have HQ := hid hQ
  clear hQ ha hb hA hB cOf cOne sA sB
  have HV := hid hv
  clear hv
  go_wp2
  have r0 := BlkV.set kR 0 (.bool (negQ Q))
  have rs0 := BlkV.cell r0 0 rfl
  have r1 := BlkV.set r0 1 (.slice po (nl Q.num.natAbs) pc)
  have rs1 := BlkV.cell r1 1 rfl
  have r2 := BlkV.set r1 2 (.slice qo (nl Q.den) qc)
  have rs2 := BlkV.cell r2 2 rfl
  have hon := ((Only.set (w.heap.size) w25 0 (.bool (negQ Q))).setv 1 (.slice po (nl Q.num.natAbs) pc)).setv 2 (.slice qo (nl Q.den) qc)
  refine bodyPost_ret (by simp [results, Tryz.results15, go_sem, rs0, rs1, rs2]; try rfl) rfl ?_
  exact ⟨_, rfl, (by rw [HQ.out]; exact HV.out.keepV kR (by simp) hon), hF.wrote hon (by omega)⟩

set_option maxHeartbeats 8000000 in
set_option maxRecDepth 100000 in
theorem rat3_down {w : World} (f : Nat) (hf : f < 18446744073709551616) (hi : fsz f < 9218868437227405312) {k : Nat} (hk1 : 0 < k) (hk : vex f = -(k : Int)) :
    Calls Tryz.prog 15 #[.int .u64 f] w fun e w' => ∃ v, e = .returned (.tuple #[v, .int .i64 0]) ∧ RV w' v (mkQ (fneg f) (ratA f) (ratB f)) ∧ Fwd w w' := by
  have h1 := andNot_sign f hf
  have i1 : decide ((9218868437227405312 : Int) ≤ (fsz f : Int)) = false := decide_eq_false (by omega)
  have hne : ¬ fsz f = 9218868437227405312 := by omega
  have cv : ∀ (w : World), Calls Tryz.prog 42 #[.int .u64 f] w fun e w' => ∃ v, e = .returned v ∧ Fwd w w' ∧ VV v (fneg f) false (vsz f) (vex f) := fun w => (valueOf_any (w := w) f hf).mono (fun e w' h => by obtain ⟨v, h1, h2, h3⟩ := h; rw [if_neg hne] at h3; exact ⟨v, h1, h2, h3⟩)
  clear hne
  have hv := vsz_lt f
  have hB0 := ratB_pos f
  have x1 := vex_ge f
  have x2 := vex_le hi
  have eA : ratA f = vsz f * 2 ^ 0 := by unfold ratA; rw [hk, show (-(k : Int)).toNat = 0 by omega]
  have eB : ratB f = 1 * 2 ^ k := by unfold ratB; rw [hk, show (- -(k : Int)).toNat = k by omega]
  have kk : k ≤ 2000 := by omega
  have n1 : nl (ratA f) ≤ 1000 := by rw [eA]; have := nl_shl (vsz f) 0; have : nl (vsz f) ≤ 2 := nl_two hv; omega
  have n2 : nl (ratB f) ≤ 1000 := by rw [eB]; have := nl_shl 1 k; have : nl 1 ≤ 2 := nl_two (by decide); omega
  have cOf := fun (w : World) => of_any w (vsz f) (by omega)
  have cOne : ∀ (w : World), Calls Tryz.prog 44 #[.int .u64 1] w fun e w' => ∃ v, e = .returned v ∧ Num w' v 1 ∧ Fwd w w' := fun w => of_any w 1 (by omega)
  have sA : ∀ (w : World) (v : Value), Num w v (vsz f) → Calls Tryz.prog 43 #[v, .int .i64 0] w fun e w' => ∃ x, e = .returned x ∧ Num w' x (ratA f) ∧ Fwd w w' := fun w v h => by rw [eA]; exact shl_any 0 h (by have := nl_two hv; omega) (by omega)
  have sB : ∀ (w : World) (v : Value), Num w v 1 → Calls Tryz.prog 43 #[v, .int .i64 k] w fun e w' => ∃ x, e = .returned x ∧ Num w' x (ratB f) ∧ Fwd w w' := fun w v h => by rw [eB]; exact shl_any k h (by have := nl_two (n := 1) (by decide); omega) (by omega)
  clear eA eB x1 x2
  have m1 : (0 : Int) < (k : Int) := by omega
  have m2 : -(k : Int) < 0 := by omega
  have m3 : ¬ (k : Int) < 0 := by omega
  have m7 : ¬ (0 : Int) < -(k : Int) := by omega
  have m8 : IntKind.i64.wrap (k : Int) = (k : Int) := by simp [IntKind.wrap, IntKind.bits, IntKind.signed]; omega
  rw [hk] at cv
  clear hk
  obtain ⟨n, hn⟩ : ∃ n, n = vsz f := ⟨_, rfl⟩
  obtain ⟨A, hA⟩ : ∃ A, A = ratA f := ⟨_, rfl⟩
  obtain ⟨B, hB⟩ : ∃ B, B = ratB f := ⟨_, rfl⟩
  rw [← hn] at cv cOf sA hv
  rw [← hA] at sA n1
  rw [← hB] at sB n2 hB0
  rw [← hA, ← hB]
  clear hn hA hB
  generalize fneg f = s at *
  generalize fsz f = z at *
  have kR : BlkV (w.alloc (.cells #[.bool false, .slice none 0 0, .slice none 0 0] 24)) (w.heap.size) 24 [.bool false, .slice none 0 0, .slice none 0 0] := BlkV.made' w (w.heap.size) (by simp) 24 [.bool false, .slice none 0 0, .slice none 0 0]
  have hF : Fwd w (w.alloc (.cells #[.bool false, .slice none 0 0, .slice none 0 0] 24)) := (Fwd.refl w).alloc _
  go_enter Tryz.func15, Tryz.ntmps15
  have rc0 := BlkV.cell kR 0 rfl
  have rz0 := BlkV.frozen kR 0
  have rc1 := BlkV.cell kR 1 rfl
  have rz1 := BlkV.frozen kR 1
  have rc2 := BlkV.cell kR 2 rfl
  have rz2 := BlkV.frozen kR 2
  go_wp2_with fail
  refine (cv _).mono ?_
  rintro e w1 ⟨v, rfl, hf1, a, b, rfl, a1, b1, hab⟩
  obtain rfl : a = 0 := by omega
  obtain rfl : b = n := by omega
  clear cv hab a1 b1
  replace kR := kR.fwd hf1
  replace hF := hF.trans hf1
  clear hf1
  clear rc0 rz0 rc1 rz1 rc2 rz2
  have rc0 := BlkV.cell kR 0 rfl
  have rz0 := BlkV.frozen kR 0
  have rc1 := BlkV.cell kR 1 rfl
  have rz1 := BlkV.frozen kR 1
  have rc2 := BlkV.cell kR 2 rfl
  have rz2 := BlkV.frozen kR 2
  have ltR1 := BlkV.lt kR
  have hfB : Fwd w1 (w1.alloc (.cells #[.bool s, .bool false, .int .u64 ((0 : Nat) : Int), .int .u64 b, .int .i64 (-(k : Int))] 65)) := (Fwd.refl _).alloc _
  replace kR := kR.fwd hfB
  replace hF := hF.trans hfB
  clear hfB
  have kV := BlkV.made w1 65 [.bool s, .bool false, .int .u64 ((0 : Nat) : Int), .int .u64 b, .int .i64 (-(k : Int))]
  go_upto_region 4 with fail
  clear rc0 rz0 rc1 rz1 rc2 rz2
  generalize (w1.alloc (.cells #[.bool s, .bool false, .int .u64 ((0 : Nat) : Int), .int .u64 b, .int .i64 (-(k : Int))] 65)) = w2 at kV kR hF ⊢
  have rc0 := BlkV.cell kR 0 rfl
  have rz0 := BlkV.frozen kR 0
  have rc1 := BlkV.cell kR 1 rfl
  have rz1 := BlkV.frozen kR 1
  have rc2 := BlkV.cell kR 2 rfl
  have rz2 := BlkV.frozen kR 2
  have vc0 := BlkV.cell kV 0 rfl
  have vz0 := BlkV.frozen kV 0
  have vc1 := BlkV.cell kV 1 rfl
  have vz1 := BlkV.frozen kV 1
  have vc2 := BlkV.cell kV 2 rfl
  have vz2 := BlkV.frozen kV 2
  have vc3 := BlkV.cell kV 3 rfl
  have vz3 := BlkV.frozen kV 3
  have vc4 := BlkV.cell kV 4 rfl
  have vz4 := BlkV.frozen kV 4
  replace kR := kR.drew
  replace kV := kV.drew
  replace hF := hF.drew
  clear rc0 rz0 rc1 rz1 rc2 rz2
  clear vc0 vz0 vc1 vz1 vc2 vz2 vc3 vz3 vc4 vz4
  have rc0 := BlkV.cell kR 0 rfl
  have rz0 := BlkV.frozen kR 0
  have rc1 := BlkV.cell kR 1 rfl
  have rz1 := BlkV.frozen kR 1
  have rc2 := BlkV.cell kR 2 rfl
  have rz2 := BlkV.frozen kR 2
  have vc0 := BlkV.cell kV 0 rfl
  have vz0 := BlkV.frozen kV 0
  have vc1 := BlkV.cell kV 1 rfl
  have vz1 := BlkV.frozen kV 1
  have vc2 := BlkV.cell kV 2 rfl
  have vz2 := BlkV.frozen kV 2
  have vc3 := BlkV.cell kV 3 rfl
  have vz3 := BlkV.frozen kV 3
  have vc4 := BlkV.cell kV 4 rfl
  have vz4 := BlkV.frozen kV 4
  refine wp_region_held_drew (S := fun w' => w'.cell? ⟨w1.heap.size, 0, none⟩ = some (.bool s) ∧ w'.cell? ⟨w1.heap.size, 1, none⟩ = some (.bool false) ∧ w'.cell? ⟨w1.heap.size, 2, none⟩ = some (.int .u64 ((0 : Nat) : Int)) ∧ w'.cell? ⟨w1.heap.size, 3, none⟩ = some (.int .u64 b) ∧ w'.cell? ⟨w1.heap.size, 4, none⟩ = some (.int .i64 (-(k : Int)))) (by kernel_rfl) ⟨by with_reducible assumption, by with_reducible assumption, by with_reducible assumption, by with_reducible assumption, by with_reducible assumption⟩ (fun hHeld => ?_)
  refine wpAnyH_take (i := 0) (oi := ?oi25_0) (v := ?vv25_0) ?hi25_0 (by kernel_rfl) (by kernel_rfl) (by kernel_rfl) ?hq25_0 ?hy25_0 hHeld ?rest25_0
  case hi25_0 => (simp only [List.getElem?_toArray, List.getElem?_cons_succ, List.getElem?_cons_zero]; rfl)
  case hq25_0 => exact fun _ _ _ h => h
  case hy25_0 =>
    refine Or.inl ⟨by rfl, ?_⟩
    intro wS hSw
    try dsimp only at hSw
    obtain ⟨q0, q1, q2, q3, q4⟩ := hSw
    go_simp
    try with_reducible rfl
  simp only [Act.put, List.setIfInBounds_toArray, List.set_cons_zero, List.set_cons_succ]
  refine wpAnyH_take (i := 1) (oi := ?oi26_1) (v := ?vv26_1) ?hi26_1 (by kernel_rfl) (by kernel_rfl) (by kernel_rfl) ?hq26_1 ?hy26_1 hHeld ?rest26_1
  case hi26_1 => (simp only [List.getElem?_toArray, List.getElem?_cons_succ, List.getElem?_cons_zero]; rfl)
  case hq26_1 => exact fun _ _ _ h => h
  case hy26_1 =>
    refine Or.inl ⟨by rfl, ?_⟩
    intro wS hSw
    try dsimp only at hSw
    obtain ⟨q0, q1, q2, q3, q4⟩ := hSw
    go_simp
    try with_reducible rfl
  simp only [Act.put, List.setIfInBounds_toArray, List.set_cons_zero, List.set_cons_succ]
  refine wpAnyH_take (i := 2) (oi := ?oi27_2) (v := ?vv27_2) ?hi27_2 (by kernel_rfl) (by kernel_rfl) (by kernel_rfl) ?hq27_2 ?hy27_2 hHeld ?rest27_2
  case hi27_2 => (simp only [List.getElem?_toArray, List.getElem?_cons_succ, List.getElem?_cons_zero]; rfl)
  case hq27_2 => exact fun _ _ _ h => h
  case hy27_2 =>
    refine Or.inl ⟨by rfl, ?_⟩
    intro wS hSw
    try dsimp only at hSw
    obtain ⟨q0, q1, q2, q3, q4⟩ := hSw
    go_simp
    try with_reducible rfl
  simp only [Act.put, List.setIfInBounds_toArray, List.set_cons_zero, List.set_cons_succ]
  refine wpAnyH_take (i := 4) (oi := ?oi28_4) (v := ?vv28_4) ?hi28_4 (by kernel_rfl) (by kernel_rfl) (by kernel_rfl) ?hq28_4 ?hy28_4 hHeld ?rest28_4
  case hi28_4 => (simp only [List.getElem?_toArray, List.getElem?_cons_succ, List.getElem?_cons_zero]; rfl)
  case hq28_4 => exact fun _ _ _ h => h
  case hy28_4 =>
    refine Or.inl ⟨by rfl, ?_⟩
    intro wS hSw
    try dsimp only at hSw
    obtain ⟨q0, q1, q2, q3, q4⟩ := hSw
    go_simp
    try with_reducible rfl
  simp only [Act.put, List.setIfInBounds_toArray, List.set_cons_zero, List.set_cons_succ]
  refine wpAnyH_take (i := 5) (oi := ?oi29_5) (v := ?vv29_5) ?hi29_5 (by kernel_rfl) (by kernel_rfl) (by kernel_rfl) ?hq29_5 ?hy29_5 hHeld ?rest29_5
  case hi29_5 => (simp only [List.getElem?_toArray, List.getElem?_cons_succ, List.getElem?_cons_zero]; rfl)
  case hq29_5 => exact fun _ _ _ h => h
  case hy29_5 =>
    refine Or.inl ⟨by rfl, ?_⟩
    intro wS hSw
    try dsimp only at hSw
    obtain ⟨q0, q1, q2, q3, q4⟩ := hSw
    go_simp
    try with_reducible rfl
  simp only [Act.put, List.setIfInBounds_toArray, List.set_cons_zero, List.set_cons_succ]
  refine wpAnyH_take (i := 6) (oi := ?oi30_6) (v := ?vv30_6) ?hi30_6 (by kernel_rfl) (by kernel_rfl) (by kernel_rfl) ?hq30_6 ?hy30_6 hHeld ?rest30_6
  case hi30_6 => (simp only [List.getElem?_toArray, List.getElem?_cons_succ, List.getElem?_cons_zero]; rfl)
  case hq30_6 => exact fun _ _ _ h => h
  case hy30_6 =>
    refine Or.inl ⟨by rfl, ?_⟩
    intro wS hSw
    try dsimp only at hSw
    obtain ⟨q0, q1, q2, q3, q4⟩ := hSw
    go_simp
    try with_reducible rfl
  simp only [Act.put, List.setIfInBounds_toArray, List.set_cons_zero, List.set_cons_succ]
  refine wpAnyH_ready (rs := [3]) (by kernel_rfl) (by simp) ?_
  refine AllReadyH.cons rfl (fun K hK => ?_) AllReadyH.nil
  go_simp
  refine (cOf _).mono ?_
  rintro e w21 ⟨xa, rfl, ha, hf21⟩
  have _ := hF
  replace kR := kR.fwd hf21
  replace kV := kV.fwd hf21
  replace hF := hF.trans hf21
  clear hf21
  clear rc0 rz0 rc1 rz1 rc2 rz2
  clear vc0 vz0 vc1 vz1 vc2 vz2 vc3 vz3 vc4 vz4
  have rc0 := BlkV.cell kR 0 rfl
  have rz0 := BlkV.frozen kR 0
  have rc1 := BlkV.cell kR 1 rfl
  have rz1 := BlkV.frozen kR 1
  have rc2 := BlkV.cell kR 2 rfl
  have rz2 := BlkV.frozen kR 2
  have vc0 := BlkV.cell kV 0 rfl
  have vz0 := BlkV.frozen kV 0
  have vc1 := BlkV.cell kV 1 rfl
  have vz1 := BlkV.frozen kV 1
  have vc2 := BlkV.cell kV 2 rfl
  have vz2 := BlkV.frozen kV 2
  have vc3 := BlkV.cell kV 3 rfl
  have vz3 := BlkV.frozen kV 3
  have vc4 := BlkV.cell kV 4 rfl
  have vz4 := BlkV.frozen kV 4
  go_wp2_with fail
  clear hHeld
  refine hK.out _ _ ⟨by with_reducible assumption, by with_reducible assumption, by with_reducible assumption, by with_reducible assumption, by with_reducible assumption⟩ (fun hHeld => ?_)
  clear hK K
  try simp only [Act.put, List.setIfInBounds_toArray, List.set_cons_zero, List.set_cons_succ]
  refine wpAnyH_ready (rs := [7]) (by kernel_rfl) (by simp) ?_
  refine AllReadyH.cons rfl (fun K hK => ?_) AllReadyH.nil
  go_simp
  refine (sA _ xa ha).mono ?_
  rintro e w22 ⟨xA, rfl, hA, hf22⟩
  replace ha := ha.fwd hf22
  replace kR := kR.fwd hf22
  replace kV := kV.fwd hf22
  replace hF := hF.trans hf22
  clear hf22
  clear rc0 rz0 rc1 rz1 rc2 rz2
  clear vc0 vz0 vc1 vz1 vc2 vz2 vc3 vz3 vc4 vz4
  have rc0 := BlkV.cell kR 0 rfl
  have rz0 := BlkV.frozen kR 0
  have rc1 := BlkV.cell kR 1 rfl
  have rz1 := BlkV.frozen kR 1
  have rc2 := BlkV.cell kR 2 rfl
  have rz2 := BlkV.frozen kR 2
  have vc0 := BlkV.cell kV 0 rfl
  have vz0 := BlkV.frozen kV 0
  have vc1 := BlkV.cell kV 1 rfl
  have vz1 := BlkV.frozen kV 1
  have vc2 := BlkV.cell kV 2 rfl
  have vz2 := BlkV.frozen kV 2
  have vc3 := BlkV.cell kV 3 rfl
  have vz3 := BlkV.frozen kV 3
  have vc4 := BlkV.cell kV 4 rfl
  have vz4 := BlkV.frozen kV 4
  go_wp2_with fail
  clear hHeld
  refine hK.out _ _ ⟨by with_reducible assumption, by with_reducible assumption, by with_reducible assumption, by with_reducible assumption, by with_reducible assumption⟩ (fun hHeld => ?_)
  clear hK K
  try simp only [Act.put, List.setIfInBounds_toArray, List.set_cons_zero, List.set_cons_succ]
  refine wpAnyH_take (i := 8) (oi := ?oi31_8) (v := ?vv31_8) ?hi31_8 (by kernel_rfl) (by kernel_rfl) (by kernel_rfl) ?hq31_8 ?hy31_8 hHeld ?rest31_8
  case hi31_8 => (simp only [List.getElem?_toArray, List.getElem?_cons_succ, List.getElem?_cons_zero]; rfl)
  case hq31_8 => exact fun _ _ _ h => h
  case hy31_8 =>
    refine Or.inl ⟨by rfl, ?_⟩
    intro wS hSw
    try dsimp only at hSw
    obtain ⟨q0, q1, q2, q3, q4⟩ := hSw
    go_simp
    try with_reducible rfl
  simp only [Act.put, List.setIfInBounds_toArray, List.set_cons_zero, List.set_cons_succ]
  refine wpAnyH_done (by kernel_rfl) ?_ _
  go_wp2_with fail
  replace hA := hA.drew
  replace kR := kR.drew
  replace kV := kV.drew
  replace hF := hF.drew
  clear rc0 rz0 rc1 rz1 rc2 rz2
  clear vc0 vz0 vc1 vz1 vc2 vz2 vc3 vz3 vc4 vz4
  have rc0 := BlkV.cell kR 0 rfl
  have rz0 := BlkV.frozen kR 0
  have rc1 := BlkV.cell kR 1 rfl
  have rz1 := BlkV.frozen kR 1
  have rc2 := BlkV.cell kR 2 rfl
  have rz2 := BlkV.frozen kR 2
  have vc0 := BlkV.cell kV 0 rfl
  have vz0 := BlkV.frozen kV 0
  have vc1 := BlkV.cell kV 1 rfl
  have vz1 := BlkV.frozen kV 1
  have vc2 := BlkV.cell kV 2 rfl
  have vz2 := BlkV.frozen kV 2
  have vc3 := BlkV.cell kV 3 rfl
  have vz3 := BlkV.frozen kV 3
  have vc4 := BlkV.cell kV 4 rfl
  have vz4 := BlkV.frozen kV 4
  refine wp_region_held_drew (S := fun w' => w'.cell? ⟨w1.heap.size, 0, none⟩ = some (.bool s) ∧ w'.cell? ⟨w1.heap.size, 1, none⟩ = some (.bool false) ∧ w'.cell? ⟨w1.heap.size, 2, none⟩ = some (.int .u64 ((0 : Nat) : Int)) ∧ w'.cell? ⟨w1.heap.size, 3, none⟩ = some (.int .u64 b) ∧ w'.cell? ⟨w1.heap.size, 4, none⟩ = some (.int .i64 (-(k : Int)))) (by kernel_rfl) ⟨by with_reducible assumption, by with_reducible assumption, by with_reducible assumption, by with_reducible assumption, by with_reducible assumption⟩ (fun hHeld => ?_)
  refine wpAnyH_take (i := 1) (oi := ?oi32_1) (v := ?vv32_1) ?hi32_1 (by kernel_rfl) (by kernel_rfl) (by kernel_rfl) ?hq32_1 ?hy32_1 hHeld ?rest32_1
  case hi32_1 => (simp only [List.getElem?_toArray, List.getElem?_cons_succ, List.getElem?_cons_zero]; rfl)
  case hq32_1 => exact fun _ _ _ h => h
  case hy32_1 =>
    refine Or.inl ⟨by rfl, ?_⟩
    intro wS hSw
    try dsimp only at hSw
    obtain ⟨q0, q1, q2, q3, q4⟩ := hSw
    go_simp
    try with_reducible rfl
  simp only [Act.put, List.setIfInBounds_toArray, List.set_cons_zero, List.set_cons_succ]
  refine wpAnyH_take (i := 2) (oi := ?oi33_2) (v := ?vv33_2) ?hi33_2 (by kernel_rfl) (by kernel_rfl) (by kernel_rfl) ?hq33_2 ?hy33_2 hHeld ?rest33_2
  case hi33_2 => (simp only [List.getElem?_toArray, List.getElem?_cons_succ, List.getElem?_cons_zero]; rfl)
  case hq33_2 => exact fun _ _ _ h => h
  case hy33_2 =>
    refine Or.inl ⟨by rfl, ?_⟩
    intro wS hSw
    try dsimp only at hSw
    obtain ⟨q0, q1, q2, q3, q4⟩ := hSw
    go_simp
    try with_reducible rfl
  simp only [Act.put, List.setIfInBounds_toArray, List.set_cons_zero, List.set_cons_succ]
  refine wpAnyH_take (i := 3) (oi := ?oi34_3) (v := ?vv34_3) ?hi34_3 (by kernel_rfl) (by kernel_rfl) (by kernel_rfl) ?hq34_3 ?hy34_3 hHeld ?rest34_3
  case hi34_3 => (simp only [List.getElem?_toArray, List.getElem?_cons_succ, List.getElem?_cons_zero]; rfl)
  case hq34_3 => exact fun _ _ _ h => h
  case hy34_3 =>
    refine Or.inl ⟨by rfl, ?_⟩
    intro wS hSw
    try dsimp only at hSw
    obtain ⟨q0, q1, q2, q3, q4⟩ := hSw
    go_simp
    try with_reducible rfl
  simp only [Act.put, List.setIfInBounds_toArray, List.set_cons_zero, List.set_cons_succ]
  refine wpAnyH_take (i := 4) (oi := ?oi35_4) (v := ?vv35_4) ?hi35_4 (by kernel_rfl) (by kernel_rfl) (by kernel_rfl) ?hq35_4 ?hy35_4 hHeld ?rest35_4
  case hi35_4 => (simp only [List.getElem?_toArray, List.getElem?_cons_succ, List.getElem?_cons_zero]; rfl)
  case hq35_4 => exact fun _ _ _ h => h
  case hy35_4 =>
    refine Or.inl ⟨by rfl, ?_⟩
    intro wS hSw
    try dsimp only at hSw
    obtain ⟨q0, q1, q2, q3, q4⟩ := hSw
    go_simp
    try with_reducible rfl
  simp only [Act.put, List.setIfInBounds_toArray, List.set_cons_zero, List.set_cons_succ]
  refine wpAnyH_ready (rs := [0]) (by kernel_rfl) (by simp) ?_
  refine AllReadyH.cons rfl (fun K hK => ?_) AllReadyH.nil
  go_simp
  refine (cOne _).mono ?_
  rintro e w23 ⟨xb, rfl, hb, hf23⟩
  replace hA := hA.fwd hf23
  replace kR := kR.fwd hf23
  replace kV := kV.fwd hf23
  replace hF := hF.trans hf23
  clear hf23
  clear rc0 rz0 rc1 rz1 rc2 rz2
  clear vc0 vz0 vc1 vz1 vc2 vz2 vc3 vz3 vc4 vz4
  have rc0 := BlkV.cell kR 0 rfl
  have rz0 := BlkV.frozen kR 0
  have rc1 := BlkV.cell kR 1 rfl
  have rz1 := BlkV.frozen kR 1
  have rc2 := BlkV.cell kR 2 rfl
  have rz2 := BlkV.frozen kR 2
  have vc0 := BlkV.cell kV 0 rfl
  have vz0 := BlkV.frozen kV 0
  have vc1 := BlkV.cell kV 1 rfl
  have vz1 := BlkV.frozen kV 1
  have vc2 := BlkV.cell kV 2 rfl
  have vz2 := BlkV.frozen kV 2
  have vc3 := BlkV.cell kV 3 rfl
  have vz3 := BlkV.frozen kV 3
  have vc4 := BlkV.cell kV 4 rfl
  have vz4 := BlkV.frozen kV 4
  go_wp2_with fail
  clear hHeld
  refine hK.out _ _ ⟨by with_reducible assumption, by with_reducible assumption, by with_reducible assumption, by with_reducible assumption, by with_reducible assumption⟩ (fun hHeld => ?_)
  clear hK K
  try simp only [Act.put, List.setIfInBounds_toArray, List.set_cons_zero, List.set_cons_succ]
  refine wpAnyH_ready (rs := [5]) (by kernel_rfl) (by simp) ?_
  refine AllReadyH.cons rfl (fun K hK => ?_) AllReadyH.nil
  go_simp
  refine (sB _ xb hb).mono ?_
  rintro e w24 ⟨xB, rfl, hB, hf24⟩
  replace hA := hA.fwd hf24
  replace kR := kR.fwd hf24
  replace kV := kV.fwd hf24
  replace hF := hF.trans hf24
  clear hf24
  clear rc0 rz0 rc1 rz1 rc2 rz2
  clear vc0 vz0 vc1 vz1 vc2 vz2 vc3 vz3 vc4 vz4
  have rc0 := BlkV.cell kR 0 rfl
  have rz0 := BlkV.frozen kR 0
  have rc1 := BlkV.cell kR 1 rfl
  have rz1 := BlkV.frozen kR 1
  have rc2 := BlkV.cell kR 2 rfl
  have rz2 := BlkV.frozen kR 2
  have vc0 := BlkV.cell kV 0 rfl
  have vz0 := BlkV.frozen kV 0
  have vc1 := BlkV.cell kV 1 rfl
  have vz1 := BlkV.frozen kV 1
  have vc2 := BlkV.cell kV 2 rfl
  have vz2 := BlkV.frozen kV 2
  have vc3 := BlkV.cell kV 3 rfl
  have vz3 := BlkV.frozen kV 3
  have vc4 := BlkV.cell kV 4 rfl
  have vz4 := BlkV.frozen kV 4
  go_wp2_with fail
  clear hHeld
  refine hK.out _ _ ⟨by with_reducible assumption, by with_reducible assumption, by with_reducible assumption, by with_reducible assumption, by with_reducible assumption⟩ (fun hHeld => ?_)
  clear hK K
  try simp only [Act.put, List.setIfInBounds_toArray, List.set_cons_zero, List.set_cons_succ]
  refine wpAnyH_take (i := 6) (oi := ?oi36_6) (v := ?vv36_6) ?hi36_6 (by kernel_rfl) (by kernel_rfl) (by kernel_rfl) ?hq36_6 ?hy36_6 hHeld ?rest36_6
  case hi36_6 => (simp only [List.getElem?_toArray, List.getElem?_cons_succ, List.getElem?_cons_zero]; rfl)
  case hq36_6 => exact fun _ _ _ h => h
  case hy36_6 =>
    refine Or.inl ⟨by rfl, ?_⟩
    intro wS hSw
    try dsimp only at hSw
    obtain ⟨q0, q1, q2, q3, q4⟩ := hSw
    go_simp
    try with_reducible rfl
  simp only [Act.put, List.setIfInBounds_toArray, List.set_cons_zero, List.set_cons_succ]
  refine wpAnyH_done (by kernel_rfl) ?_ _
  go_wp2_with fail
  refine (rmake_any s hA hB (by omega) (by omega) hB0).mono ?_
  rintro e w25 ⟨xr, rfl, hv, hf25⟩
  obtain ⟨po, pc, qo, qc, rfl, p1, p2, p3, p4, -, -⟩ := RW.open hv
  replace kR := kR.fwd hf25
  replace kV := kV.fwd hf25
  replace hF := hF.trans hf25
  clear hf25
  clear rc0 rz0 rc1 rz1 rc2 rz2
  clear vc0 vz0 vc1 vz1 vc2 vz2 vc3 vz3 vc4 vz4
  have rc0 := BlkV.cell kR 0 rfl
  have rz0 := BlkV.frozen kR 0
  have rc1 := BlkV.cell kR 1 rfl
  have rz1 := BlkV.frozen kR 1
  have rc2 := BlkV.cell kR 2 rfl
  have rz2 := BlkV.frozen kR 2
  have vc0 := BlkV.cell kV 0 rfl
  have vz0 := BlkV.frozen kV 0
  have vc1 := BlkV.cell kV 1 rfl
  have vz1 := BlkV.frozen kV 1
  have vc2 := BlkV.cell kV 2 rfl
  have vz2 := BlkV.frozen kV 2
  have vc3 := BlkV.cell kV 3 rfl
  have vz3 := BlkV.frozen kV 3
  have vc4 := BlkV.cell kV 4 rfl
  have vz4 := BlkV.frozen kV 4
  generalize hQ : mkQ s A B = Q at *
  have HQ := hid hQ
  clear hQ ha hb hA hB cOf cOne sA sB
  have HV := hid hv
  clear hv
  go_wp2
  have r0 := BlkV.set kR 0 (.bool (negQ Q))
  have rs0 := BlkV.cell r0 0 rfl
  have r1 := BlkV.set r0 1 (.slice po (nl Q.num.natAbs) pc)
  have rs1 := BlkV.cell r1 1 rfl
  have r2 := BlkV.set r1 2 (.slice qo (nl Q.den) qc)
  have rs2 := BlkV.cell r2 2 rfl
  have hon := ((Only.set (w.heap.size) w25 0 (.bool (negQ Q))).setv 1 (.slice po (nl Q.num.natAbs) pc)).setv 2 (.slice qo (nl Q.den) qc)
  refine bodyPost_ret (by simp [results, Tryz.results15, go_sem, rs0, rs1, rs2]; try rfl) rfl ?_
  exact ⟨_, rfl, (by rw [HQ.out]; exact HV.out.keepV kR (by simp) hon), hF.wrote hon (by omega)⟩

theorem rat3_any {w : World} (f : Nat) (hf : f < 18446744073709551616) (hi : fsz f < 9218868437227405312) :
    Calls Tryz.prog 15 #[.int .u64 f] w fun e w' => ∃ v, e = .returned (.tuple #[v, .int .i64 0]) ∧ RV w' v (mkQ (fneg f) (ratA f) (ratB f)) ∧ Fwd w w' := by
  by_cases c : vex f = 0
  · exact rat3_zero f hf hi c
  · by_cases d : 0 < vex f
    · exact rat3_up f hf hi (k := (vex f).toNat) (by omega) (by omega)
    · exact rat3_down f hf hi (k := (-(vex f)).toNat) (by omega) (by omega)
end Go.Proofs.YtcfhajnboamnnaaGreatDoor
