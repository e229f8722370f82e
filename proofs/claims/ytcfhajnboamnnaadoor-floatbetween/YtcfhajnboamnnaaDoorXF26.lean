/- sfloat's Of: a rational number, rounded. -/
import Derived.Test.YtcfhajnboamnnaaDoorXF25
namespace Go.Proofs.YtcfhajnboamnnaaDoor
open Go.RowKit
set_option linter.unusedVariables false
set_option linter.unusedSimpArgs false

theorem ratio_any {w : World} {v : Value} {s : Bool} {N D : Nat} (h : RW w v s N D) (bN : nl N ≤ 10000) (bD : nl D ≤ 10000) (hD0 : D ≠ 0) :
    Calls Tryd.prog 51 #[v] w fun e w' => ∃ r, e = .returned r ∧ Fwd w w' ∧ VT r (ratV s N D) := by
  obtain ⟨vN, vD, rfl, hN, hD⟩ := h
  by_cases c : rtS N D = 0
  · exact ratio_zero hN hD bN bD hD0 c
  · by_cases d : 0 < rtS N D
    · exact ratio_up (k := (rtS N D).toNat) hN hD bN bD hD0 (by omega) (by omega)
    · exact ratio_down (k := (-(rtS N D)).toNat) hN hD bN bD hD0 (by omega) (by omega)

/-- A number, rounded. -/
def ofQ (m : Int) (s : Bool) (N D : Nat) : Nat × Nat := rdV m (ratV s N D)

theorem ratV_ex (s : Bool) {N D : Nat} (bN : nl N ≤ 10000) (bD : nl D ≤ 10000) : -1000000 ≤ (ratV s N D).2.2.2 ∧ (ratV s N D).2.2.2 ≤ 1000000 := by
  have b1 := blen_nl N
  have b2 := blen_nl D
  show -1000000 ≤ -(rtS N D) - 64 ∧ -(rtS N D) - 64 ≤ 1000000
  unfold rtS
  omega

set_option maxHeartbeats 8000000 in
set_option maxRecDepth 100000 in
theorem ofQ_any {w : World} {v : Value} {s : Bool} {N D : Nat} (hR : Ru w) (m : Int) (h : RW w v s N D) (bN : nl N ≤ 10000) (bD : nl D ≤ 10000) (hD0 : D ≠ 0) :
    Calls Tryd.prog 16 #[v, .int .i64 m] w fun e w' => e = .returned (.tuple #[.int .u64 ((ofQ m s N D).1 : Nat), .int .i64 ((ofQ m s N D).2 : Nat)]) ∧ Fwd w w' := by
  have c1 := fun (w' : World) (h : Fwd w w') => ruleOf_any m (hR.fwd h)
  have c2 := fun (w' : World) (g : Fwd w w') => ratio_any (h.fwd g) bN bD hD0
  have hex := ratV_ex s bN bD
  have HZ : Hid (ofQ m s N D = rdV m (ratV s N D)) := hid rfl
  generalize ratV s N D = V at *
  obtain ⟨s', en', n', x'⟩ := V
  have c3 := fun (w' : World) (u : Value) (hu : VV u s' en' n' x') => round_any (w := w') m hu hex.1 hex.2
  rw [← HZ.out] at c3
  clear HZ hex hR
  generalize ofQ m s N D = Z at *
  obtain ⟨z1, z2⟩ := Z
  obtain ⟨xo, xc, yo, yc, rfl, x1, x2, x3, x4, -, -⟩ := RW.open h
  clear h
  generalize ruleV m = rv at *
  have kA : BlkV (w.alloc (.cells #[.bool s, .slice xo (nl N) xc, .slice yo (nl D) yc] 24)) (w.heap.size) 24 [.bool s, .slice xo (nl N) xc, .slice yo (nl D) yc] := BlkV.made' w (w.heap.size) (by simp) 24 [.bool s, .slice xo (nl N) xc, .slice yo (nl D) yc]
  have hF : Fwd w (w.alloc (.cells #[.bool s, .slice xo (nl N) xc, .slice yo (nl D) yc] 24)) := (Fwd.refl w).alloc _
  go_enter Tryd.func16, Tryd.ntmps16
  have ac0 := BlkV.cell kA 0 rfl
  have az0 := BlkV.frozen kA 0
  have ac1 := BlkV.cell kA 1 rfl
  have az1 := BlkV.frozen kA 1
  have ac2 := BlkV.cell kA 2 rfl
  have az2 := BlkV.frozen kA 2
  go_wp2_with fail
  replace kA := kA.drew
  replace hF := hF.drew
  clear ac0 az0 ac1 az1 ac2 az2
  have ac0 := BlkV.cell kA 0 rfl
  have az0 := BlkV.frozen kA 0
  have ac1 := BlkV.cell kA 1 rfl
  have az1 := BlkV.frozen kA 1
  have ac2 := BlkV.cell kA 2 rfl
  have az2 := BlkV.frozen kA 2
  refine wp_region_held_drew (S := fun w' => w'.cell? ⟨w.heap.size, 0, none⟩ = some (.bool s) ∧ w'.cell? ⟨w.heap.size, 1, none⟩ = some (.slice xo (nl N) xc) ∧ w'.cell? ⟨w.heap.size, 2, none⟩ = some (.slice yo (nl D) yc)) (by kernel_rfl) ⟨by with_reducible assumption, by with_reducible assumption, by with_reducible assumption⟩ (fun hHeld => ?_)
  refine wpAnyH_take (i := 0) (oi := ?oi1_0) (v := ?vv1_0) ?hi1_0 (by kernel_rfl) (by kernel_rfl) (by kernel_rfl) ?hq1_0 ?hy1_0 hHeld ?rest1_0
  case hi1_0 => (simp only [List.getElem?_toArray, List.getElem?_cons_succ, List.getElem?_cons_zero]; rfl)
  case hq1_0 => exact fun _ _ _ h => h
  case hy1_0 =>
    refine Or.inl ⟨by rfl, ?_⟩
    intro wS hSw
    try dsimp only at hSw
    obtain ⟨q0, q1, q2⟩ := hSw
    go_simp
    try with_reducible rfl
  simp only [Act.put, List.setIfInBounds_toArray, List.set_cons_zero, List.set_cons_succ]
  refine wpAnyH_take (i := 2) (oi := ?oi2_2) (v := ?vv2_2) ?hi2_2 (by kernel_rfl) (by kernel_rfl) (by kernel_rfl) ?hq2_2 ?hy2_2 hHeld ?rest2_2
  case hi2_2 => (simp only [List.getElem?_toArray, List.getElem?_cons_succ, List.getElem?_cons_zero]; rfl)
  case hq2_2 => exact fun _ _ _ h => h
  case hy2_2 =>
    refine Or.inl ⟨by rfl, ?_⟩
    intro wS hSw
    try dsimp only at hSw
    obtain ⟨q0, q1, q2⟩ := hSw
    go_simp
    try with_reducible rfl
  simp only [Act.put, List.setIfInBounds_toArray, List.set_cons_zero, List.set_cons_succ]
  refine wpAnyH_ready (rs := [1]) (by kernel_rfl) (by simp) ?_
  refine AllReadyH.cons rfl (fun K hK => ?_) AllReadyH.nil
  go_simp
  refine (c1 _ hF).mono ?_
  rintro e w1 ⟨rfl, hf1⟩
  replace kA := kA.fwd hf1
  replace hF := hF.trans hf1
  clear hf1
  clear ac0 az0 ac1 az1 ac2 az2
  have ac0 := BlkV.cell kA 0 rfl
  have az0 := BlkV.frozen kA 0
  have ac1 := BlkV.cell kA 1 rfl
  have az1 := BlkV.frozen kA 1
  have ac2 := BlkV.cell kA 2 rfl
  have az2 := BlkV.frozen kA 2
  go_wp2_with fail
  clear hHeld
  refine hK.out _ _ ⟨by with_reducible assumption, by with_reducible assumption, by with_reducible assumption⟩ (fun hHeld => ?_)
  clear hK K
  try simp only [Act.put, List.setIfInBounds_toArray, List.set_cons_zero, List.set_cons_succ]
  refine wpAnyH_ready (rs := [3]) (by kernel_rfl) (by simp) ?_
  refine AllReadyH.cons rfl (fun K hK => ?_) AllReadyH.nil
  go_simp
  refine (c2 _ hF).mono ?_
  rintro e w2 ⟨r, rfl, hf2, hV⟩
  replace kA := kA.fwd hf2
  replace hF := hF.trans hf2
  clear hf2
  clear ac0 az0 ac1 az1 ac2 az2
  have ac0 := BlkV.cell kA 0 rfl
  have az0 := BlkV.frozen kA 0
  have ac1 := BlkV.cell kA 1 rfl
  have az1 := BlkV.frozen kA 1
  have ac2 := BlkV.cell kA 2 rfl
  have az2 := BlkV.frozen kA 2
  go_wp2_with fail
  clear hHeld
  refine hK.out _ _ ⟨by with_reducible assumption, by with_reducible assumption, by with_reducible assumption⟩ (fun hHeld => ?_)
  clear hK K
  try simp only [Act.put, List.setIfInBounds_toArray, List.set_cons_zero, List.set_cons_succ]
  refine wpAnyH_ready (rs := [4]) (by kernel_rfl) (by simp) ?_
  refine AllReadyH.cons rfl (fun K hK => ?_) AllReadyH.nil
  go_simp
  refine (c3 _ r hV).mono ?_
  rintro e w3 ⟨rfl, hf3⟩
  replace kA := kA.fwd hf3
  replace hF := hF.trans hf3
  clear hf3
  clear ac0 az0 ac1 az1 ac2 az2
  have ac0 := BlkV.cell kA 0 rfl
  have az0 := BlkV.frozen kA 0
  have ac1 := BlkV.cell kA 1 rfl
  have az1 := BlkV.frozen kA 1
  have ac2 := BlkV.cell kA 2 rfl
  have az2 := BlkV.frozen kA 2
  go_wp2_with fail
  clear hHeld
  refine hK.out _ _ ⟨by with_reducible assumption, by with_reducible assumption, by with_reducible assumption⟩ (fun hHeld => ?_)
  clear hK K
  try simp only [Act.put, List.setIfInBounds_toArray, List.set_cons_zero, List.set_cons_succ]
  refine wpAnyH_take (i := 5) (oi := ?oi3_5) (v := ?vv3_5) ?hi3_5 (by kernel_rfl) (by kernel_rfl) (by kernel_rfl) ?hq3_5 ?hy3_5 hHeld ?rest3_5
  case hi3_5 => (simp only [List.getElem?_toArray, List.getElem?_cons_succ, List.getElem?_cons_zero]; rfl)
  case hq3_5 => exact fun _ _ _ h => h
  case hy3_5 =>
    refine Or.inl ⟨by rfl, ?_⟩
    intro wS hSw
    try dsimp only at hSw
    obtain ⟨q0, q1, q2⟩ := hSw
    go_simp
    try with_reducible rfl
  simp only [Act.put, List.setIfInBounds_toArray, List.set_cons_zero, List.set_cons_succ]
  refine wpAnyH_take (i := 6) (oi := ?oi4_6) (v := ?vv4_6) ?hi4_6 (by kernel_rfl) (by kernel_rfl) (by kernel_rfl) ?hq4_6 ?hy4_6 hHeld ?rest4_6
  case hi4_6 => (simp only [List.getElem?_toArray, List.getElem?_cons_succ, List.getElem?_cons_zero]; rfl)
  case hq4_6 => exact fun _ _ _ h => h
  case hy4_6 =>
    refine Or.inl ⟨by rfl, ?_⟩
    intro wS hSw
    try dsimp only at hSw
    obtain ⟨q0, q1, q2⟩ := hSw
    go_simp
    try with_reducible rfl
  simp only [Act.put, List.setIfInBounds_toArray, List.set_cons_zero, List.set_cons_succ]
  refine wpAnyH_take (i := 7) (oi := ?oi5_7) (v := ?vv5_7) ?hi5_7 (by kernel_rfl) (by kernel_rfl) (by kernel_rfl) ?hq5_7 ?hy5_7 hHeld ?rest5_7
  case hi5_7 => (simp only [List.getElem?_toArray, List.getElem?_cons_succ, List.getElem?_cons_zero]; rfl)
  case hq5_7 => exact fun _ _ _ h => h
  case hy5_7 =>
    refine Or.inl ⟨by rfl, ?_⟩
    intro wS hSw
    try dsimp only at hSw
    obtain ⟨q0, q1, q2⟩ := hSw
    go_simp
    try with_reducible rfl
  simp only [Act.put, List.setIfInBounds_toArray, List.set_cons_zero, List.set_cons_succ]
  refine wpAnyH_take (i := 8) (oi := ?oi6_8) (v := ?vv6_8) ?hi6_8 (by kernel_rfl) (by kernel_rfl) (by kernel_rfl) ?hq6_8 ?hy6_8 hHeld ?rest6_8
  case hi6_8 => (simp only [List.getElem?_toArray, List.getElem?_cons_succ, List.getElem?_cons_zero]; rfl)
  case hq6_8 => exact fun _ _ _ h => h
  case hy6_8 =>
    refine Or.inl ⟨by rfl, ?_⟩
    intro wS hSw
    try dsimp only at hSw
    obtain ⟨q0, q1, q2⟩ := hSw
    go_simp
    try with_reducible rfl
  simp only [Act.put, List.setIfInBounds_toArray, List.set_cons_zero, List.set_cons_succ]
  refine wpAnyH_done (by kernel_rfl) ?_ _
  go_wp2
  go_ret2
  exact ⟨ret_pair rfl rfl, hF⟩
end Go.Proofs.YtcfhajnboamnnaaDoor
