/- FloatBack: a finite float's number is rounded to it again, by any mode, without a flag (nought to +0): the law's walk. -/
import Derived.Test.YtbhehgodnfcdgaaDoorXF27
import Derived.Test.YtbhehgodnfcdgaaDoorXF17
import Derived.Test.YtbhehgodnfcdgaaDoorXFB
import Derived.OpenShut
namespace Go.Proofs.YtbhehgodnfcdgaaDoor
open Go.RowKit
set_option linter.unusedVariables false
set_option linter.unusedSimpArgs false

theorem nl_ratA {f : Nat} (h : fsz f < 9218868437227405312) : nl (ratA f) ≤ 1000 := by
  have h1 := nl_two (vsz_lt f)
  have h2 := nl_shl (vsz f) (vex f).toNat
  have h3 := vex_le h
  have h4 : nl (ratA f) = nl (vsz f * 2 ^ (vex f).toNat) := rfl
  omega
theorem nl_ratB (f : Nat) : nl (ratB f) ≤ 1000 := by
  have h1 := nl_two (n := 1) (by decide)
  have h2 := nl_shl 1 (-(vex f)).toNat
  have h3 := vex_ge f
  have h4 : nl (ratB f) = nl (1 * 2 ^ (-(vex f)).toNat) := rfl
  omega
/-- What comes of a float's number. -/
theorem back_of {f : Nat} (hf : f < 18446744073709551616) (h1 : fsz f < 9218868437227405312) (m : Int) :
    ofQ m (negQ (mkQ (fneg f) (ratA f) (ratB f))) (mkQ (fneg f) (ratA f) (ratB f)).num.natAbs (mkQ (fneg f) (ratA f) (ratB f)).den = (if fsz f = 0 then 0 else f, 0) := by
  have hB := ratB_pos f
  by_cases c : fsz f = 0
  · have hA : ratA f = 0 := by unfold ratA; rw [vsz_zero c, Nat.zero_mul]
    rw [if_pos c, hA, mkQ_zero]
    exact back_nought m
  · have hA : ratA f ≠ 0 := by unfold ratA; exact Nat.mul_ne_zero (vsz_ne c) (by have := Nat.two_pow_pos (vex f).toNat; omega)
    rw [if_neg c, mkQ_neg hB hA, mkQ_abs hB, mkQ_den hB]
    exact back_own hf c h1 m

set_option maxHeartbeats 8000000 in
set_option maxRecDepth 100000 in
theorem floatBack_walk {w : World} {a n mode : Int} (hR : Ru w) (ha : (Lit.int .u64 a).wf = true) (hn : (Lit.int .i64 n).wf = true) (hk : (Lit.int .i64 mode).wf = true) :
    Calls Tryd.prog 7 #[.int .u64 a, .int .i64 n, .int .i64 mode] w fun e w' => e = .returned (.bool true) ∧ Below w.heap.size w w' := by
  obtain ⟨a1, a2⟩ := bounds_u64 ha
  obtain ⟨n1, n2⟩ := bounds_i64 hn
  obtain ⟨k1, k2⟩ := bounds_i64 hk
  obtain ⟨a, rfl⟩ : ∃ a' : Nat, a = (a' : Int) := ⟨a.toNat, by omega⟩
  clear ha hn hk
  have hF : Fwd w w := Fwd.refl w
  go_enter Tryd.func7, Tryd.ntmps7
  go_wp2_with fail
  refine (known3_any hR).mono ?_
  rintro e w1 ⟨rfl, hf1⟩
  replace hR := hR.fwd hf1
  replace hF := hF.trans hf1
  clear hf1
  go_wp2_with fail
  refine (make3_any _ a n (by omega) n1 n2).mono ?_
  rintro e wq ⟨x, hx, rfl, rfl⟩
  clear a1 a2 n1 n2
  have hxz := andNot_sign x hx
  by_cases hi : fsz x < 9218868437227405312
  · by_cases c : fsz x = 0
    · have cw := fun w => (within3_any w mode 5 (by omega) (by omega) k1 k2)
      clear k1 k2 hxz
      have hB0 := ratB_pos x
      have bQ := nr_mkQ (fneg x) (ratA x) (ratB x) hB0
      have bA := nl_ratA hi
      have bB := nl_ratB x
      have bk := fun m => back_of hx hi m
      rw [if_pos c] at bk
      have cr := fun w => rat3_any (w := w) x hx hi
      obtain ⟨Q, hQ⟩ : ∃ Q, Q = mkQ (fneg x) (ratA x) (ratB x) := ⟨_, rfl⟩
      rw [← hQ] at bQ cr bk
      clear hQ hB0
      have bn := nr_num Q
      have bd := nr_den Q
      have hd0 : Q.den ≠ 0 := Q.den_nz
      go_wp2_with fail
      refine (cr _).mono ?_
      rintro e w2 ⟨v, rfl, hv, hf2⟩
      replace hR := hR.fwd hf2
      replace hF := hF.trans hf2
      clear hf2 cr
      have HV := hid hv
      obtain ⟨po, pc, qo, qc, rfl, p1, p2, p3, p4, -, -⟩ := RW.open hv
      clear hv
      have hfB : Fwd w2 (w2.alloc (.cells #[.bool (negQ Q), .slice po (nl Q.num.natAbs) pc, .slice qo (nl Q.den) qc] 43)) := (Fwd.refl _).alloc _
      replace hF := hF.trans hfB
      replace hR := hR.fwd hfB
      have hv := RV.fwd HV.out hfB
      clear hfB HV
      have kA := BlkV.made w2 43 [.bool (negQ Q), .slice po (nl Q.num.natAbs) pc, .slice qo (nl Q.den) qc]
      go_upto_region 5 with fail
      generalize (w2.alloc (.cells #[.bool (negQ Q), .slice po (nl Q.num.natAbs) pc, .slice qo (nl Q.den) qc] 43)) = w3 at kA hF hR hv ⊢
      have co : ∀ (w' : World) (m : Int) (h : Fwd w3 w'), Calls Tryd.prog 19 #[.agg #[.bool (negQ Q), .slice po (nl Q.num.natAbs) pc, .slice qo (nl Q.den) qc], .int .i64 m] w' fun e w'' => e = .returned (.tuple #[.int .u64 0, .int .i64 0]) ∧ Fwd w' w'' := fun w' m h => by have := ofQ_any (hR.fwd h) m (RV.fwd hv h) (by omega) (by omega) hd0; rw [bk m] at this; exact this
      clear bk
      have hG : Fwd w3 w3 := Fwd.refl w3
      have ac0 := BlkV.cell kA 0 rfl
      have az0 := BlkV.frozen kA 0
      have ac1 := BlkV.cell kA 1 rfl
      have az1 := BlkV.frozen kA 1
      have ac2 := BlkV.cell kA 2 rfl
      have az2 := BlkV.frozen kA 2
      go_upto_region 7 with fail
      replace hG := hG.drew
      replace kA := kA.drew
      replace hF := hF.drew
      clear ac0 az0 ac1 az1 ac2 az2
      have ac0 := BlkV.cell kA 0 rfl
      have az0 := BlkV.frozen kA 0
      have ac1 := BlkV.cell kA 1 rfl
      have az1 := BlkV.frozen kA 1
      have ac2 := BlkV.cell kA 2 rfl
      have az2 := BlkV.frozen kA 2
      refine wp_region_held_drew (S := fun w' => w'.cell? ⟨w2.heap.size, 0, none⟩ = some (.bool (negQ Q)) ∧ w'.cell? ⟨w2.heap.size, 1, none⟩ = some (.slice po (nl Q.num.natAbs) pc) ∧ w'.cell? ⟨w2.heap.size, 2, none⟩ = some (.slice qo (nl Q.den) qc)) (by kernel_rfl) ⟨by with_reducible assumption, by with_reducible assumption, by with_reducible assumption⟩ (fun hHeld => ?_)
      refine wpAnyH_take (i := 0) (oi := ?oi1_0) (v := ?vv1_0) ?hi1_0 (by kernel_rfl) (by kernel_rfl) (by kernel_rfl) ?hq1_0 ?hy1_0 hHeld ?rest1_0
      case hi1_0 => (simp only [List.getElem?_toArray, List.getElem?_cons_succ, List.getElem?_cons_zero]; rfl)
      case hq1_0 => exact fun _ _ _ h => h
      case hy1_0 =>
        refine Or.inl ⟨by rfl, ?_⟩
        intro wS hSw
        try dsimp only at hSw
        obtain ⟨q0, q1, q2⟩ := hSw
        go_simp
        try with_reducible rfl
      simp only [Act.put, List.setIfInBounds_toArray, List.set_cons_zero, List.set_cons_succ]
      refine wpAnyH_take (i := 1) (oi := ?oi2_1) (v := ?vv2_1) ?hi2_1 (by kernel_rfl) (by kernel_rfl) (by kernel_rfl) ?hq2_1 ?hy2_1 hHeld ?rest2_1
      case hi2_1 => (simp only [List.getElem?_toArray, List.getElem?_cons_succ, List.getElem?_cons_zero]; rfl)
      case hq2_1 => exact fun _ _ _ h => h
      case hy2_1 =>
        refine Or.inl ⟨by rfl, ?_⟩
        intro wS hSw
        try dsimp only at hSw
        obtain ⟨q0, q1, q2⟩ := hSw
        go_simp
        try with_reducible rfl
      simp only [Act.put, List.setIfInBounds_toArray, List.set_cons_zero, List.set_cons_succ]
      refine wpAnyH_ready (rs := [2]) (by kernel_rfl) (by simp) ?_
      refine AllReadyH.cons rfl (fun K hK => ?_) AllReadyH.nil
      go_simp
      refine (cw _).mono ?_
      rintro e w31 ⟨k, hk, rfl, rfl⟩
      have hf31 : Fwd w3.drew w3.drew := Fwd.refl _
      replace kA := kA.fwd hf31
      replace hF := hF.trans hf31
      clear hf31
      clear ac0 az0 ac1 az1 ac2 az2
      have ac0 := BlkV.cell kA 0 rfl
      have az0 := BlkV.frozen kA 0
      have ac1 := BlkV.cell kA 1 rfl
      have az1 := BlkV.frozen kA 1
      have ac2 := BlkV.cell kA 2 rfl
      have az2 := BlkV.frozen kA 2
      go_wp2_with fail
      clear hHeld
      refine hK.out _ _ ⟨by with_reducible assumption, by with_reducible assumption, by with_reducible assumption⟩ (fun hHeld => ?_)
      clear hK K
      try simp only [Act.put, List.setIfInBounds_toArray, List.set_cons_zero, List.set_cons_succ]
      refine wpAnyH_ready (rs := [3]) (by kernel_rfl) (by simp) ?_
      refine AllReadyH.cons rfl (fun K hK => ?_) AllReadyH.nil
      go_simp
      refine (co _ k hG).mono ?_
      rintro e w32 ⟨rfl, hf32⟩
      clear co cw hR hv
      replace kA := kA.fwd hf32
      replace hF := hF.trans hf32
      clear hf32
      clear ac0 az0 ac1 az1 ac2 az2
      have ac0 := BlkV.cell kA 0 rfl
      have az0 := BlkV.frozen kA 0
      have ac1 := BlkV.cell kA 1 rfl
      have az1 := BlkV.frozen kA 1
      have ac2 := BlkV.cell kA 2 rfl
      have az2 := BlkV.frozen kA 2
      go_wp2_with fail
      clear hHeld
      refine hK.out _ _ ⟨by with_reducible assumption, by with_reducible assumption, by with_reducible assumption⟩ (fun hHeld => ?_)
      clear hK K
      try simp only [Act.put, List.setIfInBounds_toArray, List.set_cons_zero, List.set_cons_succ]
      refine wpAnyH_take (i := 4) (oi := ?oi3_4) (v := ?vv3_4) ?hi3_4 (by kernel_rfl) (by kernel_rfl) (by kernel_rfl) ?hq3_4 ?hy3_4 hHeld ?rest3_4
      case hi3_4 => (simp only [List.getElem?_toArray, List.getElem?_cons_succ, List.getElem?_cons_zero]; rfl)
      case hq3_4 => exact fun _ _ _ h => h
      case hy3_4 =>
        refine Or.inl ⟨by rfl, ?_⟩
        intro wS hSw
        try dsimp only at hSw
        obtain ⟨q0, q1, q2⟩ := hSw
        go_simp
        try with_reducible rfl
      simp only [Act.put, List.setIfInBounds_toArray, List.set_cons_zero, List.set_cons_succ]
      refine wpAnyH_take (i := 5) (oi := ?oi4_5) (v := ?vv4_5) ?hi4_5 (by kernel_rfl) (by kernel_rfl) (by kernel_rfl) ?hq4_5 ?hy4_5 hHeld ?rest4_5
      case hi4_5 => (simp only [List.getElem?_toArray, List.getElem?_cons_succ, List.getElem?_cons_zero]; rfl)
      case hq4_5 => exact fun _ _ _ h => h
      case hy4_5 =>
        refine Or.inl ⟨by rfl, ?_⟩
        intro wS hSw
        try dsimp only at hSw
        obtain ⟨q0, q1, q2⟩ := hSw
        go_simp
        try with_reducible rfl
      simp only [Act.put, List.setIfInBounds_toArray, List.set_cons_zero, List.set_cons_succ]
      refine wpAnyH_take (i := 7) (oi := ?oi5_7) (v := ?vv5_7) ?hi5_7 (by kernel_rfl) (by kernel_rfl) (by kernel_rfl) ?hq5_7 ?hy5_7 hHeld ?rest5_7
      case hi5_7 => (simp only [List.getElem?_toArray, List.getElem?_cons_succ, List.getElem?_cons_zero]; rfl)
      case hq5_7 => exact fun _ _ _ h => h
      case hy5_7 =>
        refine Or.inl ⟨by rfl, ?_⟩
        intro wS hSw
        try dsimp only at hSw
        obtain ⟨q0, q1, q2⟩ := hSw
        go_simp
        try with_reducible rfl
      simp only [Act.put, List.setIfInBounds_toArray, List.set_cons_zero, List.set_cons_succ]
      refine wpAnyH_take (i := 6) (oi := ?oi6_6) (v := ?vv6_6) ?hi6_6 (by kernel_rfl) (by kernel_rfl) (by kernel_rfl) ?hq6_6 ?hy6_6 hHeld ?rest6_6
      case hi6_6 => (simp only [List.getElem?_toArray, List.getElem?_cons_succ, List.getElem?_cons_zero]; rfl)
      case hq6_6 => exact fun _ _ _ h => h
      case hy6_6 =>
        refine Or.inl ⟨by rfl, ?_⟩
        intro wS hSw
        try dsimp only at hSw
        obtain ⟨q0, q1, q2⟩ := hSw
        go_simp
        try with_reducible rfl
      simp only [Act.put, List.setIfInBounds_toArray, List.set_cons_zero, List.set_cons_succ]
      refine wpAnyH_take (i := 8) (oi := ?oi7_8) (v := ?vv7_8) ?hi7_8 (by kernel_rfl) (by kernel_rfl) (by kernel_rfl) ?hq7_8 ?hy7_8 hHeld ?rest7_8
      case hi7_8 => (simp only [List.getElem?_toArray, List.getElem?_cons_succ, List.getElem?_cons_zero]; rfl)
      case hq7_8 => exact fun _ _ _ h => h
      case hy7_8 =>
        refine Or.inl ⟨by rfl, ?_⟩
        intro wS hSw
        try dsimp only at hSw
        obtain ⟨q0, q1, q2⟩ := hSw
        go_simp
        try with_reducible rfl
      simp only [Act.put, List.setIfInBounds_toArray, List.set_cons_zero, List.set_cons_succ]
      refine wpAnyH_done (by kernel_rfl) ?_ _
      have hx2 : x = 0 ∨ x = 9223372036854775808 := by unfold fsz at c; omega
      clear c hi hx
      rcases hx2 with rfl | rfl
      · go_wp2
        go_ret
        exact ⟨rfl, hF⟩
      · go_wp2
        go_ret
        exact ⟨rfl, hF⟩
    · have cw := fun w => (within3_any w mode 5 (by omega) (by omega) k1 k2)
      clear k1 k2 hxz
      have hB0 := ratB_pos x
      have bQ := nr_mkQ (fneg x) (ratA x) (ratB x) hB0
      have bA := nl_ratA hi
      have bB := nl_ratB x
      have bk := fun m => back_of hx hi m
      rw [if_neg c] at bk
      have cr := fun w => rat3_any (w := w) x hx hi
      obtain ⟨Q, hQ⟩ : ∃ Q, Q = mkQ (fneg x) (ratA x) (ratB x) := ⟨_, rfl⟩
      rw [← hQ] at bQ cr bk
      clear hQ hB0
      have bn := nr_num Q
      have bd := nr_den Q
      have hd0 : Q.den ≠ 0 := Q.den_nz
      go_wp2_with fail
      refine (cr _).mono ?_
      rintro e w2 ⟨v, rfl, hv, hf2⟩
      replace hR := hR.fwd hf2
      replace hF := hF.trans hf2
      clear hf2 cr
      have HV := hid hv
      obtain ⟨po, pc, qo, qc, rfl, p1, p2, p3, p4, -, -⟩ := RW.open hv
      clear hv
      have hfB : Fwd w2 (w2.alloc (.cells #[.bool (negQ Q), .slice po (nl Q.num.natAbs) pc, .slice qo (nl Q.den) qc] 43)) := (Fwd.refl _).alloc _
      replace hF := hF.trans hfB
      replace hR := hR.fwd hfB
      have hv := RV.fwd HV.out hfB
      clear hfB HV
      have kA := BlkV.made w2 43 [.bool (negQ Q), .slice po (nl Q.num.natAbs) pc, .slice qo (nl Q.den) qc]
      go_upto_region 5 with fail
      generalize (w2.alloc (.cells #[.bool (negQ Q), .slice po (nl Q.num.natAbs) pc, .slice qo (nl Q.den) qc] 43)) = w3 at kA hF hR hv ⊢
      have co : ∀ (w' : World) (m : Int) (h : Fwd w3 w'), Calls Tryd.prog 19 #[.agg #[.bool (negQ Q), .slice po (nl Q.num.natAbs) pc, .slice qo (nl Q.den) qc], .int .i64 m] w' fun e w'' => e = .returned (.tuple #[.int .u64 x, .int .i64 0]) ∧ Fwd w' w'' := fun w' m h => by have := ofQ_any (hR.fwd h) m (RV.fwd hv h) (by omega) (by omega) hd0; rw [bk m] at this; exact this
      clear bk
      have hG : Fwd w3 w3 := Fwd.refl w3
      have ac0 := BlkV.cell kA 0 rfl
      have az0 := BlkV.frozen kA 0
      have ac1 := BlkV.cell kA 1 rfl
      have az1 := BlkV.frozen kA 1
      have ac2 := BlkV.cell kA 2 rfl
      have az2 := BlkV.frozen kA 2
      go_upto_region 7 with fail
      replace hG := hG.drew
      replace kA := kA.drew
      replace hF := hF.drew
      clear ac0 az0 ac1 az1 ac2 az2
      have ac0 := BlkV.cell kA 0 rfl
      have az0 := BlkV.frozen kA 0
      have ac1 := BlkV.cell kA 1 rfl
      have az1 := BlkV.frozen kA 1
      have ac2 := BlkV.cell kA 2 rfl
      have az2 := BlkV.frozen kA 2
      refine wp_region_held_drew (S := fun w' => w'.cell? ⟨w2.heap.size, 0, none⟩ = some (.bool (negQ Q)) ∧ w'.cell? ⟨w2.heap.size, 1, none⟩ = some (.slice po (nl Q.num.natAbs) pc) ∧ w'.cell? ⟨w2.heap.size, 2, none⟩ = some (.slice qo (nl Q.den) qc)) (by kernel_rfl) ⟨by with_reducible assumption, by with_reducible assumption, by with_reducible assumption⟩ (fun hHeld => ?_)
      refine wpAnyH_take (i := 0) (oi := ?oi8_0) (v := ?vv8_0) ?hi8_0 (by kernel_rfl) (by kernel_rfl) (by kernel_rfl) ?hq8_0 ?hy8_0 hHeld ?rest8_0
      case hi8_0 => (simp only [List.getElem?_toArray, List.getElem?_cons_succ, List.getElem?_cons_zero]; rfl)
      case hq8_0 => exact fun _ _ _ h => h
      case hy8_0 =>
        refine Or.inl ⟨by rfl, ?_⟩
        intro wS hSw
        try dsimp only at hSw
        obtain ⟨q0, q1, q2⟩ := hSw
        go_simp
        try with_reducible rfl
      simp only [Act.put, List.setIfInBounds_toArray, List.set_cons_zero, List.set_cons_succ]
      refine wpAnyH_take (i := 1) (oi := ?oi9_1) (v := ?vv9_1) ?hi9_1 (by kernel_rfl) (by kernel_rfl) (by kernel_rfl) ?hq9_1 ?hy9_1 hHeld ?rest9_1
      case hi9_1 => (simp only [List.getElem?_toArray, List.getElem?_cons_succ, List.getElem?_cons_zero]; rfl)
      case hq9_1 => exact fun _ _ _ h => h
      case hy9_1 =>
        refine Or.inl ⟨by rfl, ?_⟩
        intro wS hSw
        try dsimp only at hSw
        obtain ⟨q0, q1, q2⟩ := hSw
        go_simp
        try with_reducible rfl
      simp only [Act.put, List.setIfInBounds_toArray, List.set_cons_zero, List.set_cons_succ]
      refine wpAnyH_ready (rs := [2]) (by kernel_rfl) (by simp) ?_
      refine AllReadyH.cons rfl (fun K hK => ?_) AllReadyH.nil
      go_simp
      refine (cw _).mono ?_
      rintro e w31 ⟨k, hk, rfl, rfl⟩
      have hf31 : Fwd w3.drew w3.drew := Fwd.refl _
      replace kA := kA.fwd hf31
      replace hF := hF.trans hf31
      clear hf31
      clear ac0 az0 ac1 az1 ac2 az2
      have ac0 := BlkV.cell kA 0 rfl
      have az0 := BlkV.frozen kA 0
      have ac1 := BlkV.cell kA 1 rfl
      have az1 := BlkV.frozen kA 1
      have ac2 := BlkV.cell kA 2 rfl
      have az2 := BlkV.frozen kA 2
      go_wp2_with fail
      clear hHeld
      refine hK.out _ _ ⟨by with_reducible assumption, by with_reducible assumption, by with_reducible assumption⟩ (fun hHeld => ?_)
      clear hK K
      try simp only [Act.put, List.setIfInBounds_toArray, List.set_cons_zero, List.set_cons_succ]
      refine wpAnyH_ready (rs := [3]) (by kernel_rfl) (by simp) ?_
      refine AllReadyH.cons rfl (fun K hK => ?_) AllReadyH.nil
      go_simp
      refine (co _ k hG).mono ?_
      rintro e w32 ⟨rfl, hf32⟩
      clear co cw hR hv
      replace kA := kA.fwd hf32
      replace hF := hF.trans hf32
      clear hf32
      clear ac0 az0 ac1 az1 ac2 az2
      have ac0 := BlkV.cell kA 0 rfl
      have az0 := BlkV.frozen kA 0
      have ac1 := BlkV.cell kA 1 rfl
      have az1 := BlkV.frozen kA 1
      have ac2 := BlkV.cell kA 2 rfl
      have az2 := BlkV.frozen kA 2
      go_wp2_with fail
      clear hHeld
      refine hK.out _ _ ⟨by with_reducible assumption, by with_reducible assumption, by with_reducible assumption⟩ (fun hHeld => ?_)
      clear hK K
      try simp only [Act.put, List.setIfInBounds_toArray, List.set_cons_zero, List.set_cons_succ]
      refine wpAnyH_take (i := 4) (oi := ?oi10_4) (v := ?vv10_4) ?hi10_4 (by kernel_rfl) (by kernel_rfl) (by kernel_rfl) ?hq10_4 ?hy10_4 hHeld ?rest10_4
      case hi10_4 => (simp only [List.getElem?_toArray, List.getElem?_cons_succ, List.getElem?_cons_zero]; rfl)
      case hq10_4 => exact fun _ _ _ h => h
      case hy10_4 =>
        refine Or.inl ⟨by rfl, ?_⟩
        intro wS hSw
        try dsimp only at hSw
        obtain ⟨q0, q1, q2⟩ := hSw
        go_simp
        try with_reducible rfl
      simp only [Act.put, List.setIfInBounds_toArray, List.set_cons_zero, List.set_cons_succ]
      refine wpAnyH_take (i := 5) (oi := ?oi11_5) (v := ?vv11_5) ?hi11_5 (by kernel_rfl) (by kernel_rfl) (by kernel_rfl) ?hq11_5 ?hy11_5 hHeld ?rest11_5
      case hi11_5 => (simp only [List.getElem?_toArray, List.getElem?_cons_succ, List.getElem?_cons_zero]; rfl)
      case hq11_5 => exact fun _ _ _ h => h
      case hy11_5 =>
        refine Or.inl ⟨by rfl, ?_⟩
        intro wS hSw
        try dsimp only at hSw
        obtain ⟨q0, q1, q2⟩ := hSw
        go_simp
        try with_reducible rfl
      simp only [Act.put, List.setIfInBounds_toArray, List.set_cons_zero, List.set_cons_succ]
      refine wpAnyH_take (i := 7) (oi := ?oi12_7) (v := ?vv12_7) ?hi12_7 (by kernel_rfl) (by kernel_rfl) (by kernel_rfl) ?hq12_7 ?hy12_7 hHeld ?rest12_7
      case hi12_7 => (simp only [List.getElem?_toArray, List.getElem?_cons_succ, List.getElem?_cons_zero]; rfl)
      case hq12_7 => exact fun _ _ _ h => h
      case hy12_7 =>
        refine Or.inl ⟨by rfl, ?_⟩
        intro wS hSw
        try dsimp only at hSw
        obtain ⟨q0, q1, q2⟩ := hSw
        go_simp
        try with_reducible rfl
      simp only [Act.put, List.setIfInBounds_toArray, List.set_cons_zero, List.set_cons_succ]
      refine wpAnyH_take (i := 6) (oi := ?oi13_6) (v := ?vv13_6) ?hi13_6 (by kernel_rfl) (by kernel_rfl) (by kernel_rfl) ?hq13_6 ?hy13_6 hHeld ?rest13_6
      case hi13_6 => (simp only [List.getElem?_toArray, List.getElem?_cons_succ, List.getElem?_cons_zero]; rfl)
      case hq13_6 => exact fun _ _ _ h => h
      case hy13_6 =>
        refine Or.inl ⟨by rfl, ?_⟩
        intro wS hSw
        try dsimp only at hSw
        obtain ⟨q0, q1, q2⟩ := hSw
        go_simp
        try with_reducible rfl
      simp only [Act.put, List.setIfInBounds_toArray, List.set_cons_zero, List.set_cons_succ]
      refine wpAnyH_take (i := 8) (oi := ?oi14_8) (v := ?vv14_8) ?hi14_8 (by kernel_rfl) (by kernel_rfl) (by kernel_rfl) ?hq14_8 ?hy14_8 hHeld ?rest14_8
      case hi14_8 => (simp only [List.getElem?_toArray, List.getElem?_cons_succ, List.getElem?_cons_zero]; rfl)
      case hq14_8 => exact fun _ _ _ h => h
      case hy14_8 =>
        refine Or.inl ⟨by rfl, ?_⟩
        intro wS hSw
        try dsimp only at hSw
        obtain ⟨q0, q1, q2⟩ := hSw
        go_simp
        try with_reducible rfl
      simp only [Act.put, List.setIfInBounds_toArray, List.set_cons_zero, List.set_cons_succ]
      refine wpAnyH_done (by kernel_rfl) ?_ _
      clear c hi hx
      go_wp2
      go_ret
      exact ⟨rfl, hF⟩
  · have i1 : decide ((9218868437227405312 : Int) ≤ (fsz x : Int)) = true := decide_eq_true (by omega)
    have cr := fun w => rat3_range (w := w) x hx (by omega)
    unfold ratZero at cr
    clear hi k1 k2
    generalize fsz x = z at *
    go_wp2_with fail
    refine (cr _).mono ?_
    rintro e w2 ⟨rfl, hf2⟩
    replace hF := hF.trans hf2
    clear hf2 cr
    have hF2 := hF.alloc (.cells #[.bool false, .slice none 0 0, .slice none 0 0] 43)
    go_wp2
    go_ret
    exact ⟨rfl, hF2⟩
end Go.Proofs.YtbhehgodnfcdgaaDoor
