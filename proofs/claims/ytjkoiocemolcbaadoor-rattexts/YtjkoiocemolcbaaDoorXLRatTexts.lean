/- RatTexts: any number is written as the second telling writes it, and read as it was; in other terms, too: the law's walk. -/
import Derived.Test.YtjkoiocemolcbaaDoorXP16
import Derived.Test.YtjkoiocemolcbaaDoorXT7
import Derived.Test.YtjkoiocemolcbaaDoorXU1
import Derived.Test.YtjkoiocemolcbaaDoorXV1
import Derived.Test.YtjkoiocemolcbaaDoorXP8
import Derived.Test.YtjkoiocemolcbaaDoorXP10
import Derived.Test.YtjkoiocemolcbaaDoorXP12
namespace Go.Proofs.YtjkoiocemolcbaaDoor
open Go.RowKit
set_option linter.unusedVariables false
set_option linter.unusedSimpArgs false

theorem RW.numsX {w : World} {s s' : Bool} {a b : Value} {m d : Nat} (h : RW w (.agg #[.bool s', a, b]) s m d) : Num w a m ∧ Num w b d := by
  obtain ⟨vN, vD, e, h1, h2⟩ := h
  simp at e
  obtain ⟨_, rfl, rfl⟩ := e
  exact ⟨h1, h2⟩
theorem mkQ_scale {s : Bool} {m d k : Nat} (hd : d ≠ 0) (hk : k ≠ 0) : mkQ s (m * k) (d * k) = mkQ s m d := by
  unfold mkQ
  rw [← sgn_nat, Rat.mkRat_mul_right hk]
theorem size_text6 (n : Nat) (h : nl n ≤ 10) : (textOf n).size ≤ 101 := by
  rw [show (textOf n).size = (asc (dec n)).length from str_size rfl, len_asc]
  have := len_dec n
  omega
theorem size_textR2 (s : Bool) (m d : Nat) (h1 : nl m ≤ 3) (h2 : nl d ≤ 3) : (textR s m d).size ≤ 1000 := by
  have z1 := size_text6 m (by omega)
  have z2 := size_text6 d (by omega)
  have z3 : (textS s m).size ≤ 102 := by
    unfold textS
    cases s
    · rw [if_neg (by simp)]; omega
    · rw [if_pos rfl, size_dash]; omega
  unfold textR
  split
  · omega
  · rw [ByteArray.size_append, size_slash]; omega

set_option maxHeartbeats 40000000 in
set_option maxRecDepth 20000 in
theorem ratTexts_walk {w : World} {b : Value} {xb : List Nat} {a : Value} {sa : Bool} {xa ya : List Nat} (ha : RawA w a sa xa ya) (hb : Arg w b xb) :
    Calls Tryd.prog 4 #[a, b] w fun e w' => e = .returned (.bool true) ∧ Below w.heap.size w w' := by
  have bq := nr_rawQ sa ha.ok.1 ha.ok.2
  obtain ⟨q, hq⟩ : ∃ q, q = rawQ sa xa ya := ⟨_, rfl⟩
  rw [← hq] at bq
  have HQ := hid hq
  clear hq
  have b1 := (nr_le bq).1
  have b2 := (nr_le bq).2
  have l1 := len_dec q.num.natAbs
  have l2 := len_dec q.den
  have bK := nl_take hb.ok 3
  obtain ⟨K, hK⟩ : ∃ K, K = val (xb.take 3) := ⟨_, rfl⟩
  rw [← hK] at bK
  have HK := hid hK
  clear hK
  obtain ⟨sT, hsT⟩ : ∃ t, t = textR (negQ q) q.num.natAbs q.den := ⟨_, rfl⟩
  have zT : sT.size ≤ 999990 := by rw [hsT]; have := size_textR (negQ q) q.num.natAbs q.den (by omega) (by omega); exact Nat.le_trans (size_textR2 _ _ _ b1 b2) (by omega)
  have HP : Hid (parseQE sT = 0 ∧ parseQV sT = q) := hid (by rw [hsT]; exact parse_own q (by omega) (by omega))
  have HT := hid hsT
  clear hsT
  have ha0 := ha
  obtain ⟨vNa, vDa, rfl, aN, aD⟩ := ha
  cases hsg : negQ q
  · have HN := hid hsg
    clear hsg
    have kA : BlkV (w.alloc (.cells #[.bool sa, vNa, vDa] 24)) (w.heap.size) 24 [.bool sa, vNa, vDa] := BlkV.made' w (w.heap.size) (by simp) 24 [.bool sa, vNa, vDa]
    have hF : Fwd w (w.alloc (.cells #[.bool sa, vNa, vDa] 24)) := (Fwd.refl w).alloc _
    replace aN := aN.fwd hF
    replace aD := aD.fwd hF
    replace ha0 := ha0.fwd hF
    replace hb := hb.fwd hF
    go_enter Tryd.func4, Tryd.ntmps4
    have ac0 := BlkV.cell kA 0 rfl
    have ac1 := BlkV.cell kA 1 rfl
    have ac2 := BlkV.cell kA 2 rfl
    go_wp2_with fail
    refine (known2_any _).mono ?_
    rintro e w1 ⟨rfl, hf1⟩
    replace aN := aN.fwd hf1
    replace aD := aD.fwd hf1
    replace ha0 := ha0.fwd hf1
    replace hb := hb.fwd hf1
    replace kA := kA.fwd hf1
    replace hF := hF.trans hf1
    clear hf1
    clear ac0 ac1 ac2
    have ac0 := BlkV.cell kA 0 rfl
    have ac1 := BlkV.cell kA 1 rfl
    have ac2 := BlkV.cell kA 2 rfl
    clear aN aD
    go_wp2_with fail
    refine (make2law_any ha0).mono ?_
    rintro e w2 ⟨v, rfl, rX, hf2⟩
    replace ha0 := ha0.fwd hf2
    replace hb := hb.fwd hf2
    replace kA := kA.fwd hf2
    replace hF := hF.trans hf2
    clear hf2
    clear ac0 ac1 ac2
    have ac0 := BlkV.cell kA 0 rfl
    have ac1 := BlkV.cell kA 1 rfl
    have ac2 := BlkV.cell kA 2 rfl
    rw [← HQ.out] at rX
    have HV := hid rX
    obtain ⟨poX, pcX, qoX, qcX, rfl, p1X, p2X, p3X, p4X, -, -⟩ := RW.open rX.rw'
    clear rX
    have rX := HV.out
    clear HV
    rw [HN.out] at rX ⊢
    clear ha0
    have ltA2 := BlkV.lt kA
    have hfB : Fwd w2 (w2.alloc (.cells #[.bool false, .slice poX (nl q.num.natAbs) pcX, .slice qoX (nl q.den) qcX] 24)) := (Fwd.refl _).alloc _
    replace hb := hb.fwd hfB
    replace rX := rX.fwd hfB
    replace kA := kA.fwd hfB
    replace hF := hF.trans hfB
    clear hfB
    clear ac0 ac1 ac2
    have ac0 := BlkV.cell kA 0 rfl
    have ac1 := BlkV.cell kA 1 rfl
    have ac2 := BlkV.cell kA 2 rfl
    have kX := BlkV.made w2 24 [.bool false, .slice poX (nl q.num.natAbs) pcX, .slice qoX (nl q.den) qcX]
    go_upto_region 4 with fail
    generalize (w2.alloc (.cells #[.bool false, .slice poX (nl q.num.natAbs) pcX, .slice qoX (nl q.den) qcX] 24)) = w3 at kX hb rX kA hF ⊢
    clear ac0 ac1 ac2
    have ac0 := BlkV.cell kA 0 rfl
    have ac1 := BlkV.cell kA 1 rfl
    have ac2 := BlkV.cell kA 2 rfl
    have xc0 := BlkV.cell kX 0 rfl
    have xc1 := BlkV.cell kX 1 rfl
    have xc2 := BlkV.cell kX 2 rfl
    go_wp2_with fail
    refine (rtext_raw rX.rw' (by omega) (by omega)).mono ?_
    rintro e w4 ⟨rfl, hf4⟩
    replace hb := hb.fwd hf4
    replace rX := rX.fwd hf4
    replace kA := kA.fwd hf4
    replace kX := kX.fwd hf4
    replace hF := hF.trans hf4
    clear hf4
    clear ac0 ac1 ac2
    have ac0 := BlkV.cell kA 0 rfl
    have ac1 := BlkV.cell kA 1 rfl
    have ac2 := BlkV.cell kA 2 rfl
    clear xc0 xc1 xc2
    have xc0 := BlkV.cell kX 0 rfl
    have xc1 := BlkV.cell kX 1 rfl
    have xc2 := BlkV.cell kX 2 rfl
    rw [← HT.out]
    go_wp2_with fail
    refine (rparse_any _ sT zT).mono ?_
    rintro e w5 ⟨v, rfl, hp, hf5⟩
    replace hb := hb.fwd hf5
    replace rX := rX.fwd hf5
    replace kA := kA.fwd hf5
    replace kX := kX.fwd hf5
    replace hF := hF.trans hf5
    clear hf5
    clear ac0 ac1 ac2
    have ac0 := BlkV.cell kA 0 rfl
    have ac1 := BlkV.cell kA 1 rfl
    have ac2 := BlkV.cell kA 2 rfl
    clear xc0 xc1 xc2
    have xc0 := BlkV.cell kX 0 rfl
    have xc1 := BlkV.cell kX 1 rfl
    have xc2 := BlkV.cell kX 2 rfl
    have rY := hp.1 HP.out.1
    rw [HP.out.2] at rY
    rw [HP.out.1]
    clear hp
    have HV := hid rY
    obtain ⟨poY, pcY, qoY, qcY, rfl, p1Y, p2Y, p3Y, p4Y, -, -⟩ := RW.open rY.rw'
    clear rY
    have rY := HV.out
    clear HV
    rw [HN.out] at rY ⊢
    have ltA5 := BlkV.lt kA
    have ltX5 := BlkV.lt kX
    have hfB : Fwd w5 (w5.alloc (.cells #[.bool false, .slice poY (nl q.num.natAbs) pcY, .slice qoY (nl q.den) qcY] 24)) := (Fwd.refl _).alloc _
    replace hb := hb.fwd hfB
    replace rX := rX.fwd hfB
    replace rY := rY.fwd hfB
    replace kA := kA.fwd hfB
    replace kX := kX.fwd hfB
    replace hF := hF.trans hfB
    clear hfB
    clear ac0 ac1 ac2
    have ac0 := BlkV.cell kA 0 rfl
    have ac1 := BlkV.cell kA 1 rfl
    have ac2 := BlkV.cell kA 2 rfl
    clear xc0 xc1 xc2
    have xc0 := BlkV.cell kX 0 rfl
    have xc1 := BlkV.cell kX 1 rfl
    have xc2 := BlkV.cell kX 2 rfl
    have kY := BlkV.made w5 24 [.bool false, .slice poY (nl q.num.natAbs) pcY, .slice qoY (nl q.den) qcY]
    go_upto_region 6 with fail
    generalize (w5.alloc (.cells #[.bool false, .slice poY (nl q.num.natAbs) pcY, .slice qoY (nl q.den) qcY] 24)) = w6 at kY hb rX rY kA kX hF ⊢
    clear ac0 ac1 ac2 xc0 xc1 xc2
    have ac0 := BlkV.cell kA 0 rfl
    have ac1 := BlkV.cell kA 1 rfl
    have ac2 := BlkV.cell kA 2 rfl
    have xc0 := BlkV.cell kX 0 rfl
    have xc1 := BlkV.cell kX 1 rfl
    have xc2 := BlkV.cell kX 2 rfl
    have yc0 := BlkV.cell kY 0 rfl
    have yc1 := BlkV.cell kY 1 rfl
    have yc2 := BlkV.cell kY 2 rfl
    go_wp2_with fail
    refine (make_any 3 hb (by omega) (by omega)).mono ?_
    rintro e w7 ⟨vk, rfl, hk, hf7⟩
    replace hb := hb.fwd hf7
    replace rX := rX.fwd hf7
    replace rY := rY.fwd hf7
    replace kA := kA.fwd hf7
    replace kX := kX.fwd hf7
    replace kY := kY.fwd hf7
    replace hF := hF.trans hf7
    clear hf7
    clear ac0 ac1 ac2
    have ac0 := BlkV.cell kA 0 rfl
    have ac1 := BlkV.cell kA 1 rfl
    have ac2 := BlkV.cell kA 2 rfl
    clear xc0 xc1 xc2
    have xc0 := BlkV.cell kX 0 rfl
    have xc1 := BlkV.cell kX 1 rfl
    have xc2 := BlkV.cell kX 2 rfl
    clear yc0 yc1 yc2
    have yc0 := BlkV.cell kY 0 rfl
    have yc1 := BlkV.cell kY 1 rfl
    have yc2 := BlkV.cell kY 2 rfl
    rw [← HK.out] at hk
    clear hb
    obtain ⟨nX, dX⟩ := RW.numsX rX.rw'
    obtain ⟨ko, kc, rfl, k1, k2, _⟩ := hk.parts
    unfold maxLen at k2
    by_cases hK0 : K = 0
    · have nk : nl K = 0 := by rw [hK0, nl_zero]
      rw [nk]
      clear hK0 hk
      have HK0 : Hid ((2 : Nat) ≠ 0) := hid (by decide)
      have b22 : nl 2 ≤ 1 := nl_one (by omega)
      have hk := num_lit w7 [2] 2 (by decide) 1 rfl (by omega) #[.int .u32 2] rfl
      have hfl : Fwd w7 (w7.alloc (.cells #[.int .u32 2] 40)) := (Fwd.refl _).alloc _
      replace rX := rX.fwd hfl
      replace rY := rY.fwd hfl
      replace nX := nX.fwd hfl
      replace dX := dX.fwd hfl
      replace kA := kA.fwd hfl
      replace kX := kX.fwd hfl
      replace kY := kY.fwd hfl
      replace hF := hF.trans hfl
      clear hfl
      clear ac0 ac1 ac2
      have ac0 := BlkV.cell kA 0 rfl
      have ac1 := BlkV.cell kA 1 rfl
      have ac2 := BlkV.cell kA 2 rfl
      clear xc0 xc1 xc2
      have xc0 := BlkV.cell kX 0 rfl
      have xc1 := BlkV.cell kX 1 rfl
      have xc2 := BlkV.cell kX 2 rfl
      clear yc0 yc1 yc2
      have yc0 := BlkV.cell kY 0 rfl
      have yc1 := BlkV.cell kY 1 rfl
      have yc2 := BlkV.cell kY 2 rfl
      go_upto_region 9 with fail
      generalize (w7.alloc (.cells #[.int .u32 2] 40)) = w8 at hF ⊢ rX rY nX dX hk kA kX kY ac0 ac1 ac2 xc0 xc1 xc2 yc0 yc1 yc2
      have e1 := nl_mul q.num.natAbs (2)
      have e2 := nl_mul q.den (2)
      have l3 := len_dec (q.num.natAbs * (2))
      have l4 := len_dec (q.den * (2))
      have z1 := size_text6 (q.num.natAbs * (2)) (by omega)
      have z2 := size_text6 (q.den * (2)) (by omega)
      have HU := hid (fun (U : ByteArray) (hU : U.data.toList = signB false ++ (digB (q.num.natAbs * (2)) ++ 47 :: digB (q.den * (2)))) => parse_told (s := false) (by omega) (by omega) hU)
      have HS : Hid (mkQ false (q.num.natAbs * (2)) (q.den * (2)) = q) := hid (by rw [mkQ_scale q.den_nz HK0.out, ← HN.out, mkQ_self])
      have HNZ : Hid (q.den * (2) ≠ 0) := hid (Nat.mul_ne_zero q.den_nz HK0.out)
      generalize hP1 : textOf (q.num.natAbs * (2)) = t1 at z1
      generalize hP2 : textOf (q.den * (2)) = t2 at z2
      have HP1 := hid hP1
      have HP2 := hid hP2
      clear hP1 hP2
      have z4 := size_slash t1
      have z5 : (t1 ++ ⟨#[47]⟩ ++ t2 : ByteArray).size = t1.size + 1 + t2.size := by rw [ByteArray.size_append, z4]
      have z6 := size_dash (t1 ++ ⟨#[47]⟩ ++ t2)
      have hov1 : ¬ 9223372036854775807 < t1.size + 1 := by omega
      have hov2 : ¬ 9223372036854775807 < t1.size + 1 + t2.size := by omega
      have hov3 : ¬ 9223372036854775807 < 1 + (t1.size + 1 + t2.size) := by omega
      go_upto_region 9 with fail
      replace rX := rX.drew
      replace rY := rY.drew
      replace nX := nX.drew
      replace dX := dX.drew
      replace hk := hk.drew
      replace kA := kA.drew
      replace kX := kX.drew
      replace kY := kY.drew
      replace hF := hF.drew
      clear ac0 ac1 ac2
      have ac0 := BlkV.cell kA 0 rfl
      have ac1 := BlkV.cell kA 1 rfl
      have ac2 := BlkV.cell kA 2 rfl
      clear xc0 xc1 xc2
      have xc0 := BlkV.cell kX 0 rfl
      have xc1 := BlkV.cell kX 1 rfl
      have xc2 := BlkV.cell kX 2 rfl
      clear yc0 yc1 yc2
      have yc0 := BlkV.cell kY 0 rfl
      have yc1 := BlkV.cell kY 1 rfl
      have yc2 := BlkV.cell kY 2 rfl
      refine wp_region_held_drew (S := fun w' => w'.cell? ⟨w.heap.size, 0, none⟩ = some (.bool sa) ∧ w'.cell? ⟨w.heap.size, 1, none⟩ = some (vNa) ∧ w'.cell? ⟨w.heap.size, 2, none⟩ = some (vDa) ∧ w'.cell? ⟨w2.heap.size, 0, none⟩ = some (.bool false) ∧ w'.cell? ⟨w2.heap.size, 1, none⟩ = some (.slice poX (nl q.num.natAbs) pcX) ∧ w'.cell? ⟨w2.heap.size, 2, none⟩ = some (.slice qoX (nl q.den) qcX) ∧ w'.cell? ⟨w5.heap.size, 0, none⟩ = some (.bool false) ∧ w'.cell? ⟨w5.heap.size, 1, none⟩ = some (.slice poY (nl q.num.natAbs) pcY) ∧ w'.cell? ⟨w5.heap.size, 2, none⟩ = some (.slice qoY (nl q.den) qcY)) (by kernel_rfl) ⟨by with_reducible assumption, by with_reducible assumption, by with_reducible assumption, by with_reducible assumption, by with_reducible assumption, by with_reducible assumption, by with_reducible assumption, by with_reducible assumption, by with_reducible assumption⟩ (fun hHeld => ?_)
      refine wpAnyH_take (i := 0) (oi := ?oi1_0) (v := ?vv1_0) ?hi1_0 (by kernel_rfl) (by kernel_rfl) (by kernel_rfl) ?hq1_0 ?hy1_0 hHeld ?rest1_0
      case hi1_0 => (simp only [List.getElem?_toArray, List.getElem?_cons_succ, List.getElem?_cons_zero]; rfl)
      case hq1_0 => exact fun _ _ _ h => h
      case hy1_0 =>
        refine Or.inl ⟨by rfl, ?_⟩
        intro wS hSw
        try dsimp only at hSw
        obtain ⟨q0, q1, q2, q3, q4, q5, q6, q7, q8⟩ := hSw
        go_simp
        try with_reducible rfl
      simp only [Act.put, List.setIfInBounds_toArray, List.set_cons_zero, List.set_cons_succ]
      refine wpAnyH_take (i := 1) (oi := ?oi2_1) (v := ?vv2_1) ?hi2_1 (by kernel_rfl) (by kernel_rfl) (by kernel_rfl) ?hq2_1 ?hy2_1 hHeld ?rest2_1
      case hi2_1 => (simp only [List.getElem?_toArray, List.getElem?_cons_succ, List.getElem?_cons_zero]; rfl)
      case hq2_1 => exact fun _ _ _ h => h
      case hy2_1 =>
        refine Or.inl ⟨by rfl, ?_⟩
        intro wS hSw
        try dsimp only at hSw
        obtain ⟨q0, q1, q2, q3, q4, q5, q6, q7, q8⟩ := hSw
        go_simp
        try with_reducible rfl
      simp only [Act.put, List.setIfInBounds_toArray, List.set_cons_zero, List.set_cons_succ]
      refine wpAnyH_take (i := 2) (oi := ?oi3_2) (v := ?vv3_2) ?hi3_2 (by kernel_rfl) (by kernel_rfl) (by kernel_rfl) ?hq3_2 ?hy3_2 hHeld ?rest3_2
      case hi3_2 => (simp only [List.getElem?_toArray, List.getElem?_cons_succ, List.getElem?_cons_zero]; rfl)
      case hq3_2 => exact fun _ _ _ h => h
      case hy3_2 =>
        refine Or.inl ⟨by rfl, ?_⟩
        intro wS hSw
        try dsimp only at hSw
        obtain ⟨q0, q1, q2, q3, q4, q5, q6, q7, q8⟩ := hSw
        go_simp
        try with_reducible rfl
      simp only [Act.put, List.setIfInBounds_toArray, List.set_cons_zero, List.set_cons_succ]
      refine wpAnyH_take (i := 6) (oi := ?oi4_6) (v := ?vv4_6) ?hi4_6 (by kernel_rfl) (by kernel_rfl) (by kernel_rfl) ?hq4_6 ?hy4_6 hHeld ?rest4_6
      case hi4_6 => (simp only [List.getElem?_toArray, List.getElem?_cons_succ, List.getElem?_cons_zero]; rfl)
      case hq4_6 => exact fun _ _ _ h => h
      case hy4_6 =>
        refine Or.inl ⟨by rfl, ?_⟩
        intro wS hSw
        try dsimp only at hSw
        obtain ⟨q0, q1, q2, q3, q4, q5, q6, q7, q8⟩ := hSw
        go_simp
        try with_reducible rfl
      simp only [Act.put, List.setIfInBounds_toArray, List.set_cons_zero, List.set_cons_succ]
      refine wpAnyH_take (i := 7) (oi := ?oi5_7) (v := ?vv5_7) ?hi5_7 (by kernel_rfl) (by kernel_rfl) (by kernel_rfl) ?hq5_7 ?hy5_7 hHeld ?rest5_7
      case hi5_7 => (simp only [List.getElem?_toArray, List.getElem?_cons_succ, List.getElem?_cons_zero]; rfl)
      case hq5_7 => exact fun _ _ _ h => h
      case hy5_7 =>
        refine Or.inl ⟨by rfl, ?_⟩
        intro wS hSw
        try dsimp only at hSw
        obtain ⟨q0, q1, q2, q3, q4, q5, q6, q7, q8⟩ := hSw
        go_simp
        try with_reducible rfl
      simp only [Act.put, List.setIfInBounds_toArray, List.set_cons_zero, List.set_cons_succ]
      refine wpAnyH_take (i := 8) (oi := ?oi6_8) (v := ?vv6_8) ?hi6_8 (by kernel_rfl) (by kernel_rfl) (by kernel_rfl) ?hq6_8 ?hy6_8 hHeld ?rest6_8
      case hi6_8 => (simp only [List.getElem?_toArray, List.getElem?_cons_succ, List.getElem?_cons_zero]; rfl)
      case hq6_8 => exact fun _ _ _ h => h
      case hy6_8 =>
        refine Or.inl ⟨by rfl, ?_⟩
        intro wS hSw
        try dsimp only at hSw
        obtain ⟨q0, q1, q2, q3, q4, q5, q6, q7, q8⟩ := hSw
        go_simp
        try with_reducible rfl
      simp only [Act.put, List.setIfInBounds_toArray, List.set_cons_zero, List.set_cons_succ]
      refine wpAnyH_ready (rs := [3]) (by kernel_rfl) (by simp) ?_
      refine AllReadyH.cons rfl (fun K hK => ?_) AllReadyH.nil
      go_simp
      refine (refMul_any nX hk (by omega) (by omega)).mono ?_
      rintro e w9 ⟨v1, rfl, f1, hf9⟩
      replace rX := rX.fwd hf9
      replace rY := rY.fwd hf9
      replace nX := nX.fwd hf9
      replace dX := dX.fwd hf9
      replace hk := hk.fwd hf9
      replace kA := kA.fwd hf9
      replace kX := kX.fwd hf9
      replace kY := kY.fwd hf9
      replace hF := hF.trans hf9
      clear hf9
      clear ac0 ac1 ac2
      have ac0 := BlkV.cell kA 0 rfl
      have ac1 := BlkV.cell kA 1 rfl
      have ac2 := BlkV.cell kA 2 rfl
      clear xc0 xc1 xc2
      have xc0 := BlkV.cell kX 0 rfl
      have xc1 := BlkV.cell kX 1 rfl
      have xc2 := BlkV.cell kX 2 rfl
      clear yc0 yc1 yc2
      have yc0 := BlkV.cell kY 0 rfl
      have yc1 := BlkV.cell kY 1 rfl
      have yc2 := BlkV.cell kY 2 rfl
      go_wp2_with fail
      clear hHeld
      refine hK.out _ _ ⟨by with_reducible assumption, by with_reducible assumption, by with_reducible assumption, by with_reducible assumption, by with_reducible assumption, by with_reducible assumption, by with_reducible assumption, by with_reducible assumption, by with_reducible assumption⟩ (fun hHeld => ?_)
      clear hK K
      try simp only [Act.put, List.setIfInBounds_toArray, List.set_cons_zero, List.set_cons_succ]
      refine wpAnyH_ready (rs := [4]) (by kernel_rfl) (by simp) ?_
      refine AllReadyH.cons rfl (fun K hK => ?_) AllReadyH.nil
      go_simp
      refine (refText_any f1 (by omega)).mono ?_
      rintro e w10 ⟨rfl, hf10⟩
      replace rX := rX.fwd hf10
      replace rY := rY.fwd hf10
      replace nX := nX.fwd hf10
      replace dX := dX.fwd hf10
      replace hk := hk.fwd hf10
      replace f1 := f1.fwd hf10
      replace kA := kA.fwd hf10
      replace kX := kX.fwd hf10
      replace kY := kY.fwd hf10
      replace hF := hF.trans hf10
      clear hf10
      clear ac0 ac1 ac2
      have ac0 := BlkV.cell kA 0 rfl
      have ac1 := BlkV.cell kA 1 rfl
      have ac2 := BlkV.cell kA 2 rfl
      clear xc0 xc1 xc2
      have xc0 := BlkV.cell kX 0 rfl
      have xc1 := BlkV.cell kX 1 rfl
      have xc2 := BlkV.cell kX 2 rfl
      clear yc0 yc1 yc2
      have yc0 := BlkV.cell kY 0 rfl
      have yc1 := BlkV.cell kY 1 rfl
      have yc2 := BlkV.cell kY 2 rfl
      rw [HP1.out]
      go_wp2_with fail
      clear hHeld
      refine hK.out _ _ ⟨by with_reducible assumption, by with_reducible assumption, by with_reducible assumption, by with_reducible assumption, by with_reducible assumption, by with_reducible assumption, by with_reducible assumption, by with_reducible assumption, by with_reducible assumption⟩ (fun hHeld => ?_)
      clear hK K
      try simp only [Act.put, List.setIfInBounds_toArray, List.set_cons_zero, List.set_cons_succ]
      refine wpAnyH_take (i := 5) (oi := ?oi7_5) (v := ?vv7_5) ?hi7_5 (by kernel_rfl) (by kernel_rfl) (by kernel_rfl) ?hq7_5 ?hy7_5 hHeld ?rest7_5
      case hi7_5 => (simp only [List.getElem?_toArray, List.getElem?_cons_succ, List.getElem?_cons_zero]; rfl)
      case hq7_5 => exact fun _ _ _ h => h
      case hy7_5 =>
        refine Or.inl ⟨by rfl, ?_⟩
        intro wS hSw
        try dsimp only at hSw
        obtain ⟨q0, q1, q2, q3, q4, q5, q6, q7, q8⟩ := hSw
        go_simp
        try with_reducible rfl
      simp only [Act.put, List.setIfInBounds_toArray, List.set_cons_zero, List.set_cons_succ]
      refine wpAnyH_ready (rs := [9]) (by kernel_rfl) (by simp) ?_
      refine AllReadyH.cons rfl (fun K hK => ?_) AllReadyH.nil
      go_simp
      refine (refMul_any dX hk (by omega) (by omega)).mono ?_
      rintro e w11 ⟨v2, rfl, f2, hf11⟩
      replace rX := rX.fwd hf11
      replace rY := rY.fwd hf11
      replace nX := nX.fwd hf11
      replace dX := dX.fwd hf11
      replace hk := hk.fwd hf11
      replace f1 := f1.fwd hf11
      replace kA := kA.fwd hf11
      replace kX := kX.fwd hf11
      replace kY := kY.fwd hf11
      replace hF := hF.trans hf11
      clear hf11
      clear ac0 ac1 ac2
      have ac0 := BlkV.cell kA 0 rfl
      have ac1 := BlkV.cell kA 1 rfl
      have ac2 := BlkV.cell kA 2 rfl
      clear xc0 xc1 xc2
      have xc0 := BlkV.cell kX 0 rfl
      have xc1 := BlkV.cell kX 1 rfl
      have xc2 := BlkV.cell kX 2 rfl
      clear yc0 yc1 yc2
      have yc0 := BlkV.cell kY 0 rfl
      have yc1 := BlkV.cell kY 1 rfl
      have yc2 := BlkV.cell kY 2 rfl
      go_wp2_with fail
      clear hHeld
      refine hK.out _ _ ⟨by with_reducible assumption, by with_reducible assumption, by with_reducible assumption, by with_reducible assumption, by with_reducible assumption, by with_reducible assumption, by with_reducible assumption, by with_reducible assumption, by with_reducible assumption⟩ (fun hHeld => ?_)
      clear hK K
      try simp only [Act.put, List.setIfInBounds_toArray, List.set_cons_zero, List.set_cons_succ]
      refine wpAnyH_ready (rs := [10]) (by kernel_rfl) (by simp) ?_
      refine AllReadyH.cons rfl (fun K hK => ?_) AllReadyH.nil
      go_simp
      refine (refText_any f2 (by omega)).mono ?_
      rintro e w12 ⟨rfl, hf12⟩
      replace rX := rX.fwd hf12
      replace rY := rY.fwd hf12
      replace nX := nX.fwd hf12
      replace dX := dX.fwd hf12
      replace hk := hk.fwd hf12
      replace f1 := f1.fwd hf12
      replace f2 := f2.fwd hf12
      replace kA := kA.fwd hf12
      replace kX := kX.fwd hf12
      replace kY := kY.fwd hf12
      replace hF := hF.trans hf12
      clear hf12
      clear ac0 ac1 ac2
      have ac0 := BlkV.cell kA 0 rfl
      have ac1 := BlkV.cell kA 1 rfl
      have ac2 := BlkV.cell kA 2 rfl
      clear xc0 xc1 xc2
      have xc0 := BlkV.cell kX 0 rfl
      have xc1 := BlkV.cell kX 1 rfl
      have xc2 := BlkV.cell kX 2 rfl
      clear yc0 yc1 yc2
      have yc0 := BlkV.cell kY 0 rfl
      have yc1 := BlkV.cell kY 1 rfl
      have yc2 := BlkV.cell kY 2 rfl
      rw [HP2.out]
      go_wp2_with fail
      clear hHeld
      refine hK.out _ _ ⟨by with_reducible assumption, by with_reducible assumption, by with_reducible assumption, by with_reducible assumption, by with_reducible assumption, by with_reducible assumption, by with_reducible assumption, by with_reducible assumption, by with_reducible assumption⟩ (fun hHeld => ?_)
      clear hK K
      try simp only [Act.put, List.setIfInBounds_toArray, List.set_cons_zero, List.set_cons_succ]
      refine wpAnyH_take (i := 11) (oi := ?oi8_11) (v := ?vv8_11) ?hi8_11 (by kernel_rfl) (by kernel_rfl) (by kernel_rfl) ?hq8_11 ?hy8_11 hHeld ?rest8_11
      case hi8_11 => (simp only [List.getElem?_toArray, List.getElem?_cons_succ, List.getElem?_cons_zero]; rfl)
      case hq8_11 => exact fun _ _ _ h => h
      case hy8_11 =>
        refine Or.inl ⟨by rfl, ?_⟩
        intro wS hSw
        try dsimp only at hSw
        obtain ⟨q0, q1, q2, q3, q4, q5, q6, q7, q8⟩ := hSw
        go_simp
        try with_reducible rfl
      simp only [Act.put, List.setIfInBounds_toArray, List.set_cons_zero, List.set_cons_succ]
      refine wpAnyH_take (i := 12) (oi := ?oi9_12) (v := ?vv9_12) ?hi9_12 (by kernel_rfl) (by kernel_rfl) (by kernel_rfl) ?hq9_12 ?hy9_12 hHeld ?rest9_12
      case hi9_12 => (simp only [List.getElem?_toArray, List.getElem?_cons_succ, List.getElem?_cons_zero]; rfl)
      case hq9_12 => exact fun _ _ _ h => h
      case hy9_12 =>
        refine Or.inl ⟨by rfl, ?_⟩
        intro wS hSw
        try dsimp only at hSw
        obtain ⟨q0, q1, q2, q3, q4, q5, q6, q7, q8⟩ := hSw
        go_simp
        try with_reducible rfl
      simp only [Act.put, List.setIfInBounds_toArray, List.set_cons_zero, List.set_cons_succ]
      refine wpAnyH_done (by kernel_rfl) ?_ _
      clear f1 f2 nX dX hk
      have HUU : Hid (parseQE (t1 ++ ⟨#[47]⟩ ++ t2) = 0 ∧ parseQV (t1 ++ ⟨#[47]⟩ ++ t2) = q) := hid (by
        obtain ⟨u1, u2⟩ := HU.out (t1 ++ ⟨#[47]⟩ ++ t2) (by rw [← HP1.out, ← HP2.out]; simp [ByteArray.data_append, textOf_data, signB])
        rw [if_neg HNZ.out] at u1
        exact ⟨u1, u2.trans HS.out⟩)
      have zU : ((t1 ++ ⟨#[47]⟩ ++ t2) : ByteArray).size ≤ 999990 := by rw [z5]; omega
      go_wp2_with fail
      generalize (t1 ++ ⟨#[47]⟩ ++ t2) = uu at HUU zU ⊢
      clear z1 z2 z4 z5 z6 hov1 hov2 hov3
      refine (rparse_any _ uu zU).mono ?_
      rintro e w13 ⟨v, rfl, hp, hf13⟩
      replace rX := rX.fwd hf13
      replace rY := rY.fwd hf13
      replace kA := kA.fwd hf13
      replace kX := kX.fwd hf13
      replace kY := kY.fwd hf13
      replace hF := hF.trans hf13
      clear hf13
      clear ac0 ac1 ac2
      have ac0 := BlkV.cell kA 0 rfl
      have ac1 := BlkV.cell kA 1 rfl
      have ac2 := BlkV.cell kA 2 rfl
      clear xc0 xc1 xc2
      have xc0 := BlkV.cell kX 0 rfl
      have xc1 := BlkV.cell kX 1 rfl
      have xc2 := BlkV.cell kX 2 rfl
      clear yc0 yc1 yc2
      have yc0 := BlkV.cell kY 0 rfl
      have yc1 := BlkV.cell kY 1 rfl
      have yc2 := BlkV.cell kY 2 rfl
      have rZ := hp.1 HUU.out.1
      rw [HUU.out.2] at rZ
      rw [HUU.out.1]
      clear hp
      have HV := hid rZ
      obtain ⟨poZ, pcZ, qoZ, qcZ, rfl, p1Z, p2Z, p3Z, p4Z, -, -⟩ := RW.open rZ.rw'
      clear rZ
      have rZ := HV.out
      clear HV
      rw [HN.out] at rZ ⊢
      have ltA13 := BlkV.lt kA
      have ltX13 := BlkV.lt kX
      have ltY13 := BlkV.lt kY
      have hfB : Fwd w13 (w13.alloc (.cells #[.bool false, .slice poZ (nl q.num.natAbs) pcZ, .slice qoZ (nl q.den) qcZ] 24)) := (Fwd.refl _).alloc _
      replace rX := rX.fwd hfB
      replace rY := rY.fwd hfB
      replace rZ := rZ.fwd hfB
      replace kA := kA.fwd hfB
      replace kX := kX.fwd hfB
      replace kY := kY.fwd hfB
      replace hF := hF.trans hfB
      clear hfB
      clear ac0 ac1 ac2
      have ac0 := BlkV.cell kA 0 rfl
      have ac1 := BlkV.cell kA 1 rfl
      have ac2 := BlkV.cell kA 2 rfl
      clear xc0 xc1 xc2
      have xc0 := BlkV.cell kX 0 rfl
      have xc1 := BlkV.cell kX 1 rfl
      have xc2 := BlkV.cell kX 2 rfl
      clear yc0 yc1 yc2
      have yc0 := BlkV.cell kY 0 rfl
      have yc1 := BlkV.cell kY 1 rfl
      have yc2 := BlkV.cell kY 2 rfl
      have kZ := BlkV.made w13 24 [.bool false, .slice poZ (nl q.num.natAbs) pcZ, .slice qoZ (nl q.den) qcZ]
      go_upto_region 13 with fail
      generalize (w13.alloc (.cells #[.bool false, .slice poZ (nl q.num.natAbs) pcZ, .slice qoZ (nl q.den) qcZ] 24)) = w14 at kZ rX rY rZ kA kX kY hF ⊢
      clear ac0 ac1 ac2 xc0 xc1 xc2 yc0 yc1 yc2
      have ac0 := BlkV.cell kA 0 rfl
      have ac1 := BlkV.cell kA 1 rfl
      have ac2 := BlkV.cell kA 2 rfl
      have xc0 := BlkV.cell kX 0 rfl
      have xc1 := BlkV.cell kX 1 rfl
      have xc2 := BlkV.cell kX 2 rfl
      have yc0 := BlkV.cell kY 0 rfl
      have yc1 := BlkV.cell kY 1 rfl
      have yc2 := BlkV.cell kY 2 rfl
      have zc0 := BlkV.cell kZ 0 rfl
      have zc1 := BlkV.cell kZ 1 rfl
      have zc2 := BlkV.cell kZ 2 rfl
      go_wp2_with fail
      refine (text2_raw rX.rw' (by omega) (by omega)).mono ?_
      rintro e w15 ⟨rfl, hf15⟩
      replace rX := rX.fwd hf15
      replace rY := rY.fwd hf15
      replace rZ := rZ.fwd hf15
      replace kA := kA.fwd hf15
      replace kX := kX.fwd hf15
      replace kY := kY.fwd hf15
      replace kZ := kZ.fwd hf15
      replace hF := hF.trans hf15
      clear hf15
      clear ac0 ac1 ac2
      have ac0 := BlkV.cell kA 0 rfl
      have ac1 := BlkV.cell kA 1 rfl
      have ac2 := BlkV.cell kA 2 rfl
      clear xc0 xc1 xc2
      have xc0 := BlkV.cell kX 0 rfl
      have xc1 := BlkV.cell kX 1 rfl
      have xc2 := BlkV.cell kX 2 rfl
      clear yc0 yc1 yc2
      have yc0 := BlkV.cell kY 0 rfl
      have yc1 := BlkV.cell kY 1 rfl
      have yc2 := BlkV.cell kY 2 rfl
      clear zc0 zc1 zc2
      have zc0 := BlkV.cell kZ 0 rfl
      have zc1 := BlkV.cell kZ 1 rfl
      have zc2 := BlkV.cell kZ 2 rfl
      rw [← HT.out]
      go_wp2_with fail
      refine (same2_true rY rX (by omega) (by omega) rfl).mono ?_
      rintro e w16 ⟨rfl, hf16⟩
      replace rX := rX.fwd hf16
      replace rY := rY.fwd hf16
      replace rZ := rZ.fwd hf16
      replace kA := kA.fwd hf16
      replace kX := kX.fwd hf16
      replace kY := kY.fwd hf16
      replace kZ := kZ.fwd hf16
      replace hF := hF.trans hf16
      clear hf16
      clear ac0 ac1 ac2
      have ac0 := BlkV.cell kA 0 rfl
      have ac1 := BlkV.cell kA 1 rfl
      have ac2 := BlkV.cell kA 2 rfl
      clear xc0 xc1 xc2
      have xc0 := BlkV.cell kX 0 rfl
      have xc1 := BlkV.cell kX 1 rfl
      have xc2 := BlkV.cell kX 2 rfl
      clear yc0 yc1 yc2
      have yc0 := BlkV.cell kY 0 rfl
      have yc1 := BlkV.cell kY 1 rfl
      have yc2 := BlkV.cell kY 2 rfl
      clear zc0 zc1 zc2
      have zc0 := BlkV.cell kZ 0 rfl
      have zc1 := BlkV.cell kZ 1 rfl
      have zc2 := BlkV.cell kZ 2 rfl
      go_wp2_with fail
      refine (same2_true rZ rX (by omega) (by omega) rfl).mono ?_
      rintro e w17 ⟨rfl, hf17⟩
      replace rX := rX.fwd hf17
      replace rY := rY.fwd hf17
      replace rZ := rZ.fwd hf17
      replace kA := kA.fwd hf17
      replace kX := kX.fwd hf17
      replace kY := kY.fwd hf17
      replace kZ := kZ.fwd hf17
      replace hF := hF.trans hf17
      clear hf17
      clear ac0 ac1 ac2
      have ac0 := BlkV.cell kA 0 rfl
      have ac1 := BlkV.cell kA 1 rfl
      have ac2 := BlkV.cell kA 2 rfl
      clear xc0 xc1 xc2
      have xc0 := BlkV.cell kX 0 rfl
      have xc1 := BlkV.cell kX 1 rfl
      have xc2 := BlkV.cell kX 2 rfl
      clear yc0 yc1 yc2
      have yc0 := BlkV.cell kY 0 rfl
      have yc1 := BlkV.cell kY 1 rfl
      have yc2 := BlkV.cell kY 2 rfl
      clear zc0 zc1 zc2
      have zc0 := BlkV.cell kZ 0 rfl
      have zc1 := BlkV.cell kZ 1 rfl
      have zc2 := BlkV.cell kZ 2 rfl
      go_wp2_with fail
      go_ret
      exact ⟨rfl, hF⟩
    · have nkp : 0 < nl K := by rw [nl_pos hK0]; omega
      have nkb : ((nl K : Int) == 0) = false := by simp; omega
      have HK0 := hid hK0
      clear hK0
      have e1 := nl_mul q.num.natAbs (K)
      have e2 := nl_mul q.den (K)
      have l3 := len_dec (q.num.natAbs * (K))
      have l4 := len_dec (q.den * (K))
      have z1 := size_text6 (q.num.natAbs * (K)) (by omega)
      have z2 := size_text6 (q.den * (K)) (by omega)
      have HU := hid (fun (U : ByteArray) (hU : U.data.toList = signB false ++ (digB (q.num.natAbs * (K)) ++ 47 :: digB (q.den * (K)))) => parse_told (s := false) (by omega) (by omega) hU)
      have HS : Hid (mkQ false (q.num.natAbs * (K)) (q.den * (K)) = q) := hid (by rw [mkQ_scale q.den_nz HK0.out, ← HN.out, mkQ_self])
      have HNZ : Hid (q.den * (K) ≠ 0) := hid (Nat.mul_ne_zero q.den_nz HK0.out)
      generalize hP1 : textOf (q.num.natAbs * (K)) = t1 at z1
      generalize hP2 : textOf (q.den * (K)) = t2 at z2
      have HP1 := hid hP1
      have HP2 := hid hP2
      clear hP1 hP2
      have z4 := size_slash t1
      have z5 : (t1 ++ ⟨#[47]⟩ ++ t2 : ByteArray).size = t1.size + 1 + t2.size := by rw [ByteArray.size_append, z4]
      have z6 := size_dash (t1 ++ ⟨#[47]⟩ ++ t2)
      have hov1 : ¬ 9223372036854775807 < t1.size + 1 := by omega
      have hov2 : ¬ 9223372036854775807 < t1.size + 1 + t2.size := by omega
      have hov3 : ¬ 9223372036854775807 < 1 + (t1.size + 1 + t2.size) := by omega
      go_upto_region 9 with fail
      replace rX := rX.drew
      replace rY := rY.drew
      replace hk := hk.drew
      replace nX := nX.drew
      replace dX := dX.drew
      replace kA := kA.drew
      replace kX := kX.drew
      replace kY := kY.drew
      replace hF := hF.drew
      clear ac0 ac1 ac2
      have ac0 := BlkV.cell kA 0 rfl
      have ac1 := BlkV.cell kA 1 rfl
      have ac2 := BlkV.cell kA 2 rfl
      clear xc0 xc1 xc2
      have xc0 := BlkV.cell kX 0 rfl
      have xc1 := BlkV.cell kX 1 rfl
      have xc2 := BlkV.cell kX 2 rfl
      clear yc0 yc1 yc2
      have yc0 := BlkV.cell kY 0 rfl
      have yc1 := BlkV.cell kY 1 rfl
      have yc2 := BlkV.cell kY 2 rfl
      refine wp_region_held_drew (S := fun w' => w'.cell? ⟨w.heap.size, 0, none⟩ = some (.bool sa) ∧ w'.cell? ⟨w.heap.size, 1, none⟩ = some (vNa) ∧ w'.cell? ⟨w.heap.size, 2, none⟩ = some (vDa) ∧ w'.cell? ⟨w2.heap.size, 0, none⟩ = some (.bool false) ∧ w'.cell? ⟨w2.heap.size, 1, none⟩ = some (.slice poX (nl q.num.natAbs) pcX) ∧ w'.cell? ⟨w2.heap.size, 2, none⟩ = some (.slice qoX (nl q.den) qcX) ∧ w'.cell? ⟨w5.heap.size, 0, none⟩ = some (.bool false) ∧ w'.cell? ⟨w5.heap.size, 1, none⟩ = some (.slice poY (nl q.num.natAbs) pcY) ∧ w'.cell? ⟨w5.heap.size, 2, none⟩ = some (.slice qoY (nl q.den) qcY)) (by kernel_rfl) ⟨by with_reducible assumption, by with_reducible assumption, by with_reducible assumption, by with_reducible assumption, by with_reducible assumption, by with_reducible assumption, by with_reducible assumption, by with_reducible assumption, by with_reducible assumption⟩ (fun hHeld => ?_)
      refine wpAnyH_take (i := 0) (oi := ?oi10_0) (v := ?vv10_0) ?hi10_0 (by kernel_rfl) (by kernel_rfl) (by kernel_rfl) ?hq10_0 ?hy10_0 hHeld ?rest10_0
      case hi10_0 => (simp only [List.getElem?_toArray, List.getElem?_cons_succ, List.getElem?_cons_zero]; rfl)
      case hq10_0 => exact fun _ _ _ h => h
      case hy10_0 =>
        refine Or.inl ⟨by rfl, ?_⟩
        intro wS hSw
        try dsimp only at hSw
        obtain ⟨q0, q1, q2, q3, q4, q5, q6, q7, q8⟩ := hSw
        go_simp
        try with_reducible rfl
      simp only [Act.put, List.setIfInBounds_toArray, List.set_cons_zero, List.set_cons_succ]
      refine wpAnyH_take (i := 1) (oi := ?oi11_1) (v := ?vv11_1) ?hi11_1 (by kernel_rfl) (by kernel_rfl) (by kernel_rfl) ?hq11_1 ?hy11_1 hHeld ?rest11_1
      case hi11_1 => (simp only [List.getElem?_toArray, List.getElem?_cons_succ, List.getElem?_cons_zero]; rfl)
      case hq11_1 => exact fun _ _ _ h => h
      case hy11_1 =>
        refine Or.inl ⟨by rfl, ?_⟩
        intro wS hSw
        try dsimp only at hSw
        obtain ⟨q0, q1, q2, q3, q4, q5, q6, q7, q8⟩ := hSw
        go_simp
        try with_reducible rfl
      simp only [Act.put, List.setIfInBounds_toArray, List.set_cons_zero, List.set_cons_succ]
      refine wpAnyH_take (i := 2) (oi := ?oi12_2) (v := ?vv12_2) ?hi12_2 (by kernel_rfl) (by kernel_rfl) (by kernel_rfl) ?hq12_2 ?hy12_2 hHeld ?rest12_2
      case hi12_2 => (simp only [List.getElem?_toArray, List.getElem?_cons_succ, List.getElem?_cons_zero]; rfl)
      case hq12_2 => exact fun _ _ _ h => h
      case hy12_2 =>
        refine Or.inl ⟨by rfl, ?_⟩
        intro wS hSw
        try dsimp only at hSw
        obtain ⟨q0, q1, q2, q3, q4, q5, q6, q7, q8⟩ := hSw
        go_simp
        try with_reducible rfl
      simp only [Act.put, List.setIfInBounds_toArray, List.set_cons_zero, List.set_cons_succ]
      refine wpAnyH_take (i := 6) (oi := ?oi13_6) (v := ?vv13_6) ?hi13_6 (by kernel_rfl) (by kernel_rfl) (by kernel_rfl) ?hq13_6 ?hy13_6 hHeld ?rest13_6
      case hi13_6 => (simp only [List.getElem?_toArray, List.getElem?_cons_succ, List.getElem?_cons_zero]; rfl)
      case hq13_6 => exact fun _ _ _ h => h
      case hy13_6 =>
        refine Or.inl ⟨by rfl, ?_⟩
        intro wS hSw
        try dsimp only at hSw
        obtain ⟨q0, q1, q2, q3, q4, q5, q6, q7, q8⟩ := hSw
        go_simp
        try with_reducible rfl
      simp only [Act.put, List.setIfInBounds_toArray, List.set_cons_zero, List.set_cons_succ]
      refine wpAnyH_take (i := 7) (oi := ?oi14_7) (v := ?vv14_7) ?hi14_7 (by kernel_rfl) (by kernel_rfl) (by kernel_rfl) ?hq14_7 ?hy14_7 hHeld ?rest14_7
      case hi14_7 => (simp only [List.getElem?_toArray, List.getElem?_cons_succ, List.getElem?_cons_zero]; rfl)
      case hq14_7 => exact fun _ _ _ h => h
      case hy14_7 =>
        refine Or.inl ⟨by rfl, ?_⟩
        intro wS hSw
        try dsimp only at hSw
        obtain ⟨q0, q1, q2, q3, q4, q5, q6, q7, q8⟩ := hSw
        go_simp
        try with_reducible rfl
      simp only [Act.put, List.setIfInBounds_toArray, List.set_cons_zero, List.set_cons_succ]
      refine wpAnyH_take (i := 8) (oi := ?oi15_8) (v := ?vv15_8) ?hi15_8 (by kernel_rfl) (by kernel_rfl) (by kernel_rfl) ?hq15_8 ?hy15_8 hHeld ?rest15_8
      case hi15_8 => (simp only [List.getElem?_toArray, List.getElem?_cons_succ, List.getElem?_cons_zero]; rfl)
      case hq15_8 => exact fun _ _ _ h => h
      case hy15_8 =>
        refine Or.inl ⟨by rfl, ?_⟩
        intro wS hSw
        try dsimp only at hSw
        obtain ⟨q0, q1, q2, q3, q4, q5, q6, q7, q8⟩ := hSw
        go_simp
        try with_reducible rfl
      simp only [Act.put, List.setIfInBounds_toArray, List.set_cons_zero, List.set_cons_succ]
      refine wpAnyH_ready (rs := [3]) (by kernel_rfl) (by simp) ?_
      refine AllReadyH.cons rfl (fun K hK => ?_) AllReadyH.nil
      go_simp
      refine (refMul_any nX hk (by omega) (by omega)).mono ?_
      rintro e w8 ⟨v1, rfl, f1, hf8⟩
      replace rX := rX.fwd hf8
      replace rY := rY.fwd hf8
      replace hk := hk.fwd hf8
      replace nX := nX.fwd hf8
      replace dX := dX.fwd hf8
      replace kA := kA.fwd hf8
      replace kX := kX.fwd hf8
      replace kY := kY.fwd hf8
      replace hF := hF.trans hf8
      clear hf8
      clear ac0 ac1 ac2
      have ac0 := BlkV.cell kA 0 rfl
      have ac1 := BlkV.cell kA 1 rfl
      have ac2 := BlkV.cell kA 2 rfl
      clear xc0 xc1 xc2
      have xc0 := BlkV.cell kX 0 rfl
      have xc1 := BlkV.cell kX 1 rfl
      have xc2 := BlkV.cell kX 2 rfl
      clear yc0 yc1 yc2
      have yc0 := BlkV.cell kY 0 rfl
      have yc1 := BlkV.cell kY 1 rfl
      have yc2 := BlkV.cell kY 2 rfl
      go_wp2_with fail
      clear hHeld
      refine hK.out _ _ ⟨by with_reducible assumption, by with_reducible assumption, by with_reducible assumption, by with_reducible assumption, by with_reducible assumption, by with_reducible assumption, by with_reducible assumption, by with_reducible assumption, by with_reducible assumption⟩ (fun hHeld => ?_)
      clear hK K
      try simp only [Act.put, List.setIfInBounds_toArray, List.set_cons_zero, List.set_cons_succ]
      refine wpAnyH_ready (rs := [4]) (by kernel_rfl) (by simp) ?_
      refine AllReadyH.cons rfl (fun K hK => ?_) AllReadyH.nil
      go_simp
      refine (refText_any f1 (by omega)).mono ?_
      rintro e w9 ⟨rfl, hf9⟩
      replace rX := rX.fwd hf9
      replace rY := rY.fwd hf9
      replace hk := hk.fwd hf9
      replace nX := nX.fwd hf9
      replace dX := dX.fwd hf9
      replace f1 := f1.fwd hf9
      replace kA := kA.fwd hf9
      replace kX := kX.fwd hf9
      replace kY := kY.fwd hf9
      replace hF := hF.trans hf9
      clear hf9
      clear ac0 ac1 ac2
      have ac0 := BlkV.cell kA 0 rfl
      have ac1 := BlkV.cell kA 1 rfl
      have ac2 := BlkV.cell kA 2 rfl
      clear xc0 xc1 xc2
      have xc0 := BlkV.cell kX 0 rfl
      have xc1 := BlkV.cell kX 1 rfl
      have xc2 := BlkV.cell kX 2 rfl
      clear yc0 yc1 yc2
      have yc0 := BlkV.cell kY 0 rfl
      have yc1 := BlkV.cell kY 1 rfl
      have yc2 := BlkV.cell kY 2 rfl
      rw [HP1.out]
      go_wp2_with fail
      clear hHeld
      refine hK.out _ _ ⟨by with_reducible assumption, by with_reducible assumption, by with_reducible assumption, by with_reducible assumption, by with_reducible assumption, by with_reducible assumption, by with_reducible assumption, by with_reducible assumption, by with_reducible assumption⟩ (fun hHeld => ?_)
      clear hK K
      try simp only [Act.put, List.setIfInBounds_toArray, List.set_cons_zero, List.set_cons_succ]
      refine wpAnyH_take (i := 5) (oi := ?oi16_5) (v := ?vv16_5) ?hi16_5 (by kernel_rfl) (by kernel_rfl) (by kernel_rfl) ?hq16_5 ?hy16_5 hHeld ?rest16_5
      case hi16_5 => (simp only [List.getElem?_toArray, List.getElem?_cons_succ, List.getElem?_cons_zero]; rfl)
      case hq16_5 => exact fun _ _ _ h => h
      case hy16_5 =>
        refine Or.inl ⟨by rfl, ?_⟩
        intro wS hSw
        try dsimp only at hSw
        obtain ⟨q0, q1, q2, q3, q4, q5, q6, q7, q8⟩ := hSw
        go_simp
        try with_reducible rfl
      simp only [Act.put, List.setIfInBounds_toArray, List.set_cons_zero, List.set_cons_succ]
      refine wpAnyH_ready (rs := [9]) (by kernel_rfl) (by simp) ?_
      refine AllReadyH.cons rfl (fun K hK => ?_) AllReadyH.nil
      go_simp
      refine (refMul_any dX hk (by omega) (by omega)).mono ?_
      rintro e w10 ⟨v2, rfl, f2, hf10⟩
      replace rX := rX.fwd hf10
      replace rY := rY.fwd hf10
      replace hk := hk.fwd hf10
      replace nX := nX.fwd hf10
      replace dX := dX.fwd hf10
      replace f1 := f1.fwd hf10
      replace kA := kA.fwd hf10
      replace kX := kX.fwd hf10
      replace kY := kY.fwd hf10
      replace hF := hF.trans hf10
      clear hf10
      clear ac0 ac1 ac2
      have ac0 := BlkV.cell kA 0 rfl
      have ac1 := BlkV.cell kA 1 rfl
      have ac2 := BlkV.cell kA 2 rfl
      clear xc0 xc1 xc2
      have xc0 := BlkV.cell kX 0 rfl
      have xc1 := BlkV.cell kX 1 rfl
      have xc2 := BlkV.cell kX 2 rfl
      clear yc0 yc1 yc2
      have yc0 := BlkV.cell kY 0 rfl
      have yc1 := BlkV.cell kY 1 rfl
      have yc2 := BlkV.cell kY 2 rfl
      go_wp2_with fail
      clear hHeld
      refine hK.out _ _ ⟨by with_reducible assumption, by with_reducible assumption, by with_reducible assumption, by with_reducible assumption, by with_reducible assumption, by with_reducible assumption, by with_reducible assumption, by with_reducible assumption, by with_reducible assumption⟩ (fun hHeld => ?_)
      clear hK K
      try simp only [Act.put, List.setIfInBounds_toArray, List.set_cons_zero, List.set_cons_succ]
      refine wpAnyH_ready (rs := [10]) (by kernel_rfl) (by simp) ?_
      refine AllReadyH.cons rfl (fun K hK => ?_) AllReadyH.nil
      go_simp
      refine (refText_any f2 (by omega)).mono ?_
      rintro e w11 ⟨rfl, hf11⟩
      replace rX := rX.fwd hf11
      replace rY := rY.fwd hf11
      replace hk := hk.fwd hf11
      replace nX := nX.fwd hf11
      replace dX := dX.fwd hf11
      replace f1 := f1.fwd hf11
      replace f2 := f2.fwd hf11
      replace kA := kA.fwd hf11
      replace kX := kX.fwd hf11
      replace kY := kY.fwd hf11
      replace hF := hF.trans hf11
      clear hf11
      clear ac0 ac1 ac2
      have ac0 := BlkV.cell kA 0 rfl
      have ac1 := BlkV.cell kA 1 rfl
      have ac2 := BlkV.cell kA 2 rfl
      clear xc0 xc1 xc2
      have xc0 := BlkV.cell kX 0 rfl
      have xc1 := BlkV.cell kX 1 rfl
      have xc2 := BlkV.cell kX 2 rfl
      clear yc0 yc1 yc2
      have yc0 := BlkV.cell kY 0 rfl
      have yc1 := BlkV.cell kY 1 rfl
      have yc2 := BlkV.cell kY 2 rfl
      rw [HP2.out]
      go_wp2_with fail
      clear hHeld
      refine hK.out _ _ ⟨by with_reducible assumption, by with_reducible assumption, by with_reducible assumption, by with_reducible assumption, by with_reducible assumption, by with_reducible assumption, by with_reducible assumption, by with_reducible assumption, by with_reducible assumption⟩ (fun hHeld => ?_)
      clear hK K
      try simp only [Act.put, List.setIfInBounds_toArray, List.set_cons_zero, List.set_cons_succ]
      refine wpAnyH_take (i := 11) (oi := ?oi17_11) (v := ?vv17_11) ?hi17_11 (by kernel_rfl) (by kernel_rfl) (by kernel_rfl) ?hq17_11 ?hy17_11 hHeld ?rest17_11
      case hi17_11 => (simp only [List.getElem?_toArray, List.getElem?_cons_succ, List.getElem?_cons_zero]; rfl)
      case hq17_11 => exact fun _ _ _ h => h
      case hy17_11 =>
        refine Or.inl ⟨by rfl, ?_⟩
        intro wS hSw
        try dsimp only at hSw
        obtain ⟨q0, q1, q2, q3, q4, q5, q6, q7, q8⟩ := hSw
        go_simp
        try with_reducible rfl
      simp only [Act.put, List.setIfInBounds_toArray, List.set_cons_zero, List.set_cons_succ]
      refine wpAnyH_take (i := 12) (oi := ?oi18_12) (v := ?vv18_12) ?hi18_12 (by kernel_rfl) (by kernel_rfl) (by kernel_rfl) ?hq18_12 ?hy18_12 hHeld ?rest18_12
      case hi18_12 => (simp only [List.getElem?_toArray, List.getElem?_cons_succ, List.getElem?_cons_zero]; rfl)
      case hq18_12 => exact fun _ _ _ h => h
      case hy18_12 =>
        refine Or.inl ⟨by rfl, ?_⟩
        intro wS hSw
        try dsimp only at hSw
        obtain ⟨q0, q1, q2, q3, q4, q5, q6, q7, q8⟩ := hSw
        go_simp
        try with_reducible rfl
      simp only [Act.put, List.setIfInBounds_toArray, List.set_cons_zero, List.set_cons_succ]
      refine wpAnyH_done (by kernel_rfl) ?_ _
      clear f1 f2 nX dX hk
      have HUU : Hid (parseQE (t1 ++ ⟨#[47]⟩ ++ t2) = 0 ∧ parseQV (t1 ++ ⟨#[47]⟩ ++ t2) = q) := hid (by
        obtain ⟨u1, u2⟩ := HU.out (t1 ++ ⟨#[47]⟩ ++ t2) (by rw [← HP1.out, ← HP2.out]; simp [ByteArray.data_append, textOf_data, signB])
        rw [if_neg HNZ.out] at u1
        exact ⟨u1, u2.trans HS.out⟩)
      have zU : ((t1 ++ ⟨#[47]⟩ ++ t2) : ByteArray).size ≤ 999990 := by rw [z5]; omega
      go_wp2_with fail
      generalize (t1 ++ ⟨#[47]⟩ ++ t2) = uu at HUU zU ⊢
      clear z1 z2 z4 z5 z6 hov1 hov2 hov3
      refine (rparse_any _ uu zU).mono ?_
      rintro e w12 ⟨v, rfl, hp, hf12⟩
      replace rX := rX.fwd hf12
      replace rY := rY.fwd hf12
      replace kA := kA.fwd hf12
      replace kX := kX.fwd hf12
      replace kY := kY.fwd hf12
      replace hF := hF.trans hf12
      clear hf12
      clear ac0 ac1 ac2
      have ac0 := BlkV.cell kA 0 rfl
      have ac1 := BlkV.cell kA 1 rfl
      have ac2 := BlkV.cell kA 2 rfl
      clear xc0 xc1 xc2
      have xc0 := BlkV.cell kX 0 rfl
      have xc1 := BlkV.cell kX 1 rfl
      have xc2 := BlkV.cell kX 2 rfl
      clear yc0 yc1 yc2
      have yc0 := BlkV.cell kY 0 rfl
      have yc1 := BlkV.cell kY 1 rfl
      have yc2 := BlkV.cell kY 2 rfl
      have rZ := hp.1 HUU.out.1
      rw [HUU.out.2] at rZ
      rw [HUU.out.1]
      clear hp
      have HV := hid rZ
      obtain ⟨poZ, pcZ, qoZ, qcZ, rfl, p1Z, p2Z, p3Z, p4Z, -, -⟩ := RW.open rZ.rw'
      clear rZ
      have rZ := HV.out
      clear HV
      rw [HN.out] at rZ ⊢
      have ltA12 := BlkV.lt kA
      have ltX12 := BlkV.lt kX
      have ltY12 := BlkV.lt kY
      have hfB : Fwd w12 (w12.alloc (.cells #[.bool false, .slice poZ (nl q.num.natAbs) pcZ, .slice qoZ (nl q.den) qcZ] 24)) := (Fwd.refl _).alloc _
      replace rX := rX.fwd hfB
      replace rY := rY.fwd hfB
      replace rZ := rZ.fwd hfB
      replace kA := kA.fwd hfB
      replace kX := kX.fwd hfB
      replace kY := kY.fwd hfB
      replace hF := hF.trans hfB
      clear hfB
      clear ac0 ac1 ac2
      have ac0 := BlkV.cell kA 0 rfl
      have ac1 := BlkV.cell kA 1 rfl
      have ac2 := BlkV.cell kA 2 rfl
      clear xc0 xc1 xc2
      have xc0 := BlkV.cell kX 0 rfl
      have xc1 := BlkV.cell kX 1 rfl
      have xc2 := BlkV.cell kX 2 rfl
      clear yc0 yc1 yc2
      have yc0 := BlkV.cell kY 0 rfl
      have yc1 := BlkV.cell kY 1 rfl
      have yc2 := BlkV.cell kY 2 rfl
      have kZ := BlkV.made w12 24 [.bool false, .slice poZ (nl q.num.natAbs) pcZ, .slice qoZ (nl q.den) qcZ]
      go_upto_region 13 with fail
      generalize (w12.alloc (.cells #[.bool false, .slice poZ (nl q.num.natAbs) pcZ, .slice qoZ (nl q.den) qcZ] 24)) = w13 at kZ rX rY rZ kA kX kY hF ⊢
      clear ac0 ac1 ac2 xc0 xc1 xc2 yc0 yc1 yc2
      have ac0 := BlkV.cell kA 0 rfl
      have ac1 := BlkV.cell kA 1 rfl
      have ac2 := BlkV.cell kA 2 rfl
      have xc0 := BlkV.cell kX 0 rfl
      have xc1 := BlkV.cell kX 1 rfl
      have xc2 := BlkV.cell kX 2 rfl
      have yc0 := BlkV.cell kY 0 rfl
      have yc1 := BlkV.cell kY 1 rfl
      have yc2 := BlkV.cell kY 2 rfl
      have zc0 := BlkV.cell kZ 0 rfl
      have zc1 := BlkV.cell kZ 1 rfl
      have zc2 := BlkV.cell kZ 2 rfl
      go_wp2_with fail
      refine (text2_raw rX.rw' (by omega) (by omega)).mono ?_
      rintro e w14 ⟨rfl, hf14⟩
      replace rX := rX.fwd hf14
      replace rY := rY.fwd hf14
      replace rZ := rZ.fwd hf14
      replace kA := kA.fwd hf14
      replace kX := kX.fwd hf14
      replace kY := kY.fwd hf14
      replace kZ := kZ.fwd hf14
      replace hF := hF.trans hf14
      clear hf14
      clear ac0 ac1 ac2
      have ac0 := BlkV.cell kA 0 rfl
      have ac1 := BlkV.cell kA 1 rfl
      have ac2 := BlkV.cell kA 2 rfl
      clear xc0 xc1 xc2
      have xc0 := BlkV.cell kX 0 rfl
      have xc1 := BlkV.cell kX 1 rfl
      have xc2 := BlkV.cell kX 2 rfl
      clear yc0 yc1 yc2
      have yc0 := BlkV.cell kY 0 rfl
      have yc1 := BlkV.cell kY 1 rfl
      have yc2 := BlkV.cell kY 2 rfl
      clear zc0 zc1 zc2
      have zc0 := BlkV.cell kZ 0 rfl
      have zc1 := BlkV.cell kZ 1 rfl
      have zc2 := BlkV.cell kZ 2 rfl
      rw [← HT.out]
      go_wp2_with fail
      refine (same2_true rY rX (by omega) (by omega) rfl).mono ?_
      rintro e w15 ⟨rfl, hf15⟩
      replace rX := rX.fwd hf15
      replace rY := rY.fwd hf15
      replace rZ := rZ.fwd hf15
      replace kA := kA.fwd hf15
      replace kX := kX.fwd hf15
      replace kY := kY.fwd hf15
      replace kZ := kZ.fwd hf15
      replace hF := hF.trans hf15
      clear hf15
      clear ac0 ac1 ac2
      have ac0 := BlkV.cell kA 0 rfl
      have ac1 := BlkV.cell kA 1 rfl
      have ac2 := BlkV.cell kA 2 rfl
      clear xc0 xc1 xc2
      have xc0 := BlkV.cell kX 0 rfl
      have xc1 := BlkV.cell kX 1 rfl
      have xc2 := BlkV.cell kX 2 rfl
      clear yc0 yc1 yc2
      have yc0 := BlkV.cell kY 0 rfl
      have yc1 := BlkV.cell kY 1 rfl
      have yc2 := BlkV.cell kY 2 rfl
      clear zc0 zc1 zc2
      have zc0 := BlkV.cell kZ 0 rfl
      have zc1 := BlkV.cell kZ 1 rfl
      have zc2 := BlkV.cell kZ 2 rfl
      go_wp2_with fail
      refine (same2_true rZ rX (by omega) (by omega) rfl).mono ?_
      rintro e w16 ⟨rfl, hf16⟩
      replace rX := rX.fwd hf16
      replace rY := rY.fwd hf16
      replace rZ := rZ.fwd hf16
      replace kA := kA.fwd hf16
      replace kX := kX.fwd hf16
      replace kY := kY.fwd hf16
      replace kZ := kZ.fwd hf16
      replace hF := hF.trans hf16
      clear hf16
      clear ac0 ac1 ac2
      have ac0 := BlkV.cell kA 0 rfl
      have ac1 := BlkV.cell kA 1 rfl
      have ac2 := BlkV.cell kA 2 rfl
      clear xc0 xc1 xc2
      have xc0 := BlkV.cell kX 0 rfl
      have xc1 := BlkV.cell kX 1 rfl
      have xc2 := BlkV.cell kX 2 rfl
      clear yc0 yc1 yc2
      have yc0 := BlkV.cell kY 0 rfl
      have yc1 := BlkV.cell kY 1 rfl
      have yc2 := BlkV.cell kY 2 rfl
      clear zc0 zc1 zc2
      have zc0 := BlkV.cell kZ 0 rfl
      have zc1 := BlkV.cell kZ 1 rfl
      have zc2 := BlkV.cell kZ 2 rfl
      go_wp2_with fail
      go_ret
      exact ⟨rfl, hF⟩
  · have HN := hid hsg
    clear hsg
    have kA : BlkV (w.alloc (.cells #[.bool sa, vNa, vDa] 24)) (w.heap.size) 24 [.bool sa, vNa, vDa] := BlkV.made' w (w.heap.size) (by simp) 24 [.bool sa, vNa, vDa]
    have hF : Fwd w (w.alloc (.cells #[.bool sa, vNa, vDa] 24)) := (Fwd.refl w).alloc _
    replace aN := aN.fwd hF
    replace aD := aD.fwd hF
    replace ha0 := ha0.fwd hF
    replace hb := hb.fwd hF
    go_enter Tryd.func4, Tryd.ntmps4
    have ac0 := BlkV.cell kA 0 rfl
    have ac1 := BlkV.cell kA 1 rfl
    have ac2 := BlkV.cell kA 2 rfl
    go_wp2_with fail
    refine (known2_any _).mono ?_
    rintro e w1 ⟨rfl, hf1⟩
    replace aN := aN.fwd hf1
    replace aD := aD.fwd hf1
    replace ha0 := ha0.fwd hf1
    replace hb := hb.fwd hf1
    replace kA := kA.fwd hf1
    replace hF := hF.trans hf1
    clear hf1
    clear ac0 ac1 ac2
    have ac0 := BlkV.cell kA 0 rfl
    have ac1 := BlkV.cell kA 1 rfl
    have ac2 := BlkV.cell kA 2 rfl
    clear aN aD
    go_wp2_with fail
    refine (make2law_any ha0).mono ?_
    rintro e w2 ⟨v, rfl, rX, hf2⟩
    replace ha0 := ha0.fwd hf2
    replace hb := hb.fwd hf2
    replace kA := kA.fwd hf2
    replace hF := hF.trans hf2
    clear hf2
    clear ac0 ac1 ac2
    have ac0 := BlkV.cell kA 0 rfl
    have ac1 := BlkV.cell kA 1 rfl
    have ac2 := BlkV.cell kA 2 rfl
    rw [← HQ.out] at rX
    have HV := hid rX
    obtain ⟨poX, pcX, qoX, qcX, rfl, p1X, p2X, p3X, p4X, -, -⟩ := RW.open rX.rw'
    clear rX
    have rX := HV.out
    clear HV
    rw [HN.out] at rX ⊢
    clear ha0
    have ltA2 := BlkV.lt kA
    have hfB : Fwd w2 (w2.alloc (.cells #[.bool true, .slice poX (nl q.num.natAbs) pcX, .slice qoX (nl q.den) qcX] 24)) := (Fwd.refl _).alloc _
    replace hb := hb.fwd hfB
    replace rX := rX.fwd hfB
    replace kA := kA.fwd hfB
    replace hF := hF.trans hfB
    clear hfB
    clear ac0 ac1 ac2
    have ac0 := BlkV.cell kA 0 rfl
    have ac1 := BlkV.cell kA 1 rfl
    have ac2 := BlkV.cell kA 2 rfl
    have kX := BlkV.made w2 24 [.bool true, .slice poX (nl q.num.natAbs) pcX, .slice qoX (nl q.den) qcX]
    go_upto_region 4 with fail
    generalize (w2.alloc (.cells #[.bool true, .slice poX (nl q.num.natAbs) pcX, .slice qoX (nl q.den) qcX] 24)) = w3 at kX hb rX kA hF ⊢
    clear ac0 ac1 ac2
    have ac0 := BlkV.cell kA 0 rfl
    have ac1 := BlkV.cell kA 1 rfl
    have ac2 := BlkV.cell kA 2 rfl
    have xc0 := BlkV.cell kX 0 rfl
    have xc1 := BlkV.cell kX 1 rfl
    have xc2 := BlkV.cell kX 2 rfl
    go_wp2_with fail
    refine (rtext_raw rX.rw' (by omega) (by omega)).mono ?_
    rintro e w4 ⟨rfl, hf4⟩
    replace hb := hb.fwd hf4
    replace rX := rX.fwd hf4
    replace kA := kA.fwd hf4
    replace kX := kX.fwd hf4
    replace hF := hF.trans hf4
    clear hf4
    clear ac0 ac1 ac2
    have ac0 := BlkV.cell kA 0 rfl
    have ac1 := BlkV.cell kA 1 rfl
    have ac2 := BlkV.cell kA 2 rfl
    clear xc0 xc1 xc2
    have xc0 := BlkV.cell kX 0 rfl
    have xc1 := BlkV.cell kX 1 rfl
    have xc2 := BlkV.cell kX 2 rfl
    rw [← HT.out]
    go_wp2_with fail
    refine (rparse_any _ sT zT).mono ?_
    rintro e w5 ⟨v, rfl, hp, hf5⟩
    replace hb := hb.fwd hf5
    replace rX := rX.fwd hf5
    replace kA := kA.fwd hf5
    replace kX := kX.fwd hf5
    replace hF := hF.trans hf5
    clear hf5
    clear ac0 ac1 ac2
    have ac0 := BlkV.cell kA 0 rfl
    have ac1 := BlkV.cell kA 1 rfl
    have ac2 := BlkV.cell kA 2 rfl
    clear xc0 xc1 xc2
    have xc0 := BlkV.cell kX 0 rfl
    have xc1 := BlkV.cell kX 1 rfl
    have xc2 := BlkV.cell kX 2 rfl
    have rY := hp.1 HP.out.1
    rw [HP.out.2] at rY
    rw [HP.out.1]
    clear hp
    have HV := hid rY
    obtain ⟨poY, pcY, qoY, qcY, rfl, p1Y, p2Y, p3Y, p4Y, -, -⟩ := RW.open rY.rw'
    clear rY
    have rY := HV.out
    clear HV
    rw [HN.out] at rY ⊢
    have ltA5 := BlkV.lt kA
    have ltX5 := BlkV.lt kX
    have hfB : Fwd w5 (w5.alloc (.cells #[.bool true, .slice poY (nl q.num.natAbs) pcY, .slice qoY (nl q.den) qcY] 24)) := (Fwd.refl _).alloc _
    replace hb := hb.fwd hfB
    replace rX := rX.fwd hfB
    replace rY := rY.fwd hfB
    replace kA := kA.fwd hfB
    replace kX := kX.fwd hfB
    replace hF := hF.trans hfB
    clear hfB
    clear ac0 ac1 ac2
    have ac0 := BlkV.cell kA 0 rfl
    have ac1 := BlkV.cell kA 1 rfl
    have ac2 := BlkV.cell kA 2 rfl
    clear xc0 xc1 xc2
    have xc0 := BlkV.cell kX 0 rfl
    have xc1 := BlkV.cell kX 1 rfl
    have xc2 := BlkV.cell kX 2 rfl
    have kY := BlkV.made w5 24 [.bool true, .slice poY (nl q.num.natAbs) pcY, .slice qoY (nl q.den) qcY]
    go_upto_region 6 with fail
    generalize (w5.alloc (.cells #[.bool true, .slice poY (nl q.num.natAbs) pcY, .slice qoY (nl q.den) qcY] 24)) = w6 at kY hb rX rY kA kX hF ⊢
    clear ac0 ac1 ac2 xc0 xc1 xc2
    have ac0 := BlkV.cell kA 0 rfl
    have ac1 := BlkV.cell kA 1 rfl
    have ac2 := BlkV.cell kA 2 rfl
    have xc0 := BlkV.cell kX 0 rfl
    have xc1 := BlkV.cell kX 1 rfl
    have xc2 := BlkV.cell kX 2 rfl
    have yc0 := BlkV.cell kY 0 rfl
    have yc1 := BlkV.cell kY 1 rfl
    have yc2 := BlkV.cell kY 2 rfl
    go_wp2_with fail
    refine (make_any 3 hb (by omega) (by omega)).mono ?_
    rintro e w7 ⟨vk, rfl, hk, hf7⟩
    replace hb := hb.fwd hf7
    replace rX := rX.fwd hf7
    replace rY := rY.fwd hf7
    replace kA := kA.fwd hf7
    replace kX := kX.fwd hf7
    replace kY := kY.fwd hf7
    replace hF := hF.trans hf7
    clear hf7
    clear ac0 ac1 ac2
    have ac0 := BlkV.cell kA 0 rfl
    have ac1 := BlkV.cell kA 1 rfl
    have ac2 := BlkV.cell kA 2 rfl
    clear xc0 xc1 xc2
    have xc0 := BlkV.cell kX 0 rfl
    have xc1 := BlkV.cell kX 1 rfl
    have xc2 := BlkV.cell kX 2 rfl
    clear yc0 yc1 yc2
    have yc0 := BlkV.cell kY 0 rfl
    have yc1 := BlkV.cell kY 1 rfl
    have yc2 := BlkV.cell kY 2 rfl
    rw [← HK.out] at hk
    clear hb
    obtain ⟨nX, dX⟩ := RW.numsX rX.rw'
    obtain ⟨ko, kc, rfl, k1, k2, _⟩ := hk.parts
    unfold maxLen at k2
    by_cases hK0 : K = 0
    · have nk : nl K = 0 := by rw [hK0, nl_zero]
      rw [nk]
      clear hK0 hk
      have HK0 : Hid ((2 : Nat) ≠ 0) := hid (by decide)
      have b22 : nl 2 ≤ 1 := nl_one (by omega)
      have hk := num_lit w7 [2] 2 (by decide) 1 rfl (by omega) #[.int .u32 2] rfl
      have hfl : Fwd w7 (w7.alloc (.cells #[.int .u32 2] 40)) := (Fwd.refl _).alloc _
      replace rX := rX.fwd hfl
      replace rY := rY.fwd hfl
      replace nX := nX.fwd hfl
      replace dX := dX.fwd hfl
      replace kA := kA.fwd hfl
      replace kX := kX.fwd hfl
      replace kY := kY.fwd hfl
      replace hF := hF.trans hfl
      clear hfl
      clear ac0 ac1 ac2
      have ac0 := BlkV.cell kA 0 rfl
      have ac1 := BlkV.cell kA 1 rfl
      have ac2 := BlkV.cell kA 2 rfl
      clear xc0 xc1 xc2
      have xc0 := BlkV.cell kX 0 rfl
      have xc1 := BlkV.cell kX 1 rfl
      have xc2 := BlkV.cell kX 2 rfl
      clear yc0 yc1 yc2
      have yc0 := BlkV.cell kY 0 rfl
      have yc1 := BlkV.cell kY 1 rfl
      have yc2 := BlkV.cell kY 2 rfl
      go_upto_region 9 with fail
      generalize (w7.alloc (.cells #[.int .u32 2] 40)) = w8 at hF ⊢ rX rY nX dX hk kA kX kY ac0 ac1 ac2 xc0 xc1 xc2 yc0 yc1 yc2
      have e1 := nl_mul q.num.natAbs (2)
      have e2 := nl_mul q.den (2)
      have l3 := len_dec (q.num.natAbs * (2))
      have l4 := len_dec (q.den * (2))
      have z1 := size_text6 (q.num.natAbs * (2)) (by omega)
      have z2 := size_text6 (q.den * (2)) (by omega)
      have HU := hid (fun (U : ByteArray) (hU : U.data.toList = signB true ++ (digB (q.num.natAbs * (2)) ++ 47 :: digB (q.den * (2)))) => parse_told (s := true) (by omega) (by omega) hU)
      have HS : Hid (mkQ true (q.num.natAbs * (2)) (q.den * (2)) = q) := hid (by rw [mkQ_scale q.den_nz HK0.out, ← HN.out, mkQ_self])
      have HNZ : Hid (q.den * (2) ≠ 0) := hid (Nat.mul_ne_zero q.den_nz HK0.out)
      generalize hP1 : textOf (q.num.natAbs * (2)) = t1 at z1
      generalize hP2 : textOf (q.den * (2)) = t2 at z2
      have HP1 := hid hP1
      have HP2 := hid hP2
      clear hP1 hP2
      have z4 := size_slash t1
      have z5 : (t1 ++ ⟨#[47]⟩ ++ t2 : ByteArray).size = t1.size + 1 + t2.size := by rw [ByteArray.size_append, z4]
      have z6 := size_dash (t1 ++ ⟨#[47]⟩ ++ t2)
      have hov1 : ¬ 9223372036854775807 < t1.size + 1 := by omega
      have hov2 : ¬ 9223372036854775807 < t1.size + 1 + t2.size := by omega
      have hov3 : ¬ 9223372036854775807 < 1 + (t1.size + 1 + t2.size) := by omega
      go_upto_region 9 with fail
      replace rX := rX.drew
      replace rY := rY.drew
      replace nX := nX.drew
      replace dX := dX.drew
      replace hk := hk.drew
      replace kA := kA.drew
      replace kX := kX.drew
      replace kY := kY.drew
      replace hF := hF.drew
      clear ac0 ac1 ac2
      have ac0 := BlkV.cell kA 0 rfl
      have ac1 := BlkV.cell kA 1 rfl
      have ac2 := BlkV.cell kA 2 rfl
      clear xc0 xc1 xc2
      have xc0 := BlkV.cell kX 0 rfl
      have xc1 := BlkV.cell kX 1 rfl
      have xc2 := BlkV.cell kX 2 rfl
      clear yc0 yc1 yc2
      have yc0 := BlkV.cell kY 0 rfl
      have yc1 := BlkV.cell kY 1 rfl
      have yc2 := BlkV.cell kY 2 rfl
      refine wp_region_held_drew (S := fun w' => w'.cell? ⟨w.heap.size, 0, none⟩ = some (.bool sa) ∧ w'.cell? ⟨w.heap.size, 1, none⟩ = some (vNa) ∧ w'.cell? ⟨w.heap.size, 2, none⟩ = some (vDa) ∧ w'.cell? ⟨w2.heap.size, 0, none⟩ = some (.bool true) ∧ w'.cell? ⟨w2.heap.size, 1, none⟩ = some (.slice poX (nl q.num.natAbs) pcX) ∧ w'.cell? ⟨w2.heap.size, 2, none⟩ = some (.slice qoX (nl q.den) qcX) ∧ w'.cell? ⟨w5.heap.size, 0, none⟩ = some (.bool true) ∧ w'.cell? ⟨w5.heap.size, 1, none⟩ = some (.slice poY (nl q.num.natAbs) pcY) ∧ w'.cell? ⟨w5.heap.size, 2, none⟩ = some (.slice qoY (nl q.den) qcY)) (by kernel_rfl) ⟨by with_reducible assumption, by with_reducible assumption, by with_reducible assumption, by with_reducible assumption, by with_reducible assumption, by with_reducible assumption, by with_reducible assumption, by with_reducible assumption, by with_reducible assumption⟩ (fun hHeld => ?_)
      refine wpAnyH_take (i := 0) (oi := ?oi19_0) (v := ?vv19_0) ?hi19_0 (by kernel_rfl) (by kernel_rfl) (by kernel_rfl) ?hq19_0 ?hy19_0 hHeld ?rest19_0
      case hi19_0 => (simp only [List.getElem?_toArray, List.getElem?_cons_succ, List.getElem?_cons_zero]; rfl)
      case hq19_0 => exact fun _ _ _ h => h
      case hy19_0 =>
        refine Or.inl ⟨by rfl, ?_⟩
        intro wS hSw
        try dsimp only at hSw
        obtain ⟨q0, q1, q2, q3, q4, q5, q6, q7, q8⟩ := hSw
        go_simp
        try with_reducible rfl
      simp only [Act.put, List.setIfInBounds_toArray, List.set_cons_zero, List.set_cons_succ]
      refine wpAnyH_take (i := 1) (oi := ?oi20_1) (v := ?vv20_1) ?hi20_1 (by kernel_rfl) (by kernel_rfl) (by kernel_rfl) ?hq20_1 ?hy20_1 hHeld ?rest20_1
      case hi20_1 => (simp only [List.getElem?_toArray, List.getElem?_cons_succ, List.getElem?_cons_zero]; rfl)
      case hq20_1 => exact fun _ _ _ h => h
      case hy20_1 =>
        refine Or.inl ⟨by rfl, ?_⟩
        intro wS hSw
        try dsimp only at hSw
        obtain ⟨q0, q1, q2, q3, q4, q5, q6, q7, q8⟩ := hSw
        go_simp
        try with_reducible rfl
      simp only [Act.put, List.setIfInBounds_toArray, List.set_cons_zero, List.set_cons_succ]
      refine wpAnyH_take (i := 2) (oi := ?oi21_2) (v := ?vv21_2) ?hi21_2 (by kernel_rfl) (by kernel_rfl) (by kernel_rfl) ?hq21_2 ?hy21_2 hHeld ?rest21_2
      case hi21_2 => (simp only [List.getElem?_toArray, List.getElem?_cons_succ, List.getElem?_cons_zero]; rfl)
      case hq21_2 => exact fun _ _ _ h => h
      case hy21_2 =>
        refine Or.inl ⟨by rfl, ?_⟩
        intro wS hSw
        try dsimp only at hSw
        obtain ⟨q0, q1, q2, q3, q4, q5, q6, q7, q8⟩ := hSw
        go_simp
        try with_reducible rfl
      simp only [Act.put, List.setIfInBounds_toArray, List.set_cons_zero, List.set_cons_succ]
      refine wpAnyH_take (i := 6) (oi := ?oi22_6) (v := ?vv22_6) ?hi22_6 (by kernel_rfl) (by kernel_rfl) (by kernel_rfl) ?hq22_6 ?hy22_6 hHeld ?rest22_6
      case hi22_6 => (simp only [List.getElem?_toArray, List.getElem?_cons_succ, List.getElem?_cons_zero]; rfl)
      case hq22_6 => exact fun _ _ _ h => h
      case hy22_6 =>
        refine Or.inl ⟨by rfl, ?_⟩
        intro wS hSw
        try dsimp only at hSw
        obtain ⟨q0, q1, q2, q3, q4, q5, q6, q7, q8⟩ := hSw
        go_simp
        try with_reducible rfl
      simp only [Act.put, List.setIfInBounds_toArray, List.set_cons_zero, List.set_cons_succ]
      refine wpAnyH_take (i := 7) (oi := ?oi23_7) (v := ?vv23_7) ?hi23_7 (by kernel_rfl) (by kernel_rfl) (by kernel_rfl) ?hq23_7 ?hy23_7 hHeld ?rest23_7
      case hi23_7 => (simp only [List.getElem?_toArray, List.getElem?_cons_succ, List.getElem?_cons_zero]; rfl)
      case hq23_7 => exact fun _ _ _ h => h
      case hy23_7 =>
        refine Or.inl ⟨by rfl, ?_⟩
        intro wS hSw
        try dsimp only at hSw
        obtain ⟨q0, q1, q2, q3, q4, q5, q6, q7, q8⟩ := hSw
        go_simp
        try with_reducible rfl
      simp only [Act.put, List.setIfInBounds_toArray, List.set_cons_zero, List.set_cons_succ]
      refine wpAnyH_take (i := 8) (oi := ?oi24_8) (v := ?vv24_8) ?hi24_8 (by kernel_rfl) (by kernel_rfl) (by kernel_rfl) ?hq24_8 ?hy24_8 hHeld ?rest24_8
      case hi24_8 => (simp only [List.getElem?_toArray, List.getElem?_cons_succ, List.getElem?_cons_zero]; rfl)
      case hq24_8 => exact fun _ _ _ h => h
      case hy24_8 =>
        refine Or.inl ⟨by rfl, ?_⟩
        intro wS hSw
        try dsimp only at hSw
        obtain ⟨q0, q1, q2, q3, q4, q5, q6, q7, q8⟩ := hSw
        go_simp
        try with_reducible rfl
      simp only [Act.put, List.setIfInBounds_toArray, List.set_cons_zero, List.set_cons_succ]
      refine wpAnyH_ready (rs := [3]) (by kernel_rfl) (by simp) ?_
      refine AllReadyH.cons rfl (fun K hK => ?_) AllReadyH.nil
      go_simp
      refine (refMul_any nX hk (by omega) (by omega)).mono ?_
      rintro e w9 ⟨v1, rfl, f1, hf9⟩
      replace rX := rX.fwd hf9
      replace rY := rY.fwd hf9
      replace nX := nX.fwd hf9
      replace dX := dX.fwd hf9
      replace hk := hk.fwd hf9
      replace kA := kA.fwd hf9
      replace kX := kX.fwd hf9
      replace kY := kY.fwd hf9
      replace hF := hF.trans hf9
      clear hf9
      clear ac0 ac1 ac2
      have ac0 := BlkV.cell kA 0 rfl
      have ac1 := BlkV.cell kA 1 rfl
      have ac2 := BlkV.cell kA 2 rfl
      clear xc0 xc1 xc2
      have xc0 := BlkV.cell kX 0 rfl
      have xc1 := BlkV.cell kX 1 rfl
      have xc2 := BlkV.cell kX 2 rfl
      clear yc0 yc1 yc2
      have yc0 := BlkV.cell kY 0 rfl
      have yc1 := BlkV.cell kY 1 rfl
      have yc2 := BlkV.cell kY 2 rfl
      go_wp2_with fail
      clear hHeld
      refine hK.out _ _ ⟨by with_reducible assumption, by with_reducible assumption, by with_reducible assumption, by with_reducible assumption, by with_reducible assumption, by with_reducible assumption, by with_reducible assumption, by with_reducible assumption, by with_reducible assumption⟩ (fun hHeld => ?_)
      clear hK K
      try simp only [Act.put, List.setIfInBounds_toArray, List.set_cons_zero, List.set_cons_succ]
      refine wpAnyH_ready (rs := [4]) (by kernel_rfl) (by simp) ?_
      refine AllReadyH.cons rfl (fun K hK => ?_) AllReadyH.nil
      go_simp
      refine (refText_any f1 (by omega)).mono ?_
      rintro e w10 ⟨rfl, hf10⟩
      replace rX := rX.fwd hf10
      replace rY := rY.fwd hf10
      replace nX := nX.fwd hf10
      replace dX := dX.fwd hf10
      replace hk := hk.fwd hf10
      replace f1 := f1.fwd hf10
      replace kA := kA.fwd hf10
      replace kX := kX.fwd hf10
      replace kY := kY.fwd hf10
      replace hF := hF.trans hf10
      clear hf10
      clear ac0 ac1 ac2
      have ac0 := BlkV.cell kA 0 rfl
      have ac1 := BlkV.cell kA 1 rfl
      have ac2 := BlkV.cell kA 2 rfl
      clear xc0 xc1 xc2
      have xc0 := BlkV.cell kX 0 rfl
      have xc1 := BlkV.cell kX 1 rfl
      have xc2 := BlkV.cell kX 2 rfl
      clear yc0 yc1 yc2
      have yc0 := BlkV.cell kY 0 rfl
      have yc1 := BlkV.cell kY 1 rfl
      have yc2 := BlkV.cell kY 2 rfl
      rw [HP1.out]
      go_wp2_with fail
      clear hHeld
      refine hK.out _ _ ⟨by with_reducible assumption, by with_reducible assumption, by with_reducible assumption, by with_reducible assumption, by with_reducible assumption, by with_reducible assumption, by with_reducible assumption, by with_reducible assumption, by with_reducible assumption⟩ (fun hHeld => ?_)
      clear hK K
      try simp only [Act.put, List.setIfInBounds_toArray, List.set_cons_zero, List.set_cons_succ]
      refine wpAnyH_take (i := 5) (oi := ?oi25_5) (v := ?vv25_5) ?hi25_5 (by kernel_rfl) (by kernel_rfl) (by kernel_rfl) ?hq25_5 ?hy25_5 hHeld ?rest25_5
      case hi25_5 => (simp only [List.getElem?_toArray, List.getElem?_cons_succ, List.getElem?_cons_zero]; rfl)
      case hq25_5 => exact fun _ _ _ h => h
      case hy25_5 =>
        refine Or.inl ⟨by rfl, ?_⟩
        intro wS hSw
        try dsimp only at hSw
        obtain ⟨q0, q1, q2, q3, q4, q5, q6, q7, q8⟩ := hSw
        go_simp
        try with_reducible rfl
      simp only [Act.put, List.setIfInBounds_toArray, List.set_cons_zero, List.set_cons_succ]
      refine wpAnyH_ready (rs := [9]) (by kernel_rfl) (by simp) ?_
      refine AllReadyH.cons rfl (fun K hK => ?_) AllReadyH.nil
      go_simp
      refine (refMul_any dX hk (by omega) (by omega)).mono ?_
      rintro e w11 ⟨v2, rfl, f2, hf11⟩
      replace rX := rX.fwd hf11
      replace rY := rY.fwd hf11
      replace nX := nX.fwd hf11
      replace dX := dX.fwd hf11
      replace hk := hk.fwd hf11
      replace f1 := f1.fwd hf11
      replace kA := kA.fwd hf11
      replace kX := kX.fwd hf11
      replace kY := kY.fwd hf11
      replace hF := hF.trans hf11
      clear hf11
      clear ac0 ac1 ac2
      have ac0 := BlkV.cell kA 0 rfl
      have ac1 := BlkV.cell kA 1 rfl
      have ac2 := BlkV.cell kA 2 rfl
      clear xc0 xc1 xc2
      have xc0 := BlkV.cell kX 0 rfl
      have xc1 := BlkV.cell kX 1 rfl
      have xc2 := BlkV.cell kX 2 rfl
      clear yc0 yc1 yc2
      have yc0 := BlkV.cell kY 0 rfl
      have yc1 := BlkV.cell kY 1 rfl
      have yc2 := BlkV.cell kY 2 rfl
      go_wp2_with fail
      clear hHeld
      refine hK.out _ _ ⟨by with_reducible assumption, by with_reducible assumption, by with_reducible assumption, by with_reducible assumption, by with_reducible assumption, by with_reducible assumption, by with_reducible assumption, by with_reducible assumption, by with_reducible assumption⟩ (fun hHeld => ?_)
      clear hK K
      try simp only [Act.put, List.setIfInBounds_toArray, List.set_cons_zero, List.set_cons_succ]
      refine wpAnyH_ready (rs := [10]) (by kernel_rfl) (by simp) ?_
      refine AllReadyH.cons rfl (fun K hK => ?_) AllReadyH.nil
      go_simp
      refine (refText_any f2 (by omega)).mono ?_
      rintro e w12 ⟨rfl, hf12⟩
      replace rX := rX.fwd hf12
      replace rY := rY.fwd hf12
      replace nX := nX.fwd hf12
      replace dX := dX.fwd hf12
      replace hk := hk.fwd hf12
      replace f1 := f1.fwd hf12
      replace f2 := f2.fwd hf12
      replace kA := kA.fwd hf12
      replace kX := kX.fwd hf12
      replace kY := kY.fwd hf12
      replace hF := hF.trans hf12
      clear hf12
      clear ac0 ac1 ac2
      have ac0 := BlkV.cell kA 0 rfl
      have ac1 := BlkV.cell kA 1 rfl
      have ac2 := BlkV.cell kA 2 rfl
      clear xc0 xc1 xc2
      have xc0 := BlkV.cell kX 0 rfl
      have xc1 := BlkV.cell kX 1 rfl
      have xc2 := BlkV.cell kX 2 rfl
      clear yc0 yc1 yc2
      have yc0 := BlkV.cell kY 0 rfl
      have yc1 := BlkV.cell kY 1 rfl
      have yc2 := BlkV.cell kY 2 rfl
      rw [HP2.out]
      go_wp2_with fail
      clear hHeld
      refine hK.out _ _ ⟨by with_reducible assumption, by with_reducible assumption, by with_reducible assumption, by with_reducible assumption, by with_reducible assumption, by with_reducible assumption, by with_reducible assumption, by with_reducible assumption, by with_reducible assumption⟩ (fun hHeld => ?_)
      clear hK K
      try simp only [Act.put, List.setIfInBounds_toArray, List.set_cons_zero, List.set_cons_succ]
      refine wpAnyH_take (i := 11) (oi := ?oi26_11) (v := ?vv26_11) ?hi26_11 (by kernel_rfl) (by kernel_rfl) (by kernel_rfl) ?hq26_11 ?hy26_11 hHeld ?rest26_11
      case hi26_11 => (simp only [List.getElem?_toArray, List.getElem?_cons_succ, List.getElem?_cons_zero]; rfl)
      case hq26_11 => exact fun _ _ _ h => h
      case hy26_11 =>
        refine Or.inl ⟨by rfl, ?_⟩
        intro wS hSw
        try dsimp only at hSw
        obtain ⟨q0, q1, q2, q3, q4, q5, q6, q7, q8⟩ := hSw
        go_simp
        try with_reducible rfl
      simp only [Act.put, List.setIfInBounds_toArray, List.set_cons_zero, List.set_cons_succ]
      refine wpAnyH_take (i := 12) (oi := ?oi27_12) (v := ?vv27_12) ?hi27_12 (by kernel_rfl) (by kernel_rfl) (by kernel_rfl) ?hq27_12 ?hy27_12 hHeld ?rest27_12
      case hi27_12 => (simp only [List.getElem?_toArray, List.getElem?_cons_succ, List.getElem?_cons_zero]; rfl)
      case hq27_12 => exact fun _ _ _ h => h
      case hy27_12 =>
        refine Or.inl ⟨by rfl, ?_⟩
        intro wS hSw
        try dsimp only at hSw
        obtain ⟨q0, q1, q2, q3, q4, q5, q6, q7, q8⟩ := hSw
        go_simp
        try with_reducible rfl
      simp only [Act.put, List.setIfInBounds_toArray, List.set_cons_zero, List.set_cons_succ]
      refine wpAnyH_done (by kernel_rfl) ?_ _
      clear f1 f2 nX dX hk
      have HUU : Hid (parseQE (⟨#[45]⟩ ++ (t1 ++ ⟨#[47]⟩ ++ t2)) = 0 ∧ parseQV (⟨#[45]⟩ ++ (t1 ++ ⟨#[47]⟩ ++ t2)) = q) := hid (by
        obtain ⟨u1, u2⟩ := HU.out (⟨#[45]⟩ ++ (t1 ++ ⟨#[47]⟩ ++ t2)) (by rw [← HP1.out, ← HP2.out]; simp [ByteArray.data_append, textOf_data, signB])
        rw [if_neg HNZ.out] at u1
        exact ⟨u1, u2.trans HS.out⟩)
      have zU : ((⟨#[45]⟩ ++ (t1 ++ ⟨#[47]⟩ ++ t2)) : ByteArray).size ≤ 999990 := by rw [z6, z5]; omega
      go_wp2_with fail
      generalize (⟨#[45]⟩ ++ (t1 ++ ⟨#[47]⟩ ++ t2)) = uu at HUU zU ⊢
      clear z1 z2 z4 z5 z6 hov1 hov2 hov3
      refine (rparse_any _ uu zU).mono ?_
      rintro e w13 ⟨v, rfl, hp, hf13⟩
      replace rX := rX.fwd hf13
      replace rY := rY.fwd hf13
      replace kA := kA.fwd hf13
      replace kX := kX.fwd hf13
      replace kY := kY.fwd hf13
      replace hF := hF.trans hf13
      clear hf13
      clear ac0 ac1 ac2
      have ac0 := BlkV.cell kA 0 rfl
      have ac1 := BlkV.cell kA 1 rfl
      have ac2 := BlkV.cell kA 2 rfl
      clear xc0 xc1 xc2
      have xc0 := BlkV.cell kX 0 rfl
      have xc1 := BlkV.cell kX 1 rfl
      have xc2 := BlkV.cell kX 2 rfl
      clear yc0 yc1 yc2
      have yc0 := BlkV.cell kY 0 rfl
      have yc1 := BlkV.cell kY 1 rfl
      have yc2 := BlkV.cell kY 2 rfl
      have rZ := hp.1 HUU.out.1
      rw [HUU.out.2] at rZ
      rw [HUU.out.1]
      clear hp
      have HV := hid rZ
      obtain ⟨poZ, pcZ, qoZ, qcZ, rfl, p1Z, p2Z, p3Z, p4Z, -, -⟩ := RW.open rZ.rw'
      clear rZ
      have rZ := HV.out
      clear HV
      rw [HN.out] at rZ ⊢
      have ltA13 := BlkV.lt kA
      have ltX13 := BlkV.lt kX
      have ltY13 := BlkV.lt kY
      have hfB : Fwd w13 (w13.alloc (.cells #[.bool true, .slice poZ (nl q.num.natAbs) pcZ, .slice qoZ (nl q.den) qcZ] 24)) := (Fwd.refl _).alloc _
      replace rX := rX.fwd hfB
      replace rY := rY.fwd hfB
      replace rZ := rZ.fwd hfB
      replace kA := kA.fwd hfB
      replace kX := kX.fwd hfB
      replace kY := kY.fwd hfB
      replace hF := hF.trans hfB
      clear hfB
      clear ac0 ac1 ac2
      have ac0 := BlkV.cell kA 0 rfl
      have ac1 := BlkV.cell kA 1 rfl
      have ac2 := BlkV.cell kA 2 rfl
      clear xc0 xc1 xc2
      have xc0 := BlkV.cell kX 0 rfl
      have xc1 := BlkV.cell kX 1 rfl
      have xc2 := BlkV.cell kX 2 rfl
      clear yc0 yc1 yc2
      have yc0 := BlkV.cell kY 0 rfl
      have yc1 := BlkV.cell kY 1 rfl
      have yc2 := BlkV.cell kY 2 rfl
      have kZ := BlkV.made w13 24 [.bool true, .slice poZ (nl q.num.natAbs) pcZ, .slice qoZ (nl q.den) qcZ]
      go_upto_region 13 with fail
      generalize (w13.alloc (.cells #[.bool true, .slice poZ (nl q.num.natAbs) pcZ, .slice qoZ (nl q.den) qcZ] 24)) = w14 at kZ rX rY rZ kA kX kY hF ⊢
      clear ac0 ac1 ac2 xc0 xc1 xc2 yc0 yc1 yc2
      have ac0 := BlkV.cell kA 0 rfl
      have ac1 := BlkV.cell kA 1 rfl
      have ac2 := BlkV.cell kA 2 rfl
      have xc0 := BlkV.cell kX 0 rfl
      have xc1 := BlkV.cell kX 1 rfl
      have xc2 := BlkV.cell kX 2 rfl
      have yc0 := BlkV.cell kY 0 rfl
      have yc1 := BlkV.cell kY 1 rfl
      have yc2 := BlkV.cell kY 2 rfl
      have zc0 := BlkV.cell kZ 0 rfl
      have zc1 := BlkV.cell kZ 1 rfl
      have zc2 := BlkV.cell kZ 2 rfl
      go_wp2_with fail
      refine (text2_raw rX.rw' (by omega) (by omega)).mono ?_
      rintro e w15 ⟨rfl, hf15⟩
      replace rX := rX.fwd hf15
      replace rY := rY.fwd hf15
      replace rZ := rZ.fwd hf15
      replace kA := kA.fwd hf15
      replace kX := kX.fwd hf15
      replace kY := kY.fwd hf15
      replace kZ := kZ.fwd hf15
      replace hF := hF.trans hf15
      clear hf15
      clear ac0 ac1 ac2
      have ac0 := BlkV.cell kA 0 rfl
      have ac1 := BlkV.cell kA 1 rfl
      have ac2 := BlkV.cell kA 2 rfl
      clear xc0 xc1 xc2
      have xc0 := BlkV.cell kX 0 rfl
      have xc1 := BlkV.cell kX 1 rfl
      have xc2 := BlkV.cell kX 2 rfl
      clear yc0 yc1 yc2
      have yc0 := BlkV.cell kY 0 rfl
      have yc1 := BlkV.cell kY 1 rfl
      have yc2 := BlkV.cell kY 2 rfl
      clear zc0 zc1 zc2
      have zc0 := BlkV.cell kZ 0 rfl
      have zc1 := BlkV.cell kZ 1 rfl
      have zc2 := BlkV.cell kZ 2 rfl
      rw [← HT.out]
      go_wp2_with fail
      refine (same2_true rY rX (by omega) (by omega) rfl).mono ?_
      rintro e w16 ⟨rfl, hf16⟩
      replace rX := rX.fwd hf16
      replace rY := rY.fwd hf16
      replace rZ := rZ.fwd hf16
      replace kA := kA.fwd hf16
      replace kX := kX.fwd hf16
      replace kY := kY.fwd hf16
      replace kZ := kZ.fwd hf16
      replace hF := hF.trans hf16
      clear hf16
      clear ac0 ac1 ac2
      have ac0 := BlkV.cell kA 0 rfl
      have ac1 := BlkV.cell kA 1 rfl
      have ac2 := BlkV.cell kA 2 rfl
      clear xc0 xc1 xc2
      have xc0 := BlkV.cell kX 0 rfl
      have xc1 := BlkV.cell kX 1 rfl
      have xc2 := BlkV.cell kX 2 rfl
      clear yc0 yc1 yc2
      have yc0 := BlkV.cell kY 0 rfl
      have yc1 := BlkV.cell kY 1 rfl
      have yc2 := BlkV.cell kY 2 rfl
      clear zc0 zc1 zc2
      have zc0 := BlkV.cell kZ 0 rfl
      have zc1 := BlkV.cell kZ 1 rfl
      have zc2 := BlkV.cell kZ 2 rfl
      go_wp2_with fail
      refine (same2_true rZ rX (by omega) (by omega) rfl).mono ?_
      rintro e w17 ⟨rfl, hf17⟩
      replace rX := rX.fwd hf17
      replace rY := rY.fwd hf17
      replace rZ := rZ.fwd hf17
      replace kA := kA.fwd hf17
      replace kX := kX.fwd hf17
      replace kY := kY.fwd hf17
      replace kZ := kZ.fwd hf17
      replace hF := hF.trans hf17
      clear hf17
      clear ac0 ac1 ac2
      have ac0 := BlkV.cell kA 0 rfl
      have ac1 := BlkV.cell kA 1 rfl
      have ac2 := BlkV.cell kA 2 rfl
      clear xc0 xc1 xc2
      have xc0 := BlkV.cell kX 0 rfl
      have xc1 := BlkV.cell kX 1 rfl
      have xc2 := BlkV.cell kX 2 rfl
      clear yc0 yc1 yc2
      have yc0 := BlkV.cell kY 0 rfl
      have yc1 := BlkV.cell kY 1 rfl
      have yc2 := BlkV.cell kY 2 rfl
      clear zc0 zc1 zc2
      have zc0 := BlkV.cell kZ 0 rfl
      have zc1 := BlkV.cell kZ 1 rfl
      have zc2 := BlkV.cell kZ 2 rfl
      go_wp2_with fail
      go_ret
      exact ⟨rfl, hF⟩
    · have nkp : 0 < nl K := by rw [nl_pos hK0]; omega
      have nkb : ((nl K : Int) == 0) = false := by simp; omega
      have HK0 := hid hK0
      clear hK0
      have e1 := nl_mul q.num.natAbs (K)
      have e2 := nl_mul q.den (K)
      have l3 := len_dec (q.num.natAbs * (K))
      have l4 := len_dec (q.den * (K))
      have z1 := size_text6 (q.num.natAbs * (K)) (by omega)
      have z2 := size_text6 (q.den * (K)) (by omega)
      have HU := hid (fun (U : ByteArray) (hU : U.data.toList = signB true ++ (digB (q.num.natAbs * (K)) ++ 47 :: digB (q.den * (K)))) => parse_told (s := true) (by omega) (by omega) hU)
      have HS : Hid (mkQ true (q.num.natAbs * (K)) (q.den * (K)) = q) := hid (by rw [mkQ_scale q.den_nz HK0.out, ← HN.out, mkQ_self])
      have HNZ : Hid (q.den * (K) ≠ 0) := hid (Nat.mul_ne_zero q.den_nz HK0.out)
      generalize hP1 : textOf (q.num.natAbs * (K)) = t1 at z1
      generalize hP2 : textOf (q.den * (K)) = t2 at z2
      have HP1 := hid hP1
      have HP2 := hid hP2
      clear hP1 hP2
      have z4 := size_slash t1
      have z5 : (t1 ++ ⟨#[47]⟩ ++ t2 : ByteArray).size = t1.size + 1 + t2.size := by rw [ByteArray.size_append, z4]
      have z6 := size_dash (t1 ++ ⟨#[47]⟩ ++ t2)
      have hov1 : ¬ 9223372036854775807 < t1.size + 1 := by omega
      have hov2 : ¬ 9223372036854775807 < t1.size + 1 + t2.size := by omega
      have hov3 : ¬ 9223372036854775807 < 1 + (t1.size + 1 + t2.size) := by omega
      go_upto_region 9 with fail
      replace rX := rX.drew
      replace rY := rY.drew
      replace hk := hk.drew
      replace nX := nX.drew
      replace dX := dX.drew
      replace kA := kA.drew
      replace kX := kX.drew
      replace kY := kY.drew
      replace hF := hF.drew
      clear ac0 ac1 ac2
      have ac0 := BlkV.cell kA 0 rfl
      have ac1 := BlkV.cell kA 1 rfl
      have ac2 := BlkV.cell kA 2 rfl
      clear xc0 xc1 xc2
      have xc0 := BlkV.cell kX 0 rfl
      have xc1 := BlkV.cell kX 1 rfl
      have xc2 := BlkV.cell kX 2 rfl
      clear yc0 yc1 yc2
      have yc0 := BlkV.cell kY 0 rfl
      have yc1 := BlkV.cell kY 1 rfl
      have yc2 := BlkV.cell kY 2 rfl
      refine wp_region_held_drew (S := fun w' => w'.cell? ⟨w.heap.size, 0, none⟩ = some (.bool sa) ∧ w'.cell? ⟨w.heap.size, 1, none⟩ = some (vNa) ∧ w'.cell? ⟨w.heap.size, 2, none⟩ = some (vDa) ∧ w'.cell? ⟨w2.heap.size, 0, none⟩ = some (.bool true) ∧ w'.cell? ⟨w2.heap.size, 1, none⟩ = some (.slice poX (nl q.num.natAbs) pcX) ∧ w'.cell? ⟨w2.heap.size, 2, none⟩ = some (.slice qoX (nl q.den) qcX) ∧ w'.cell? ⟨w5.heap.size, 0, none⟩ = some (.bool true) ∧ w'.cell? ⟨w5.heap.size, 1, none⟩ = some (.slice poY (nl q.num.natAbs) pcY) ∧ w'.cell? ⟨w5.heap.size, 2, none⟩ = some (.slice qoY (nl q.den) qcY)) (by kernel_rfl) ⟨by with_reducible assumption, by with_reducible assumption, by with_reducible assumption, by with_reducible assumption, by with_reducible assumption, by with_reducible assumption, by with_reducible assumption, by with_reducible assumption, by with_reducible assumption⟩ (fun hHeld => ?_)
      refine wpAnyH_take (i := 0) (oi := ?oi28_0) (v := ?vv28_0) ?hi28_0 (by kernel_rfl) (by kernel_rfl) (by kernel_rfl) ?hq28_0 ?hy28_0 hHeld ?rest28_0
      case hi28_0 => (simp only [List.getElem?_toArray, List.getElem?_cons_succ, List.getElem?_cons_zero]; rfl)
      case hq28_0 => exact fun _ _ _ h => h
      case hy28_0 =>
        refine Or.inl ⟨by rfl, ?_⟩
        intro wS hSw
        try dsimp only at hSw
        obtain ⟨q0, q1, q2, q3, q4, q5, q6, q7, q8⟩ := hSw
        go_simp
        try with_reducible rfl
      simp only [Act.put, List.setIfInBounds_toArray, List.set_cons_zero, List.set_cons_succ]
      refine wpAnyH_take (i := 1) (oi := ?oi29_1) (v := ?vv29_1) ?hi29_1 (by kernel_rfl) (by kernel_rfl) (by kernel_rfl) ?hq29_1 ?hy29_1 hHeld ?rest29_1
      case hi29_1 => (simp only [List.getElem?_toArray, List.getElem?_cons_succ, List.getElem?_cons_zero]; rfl)
      case hq29_1 => exact fun _ _ _ h => h
      case hy29_1 =>
        refine Or.inl ⟨by rfl, ?_⟩
        intro wS hSw
        try dsimp only at hSw
        obtain ⟨q0, q1, q2, q3, q4, q5, q6, q7, q8⟩ := hSw
        go_simp
        try with_reducible rfl
      simp only [Act.put, List.setIfInBounds_toArray, List.set_cons_zero, List.set_cons_succ]
      refine wpAnyH_take (i := 2) (oi := ?oi30_2) (v := ?vv30_2) ?hi30_2 (by kernel_rfl) (by kernel_rfl) (by kernel_rfl) ?hq30_2 ?hy30_2 hHeld ?rest30_2
      case hi30_2 => (simp only [List.getElem?_toArray, List.getElem?_cons_succ, List.getElem?_cons_zero]; rfl)
      case hq30_2 => exact fun _ _ _ h => h
      case hy30_2 =>
        refine Or.inl ⟨by rfl, ?_⟩
        intro wS hSw
        try dsimp only at hSw
        obtain ⟨q0, q1, q2, q3, q4, q5, q6, q7, q8⟩ := hSw
        go_simp
        try with_reducible rfl
      simp only [Act.put, List.setIfInBounds_toArray, List.set_cons_zero, List.set_cons_succ]
      refine wpAnyH_take (i := 6) (oi := ?oi31_6) (v := ?vv31_6) ?hi31_6 (by kernel_rfl) (by kernel_rfl) (by kernel_rfl) ?hq31_6 ?hy31_6 hHeld ?rest31_6
      case hi31_6 => (simp only [List.getElem?_toArray, List.getElem?_cons_succ, List.getElem?_cons_zero]; rfl)
      case hq31_6 => exact fun _ _ _ h => h
      case hy31_6 =>
        refine Or.inl ⟨by rfl, ?_⟩
        intro wS hSw
        try dsimp only at hSw
        obtain ⟨q0, q1, q2, q3, q4, q5, q6, q7, q8⟩ := hSw
        go_simp
        try with_reducible rfl
      simp only [Act.put, List.setIfInBounds_toArray, List.set_cons_zero, List.set_cons_succ]
      refine wpAnyH_take (i := 7) (oi := ?oi32_7) (v := ?vv32_7) ?hi32_7 (by kernel_rfl) (by kernel_rfl) (by kernel_rfl) ?hq32_7 ?hy32_7 hHeld ?rest32_7
      case hi32_7 => (simp only [List.getElem?_toArray, List.getElem?_cons_succ, List.getElem?_cons_zero]; rfl)
      case hq32_7 => exact fun _ _ _ h => h
      case hy32_7 =>
        refine Or.inl ⟨by rfl, ?_⟩
        intro wS hSw
        try dsimp only at hSw
        obtain ⟨q0, q1, q2, q3, q4, q5, q6, q7, q8⟩ := hSw
        go_simp
        try with_reducible rfl
      simp only [Act.put, List.setIfInBounds_toArray, List.set_cons_zero, List.set_cons_succ]
      refine wpAnyH_take (i := 8) (oi := ?oi33_8) (v := ?vv33_8) ?hi33_8 (by kernel_rfl) (by kernel_rfl) (by kernel_rfl) ?hq33_8 ?hy33_8 hHeld ?rest33_8
      case hi33_8 => (simp only [List.getElem?_toArray, List.getElem?_cons_succ, List.getElem?_cons_zero]; rfl)
      case hq33_8 => exact fun _ _ _ h => h
      case hy33_8 =>
        refine Or.inl ⟨by rfl, ?_⟩
        intro wS hSw
        try dsimp only at hSw
        obtain ⟨q0, q1, q2, q3, q4, q5, q6, q7, q8⟩ := hSw
        go_simp
        try with_reducible rfl
      simp only [Act.put, List.setIfInBounds_toArray, List.set_cons_zero, List.set_cons_succ]
      refine wpAnyH_ready (rs := [3]) (by kernel_rfl) (by simp) ?_
      refine AllReadyH.cons rfl (fun K hK => ?_) AllReadyH.nil
      go_simp
      refine (refMul_any nX hk (by omega) (by omega)).mono ?_
      rintro e w8 ⟨v1, rfl, f1, hf8⟩
      replace rX := rX.fwd hf8
      replace rY := rY.fwd hf8
      replace hk := hk.fwd hf8
      replace nX := nX.fwd hf8
      replace dX := dX.fwd hf8
      replace kA := kA.fwd hf8
      replace kX := kX.fwd hf8
      replace kY := kY.fwd hf8
      replace hF := hF.trans hf8
      clear hf8
      clear ac0 ac1 ac2
      have ac0 := BlkV.cell kA 0 rfl
      have ac1 := BlkV.cell kA 1 rfl
      have ac2 := BlkV.cell kA 2 rfl
      clear xc0 xc1 xc2
      have xc0 := BlkV.cell kX 0 rfl
      have xc1 := BlkV.cell kX 1 rfl
      have xc2 := BlkV.cell kX 2 rfl
      clear yc0 yc1 yc2
      have yc0 := BlkV.cell kY 0 rfl
      have yc1 := BlkV.cell kY 1 rfl
      have yc2 := BlkV.cell kY 2 rfl
      go_wp2_with fail
      clear hHeld
      refine hK.out _ _ ⟨by with_reducible assumption, by with_reducible assumption, by with_reducible assumption, by with_reducible assumption, by with_reducible assumption, by with_reducible assumption, by with_reducible assumption, by with_reducible assumption, by with_reducible assumption⟩ (fun hHeld => ?_)
      clear hK K
      try simp only [Act.put, List.setIfInBounds_toArray, List.set_cons_zero, List.set_cons_succ]
      refine wpAnyH_ready (rs := [4]) (by kernel_rfl) (by simp) ?_
      refine AllReadyH.cons rfl (fun K hK => ?_) AllReadyH.nil
      go_simp
      refine (refText_any f1 (by omega)).mono ?_
      rintro e w9 ⟨rfl, hf9⟩
      replace rX := rX.fwd hf9
      replace rY := rY.fwd hf9
      replace hk := hk.fwd hf9
      replace nX := nX.fwd hf9
      replace dX := dX.fwd hf9
      replace f1 := f1.fwd hf9
      replace kA := kA.fwd hf9
      replace kX := kX.fwd hf9
      replace kY := kY.fwd hf9
      replace hF := hF.trans hf9
      clear hf9
      clear ac0 ac1 ac2
      have ac0 := BlkV.cell kA 0 rfl
      have ac1 := BlkV.cell kA 1 rfl
      have ac2 := BlkV.cell kA 2 rfl
      clear xc0 xc1 xc2
      have xc0 := BlkV.cell kX 0 rfl
      have xc1 := BlkV.cell kX 1 rfl
      have xc2 := BlkV.cell kX 2 rfl
      clear yc0 yc1 yc2
      have yc0 := BlkV.cell kY 0 rfl
      have yc1 := BlkV.cell kY 1 rfl
      have yc2 := BlkV.cell kY 2 rfl
      rw [HP1.out]
      go_wp2_with fail
      clear hHeld
      refine hK.out _ _ ⟨by with_reducible assumption, by with_reducible assumption, by with_reducible assumption, by with_reducible assumption, by with_reducible assumption, by with_reducible assumption, by with_reducible assumption, by with_reducible assumption, by with_reducible assumption⟩ (fun hHeld => ?_)
      clear hK K
      try simp only [Act.put, List.setIfInBounds_toArray, List.set_cons_zero, List.set_cons_succ]
      refine wpAnyH_take (i := 5) (oi := ?oi34_5) (v := ?vv34_5) ?hi34_5 (by kernel_rfl) (by kernel_rfl) (by kernel_rfl) ?hq34_5 ?hy34_5 hHeld ?rest34_5
      case hi34_5 => (simp only [List.getElem?_toArray, List.getElem?_cons_succ, List.getElem?_cons_zero]; rfl)
      case hq34_5 => exact fun _ _ _ h => h
      case hy34_5 =>
        refine Or.inl ⟨by rfl, ?_⟩
        intro wS hSw
        try dsimp only at hSw
        obtain ⟨q0, q1, q2, q3, q4, q5, q6, q7, q8⟩ := hSw
        go_simp
        try with_reducible rfl
      simp only [Act.put, List.setIfInBounds_toArray, List.set_cons_zero, List.set_cons_succ]
      refine wpAnyH_ready (rs := [9]) (by kernel_rfl) (by simp) ?_
      refine AllReadyH.cons rfl (fun K hK => ?_) AllReadyH.nil
      go_simp
      refine (refMul_any dX hk (by omega) (by omega)).mono ?_
      rintro e w10 ⟨v2, rfl, f2, hf10⟩
      replace rX := rX.fwd hf10
      replace rY := rY.fwd hf10
      replace hk := hk.fwd hf10
      replace nX := nX.fwd hf10
      replace dX := dX.fwd hf10
      replace f1 := f1.fwd hf10
      replace kA := kA.fwd hf10
      replace kX := kX.fwd hf10
      replace kY := kY.fwd hf10
      replace hF := hF.trans hf10
      clear hf10
      clear ac0 ac1 ac2
      have ac0 := BlkV.cell kA 0 rfl
      have ac1 := BlkV.cell kA 1 rfl
      have ac2 := BlkV.cell kA 2 rfl
      clear xc0 xc1 xc2
      have xc0 := BlkV.cell kX 0 rfl
      have xc1 := BlkV.cell kX 1 rfl
      have xc2 := BlkV.cell kX 2 rfl
      clear yc0 yc1 yc2
      have yc0 := BlkV.cell kY 0 rfl
      have yc1 := BlkV.cell kY 1 rfl
      have yc2 := BlkV.cell kY 2 rfl
      go_wp2_with fail
      clear hHeld
      refine hK.out _ _ ⟨by with_reducible assumption, by with_reducible assumption, by with_reducible assumption, by with_reducible assumption, by with_reducible assumption, by with_reducible assumption, by with_reducible assumption, by with_reducible assumption, by with_reducible assumption⟩ (fun hHeld => ?_)
      clear hK K
      try simp only [Act.put, List.setIfInBounds_toArray, List.set_cons_zero, List.set_cons_succ]
      refine wpAnyH_ready (rs := [10]) (by kernel_rfl) (by simp) ?_
      refine AllReadyH.cons rfl (fun K hK => ?_) AllReadyH.nil
      go_simp
      refine (refText_any f2 (by omega)).mono ?_
      rintro e w11 ⟨rfl, hf11⟩
      replace rX := rX.fwd hf11
      replace rY := rY.fwd hf11
      replace hk := hk.fwd hf11
      replace nX := nX.fwd hf11
      replace dX := dX.fwd hf11
      replace f1 := f1.fwd hf11
      replace f2 := f2.fwd hf11
      replace kA := kA.fwd hf11
      replace kX := kX.fwd hf11
      replace kY := kY.fwd hf11
      replace hF := hF.trans hf11
      clear hf11
      clear ac0 ac1 ac2
      have ac0 := BlkV.cell kA 0 rfl
      have ac1 := BlkV.cell kA 1 rfl
      have ac2 := BlkV.cell kA 2 rfl
      clear xc0 xc1 xc2
      have xc0 := BlkV.cell kX 0 rfl
      have xc1 := BlkV.cell kX 1 rfl
      have xc2 := BlkV.cell kX 2 rfl
      clear yc0 yc1 yc2
      have yc0 := BlkV.cell kY 0 rfl
      have yc1 := BlkV.cell kY 1 rfl
      have yc2 := BlkV.cell kY 2 rfl
      rw [HP2.out]
      go_wp2_with fail
      clear hHeld
      refine hK.out _ _ ⟨by with_reducible assumption, by with_reducible assumption, by with_reducible assumption, by with_reducible assumption, by with_reducible assumption, by with_reducible assumption, by with_reducible assumption, by with_reducible assumption, by with_reducible assumption⟩ (fun hHeld => ?_)
      clear hK K
      try simp only [Act.put, List.setIfInBounds_toArray, List.set_cons_zero, List.set_cons_succ]
      refine wpAnyH_take (i := 11) (oi := ?oi35_11) (v := ?vv35_11) ?hi35_11 (by kernel_rfl) (by kernel_rfl) (by kernel_rfl) ?hq35_11 ?hy35_11 hHeld ?rest35_11
      case hi35_11 => (simp only [List.getElem?_toArray, List.getElem?_cons_succ, List.getElem?_cons_zero]; rfl)
      case hq35_11 => exact fun _ _ _ h => h
      case hy35_11 =>
        refine Or.inl ⟨by rfl, ?_⟩
        intro wS hSw
        try dsimp only at hSw
        obtain ⟨q0, q1, q2, q3, q4, q5, q6, q7, q8⟩ := hSw
        go_simp
        try with_reducible rfl
      simp only [Act.put, List.setIfInBounds_toArray, List.set_cons_zero, List.set_cons_succ]
      refine wpAnyH_take (i := 12) (oi := ?oi36_12) (v := ?vv36_12) ?hi36_12 (by kernel_rfl) (by kernel_rfl) (by kernel_rfl) ?hq36_12 ?hy36_12 hHeld ?rest36_12
      case hi36_12 => (simp only [List.getElem?_toArray, List.getElem?_cons_succ, List.getElem?_cons_zero]; rfl)
      case hq36_12 => exact fun _ _ _ h => h
      case hy36_12 =>
        refine Or.inl ⟨by rfl, ?_⟩
        intro wS hSw
        try dsimp only at hSw
        obtain ⟨q0, q1, q2, q3, q4, q5, q6, q7, q8⟩ := hSw
        go_simp
        try with_reducible rfl
      simp only [Act.put, List.setIfInBounds_toArray, List.set_cons_zero, List.set_cons_succ]
      refine wpAnyH_done (by kernel_rfl) ?_ _
      clear f1 f2 nX dX hk
      have HUU : Hid (parseQE (⟨#[45]⟩ ++ (t1 ++ ⟨#[47]⟩ ++ t2)) = 0 ∧ parseQV (⟨#[45]⟩ ++ (t1 ++ ⟨#[47]⟩ ++ t2)) = q) := hid (by
        obtain ⟨u1, u2⟩ := HU.out (⟨#[45]⟩ ++ (t1 ++ ⟨#[47]⟩ ++ t2)) (by rw [← HP1.out, ← HP2.out]; simp [ByteArray.data_append, textOf_data, signB])
        rw [if_neg HNZ.out] at u1
        exact ⟨u1, u2.trans HS.out⟩)
      have zU : ((⟨#[45]⟩ ++ (t1 ++ ⟨#[47]⟩ ++ t2)) : ByteArray).size ≤ 999990 := by rw [z6, z5]; omega
      go_wp2_with fail
      generalize (⟨#[45]⟩ ++ (t1 ++ ⟨#[47]⟩ ++ t2)) = uu at HUU zU ⊢
      clear z1 z2 z4 z5 z6 hov1 hov2 hov3
      refine (rparse_any _ uu zU).mono ?_
      rintro e w12 ⟨v, rfl, hp, hf12⟩
      replace rX := rX.fwd hf12
      replace rY := rY.fwd hf12
      replace kA := kA.fwd hf12
      replace kX := kX.fwd hf12
      replace kY := kY.fwd hf12
      replace hF := hF.trans hf12
      clear hf12
      clear ac0 ac1 ac2
      have ac0 := BlkV.cell kA 0 rfl
      have ac1 := BlkV.cell kA 1 rfl
      have ac2 := BlkV.cell kA 2 rfl
      clear xc0 xc1 xc2
      have xc0 := BlkV.cell kX 0 rfl
      have xc1 := BlkV.cell kX 1 rfl
      have xc2 := BlkV.cell kX 2 rfl
      clear yc0 yc1 yc2
      have yc0 := BlkV.cell kY 0 rfl
      have yc1 := BlkV.cell kY 1 rfl
      have yc2 := BlkV.cell kY 2 rfl
      have rZ := hp.1 HUU.out.1
      rw [HUU.out.2] at rZ
      rw [HUU.out.1]
      clear hp
      have HV := hid rZ
      obtain ⟨poZ, pcZ, qoZ, qcZ, rfl, p1Z, p2Z, p3Z, p4Z, -, -⟩ := RW.open rZ.rw'
      clear rZ
      have rZ := HV.out
      clear HV
      rw [HN.out] at rZ ⊢
      have ltA12 := BlkV.lt kA
      have ltX12 := BlkV.lt kX
      have ltY12 := BlkV.lt kY
      have hfB : Fwd w12 (w12.alloc (.cells #[.bool true, .slice poZ (nl q.num.natAbs) pcZ, .slice qoZ (nl q.den) qcZ] 24)) := (Fwd.refl _).alloc _
      replace rX := rX.fwd hfB
      replace rY := rY.fwd hfB
      replace rZ := rZ.fwd hfB
      replace kA := kA.fwd hfB
      replace kX := kX.fwd hfB
      replace kY := kY.fwd hfB
      replace hF := hF.trans hfB
      clear hfB
      clear ac0 ac1 ac2
      have ac0 := BlkV.cell kA 0 rfl
      have ac1 := BlkV.cell kA 1 rfl
      have ac2 := BlkV.cell kA 2 rfl
      clear xc0 xc1 xc2
      have xc0 := BlkV.cell kX 0 rfl
      have xc1 := BlkV.cell kX 1 rfl
      have xc2 := BlkV.cell kX 2 rfl
      clear yc0 yc1 yc2
      have yc0 := BlkV.cell kY 0 rfl
      have yc1 := BlkV.cell kY 1 rfl
      have yc2 := BlkV.cell kY 2 rfl
      have kZ := BlkV.made w12 24 [.bool true, .slice poZ (nl q.num.natAbs) pcZ, .slice qoZ (nl q.den) qcZ]
      go_upto_region 13 with fail
      generalize (w12.alloc (.cells #[.bool true, .slice poZ (nl q.num.natAbs) pcZ, .slice qoZ (nl q.den) qcZ] 24)) = w13 at kZ rX rY rZ kA kX kY hF ⊢
      clear ac0 ac1 ac2 xc0 xc1 xc2 yc0 yc1 yc2
      have ac0 := BlkV.cell kA 0 rfl
      have ac1 := BlkV.cell kA 1 rfl
      have ac2 := BlkV.cell kA 2 rfl
      have xc0 := BlkV.cell kX 0 rfl
      have xc1 := BlkV.cell kX 1 rfl
      have xc2 := BlkV.cell kX 2 rfl
      have yc0 := BlkV.cell kY 0 rfl
      have yc1 := BlkV.cell kY 1 rfl
      have yc2 := BlkV.cell kY 2 rfl
      have zc0 := BlkV.cell kZ 0 rfl
      have zc1 := BlkV.cell kZ 1 rfl
      have zc2 := BlkV.cell kZ 2 rfl
      go_wp2_with fail
      refine (text2_raw rX.rw' (by omega) (by omega)).mono ?_
      rintro e w14 ⟨rfl, hf14⟩
      replace rX := rX.fwd hf14
      replace rY := rY.fwd hf14
      replace rZ := rZ.fwd hf14
      replace kA := kA.fwd hf14
      replace kX := kX.fwd hf14
      replace kY := kY.fwd hf14
      replace kZ := kZ.fwd hf14
      replace hF := hF.trans hf14
      clear hf14
      clear ac0 ac1 ac2
      have ac0 := BlkV.cell kA 0 rfl
      have ac1 := BlkV.cell kA 1 rfl
      have ac2 := BlkV.cell kA 2 rfl
      clear xc0 xc1 xc2
      have xc0 := BlkV.cell kX 0 rfl
      have xc1 := BlkV.cell kX 1 rfl
      have xc2 := BlkV.cell kX 2 rfl
      clear yc0 yc1 yc2
      have yc0 := BlkV.cell kY 0 rfl
      have yc1 := BlkV.cell kY 1 rfl
      have yc2 := BlkV.cell kY 2 rfl
      clear zc0 zc1 zc2
      have zc0 := BlkV.cell kZ 0 rfl
      have zc1 := BlkV.cell kZ 1 rfl
      have zc2 := BlkV.cell kZ 2 rfl
      rw [← HT.out]
      go_wp2_with fail
      refine (same2_true rY rX (by omega) (by omega) rfl).mono ?_
      rintro e w15 ⟨rfl, hf15⟩
      replace rX := rX.fwd hf15
      replace rY := rY.fwd hf15
      replace rZ := rZ.fwd hf15
      replace kA := kA.fwd hf15
      replace kX := kX.fwd hf15
      replace kY := kY.fwd hf15
      replace kZ := kZ.fwd hf15
      replace hF := hF.trans hf15
      clear hf15
      clear ac0 ac1 ac2
      have ac0 := BlkV.cell kA 0 rfl
      have ac1 := BlkV.cell kA 1 rfl
      have ac2 := BlkV.cell kA 2 rfl
      clear xc0 xc1 xc2
      have xc0 := BlkV.cell kX 0 rfl
      have xc1 := BlkV.cell kX 1 rfl
      have xc2 := BlkV.cell kX 2 rfl
      clear yc0 yc1 yc2
      have yc0 := BlkV.cell kY 0 rfl
      have yc1 := BlkV.cell kY 1 rfl
      have yc2 := BlkV.cell kY 2 rfl
      clear zc0 zc1 zc2
      have zc0 := BlkV.cell kZ 0 rfl
      have zc1 := BlkV.cell kZ 1 rfl
      have zc2 := BlkV.cell kZ 2 rfl
      go_wp2_with fail
      refine (same2_true rZ rX (by omega) (by omega) rfl).mono ?_
      rintro e w16 ⟨rfl, hf16⟩
      replace rX := rX.fwd hf16
      replace rY := rY.fwd hf16
      replace rZ := rZ.fwd hf16
      replace kA := kA.fwd hf16
      replace kX := kX.fwd hf16
      replace kY := kY.fwd hf16
      replace kZ := kZ.fwd hf16
      replace hF := hF.trans hf16
      clear hf16
      clear ac0 ac1 ac2
      have ac0 := BlkV.cell kA 0 rfl
      have ac1 := BlkV.cell kA 1 rfl
      have ac2 := BlkV.cell kA 2 rfl
      clear xc0 xc1 xc2
      have xc0 := BlkV.cell kX 0 rfl
      have xc1 := BlkV.cell kX 1 rfl
      have xc2 := BlkV.cell kX 2 rfl
      clear yc0 yc1 yc2
      have yc0 := BlkV.cell kY 0 rfl
      have yc1 := BlkV.cell kY 1 rfl
      have yc2 := BlkV.cell kY 2 rfl
      clear zc0 zc1 zc2
      have zc0 := BlkV.cell kZ 0 rfl
      have zc1 := BlkV.cell kZ 1 rfl
      have zc2 := BlkV.cell kZ 2 rfl
      go_wp2_with fail
      go_ret
      exact ⟨rfl, hF⟩

end Go.Proofs.YtjkoiocemolcbaaDoor
