/- The program's rational numbers: Same. -/
import Derived.Test.YtcccejhkblnonaaGreatYXP9
namespace Go.Proofs.YtcccejhkblnonaaGreat
open Go.RowKit
set_option linter.unusedVariables false
set_option linter.unusedSimpArgs false

theorem shape_eql (w : World) (s t : Bool) (x y x' y' : Int) : (binOp .eql 100 (.agg #[.bool s, .int .i64 x, .int .i64 y]) (.agg #[.bool t, .int .i64 x', .int .i64 y'])).run Tryz.prog w = .ok (.bool (s == t && x == x' && y == y')) w := by
  simp [binOp, Op.equal, Op.maxDepth, go_sem]
  by_cases h1 : s = t <;> by_cases h2 : x = x' <;> by_cases h3 : y = y' <;> simp [h1, h2, h3]

set_option maxHeartbeats 4000000 in
set_option maxRecDepth 20000 in
theorem rsame_raw {w : World} {a b : Value} {sa sb : Bool} {ma da mb db : Nat} (ha : RW w a sa ma da) (bam : nl ma ≤ 10000) (bad : nl da ≤ 10000) (hb : RW w b sb mb db) (bbm : nl mb ≤ 10000) (bbd : nl db ≤ 10000) :
    Calls Tryz.prog 62 #[a, b] w fun e w' => e = .returned (.bool (sa == sb && ma == mb && da == db)) ∧ Fwd w w' := by
  have hcmp := fun wx => shape_eql wx sa sb (nl ma) (nl da) (nl mb) (nl db)
  obtain ⟨c, hc⟩ : ∃ c, c = (sa == sb && (nl ma : Int) == nl mb && (nl da : Int) == nl db) := ⟨_, rfl⟩
  rw [← hc] at hcmp
  have HC := hid hc
  clear hc
  cases c
  · have HE : Hid ((sa == sb && ma == mb && da == db) = false) := by
      show _ = _
      have h := HC.out
      by_cases h1 : sa = sb <;> by_cases h2 : ma = mb <;> by_cases h3 : da = db <;> simp [h1, h2, h3]
      · subst h1; subst h2; subst h3; simp at h
    obtain ⟨ao, ac, ap, ae, rfl, a1, a2, a3, a4, aN, aD⟩ := RW.open ha
    clear ha
    obtain ⟨bo, bc, bp, be, rfl, b1, b2, b3, b4, bN, bD⟩ := RW.open hb
    clear hb
    have kA : BlkV ((w.alloc (.cells #[.bool sa, .slice ao (nl (ma)) ac, .slice ap (nl (da)) ae] 34)).alloc (.cells #[.bool sb, .slice bo (nl (mb)) bc, .slice bp (nl (db)) be] 34)) (w.heap.size) 34 [.bool sa, .slice ao (nl (ma)) ac, .slice ap (nl (da)) ae] := (BlkV.made' w (w.heap.size) (by simp) 34 [.bool sa, .slice ao (nl (ma)) ac, .slice ap (nl (da)) ae]).alloc _
    have kB : BlkV ((w.alloc (.cells #[.bool sa, .slice ao (nl (ma)) ac, .slice ap (nl (da)) ae] 34)).alloc (.cells #[.bool sb, .slice bo (nl (mb)) bc, .slice bp (nl (db)) be] 34)) (w.heap.size + 1) 34 [.bool sb, .slice bo (nl (mb)) bc, .slice bp (nl (db)) be] := BlkV.made' (w.alloc (.cells #[.bool sa, .slice ao (nl (ma)) ac, .slice ap (nl (da)) ae] 34)) (w.heap.size + 1) (by simp) 34 [.bool sb, .slice bo (nl (mb)) bc, .slice bp (nl (db)) be]
    have hF : Fwd w ((w.alloc (.cells #[.bool sa, .slice ao (nl (ma)) ac, .slice ap (nl (da)) ae] 34)).alloc (.cells #[.bool sb, .slice bo (nl (mb)) bc, .slice bp (nl (db)) be] 34)) := ((Fwd.refl w).alloc _).alloc _
    replace aN := aN.fwd hF
    replace aD := aD.fwd hF
    replace bN := bN.fwd hF
    replace bD := bD.fwd hF
    go_enter Tryz.func62, Tryz.ntmps62
    have ha' : RW ((w.alloc (.cells #[.bool sa, .slice ao (nl (ma)) ac, .slice ap (nl (da)) ae] 34)).alloc (.cells #[.bool sb, .slice bo (nl (mb)) bc, .slice bp (nl (db)) be] 34)) (.agg #[.bool sa, .slice ao (nl ma) ac, .slice ap (nl da) ae]) sa ma da := ⟨_, _, rfl, aN, aD⟩
    have hb' : RW ((w.alloc (.cells #[.bool sa, .slice ao (nl (ma)) ac, .slice ap (nl (da)) ae] 34)).alloc (.cells #[.bool sb, .slice bo (nl (mb)) bc, .slice bp (nl (db)) be] 34)) (.agg #[.bool sb, .slice bo (nl mb) bc, .slice bp (nl db) be]) sb mb db := ⟨_, _, rfl, bN, bD⟩
    go_wp2_with fail
    replace aN := aN.drew
    replace aD := aD.drew
    replace bN := bN.drew
    replace bD := bD.drew
    replace ha' := ha'.drew
    replace hb' := hb'.drew
    replace kA := kA.drew
    replace kB := kB.drew
    replace hF := hF.drew
    have ac0 := BlkV.cell kA 0 rfl
    have ac1 := BlkV.cell kA 1 rfl
    have ac2 := BlkV.cell kA 2 rfl
    have bc0 := BlkV.cell kB 0 rfl
    have bc1 := BlkV.cell kB 1 rfl
    have bc2 := BlkV.cell kB 2 rfl
    refine wp_region_held_drew (S := fun w' => w'.cell? ⟨w.heap.size, 0, none⟩ = some (.bool sa) ∧ w'.cell? ⟨w.heap.size, 1, none⟩ = some (.slice ao (nl (ma)) ac) ∧ w'.cell? ⟨w.heap.size, 2, none⟩ = some (.slice ap (nl (da)) ae) ∧ w'.cell? ⟨w.heap.size + 1, 0, none⟩ = some (.bool sb) ∧ w'.cell? ⟨w.heap.size + 1, 1, none⟩ = some (.slice bo (nl (mb)) bc) ∧ w'.cell? ⟨w.heap.size + 1, 2, none⟩ = some (.slice bp (nl (db)) be)) (by kernel_rfl) ⟨by with_reducible assumption, by with_reducible assumption, by with_reducible assumption, by with_reducible assumption, by with_reducible assumption, by with_reducible assumption⟩ (fun hHeld => ?_)
    refine wpAnyH_take (i := 0) (oi := ?oi4_36_0) (v := ?vv4_36_0) ?hi4_36_0 (by kernel_rfl) (by kernel_rfl) (by kernel_rfl) ?hq4_36_0 ?hy4_36_0 hHeld ?rest4_36_0
    case hi4_36_0 => (simp only [List.getElem?_toArray, List.getElem?_cons_succ, List.getElem?_cons_zero]; rfl)
    case hq4_36_0 => exact fun _ _ _ h => h
    case hy4_36_0 =>
      refine Or.inl ⟨by rfl, ?_⟩
      intro wS hSw
      try dsimp only at hSw
      obtain ⟨q0, q1, q2, q3, q4, q5⟩ := hSw
      go_simp
      try with_reducible rfl
    simp only [Act.put, List.setIfInBounds_toArray, List.set_cons_zero, List.set_cons_succ]
    refine wpAnyH_take (i := 2) (oi := ?oi4_47_2) (v := ?vv4_47_2) ?hi4_47_2 (by kernel_rfl) (by kernel_rfl) (by kernel_rfl) ?hq4_47_2 ?hy4_47_2 hHeld ?rest4_47_2
    case hi4_47_2 => (simp only [List.getElem?_toArray, List.getElem?_cons_succ, List.getElem?_cons_zero]; rfl)
    case hq4_47_2 => exact fun _ _ _ h => h
    case hy4_47_2 =>
      refine Or.inl ⟨by rfl, ?_⟩
      intro wS hSw
      try dsimp only at hSw
      obtain ⟨q0, q1, q2, q3, q4, q5⟩ := hSw
      go_simp
      try with_reducible rfl
    simp only [Act.put, List.setIfInBounds_toArray, List.set_cons_zero, List.set_cons_succ]
    refine wpAnyH_ready (rs := [1]) (by kernel_rfl) (by simp) ?_
    refine AllReadyH.cons rfl (fun K hK => ?_) AllReadyH.nil
    go_simp
    refine (shapeOf_any ha' (by omega) (by omega)).mono ?_
    rintro e w1 ⟨rfl, hf1⟩
    replace aN := aN.fwd hf1
    replace aD := aD.fwd hf1
    replace bN := bN.fwd hf1
    replace bD := bD.fwd hf1
    replace ha' := ha'.fwd hf1
    replace hb' := hb'.fwd hf1
    replace kA := kA.fwd hf1
    replace kB := kB.fwd hf1
    replace hF := hF.trans hf1
    clear hf1
    clear ac0 ac1 ac2
    have ac0 := BlkV.cell kA 0 rfl
    have ac1 := BlkV.cell kA 1 rfl
    have ac2 := BlkV.cell kA 2 rfl
    clear bc0 bc1 bc2
    have bc0 := BlkV.cell kB 0 rfl
    have bc1 := BlkV.cell kB 1 rfl
    have bc2 := BlkV.cell kB 2 rfl
    go_wp2_with fail
    clear hHeld
    refine hK.out _ _ ⟨by with_reducible assumption, by with_reducible assumption, by with_reducible assumption, by with_reducible assumption, by with_reducible assumption, by with_reducible assumption⟩ (fun hHeld => ?_)
    clear hK K
    try simp only [Act.put, List.setIfInBounds_toArray, List.set_cons_zero, List.set_cons_succ]
    refine wpAnyH_ready (rs := [3]) (by kernel_rfl) (by simp) ?_
    refine AllReadyH.cons rfl (fun K hK => ?_) AllReadyH.nil
    go_simp
    refine (shapeOf_any hb' (by omega) (by omega)).mono ?_
    rintro e w2 ⟨rfl, hf2⟩
    replace aN := aN.fwd hf2
    replace aD := aD.fwd hf2
    replace bN := bN.fwd hf2
    replace bD := bD.fwd hf2
    replace ha' := ha'.fwd hf2
    replace hb' := hb'.fwd hf2
    replace kA := kA.fwd hf2
    replace kB := kB.fwd hf2
    replace hF := hF.trans hf2
    clear hf2
    clear ac0 ac1 ac2
    have ac0 := BlkV.cell kA 0 rfl
    have ac1 := BlkV.cell kA 1 rfl
    have ac2 := BlkV.cell kA 2 rfl
    clear bc0 bc1 bc2
    have bc0 := BlkV.cell kB 0 rfl
    have bc1 := BlkV.cell kB 1 rfl
    have bc2 := BlkV.cell kB 2 rfl
    go_wp2_with fail
    clear hHeld
    refine hK.out _ _ ⟨by with_reducible assumption, by with_reducible assumption, by with_reducible assumption, by with_reducible assumption, by with_reducible assumption, by with_reducible assumption⟩ (fun hHeld => ?_)
    clear hK K
    try simp only [Act.put, List.setIfInBounds_toArray, List.set_cons_zero, List.set_cons_succ]
    refine wpAnyH_take (i := 4) (oi := ?oi4_114_4) (v := ?vv4_114_4) ?hi4_114_4 (by kernel_rfl) (by kernel_rfl) (by kernel_rfl) ?hq4_114_4 ?hy4_114_4 hHeld ?rest4_114_4
    case hi4_114_4 => (simp only [List.getElem?_toArray, List.getElem?_cons_succ, List.getElem?_cons_zero]; rfl)
    case hq4_114_4 => exact fun _ _ _ h => h
    case hy4_114_4 =>
      refine Or.inl ⟨by rfl, ?_⟩
      intro wS hSw
      try dsimp only at hSw
      obtain ⟨q0, q1, q2, q3, q4, q5⟩ := hSw
      go_simp
      try with_reducible rfl
    simp only [Act.put, List.setIfInBounds_toArray, List.set_cons_zero, List.set_cons_succ]
    refine wpAnyH_take (i := 5) (oi := ?oi4_125_5) (v := ?vv4_125_5) ?hi4_125_5 (by kernel_rfl) (by kernel_rfl) (by kernel_rfl) ?hq4_125_5 ?hy4_125_5 hHeld ?rest4_125_5
    case hi4_125_5 => (simp only [List.getElem?_toArray, List.getElem?_cons_succ, List.getElem?_cons_zero]; rfl)
    case hq4_125_5 => exact fun _ _ _ h => h
    case hy4_125_5 =>
      refine Or.inl ⟨by rfl, ?_⟩
      intro wS hSw
      try dsimp only at hSw
      obtain ⟨q0, q1, q2, q3, q4, q5⟩ := hSw
      go_simp
      try with_reducible rfl
    simp only [Act.put, List.setIfInBounds_toArray, List.set_cons_zero, List.set_cons_succ]
    refine wpAnyH_take (i := 6) (oi := ?oi4_136_6) (v := undef) ?hi4_136_6 (by kernel_rfl) (by kernel_rfl) (by kernel_rfl) ?hq4_136_6 ?hy4_136_6 hHeld ?rest4_136_6
    case hi4_136_6 => (simp only [List.getElem?_toArray, List.getElem?_cons_succ, List.getElem?_cons_zero]; rfl)
    case hq4_136_6 => exact fun _ _ _ h => h
    case hy4_136_6 => exact Or.inr ⟨by rfl, rfl⟩
    simp only [Act.put, List.setIfInBounds_toArray, List.set_cons_zero, List.set_cons_succ]
    refine wpAnyH_take (i := 8) (oi := ?oi4_141_8) (v := undef) ?hi4_141_8 (by kernel_rfl) (by kernel_rfl) (by kernel_rfl) ?hq4_141_8 ?hy4_141_8 hHeld ?rest4_141_8
    case hi4_141_8 => (simp only [List.getElem?_toArray, List.getElem?_cons_succ, List.getElem?_cons_zero]; rfl)
    case hq4_141_8 => exact fun _ _ _ h => h
    case hy4_141_8 => exact Or.inr ⟨by rfl, rfl⟩
    simp only [Act.put, List.setIfInBounds_toArray, List.set_cons_zero, List.set_cons_succ]
    refine wpAnyH_take (i := 7) (oi := ?oi4_146_7) (v := undef) ?hi4_146_7 (by kernel_rfl) (by kernel_rfl) (by kernel_rfl) ?hq4_146_7 ?hy4_146_7 hHeld ?rest4_146_7
    case hi4_146_7 => (simp only [List.getElem?_toArray, List.getElem?_cons_succ, List.getElem?_cons_zero]; rfl)
    case hq4_146_7 => exact fun _ _ _ h => h
    case hy4_146_7 => exact Or.inr ⟨by rfl, rfl⟩
    simp only [Act.put, List.setIfInBounds_toArray, List.set_cons_zero, List.set_cons_succ]
    refine wpAnyH_take (i := 9) (oi := ?oi4_151_9) (v := undef) ?hi4_151_9 (by kernel_rfl) (by kernel_rfl) (by kernel_rfl) ?hq4_151_9 ?hy4_151_9 hHeld ?rest4_151_9
    case hi4_151_9 => (simp only [List.getElem?_toArray, List.getElem?_cons_succ, List.getElem?_cons_zero]; rfl)
    case hq4_151_9 => exact fun _ _ _ h => h
    case hy4_151_9 => exact Or.inr ⟨by rfl, rfl⟩
    simp only [Act.put, List.setIfInBounds_toArray, List.set_cons_zero, List.set_cons_succ]
    refine wpAnyH_take (i := 10) (oi := ?oi4_156_10) (v := undef) ?hi4_156_10 (by kernel_rfl) (by kernel_rfl) (by kernel_rfl) ?hq4_156_10 ?hy4_156_10 hHeld ?rest4_156_10
    case hi4_156_10 => (simp only [List.getElem?_toArray, List.getElem?_cons_succ, List.getElem?_cons_zero]; rfl)
    case hq4_156_10 => exact fun _ _ _ h => h
    case hy4_156_10 => exact Or.inr ⟨by rfl, rfl⟩
    simp only [Act.put, List.setIfInBounds_toArray, List.set_cons_zero, List.set_cons_succ]
    refine wpAnyH_take (i := 11) (oi := ?oi4_161_11) (v := ?vv4_161_11) ?hi4_161_11 (by kernel_rfl) (by kernel_rfl) (by kernel_rfl) ?hq4_161_11 ?hy4_161_11 hHeld ?rest4_161_11
    case hi4_161_11 => (simp only [List.getElem?_toArray, List.getElem?_cons_succ, List.getElem?_cons_zero]; rfl)
    case hq4_161_11 => exact fun _ _ _ h => h
    case hy4_161_11 =>
      refine Or.inl ⟨by rfl, ?_⟩
      intro wS hSw
      try dsimp only at hSw
      obtain ⟨q0, q1, q2, q3, q4, q5⟩ := hSw
      go_simp
      try with_reducible rfl
    simp only [Act.put, List.setIfInBounds_toArray, List.set_cons_zero, List.set_cons_succ]
    refine wpAnyH_take (i := 12) (oi := ?oi4_172_12) (v := ?vv4_172_12) ?hi4_172_12 (by kernel_rfl) (by kernel_rfl) (by kernel_rfl) ?hq4_172_12 ?hy4_172_12 hHeld ?rest4_172_12
    case hi4_172_12 => (simp only [List.getElem?_toArray, List.getElem?_cons_succ, List.getElem?_cons_zero]; rfl)
    case hq4_172_12 => exact fun _ _ _ h => h
    case hy4_172_12 =>
      refine Or.inl ⟨by rfl, ?_⟩
      intro wS hSw
      try dsimp only at hSw
      obtain ⟨q0, q1, q2, q3, q4, q5⟩ := hSw
      go_simp
      try with_reducible rfl
    simp only [Act.put, List.setIfInBounds_toArray, List.set_cons_zero, List.set_cons_succ]
    refine wpAnyH_take (i := 13) (oi := ?oi4_183_13) (v := undef) ?hi4_183_13 (by kernel_rfl) (by kernel_rfl) (by kernel_rfl) ?hq4_183_13 ?hy4_183_13 hHeld ?rest4_183_13
    case hi4_183_13 => (simp only [List.getElem?_toArray, List.getElem?_cons_succ, List.getElem?_cons_zero]; rfl)
    case hq4_183_13 => exact fun _ _ _ h => h
    case hy4_183_13 => exact Or.inr ⟨by rfl, rfl⟩
    simp only [Act.put, List.setIfInBounds_toArray, List.set_cons_zero, List.set_cons_succ]
    refine wpAnyH_take (i := 15) (oi := ?oi4_188_15) (v := undef) ?hi4_188_15 (by kernel_rfl) (by kernel_rfl) (by kernel_rfl) ?hq4_188_15 ?hy4_188_15 hHeld ?rest4_188_15
    case hi4_188_15 => (simp only [List.getElem?_toArray, List.getElem?_cons_succ, List.getElem?_cons_zero]; rfl)
    case hq4_188_15 => exact fun _ _ _ h => h
    case hy4_188_15 => exact Or.inr ⟨by rfl, rfl⟩
    simp only [Act.put, List.setIfInBounds_toArray, List.set_cons_zero, List.set_cons_succ]
    refine wpAnyH_take (i := 14) (oi := ?oi4_193_14) (v := undef) ?hi4_193_14 (by kernel_rfl) (by kernel_rfl) (by kernel_rfl) ?hq4_193_14 ?hy4_193_14 hHeld ?rest4_193_14
    case hi4_193_14 => (simp only [List.getElem?_toArray, List.getElem?_cons_succ, List.getElem?_cons_zero]; rfl)
    case hq4_193_14 => exact fun _ _ _ h => h
    case hy4_193_14 => exact Or.inr ⟨by rfl, rfl⟩
    simp only [Act.put, List.setIfInBounds_toArray, List.set_cons_zero, List.set_cons_succ]
    refine wpAnyH_take (i := 16) (oi := ?oi4_198_16) (v := undef) ?hi4_198_16 (by kernel_rfl) (by kernel_rfl) (by kernel_rfl) ?hq4_198_16 ?hy4_198_16 hHeld ?rest4_198_16
    case hi4_198_16 => (simp only [List.getElem?_toArray, List.getElem?_cons_succ, List.getElem?_cons_zero]; rfl)
    case hq4_198_16 => exact fun _ _ _ h => h
    case hy4_198_16 => exact Or.inr ⟨by rfl, rfl⟩
    simp only [Act.put, List.setIfInBounds_toArray, List.set_cons_zero, List.set_cons_succ]
    refine wpAnyH_take (i := 17) (oi := ?oi4_203_17) (v := undef) ?hi4_203_17 (by kernel_rfl) (by kernel_rfl) (by kernel_rfl) ?hq4_203_17 ?hy4_203_17 hHeld ?rest4_203_17
    case hi4_203_17 => (simp only [List.getElem?_toArray, List.getElem?_cons_succ, List.getElem?_cons_zero]; rfl)
    case hq4_203_17 => exact fun _ _ _ h => h
    case hy4_203_17 => exact Or.inr ⟨by rfl, rfl⟩
    simp only [Act.put, List.setIfInBounds_toArray, List.set_cons_zero, List.set_cons_succ]
    refine wpAnyH_take (i := 18) (oi := ?oi4_208_18) (v := ?vv4_208_18) ?hi4_208_18 (by kernel_rfl) (by kernel_rfl) (by kernel_rfl) ?hq4_208_18 ?hy4_208_18 hHeld ?rest4_208_18
    case hi4_208_18 => (simp only [List.getElem?_toArray, List.getElem?_cons_succ, List.getElem?_cons_zero]; rfl)
    case hq4_208_18 => exact fun _ _ _ h => h
    case hy4_208_18 =>
      refine Or.inl ⟨by rfl, ?_⟩
      intro wS hSw
      try dsimp only at hSw
      obtain ⟨q0, q1, q2, q3, q4, q5⟩ := hSw
      go_simp
      try with_reducible rfl
    simp only [Act.put, List.setIfInBounds_toArray, List.set_cons_zero, List.set_cons_succ]
    refine wpAnyH_take (i := 19) (oi := ?oi4_219_19) (v := ?vv4_219_19) ?hi4_219_19 (by kernel_rfl) (by kernel_rfl) (by kernel_rfl) ?hq4_219_19 ?hy4_219_19 hHeld ?rest4_219_19
    case hi4_219_19 => (simp only [List.getElem?_toArray, List.getElem?_cons_succ, List.getElem?_cons_zero]; rfl)
    case hq4_219_19 => exact fun _ _ _ h => h
    case hy4_219_19 =>
      refine Or.inl ⟨by rfl, ?_⟩
      intro wS hSw
      try dsimp only at hSw
      obtain ⟨q0, q1, q2, q3, q4, q5⟩ := hSw
      go_simp
      try with_reducible rfl
    simp only [Act.put, List.setIfInBounds_toArray, List.set_cons_zero, List.set_cons_succ]
    refine wpAnyH_done (by kernel_rfl) ?_ _
    all_goals
      go_wp2_with fail
      go_ret
      rw [HE.out]
      exact ⟨rfl, hF⟩
  · have hs1 : (sa == sb) = true := by have h := HC.out.symm; simp only [Bool.and_eq_true] at h; exact h.1.1
    by_cases hmm : ma = mb
    · have HM : Hid ((ma == mb) = true) := hid (by simpa using hmm)
      clear hmm
      have HE : Hid ((sa == sb && ma == mb && da == db) = (da == db)) := hid (by rw [hs1, HM.out]; simp)
      generalize hdd : (da == db) = dd at HE
      have HDD := hid hdd
      clear hdd hs1
      obtain ⟨ao, ac, ap, ae, rfl, a1, a2, a3, a4, aN, aD⟩ := RW.open ha
      clear ha
      obtain ⟨bo, bc, bp, be, rfl, b1, b2, b3, b4, bN, bD⟩ := RW.open hb
      clear hb
      have kA : BlkV ((w.alloc (.cells #[.bool sa, .slice ao (nl (ma)) ac, .slice ap (nl (da)) ae] 34)).alloc (.cells #[.bool sb, .slice bo (nl (mb)) bc, .slice bp (nl (db)) be] 34)) (w.heap.size) 34 [.bool sa, .slice ao (nl (ma)) ac, .slice ap (nl (da)) ae] := (BlkV.made' w (w.heap.size) (by simp) 34 [.bool sa, .slice ao (nl (ma)) ac, .slice ap (nl (da)) ae]).alloc _
      have kB : BlkV ((w.alloc (.cells #[.bool sa, .slice ao (nl (ma)) ac, .slice ap (nl (da)) ae] 34)).alloc (.cells #[.bool sb, .slice bo (nl (mb)) bc, .slice bp (nl (db)) be] 34)) (w.heap.size + 1) 34 [.bool sb, .slice bo (nl (mb)) bc, .slice bp (nl (db)) be] := BlkV.made' (w.alloc (.cells #[.bool sa, .slice ao (nl (ma)) ac, .slice ap (nl (da)) ae] 34)) (w.heap.size + 1) (by simp) 34 [.bool sb, .slice bo (nl (mb)) bc, .slice bp (nl (db)) be]
      have hF : Fwd w ((w.alloc (.cells #[.bool sa, .slice ao (nl (ma)) ac, .slice ap (nl (da)) ae] 34)).alloc (.cells #[.bool sb, .slice bo (nl (mb)) bc, .slice bp (nl (db)) be] 34)) := ((Fwd.refl w).alloc _).alloc _
      replace aN := aN.fwd hF
      replace aD := aD.fwd hF
      replace bN := bN.fwd hF
      replace bD := bD.fwd hF
      go_enter Tryz.func62, Tryz.ntmps62
      have ha' : RW ((w.alloc (.cells #[.bool sa, .slice ao (nl (ma)) ac, .slice ap (nl (da)) ae] 34)).alloc (.cells #[.bool sb, .slice bo (nl (mb)) bc, .slice bp (nl (db)) be] 34)) (.agg #[.bool sa, .slice ao (nl ma) ac, .slice ap (nl da) ae]) sa ma da := ⟨_, _, rfl, aN, aD⟩
      have hb' : RW ((w.alloc (.cells #[.bool sa, .slice ao (nl (ma)) ac, .slice ap (nl (da)) ae] 34)).alloc (.cells #[.bool sb, .slice bo (nl (mb)) bc, .slice bp (nl (db)) be] 34)) (.agg #[.bool sb, .slice bo (nl mb) bc, .slice bp (nl db) be]) sb mb db := ⟨_, _, rfl, bN, bD⟩
      go_wp2_with fail
      replace aN := aN.drew
      replace aD := aD.drew
      replace bN := bN.drew
      replace bD := bD.drew
      replace ha' := ha'.drew
      replace hb' := hb'.drew
      replace kA := kA.drew
      replace kB := kB.drew
      replace hF := hF.drew
      have ac0 := BlkV.cell kA 0 rfl
      have ac1 := BlkV.cell kA 1 rfl
      have ac2 := BlkV.cell kA 2 rfl
      have bc0 := BlkV.cell kB 0 rfl
      have bc1 := BlkV.cell kB 1 rfl
      have bc2 := BlkV.cell kB 2 rfl
      refine wp_region_held_drew (S := fun w' => w'.cell? ⟨w.heap.size, 0, none⟩ = some (.bool sa) ∧ w'.cell? ⟨w.heap.size, 1, none⟩ = some (.slice ao (nl (ma)) ac) ∧ w'.cell? ⟨w.heap.size, 2, none⟩ = some (.slice ap (nl (da)) ae) ∧ w'.cell? ⟨w.heap.size + 1, 0, none⟩ = some (.bool sb) ∧ w'.cell? ⟨w.heap.size + 1, 1, none⟩ = some (.slice bo (nl (mb)) bc) ∧ w'.cell? ⟨w.heap.size + 1, 2, none⟩ = some (.slice bp (nl (db)) be)) (by kernel_rfl) ⟨by with_reducible assumption, by with_reducible assumption, by with_reducible assumption, by with_reducible assumption, by with_reducible assumption, by with_reducible assumption⟩ (fun hHeld => ?_)
      refine wpAnyH_take (i := 0) (oi := ?oi6_37_0) (v := ?vv6_37_0) ?hi6_37_0 (by kernel_rfl) (by kernel_rfl) (by kernel_rfl) ?hq6_37_0 ?hy6_37_0 hHeld ?rest6_37_0
      case hi6_37_0 => (simp only [List.getElem?_toArray, List.getElem?_cons_succ, List.getElem?_cons_zero]; rfl)
      case hq6_37_0 => exact fun _ _ _ h => h
      case hy6_37_0 =>
        refine Or.inl ⟨by rfl, ?_⟩
        intro wS hSw
        try dsimp only at hSw
        obtain ⟨q0, q1, q2, q3, q4, q5⟩ := hSw
        go_simp
        try with_reducible rfl
      simp only [Act.put, List.setIfInBounds_toArray, List.set_cons_zero, List.set_cons_succ]
      refine wpAnyH_take (i := 2) (oi := ?oi6_48_2) (v := ?vv6_48_2) ?hi6_48_2 (by kernel_rfl) (by kernel_rfl) (by kernel_rfl) ?hq6_48_2 ?hy6_48_2 hHeld ?rest6_48_2
      case hi6_48_2 => (simp only [List.getElem?_toArray, List.getElem?_cons_succ, List.getElem?_cons_zero]; rfl)
      case hq6_48_2 => exact fun _ _ _ h => h
      case hy6_48_2 =>
        refine Or.inl ⟨by rfl, ?_⟩
        intro wS hSw
        try dsimp only at hSw
        obtain ⟨q0, q1, q2, q3, q4, q5⟩ := hSw
        go_simp
        try with_reducible rfl
      simp only [Act.put, List.setIfInBounds_toArray, List.set_cons_zero, List.set_cons_succ]
      refine wpAnyH_ready (rs := [1]) (by kernel_rfl) (by simp) ?_
      refine AllReadyH.cons rfl (fun K hK => ?_) AllReadyH.nil
      go_simp
      refine (shapeOf_any ha' (by omega) (by omega)).mono ?_
      rintro e w1 ⟨rfl, hf1⟩
      replace aN := aN.fwd hf1
      replace aD := aD.fwd hf1
      replace bN := bN.fwd hf1
      replace bD := bD.fwd hf1
      replace ha' := ha'.fwd hf1
      replace hb' := hb'.fwd hf1
      replace kA := kA.fwd hf1
      replace kB := kB.fwd hf1
      replace hF := hF.trans hf1
      clear hf1
      clear ac0 ac1 ac2
      have ac0 := BlkV.cell kA 0 rfl
      have ac1 := BlkV.cell kA 1 rfl
      have ac2 := BlkV.cell kA 2 rfl
      clear bc0 bc1 bc2
      have bc0 := BlkV.cell kB 0 rfl
      have bc1 := BlkV.cell kB 1 rfl
      have bc2 := BlkV.cell kB 2 rfl
      go_wp2_with fail
      clear hHeld
      refine hK.out _ _ ⟨by with_reducible assumption, by with_reducible assumption, by with_reducible assumption, by with_reducible assumption, by with_reducible assumption, by with_reducible assumption⟩ (fun hHeld => ?_)
      clear hK K
      try simp only [Act.put, List.setIfInBounds_toArray, List.set_cons_zero, List.set_cons_succ]
      refine wpAnyH_ready (rs := [3]) (by kernel_rfl) (by simp) ?_
      refine AllReadyH.cons rfl (fun K hK => ?_) AllReadyH.nil
      go_simp
      refine (shapeOf_any hb' (by omega) (by omega)).mono ?_
      rintro e w2 ⟨rfl, hf2⟩
      replace aN := aN.fwd hf2
      replace aD := aD.fwd hf2
      replace bN := bN.fwd hf2
      replace bD := bD.fwd hf2
      replace ha' := ha'.fwd hf2
      replace hb' := hb'.fwd hf2
      replace kA := kA.fwd hf2
      replace kB := kB.fwd hf2
      replace hF := hF.trans hf2
      clear hf2
      clear ac0 ac1 ac2
      have ac0 := BlkV.cell kA 0 rfl
      have ac1 := BlkV.cell kA 1 rfl
      have ac2 := BlkV.cell kA 2 rfl
      clear bc0 bc1 bc2
      have bc0 := BlkV.cell kB 0 rfl
      have bc1 := BlkV.cell kB 1 rfl
      have bc2 := BlkV.cell kB 2 rfl
      go_wp2_with fail
      clear hHeld
      refine hK.out _ _ ⟨by with_reducible assumption, by with_reducible assumption, by with_reducible assumption, by with_reducible assumption, by with_reducible assumption, by with_reducible assumption⟩ (fun hHeld => ?_)
      clear hK K
      try simp only [Act.put, List.setIfInBounds_toArray, List.set_cons_zero, List.set_cons_succ]
      refine wpAnyH_take (i := 4) (oi := ?oi6_115_4) (v := ?vv6_115_4) ?hi6_115_4 (by kernel_rfl) (by kernel_rfl) (by kernel_rfl) ?hq6_115_4 ?hy6_115_4 hHeld ?rest6_115_4
      case hi6_115_4 => (simp only [List.getElem?_toArray, List.getElem?_cons_succ, List.getElem?_cons_zero]; rfl)
      case hq6_115_4 => exact fun _ _ _ h => h
      case hy6_115_4 =>
        refine Or.inl ⟨by rfl, ?_⟩
        intro wS hSw
        try dsimp only at hSw
        obtain ⟨q0, q1, q2, q3, q4, q5⟩ := hSw
        go_simp
        try with_reducible rfl
      simp only [Act.put, List.setIfInBounds_toArray, List.set_cons_zero, List.set_cons_succ]
      refine wpAnyH_take (i := 5) (oi := ?oi6_126_5) (v := ?vv6_126_5) ?hi6_126_5 (by kernel_rfl) (by kernel_rfl) (by kernel_rfl) ?hq6_126_5 ?hy6_126_5 hHeld ?rest6_126_5
      case hi6_126_5 => (simp only [List.getElem?_toArray, List.getElem?_cons_succ, List.getElem?_cons_zero]; rfl)
      case hq6_126_5 => exact fun _ _ _ h => h
      case hy6_126_5 =>
        refine Or.inl ⟨by rfl, ?_⟩
        intro wS hSw
        try dsimp only at hSw
        obtain ⟨q0, q1, q2, q3, q4, q5⟩ := hSw
        go_simp
        try with_reducible rfl
      simp only [Act.put, List.setIfInBounds_toArray, List.set_cons_zero, List.set_cons_succ]
      refine wpAnyH_take (i := 6) (oi := ?oi6_137_6) (v := ?vv6_137_6) ?hi6_137_6 (by kernel_rfl) (by kernel_rfl) (by kernel_rfl) ?hq6_137_6 ?hy6_137_6 hHeld ?rest6_137_6
      case hi6_137_6 => (simp only [List.getElem?_toArray, List.getElem?_cons_succ, List.getElem?_cons_zero]; rfl)
      case hq6_137_6 => exact fun _ _ _ h => h
      case hy6_137_6 =>
        refine Or.inl ⟨by rfl, ?_⟩
        intro wS hSw
        try dsimp only at hSw
        obtain ⟨q0, q1, q2, q3, q4, q5⟩ := hSw
        go_simp
        try with_reducible rfl
      simp only [Act.put, List.setIfInBounds_toArray, List.set_cons_zero, List.set_cons_succ]
      refine wpAnyH_take (i := 8) (oi := ?oi6_148_8) (v := ?vv6_148_8) ?hi6_148_8 (by kernel_rfl) (by kernel_rfl) (by kernel_rfl) ?hq6_148_8 ?hy6_148_8 hHeld ?rest6_148_8
      case hi6_148_8 => (simp only [List.getElem?_toArray, List.getElem?_cons_succ, List.getElem?_cons_zero]; rfl)
      case hq6_148_8 => exact fun _ _ _ h => h
      case hy6_148_8 =>
        refine Or.inl ⟨by rfl, ?_⟩
        intro wS hSw
        try dsimp only at hSw
        obtain ⟨q0, q1, q2, q3, q4, q5⟩ := hSw
        go_simp
        try with_reducible rfl
      simp only [Act.put, List.setIfInBounds_toArray, List.set_cons_zero, List.set_cons_succ]
      refine wpAnyH_take (i := 7) (oi := ?oi6_159_7) (v := ?vv6_159_7) ?hi6_159_7 (by kernel_rfl) (by kernel_rfl) (by kernel_rfl) ?hq6_159_7 ?hy6_159_7 hHeld ?rest6_159_7
      case hi6_159_7 => (simp only [List.getElem?_toArray, List.getElem?_cons_succ, List.getElem?_cons_zero]; rfl)
      case hq6_159_7 => exact fun _ _ _ h => h
      case hy6_159_7 =>
        refine Or.inl ⟨by rfl, ?_⟩
        intro wS hSw
        try dsimp only at hSw
        obtain ⟨q0, q1, q2, q3, q4, q5⟩ := hSw
        go_simp
        try with_reducible rfl
      simp only [Act.put, List.setIfInBounds_toArray, List.set_cons_zero, List.set_cons_succ]
      refine wpAnyH_take (i := 9) (oi := ?oi6_170_9) (v := ?vv6_170_9) ?hi6_170_9 (by kernel_rfl) (by kernel_rfl) (by kernel_rfl) ?hq6_170_9 ?hy6_170_9 hHeld ?rest6_170_9
      case hi6_170_9 => (simp only [List.getElem?_toArray, List.getElem?_cons_succ, List.getElem?_cons_zero]; rfl)
      case hq6_170_9 => exact fun _ _ _ h => h
      case hy6_170_9 =>
        refine Or.inl ⟨by rfl, ?_⟩
        intro wS hSw
        try dsimp only at hSw
        obtain ⟨q0, q1, q2, q3, q4, q5⟩ := hSw
        go_simp
        try with_reducible rfl
      simp only [Act.put, List.setIfInBounds_toArray, List.set_cons_zero, List.set_cons_succ]
      refine wpAnyH_ready (rs := [10]) (by kernel_rfl) (by simp) ?_
      refine AllReadyH.cons rfl (fun K hK => ?_) AllReadyH.nil
      go_simp
      refine (equal_any aN bN (by omega) (by omega)).mono ?_
      rintro e w3 ⟨rfl, hf3⟩
      replace aN := aN.fwd hf3
      replace aD := aD.fwd hf3
      replace bN := bN.fwd hf3
      replace bD := bD.fwd hf3
      replace ha' := ha'.fwd hf3
      replace hb' := hb'.fwd hf3
      replace kA := kA.fwd hf3
      replace kB := kB.fwd hf3
      replace hF := hF.trans hf3
      clear hf3
      clear ac0 ac1 ac2
      have ac0 := BlkV.cell kA 0 rfl
      have ac1 := BlkV.cell kA 1 rfl
      have ac2 := BlkV.cell kA 2 rfl
      clear bc0 bc1 bc2
      have bc0 := BlkV.cell kB 0 rfl
      have bc1 := BlkV.cell kB 1 rfl
      have bc2 := BlkV.cell kB 2 rfl
      rw [HM.out]
      go_wp2_with fail
      clear hHeld
      refine hK.out _ _ ⟨by with_reducible assumption, by with_reducible assumption, by with_reducible assumption, by with_reducible assumption, by with_reducible assumption, by with_reducible assumption⟩ (fun hHeld => ?_)
      clear hK K
      try simp only [Act.put, List.setIfInBounds_toArray, List.set_cons_zero, List.set_cons_succ]
      refine wpAnyH_take (i := 11) (oi := ?oi6_210_11) (v := ?vv6_210_11) ?hi6_210_11 (by kernel_rfl) (by kernel_rfl) (by kernel_rfl) ?hq6_210_11 ?hy6_210_11 hHeld ?rest6_210_11
      case hi6_210_11 => (simp only [List.getElem?_toArray, List.getElem?_cons_succ, List.getElem?_cons_zero]; rfl)
      case hq6_210_11 => exact fun _ _ _ h => h
      case hy6_210_11 =>
        refine Or.inl ⟨by rfl, ?_⟩
        intro wS hSw
        try dsimp only at hSw
        obtain ⟨q0, q1, q2, q3, q4, q5⟩ := hSw
        go_simp
        try with_reducible rfl
      simp only [Act.put, List.setIfInBounds_toArray, List.set_cons_zero, List.set_cons_succ]
      refine wpAnyH_take (i := 12) (oi := ?oi6_221_12) (v := ?vv6_221_12) ?hi6_221_12 (by kernel_rfl) (by kernel_rfl) (by kernel_rfl) ?hq6_221_12 ?hy6_221_12 hHeld ?rest6_221_12
      case hi6_221_12 => (simp only [List.getElem?_toArray, List.getElem?_cons_succ, List.getElem?_cons_zero]; rfl)
      case hq6_221_12 => exact fun _ _ _ h => h
      case hy6_221_12 =>
        refine Or.inl ⟨by rfl, ?_⟩
        intro wS hSw
        try dsimp only at hSw
        obtain ⟨q0, q1, q2, q3, q4, q5⟩ := hSw
        go_simp
        try with_reducible rfl
      simp only [Act.put, List.setIfInBounds_toArray, List.set_cons_zero, List.set_cons_succ]
      refine wpAnyH_take (i := 13) (oi := ?oi6_232_13) (v := ?vv6_232_13) ?hi6_232_13 (by kernel_rfl) (by kernel_rfl) (by kernel_rfl) ?hq6_232_13 ?hy6_232_13 hHeld ?rest6_232_13
      case hi6_232_13 => (simp only [List.getElem?_toArray, List.getElem?_cons_succ, List.getElem?_cons_zero]; rfl)
      case hq6_232_13 => exact fun _ _ _ h => h
      case hy6_232_13 =>
        refine Or.inl ⟨by rfl, ?_⟩
        intro wS hSw
        try dsimp only at hSw
        obtain ⟨q0, q1, q2, q3, q4, q5⟩ := hSw
        go_simp
        try with_reducible rfl
      simp only [Act.put, List.setIfInBounds_toArray, List.set_cons_zero, List.set_cons_succ]
      refine wpAnyH_take (i := 15) (oi := ?oi6_243_15) (v := ?vv6_243_15) ?hi6_243_15 (by kernel_rfl) (by kernel_rfl) (by kernel_rfl) ?hq6_243_15 ?hy6_243_15 hHeld ?rest6_243_15
      case hi6_243_15 => (simp only [List.getElem?_toArray, List.getElem?_cons_succ, List.getElem?_cons_zero]; rfl)
      case hq6_243_15 => exact fun _ _ _ h => h
      case hy6_243_15 =>
        refine Or.inl ⟨by rfl, ?_⟩
        intro wS hSw
        try dsimp only at hSw
        obtain ⟨q0, q1, q2, q3, q4, q5⟩ := hSw
        go_simp
        try with_reducible rfl
      simp only [Act.put, List.setIfInBounds_toArray, List.set_cons_zero, List.set_cons_succ]
      refine wpAnyH_take (i := 14) (oi := ?oi6_254_14) (v := ?vv6_254_14) ?hi6_254_14 (by kernel_rfl) (by kernel_rfl) (by kernel_rfl) ?hq6_254_14 ?hy6_254_14 hHeld ?rest6_254_14
      case hi6_254_14 => (simp only [List.getElem?_toArray, List.getElem?_cons_succ, List.getElem?_cons_zero]; rfl)
      case hq6_254_14 => exact fun _ _ _ h => h
      case hy6_254_14 =>
        refine Or.inl ⟨by rfl, ?_⟩
        intro wS hSw
        try dsimp only at hSw
        obtain ⟨q0, q1, q2, q3, q4, q5⟩ := hSw
        go_simp
        try with_reducible rfl
      simp only [Act.put, List.setIfInBounds_toArray, List.set_cons_zero, List.set_cons_succ]
      refine wpAnyH_take (i := 16) (oi := ?oi6_265_16) (v := ?vv6_265_16) ?hi6_265_16 (by kernel_rfl) (by kernel_rfl) (by kernel_rfl) ?hq6_265_16 ?hy6_265_16 hHeld ?rest6_265_16
      case hi6_265_16 => (simp only [List.getElem?_toArray, List.getElem?_cons_succ, List.getElem?_cons_zero]; rfl)
      case hq6_265_16 => exact fun _ _ _ h => h
      case hy6_265_16 =>
        refine Or.inl ⟨by rfl, ?_⟩
        intro wS hSw
        try dsimp only at hSw
        obtain ⟨q0, q1, q2, q3, q4, q5⟩ := hSw
        go_simp
        try with_reducible rfl
      simp only [Act.put, List.setIfInBounds_toArray, List.set_cons_zero, List.set_cons_succ]
      refine wpAnyH_ready (rs := [17]) (by kernel_rfl) (by simp) ?_
      refine AllReadyH.cons rfl (fun K hK => ?_) AllReadyH.nil
      go_simp
      refine (equal_any aD bD (by omega) (by omega)).mono ?_
      rintro e w4 ⟨rfl, hf4⟩
      replace aN := aN.fwd hf4
      replace aD := aD.fwd hf4
      replace bN := bN.fwd hf4
      replace bD := bD.fwd hf4
      replace ha' := ha'.fwd hf4
      replace hb' := hb'.fwd hf4
      replace kA := kA.fwd hf4
      replace kB := kB.fwd hf4
      replace hF := hF.trans hf4
      clear hf4
      clear ac0 ac1 ac2
      have ac0 := BlkV.cell kA 0 rfl
      have ac1 := BlkV.cell kA 1 rfl
      have ac2 := BlkV.cell kA 2 rfl
      clear bc0 bc1 bc2
      have bc0 := BlkV.cell kB 0 rfl
      have bc1 := BlkV.cell kB 1 rfl
      have bc2 := BlkV.cell kB 2 rfl
      rw [HDD.out]
      go_wp2_with fail
      clear hHeld
      refine hK.out _ _ ⟨by with_reducible assumption, by with_reducible assumption, by with_reducible assumption, by with_reducible assumption, by with_reducible assumption, by with_reducible assumption⟩ (fun hHeld => ?_)
      clear hK K
      try simp only [Act.put, List.setIfInBounds_toArray, List.set_cons_zero, List.set_cons_succ]
      refine wpAnyH_take (i := 18) (oi := ?oi6_305_18) (v := ?vv6_305_18) ?hi6_305_18 (by kernel_rfl) (by kernel_rfl) (by kernel_rfl) ?hq6_305_18 ?hy6_305_18 hHeld ?rest6_305_18
      case hi6_305_18 => (simp only [List.getElem?_toArray, List.getElem?_cons_succ, List.getElem?_cons_zero]; rfl)
      case hq6_305_18 => exact fun _ _ _ h => h
      case hy6_305_18 =>
        refine Or.inl ⟨by rfl, ?_⟩
        intro wS hSw
        try dsimp only at hSw
        obtain ⟨q0, q1, q2, q3, q4, q5⟩ := hSw
        go_simp
        try with_reducible rfl
      simp only [Act.put, List.setIfInBounds_toArray, List.set_cons_zero, List.set_cons_succ]
      refine wpAnyH_take (i := 19) (oi := ?oi6_316_19) (v := ?vv6_316_19) ?hi6_316_19 (by kernel_rfl) (by kernel_rfl) (by kernel_rfl) ?hq6_316_19 ?hy6_316_19 hHeld ?rest6_316_19
      case hi6_316_19 => (simp only [List.getElem?_toArray, List.getElem?_cons_succ, List.getElem?_cons_zero]; rfl)
      case hq6_316_19 => exact fun _ _ _ h => h
      case hy6_316_19 =>
        refine Or.inl ⟨by rfl, ?_⟩
        intro wS hSw
        try dsimp only at hSw
        obtain ⟨q0, q1, q2, q3, q4, q5⟩ := hSw
        go_simp
        try with_reducible rfl
      simp only [Act.put, List.setIfInBounds_toArray, List.set_cons_zero, List.set_cons_succ]
      refine wpAnyH_done (by kernel_rfl) ?_ _
      all_goals
        go_wp2_with fail
        go_ret
        rw [HE.out]
        exact ⟨rfl, hF⟩
    · have HM : Hid ((ma == mb) = false) := hid (by simpa using hmm)
      clear hmm
      have HE : Hid ((sa == sb && ma == mb && da == db) = false) := hid (by rw [HM.out]; simp)
      clear hs1
      obtain ⟨ao, ac, ap, ae, rfl, a1, a2, a3, a4, aN, aD⟩ := RW.open ha
      clear ha
      obtain ⟨bo, bc, bp, be, rfl, b1, b2, b3, b4, bN, bD⟩ := RW.open hb
      clear hb
      have kA : BlkV ((w.alloc (.cells #[.bool sa, .slice ao (nl (ma)) ac, .slice ap (nl (da)) ae] 34)).alloc (.cells #[.bool sb, .slice bo (nl (mb)) bc, .slice bp (nl (db)) be] 34)) (w.heap.size) 34 [.bool sa, .slice ao (nl (ma)) ac, .slice ap (nl (da)) ae] := (BlkV.made' w (w.heap.size) (by simp) 34 [.bool sa, .slice ao (nl (ma)) ac, .slice ap (nl (da)) ae]).alloc _
      have kB : BlkV ((w.alloc (.cells #[.bool sa, .slice ao (nl (ma)) ac, .slice ap (nl (da)) ae] 34)).alloc (.cells #[.bool sb, .slice bo (nl (mb)) bc, .slice bp (nl (db)) be] 34)) (w.heap.size + 1) 34 [.bool sb, .slice bo (nl (mb)) bc, .slice bp (nl (db)) be] := BlkV.made' (w.alloc (.cells #[.bool sa, .slice ao (nl (ma)) ac, .slice ap (nl (da)) ae] 34)) (w.heap.size + 1) (by simp) 34 [.bool sb, .slice bo (nl (mb)) bc, .slice bp (nl (db)) be]
      have hF : Fwd w ((w.alloc (.cells #[.bool sa, .slice ao (nl (ma)) ac, .slice ap (nl (da)) ae] 34)).alloc (.cells #[.bool sb, .slice bo (nl (mb)) bc, .slice bp (nl (db)) be] 34)) := ((Fwd.refl w).alloc _).alloc _
      replace aN := aN.fwd hF
      replace aD := aD.fwd hF
      replace bN := bN.fwd hF
      replace bD := bD.fwd hF
      go_enter Tryz.func62, Tryz.ntmps62
      have ha' : RW ((w.alloc (.cells #[.bool sa, .slice ao (nl (ma)) ac, .slice ap (nl (da)) ae] 34)).alloc (.cells #[.bool sb, .slice bo (nl (mb)) bc, .slice bp (nl (db)) be] 34)) (.agg #[.bool sa, .slice ao (nl ma) ac, .slice ap (nl da) ae]) sa ma da := ⟨_, _, rfl, aN, aD⟩
      have hb' : RW ((w.alloc (.cells #[.bool sa, .slice ao (nl (ma)) ac, .slice ap (nl (da)) ae] 34)).alloc (.cells #[.bool sb, .slice bo (nl (mb)) bc, .slice bp (nl (db)) be] 34)) (.agg #[.bool sb, .slice bo (nl mb) bc, .slice bp (nl db) be]) sb mb db := ⟨_, _, rfl, bN, bD⟩
      go_wp2_with fail
      replace aN := aN.drew
      replace aD := aD.drew
      replace bN := bN.drew
      replace bD := bD.drew
      replace ha' := ha'.drew
      replace hb' := hb'.drew
      replace kA := kA.drew
      replace kB := kB.drew
      replace hF := hF.drew
      have ac0 := BlkV.cell kA 0 rfl
      have ac1 := BlkV.cell kA 1 rfl
      have ac2 := BlkV.cell kA 2 rfl
      have bc0 := BlkV.cell kB 0 rfl
      have bc1 := BlkV.cell kB 1 rfl
      have bc2 := BlkV.cell kB 2 rfl
      refine wp_region_held_drew (S := fun w' => w'.cell? ⟨w.heap.size, 0, none⟩ = some (.bool sa) ∧ w'.cell? ⟨w.heap.size, 1, none⟩ = some (.slice ao (nl (ma)) ac) ∧ w'.cell? ⟨w.heap.size, 2, none⟩ = some (.slice ap (nl (da)) ae) ∧ w'.cell? ⟨w.heap.size + 1, 0, none⟩ = some (.bool sb) ∧ w'.cell? ⟨w.heap.size + 1, 1, none⟩ = some (.slice bo (nl (mb)) bc) ∧ w'.cell? ⟨w.heap.size + 1, 2, none⟩ = some (.slice bp (nl (db)) be)) (by kernel_rfl) ⟨by with_reducible assumption, by with_reducible assumption, by with_reducible assumption, by with_reducible assumption, by with_reducible assumption, by with_reducible assumption⟩ (fun hHeld => ?_)
      refine wpAnyH_take (i := 0) (oi := ?oi6_35_0) (v := ?vv6_35_0) ?hi6_35_0 (by kernel_rfl) (by kernel_rfl) (by kernel_rfl) ?hq6_35_0 ?hy6_35_0 hHeld ?rest6_35_0
      case hi6_35_0 => (simp only [List.getElem?_toArray, List.getElem?_cons_succ, List.getElem?_cons_zero]; rfl)
      case hq6_35_0 => exact fun _ _ _ h => h
      case hy6_35_0 =>
        refine Or.inl ⟨by rfl, ?_⟩
        intro wS hSw
        try dsimp only at hSw
        obtain ⟨q0, q1, q2, q3, q4, q5⟩ := hSw
        go_simp
        try with_reducible rfl
      simp only [Act.put, List.setIfInBounds_toArray, List.set_cons_zero, List.set_cons_succ]
      refine wpAnyH_take (i := 2) (oi := ?oi6_46_2) (v := ?vv6_46_2) ?hi6_46_2 (by kernel_rfl) (by kernel_rfl) (by kernel_rfl) ?hq6_46_2 ?hy6_46_2 hHeld ?rest6_46_2
      case hi6_46_2 => (simp only [List.getElem?_toArray, List.getElem?_cons_succ, List.getElem?_cons_zero]; rfl)
      case hq6_46_2 => exact fun _ _ _ h => h
      case hy6_46_2 =>
        refine Or.inl ⟨by rfl, ?_⟩
        intro wS hSw
        try dsimp only at hSw
        obtain ⟨q0, q1, q2, q3, q4, q5⟩ := hSw
        go_simp
        try with_reducible rfl
      simp only [Act.put, List.setIfInBounds_toArray, List.set_cons_zero, List.set_cons_succ]
      refine wpAnyH_ready (rs := [1]) (by kernel_rfl) (by simp) ?_
      refine AllReadyH.cons rfl (fun K hK => ?_) AllReadyH.nil
      go_simp
      refine (shapeOf_any ha' (by omega) (by omega)).mono ?_
      rintro e w1 ⟨rfl, hf1⟩
      replace aN := aN.fwd hf1
      replace aD := aD.fwd hf1
      replace bN := bN.fwd hf1
      replace bD := bD.fwd hf1
      replace ha' := ha'.fwd hf1
      replace hb' := hb'.fwd hf1
      replace kA := kA.fwd hf1
      replace kB := kB.fwd hf1
      replace hF := hF.trans hf1
      clear hf1
      clear ac0 ac1 ac2
      have ac0 := BlkV.cell kA 0 rfl
      have ac1 := BlkV.cell kA 1 rfl
      have ac2 := BlkV.cell kA 2 rfl
      clear bc0 bc1 bc2
      have bc0 := BlkV.cell kB 0 rfl
      have bc1 := BlkV.cell kB 1 rfl
      have bc2 := BlkV.cell kB 2 rfl
      go_wp2_with fail
      clear hHeld
      refine hK.out _ _ ⟨by with_reducible assumption, by with_reducible assumption, by with_reducible assumption, by with_reducible assumption, by with_reducible assumption, by with_reducible assumption⟩ (fun hHeld => ?_)
      clear hK K
      try simp only [Act.put, List.setIfInBounds_toArray, List.set_cons_zero, List.set_cons_succ]
      refine wpAnyH_ready (rs := [3]) (by kernel_rfl) (by simp) ?_
      refine AllReadyH.cons rfl (fun K hK => ?_) AllReadyH.nil
      go_simp
      refine (shapeOf_any hb' (by omega) (by omega)).mono ?_
      rintro e w2 ⟨rfl, hf2⟩
      replace aN := aN.fwd hf2
      replace aD := aD.fwd hf2
      replace bN := bN.fwd hf2
      replace bD := bD.fwd hf2
      replace ha' := ha'.fwd hf2
      replace hb' := hb'.fwd hf2
      replace kA := kA.fwd hf2
      replace kB := kB.fwd hf2
      replace hF := hF.trans hf2
      clear hf2
      clear ac0 ac1 ac2
      have ac0 := BlkV.cell kA 0 rfl
      have ac1 := BlkV.cell kA 1 rfl
      have ac2 := BlkV.cell kA 2 rfl
      clear bc0 bc1 bc2
      have bc0 := BlkV.cell kB 0 rfl
      have bc1 := BlkV.cell kB 1 rfl
      have bc2 := BlkV.cell kB 2 rfl
      go_wp2_with fail
      clear hHeld
      refine hK.out _ _ ⟨by with_reducible assumption, by with_reducible assumption, by with_reducible assumption, by with_reducible assumption, by with_reducible assumption, by with_reducible assumption⟩ (fun hHeld => ?_)
      clear hK K
      try simp only [Act.put, List.setIfInBounds_toArray, List.set_cons_zero, List.set_cons_succ]
      refine wpAnyH_take (i := 4) (oi := ?oi6_113_4) (v := ?vv6_113_4) ?hi6_113_4 (by kernel_rfl) (by kernel_rfl) (by kernel_rfl) ?hq6_113_4 ?hy6_113_4 hHeld ?rest6_113_4
      case hi6_113_4 => (simp only [List.getElem?_toArray, List.getElem?_cons_succ, List.getElem?_cons_zero]; rfl)
      case hq6_113_4 => exact fun _ _ _ h => h
      case hy6_113_4 =>
        refine Or.inl ⟨by rfl, ?_⟩
        intro wS hSw
        try dsimp only at hSw
        obtain ⟨q0, q1, q2, q3, q4, q5⟩ := hSw
        go_simp
        try with_reducible rfl
      simp only [Act.put, List.setIfInBounds_toArray, List.set_cons_zero, List.set_cons_succ]
      refine wpAnyH_take (i := 5) (oi := ?oi6_124_5) (v := ?vv6_124_5) ?hi6_124_5 (by kernel_rfl) (by kernel_rfl) (by kernel_rfl) ?hq6_124_5 ?hy6_124_5 hHeld ?rest6_124_5
      case hi6_124_5 => (simp only [List.getElem?_toArray, List.getElem?_cons_succ, List.getElem?_cons_zero]; rfl)
      case hq6_124_5 => exact fun _ _ _ h => h
      case hy6_124_5 =>
        refine Or.inl ⟨by rfl, ?_⟩
        intro wS hSw
        try dsimp only at hSw
        obtain ⟨q0, q1, q2, q3, q4, q5⟩ := hSw
        go_simp
        try with_reducible rfl
      simp only [Act.put, List.setIfInBounds_toArray, List.set_cons_zero, List.set_cons_succ]
      refine wpAnyH_take (i := 6) (oi := ?oi6_135_6) (v := ?vv6_135_6) ?hi6_135_6 (by kernel_rfl) (by kernel_rfl) (by kernel_rfl) ?hq6_135_6 ?hy6_135_6 hHeld ?rest6_135_6
      case hi6_135_6 => (simp only [List.getElem?_toArray, List.getElem?_cons_succ, List.getElem?_cons_zero]; rfl)
      case hq6_135_6 => exact fun _ _ _ h => h
      case hy6_135_6 =>
        refine Or.inl ⟨by rfl, ?_⟩
        intro wS hSw
        try dsimp only at hSw
        obtain ⟨q0, q1, q2, q3, q4, q5⟩ := hSw
        go_simp
        try with_reducible rfl
      simp only [Act.put, List.setIfInBounds_toArray, List.set_cons_zero, List.set_cons_succ]
      refine wpAnyH_take (i := 8) (oi := ?oi6_146_8) (v := ?vv6_146_8) ?hi6_146_8 (by kernel_rfl) (by kernel_rfl) (by kernel_rfl) ?hq6_146_8 ?hy6_146_8 hHeld ?rest6_146_8
      case hi6_146_8 => (simp only [List.getElem?_toArray, List.getElem?_cons_succ, List.getElem?_cons_zero]; rfl)
      case hq6_146_8 => exact fun _ _ _ h => h
      case hy6_146_8 =>
        refine Or.inl ⟨by rfl, ?_⟩
        intro wS hSw
        try dsimp only at hSw
        obtain ⟨q0, q1, q2, q3, q4, q5⟩ := hSw
        go_simp
        try with_reducible rfl
      simp only [Act.put, List.setIfInBounds_toArray, List.set_cons_zero, List.set_cons_succ]
      refine wpAnyH_take (i := 7) (oi := ?oi6_157_7) (v := ?vv6_157_7) ?hi6_157_7 (by kernel_rfl) (by kernel_rfl) (by kernel_rfl) ?hq6_157_7 ?hy6_157_7 hHeld ?rest6_157_7
      case hi6_157_7 => (simp only [List.getElem?_toArray, List.getElem?_cons_succ, List.getElem?_cons_zero]; rfl)
      case hq6_157_7 => exact fun _ _ _ h => h
      case hy6_157_7 =>
        refine Or.inl ⟨by rfl, ?_⟩
        intro wS hSw
        try dsimp only at hSw
        obtain ⟨q0, q1, q2, q3, q4, q5⟩ := hSw
        go_simp
        try with_reducible rfl
      simp only [Act.put, List.setIfInBounds_toArray, List.set_cons_zero, List.set_cons_succ]
      refine wpAnyH_take (i := 9) (oi := ?oi6_168_9) (v := ?vv6_168_9) ?hi6_168_9 (by kernel_rfl) (by kernel_rfl) (by kernel_rfl) ?hq6_168_9 ?hy6_168_9 hHeld ?rest6_168_9
      case hi6_168_9 => (simp only [List.getElem?_toArray, List.getElem?_cons_succ, List.getElem?_cons_zero]; rfl)
      case hq6_168_9 => exact fun _ _ _ h => h
      case hy6_168_9 =>
        refine Or.inl ⟨by rfl, ?_⟩
        intro wS hSw
        try dsimp only at hSw
        obtain ⟨q0, q1, q2, q3, q4, q5⟩ := hSw
        go_simp
        try with_reducible rfl
      simp only [Act.put, List.setIfInBounds_toArray, List.set_cons_zero, List.set_cons_succ]
      refine wpAnyH_ready (rs := [10]) (by kernel_rfl) (by simp) ?_
      refine AllReadyH.cons rfl (fun K hK => ?_) AllReadyH.nil
      go_simp
      refine (equal_any aN bN (by omega) (by omega)).mono ?_
      rintro e w3 ⟨rfl, hf3⟩
      replace aN := aN.fwd hf3
      replace aD := aD.fwd hf3
      replace bN := bN.fwd hf3
      replace bD := bD.fwd hf3
      replace ha' := ha'.fwd hf3
      replace hb' := hb'.fwd hf3
      replace kA := kA.fwd hf3
      replace kB := kB.fwd hf3
      replace hF := hF.trans hf3
      clear hf3
      clear ac0 ac1 ac2
      have ac0 := BlkV.cell kA 0 rfl
      have ac1 := BlkV.cell kA 1 rfl
      have ac2 := BlkV.cell kA 2 rfl
      clear bc0 bc1 bc2
      have bc0 := BlkV.cell kB 0 rfl
      have bc1 := BlkV.cell kB 1 rfl
      have bc2 := BlkV.cell kB 2 rfl
      rw [HM.out]
      go_wp2_with fail
      clear hHeld
      refine hK.out _ _ ⟨by with_reducible assumption, by with_reducible assumption, by with_reducible assumption, by with_reducible assumption, by with_reducible assumption, by with_reducible assumption⟩ (fun hHeld => ?_)
      clear hK K
      try simp only [Act.put, List.setIfInBounds_toArray, List.set_cons_zero, List.set_cons_succ]
      refine wpAnyH_take (i := 11) (oi := ?oi6_208_11) (v := ?vv6_208_11) ?hi6_208_11 (by kernel_rfl) (by kernel_rfl) (by kernel_rfl) ?hq6_208_11 ?hy6_208_11 hHeld ?rest6_208_11
      case hi6_208_11 => (simp only [List.getElem?_toArray, List.getElem?_cons_succ, List.getElem?_cons_zero]; rfl)
      case hq6_208_11 => exact fun _ _ _ h => h
      case hy6_208_11 =>
        refine Or.inl ⟨by rfl, ?_⟩
        intro wS hSw
        try dsimp only at hSw
        obtain ⟨q0, q1, q2, q3, q4, q5⟩ := hSw
        go_simp
        try with_reducible rfl
      simp only [Act.put, List.setIfInBounds_toArray, List.set_cons_zero, List.set_cons_succ]
      refine wpAnyH_take (i := 12) (oi := ?oi6_219_12) (v := ?vv6_219_12) ?hi6_219_12 (by kernel_rfl) (by kernel_rfl) (by kernel_rfl) ?hq6_219_12 ?hy6_219_12 hHeld ?rest6_219_12
      case hi6_219_12 => (simp only [List.getElem?_toArray, List.getElem?_cons_succ, List.getElem?_cons_zero]; rfl)
      case hq6_219_12 => exact fun _ _ _ h => h
      case hy6_219_12 =>
        refine Or.inl ⟨by rfl, ?_⟩
        intro wS hSw
        try dsimp only at hSw
        obtain ⟨q0, q1, q2, q3, q4, q5⟩ := hSw
        go_simp
        try with_reducible rfl
      simp only [Act.put, List.setIfInBounds_toArray, List.set_cons_zero, List.set_cons_succ]
      refine wpAnyH_take (i := 13) (oi := ?oi6_230_13) (v := undef) ?hi6_230_13 (by kernel_rfl) (by kernel_rfl) (by kernel_rfl) ?hq6_230_13 ?hy6_230_13 hHeld ?rest6_230_13
      case hi6_230_13 => (simp only [List.getElem?_toArray, List.getElem?_cons_succ, List.getElem?_cons_zero]; rfl)
      case hq6_230_13 => exact fun _ _ _ h => h
      case hy6_230_13 => exact Or.inr ⟨by rfl, rfl⟩
      simp only [Act.put, List.setIfInBounds_toArray, List.set_cons_zero, List.set_cons_succ]
      refine wpAnyH_take (i := 15) (oi := ?oi6_235_15) (v := undef) ?hi6_235_15 (by kernel_rfl) (by kernel_rfl) (by kernel_rfl) ?hq6_235_15 ?hy6_235_15 hHeld ?rest6_235_15
      case hi6_235_15 => (simp only [List.getElem?_toArray, List.getElem?_cons_succ, List.getElem?_cons_zero]; rfl)
      case hq6_235_15 => exact fun _ _ _ h => h
      case hy6_235_15 => exact Or.inr ⟨by rfl, rfl⟩
      simp only [Act.put, List.setIfInBounds_toArray, List.set_cons_zero, List.set_cons_succ]
      refine wpAnyH_take (i := 14) (oi := ?oi6_240_14) (v := undef) ?hi6_240_14 (by kernel_rfl) (by kernel_rfl) (by kernel_rfl) ?hq6_240_14 ?hy6_240_14 hHeld ?rest6_240_14
      case hi6_240_14 => (simp only [List.getElem?_toArray, List.getElem?_cons_succ, List.getElem?_cons_zero]; rfl)
      case hq6_240_14 => exact fun _ _ _ h => h
      case hy6_240_14 => exact Or.inr ⟨by rfl, rfl⟩
      simp only [Act.put, List.setIfInBounds_toArray, List.set_cons_zero, List.set_cons_succ]
      refine wpAnyH_take (i := 16) (oi := ?oi6_245_16) (v := undef) ?hi6_245_16 (by kernel_rfl) (by kernel_rfl) (by kernel_rfl) ?hq6_245_16 ?hy6_245_16 hHeld ?rest6_245_16
      case hi6_245_16 => (simp only [List.getElem?_toArray, List.getElem?_cons_succ, List.getElem?_cons_zero]; rfl)
      case hq6_245_16 => exact fun _ _ _ h => h
      case hy6_245_16 => exact Or.inr ⟨by rfl, rfl⟩
      simp only [Act.put, List.setIfInBounds_toArray, List.set_cons_zero, List.set_cons_succ]
      refine wpAnyH_take (i := 17) (oi := ?oi6_250_17) (v := undef) ?hi6_250_17 (by kernel_rfl) (by kernel_rfl) (by kernel_rfl) ?hq6_250_17 ?hy6_250_17 hHeld ?rest6_250_17
      case hi6_250_17 => (simp only [List.getElem?_toArray, List.getElem?_cons_succ, List.getElem?_cons_zero]; rfl)
      case hq6_250_17 => exact fun _ _ _ h => h
      case hy6_250_17 => exact Or.inr ⟨by rfl, rfl⟩
      simp only [Act.put, List.setIfInBounds_toArray, List.set_cons_zero, List.set_cons_succ]
      refine wpAnyH_take (i := 18) (oi := ?oi6_255_18) (v := ?vv6_255_18) ?hi6_255_18 (by kernel_rfl) (by kernel_rfl) (by kernel_rfl) ?hq6_255_18 ?hy6_255_18 hHeld ?rest6_255_18
      case hi6_255_18 => (simp only [List.getElem?_toArray, List.getElem?_cons_succ, List.getElem?_cons_zero]; rfl)
      case hq6_255_18 => exact fun _ _ _ h => h
      case hy6_255_18 =>
        refine Or.inl ⟨by rfl, ?_⟩
        intro wS hSw
        try dsimp only at hSw
        obtain ⟨q0, q1, q2, q3, q4, q5⟩ := hSw
        go_simp
        try with_reducible rfl
      simp only [Act.put, List.setIfInBounds_toArray, List.set_cons_zero, List.set_cons_succ]
      refine wpAnyH_take (i := 19) (oi := ?oi6_266_19) (v := ?vv6_266_19) ?hi6_266_19 (by kernel_rfl) (by kernel_rfl) (by kernel_rfl) ?hq6_266_19 ?hy6_266_19 hHeld ?rest6_266_19
      case hi6_266_19 => (simp only [List.getElem?_toArray, List.getElem?_cons_succ, List.getElem?_cons_zero]; rfl)
      case hq6_266_19 => exact fun _ _ _ h => h
      case hy6_266_19 =>
        refine Or.inl ⟨by rfl, ?_⟩
        intro wS hSw
        try dsimp only at hSw
        obtain ⟨q0, q1, q2, q3, q4, q5⟩ := hSw
        go_simp
        try with_reducible rfl
      simp only [Act.put, List.setIfInBounds_toArray, List.set_cons_zero, List.set_cons_succ]
      refine wpAnyH_done (by kernel_rfl) ?_ _
      all_goals
        go_wp2_with fail
        go_ret
        rw [HE.out]
        exact ⟨rfl, hF⟩

theorem same_parts (p q : Rat) : (negQ p == negQ q && p.num.natAbs == q.num.natAbs && p.den == q.den) = decide (p = q) := by
  rw [Bool.eq_iff_iff]
  simp only [Bool.and_eq_true, beq_iff_eq, decide_eq_true_eq]
  constructor
  · rintro ⟨⟨h1, h2⟩, h3⟩
    rw [← mkQ_self p, ← mkQ_self q, h1, h2, h3]
  · rintro rfl
    exact ⟨⟨rfl, rfl⟩, rfl⟩

theorem rsame_any {w : World} {a b : Value} {p q : Rat} (ha : RV w a p) (hb : RV w b q) (bp : nr p ≤ 10000) (bq : nr q ≤ 10000) :
    Calls Tryz.prog 62 #[a, b] w fun e w' => e = .returned (.bool (decide (p = q))) ∧ Fwd w w' := by
  rw [← same_parts]
  exact rsame_raw ha.rw' (nr_le bp).1 (nr_le bp).2 hb.rw' (nr_le bq).1 (nr_le bq).2

end Go.Proofs.YtcccejhkblnonaaGreat
