/- FloatInts: whole numbers, small enough, are added, taken away, multiplied exactly, by any mode, without a flag: the law's walk. -/
import Derived.Test.YtbhehgodnfcdgaaDoorXFI
import Derived.Test.YtbhehgodnfcdgaaDoorXF28
import Derived.Test.YtbhehgodnfcdgaaDoorXF17
import Derived.Test.YtbhehgodnfcdgaaDoorXQ9
import Derived.Test.YtbhehgodnfcdgaaDoorXP12
import Derived.OpenShut
namespace Go.Proofs.YtbhehgodnfcdgaaDoor
open Go.RowKit
set_option linter.unusedVariables false
set_option linter.unusedSimpArgs false

theorem nr_small {z : Int} (h : z.natAbs < 9007199254740992) : nr (z : Rat) ≤ 5 := by
  have h1 : nl z.natAbs ≤ 2 := nl_two' h
  have h2 : nl 1 ≤ 2 := nl_two' (by decide)
  have e : nr (z : Rat) = max (nl z.natAbs) (nl 1) := rfl
  omega

set_option maxHeartbeats 16000000 in
set_option maxRecDepth 100000 in
theorem floatInts_walk {w : World} {a b mode : Int} (hR : Ru w) (ha : (Lit.int .i64 a).wf = true) (hb : (Lit.int .i64 b).wf = true) (hk : (Lit.int .i64 mode).wf = true) :
    Calls Tryd.prog 8 #[.int .i64 a, .int .i64 b, .int .i64 mode] w fun e w' => e = .returned (.bool true) ∧ Below w.heap.size w w' := by
  obtain ⟨a1, a2⟩ := bounds_i64 ha
  obtain ⟨b1, b2⟩ := bounds_i64 hb
  obtain ⟨k1, k2⟩ := bounds_i64 hk
  clear ha hb hk
  have hF : Fwd w w := Fwd.refl w
  go_enter Tryd.func8, Tryd.ntmps8
  go_wp2_with fail
  refine (known3_any hR).mono ?_
  rintro e w1 ⟨rfl, hf1⟩
  replace hF := hF.trans hf1
  clear hf1
  go_wp2_with fail
  refine (within3_any _ a 134217728 (by omega) (by omega) a1 a2).mono ?_
  rintro e wq ⟨κ, hκ, rfl, rfl⟩
  obtain ⟨n, hn⟩ : ∃ n : Int, n = (κ : Int) - 67108864 := ⟨_, rfl⟩
  have w1' : IntKind.i64.wrap ((κ : Int) - 67108864) = n := by rw [hn]; simp [IntKind.wrap, IntKind.bits, IntKind.signed]; omega
  have n1 : -67108864 ≤ n ∧ n < 67108864 := by omega
  clear hn hκ
  go_wp2_with fail
  refine (within3_any _ b 67108864 (by omega) (by omega) b1 b2).mono ?_
  rintro e wq ⟨μ, hμ, rfl, rfl⟩
  obtain ⟨m, hm⟩ : ∃ m : Int, m = (μ : Int) - 33554432 := ⟨_, rfl⟩
  have w2' : IntKind.i64.wrap ((μ : Int) - 33554432) = m := by rw [hm]; simp [IntKind.wrap, IntKind.bits, IntKind.signed]; omega
  have m1 : -33554432 ≤ m ∧ m < 33554432 := by omega
  clear hm hμ
  go_wp2_with fail
  refine (within3_any _ mode 5 (by omega) (by omega) k1 k2).mono ?_
  rintro e wq ⟨k, hk, rfl, rfl⟩
  clear a1 a2 b1 b2 k1 k2 hk
  have bn : blen n.natAbs ≤ 27 := (blen_le_iff _ 27).2 (show n.natAbs < 134217728 by omega)
  have bm : blen m.natAbs ≤ 26 := (blen_le_iff _ 26).2 (show m.natAbs < 67108864 by omega)
  have hp : (n * m).natAbs < 9007199254740992 := by
    rw [Int.natAbs_mul]
    have h := Nat.mul_lt_mul'' (show n.natAbs < 67108865 by omega) (show m.natAbs < 33554433 by omega)
    exact Nat.lt_trans h (by decide)
  have bs : blen (n + m).natAbs ≤ 53 := (blen_le_iff _ 53).2 (show (n + m).natAbs < 9007199254740992 by omega)
  have bt : blen (n + -m).natAbs ≤ 53 := (blen_le_iff _ 53).2 (show (n + -m).natAbs < 9007199254740992 by omega)
  obtain ⟨x, hx, ix⟩ := ofQ_int k n (by omega)
  obtain ⟨y, hy, iy⟩ := ofQ_int k m (by omega)
  obtain ⟨s, hs, is⟩ := isI_add k ix iy (by omega) (by omega) bs
  obtain ⟨d, hd, id'⟩ := isI_add k ix (isI_flip iy) (by omega) (by rw [Int.natAbs_neg]; omega) bt
  obtain ⟨u, hu, iu⟩ := isI_mul k ix iy bn bm
  have lx := (isI_lt ix).1
  have ly := (isI_lt iy).1
  have cs := fun w => refRat_any (w := w) s (isI_lt is).1 (isI_lt is).2
  have cd := fun w => refRat_any (w := w) d (isI_lt id').1 (isI_lt id').2
  have cu := fun w => refRat_any (w := w) u (isI_lt iu).1 (isI_lt iu).2
  rw [ratQ_int is] at cs
  rw [ratQ_int id'] at cd
  rw [ratQ_int iu] at cu
  have i1 := fun w => int2_any w n (by omega) (by omega)
  have i2 := fun w => int2_any w m (by omega) (by omega)
  have i3 := fun w => int2_any w (n + m) (by omega) (by omega)
  have i4 := fun w => int2_any w (n + -m) (by omega) (by omega)
  have i5 := fun w => int2_any w (n * m) (by omega) (by omega)
  have v3 : IntKind.i64.wrap (n + m) = n + m := by simp [IntKind.wrap, IntKind.bits, IntKind.signed]; omega
  have v4 : IntKind.i64.wrap (n - m) = n + -m := by simp [IntKind.wrap, IntKind.bits, IntKind.signed]; omega
  have v5 : IntKind.i64.wrap (n * m) = n * m := by
    generalize n * m = nm at *
    simp [IntKind.wrap, IntKind.bits, IntKind.signed]; omega
  have r1 := nr_small (z := n) (by omega)
  have r2 := nr_small (z := m) (by omega)
  have r3 := nr_small (z := n + m) (by omega)
  have r4 := nr_small (z := n + -m) (by omega)
  have r5 := nr_small (z := n * m) hp
  have cx : ∀ (w' : World) (v : Value), Fwd w w' → RV w' v (n : Rat) → Calls Tryd.prog 19 #[v, .int .i64 k] w' fun e w'' => e = .returned (.tuple #[.int .u64 x, .int .i64 0]) ∧ Fwd w' w'' := fun w' v h hv => by
    have := ofQ_any (hR.fwd h) k hv (by have := nr_num (n : Rat); omega) (by have := nr_den (n : Rat); omega) (n : Rat).den_nz
    rw [hx] at this
    exact this
  have cy : ∀ (w' : World) (v : Value), Fwd w w' → RV w' v (m : Rat) → Calls Tryd.prog 19 #[v, .int .i64 k] w' fun e w'' => e = .returned (.tuple #[.int .u64 y, .int .i64 0]) ∧ Fwd w' w'' := fun w' v h hv => by
    have := ofQ_any (hR.fwd h) k hv (by have := nr_num (m : Rat); omega) (by have := nr_den (m : Rat); omega) (m : Rat).den_nz
    rw [hy] at this
    exact this
  have ca := fun (w' : World) (h : Fwd w w') => addF_any (hR.fwd h) k x y lx ly
  have cb := fun (w' : World) (h : Fwd w w') => subF_any (hR.fwd h) k x y lx ly
  have cm := fun (w' : World) (h : Fwd w w') => mulF_any (hR.fwd h) k x y lx ly
  rw [hs] at ca
  rw [hd] at cb
  rw [hu] at cm
  clear hx hy hs hd hu ix iy is id' iu bn bm bs bt hp n1 m1 hR lx ly
  obtain ⟨z3, hq3⟩ : ∃ z : Int, z = n + m := ⟨_, rfl⟩
  obtain ⟨z4, hq4⟩ : ∃ z : Int, z = n + -m := ⟨_, rfl⟩
  obtain ⟨z5, hq5⟩ : ∃ z : Int, z = n * m := ⟨_, rfl⟩
  replace v3 : IntKind.i64.wrap (n + m) = z3 := by rw [hq3]; exact v3
  replace v4 : IntKind.i64.wrap (n - m) = z4 := by rw [hq4]; exact v4
  replace v5 : IntKind.i64.wrap (n * m) = z5 := by rw [hq5]; exact v5
  rw [← hq3] at i3 r3 cs
  rw [← hq4] at i4 r4 cd
  rw [← hq5] at i5 r5 cu
  clear hq3 hq4 hq5
  obtain ⟨Qn, hQn⟩ : ∃ q : Rat, q = (n : Rat) := ⟨_, rfl⟩
  obtain ⟨Qm, hQm⟩ : ∃ q : Rat, q = (m : Rat) := ⟨_, rfl⟩
  obtain ⟨Q3, hQ3⟩ : ∃ q : Rat, q = (z3 : Rat) := ⟨_, rfl⟩
  obtain ⟨Q4, hQ4⟩ : ∃ q : Rat, q = (z4 : Rat) := ⟨_, rfl⟩
  obtain ⟨Q5, hQ5⟩ : ∃ q : Rat, q = (z5 : Rat) := ⟨_, rfl⟩
  rw [← hQn] at i1 r1 cx
  rw [← hQm] at i2 r2 cy
  rw [← hQ3] at i3 r3 cs
  rw [← hQ4] at i4 r4 cd
  rw [← hQ5] at i5 r5 cu
  clear hQn hQm hQ3 hQ4 hQ5
  go_wp2_with fail
  refine (i1 _).mono ?_
  rintro e u1 ⟨vx, rfl, hvx, hf1⟩
  replace hF := hF.trans hf1
  clear hf1
  have HX := hid hvx
  obtain ⟨po, pc, qo, qc, rfl, p1, p2, p3, p4, -, -⟩ := RW.open hvx
  clear hvx
  go_wp2_with fail
  refine (cx _ _ hF HX.out).mono ?_
  rintro e u2 ⟨rfl, hf2⟩
  clear HX cx i1 p1 p2 p3 p4
  replace hF := hF.trans hf2
  clear hf2
  go_wp2_with fail
  refine (i2 _).mono ?_
  rintro e u3 ⟨vy, rfl, hvy, hf3⟩
  replace hF := hF.trans hf3
  clear hf3
  have HX := hid hvy
  obtain ⟨po2, pc2, qo2, qc2, rfl, p1, p2, p3, p4, -, -⟩ := RW.open hvy
  clear hvy
  go_wp2_with fail
  refine (cy _ _ hF HX.out).mono ?_
  rintro e u4 ⟨rfl, hf4⟩
  clear HX cy i2 p1 p2 p3 p4
  replace hF := hF.trans hf4
  clear hf4
  go_wp2_with fail
  refine (ca _ hF).mono ?_
  rintro e u5 ⟨rfl, hf5⟩
  clear ca
  replace hF := hF.trans hf5
  clear hf5
  go_wp2_with fail
  refine (cb _ hF).mono ?_
  rintro e u6 ⟨rfl, hf6⟩
  clear cb
  replace hF := hF.trans hf6
  clear hf6
  go_wp2_with fail
  refine (cm _ hF).mono ?_
  rintro e u7 ⟨rfl, hf7⟩
  clear cm
  replace hF := hF.trans hf7
  clear hf7
  go_wp2_with fail
  refine (cs _).mono ?_
  rintro e u8 ⟨vv, rfl, hva, hf8⟩
  replace hF := hF.trans hf8
  clear hf8 cs
  have Ha := hid hva
  obtain ⟨oga, cga, oha, cha, rfl, pa1, pa2, pa3, pa4, -, -⟩ := RW.open hva
  clear hva
  have hfB : Fwd u8 (u8.alloc (.cells #[.bool (negQ Q3), .slice oga (nl Q3.num.natAbs) cga, .slice oha (nl Q3.den) cha] 43)) := (Fwd.refl _).alloc _
  have Ha' := hid (RV.fwd Ha.out hfB)
  clear Ha
  have Ha := Ha'
  clear Ha'
  replace hF := hF.trans hfB
  clear hfB
  have kA := BlkV.made u8 43 [.bool (negQ Q3), .slice oga (nl Q3.num.natAbs) cga, .slice oha (nl Q3.den) cha]
  go_upto_region 10 with fail
  generalize (u8.alloc (.cells #[.bool (negQ Q3), .slice oga (nl Q3.num.natAbs) cga, .slice oha (nl Q3.den) cha] 43)) = u9 at kA  Ha hF ⊢
  have ac0 := BlkV.cell kA 0 rfl
  have az0 := BlkV.frozen kA 0
  have ac1 := BlkV.cell kA 1 rfl
  have az1 := BlkV.frozen kA 1
  have ac2 := BlkV.cell kA 2 rfl
  have az2 := BlkV.frozen kA 2
  go_wp2_with fail
  refine (cd _).mono ?_
  rintro e u10 ⟨vv, rfl, hvb, hf10⟩
  replace kA := kA.fwd hf10
  replace Ha := RV.fwd Ha.out hf10
  have Ha' := hid Ha
  clear Ha
  have Ha := Ha'
  clear Ha'
  replace hF := hF.trans hf10
  clear hf10 cd
  have Hb := hid hvb
  obtain ⟨ogb, cgb, ohb, chb, rfl, pb1, pb2, pb3, pb4, -, -⟩ := RW.open hvb
  clear hvb
  have hfB : Fwd u10 (u10.alloc (.cells #[.bool (negQ Q4), .slice ogb (nl Q4.num.natAbs) cgb, .slice ohb (nl Q4.den) chb] 43)) := (Fwd.refl _).alloc _
  have ltA10 := BlkV.lt kA
  replace kA := kA.fwd hfB
  have Ha' := hid (RV.fwd Ha.out hfB)
  clear Ha
  have Ha := Ha'
  clear Ha'
  have Hb' := hid (RV.fwd Hb.out hfB)
  clear Hb
  have Hb := Hb'
  clear Hb'
  replace hF := hF.trans hfB
  clear hfB
  have kB := BlkV.made u10 43 [.bool (negQ Q4), .slice ogb (nl Q4.num.natAbs) cgb, .slice ohb (nl Q4.den) chb]
  go_upto_region 11 with fail
  clear ac0 az0 ac1 az1 ac2 az2
  generalize (u10.alloc (.cells #[.bool (negQ Q4), .slice ogb (nl Q4.num.natAbs) cgb, .slice ohb (nl Q4.den) chb] 43)) = u11 at kB kA Ha Hb hF ⊢
  have ac0 := BlkV.cell kA 0 rfl
  have az0 := BlkV.frozen kA 0
  have ac1 := BlkV.cell kA 1 rfl
  have az1 := BlkV.frozen kA 1
  have ac2 := BlkV.cell kA 2 rfl
  have az2 := BlkV.frozen kA 2
  have bc0 := BlkV.cell kB 0 rfl
  have bz0 := BlkV.frozen kB 0
  have bc1 := BlkV.cell kB 1 rfl
  have bz1 := BlkV.frozen kB 1
  have bc2 := BlkV.cell kB 2 rfl
  have bz2 := BlkV.frozen kB 2
  go_wp2_with fail
  refine (cu _).mono ?_
  rintro e u12 ⟨vv, rfl, hvc, hf12⟩
  replace kA := kA.fwd hf12
  replace kB := kB.fwd hf12
  replace Ha := RV.fwd Ha.out hf12
  have Ha' := hid Ha
  clear Ha
  have Ha := Ha'
  clear Ha'
  replace Hb := RV.fwd Hb.out hf12
  have Hb' := hid Hb
  clear Hb
  have Hb := Hb'
  clear Hb'
  replace hF := hF.trans hf12
  clear hf12 cu
  have Hc := hid hvc
  obtain ⟨ogc, cgc, ohc, chc, rfl, pc1, pc2, pc3, pc4, -, -⟩ := RW.open hvc
  clear hvc
  have hfB : Fwd u12 (u12.alloc (.cells #[.bool (negQ Q5), .slice ogc (nl Q5.num.natAbs) cgc, .slice ohc (nl Q5.den) chc] 43)) := (Fwd.refl _).alloc _
  have ltA12 := BlkV.lt kA
  replace kA := kA.fwd hfB
  have ltB12 := BlkV.lt kB
  replace kB := kB.fwd hfB
  have Ha' := hid (RV.fwd Ha.out hfB)
  clear Ha
  have Ha := Ha'
  clear Ha'
  have Hb' := hid (RV.fwd Hb.out hfB)
  clear Hb
  have Hb := Hb'
  clear Hb'
  have Hc' := hid (RV.fwd Hc.out hfB)
  clear Hc
  have Hc := Hc'
  clear Hc'
  replace hF := hF.trans hfB
  clear hfB
  have kC := BlkV.made u12 43 [.bool (negQ Q5), .slice ogc (nl Q5.num.natAbs) cgc, .slice ohc (nl Q5.den) chc]
  go_upto_region 12 with fail
  clear ac0 az0 ac1 az1 ac2 az2 bc0 bz0 bc1 bz1 bc2 bz2
  generalize (u12.alloc (.cells #[.bool (negQ Q5), .slice ogc (nl Q5.num.natAbs) cgc, .slice ohc (nl Q5.den) chc] 43)) = u13 at kC kA kB Ha Hb Hc hF ⊢
  have ac0 := BlkV.cell kA 0 rfl
  have az0 := BlkV.frozen kA 0
  have ac1 := BlkV.cell kA 1 rfl
  have az1 := BlkV.frozen kA 1
  have ac2 := BlkV.cell kA 2 rfl
  have az2 := BlkV.frozen kA 2
  have bc0 := BlkV.cell kB 0 rfl
  have bz0 := BlkV.frozen kB 0
  have bc1 := BlkV.cell kB 1 rfl
  have bz1 := BlkV.frozen kB 1
  have bc2 := BlkV.cell kB 2 rfl
  have bz2 := BlkV.frozen kB 2
  have cc0 := BlkV.cell kC 0 rfl
  have cz0 := BlkV.frozen kC 0
  have cc1 := BlkV.cell kC 1 rfl
  have cz1 := BlkV.frozen kC 1
  have cc2 := BlkV.cell kC 2 rfl
  have cz2 := BlkV.frozen kC 2
  replace Ha := hid (RV.fwd Ha.out ((Fwd.refl _).drew))
  replace Hb := hid (RV.fwd Hb.out ((Fwd.refl _).drew))
  replace Hc := hid (RV.fwd Hc.out ((Fwd.refl _).drew))
  clear w1' w2'
  replace kA := kA.drew
  replace kB := kB.drew
  replace kC := kC.drew
  replace hF := hF.drew
  clear ac0 az0 ac1 az1 ac2 az2
  clear bc0 bz0 bc1 bz1 bc2 bz2
  clear cc0 cz0 cc1 cz1 cc2 cz2
  have ac0 := BlkV.cell kA 0 rfl
  have ac1 := BlkV.cell kA 1 rfl
  have ac2 := BlkV.cell kA 2 rfl
  have bc0 := BlkV.cell kB 0 rfl
  have bc1 := BlkV.cell kB 1 rfl
  have bc2 := BlkV.cell kB 2 rfl
  have cc0 := BlkV.cell kC 0 rfl
  have cc1 := BlkV.cell kC 1 rfl
  have cc2 := BlkV.cell kC 2 rfl
  refine wp_region_held_drew (S := fun w' => w'.cell? ⟨u8.heap.size, 0, none⟩ = some (.bool (negQ Q3)) ∧ w'.cell? ⟨u8.heap.size, 1, none⟩ = some (.slice oga (nl Q3.num.natAbs) cga) ∧ w'.cell? ⟨u8.heap.size, 2, none⟩ = some (.slice oha (nl Q3.den) cha) ∧ w'.cell? ⟨u10.heap.size, 0, none⟩ = some (.bool (negQ Q4)) ∧ w'.cell? ⟨u10.heap.size, 1, none⟩ = some (.slice ogb (nl Q4.num.natAbs) cgb) ∧ w'.cell? ⟨u10.heap.size, 2, none⟩ = some (.slice ohb (nl Q4.den) chb) ∧ w'.cell? ⟨u12.heap.size, 0, none⟩ = some (.bool (negQ Q5)) ∧ w'.cell? ⟨u12.heap.size, 1, none⟩ = some (.slice ogc (nl Q5.num.natAbs) cgc) ∧ w'.cell? ⟨u12.heap.size, 2, none⟩ = some (.slice ohc (nl Q5.den) chc)) (by kernel_rfl) ⟨by with_reducible assumption, by with_reducible assumption, by with_reducible assumption, by with_reducible assumption, by with_reducible assumption, by with_reducible assumption, by with_reducible assumption, by with_reducible assumption, by with_reducible assumption⟩ (fun hHeld => ?_)
  refine wpAnyH_take (i := 0) (oi := ?oi1_0) (v := ?vv1_0) ?hi1_0 (by kernel_rfl) (by kernel_rfl) (by kernel_rfl) ?hq1_0 ?hy1_0 hHeld ?rest1_0
  case hi1_0 => (simp only [List.getElem?_toArray, List.getElem?_cons_succ, List.getElem?_cons_zero]; rfl)
  case hq1_0 => exact fun _ _ _ h => h
  case hy1_0 =>
    refine Or.inl ⟨by rfl, ?_⟩
    intro wS hSw
    try dsimp only at hSw
    obtain ⟨q0, q1, q2, q3, q4, q5, q6, q7, q8⟩ := hSw
    go_simp
    try with_reducible rfl
  simp only [Act.put, List.setIfInBounds_toArray, List.set_cons_zero, List.set_cons_succ]
  refine wpAnyH_take (i := 1) (oi := ?oi2_1) (v := ?vv2_1) ?hi2_1 (by kernel_rfl) (by kernel_rfl) (by kernel_rfl) ?hq2_1 ?hy2_1 hHeld ?rest2_1
  case hi2_1 => (simp only [List.getElem?_toArray, List.getElem?_cons_succ, List.getElem?_cons_zero]; rfl)
  case hq2_1 => exact fun _ _ _ h => h
  case hy2_1 =>
    refine Or.inl ⟨by rfl, ?_⟩
    intro wS hSw
    try dsimp only at hSw
    obtain ⟨q0, q1, q2, q3, q4, q5, q6, q7, q8⟩ := hSw
    go_simp
    try with_reducible rfl
  simp only [Act.put, List.setIfInBounds_toArray, List.set_cons_zero, List.set_cons_succ]
  refine wpAnyH_take (i := 2) (oi := ?oi3_2) (v := ?vv3_2) ?hi3_2 (by kernel_rfl) (by kernel_rfl) (by kernel_rfl) ?hq3_2 ?hy3_2 hHeld ?rest3_2
  case hi3_2 => (simp only [List.getElem?_toArray, List.getElem?_cons_succ, List.getElem?_cons_zero]; rfl)
  case hq3_2 => exact fun _ _ _ h => h
  case hy3_2 =>
    refine Or.inl ⟨by rfl, ?_⟩
    intro wS hSw
    try dsimp only at hSw
    obtain ⟨q0, q1, q2, q3, q4, q5, q6, q7, q8⟩ := hSw
    go_simp
    try with_reducible rfl
  simp only [Act.put, List.setIfInBounds_toArray, List.set_cons_zero, List.set_cons_succ]
  refine wpAnyH_take (i := 3) (oi := ?oi4_3) (v := ?vv4_3) ?hi4_3 (by kernel_rfl) (by kernel_rfl) (by kernel_rfl) ?hq4_3 ?hy4_3 hHeld ?rest4_3
  case hi4_3 => (simp only [List.getElem?_toArray, List.getElem?_cons_succ, List.getElem?_cons_zero]; rfl)
  case hq4_3 => exact fun _ _ _ h => h
  case hy4_3 =>
    refine Or.inl ⟨by rfl, ?_⟩
    intro wS hSw
    try dsimp only at hSw
    obtain ⟨q0, q1, q2, q3, q4, q5, q6, q7, q8⟩ := hSw
    go_simp
    try with_reducible rfl
  simp only [Act.put, List.setIfInBounds_toArray, List.set_cons_zero, List.set_cons_succ]
  refine wpAnyH_take (i := 4) (oi := ?oi5_4) (v := ?vv5_4) ?hi5_4 (by kernel_rfl) (by kernel_rfl) (by kernel_rfl) ?hq5_4 ?hy5_4 hHeld ?rest5_4
  case hi5_4 => (simp only [List.getElem?_toArray, List.getElem?_cons_succ, List.getElem?_cons_zero]; rfl)
  case hq5_4 => exact fun _ _ _ h => h
  case hy5_4 =>
    refine Or.inl ⟨by rfl, ?_⟩
    intro wS hSw
    try dsimp only at hSw
    obtain ⟨q0, q1, q2, q3, q4, q5, q6, q7, q8⟩ := hSw
    go_simp
    try with_reducible rfl
  simp only [Act.put, List.setIfInBounds_toArray, List.set_cons_zero, List.set_cons_succ]
  refine wpAnyH_take (i := 5) (oi := ?oi6_5) (v := ?vv6_5) ?hi6_5 (by kernel_rfl) (by kernel_rfl) (by kernel_rfl) ?hq6_5 ?hy6_5 hHeld ?rest6_5
  case hi6_5 => (simp only [List.getElem?_toArray, List.getElem?_cons_succ, List.getElem?_cons_zero]; rfl)
  case hq6_5 => exact fun _ _ _ h => h
  case hy6_5 =>
    refine Or.inl ⟨by rfl, ?_⟩
    intro wS hSw
    try dsimp only at hSw
    obtain ⟨q0, q1, q2, q3, q4, q5, q6, q7, q8⟩ := hSw
    go_simp
    try with_reducible rfl
  simp only [Act.put, List.setIfInBounds_toArray, List.set_cons_zero, List.set_cons_succ]
  refine wpAnyH_take (i := 6) (oi := ?oi7_6) (v := ?vv7_6) ?hi7_6 (by kernel_rfl) (by kernel_rfl) (by kernel_rfl) ?hq7_6 ?hy7_6 hHeld ?rest7_6
  case hi7_6 => (simp only [List.getElem?_toArray, List.getElem?_cons_succ, List.getElem?_cons_zero]; rfl)
  case hq7_6 => exact fun _ _ _ h => h
  case hy7_6 =>
    refine Or.inl ⟨by rfl, ?_⟩
    intro wS hSw
    try dsimp only at hSw
    obtain ⟨q0, q1, q2, q3, q4, q5, q6, q7, q8⟩ := hSw
    go_simp
    try with_reducible rfl
  simp only [Act.put, List.setIfInBounds_toArray, List.set_cons_zero, List.set_cons_succ]
  refine wpAnyH_take (i := 7) (oi := ?oi8_7) (v := ?vv8_7) ?hi8_7 (by kernel_rfl) (by kernel_rfl) (by kernel_rfl) ?hq8_7 ?hy8_7 hHeld ?rest8_7
  case hi8_7 => (simp only [List.getElem?_toArray, List.getElem?_cons_succ, List.getElem?_cons_zero]; rfl)
  case hq8_7 => exact fun _ _ _ h => h
  case hy8_7 =>
    refine Or.inl ⟨by rfl, ?_⟩
    intro wS hSw
    try dsimp only at hSw
    obtain ⟨q0, q1, q2, q3, q4, q5, q6, q7, q8⟩ := hSw
    go_simp
    try with_reducible rfl
  simp only [Act.put, List.setIfInBounds_toArray, List.set_cons_zero, List.set_cons_succ]
  refine wpAnyH_take (i := 8) (oi := ?oi9_8) (v := ?vv9_8) ?hi9_8 (by kernel_rfl) (by kernel_rfl) (by kernel_rfl) ?hq9_8 ?hy9_8 hHeld ?rest9_8
  case hi9_8 => (simp only [List.getElem?_toArray, List.getElem?_cons_succ, List.getElem?_cons_zero]; rfl)
  case hq9_8 => exact fun _ _ _ h => h
  case hy9_8 =>
    refine Or.inl ⟨by rfl, ?_⟩
    intro wS hSw
    try dsimp only at hSw
    obtain ⟨q0, q1, q2, q3, q4, q5, q6, q7, q8⟩ := hSw
    go_simp
    try with_reducible rfl
  simp only [Act.put, List.setIfInBounds_toArray, List.set_cons_zero, List.set_cons_succ]
  refine wpAnyH_take (i := 9) (oi := ?oi10_9) (v := ?vv10_9) ?hi10_9 (by kernel_rfl) (by kernel_rfl) (by kernel_rfl) ?hq10_9 ?hy10_9 hHeld ?rest10_9
  case hi10_9 => (simp only [List.getElem?_toArray, List.getElem?_cons_succ, List.getElem?_cons_zero]; rfl)
  case hq10_9 => exact fun _ _ _ h => h
  case hy10_9 =>
    refine Or.inl ⟨by rfl, ?_⟩
    intro wS hSw
    try dsimp only at hSw
    obtain ⟨q0, q1, q2, q3, q4, q5, q6, q7, q8⟩ := hSw
    go_simp
    try with_reducible rfl
  simp only [Act.put, List.setIfInBounds_toArray, List.set_cons_zero, List.set_cons_succ]
  refine wpAnyH_take (i := 10) (oi := ?oi11_10) (v := ?vv11_10) ?hi11_10 (by kernel_rfl) (by kernel_rfl) (by kernel_rfl) ?hq11_10 ?hy11_10 hHeld ?rest11_10
  case hi11_10 => (simp only [List.getElem?_toArray, List.getElem?_cons_succ, List.getElem?_cons_zero]; rfl)
  case hq11_10 => exact fun _ _ _ h => h
  case hy11_10 =>
    refine Or.inl ⟨by rfl, ?_⟩
    intro wS hSw
    try dsimp only at hSw
    obtain ⟨q0, q1, q2, q3, q4, q5, q6, q7, q8⟩ := hSw
    go_simp
    try with_reducible rfl
  simp only [Act.put, List.setIfInBounds_toArray, List.set_cons_zero, List.set_cons_succ]
  refine wpAnyH_take (i := 11) (oi := ?oi12_11) (v := ?vv12_11) ?hi12_11 (by kernel_rfl) (by kernel_rfl) (by kernel_rfl) ?hq12_11 ?hy12_11 hHeld ?rest12_11
  case hi12_11 => (simp only [List.getElem?_toArray, List.getElem?_cons_succ, List.getElem?_cons_zero]; rfl)
  case hq12_11 => exact fun _ _ _ h => h
  case hy12_11 =>
    refine Or.inl ⟨by rfl, ?_⟩
    intro wS hSw
    try dsimp only at hSw
    obtain ⟨q0, q1, q2, q3, q4, q5, q6, q7, q8⟩ := hSw
    go_simp
    try with_reducible rfl
  simp only [Act.put, List.setIfInBounds_toArray, List.set_cons_zero, List.set_cons_succ]
  refine wpAnyH_take (i := 12) (oi := ?oi13_12) (v := ?vv13_12) ?hi13_12 (by kernel_rfl) (by kernel_rfl) (by kernel_rfl) ?hq13_12 ?hy13_12 hHeld ?rest13_12
  case hi13_12 => (simp only [List.getElem?_toArray, List.getElem?_cons_succ, List.getElem?_cons_zero]; rfl)
  case hq13_12 => exact fun _ _ _ h => h
  case hy13_12 =>
    refine Or.inl ⟨by rfl, ?_⟩
    intro wS hSw
    try dsimp only at hSw
    obtain ⟨q0, q1, q2, q3, q4, q5, q6, q7, q8⟩ := hSw
    go_simp
    try with_reducible rfl
  simp only [Act.put, List.setIfInBounds_toArray, List.set_cons_zero, List.set_cons_succ]
  refine wpAnyH_take (i := 13) (oi := ?oi14_13) (v := ?vv14_13) ?hi14_13 (by kernel_rfl) (by kernel_rfl) (by kernel_rfl) ?hq14_13 ?hy14_13 hHeld ?rest14_13
  case hi14_13 => (simp only [List.getElem?_toArray, List.getElem?_cons_succ, List.getElem?_cons_zero]; rfl)
  case hq14_13 => exact fun _ _ _ h => h
  case hy14_13 =>
    refine Or.inl ⟨by rfl, ?_⟩
    intro wS hSw
    try dsimp only at hSw
    obtain ⟨q0, q1, q2, q3, q4, q5, q6, q7, q8⟩ := hSw
    go_simp
    try with_reducible rfl
  simp only [Act.put, List.setIfInBounds_toArray, List.set_cons_zero, List.set_cons_succ]
  refine wpAnyH_take (i := 14) (oi := ?oi15_14) (v := ?vv15_14) ?hi15_14 (by kernel_rfl) (by kernel_rfl) (by kernel_rfl) ?hq15_14 ?hy15_14 hHeld ?rest15_14
  case hi15_14 => (simp only [List.getElem?_toArray, List.getElem?_cons_succ, List.getElem?_cons_zero]; rfl)
  case hq15_14 => exact fun _ _ _ h => h
  case hy15_14 =>
    refine Or.inl ⟨by rfl, ?_⟩
    intro wS hSw
    try dsimp only at hSw
    obtain ⟨q0, q1, q2, q3, q4, q5, q6, q7, q8⟩ := hSw
    go_simp
    try with_reducible rfl
  simp only [Act.put, List.setIfInBounds_toArray, List.set_cons_zero, List.set_cons_succ]
  refine wpAnyH_take (i := 15) (oi := ?oi16_15) (v := ?vv16_15) ?hi16_15 (by kernel_rfl) (by kernel_rfl) (by kernel_rfl) ?hq16_15 ?hy16_15 hHeld ?rest16_15
  case hi16_15 => (simp only [List.getElem?_toArray, List.getElem?_cons_succ, List.getElem?_cons_zero]; rfl)
  case hq16_15 => exact fun _ _ _ h => h
  case hy16_15 =>
    refine Or.inl ⟨by rfl, ?_⟩
    intro wS hSw
    try dsimp only at hSw
    obtain ⟨q0, q1, q2, q3, q4, q5, q6, q7, q8⟩ := hSw
    go_simp
    try with_reducible rfl
  simp only [Act.put, List.setIfInBounds_toArray, List.set_cons_zero, List.set_cons_succ]
  refine wpAnyH_take (i := 16) (oi := ?oi17_16) (v := ?vv17_16) ?hi17_16 (by kernel_rfl) (by kernel_rfl) (by kernel_rfl) ?hq17_16 ?hy17_16 hHeld ?rest17_16
  case hi17_16 => (simp only [List.getElem?_toArray, List.getElem?_cons_succ, List.getElem?_cons_zero]; rfl)
  case hq17_16 => exact fun _ _ _ h => h
  case hy17_16 =>
    refine Or.inl ⟨by rfl, ?_⟩
    intro wS hSw
    try dsimp only at hSw
    obtain ⟨q0, q1, q2, q3, q4, q5, q6, q7, q8⟩ := hSw
    go_simp
    try with_reducible rfl
  simp only [Act.put, List.setIfInBounds_toArray, List.set_cons_zero, List.set_cons_succ]
  refine wpAnyH_take (i := 17) (oi := ?oi18_17) (v := ?vv18_17) ?hi18_17 (by kernel_rfl) (by kernel_rfl) (by kernel_rfl) ?hq18_17 ?hy18_17 hHeld ?rest18_17
  case hi18_17 => (simp only [List.getElem?_toArray, List.getElem?_cons_succ, List.getElem?_cons_zero]; rfl)
  case hq18_17 => exact fun _ _ _ h => h
  case hy18_17 =>
    refine Or.inl ⟨by rfl, ?_⟩
    intro wS hSw
    try dsimp only at hSw
    obtain ⟨q0, q1, q2, q3, q4, q5, q6, q7, q8⟩ := hSw
    go_simp
    try with_reducible rfl
  simp only [Act.put, List.setIfInBounds_toArray, List.set_cons_zero, List.set_cons_succ]
  refine wpAnyH_take (i := 18) (oi := ?oi19_18) (v := ?vv19_18) ?hi19_18 (by kernel_rfl) (by kernel_rfl) (by kernel_rfl) ?hq19_18 ?hy19_18 hHeld ?rest19_18
  case hi19_18 => (simp only [List.getElem?_toArray, List.getElem?_cons_succ, List.getElem?_cons_zero]; rfl)
  case hq19_18 => exact fun _ _ _ h => h
  case hy19_18 =>
    refine Or.inl ⟨by rfl, ?_⟩
    intro wS hSw
    try dsimp only at hSw
    obtain ⟨q0, q1, q2, q3, q4, q5, q6, q7, q8⟩ := hSw
    go_simp
    try with_reducible rfl
  simp only [Act.put, List.setIfInBounds_toArray, List.set_cons_zero, List.set_cons_succ]
  refine wpAnyH_take (i := 19) (oi := ?oi20_19) (v := ?vv20_19) ?hi20_19 (by kernel_rfl) (by kernel_rfl) (by kernel_rfl) ?hq20_19 ?hy20_19 hHeld ?rest20_19
  case hi20_19 => (simp only [List.getElem?_toArray, List.getElem?_cons_succ, List.getElem?_cons_zero]; rfl)
  case hq20_19 => exact fun _ _ _ h => h
  case hy20_19 =>
    refine Or.inl ⟨by rfl, ?_⟩
    intro wS hSw
    try dsimp only at hSw
    obtain ⟨q0, q1, q2, q3, q4, q5, q6, q7, q8⟩ := hSw
    go_simp
    try with_reducible rfl
  simp only [Act.put, List.setIfInBounds_toArray, List.set_cons_zero, List.set_cons_succ]
  refine wpAnyH_take (i := 20) (oi := ?oi21_20) (v := ?vv21_20) ?hi21_20 (by kernel_rfl) (by kernel_rfl) (by kernel_rfl) ?hq21_20 ?hy21_20 hHeld ?rest21_20
  case hi21_20 => (simp only [List.getElem?_toArray, List.getElem?_cons_succ, List.getElem?_cons_zero]; rfl)
  case hq21_20 => exact fun _ _ _ h => h
  case hy21_20 =>
    refine Or.inl ⟨by rfl, ?_⟩
    intro wS hSw
    try dsimp only at hSw
    obtain ⟨q0, q1, q2, q3, q4, q5, q6, q7, q8⟩ := hSw
    go_simp
    try with_reducible rfl
  simp only [Act.put, List.setIfInBounds_toArray, List.set_cons_zero, List.set_cons_succ]
  refine wpAnyH_take (i := 21) (oi := ?oi22_21) (v := ?vv22_21) ?hi22_21 (by kernel_rfl) (by kernel_rfl) (by kernel_rfl) ?hq22_21 ?hy22_21 hHeld ?rest22_21
  case hi22_21 => (simp only [List.getElem?_toArray, List.getElem?_cons_succ, List.getElem?_cons_zero]; rfl)
  case hq22_21 => exact fun _ _ _ h => h
  case hy22_21 =>
    refine Or.inl ⟨by rfl, ?_⟩
    intro wS hSw
    try dsimp only at hSw
    obtain ⟨q0, q1, q2, q3, q4, q5, q6, q7, q8⟩ := hSw
    go_simp
    try with_reducible rfl
  simp only [Act.put, List.setIfInBounds_toArray, List.set_cons_zero, List.set_cons_succ]
  refine wpAnyH_take (i := 22) (oi := ?oi23_22) (v := ?vv23_22) ?hi23_22 (by kernel_rfl) (by kernel_rfl) (by kernel_rfl) ?hq23_22 ?hy23_22 hHeld ?rest23_22
  case hi23_22 => (simp only [List.getElem?_toArray, List.getElem?_cons_succ, List.getElem?_cons_zero]; rfl)
  case hq23_22 => exact fun _ _ _ h => h
  case hy23_22 =>
    refine Or.inl ⟨by rfl, ?_⟩
    intro wS hSw
    try dsimp only at hSw
    obtain ⟨q0, q1, q2, q3, q4, q5, q6, q7, q8⟩ := hSw
    go_simp
    try with_reducible rfl
  simp only [Act.put, List.setIfInBounds_toArray, List.set_cons_zero, List.set_cons_succ]
  refine wpAnyH_take (i := 23) (oi := ?oi24_23) (v := ?vv24_23) ?hi24_23 (by kernel_rfl) (by kernel_rfl) (by kernel_rfl) ?hq24_23 ?hy24_23 hHeld ?rest24_23
  case hi24_23 => (simp only [List.getElem?_toArray, List.getElem?_cons_succ, List.getElem?_cons_zero]; rfl)
  case hq24_23 => exact fun _ _ _ h => h
  case hy24_23 =>
    refine Or.inl ⟨by rfl, ?_⟩
    intro wS hSw
    try dsimp only at hSw
    obtain ⟨q0, q1, q2, q3, q4, q5, q6, q7, q8⟩ := hSw
    go_simp
    try with_reducible rfl
  simp only [Act.put, List.setIfInBounds_toArray, List.set_cons_zero, List.set_cons_succ]
  refine wpAnyH_take (i := 24) (oi := ?oi25_24) (v := ?vv25_24) ?hi25_24 (by kernel_rfl) (by kernel_rfl) (by kernel_rfl) ?hq25_24 ?hy25_24 hHeld ?rest25_24
  case hi25_24 => (simp only [List.getElem?_toArray, List.getElem?_cons_succ, List.getElem?_cons_zero]; rfl)
  case hq25_24 => exact fun _ _ _ h => h
  case hy25_24 =>
    refine Or.inl ⟨by rfl, ?_⟩
    intro wS hSw
    try dsimp only at hSw
    obtain ⟨q0, q1, q2, q3, q4, q5, q6, q7, q8⟩ := hSw
    go_simp
    try with_reducible rfl
  simp only [Act.put, List.setIfInBounds_toArray, List.set_cons_zero, List.set_cons_succ]
  refine wpAnyH_take (i := 25) (oi := ?oi26_25) (v := ?vv26_25) ?hi26_25 (by kernel_rfl) (by kernel_rfl) (by kernel_rfl) ?hq26_25 ?hy26_25 hHeld ?rest26_25
  case hi26_25 => (simp only [List.getElem?_toArray, List.getElem?_cons_succ, List.getElem?_cons_zero]; rfl)
  case hq26_25 => exact fun _ _ _ h => h
  case hy26_25 =>
    refine Or.inl ⟨by rfl, ?_⟩
    intro wS hSw
    try dsimp only at hSw
    obtain ⟨q0, q1, q2, q3, q4, q5, q6, q7, q8⟩ := hSw
    go_simp
    try with_reducible rfl
  simp only [Act.put, List.setIfInBounds_toArray, List.set_cons_zero, List.set_cons_succ]
  refine wpAnyH_take (i := 26) (oi := ?oi27_26) (v := ?vv27_26) ?hi27_26 (by kernel_rfl) (by kernel_rfl) (by kernel_rfl) ?hq27_26 ?hy27_26 hHeld ?rest27_26
  case hi27_26 => (simp only [List.getElem?_toArray, List.getElem?_cons_succ, List.getElem?_cons_zero]; rfl)
  case hq27_26 => exact fun _ _ _ h => h
  case hy27_26 =>
    refine Or.inl ⟨by rfl, ?_⟩
    intro wS hSw
    try dsimp only at hSw
    obtain ⟨q0, q1, q2, q3, q4, q5, q6, q7, q8⟩ := hSw
    go_simp
    try with_reducible rfl
  simp only [Act.put, List.setIfInBounds_toArray, List.set_cons_zero, List.set_cons_succ]
  refine wpAnyH_take (i := 27) (oi := ?oi28_27) (v := ?vv28_27) ?hi28_27 (by kernel_rfl) (by kernel_rfl) (by kernel_rfl) ?hq28_27 ?hy28_27 hHeld ?rest28_27
  case hi28_27 => (simp only [List.getElem?_toArray, List.getElem?_cons_succ, List.getElem?_cons_zero]; rfl)
  case hq28_27 => exact fun _ _ _ h => h
  case hy28_27 =>
    refine Or.inl ⟨by rfl, ?_⟩
    intro wS hSw
    try dsimp only at hSw
    obtain ⟨q0, q1, q2, q3, q4, q5, q6, q7, q8⟩ := hSw
    go_simp
    try with_reducible rfl
  simp only [Act.put, List.setIfInBounds_toArray, List.set_cons_zero, List.set_cons_succ]
  refine wpAnyH_take (i := 28) (oi := ?oi29_28) (v := ?vv29_28) ?hi29_28 (by kernel_rfl) (by kernel_rfl) (by kernel_rfl) ?hq29_28 ?hy29_28 hHeld ?rest29_28
  case hi29_28 => (simp only [List.getElem?_toArray, List.getElem?_cons_succ, List.getElem?_cons_zero]; rfl)
  case hq29_28 => exact fun _ _ _ h => h
  case hy29_28 =>
    refine Or.inl ⟨by rfl, ?_⟩
    intro wS hSw
    try dsimp only at hSw
    obtain ⟨q0, q1, q2, q3, q4, q5, q6, q7, q8⟩ := hSw
    go_simp
    try with_reducible rfl
  simp only [Act.put, List.setIfInBounds_toArray, List.set_cons_zero, List.set_cons_succ]
  refine wpAnyH_take (i := 29) (oi := ?oi30_29) (v := ?vv30_29) ?hi30_29 (by kernel_rfl) (by kernel_rfl) (by kernel_rfl) ?hq30_29 ?hy30_29 hHeld ?rest30_29
  case hi30_29 => (simp only [List.getElem?_toArray, List.getElem?_cons_succ, List.getElem?_cons_zero]; rfl)
  case hq30_29 => exact fun _ _ _ h => h
  case hy30_29 =>
    refine Or.inl ⟨by rfl, ?_⟩
    intro wS hSw
    try dsimp only at hSw
    obtain ⟨q0, q1, q2, q3, q4, q5, q6, q7, q8⟩ := hSw
    go_simp
    try with_reducible rfl
  simp only [Act.put, List.setIfInBounds_toArray, List.set_cons_zero, List.set_cons_succ]
  refine wpAnyH_take (i := 30) (oi := ?oi31_30) (v := ?vv31_30) ?hi31_30 (by kernel_rfl) (by kernel_rfl) (by kernel_rfl) ?hq31_30 ?hy31_30 hHeld ?rest31_30
  case hi31_30 => (simp only [List.getElem?_toArray, List.getElem?_cons_succ, List.getElem?_cons_zero]; rfl)
  case hq31_30 => exact fun _ _ _ h => h
  case hy31_30 =>
    refine Or.inl ⟨by rfl, ?_⟩
    intro wS hSw
    try dsimp only at hSw
    obtain ⟨q0, q1, q2, q3, q4, q5, q6, q7, q8⟩ := hSw
    go_simp
    try with_reducible rfl
  simp only [Act.put, List.setIfInBounds_toArray, List.set_cons_zero, List.set_cons_succ]
  refine wpAnyH_take (i := 31) (oi := ?oi32_31) (v := ?vv32_31) ?hi32_31 (by kernel_rfl) (by kernel_rfl) (by kernel_rfl) ?hq32_31 ?hy32_31 hHeld ?rest32_31
  case hi32_31 => (simp only [List.getElem?_toArray, List.getElem?_cons_succ, List.getElem?_cons_zero]; rfl)
  case hq32_31 => exact fun _ _ _ h => h
  case hy32_31 =>
    refine Or.inl ⟨by rfl, ?_⟩
    intro wS hSw
    try dsimp only at hSw
    obtain ⟨q0, q1, q2, q3, q4, q5, q6, q7, q8⟩ := hSw
    go_simp
    try with_reducible rfl
  simp only [Act.put, List.setIfInBounds_toArray, List.set_cons_zero, List.set_cons_succ]
  refine wpAnyH_take (i := 32) (oi := ?oi33_32) (v := ?vv33_32) ?hi33_32 (by kernel_rfl) (by kernel_rfl) (by kernel_rfl) ?hq33_32 ?hy33_32 hHeld ?rest33_32
  case hi33_32 => (simp only [List.getElem?_toArray, List.getElem?_cons_succ, List.getElem?_cons_zero]; rfl)
  case hq33_32 => exact fun _ _ _ h => h
  case hy33_32 =>
    refine Or.inl ⟨by rfl, ?_⟩
    intro wS hSw
    try dsimp only at hSw
    obtain ⟨q0, q1, q2, q3, q4, q5, q6, q7, q8⟩ := hSw
    go_simp
    try with_reducible rfl
  simp only [Act.put, List.setIfInBounds_toArray, List.set_cons_zero, List.set_cons_succ]
  refine wpAnyH_take (i := 33) (oi := ?oi34_33) (v := ?vv34_33) ?hi34_33 (by kernel_rfl) (by kernel_rfl) (by kernel_rfl) ?hq34_33 ?hy34_33 hHeld ?rest34_33
  case hi34_33 => (simp only [List.getElem?_toArray, List.getElem?_cons_succ, List.getElem?_cons_zero]; rfl)
  case hq34_33 => exact fun _ _ _ h => h
  case hy34_33 =>
    refine Or.inl ⟨by rfl, ?_⟩
    intro wS hSw
    try dsimp only at hSw
    obtain ⟨q0, q1, q2, q3, q4, q5, q6, q7, q8⟩ := hSw
    go_simp
    try with_reducible rfl
  simp only [Act.put, List.setIfInBounds_toArray, List.set_cons_zero, List.set_cons_succ]
  refine wpAnyH_take (i := 34) (oi := ?oi35_34) (v := ?vv35_34) ?hi35_34 (by kernel_rfl) (by kernel_rfl) (by kernel_rfl) ?hq35_34 ?hy35_34 hHeld ?rest35_34
  case hi35_34 => (simp only [List.getElem?_toArray, List.getElem?_cons_succ, List.getElem?_cons_zero]; rfl)
  case hq35_34 => exact fun _ _ _ h => h
  case hy35_34 =>
    refine Or.inl ⟨by rfl, ?_⟩
    intro wS hSw
    try dsimp only at hSw
    obtain ⟨q0, q1, q2, q3, q4, q5, q6, q7, q8⟩ := hSw
    go_simp
    try with_reducible rfl
  simp only [Act.put, List.setIfInBounds_toArray, List.set_cons_zero, List.set_cons_succ]
  refine wpAnyH_ready (rs := [35]) (by kernel_rfl) (by simp) ?_
  refine AllReadyH.cons rfl (fun K hK => ?_) AllReadyH.nil
  go_simp
  refine (i3 _).mono ?_
  rintro e w51 ⟨wa, rfl, hwa, hf51⟩
  have Ha' := hid (RV.fwd Ha.out hf51)
  clear Ha
  have Ha := Ha'
  clear Ha'
  have Hb' := hid (RV.fwd Hb.out hf51)
  clear Hb
  have Hb := Hb'
  clear Hb'
  have Hc' := hid (RV.fwd Hc.out hf51)
  clear Hc
  have Hc := Hc'
  clear Hc'
  have HW := hid hwa
  obtain ⟨xoa, xca, yoa, yca, rfl, x1, x2, x3, x4, -, -⟩ := RW.open hwa
  clear hwa
  replace kA := kA.fwd hf51
  replace kB := kB.fwd hf51
  replace kC := kC.fwd hf51
  replace hF := hF.trans hf51
  clear hf51
  clear ac0 ac1 ac2
  clear bc0 bc1 bc2
  clear cc0 cc1 cc2
  have ac0 := BlkV.cell kA 0 rfl
  have ac1 := BlkV.cell kA 1 rfl
  have ac2 := BlkV.cell kA 2 rfl
  have bc0 := BlkV.cell kB 0 rfl
  have bc1 := BlkV.cell kB 1 rfl
  have bc2 := BlkV.cell kB 2 rfl
  have cc0 := BlkV.cell kC 0 rfl
  have cc1 := BlkV.cell kC 1 rfl
  have cc2 := BlkV.cell kC 2 rfl
  go_wp2_with fail
  clear hHeld
  refine hK.out _ _ ⟨by with_reducible assumption, by with_reducible assumption, by with_reducible assumption, by with_reducible assumption, by with_reducible assumption, by with_reducible assumption, by with_reducible assumption, by with_reducible assumption, by with_reducible assumption⟩ (fun hHeld => ?_)
  clear hK K
  try simp only [Act.put, List.setIfInBounds_toArray, List.set_cons_zero, List.set_cons_succ]
  refine wpAnyH_ready (rs := [36]) (by kernel_rfl) (by simp) ?_
  refine AllReadyH.cons rfl (fun K hK => ?_) AllReadyH.nil
  go_simp
  refine (same2_true Ha.out HW.out (by omega) (by omega) rfl).mono ?_
  rintro e w52 ⟨rfl, hf52⟩
  have Ha' := hid (RV.fwd Ha.out hf52)
  clear Ha
  have Ha := Ha'
  clear Ha'
  have Hb' := hid (RV.fwd Hb.out hf52)
  clear Hb
  have Hb := Hb'
  clear Hb'
  have Hc' := hid (RV.fwd Hc.out hf52)
  clear Hc
  have Hc := Hc'
  clear Hc'
  clear HW x1 x2 x3 x4
  replace kA := kA.fwd hf52
  replace kB := kB.fwd hf52
  replace kC := kC.fwd hf52
  replace hF := hF.trans hf52
  clear hf52
  clear ac0 ac1 ac2
  clear bc0 bc1 bc2
  clear cc0 cc1 cc2
  have ac0 := BlkV.cell kA 0 rfl
  have ac1 := BlkV.cell kA 1 rfl
  have ac2 := BlkV.cell kA 2 rfl
  have bc0 := BlkV.cell kB 0 rfl
  have bc1 := BlkV.cell kB 1 rfl
  have bc2 := BlkV.cell kB 2 rfl
  have cc0 := BlkV.cell kC 0 rfl
  have cc1 := BlkV.cell kC 1 rfl
  have cc2 := BlkV.cell kC 2 rfl
  go_wp2_with fail
  clear hHeld
  refine hK.out _ _ ⟨by with_reducible assumption, by with_reducible assumption, by with_reducible assumption, by with_reducible assumption, by with_reducible assumption, by with_reducible assumption, by with_reducible assumption, by with_reducible assumption, by with_reducible assumption⟩ (fun hHeld => ?_)
  clear hK K
  try simp only [Act.put, List.setIfInBounds_toArray, List.set_cons_zero, List.set_cons_succ]
  refine wpAnyH_take (i := 37) (oi := ?oi36_37) (v := ?vv36_37) ?hi36_37 (by kernel_rfl) (by kernel_rfl) (by kernel_rfl) ?hq36_37 ?hy36_37 hHeld ?rest36_37
  case hi36_37 => (simp only [List.getElem?_toArray, List.getElem?_cons_succ, List.getElem?_cons_zero]; rfl)
  case hq36_37 => exact fun _ _ _ h => h
  case hy36_37 =>
    refine Or.inl ⟨by rfl, ?_⟩
    intro wS hSw
    try dsimp only at hSw
    obtain ⟨q0, q1, q2, q3, q4, q5, q6, q7, q8⟩ := hSw
    go_simp
    try with_reducible rfl
  simp only [Act.put, List.setIfInBounds_toArray, List.set_cons_zero, List.set_cons_succ]
  refine wpAnyH_take (i := 38) (oi := ?oi37_38) (v := ?vv37_38) ?hi37_38 (by kernel_rfl) (by kernel_rfl) (by kernel_rfl) ?hq37_38 ?hy37_38 hHeld ?rest37_38
  case hi37_38 => (simp only [List.getElem?_toArray, List.getElem?_cons_succ, List.getElem?_cons_zero]; rfl)
  case hq37_38 => exact fun _ _ _ h => h
  case hy37_38 =>
    refine Or.inl ⟨by rfl, ?_⟩
    intro wS hSw
    try dsimp only at hSw
    obtain ⟨q0, q1, q2, q3, q4, q5, q6, q7, q8⟩ := hSw
    go_simp
    try with_reducible rfl
  simp only [Act.put, List.setIfInBounds_toArray, List.set_cons_zero, List.set_cons_succ]
  refine wpAnyH_take (i := 39) (oi := ?oi38_39) (v := ?vv38_39) ?hi38_39 (by kernel_rfl) (by kernel_rfl) (by kernel_rfl) ?hq38_39 ?hy38_39 hHeld ?rest38_39
  case hi38_39 => (simp only [List.getElem?_toArray, List.getElem?_cons_succ, List.getElem?_cons_zero]; rfl)
  case hq38_39 => exact fun _ _ _ h => h
  case hy38_39 =>
    refine Or.inl ⟨by rfl, ?_⟩
    intro wS hSw
    try dsimp only at hSw
    obtain ⟨q0, q1, q2, q3, q4, q5, q6, q7, q8⟩ := hSw
    go_simp
    try with_reducible rfl
  simp only [Act.put, List.setIfInBounds_toArray, List.set_cons_zero, List.set_cons_succ]
  refine wpAnyH_take (i := 40) (oi := ?oi39_40) (v := ?vv39_40) ?hi39_40 (by kernel_rfl) (by kernel_rfl) (by kernel_rfl) ?hq39_40 ?hy39_40 hHeld ?rest39_40
  case hi39_40 => (simp only [List.getElem?_toArray, List.getElem?_cons_succ, List.getElem?_cons_zero]; rfl)
  case hq39_40 => exact fun _ _ _ h => h
  case hy39_40 =>
    refine Or.inl ⟨by rfl, ?_⟩
    intro wS hSw
    try dsimp only at hSw
    obtain ⟨q0, q1, q2, q3, q4, q5, q6, q7, q8⟩ := hSw
    go_simp
    try with_reducible rfl
  simp only [Act.put, List.setIfInBounds_toArray, List.set_cons_zero, List.set_cons_succ]
  refine wpAnyH_take (i := 41) (oi := ?oi40_41) (v := ?vv40_41) ?hi40_41 (by kernel_rfl) (by kernel_rfl) (by kernel_rfl) ?hq40_41 ?hy40_41 hHeld ?rest40_41
  case hi40_41 => (simp only [List.getElem?_toArray, List.getElem?_cons_succ, List.getElem?_cons_zero]; rfl)
  case hq40_41 => exact fun _ _ _ h => h
  case hy40_41 =>
    refine Or.inl ⟨by rfl, ?_⟩
    intro wS hSw
    try dsimp only at hSw
    obtain ⟨q0, q1, q2, q3, q4, q5, q6, q7, q8⟩ := hSw
    go_simp
    try with_reducible rfl
  simp only [Act.put, List.setIfInBounds_toArray, List.set_cons_zero, List.set_cons_succ]
  refine wpAnyH_take (i := 42) (oi := ?oi41_42) (v := ?vv41_42) ?hi41_42 (by kernel_rfl) (by kernel_rfl) (by kernel_rfl) ?hq41_42 ?hy41_42 hHeld ?rest41_42
  case hi41_42 => (simp only [List.getElem?_toArray, List.getElem?_cons_succ, List.getElem?_cons_zero]; rfl)
  case hq41_42 => exact fun _ _ _ h => h
  case hy41_42 =>
    refine Or.inl ⟨by rfl, ?_⟩
    intro wS hSw
    try dsimp only at hSw
    obtain ⟨q0, q1, q2, q3, q4, q5, q6, q7, q8⟩ := hSw
    go_simp
    try with_reducible rfl
  simp only [Act.put, List.setIfInBounds_toArray, List.set_cons_zero, List.set_cons_succ]
  refine wpAnyH_ready (rs := [43]) (by kernel_rfl) (by simp) ?_
  refine AllReadyH.cons rfl (fun K hK => ?_) AllReadyH.nil
  go_simp
  refine (i4 _).mono ?_
  rintro e w53 ⟨wb, rfl, hwb, hf53⟩
  have Ha' := hid (RV.fwd Ha.out hf53)
  clear Ha
  have Ha := Ha'
  clear Ha'
  have Hb' := hid (RV.fwd Hb.out hf53)
  clear Hb
  have Hb := Hb'
  clear Hb'
  have Hc' := hid (RV.fwd Hc.out hf53)
  clear Hc
  have Hc := Hc'
  clear Hc'
  have HW := hid hwb
  obtain ⟨xob, xcb, yob, ycb, rfl, x1, x2, x3, x4, -, -⟩ := RW.open hwb
  clear hwb
  replace kA := kA.fwd hf53
  replace kB := kB.fwd hf53
  replace kC := kC.fwd hf53
  replace hF := hF.trans hf53
  clear hf53
  clear ac0 ac1 ac2
  clear bc0 bc1 bc2
  clear cc0 cc1 cc2
  have ac0 := BlkV.cell kA 0 rfl
  have ac1 := BlkV.cell kA 1 rfl
  have ac2 := BlkV.cell kA 2 rfl
  have bc0 := BlkV.cell kB 0 rfl
  have bc1 := BlkV.cell kB 1 rfl
  have bc2 := BlkV.cell kB 2 rfl
  have cc0 := BlkV.cell kC 0 rfl
  have cc1 := BlkV.cell kC 1 rfl
  have cc2 := BlkV.cell kC 2 rfl
  go_wp2_with fail
  clear hHeld
  refine hK.out _ _ ⟨by with_reducible assumption, by with_reducible assumption, by with_reducible assumption, by with_reducible assumption, by with_reducible assumption, by with_reducible assumption, by with_reducible assumption, by with_reducible assumption, by with_reducible assumption⟩ (fun hHeld => ?_)
  clear hK K
  try simp only [Act.put, List.setIfInBounds_toArray, List.set_cons_zero, List.set_cons_succ]
  refine wpAnyH_ready (rs := [44]) (by kernel_rfl) (by simp) ?_
  refine AllReadyH.cons rfl (fun K hK => ?_) AllReadyH.nil
  go_simp
  refine (same2_true Hb.out HW.out (by omega) (by omega) rfl).mono ?_
  rintro e w54 ⟨rfl, hf54⟩
  have Ha' := hid (RV.fwd Ha.out hf54)
  clear Ha
  have Ha := Ha'
  clear Ha'
  have Hb' := hid (RV.fwd Hb.out hf54)
  clear Hb
  have Hb := Hb'
  clear Hb'
  have Hc' := hid (RV.fwd Hc.out hf54)
  clear Hc
  have Hc := Hc'
  clear Hc'
  clear HW x1 x2 x3 x4
  replace kA := kA.fwd hf54
  replace kB := kB.fwd hf54
  replace kC := kC.fwd hf54
  replace hF := hF.trans hf54
  clear hf54
  clear ac0 ac1 ac2
  clear bc0 bc1 bc2
  clear cc0 cc1 cc2
  have ac0 := BlkV.cell kA 0 rfl
  have ac1 := BlkV.cell kA 1 rfl
  have ac2 := BlkV.cell kA 2 rfl
  have bc0 := BlkV.cell kB 0 rfl
  have bc1 := BlkV.cell kB 1 rfl
  have bc2 := BlkV.cell kB 2 rfl
  have cc0 := BlkV.cell kC 0 rfl
  have cc1 := BlkV.cell kC 1 rfl
  have cc2 := BlkV.cell kC 2 rfl
  go_wp2_with fail
  clear hHeld
  refine hK.out _ _ ⟨by with_reducible assumption, by with_reducible assumption, by with_reducible assumption, by with_reducible assumption, by with_reducible assumption, by with_reducible assumption, by with_reducible assumption, by with_reducible assumption, by with_reducible assumption⟩ (fun hHeld => ?_)
  clear hK K
  try simp only [Act.put, List.setIfInBounds_toArray, List.set_cons_zero, List.set_cons_succ]
  refine wpAnyH_take (i := 45) (oi := ?oi42_45) (v := ?vv42_45) ?hi42_45 (by kernel_rfl) (by kernel_rfl) (by kernel_rfl) ?hq42_45 ?hy42_45 hHeld ?rest42_45
  case hi42_45 => (simp only [List.getElem?_toArray, List.getElem?_cons_succ, List.getElem?_cons_zero]; rfl)
  case hq42_45 => exact fun _ _ _ h => h
  case hy42_45 =>
    refine Or.inl ⟨by rfl, ?_⟩
    intro wS hSw
    try dsimp only at hSw
    obtain ⟨q0, q1, q2, q3, q4, q5, q6, q7, q8⟩ := hSw
    go_simp
    try with_reducible rfl
  simp only [Act.put, List.setIfInBounds_toArray, List.set_cons_zero, List.set_cons_succ]
  refine wpAnyH_take (i := 46) (oi := ?oi43_46) (v := ?vv43_46) ?hi43_46 (by kernel_rfl) (by kernel_rfl) (by kernel_rfl) ?hq43_46 ?hy43_46 hHeld ?rest43_46
  case hi43_46 => (simp only [List.getElem?_toArray, List.getElem?_cons_succ, List.getElem?_cons_zero]; rfl)
  case hq43_46 => exact fun _ _ _ h => h
  case hy43_46 =>
    refine Or.inl ⟨by rfl, ?_⟩
    intro wS hSw
    try dsimp only at hSw
    obtain ⟨q0, q1, q2, q3, q4, q5, q6, q7, q8⟩ := hSw
    go_simp
    try with_reducible rfl
  simp only [Act.put, List.setIfInBounds_toArray, List.set_cons_zero, List.set_cons_succ]
  refine wpAnyH_take (i := 47) (oi := ?oi44_47) (v := ?vv44_47) ?hi44_47 (by kernel_rfl) (by kernel_rfl) (by kernel_rfl) ?hq44_47 ?hy44_47 hHeld ?rest44_47
  case hi44_47 => (simp only [List.getElem?_toArray, List.getElem?_cons_succ, List.getElem?_cons_zero]; rfl)
  case hq44_47 => exact fun _ _ _ h => h
  case hy44_47 =>
    refine Or.inl ⟨by rfl, ?_⟩
    intro wS hSw
    try dsimp only at hSw
    obtain ⟨q0, q1, q2, q3, q4, q5, q6, q7, q8⟩ := hSw
    go_simp
    try with_reducible rfl
  simp only [Act.put, List.setIfInBounds_toArray, List.set_cons_zero, List.set_cons_succ]
  refine wpAnyH_take (i := 48) (oi := ?oi45_48) (v := ?vv45_48) ?hi45_48 (by kernel_rfl) (by kernel_rfl) (by kernel_rfl) ?hq45_48 ?hy45_48 hHeld ?rest45_48
  case hi45_48 => (simp only [List.getElem?_toArray, List.getElem?_cons_succ, List.getElem?_cons_zero]; rfl)
  case hq45_48 => exact fun _ _ _ h => h
  case hy45_48 =>
    refine Or.inl ⟨by rfl, ?_⟩
    intro wS hSw
    try dsimp only at hSw
    obtain ⟨q0, q1, q2, q3, q4, q5, q6, q7, q8⟩ := hSw
    go_simp
    try with_reducible rfl
  simp only [Act.put, List.setIfInBounds_toArray, List.set_cons_zero, List.set_cons_succ]
  refine wpAnyH_take (i := 49) (oi := ?oi46_49) (v := ?vv46_49) ?hi46_49 (by kernel_rfl) (by kernel_rfl) (by kernel_rfl) ?hq46_49 ?hy46_49 hHeld ?rest46_49
  case hi46_49 => (simp only [List.getElem?_toArray, List.getElem?_cons_succ, List.getElem?_cons_zero]; rfl)
  case hq46_49 => exact fun _ _ _ h => h
  case hy46_49 =>
    refine Or.inl ⟨by rfl, ?_⟩
    intro wS hSw
    try dsimp only at hSw
    obtain ⟨q0, q1, q2, q3, q4, q5, q6, q7, q8⟩ := hSw
    go_simp
    try with_reducible rfl
  simp only [Act.put, List.setIfInBounds_toArray, List.set_cons_zero, List.set_cons_succ]
  refine wpAnyH_take (i := 50) (oi := ?oi47_50) (v := ?vv47_50) ?hi47_50 (by kernel_rfl) (by kernel_rfl) (by kernel_rfl) ?hq47_50 ?hy47_50 hHeld ?rest47_50
  case hi47_50 => (simp only [List.getElem?_toArray, List.getElem?_cons_succ, List.getElem?_cons_zero]; rfl)
  case hq47_50 => exact fun _ _ _ h => h
  case hy47_50 =>
    refine Or.inl ⟨by rfl, ?_⟩
    intro wS hSw
    try dsimp only at hSw
    obtain ⟨q0, q1, q2, q3, q4, q5, q6, q7, q8⟩ := hSw
    go_simp
    try with_reducible rfl
  simp only [Act.put, List.setIfInBounds_toArray, List.set_cons_zero, List.set_cons_succ]
  refine wpAnyH_ready (rs := [51]) (by kernel_rfl) (by simp) ?_
  refine AllReadyH.cons rfl (fun K hK => ?_) AllReadyH.nil
  go_simp
  refine (i5 _).mono ?_
  rintro e w55 ⟨wc, rfl, hwc, hf55⟩
  have Ha' := hid (RV.fwd Ha.out hf55)
  clear Ha
  have Ha := Ha'
  clear Ha'
  have Hb' := hid (RV.fwd Hb.out hf55)
  clear Hb
  have Hb := Hb'
  clear Hb'
  have Hc' := hid (RV.fwd Hc.out hf55)
  clear Hc
  have Hc := Hc'
  clear Hc'
  have HW := hid hwc
  obtain ⟨xoc, xcc, yoc, ycc, rfl, x1, x2, x3, x4, -, -⟩ := RW.open hwc
  clear hwc
  replace kA := kA.fwd hf55
  replace kB := kB.fwd hf55
  replace kC := kC.fwd hf55
  replace hF := hF.trans hf55
  clear hf55
  clear ac0 ac1 ac2
  clear bc0 bc1 bc2
  clear cc0 cc1 cc2
  have ac0 := BlkV.cell kA 0 rfl
  have ac1 := BlkV.cell kA 1 rfl
  have ac2 := BlkV.cell kA 2 rfl
  have bc0 := BlkV.cell kB 0 rfl
  have bc1 := BlkV.cell kB 1 rfl
  have bc2 := BlkV.cell kB 2 rfl
  have cc0 := BlkV.cell kC 0 rfl
  have cc1 := BlkV.cell kC 1 rfl
  have cc2 := BlkV.cell kC 2 rfl
  go_wp2_with fail
  clear hHeld
  refine hK.out _ _ ⟨by with_reducible assumption, by with_reducible assumption, by with_reducible assumption, by with_reducible assumption, by with_reducible assumption, by with_reducible assumption, by with_reducible assumption, by with_reducible assumption, by with_reducible assumption⟩ (fun hHeld => ?_)
  clear hK K
  try simp only [Act.put, List.setIfInBounds_toArray, List.set_cons_zero, List.set_cons_succ]
  refine wpAnyH_ready (rs := [52]) (by kernel_rfl) (by simp) ?_
  refine AllReadyH.cons rfl (fun K hK => ?_) AllReadyH.nil
  go_simp
  refine (same2_true Hc.out HW.out (by omega) (by omega) rfl).mono ?_
  rintro e w56 ⟨rfl, hf56⟩
  have Ha' := hid (RV.fwd Ha.out hf56)
  clear Ha
  have Ha := Ha'
  clear Ha'
  have Hb' := hid (RV.fwd Hb.out hf56)
  clear Hb
  have Hb := Hb'
  clear Hb'
  have Hc' := hid (RV.fwd Hc.out hf56)
  clear Hc
  have Hc := Hc'
  clear Hc'
  clear HW x1 x2 x3 x4
  replace kA := kA.fwd hf56
  replace kB := kB.fwd hf56
  replace kC := kC.fwd hf56
  replace hF := hF.trans hf56
  clear hf56
  clear ac0 ac1 ac2
  clear bc0 bc1 bc2
  clear cc0 cc1 cc2
  have ac0 := BlkV.cell kA 0 rfl
  have ac1 := BlkV.cell kA 1 rfl
  have ac2 := BlkV.cell kA 2 rfl
  have bc0 := BlkV.cell kB 0 rfl
  have bc1 := BlkV.cell kB 1 rfl
  have bc2 := BlkV.cell kB 2 rfl
  have cc0 := BlkV.cell kC 0 rfl
  have cc1 := BlkV.cell kC 1 rfl
  have cc2 := BlkV.cell kC 2 rfl
  go_wp2_with fail
  clear hHeld
  refine hK.out _ _ ⟨by with_reducible assumption, by with_reducible assumption, by with_reducible assumption, by with_reducible assumption, by with_reducible assumption, by with_reducible assumption, by with_reducible assumption, by with_reducible assumption, by with_reducible assumption⟩ (fun hHeld => ?_)
  clear hK K
  try simp only [Act.put, List.setIfInBounds_toArray, List.set_cons_zero, List.set_cons_succ]
  refine wpAnyH_take (i := 53) (oi := ?oi48_53) (v := ?vv48_53) ?hi48_53 (by kernel_rfl) (by kernel_rfl) (by kernel_rfl) ?hq48_53 ?hy48_53 hHeld ?rest48_53
  case hi48_53 => (simp only [List.getElem?_toArray, List.getElem?_cons_succ, List.getElem?_cons_zero]; rfl)
  case hq48_53 => exact fun _ _ _ h => h
  case hy48_53 =>
    refine Or.inl ⟨by rfl, ?_⟩
    intro wS hSw
    try dsimp only at hSw
    obtain ⟨q0, q1, q2, q3, q4, q5, q6, q7, q8⟩ := hSw
    go_simp
    try with_reducible rfl
  simp only [Act.put, List.setIfInBounds_toArray, List.set_cons_zero, List.set_cons_succ]
  refine wpAnyH_take (i := 54) (oi := ?oi49_54) (v := ?vv49_54) ?hi49_54 (by kernel_rfl) (by kernel_rfl) (by kernel_rfl) ?hq49_54 ?hy49_54 hHeld ?rest49_54
  case hi49_54 => (simp only [List.getElem?_toArray, List.getElem?_cons_succ, List.getElem?_cons_zero]; rfl)
  case hq49_54 => exact fun _ _ _ h => h
  case hy49_54 =>
    refine Or.inl ⟨by rfl, ?_⟩
    intro wS hSw
    try dsimp only at hSw
    obtain ⟨q0, q1, q2, q3, q4, q5, q6, q7, q8⟩ := hSw
    go_simp
    try with_reducible rfl
  simp only [Act.put, List.setIfInBounds_toArray, List.set_cons_zero, List.set_cons_succ]
  refine wpAnyH_done (by kernel_rfl) ?_ _
  go_wp2
  go_ret
  exact ⟨rfl, hF⟩
end Go.Proofs.YtbhehgodnfcdgaaDoor
