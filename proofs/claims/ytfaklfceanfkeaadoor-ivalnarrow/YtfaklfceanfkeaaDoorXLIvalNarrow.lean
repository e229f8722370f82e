/- IvalNarrow: the enclosure of a number has it, and is as narrow as floats are: the law's walk. -/
import Derived.Test.YtfaklfceanfkeaaDoorXF33
import Derived.OpenShut
namespace Go.Proofs.YtfaklfceanfkeaaDoor
open Go.RowKit
set_option linter.unusedVariables false
set_option linter.unusedSimpArgs false

/-- What comes of a float's number. -/
theorem back_of4 {f : Nat} (hf : f < 18446744073709551616) (h1 : fsz f < 9218868437227405312) (m : Int) :
    ofQ m (negQ (mkQ (fneg f) (ratA f) (ratB f))) (mkQ (fneg f) (ratA f) (ratB f)).num.natAbs (mkQ (fneg f) (ratA f) (ratB f)).den = (if fsz f = 0 then 0 else f, 0) := by
  have hB := ratB_pos f
  by_cases c : fsz f = 0
  · have hA : ratA f = 0 := by unfold ratA; rw [vsz_zero c, Nat.zero_mul]
    rw [if_pos c, hA, mkQ_zero]
    exact back_nought m
  · have hA : ratA f ≠ 0 := by unfold ratA; exact Nat.mul_ne_zero (vsz_ne c) (by have := Nat.two_pow_pos (vex f).toNat; omega)
    rw [if_neg c, mkQ_neg hB hA, mkQ_abs hB, mkQ_den hB]
    exact back_own hf c h1 m
/-- What is asked of a number's enclosure. -/
theorem of_narrow {w : World} (hR : Ru w) {q : Rat} (hq : nr q ≤ 2000) : ∃ lo hi : Nat, Narrow lo hi ∧ lo < 18446744073709551616 ∧ hi < 18446744073709551616 ∧ (ofQ 2 (negQ q) q.num.natAbs q.den).1 = lo ∧ (ofQ 3 (negQ q) q.num.natAbs q.den).1 = hi ∧
    (∀ (w' : World) (v : Value), Fwd w w' → RV w' v q → Calls Tryd.prog 6 #[v] w' fun e w'' => e = .returned (.agg #[.int .u64 lo, .int .u64 hi]) ∧ Fwd w' w'') ∧
    (∀ (w' : World) (v : Value), Fwd w w' → RV w' v q → Calls Tryd.prog 10 #[.agg #[.int .u64 lo, .int .u64 hi], v] w' fun e w'' => e = .returned (.bool true) ∧ Fwd w' w'') ∧
    (∀ (w' : World), Calls Tryd.prog 9 #[.agg #[.int .u64 lo, .int .u64 hi]] w' fun e w'' => e = .returned (.bool true) ∧ Fwd w' w'') := by
  have b1 := nr_num q
  have b2 := nr_den q
  have hN : Narrow (ofQ 2 (negQ q) q.num.natAbs q.den).1 (ofQ 3 (negQ q) q.num.natAbs q.den).1 := narrow_rdV
  have l1 : (ofQ 2 (negQ q) q.num.natAbs q.den).1 < 18446744073709551616 := rdV_lt 2 _
  have l2 : (ofQ 3 (negQ q) q.num.natAbs q.den).1 < 18446744073709551616 := rdV_lt 3 _
  refine ⟨_, _, hN, l1, l2, rfl, rfl, fun w' v g hv => ivOf_any (hR.fwd g) hv (by omega) (by omega) q.den_nz, fun w' v g hv => ivHas_in (hR.fwd g) hv (by omega) (by omega) q.den_nz l1 l2 l1 l2 rfl rfl (jo_same hN.2.2.2.1).1 (jo_same hN.2.2.2.2).2, fun w' => ?_⟩
  have := ivRight_any (w := w') _ _ l1 l2
  rw [hN.2.1, decide_eq_true hN.2.2.1] at this
  exact this

set_option maxHeartbeats 16000000 in
set_option maxRecDepth 100000 in
theorem ivalNarrow_walk {w : World} {va : Value} {sa : Bool} {xa ya : List Nat} {f n : Int} (hR : Ru w) (hA : RawA w va sa xa ya) (hf : (Lit.int .u64 f).wf = true) (hn : (Lit.int .i64 n).wf = true) :
    Calls Tryd.prog 3 #[va, .int .u64 f, .int .i64 n] w fun e w' => e = .returned (.bool true) ∧ Below w.heap.size w w' := by
  obtain ⟨f1, f2⟩ := bounds_u64 hf
  obtain ⟨n1, n2⟩ := bounds_i64 hn
  obtain ⟨f, rfl⟩ : ∃ a' : Nat, f = (a' : Int) := ⟨f.toNat, by omega⟩
  clear hf hn
  have ck := fun (w' : World) (g : Fwd w w') => known4_any (hR.fwd g)
  have cm := fun (w' : World) (g : Fwd w w') => make2law_any (hA.fwd g)
  obtain ⟨vN, vD, rfl, rN, rD⟩ := hA
  have bq := nr_rawQ sa rN.ok rD.ok
  obtain ⟨q, hq⟩ : ∃ q, q = rawQ sa xa ya := ⟨_, rfl⟩
  rw [← hq] at bq cm
  obtain ⟨lo, hi, hN, l1, l2, -, -, ci, ch, cr⟩ := of_narrow hR (q := q) (by omega)
  have ce := fun (w : World) => end4_any (w := w) f n (by omega) n1 n2
  have cn := fun (w : World) => next3_any (w := w) lo true l1
  clear hq rN rD f1 f2 n1 n2
  have kA : BlkV (w.alloc (.cells #[.bool sa, vN, vD] 24)) (w.heap.size) 24 [.bool sa, vN, vD] := BlkV.made' w (w.heap.size) (by simp) 24 [.bool sa, vN, vD]
  have hF : Fwd w (w.alloc (.cells #[.bool sa, vN, vD] 24)) := (Fwd.refl w).alloc _
  go_enter Tryd.func3, Tryd.ntmps3
  have ac0 := BlkV.cell kA 0 rfl
  have az0 := BlkV.frozen kA 0
  have ac1 := BlkV.cell kA 1 rfl
  have az1 := BlkV.frozen kA 1
  have ac2 := BlkV.cell kA 2 rfl
  have az2 := BlkV.frozen kA 2
  go_wp2_with fail
  refine (ck _ hF).mono ?_
  rintro e u1 ⟨rfl, hfC⟩
  clear ck
  replace kA := kA.fwd hfC
  replace hF := hF.trans hfC
  clear hfC
  clear ac0 az0 ac1 az1 ac2 az2
  have ac0 := BlkV.cell kA 0 rfl
  have az0 := BlkV.frozen kA 0
  have ac1 := BlkV.cell kA 1 rfl
  have az1 := BlkV.frozen kA 1
  have ac2 := BlkV.cell kA 2 rfl
  have az2 := BlkV.frozen kA 2
  go_wp2_with fail
  refine (cm _ hF).mono ?_
  rintro e u2 ⟨v, rfl, hv, hfC⟩
  clear cm
  have HV := hid hv
  obtain ⟨po, pc, qo, qc, rfl, p1, p2, p3, p4, -, -⟩ := RW.open hv
  clear hv
  replace kA := kA.fwd hfC
  replace hF := hF.trans hfC
  clear hfC
  clear ac0 az0 ac1 az1 ac2 az2
  have ac0 := BlkV.cell kA 0 rfl
  have az0 := BlkV.frozen kA 0
  have ac1 := BlkV.cell kA 1 rfl
  have az1 := BlkV.frozen kA 1
  have ac2 := BlkV.cell kA 2 rfl
  have az2 := BlkV.frozen kA 2
  have hfB : Fwd u2 (u2.alloc (.cells #[.bool (negQ q), .slice po (nl q.num.natAbs) pc, .slice qo (nl q.den) qc] 24)) := (Fwd.refl _).alloc _
  have ltAT := BlkV.lt kA
  replace kA := kA.fwd hfB
  have HV' := hid (RV.fwd HV.out hfB)
  clear HV
  have HV := HV'
  clear HV'
  replace hF := hF.trans hfB
  clear hfB
  have kT := BlkV.made u2 24 [.bool (negQ q), .slice po (nl q.num.natAbs) pc, .slice qo (nl q.den) qc]
  go_upto_region 4 with fail
  clear ac0 az0 ac1 az1 ac2 az2
  generalize (u2.alloc (.cells #[.bool (negQ q), .slice po (nl q.num.natAbs) pc, .slice qo (nl q.den) qc] 24)) = u2' at kT kA HV hF ⊢
  have ac0 := BlkV.cell kA 0 rfl
  have az0 := BlkV.frozen kA 0
  have ac1 := BlkV.cell kA 1 rfl
  have az1 := BlkV.frozen kA 1
  have ac2 := BlkV.cell kA 2 rfl
  have az2 := BlkV.frozen kA 2
  have tc0 := BlkV.cell kT 0 rfl
  have tz0 := BlkV.frozen kT 0
  have tc1 := BlkV.cell kT 1 rfl
  have tz1 := BlkV.frozen kT 1
  have tc2 := BlkV.cell kT 2 rfl
  have tz2 := BlkV.frozen kT 2
  go_wp2_with fail
  refine (ci _ _ hF HV.out).mono ?_
  rintro e u3 ⟨rfl, hfC⟩
  clear ci
  replace kA := kA.fwd hfC
  replace kT := kT.fwd hfC
  have HV' := hid (RV.fwd HV.out hfC)
  clear HV
  have HV := HV'
  clear HV'
  replace hF := hF.trans hfC
  clear hfC
  clear ac0 az0 ac1 az1 ac2 az2
  clear tc0 tz0 tc1 tz1 tc2 tz2
  have ac0 := BlkV.cell kA 0 rfl
  have az0 := BlkV.frozen kA 0
  have ac1 := BlkV.cell kA 1 rfl
  have az1 := BlkV.frozen kA 1
  have ac2 := BlkV.cell kA 2 rfl
  have az2 := BlkV.frozen kA 2
  have tc0 := BlkV.cell kT 0 rfl
  have tz0 := BlkV.frozen kT 0
  have tc1 := BlkV.cell kT 1 rfl
  have tz1 := BlkV.frozen kT 1
  have tc2 := BlkV.cell kT 2 rfl
  have tz2 := BlkV.frozen kT 2
  have hfB : Fwd u3 (u3.alloc (.cells #[.int .u64 lo, .int .u64 hi] 29)) := (Fwd.refl _).alloc _
  have ltAI := BlkV.lt kA
  replace kA := kA.fwd hfB
  have ltTI := BlkV.lt kT
  replace kT := kT.fwd hfB
  have HV' := hid (RV.fwd HV.out hfB)
  clear HV
  have HV := HV'
  clear HV'
  replace hF := hF.trans hfB
  clear hfB
  have kI := BlkV.made u3 29 [.int .u64 lo, .int .u64 hi]
  go_upto_region 5 with fail
  clear ac0 az0 ac1 az1 ac2 az2 tc0 tz0 tc1 tz1 tc2 tz2
  generalize (u3.alloc (.cells #[.int .u64 lo, .int .u64 hi] 29)) = u3' at kI kA kT HV hF ⊢
  have ac0 := BlkV.cell kA 0 rfl
  have az0 := BlkV.frozen kA 0
  have ac1 := BlkV.cell kA 1 rfl
  have az1 := BlkV.frozen kA 1
  have ac2 := BlkV.cell kA 2 rfl
  have az2 := BlkV.frozen kA 2
  have tc0 := BlkV.cell kT 0 rfl
  have tz0 := BlkV.frozen kT 0
  have tc1 := BlkV.cell kT 1 rfl
  have tz1 := BlkV.frozen kT 1
  have tc2 := BlkV.cell kT 2 rfl
  have tz2 := BlkV.frozen kT 2
  have ic0 := BlkV.cell kI 0 rfl
  have iz0 := BlkV.frozen kI 0
  have ic1 := BlkV.cell kI 1 rfl
  have iz1 := BlkV.frozen kI 1
  go_wp2_with fail
  refine (ce _).mono ?_
  rintro e u4 ⟨y, rfl, ⟨hy, hyi⟩, hfC⟩
  clear ce
  replace kA := kA.fwd hfC
  replace kT := kT.fwd hfC
  replace kI := kI.fwd hfC
  have HV' := hid (RV.fwd HV.out hfC)
  clear HV
  have HV := HV'
  clear HV'
  replace hF := hF.trans hfC
  clear hfC
  clear ac0 az0 ac1 az1 ac2 az2
  clear tc0 tz0 tc1 tz1 tc2 tz2
  clear ic0 iz0 ic1 iz1
  have ac0 := BlkV.cell kA 0 rfl
  have az0 := BlkV.frozen kA 0
  have ac1 := BlkV.cell kA 1 rfl
  have az1 := BlkV.frozen kA 1
  have ac2 := BlkV.cell kA 2 rfl
  have az2 := BlkV.frozen kA 2
  have tc0 := BlkV.cell kT 0 rfl
  have tz0 := BlkV.frozen kT 0
  have tc1 := BlkV.cell kT 1 rfl
  have tz1 := BlkV.frozen kT 1
  have tc2 := BlkV.cell kT 2 rfl
  have tz2 := BlkV.frozen kT 2
  have ic0 := BlkV.cell kI 0 rfl
  have iz0 := BlkV.frozen kI 0
  have ic1 := BlkV.cell kI 1 rfl
  have iz1 := BlkV.frozen kI 1
  have bp := nr_mkQ (fneg y) (ratA y) (ratB y) (ratB_pos y)
  have bA := nl_ratA' hyi
  have bB := nl_ratB' y
  have k2 := back_of4 hy hyi 2
  have k3 := back_of4 hy hyi 3
  have cx := fun (w : World) => refRat_any (w := w) y hy hyi
  obtain ⟨p, hp⟩ : ∃ p, p = mkQ (fneg y) (ratA y) (ratB y) := ⟨_, rfl⟩
  rw [← hp] at bp k2 k3 cx
  obtain ⟨jl, jh, jN, j1, j2, j3, j4, di, dh, -⟩ := of_narrow hR (q := p) (by omega)
  obtain rfl : jl = jh := by rw [← j3, ← j4, k2, k3]
  clear hp j3 j4 k2 k3 bp bA bB hR
  go_wp2_with fail
  refine (cx _).mono ?_
  rintro e u5 ⟨x', rfl, hv, hfC⟩
  clear cx
  have HX := hid hv
  obtain ⟨ro, rc, so, sc, rfl, r1, r2, r3, r4, -, -⟩ := RW.open hv
  clear hv
  replace kA := kA.fwd hfC
  replace kT := kT.fwd hfC
  replace kI := kI.fwd hfC
  have HV' := hid (RV.fwd HV.out hfC)
  clear HV
  have HV := HV'
  clear HV'
  replace hF := hF.trans hfC
  clear hfC
  clear ac0 az0 ac1 az1 ac2 az2
  clear tc0 tz0 tc1 tz1 tc2 tz2
  clear ic0 iz0 ic1 iz1
  have ac0 := BlkV.cell kA 0 rfl
  have az0 := BlkV.frozen kA 0
  have ac1 := BlkV.cell kA 1 rfl
  have az1 := BlkV.frozen kA 1
  have ac2 := BlkV.cell kA 2 rfl
  have az2 := BlkV.frozen kA 2
  have tc0 := BlkV.cell kT 0 rfl
  have tz0 := BlkV.frozen kT 0
  have tc1 := BlkV.cell kT 1 rfl
  have tz1 := BlkV.frozen kT 1
  have tc2 := BlkV.cell kT 2 rfl
  have tz2 := BlkV.frozen kT 2
  have ic0 := BlkV.cell kI 0 rfl
  have iz0 := BlkV.frozen kI 0
  have ic1 := BlkV.cell kI 1 rfl
  have iz1 := BlkV.frozen kI 1
  have hfB : Fwd u5 (u5.alloc (.cells #[.bool (negQ p), .slice ro (nl p.num.natAbs) rc, .slice so (nl p.den) sc] 24)) := (Fwd.refl _).alloc _
  have ltAX := BlkV.lt kA
  replace kA := kA.fwd hfB
  have ltTX := BlkV.lt kT
  replace kT := kT.fwd hfB
  have ltIX := BlkV.lt kI
  replace kI := kI.fwd hfB
  have HV' := hid (RV.fwd HV.out hfB)
  clear HV
  have HV := HV'
  clear HV'
  have HX' := hid (RV.fwd HX.out hfB)
  clear HX
  have HX := HX'
  clear HX'
  replace hF := hF.trans hfB
  clear hfB
  have kX := BlkV.made u5 24 [.bool (negQ p), .slice ro (nl p.num.natAbs) rc, .slice so (nl p.den) sc]
  go_upto_region 6 with fail
  clear ac0 az0 ac1 az1 ac2 az2 tc0 tz0 tc1 tz1 tc2 tz2 ic0 iz0 ic1 iz1
  generalize (u5.alloc (.cells #[.bool (negQ p), .slice ro (nl p.num.natAbs) rc, .slice so (nl p.den) sc] 24)) = u5' at kX kA kT kI HV HX hF ⊢
  have ac0 := BlkV.cell kA 0 rfl
  have az0 := BlkV.frozen kA 0
  have ac1 := BlkV.cell kA 1 rfl
  have az1 := BlkV.frozen kA 1
  have ac2 := BlkV.cell kA 2 rfl
  have az2 := BlkV.frozen kA 2
  have tc0 := BlkV.cell kT 0 rfl
  have tz0 := BlkV.frozen kT 0
  have tc1 := BlkV.cell kT 1 rfl
  have tz1 := BlkV.frozen kT 1
  have tc2 := BlkV.cell kT 2 rfl
  have tz2 := BlkV.frozen kT 2
  have ic0 := BlkV.cell kI 0 rfl
  have iz0 := BlkV.frozen kI 0
  have ic1 := BlkV.cell kI 1 rfl
  have iz1 := BlkV.frozen kI 1
  have xc0 := BlkV.cell kX 0 rfl
  have xz0 := BlkV.frozen kX 0
  have xc1 := BlkV.cell kX 1 rfl
  have xz1 := BlkV.frozen kX 1
  have xc2 := BlkV.cell kX 2 rfl
  have xz2 := BlkV.frozen kX 2
  go_wp2_with fail
  refine (di _ _ hF HX.out).mono ?_
  rintro e u6 ⟨rfl, hfC⟩
  clear di
  replace kA := kA.fwd hfC
  replace kT := kT.fwd hfC
  replace kI := kI.fwd hfC
  replace kX := kX.fwd hfC
  have HV' := hid (RV.fwd HV.out hfC)
  clear HV
  have HV := HV'
  clear HV'
  have HX' := hid (RV.fwd HX.out hfC)
  clear HX
  have HX := HX'
  clear HX'
  replace hF := hF.trans hfC
  clear hfC
  clear ac0 az0 ac1 az1 ac2 az2
  clear tc0 tz0 tc1 tz1 tc2 tz2
  clear ic0 iz0 ic1 iz1
  clear xc0 xz0 xc1 xz1 xc2 xz2
  have ac0 := BlkV.cell kA 0 rfl
  have az0 := BlkV.frozen kA 0
  have ac1 := BlkV.cell kA 1 rfl
  have az1 := BlkV.frozen kA 1
  have ac2 := BlkV.cell kA 2 rfl
  have az2 := BlkV.frozen kA 2
  have tc0 := BlkV.cell kT 0 rfl
  have tz0 := BlkV.frozen kT 0
  have tc1 := BlkV.cell kT 1 rfl
  have tz1 := BlkV.frozen kT 1
  have tc2 := BlkV.cell kT 2 rfl
  have tz2 := BlkV.frozen kT 2
  have ic0 := BlkV.cell kI 0 rfl
  have iz0 := BlkV.frozen kI 0
  have ic1 := BlkV.cell kI 1 rfl
  have iz1 := BlkV.frozen kI 1
  have xc0 := BlkV.cell kX 0 rfl
  have xz0 := BlkV.frozen kX 0
  have xc1 := BlkV.cell kX 1 rfl
  have xz1 := BlkV.frozen kX 1
  have xc2 := BlkV.cell kX 2 rfl
  have xz2 := BlkV.frozen kX 2
  have hfB : Fwd u6 (u6.alloc (.cells #[.int .u64 jl, .int .u64 jl] 29)) := (Fwd.refl _).alloc _
  have ltAJ := BlkV.lt kA
  replace kA := kA.fwd hfB
  have ltTJ := BlkV.lt kT
  replace kT := kT.fwd hfB
  have ltIJ := BlkV.lt kI
  replace kI := kI.fwd hfB
  have ltXJ := BlkV.lt kX
  replace kX := kX.fwd hfB
  have HV' := hid (RV.fwd HV.out hfB)
  clear HV
  have HV := HV'
  clear HV'
  have HX' := hid (RV.fwd HX.out hfB)
  clear HX
  have HX := HX'
  clear HX'
  replace hF := hF.trans hfB
  clear hfB
  have kJ := BlkV.made u6 29 [.int .u64 jl, .int .u64 jl]
  go_upto_region 7 with fail
  clear ac0 az0 ac1 az1 ac2 az2 tc0 tz0 tc1 tz1 tc2 tz2 ic0 iz0 ic1 iz1 xc0 xz0 xc1 xz1 xc2 xz2
  generalize (u6.alloc (.cells #[.int .u64 jl, .int .u64 jl] 29)) = u6' at kJ kA kT kI kX HV HX hF ⊢
  have ac0 := BlkV.cell kA 0 rfl
  have az0 := BlkV.frozen kA 0
  have ac1 := BlkV.cell kA 1 rfl
  have az1 := BlkV.frozen kA 1
  have ac2 := BlkV.cell kA 2 rfl
  have az2 := BlkV.frozen kA 2
  have tc0 := BlkV.cell kT 0 rfl
  have tz0 := BlkV.frozen kT 0
  have tc1 := BlkV.cell kT 1 rfl
  have tz1 := BlkV.frozen kT 1
  have tc2 := BlkV.cell kT 2 rfl
  have tz2 := BlkV.frozen kT 2
  have ic0 := BlkV.cell kI 0 rfl
  have iz0 := BlkV.frozen kI 0
  have ic1 := BlkV.cell kI 1 rfl
  have iz1 := BlkV.frozen kI 1
  have xc0 := BlkV.cell kX 0 rfl
  have xz0 := BlkV.frozen kX 0
  have xc1 := BlkV.cell kX 1 rfl
  have xz1 := BlkV.frozen kX 1
  have xc2 := BlkV.cell kX 2 rfl
  have xz2 := BlkV.frozen kX 2
  have jc0 := BlkV.cell kJ 0 rfl
  have jz0 := BlkV.frozen kJ 0
  have jc1 := BlkV.cell kJ 1 rfl
  have jz1 := BlkV.frozen kJ 1
  have HV' := hid (RV.fwd HV.out ((Fwd.refl _).drew))
  have HX' := hid (RV.fwd HX.out ((Fwd.refl _).drew))
  clear HV HX
  have HV := HV'
  have HX := HX'
  clear HV' HX'
  have i2 : ((jl : Int) == (jl : Int)) = true := by simp
  by_cases c : lo = hi
  · have i1 : ((lo : Int) == (hi : Int)) = true := by rw [c]; simp
    clear c cn
    have n3 := hN
    clear hN jN
    replace kA := kA.drew
    replace kT := kT.drew
    replace kI := kI.drew
    replace kX := kX.drew
    replace kJ := kJ.drew
    replace hF := hF.drew
    clear ac0 az0 ac1 az1 ac2 az2
    clear tc0 tz0 tc1 tz1 tc2 tz2
    clear ic0 iz0 ic1 iz1
    clear xc0 xz0 xc1 xz1 xc2 xz2
    clear jc0 jz0 jc1 jz1
    have ac0 := BlkV.cell kA 0 rfl
    have ac1 := BlkV.cell kA 1 rfl
    have ac2 := BlkV.cell kA 2 rfl
    have tc0 := BlkV.cell kT 0 rfl
    have tc1 := BlkV.cell kT 1 rfl
    have tc2 := BlkV.cell kT 2 rfl
    have ic0 := BlkV.cell kI 0 rfl
    have ic1 := BlkV.cell kI 1 rfl
    have xc0 := BlkV.cell kX 0 rfl
    have xc1 := BlkV.cell kX 1 rfl
    have xc2 := BlkV.cell kX 2 rfl
    have jc0 := BlkV.cell kJ 0 rfl
    have jc1 := BlkV.cell kJ 1 rfl
    refine wp_region_held_drew (S := fun w' => w'.cell? ⟨w.heap.size, 0, none⟩ = some (.bool sa) ∧ w'.cell? ⟨w.heap.size, 1, none⟩ = some (vN) ∧ w'.cell? ⟨w.heap.size, 2, none⟩ = some (vD) ∧ w'.cell? ⟨u2.heap.size, 0, none⟩ = some (.bool (negQ q)) ∧ w'.cell? ⟨u2.heap.size, 1, none⟩ = some (.slice po (nl q.num.natAbs) pc) ∧ w'.cell? ⟨u2.heap.size, 2, none⟩ = some (.slice qo (nl q.den) qc) ∧ w'.cell? ⟨u3.heap.size, 0, none⟩ = some (.int .u64 lo) ∧ w'.cell? ⟨u3.heap.size, 1, none⟩ = some (.int .u64 hi) ∧ w'.cell? ⟨u5.heap.size, 0, none⟩ = some (.bool (negQ p)) ∧ w'.cell? ⟨u5.heap.size, 1, none⟩ = some (.slice ro (nl p.num.natAbs) rc) ∧ w'.cell? ⟨u5.heap.size, 2, none⟩ = some (.slice so (nl p.den) sc) ∧ w'.cell? ⟨u6.heap.size, 0, none⟩ = some (.int .u64 jl) ∧ w'.cell? ⟨u6.heap.size, 1, none⟩ = some (.int .u64 jl)) (by kernel_rfl) ⟨by with_reducible assumption, by with_reducible assumption, by with_reducible assumption, by with_reducible assumption, by with_reducible assumption, by with_reducible assumption, by with_reducible assumption, by with_reducible assumption, by with_reducible assumption, by with_reducible assumption, by with_reducible assumption, by with_reducible assumption, by with_reducible assumption⟩ (fun hHeld => ?_)
    refine wpAnyH_take (i := 0) (oi := ?oi1_0) (v := ?vv1_0) ?hi1_0 (by kernel_rfl) (by kernel_rfl) (by kernel_rfl) ?hq1_0 ?hy1_0 hHeld ?rest1_0
    case hi1_0 => (simp only [List.getElem?_toArray, List.getElem?_cons_succ, List.getElem?_cons_zero]; rfl)
    case hq1_0 => exact fun _ _ _ h => h
    case hy1_0 =>
      refine Or.inl ⟨by rfl, ?_⟩
      intro wS hSw
      try dsimp only at hSw
      obtain ⟨q0, q1, q2, q3, q4, q5, q6, q7, q8, q9, q10, q11, q12⟩ := hSw
      go_simp
      try with_reducible rfl
    simp only [Act.put, List.setIfInBounds_toArray, List.set_cons_zero, List.set_cons_succ]
    refine wpAnyH_ready (rs := [1]) (by kernel_rfl) (by simp) ?_
    refine AllReadyH.cons rfl (fun K hK => ?_) AllReadyH.nil
    go_simp
    refine (cr _).mono ?_
    rintro e w51 ⟨rfl, hf51⟩
    have HV' := hid (RV.fwd HV.out hf51)
    clear HV
    have HV := HV'
    clear HV'
    have HX' := hid (RV.fwd HX.out hf51)
    clear HX
    have HX := HX'
    clear HX'
    replace kA := kA.fwd hf51
    replace kT := kT.fwd hf51
    replace kI := kI.fwd hf51
    replace kX := kX.fwd hf51
    replace kJ := kJ.fwd hf51
    replace hF := hF.trans hf51
    clear hf51
    clear ac0 ac1 ac2
    clear tc0 tc1 tc2
    clear ic0 ic1
    clear xc0 xc1 xc2
    clear jc0 jc1
    have ac0 := BlkV.cell kA 0 rfl
    have ac1 := BlkV.cell kA 1 rfl
    have ac2 := BlkV.cell kA 2 rfl
    have tc0 := BlkV.cell kT 0 rfl
    have tc1 := BlkV.cell kT 1 rfl
    have tc2 := BlkV.cell kT 2 rfl
    have ic0 := BlkV.cell kI 0 rfl
    have ic1 := BlkV.cell kI 1 rfl
    have xc0 := BlkV.cell kX 0 rfl
    have xc1 := BlkV.cell kX 1 rfl
    have xc2 := BlkV.cell kX 2 rfl
    have jc0 := BlkV.cell kJ 0 rfl
    have jc1 := BlkV.cell kJ 1 rfl
    go_wp2_with fail
    clear hHeld
    refine hK.out _ _ ⟨by with_reducible assumption, by with_reducible assumption, by with_reducible assumption, by with_reducible assumption, by with_reducible assumption, by with_reducible assumption, by with_reducible assumption, by with_reducible assumption, by with_reducible assumption, by with_reducible assumption, by with_reducible assumption, by with_reducible assumption, by with_reducible assumption⟩ (fun hHeld => ?_)
    clear hK K
    try simp only [Act.put, List.setIfInBounds_toArray, List.set_cons_zero, List.set_cons_succ]
    refine wpAnyH_take (i := 2) (oi := ?oi2_2) (v := ?vv2_2) ?hi2_2 (by kernel_rfl) (by kernel_rfl) (by kernel_rfl) ?hq2_2 ?hy2_2 hHeld ?rest2_2
    case hi2_2 => (simp only [List.getElem?_toArray, List.getElem?_cons_succ, List.getElem?_cons_zero]; rfl)
    case hq2_2 => exact fun _ _ _ h => h
    case hy2_2 =>
      refine Or.inl ⟨by rfl, ?_⟩
      intro wS hSw
      try dsimp only at hSw
      obtain ⟨q0, q1, q2, q3, q4, q5, q6, q7, q8, q9, q10, q11, q12⟩ := hSw
      go_simp
      try with_reducible rfl
    simp only [Act.put, List.setIfInBounds_toArray, List.set_cons_zero, List.set_cons_succ]
    refine wpAnyH_take (i := 3) (oi := ?oi3_3) (v := ?vv3_3) ?hi3_3 (by kernel_rfl) (by kernel_rfl) (by kernel_rfl) ?hq3_3 ?hy3_3 hHeld ?rest3_3
    case hi3_3 => (simp only [List.getElem?_toArray, List.getElem?_cons_succ, List.getElem?_cons_zero]; rfl)
    case hq3_3 => exact fun _ _ _ h => h
    case hy3_3 =>
      refine Or.inl ⟨by rfl, ?_⟩
      intro wS hSw
      try dsimp only at hSw
      obtain ⟨q0, q1, q2, q3, q4, q5, q6, q7, q8, q9, q10, q11, q12⟩ := hSw
      go_simp
      try with_reducible rfl
    simp only [Act.put, List.setIfInBounds_toArray, List.set_cons_zero, List.set_cons_succ]
    refine wpAnyH_take (i := 4) (oi := ?oi4_4) (v := ?vv4_4) ?hi4_4 (by kernel_rfl) (by kernel_rfl) (by kernel_rfl) ?hq4_4 ?hy4_4 hHeld ?rest4_4
    case hi4_4 => (simp only [List.getElem?_toArray, List.getElem?_cons_succ, List.getElem?_cons_zero]; rfl)
    case hq4_4 => exact fun _ _ _ h => h
    case hy4_4 =>
      refine Or.inl ⟨by rfl, ?_⟩
      intro wS hSw
      try dsimp only at hSw
      obtain ⟨q0, q1, q2, q3, q4, q5, q6, q7, q8, q9, q10, q11, q12⟩ := hSw
      go_simp
      try with_reducible rfl
    simp only [Act.put, List.setIfInBounds_toArray, List.set_cons_zero, List.set_cons_succ]
    refine wpAnyH_ready (rs := [5]) (by kernel_rfl) (by simp) ?_
    refine AllReadyH.cons rfl (fun K hK => ?_) AllReadyH.nil
    go_simp
    refine (ch _ _ hF HV.out).mono ?_
    rintro e w52 ⟨rfl, hf52⟩
    have HV' := hid (RV.fwd HV.out hf52)
    clear HV
    have HV := HV'
    clear HV'
    have HX' := hid (RV.fwd HX.out hf52)
    clear HX
    have HX := HX'
    clear HX'
    replace kA := kA.fwd hf52
    replace kT := kT.fwd hf52
    replace kI := kI.fwd hf52
    replace kX := kX.fwd hf52
    replace kJ := kJ.fwd hf52
    replace hF := hF.trans hf52
    clear hf52
    clear ac0 ac1 ac2
    clear tc0 tc1 tc2
    clear ic0 ic1
    clear xc0 xc1 xc2
    clear jc0 jc1
    have ac0 := BlkV.cell kA 0 rfl
    have ac1 := BlkV.cell kA 1 rfl
    have ac2 := BlkV.cell kA 2 rfl
    have tc0 := BlkV.cell kT 0 rfl
    have tc1 := BlkV.cell kT 1 rfl
    have tc2 := BlkV.cell kT 2 rfl
    have ic0 := BlkV.cell kI 0 rfl
    have ic1 := BlkV.cell kI 1 rfl
    have xc0 := BlkV.cell kX 0 rfl
    have xc1 := BlkV.cell kX 1 rfl
    have xc2 := BlkV.cell kX 2 rfl
    have jc0 := BlkV.cell kJ 0 rfl
    have jc1 := BlkV.cell kJ 1 rfl
    go_wp2_with fail
    clear hHeld
    refine hK.out _ _ ⟨by with_reducible assumption, by with_reducible assumption, by with_reducible assumption, by with_reducible assumption, by with_reducible assumption, by with_reducible assumption, by with_reducible assumption, by with_reducible assumption, by with_reducible assumption, by with_reducible assumption, by with_reducible assumption, by with_reducible assumption, by with_reducible assumption⟩ (fun hHeld => ?_)
    clear hK K
    try simp only [Act.put, List.setIfInBounds_toArray, List.set_cons_zero, List.set_cons_succ]
    refine wpAnyH_take (i := 6) (oi := ?oi5_6) (v := ?vv5_6) ?hi5_6 (by kernel_rfl) (by kernel_rfl) (by kernel_rfl) ?hq5_6 ?hy5_6 hHeld ?rest5_6
    case hi5_6 => (simp only [List.getElem?_toArray, List.getElem?_cons_succ, List.getElem?_cons_zero]; rfl)
    case hq5_6 => exact fun _ _ _ h => h
    case hy5_6 =>
      refine Or.inl ⟨by rfl, ?_⟩
      intro wS hSw
      try dsimp only at hSw
      obtain ⟨q0, q1, q2, q3, q4, q5, q6, q7, q8, q9, q10, q11, q12⟩ := hSw
      go_simp
      try with_reducible rfl
    simp only [Act.put, List.setIfInBounds_toArray, List.set_cons_zero, List.set_cons_succ]
    refine wpAnyH_take (i := 7) (oi := ?oi6_7) (v := ?vv6_7) ?hi6_7 (by kernel_rfl) (by kernel_rfl) (by kernel_rfl) ?hq6_7 ?hy6_7 hHeld ?rest6_7
    case hi6_7 => (simp only [List.getElem?_toArray, List.getElem?_cons_succ, List.getElem?_cons_zero]; rfl)
    case hq6_7 => exact fun _ _ _ h => h
    case hy6_7 =>
      refine Or.inl ⟨by rfl, ?_⟩
      intro wS hSw
      try dsimp only at hSw
      obtain ⟨q0, q1, q2, q3, q4, q5, q6, q7, q8, q9, q10, q11, q12⟩ := hSw
      go_simp
      try with_reducible rfl
    simp only [Act.put, List.setIfInBounds_toArray, List.set_cons_zero, List.set_cons_succ]
    refine wpAnyH_take (i := 8) (oi := ?oi7_8) (v := ?vv7_8) ?hi7_8 (by kernel_rfl) (by kernel_rfl) (by kernel_rfl) ?hq7_8 ?hy7_8 hHeld ?rest7_8
    case hi7_8 => (simp only [List.getElem?_toArray, List.getElem?_cons_succ, List.getElem?_cons_zero]; rfl)
    case hq7_8 => exact fun _ _ _ h => h
    case hy7_8 =>
      refine Or.inl ⟨by rfl, ?_⟩
      intro wS hSw
      try dsimp only at hSw
      obtain ⟨q0, q1, q2, q3, q4, q5, q6, q7, q8, q9, q10, q11, q12⟩ := hSw
      go_simp
      try with_reducible rfl
    simp only [Act.put, List.setIfInBounds_toArray, List.set_cons_zero, List.set_cons_succ]
    refine wpAnyH_take (i := 9) (oi := ?oi8_9) (v := ?vv8_9) ?hi8_9 (by kernel_rfl) (by kernel_rfl) (by kernel_rfl) ?hq8_9 ?hy8_9 hHeld ?rest8_9
    case hi8_9 => (simp only [List.getElem?_toArray, List.getElem?_cons_succ, List.getElem?_cons_zero]; rfl)
    case hq8_9 => exact fun _ _ _ h => h
    case hy8_9 =>
      refine Or.inl ⟨by rfl, ?_⟩
      intro wS hSw
      try dsimp only at hSw
      obtain ⟨q0, q1, q2, q3, q4, q5, q6, q7, q8, q9, q10, q11, q12⟩ := hSw
      go_simp
      try with_reducible rfl
    simp only [Act.put, List.setIfInBounds_toArray, List.set_cons_zero, List.set_cons_succ]
    refine wpAnyH_take (i := 10) (oi := ?oi9_10) (v := ?vv9_10) ?hi9_10 (by kernel_rfl) (by kernel_rfl) (by kernel_rfl) ?hq9_10 ?hy9_10 hHeld ?rest9_10
    case hi9_10 => (simp only [List.getElem?_toArray, List.getElem?_cons_succ, List.getElem?_cons_zero]; rfl)
    case hq9_10 => exact fun _ _ _ h => h
    case hy9_10 =>
      refine Or.inl ⟨by rfl, ?_⟩
      intro wS hSw
      try dsimp only at hSw
      obtain ⟨q0, q1, q2, q3, q4, q5, q6, q7, q8, q9, q10, q11, q12⟩ := hSw
      go_simp
      try with_reducible rfl
    simp only [Act.put, List.setIfInBounds_toArray, List.set_cons_zero, List.set_cons_succ]
    refine wpAnyH_take (i := 11) (oi := ?oi10_11) (v := ?vv10_11) ?hi10_11 (by kernel_rfl) (by kernel_rfl) (by kernel_rfl) ?hq10_11 ?hy10_11 hHeld ?rest10_11
    case hi10_11 => (simp only [List.getElem?_toArray, List.getElem?_cons_succ, List.getElem?_cons_zero]; rfl)
    case hq10_11 => exact fun _ _ _ h => h
    case hy10_11 =>
      refine Or.inl ⟨by rfl, ?_⟩
      intro wS hSw
      try dsimp only at hSw
      obtain ⟨q0, q1, q2, q3, q4, q5, q6, q7, q8, q9, q10, q11, q12⟩ := hSw
      go_simp
      try with_reducible rfl
    simp only [Act.put, List.setIfInBounds_toArray, List.set_cons_zero, List.set_cons_succ]
    refine wpAnyH_take (i := 12) (oi := ?oi11_12) (v := ?vv11_12) ?hi11_12 (by kernel_rfl) (by kernel_rfl) (by kernel_rfl) ?hq11_12 ?hy11_12 hHeld ?rest11_12
    case hi11_12 => (simp only [List.getElem?_toArray, List.getElem?_cons_succ, List.getElem?_cons_zero]; rfl)
    case hq11_12 => exact fun _ _ _ h => h
    case hy11_12 =>
      refine Or.inl ⟨by rfl, ?_⟩
      intro wS hSw
      try dsimp only at hSw
      obtain ⟨q0, q1, q2, q3, q4, q5, q6, q7, q8, q9, q10, q11, q12⟩ := hSw
      go_simp
      try with_reducible rfl
    simp only [Act.put, List.setIfInBounds_toArray, List.set_cons_zero, List.set_cons_succ]
    refine wpAnyH_take (i := 13) (oi := ?oi12_13) (v := ?vv12_13) ?hi12_13 (by kernel_rfl) (by kernel_rfl) (by kernel_rfl) ?hq12_13 ?hy12_13 hHeld ?rest12_13
    case hi12_13 => (simp only [List.getElem?_toArray, List.getElem?_cons_succ, List.getElem?_cons_zero]; rfl)
    case hq12_13 => exact fun _ _ _ h => h
    case hy12_13 =>
      refine Or.inl ⟨by rfl, ?_⟩
      intro wS hSw
      try dsimp only at hSw
      obtain ⟨q0, q1, q2, q3, q4, q5, q6, q7, q8, q9, q10, q11, q12⟩ := hSw
      go_simp
      try with_reducible rfl
    simp only [Act.put, List.setIfInBounds_toArray, List.set_cons_zero, List.set_cons_succ]
    refine wpAnyH_take (i := 14) (oi := ?oi13_14) (v := undef) ?hi13_14 (by kernel_rfl) (by kernel_rfl) (by kernel_rfl) ?hq13_14 ?hy13_14 hHeld ?rest13_14
    case hi13_14 => (simp only [List.getElem?_toArray, List.getElem?_cons_succ, List.getElem?_cons_zero]; rfl)
    case hq13_14 => exact fun _ _ _ h => h
    case hy13_14 => exact Or.inr ⟨by rfl, rfl⟩
    simp only [Act.put, List.setIfInBounds_toArray, List.set_cons_zero, List.set_cons_succ]
    refine wpAnyH_take (i := 15) (oi := ?oi14_15) (v := undef) ?hi14_15 (by kernel_rfl) (by kernel_rfl) (by kernel_rfl) ?hq14_15 ?hy14_15 hHeld ?rest14_15
    case hi14_15 => (simp only [List.getElem?_toArray, List.getElem?_cons_succ, List.getElem?_cons_zero]; rfl)
    case hq14_15 => exact fun _ _ _ h => h
    case hy14_15 => exact Or.inr ⟨by rfl, rfl⟩
    simp only [Act.put, List.setIfInBounds_toArray, List.set_cons_zero, List.set_cons_succ]
    refine wpAnyH_take (i := 16) (oi := ?oi15_16) (v := undef) ?hi15_16 (by kernel_rfl) (by kernel_rfl) (by kernel_rfl) ?hq15_16 ?hy15_16 hHeld ?rest15_16
    case hi15_16 => (simp only [List.getElem?_toArray, List.getElem?_cons_succ, List.getElem?_cons_zero]; rfl)
    case hq15_16 => exact fun _ _ _ h => h
    case hy15_16 => exact Or.inr ⟨by rfl, rfl⟩
    simp only [Act.put, List.setIfInBounds_toArray, List.set_cons_zero, List.set_cons_succ]
    refine wpAnyH_take (i := 17) (oi := ?oi16_17) (v := undef) ?hi16_17 (by kernel_rfl) (by kernel_rfl) (by kernel_rfl) ?hq16_17 ?hy16_17 hHeld ?rest16_17
    case hi16_17 => (simp only [List.getElem?_toArray, List.getElem?_cons_succ, List.getElem?_cons_zero]; rfl)
    case hq16_17 => exact fun _ _ _ h => h
    case hy16_17 => exact Or.inr ⟨by rfl, rfl⟩
    simp only [Act.put, List.setIfInBounds_toArray, List.set_cons_zero, List.set_cons_succ]
    refine wpAnyH_take (i := 18) (oi := ?oi17_18) (v := undef) ?hi17_18 (by kernel_rfl) (by kernel_rfl) (by kernel_rfl) ?hq17_18 ?hy17_18 hHeld ?rest17_18
    case hi17_18 => (simp only [List.getElem?_toArray, List.getElem?_cons_succ, List.getElem?_cons_zero]; rfl)
    case hq17_18 => exact fun _ _ _ h => h
    case hy17_18 => exact Or.inr ⟨by rfl, rfl⟩
    simp only [Act.put, List.setIfInBounds_toArray, List.set_cons_zero, List.set_cons_succ]
    refine wpAnyH_take (i := 19) (oi := ?oi18_19) (v := undef) ?hi18_19 (by kernel_rfl) (by kernel_rfl) (by kernel_rfl) ?hq18_19 ?hy18_19 hHeld ?rest18_19
    case hi18_19 => (simp only [List.getElem?_toArray, List.getElem?_cons_succ, List.getElem?_cons_zero]; rfl)
    case hq18_19 => exact fun _ _ _ h => h
    case hy18_19 => exact Or.inr ⟨by rfl, rfl⟩
    simp only [Act.put, List.setIfInBounds_toArray, List.set_cons_zero, List.set_cons_succ]
    refine wpAnyH_take (i := 20) (oi := ?oi19_20) (v := ?vv19_20) ?hi19_20 (by kernel_rfl) (by kernel_rfl) (by kernel_rfl) ?hq19_20 ?hy19_20 hHeld ?rest19_20
    case hi19_20 => (simp only [List.getElem?_toArray, List.getElem?_cons_succ, List.getElem?_cons_zero]; rfl)
    case hq19_20 => exact fun _ _ _ h => h
    case hy19_20 =>
      refine Or.inl ⟨by rfl, ?_⟩
      intro wS hSw
      try dsimp only at hSw
      obtain ⟨q0, q1, q2, q3, q4, q5, q6, q7, q8, q9, q10, q11, q12⟩ := hSw
      go_simp
      try with_reducible rfl
    simp only [Act.put, List.setIfInBounds_toArray, List.set_cons_zero, List.set_cons_succ]
    refine wpAnyH_take (i := 21) (oi := ?oi20_21) (v := ?vv20_21) ?hi20_21 (by kernel_rfl) (by kernel_rfl) (by kernel_rfl) ?hq20_21 ?hy20_21 hHeld ?rest20_21
    case hi20_21 => (simp only [List.getElem?_toArray, List.getElem?_cons_succ, List.getElem?_cons_zero]; rfl)
    case hq20_21 => exact fun _ _ _ h => h
    case hy20_21 =>
      refine Or.inl ⟨by rfl, ?_⟩
      intro wS hSw
      try dsimp only at hSw
      obtain ⟨q0, q1, q2, q3, q4, q5, q6, q7, q8, q9, q10, q11, q12⟩ := hSw
      go_simp
      try with_reducible rfl
    simp only [Act.put, List.setIfInBounds_toArray, List.set_cons_zero, List.set_cons_succ]
    refine wpAnyH_take (i := 22) (oi := ?oi21_22) (v := ?vv21_22) ?hi21_22 (by kernel_rfl) (by kernel_rfl) (by kernel_rfl) ?hq21_22 ?hy21_22 hHeld ?rest21_22
    case hi21_22 => (simp only [List.getElem?_toArray, List.getElem?_cons_succ, List.getElem?_cons_zero]; rfl)
    case hq21_22 => exact fun _ _ _ h => h
    case hy21_22 =>
      refine Or.inl ⟨by rfl, ?_⟩
      intro wS hSw
      try dsimp only at hSw
      obtain ⟨q0, q1, q2, q3, q4, q5, q6, q7, q8, q9, q10, q11, q12⟩ := hSw
      go_simp
      try with_reducible rfl
    simp only [Act.put, List.setIfInBounds_toArray, List.set_cons_zero, List.set_cons_succ]
    refine wpAnyH_take (i := 23) (oi := ?oi22_23) (v := ?vv22_23) ?hi22_23 (by kernel_rfl) (by kernel_rfl) (by kernel_rfl) ?hq22_23 ?hy22_23 hHeld ?rest22_23
    case hi22_23 => (simp only [List.getElem?_toArray, List.getElem?_cons_succ, List.getElem?_cons_zero]; rfl)
    case hq22_23 => exact fun _ _ _ h => h
    case hy22_23 =>
      refine Or.inl ⟨by rfl, ?_⟩
      intro wS hSw
      try dsimp only at hSw
      obtain ⟨q0, q1, q2, q3, q4, q5, q6, q7, q8, q9, q10, q11, q12⟩ := hSw
      go_simp
      try with_reducible rfl
    simp only [Act.put, List.setIfInBounds_toArray, List.set_cons_zero, List.set_cons_succ]
    refine wpAnyH_take (i := 24) (oi := ?oi23_24) (v := ?vv23_24) ?hi23_24 (by kernel_rfl) (by kernel_rfl) (by kernel_rfl) ?hq23_24 ?hy23_24 hHeld ?rest23_24
    case hi23_24 => (simp only [List.getElem?_toArray, List.getElem?_cons_succ, List.getElem?_cons_zero]; rfl)
    case hq23_24 => exact fun _ _ _ h => h
    case hy23_24 =>
      refine Or.inl ⟨by rfl, ?_⟩
      intro wS hSw
      try dsimp only at hSw
      obtain ⟨q0, q1, q2, q3, q4, q5, q6, q7, q8, q9, q10, q11, q12⟩ := hSw
      go_simp
      try with_reducible rfl
    simp only [Act.put, List.setIfInBounds_toArray, List.set_cons_zero, List.set_cons_succ]
    refine wpAnyH_take (i := 25) (oi := ?oi24_25) (v := ?vv24_25) ?hi24_25 (by kernel_rfl) (by kernel_rfl) (by kernel_rfl) ?hq24_25 ?hy24_25 hHeld ?rest24_25
    case hi24_25 => (simp only [List.getElem?_toArray, List.getElem?_cons_succ, List.getElem?_cons_zero]; rfl)
    case hq24_25 => exact fun _ _ _ h => h
    case hy24_25 =>
      refine Or.inl ⟨by rfl, ?_⟩
      intro wS hSw
      try dsimp only at hSw
      obtain ⟨q0, q1, q2, q3, q4, q5, q6, q7, q8, q9, q10, q11, q12⟩ := hSw
      go_simp
      try with_reducible rfl
    simp only [Act.put, List.setIfInBounds_toArray, List.set_cons_zero, List.set_cons_succ]
    refine wpAnyH_take (i := 26) (oi := ?oi25_26) (v := ?vv25_26) ?hi25_26 (by kernel_rfl) (by kernel_rfl) (by kernel_rfl) ?hq25_26 ?hy25_26 hHeld ?rest25_26
    case hi25_26 => (simp only [List.getElem?_toArray, List.getElem?_cons_succ, List.getElem?_cons_zero]; rfl)
    case hq25_26 => exact fun _ _ _ h => h
    case hy25_26 =>
      refine Or.inl ⟨by rfl, ?_⟩
      intro wS hSw
      try dsimp only at hSw
      obtain ⟨q0, q1, q2, q3, q4, q5, q6, q7, q8, q9, q10, q11, q12⟩ := hSw
      go_simp
      try with_reducible rfl
    simp only [Act.put, List.setIfInBounds_toArray, List.set_cons_zero, List.set_cons_succ]
    refine wpAnyH_take (i := 27) (oi := ?oi26_27) (v := ?vv26_27) ?hi26_27 (by kernel_rfl) (by kernel_rfl) (by kernel_rfl) ?hq26_27 ?hy26_27 hHeld ?rest26_27
    case hi26_27 => (simp only [List.getElem?_toArray, List.getElem?_cons_succ, List.getElem?_cons_zero]; rfl)
    case hq26_27 => exact fun _ _ _ h => h
    case hy26_27 =>
      refine Or.inl ⟨by rfl, ?_⟩
      intro wS hSw
      try dsimp only at hSw
      obtain ⟨q0, q1, q2, q3, q4, q5, q6, q7, q8, q9, q10, q11, q12⟩ := hSw
      go_simp
      try with_reducible rfl
    simp only [Act.put, List.setIfInBounds_toArray, List.set_cons_zero, List.set_cons_succ]
    refine wpAnyH_take (i := 28) (oi := ?oi27_28) (v := ?vv27_28) ?hi27_28 (by kernel_rfl) (by kernel_rfl) (by kernel_rfl) ?hq27_28 ?hy27_28 hHeld ?rest27_28
    case hi27_28 => (simp only [List.getElem?_toArray, List.getElem?_cons_succ, List.getElem?_cons_zero]; rfl)
    case hq27_28 => exact fun _ _ _ h => h
    case hy27_28 =>
      refine Or.inl ⟨by rfl, ?_⟩
      intro wS hSw
      try dsimp only at hSw
      obtain ⟨q0, q1, q2, q3, q4, q5, q6, q7, q8, q9, q10, q11, q12⟩ := hSw
      go_simp
      try with_reducible rfl
    simp only [Act.put, List.setIfInBounds_toArray, List.set_cons_zero, List.set_cons_succ]
    refine wpAnyH_take (i := 29) (oi := ?oi28_29) (v := ?vv28_29) ?hi28_29 (by kernel_rfl) (by kernel_rfl) (by kernel_rfl) ?hq28_29 ?hy28_29 hHeld ?rest28_29
    case hi28_29 => (simp only [List.getElem?_toArray, List.getElem?_cons_succ, List.getElem?_cons_zero]; rfl)
    case hq28_29 => exact fun _ _ _ h => h
    case hy28_29 =>
      refine Or.inl ⟨by rfl, ?_⟩
      intro wS hSw
      try dsimp only at hSw
      obtain ⟨q0, q1, q2, q3, q4, q5, q6, q7, q8, q9, q10, q11, q12⟩ := hSw
      go_simp
      try with_reducible rfl
    simp only [Act.put, List.setIfInBounds_toArray, List.set_cons_zero, List.set_cons_succ]
    refine wpAnyH_take (i := 30) (oi := ?oi29_30) (v := ?vv29_30) ?hi29_30 (by kernel_rfl) (by kernel_rfl) (by kernel_rfl) ?hq29_30 ?hy29_30 hHeld ?rest29_30
    case hi29_30 => (simp only [List.getElem?_toArray, List.getElem?_cons_succ, List.getElem?_cons_zero]; rfl)
    case hq29_30 => exact fun _ _ _ h => h
    case hy29_30 =>
      refine Or.inl ⟨by rfl, ?_⟩
      intro wS hSw
      try dsimp only at hSw
      obtain ⟨q0, q1, q2, q3, q4, q5, q6, q7, q8, q9, q10, q11, q12⟩ := hSw
      go_simp
      try with_reducible rfl
    simp only [Act.put, List.setIfInBounds_toArray, List.set_cons_zero, List.set_cons_succ]
    refine wpAnyH_take (i := 31) (oi := ?oi30_31) (v := ?vv30_31) ?hi30_31 (by kernel_rfl) (by kernel_rfl) (by kernel_rfl) ?hq30_31 ?hy30_31 hHeld ?rest30_31
    case hi30_31 => (simp only [List.getElem?_toArray, List.getElem?_cons_succ, List.getElem?_cons_zero]; rfl)
    case hq30_31 => exact fun _ _ _ h => h
    case hy30_31 =>
      refine Or.inl ⟨by rfl, ?_⟩
      intro wS hSw
      try dsimp only at hSw
      obtain ⟨q0, q1, q2, q3, q4, q5, q6, q7, q8, q9, q10, q11, q12⟩ := hSw
      go_simp
      try with_reducible rfl
    simp only [Act.put, List.setIfInBounds_toArray, List.set_cons_zero, List.set_cons_succ]
    refine wpAnyH_ready (rs := [32]) (by kernel_rfl) (by simp) ?_
    refine AllReadyH.cons rfl (fun K hK => ?_) AllReadyH.nil
    go_simp
    refine (dh _ _ hF HX.out).mono ?_
    rintro e w53 ⟨rfl, hf53⟩
    have HV' := hid (RV.fwd HV.out hf53)
    clear HV
    have HV := HV'
    clear HV'
    have HX' := hid (RV.fwd HX.out hf53)
    clear HX
    have HX := HX'
    clear HX'
    replace kA := kA.fwd hf53
    replace kT := kT.fwd hf53
    replace kI := kI.fwd hf53
    replace kX := kX.fwd hf53
    replace kJ := kJ.fwd hf53
    replace hF := hF.trans hf53
    clear hf53
    clear ac0 ac1 ac2
    clear tc0 tc1 tc2
    clear ic0 ic1
    clear xc0 xc1 xc2
    clear jc0 jc1
    have ac0 := BlkV.cell kA 0 rfl
    have ac1 := BlkV.cell kA 1 rfl
    have ac2 := BlkV.cell kA 2 rfl
    have tc0 := BlkV.cell kT 0 rfl
    have tc1 := BlkV.cell kT 1 rfl
    have tc2 := BlkV.cell kT 2 rfl
    have ic0 := BlkV.cell kI 0 rfl
    have ic1 := BlkV.cell kI 1 rfl
    have xc0 := BlkV.cell kX 0 rfl
    have xc1 := BlkV.cell kX 1 rfl
    have xc2 := BlkV.cell kX 2 rfl
    have jc0 := BlkV.cell kJ 0 rfl
    have jc1 := BlkV.cell kJ 1 rfl
    go_wp2_with fail
    clear hHeld
    refine hK.out _ _ ⟨by with_reducible assumption, by with_reducible assumption, by with_reducible assumption, by with_reducible assumption, by with_reducible assumption, by with_reducible assumption, by with_reducible assumption, by with_reducible assumption, by with_reducible assumption, by with_reducible assumption, by with_reducible assumption, by with_reducible assumption, by with_reducible assumption⟩ (fun hHeld => ?_)
    clear hK K
    try simp only [Act.put, List.setIfInBounds_toArray, List.set_cons_zero, List.set_cons_succ]
    refine wpAnyH_take (i := 33) (oi := ?oi31_33) (v := ?vv31_33) ?hi31_33 (by kernel_rfl) (by kernel_rfl) (by kernel_rfl) ?hq31_33 ?hy31_33 hHeld ?rest31_33
    case hi31_33 => (simp only [List.getElem?_toArray, List.getElem?_cons_succ, List.getElem?_cons_zero]; rfl)
    case hq31_33 => exact fun _ _ _ h => h
    case hy31_33 =>
      refine Or.inl ⟨by rfl, ?_⟩
      intro wS hSw
      try dsimp only at hSw
      obtain ⟨q0, q1, q2, q3, q4, q5, q6, q7, q8, q9, q10, q11, q12⟩ := hSw
      go_simp
      try with_reducible rfl
    simp only [Act.put, List.setIfInBounds_toArray, List.set_cons_zero, List.set_cons_succ]
    refine wpAnyH_take (i := 34) (oi := ?oi32_34) (v := ?vv32_34) ?hi32_34 (by kernel_rfl) (by kernel_rfl) (by kernel_rfl) ?hq32_34 ?hy32_34 hHeld ?rest32_34
    case hi32_34 => (simp only [List.getElem?_toArray, List.getElem?_cons_succ, List.getElem?_cons_zero]; rfl)
    case hq32_34 => exact fun _ _ _ h => h
    case hy32_34 =>
      refine Or.inl ⟨by rfl, ?_⟩
      intro wS hSw
      try dsimp only at hSw
      obtain ⟨q0, q1, q2, q3, q4, q5, q6, q7, q8, q9, q10, q11, q12⟩ := hSw
      go_simp
      try with_reducible rfl
    simp only [Act.put, List.setIfInBounds_toArray, List.set_cons_zero, List.set_cons_succ]
    refine wpAnyH_done (by kernel_rfl) ?_ _
    go_wp2
    go_ret
    exact ⟨rfl, hF⟩
  · have i1 : ((lo : Int) == (hi : Int)) = false := by have : (lo : Int) ≠ (hi : Int) := (by omega); simpa using this
    have e := hN.1.resolve_left c
    rw [e] at cn
    clear c e hN jN
    have cn' := fun (w : World) => (cn w).mono (fun e w' h => And.intro h.1 (fwd_is h.2))
    replace kA := kA.drew
    replace kT := kT.drew
    replace kI := kI.drew
    replace kX := kX.drew
    replace kJ := kJ.drew
    replace hF := hF.drew
    clear ac0 az0 ac1 az1 ac2 az2
    clear tc0 tz0 tc1 tz1 tc2 tz2
    clear ic0 iz0 ic1 iz1
    clear xc0 xz0 xc1 xz1 xc2 xz2
    clear jc0 jz0 jc1 jz1
    have ac0 := BlkV.cell kA 0 rfl
    have ac1 := BlkV.cell kA 1 rfl
    have ac2 := BlkV.cell kA 2 rfl
    have tc0 := BlkV.cell kT 0 rfl
    have tc1 := BlkV.cell kT 1 rfl
    have tc2 := BlkV.cell kT 2 rfl
    have ic0 := BlkV.cell kI 0 rfl
    have ic1 := BlkV.cell kI 1 rfl
    have xc0 := BlkV.cell kX 0 rfl
    have xc1 := BlkV.cell kX 1 rfl
    have xc2 := BlkV.cell kX 2 rfl
    have jc0 := BlkV.cell kJ 0 rfl
    have jc1 := BlkV.cell kJ 1 rfl
    refine wp_region_held_drew (S := fun w' => w'.cell? ⟨w.heap.size, 0, none⟩ = some (.bool sa) ∧ w'.cell? ⟨w.heap.size, 1, none⟩ = some (vN) ∧ w'.cell? ⟨w.heap.size, 2, none⟩ = some (vD) ∧ w'.cell? ⟨u2.heap.size, 0, none⟩ = some (.bool (negQ q)) ∧ w'.cell? ⟨u2.heap.size, 1, none⟩ = some (.slice po (nl q.num.natAbs) pc) ∧ w'.cell? ⟨u2.heap.size, 2, none⟩ = some (.slice qo (nl q.den) qc) ∧ w'.cell? ⟨u3.heap.size, 0, none⟩ = some (.int .u64 lo) ∧ w'.cell? ⟨u3.heap.size, 1, none⟩ = some (.int .u64 hi) ∧ w'.cell? ⟨u5.heap.size, 0, none⟩ = some (.bool (negQ p)) ∧ w'.cell? ⟨u5.heap.size, 1, none⟩ = some (.slice ro (nl p.num.natAbs) rc) ∧ w'.cell? ⟨u5.heap.size, 2, none⟩ = some (.slice so (nl p.den) sc) ∧ w'.cell? ⟨u6.heap.size, 0, none⟩ = some (.int .u64 jl) ∧ w'.cell? ⟨u6.heap.size, 1, none⟩ = some (.int .u64 jl)) (by kernel_rfl) ⟨by with_reducible assumption, by with_reducible assumption, by with_reducible assumption, by with_reducible assumption, by with_reducible assumption, by with_reducible assumption, by with_reducible assumption, by with_reducible assumption, by with_reducible assumption, by with_reducible assumption, by with_reducible assumption, by with_reducible assumption, by with_reducible assumption⟩ (fun hHeld => ?_)
    refine wpAnyH_take (i := 0) (oi := ?oi33_0) (v := ?vv33_0) ?hi33_0 (by kernel_rfl) (by kernel_rfl) (by kernel_rfl) ?hq33_0 ?hy33_0 hHeld ?rest33_0
    case hi33_0 => (simp only [List.getElem?_toArray, List.getElem?_cons_succ, List.getElem?_cons_zero]; rfl)
    case hq33_0 => exact fun _ _ _ h => h
    case hy33_0 =>
      refine Or.inl ⟨by rfl, ?_⟩
      intro wS hSw
      try dsimp only at hSw
      obtain ⟨q0, q1, q2, q3, q4, q5, q6, q7, q8, q9, q10, q11, q12⟩ := hSw
      go_simp
      try with_reducible rfl
    simp only [Act.put, List.setIfInBounds_toArray, List.set_cons_zero, List.set_cons_succ]
    refine wpAnyH_ready (rs := [1]) (by kernel_rfl) (by simp) ?_
    refine AllReadyH.cons rfl (fun K hK => ?_) AllReadyH.nil
    go_simp
    refine (cr _).mono ?_
    rintro e w51 ⟨rfl, hf51⟩
    have HV' := hid (RV.fwd HV.out hf51)
    clear HV
    have HV := HV'
    clear HV'
    have HX' := hid (RV.fwd HX.out hf51)
    clear HX
    have HX := HX'
    clear HX'
    replace kA := kA.fwd hf51
    replace kT := kT.fwd hf51
    replace kI := kI.fwd hf51
    replace kX := kX.fwd hf51
    replace kJ := kJ.fwd hf51
    replace hF := hF.trans hf51
    clear hf51
    clear ac0 ac1 ac2
    clear tc0 tc1 tc2
    clear ic0 ic1
    clear xc0 xc1 xc2
    clear jc0 jc1
    have ac0 := BlkV.cell kA 0 rfl
    have ac1 := BlkV.cell kA 1 rfl
    have ac2 := BlkV.cell kA 2 rfl
    have tc0 := BlkV.cell kT 0 rfl
    have tc1 := BlkV.cell kT 1 rfl
    have tc2 := BlkV.cell kT 2 rfl
    have ic0 := BlkV.cell kI 0 rfl
    have ic1 := BlkV.cell kI 1 rfl
    have xc0 := BlkV.cell kX 0 rfl
    have xc1 := BlkV.cell kX 1 rfl
    have xc2 := BlkV.cell kX 2 rfl
    have jc0 := BlkV.cell kJ 0 rfl
    have jc1 := BlkV.cell kJ 1 rfl
    go_wp2_with fail
    clear hHeld
    refine hK.out _ _ ⟨by with_reducible assumption, by with_reducible assumption, by with_reducible assumption, by with_reducible assumption, by with_reducible assumption, by with_reducible assumption, by with_reducible assumption, by with_reducible assumption, by with_reducible assumption, by with_reducible assumption, by with_reducible assumption, by with_reducible assumption, by with_reducible assumption⟩ (fun hHeld => ?_)
    clear hK K
    try simp only [Act.put, List.setIfInBounds_toArray, List.set_cons_zero, List.set_cons_succ]
    refine wpAnyH_take (i := 2) (oi := ?oi34_2) (v := ?vv34_2) ?hi34_2 (by kernel_rfl) (by kernel_rfl) (by kernel_rfl) ?hq34_2 ?hy34_2 hHeld ?rest34_2
    case hi34_2 => (simp only [List.getElem?_toArray, List.getElem?_cons_succ, List.getElem?_cons_zero]; rfl)
    case hq34_2 => exact fun _ _ _ h => h
    case hy34_2 =>
      refine Or.inl ⟨by rfl, ?_⟩
      intro wS hSw
      try dsimp only at hSw
      obtain ⟨q0, q1, q2, q3, q4, q5, q6, q7, q8, q9, q10, q11, q12⟩ := hSw
      go_simp
      try with_reducible rfl
    simp only [Act.put, List.setIfInBounds_toArray, List.set_cons_zero, List.set_cons_succ]
    refine wpAnyH_take (i := 3) (oi := ?oi35_3) (v := ?vv35_3) ?hi35_3 (by kernel_rfl) (by kernel_rfl) (by kernel_rfl) ?hq35_3 ?hy35_3 hHeld ?rest35_3
    case hi35_3 => (simp only [List.getElem?_toArray, List.getElem?_cons_succ, List.getElem?_cons_zero]; rfl)
    case hq35_3 => exact fun _ _ _ h => h
    case hy35_3 =>
      refine Or.inl ⟨by rfl, ?_⟩
      intro wS hSw
      try dsimp only at hSw
      obtain ⟨q0, q1, q2, q3, q4, q5, q6, q7, q8, q9, q10, q11, q12⟩ := hSw
      go_simp
      try with_reducible rfl
    simp only [Act.put, List.setIfInBounds_toArray, List.set_cons_zero, List.set_cons_succ]
    refine wpAnyH_take (i := 4) (oi := ?oi36_4) (v := ?vv36_4) ?hi36_4 (by kernel_rfl) (by kernel_rfl) (by kernel_rfl) ?hq36_4 ?hy36_4 hHeld ?rest36_4
    case hi36_4 => (simp only [List.getElem?_toArray, List.getElem?_cons_succ, List.getElem?_cons_zero]; rfl)
    case hq36_4 => exact fun _ _ _ h => h
    case hy36_4 =>
      refine Or.inl ⟨by rfl, ?_⟩
      intro wS hSw
      try dsimp only at hSw
      obtain ⟨q0, q1, q2, q3, q4, q5, q6, q7, q8, q9, q10, q11, q12⟩ := hSw
      go_simp
      try with_reducible rfl
    simp only [Act.put, List.setIfInBounds_toArray, List.set_cons_zero, List.set_cons_succ]
    refine wpAnyH_ready (rs := [5]) (by kernel_rfl) (by simp) ?_
    refine AllReadyH.cons rfl (fun K hK => ?_) AllReadyH.nil
    go_simp
    refine (ch _ _ hF HV.out).mono ?_
    rintro e w52 ⟨rfl, hf52⟩
    have HV' := hid (RV.fwd HV.out hf52)
    clear HV
    have HV := HV'
    clear HV'
    have HX' := hid (RV.fwd HX.out hf52)
    clear HX
    have HX := HX'
    clear HX'
    replace kA := kA.fwd hf52
    replace kT := kT.fwd hf52
    replace kI := kI.fwd hf52
    replace kX := kX.fwd hf52
    replace kJ := kJ.fwd hf52
    replace hF := hF.trans hf52
    clear hf52
    clear ac0 ac1 ac2
    clear tc0 tc1 tc2
    clear ic0 ic1
    clear xc0 xc1 xc2
    clear jc0 jc1
    have ac0 := BlkV.cell kA 0 rfl
    have ac1 := BlkV.cell kA 1 rfl
    have ac2 := BlkV.cell kA 2 rfl
    have tc0 := BlkV.cell kT 0 rfl
    have tc1 := BlkV.cell kT 1 rfl
    have tc2 := BlkV.cell kT 2 rfl
    have ic0 := BlkV.cell kI 0 rfl
    have ic1 := BlkV.cell kI 1 rfl
    have xc0 := BlkV.cell kX 0 rfl
    have xc1 := BlkV.cell kX 1 rfl
    have xc2 := BlkV.cell kX 2 rfl
    have jc0 := BlkV.cell kJ 0 rfl
    have jc1 := BlkV.cell kJ 1 rfl
    go_wp2_with fail
    clear hHeld
    refine hK.out _ _ ⟨by with_reducible assumption, by with_reducible assumption, by with_reducible assumption, by with_reducible assumption, by with_reducible assumption, by with_reducible assumption, by with_reducible assumption, by with_reducible assumption, by with_reducible assumption, by with_reducible assumption, by with_reducible assumption, by with_reducible assumption, by with_reducible assumption⟩ (fun hHeld => ?_)
    clear hK K
    try simp only [Act.put, List.setIfInBounds_toArray, List.set_cons_zero, List.set_cons_succ]
    refine wpAnyH_take (i := 6) (oi := ?oi37_6) (v := ?vv37_6) ?hi37_6 (by kernel_rfl) (by kernel_rfl) (by kernel_rfl) ?hq37_6 ?hy37_6 hHeld ?rest37_6
    case hi37_6 => (simp only [List.getElem?_toArray, List.getElem?_cons_succ, List.getElem?_cons_zero]; rfl)
    case hq37_6 => exact fun _ _ _ h => h
    case hy37_6 =>
      refine Or.inl ⟨by rfl, ?_⟩
      intro wS hSw
      try dsimp only at hSw
      obtain ⟨q0, q1, q2, q3, q4, q5, q6, q7, q8, q9, q10, q11, q12⟩ := hSw
      go_simp
      try with_reducible rfl
    simp only [Act.put, List.setIfInBounds_toArray, List.set_cons_zero, List.set_cons_succ]
    refine wpAnyH_take (i := 7) (oi := ?oi38_7) (v := ?vv38_7) ?hi38_7 (by kernel_rfl) (by kernel_rfl) (by kernel_rfl) ?hq38_7 ?hy38_7 hHeld ?rest38_7
    case hi38_7 => (simp only [List.getElem?_toArray, List.getElem?_cons_succ, List.getElem?_cons_zero]; rfl)
    case hq38_7 => exact fun _ _ _ h => h
    case hy38_7 =>
      refine Or.inl ⟨by rfl, ?_⟩
      intro wS hSw
      try dsimp only at hSw
      obtain ⟨q0, q1, q2, q3, q4, q5, q6, q7, q8, q9, q10, q11, q12⟩ := hSw
      go_simp
      try with_reducible rfl
    simp only [Act.put, List.setIfInBounds_toArray, List.set_cons_zero, List.set_cons_succ]
    refine wpAnyH_take (i := 8) (oi := ?oi39_8) (v := ?vv39_8) ?hi39_8 (by kernel_rfl) (by kernel_rfl) (by kernel_rfl) ?hq39_8 ?hy39_8 hHeld ?rest39_8
    case hi39_8 => (simp only [List.getElem?_toArray, List.getElem?_cons_succ, List.getElem?_cons_zero]; rfl)
    case hq39_8 => exact fun _ _ _ h => h
    case hy39_8 =>
      refine Or.inl ⟨by rfl, ?_⟩
      intro wS hSw
      try dsimp only at hSw
      obtain ⟨q0, q1, q2, q3, q4, q5, q6, q7, q8, q9, q10, q11, q12⟩ := hSw
      go_simp
      try with_reducible rfl
    simp only [Act.put, List.setIfInBounds_toArray, List.set_cons_zero, List.set_cons_succ]
    refine wpAnyH_take (i := 9) (oi := ?oi40_9) (v := ?vv40_9) ?hi40_9 (by kernel_rfl) (by kernel_rfl) (by kernel_rfl) ?hq40_9 ?hy40_9 hHeld ?rest40_9
    case hi40_9 => (simp only [List.getElem?_toArray, List.getElem?_cons_succ, List.getElem?_cons_zero]; rfl)
    case hq40_9 => exact fun _ _ _ h => h
    case hy40_9 =>
      refine Or.inl ⟨by rfl, ?_⟩
      intro wS hSw
      try dsimp only at hSw
      obtain ⟨q0, q1, q2, q3, q4, q5, q6, q7, q8, q9, q10, q11, q12⟩ := hSw
      go_simp
      try with_reducible rfl
    simp only [Act.put, List.setIfInBounds_toArray, List.set_cons_zero, List.set_cons_succ]
    refine wpAnyH_take (i := 10) (oi := ?oi41_10) (v := ?vv41_10) ?hi41_10 (by kernel_rfl) (by kernel_rfl) (by kernel_rfl) ?hq41_10 ?hy41_10 hHeld ?rest41_10
    case hi41_10 => (simp only [List.getElem?_toArray, List.getElem?_cons_succ, List.getElem?_cons_zero]; rfl)
    case hq41_10 => exact fun _ _ _ h => h
    case hy41_10 =>
      refine Or.inl ⟨by rfl, ?_⟩
      intro wS hSw
      try dsimp only at hSw
      obtain ⟨q0, q1, q2, q3, q4, q5, q6, q7, q8, q9, q10, q11, q12⟩ := hSw
      go_simp
      try with_reducible rfl
    simp only [Act.put, List.setIfInBounds_toArray, List.set_cons_zero, List.set_cons_succ]
    refine wpAnyH_take (i := 11) (oi := ?oi42_11) (v := ?vv42_11) ?hi42_11 (by kernel_rfl) (by kernel_rfl) (by kernel_rfl) ?hq42_11 ?hy42_11 hHeld ?rest42_11
    case hi42_11 => (simp only [List.getElem?_toArray, List.getElem?_cons_succ, List.getElem?_cons_zero]; rfl)
    case hq42_11 => exact fun _ _ _ h => h
    case hy42_11 =>
      refine Or.inl ⟨by rfl, ?_⟩
      intro wS hSw
      try dsimp only at hSw
      obtain ⟨q0, q1, q2, q3, q4, q5, q6, q7, q8, q9, q10, q11, q12⟩ := hSw
      go_simp
      try with_reducible rfl
    simp only [Act.put, List.setIfInBounds_toArray, List.set_cons_zero, List.set_cons_succ]
    refine wpAnyH_take (i := 12) (oi := ?oi43_12) (v := ?vv43_12) ?hi43_12 (by kernel_rfl) (by kernel_rfl) (by kernel_rfl) ?hq43_12 ?hy43_12 hHeld ?rest43_12
    case hi43_12 => (simp only [List.getElem?_toArray, List.getElem?_cons_succ, List.getElem?_cons_zero]; rfl)
    case hq43_12 => exact fun _ _ _ h => h
    case hy43_12 =>
      refine Or.inl ⟨by rfl, ?_⟩
      intro wS hSw
      try dsimp only at hSw
      obtain ⟨q0, q1, q2, q3, q4, q5, q6, q7, q8, q9, q10, q11, q12⟩ := hSw
      go_simp
      try with_reducible rfl
    simp only [Act.put, List.setIfInBounds_toArray, List.set_cons_zero, List.set_cons_succ]
    refine wpAnyH_take (i := 13) (oi := ?oi44_13) (v := ?vv44_13) ?hi44_13 (by kernel_rfl) (by kernel_rfl) (by kernel_rfl) ?hq44_13 ?hy44_13 hHeld ?rest44_13
    case hi44_13 => (simp only [List.getElem?_toArray, List.getElem?_cons_succ, List.getElem?_cons_zero]; rfl)
    case hq44_13 => exact fun _ _ _ h => h
    case hy44_13 =>
      refine Or.inl ⟨by rfl, ?_⟩
      intro wS hSw
      try dsimp only at hSw
      obtain ⟨q0, q1, q2, q3, q4, q5, q6, q7, q8, q9, q10, q11, q12⟩ := hSw
      go_simp
      try with_reducible rfl
    simp only [Act.put, List.setIfInBounds_toArray, List.set_cons_zero, List.set_cons_succ]
    refine wpAnyH_take (i := 14) (oi := ?oi45_14) (v := ?vv45_14) ?hi45_14 (by kernel_rfl) (by kernel_rfl) (by kernel_rfl) ?hq45_14 ?hy45_14 hHeld ?rest45_14
    case hi45_14 => (simp only [List.getElem?_toArray, List.getElem?_cons_succ, List.getElem?_cons_zero]; rfl)
    case hq45_14 => exact fun _ _ _ h => h
    case hy45_14 =>
      refine Or.inl ⟨by rfl, ?_⟩
      intro wS hSw
      try dsimp only at hSw
      obtain ⟨q0, q1, q2, q3, q4, q5, q6, q7, q8, q9, q10, q11, q12⟩ := hSw
      go_simp
      try with_reducible rfl
    simp only [Act.put, List.setIfInBounds_toArray, List.set_cons_zero, List.set_cons_succ]
    refine wpAnyH_take (i := 15) (oi := ?oi46_15) (v := ?vv46_15) ?hi46_15 (by kernel_rfl) (by kernel_rfl) (by kernel_rfl) ?hq46_15 ?hy46_15 hHeld ?rest46_15
    case hi46_15 => (simp only [List.getElem?_toArray, List.getElem?_cons_succ, List.getElem?_cons_zero]; rfl)
    case hq46_15 => exact fun _ _ _ h => h
    case hy46_15 =>
      refine Or.inl ⟨by rfl, ?_⟩
      intro wS hSw
      try dsimp only at hSw
      obtain ⟨q0, q1, q2, q3, q4, q5, q6, q7, q8, q9, q10, q11, q12⟩ := hSw
      go_simp
      try with_reducible rfl
    simp only [Act.put, List.setIfInBounds_toArray, List.set_cons_zero, List.set_cons_succ]
    refine wpAnyH_take (i := 17) (oi := ?oi47_17) (v := ?vv47_17) ?hi47_17 (by kernel_rfl) (by kernel_rfl) (by kernel_rfl) ?hq47_17 ?hy47_17 hHeld ?rest47_17
    case hi47_17 => (simp only [List.getElem?_toArray, List.getElem?_cons_succ, List.getElem?_cons_zero]; rfl)
    case hq47_17 => exact fun _ _ _ h => h
    case hy47_17 =>
      refine Or.inl ⟨by rfl, ?_⟩
      intro wS hSw
      try dsimp only at hSw
      obtain ⟨q0, q1, q2, q3, q4, q5, q6, q7, q8, q9, q10, q11, q12⟩ := hSw
      go_simp
      try with_reducible rfl
    simp only [Act.put, List.setIfInBounds_toArray, List.set_cons_zero, List.set_cons_succ]
    refine wpAnyH_take (i := 18) (oi := ?oi48_18) (v := ?vv48_18) ?hi48_18 (by kernel_rfl) (by kernel_rfl) (by kernel_rfl) ?hq48_18 ?hy48_18 hHeld ?rest48_18
    case hi48_18 => (simp only [List.getElem?_toArray, List.getElem?_cons_succ, List.getElem?_cons_zero]; rfl)
    case hq48_18 => exact fun _ _ _ h => h
    case hy48_18 =>
      refine Or.inl ⟨by rfl, ?_⟩
      intro wS hSw
      try dsimp only at hSw
      obtain ⟨q0, q1, q2, q3, q4, q5, q6, q7, q8, q9, q10, q11, q12⟩ := hSw
      go_simp
      try with_reducible rfl
    simp only [Act.put, List.setIfInBounds_toArray, List.set_cons_zero, List.set_cons_succ]
    refine wpAnyH_ready (rs := [16]) (by kernel_rfl) (by simp) ?_
    refine AllReadyH.cons rfl (fun K hK => ?_) AllReadyH.nil
    go_simp
    refine (cn' _).mono ?_
    rintro e w53 ⟨rfl, hf53⟩
    have HV' := hid (RV.fwd HV.out hf53)
    clear HV
    have HV := HV'
    clear HV'
    have HX' := hid (RV.fwd HX.out hf53)
    clear HX
    have HX := HX'
    clear HX'
    replace kA := kA.fwd hf53
    replace kT := kT.fwd hf53
    replace kI := kI.fwd hf53
    replace kX := kX.fwd hf53
    replace kJ := kJ.fwd hf53
    replace hF := hF.trans hf53
    clear hf53
    clear ac0 ac1 ac2
    clear tc0 tc1 tc2
    clear ic0 ic1
    clear xc0 xc1 xc2
    clear jc0 jc1
    have ac0 := BlkV.cell kA 0 rfl
    have ac1 := BlkV.cell kA 1 rfl
    have ac2 := BlkV.cell kA 2 rfl
    have tc0 := BlkV.cell kT 0 rfl
    have tc1 := BlkV.cell kT 1 rfl
    have tc2 := BlkV.cell kT 2 rfl
    have ic0 := BlkV.cell kI 0 rfl
    have ic1 := BlkV.cell kI 1 rfl
    have xc0 := BlkV.cell kX 0 rfl
    have xc1 := BlkV.cell kX 1 rfl
    have xc2 := BlkV.cell kX 2 rfl
    have jc0 := BlkV.cell kJ 0 rfl
    have jc1 := BlkV.cell kJ 1 rfl
    go_wp2_with fail
    clear hHeld
    refine hK.out _ _ ⟨by with_reducible assumption, by with_reducible assumption, by with_reducible assumption, by with_reducible assumption, by with_reducible assumption, by with_reducible assumption, by with_reducible assumption, by with_reducible assumption, by with_reducible assumption, by with_reducible assumption, by with_reducible assumption, by with_reducible assumption, by with_reducible assumption⟩ (fun hHeld => ?_)
    clear hK K
    try simp only [Act.put, List.setIfInBounds_toArray, List.set_cons_zero, List.set_cons_succ]
    refine wpAnyH_take (i := 19) (oi := ?oi49_19) (v := ?vv49_19) ?hi49_19 (by kernel_rfl) (by kernel_rfl) (by kernel_rfl) ?hq49_19 ?hy49_19 hHeld ?rest49_19
    case hi49_19 => (simp only [List.getElem?_toArray, List.getElem?_cons_succ, List.getElem?_cons_zero]; rfl)
    case hq49_19 => exact fun _ _ _ h => h
    case hy49_19 =>
      refine Or.inl ⟨by rfl, ?_⟩
      intro wS hSw
      try dsimp only at hSw
      obtain ⟨q0, q1, q2, q3, q4, q5, q6, q7, q8, q9, q10, q11, q12⟩ := hSw
      go_simp
      try with_reducible rfl
    simp only [Act.put, List.setIfInBounds_toArray, List.set_cons_zero, List.set_cons_succ]
    refine wpAnyH_take (i := 20) (oi := ?oi50_20) (v := ?vv50_20) ?hi50_20 (by kernel_rfl) (by kernel_rfl) (by kernel_rfl) ?hq50_20 ?hy50_20 hHeld ?rest50_20
    case hi50_20 => (simp only [List.getElem?_toArray, List.getElem?_cons_succ, List.getElem?_cons_zero]; rfl)
    case hq50_20 => exact fun _ _ _ h => h
    case hy50_20 =>
      refine Or.inl ⟨by rfl, ?_⟩
      intro wS hSw
      try dsimp only at hSw
      obtain ⟨q0, q1, q2, q3, q4, q5, q6, q7, q8, q9, q10, q11, q12⟩ := hSw
      go_simp
      try with_reducible rfl
    simp only [Act.put, List.setIfInBounds_toArray, List.set_cons_zero, List.set_cons_succ]
    refine wpAnyH_take (i := 21) (oi := ?oi51_21) (v := ?vv51_21) ?hi51_21 (by kernel_rfl) (by kernel_rfl) (by kernel_rfl) ?hq51_21 ?hy51_21 hHeld ?rest51_21
    case hi51_21 => (simp only [List.getElem?_toArray, List.getElem?_cons_succ, List.getElem?_cons_zero]; rfl)
    case hq51_21 => exact fun _ _ _ h => h
    case hy51_21 =>
      refine Or.inl ⟨by rfl, ?_⟩
      intro wS hSw
      try dsimp only at hSw
      obtain ⟨q0, q1, q2, q3, q4, q5, q6, q7, q8, q9, q10, q11, q12⟩ := hSw
      go_simp
      try with_reducible rfl
    simp only [Act.put, List.setIfInBounds_toArray, List.set_cons_zero, List.set_cons_succ]
    refine wpAnyH_take (i := 22) (oi := ?oi52_22) (v := ?vv52_22) ?hi52_22 (by kernel_rfl) (by kernel_rfl) (by kernel_rfl) ?hq52_22 ?hy52_22 hHeld ?rest52_22
    case hi52_22 => (simp only [List.getElem?_toArray, List.getElem?_cons_succ, List.getElem?_cons_zero]; rfl)
    case hq52_22 => exact fun _ _ _ h => h
    case hy52_22 =>
      refine Or.inl ⟨by rfl, ?_⟩
      intro wS hSw
      try dsimp only at hSw
      obtain ⟨q0, q1, q2, q3, q4, q5, q6, q7, q8, q9, q10, q11, q12⟩ := hSw
      go_simp
      try with_reducible rfl
    simp only [Act.put, List.setIfInBounds_toArray, List.set_cons_zero, List.set_cons_succ]
    refine wpAnyH_take (i := 23) (oi := ?oi53_23) (v := ?vv53_23) ?hi53_23 (by kernel_rfl) (by kernel_rfl) (by kernel_rfl) ?hq53_23 ?hy53_23 hHeld ?rest53_23
    case hi53_23 => (simp only [List.getElem?_toArray, List.getElem?_cons_succ, List.getElem?_cons_zero]; rfl)
    case hq53_23 => exact fun _ _ _ h => h
    case hy53_23 =>
      refine Or.inl ⟨by rfl, ?_⟩
      intro wS hSw
      try dsimp only at hSw
      obtain ⟨q0, q1, q2, q3, q4, q5, q6, q7, q8, q9, q10, q11, q12⟩ := hSw
      go_simp
      try with_reducible rfl
    simp only [Act.put, List.setIfInBounds_toArray, List.set_cons_zero, List.set_cons_succ]
    refine wpAnyH_take (i := 24) (oi := ?oi54_24) (v := ?vv54_24) ?hi54_24 (by kernel_rfl) (by kernel_rfl) (by kernel_rfl) ?hq54_24 ?hy54_24 hHeld ?rest54_24
    case hi54_24 => (simp only [List.getElem?_toArray, List.getElem?_cons_succ, List.getElem?_cons_zero]; rfl)
    case hq54_24 => exact fun _ _ _ h => h
    case hy54_24 =>
      refine Or.inl ⟨by rfl, ?_⟩
      intro wS hSw
      try dsimp only at hSw
      obtain ⟨q0, q1, q2, q3, q4, q5, q6, q7, q8, q9, q10, q11, q12⟩ := hSw
      go_simp
      try with_reducible rfl
    simp only [Act.put, List.setIfInBounds_toArray, List.set_cons_zero, List.set_cons_succ]
    refine wpAnyH_take (i := 25) (oi := ?oi55_25) (v := ?vv55_25) ?hi55_25 (by kernel_rfl) (by kernel_rfl) (by kernel_rfl) ?hq55_25 ?hy55_25 hHeld ?rest55_25
    case hi55_25 => (simp only [List.getElem?_toArray, List.getElem?_cons_succ, List.getElem?_cons_zero]; rfl)
    case hq55_25 => exact fun _ _ _ h => h
    case hy55_25 =>
      refine Or.inl ⟨by rfl, ?_⟩
      intro wS hSw
      try dsimp only at hSw
      obtain ⟨q0, q1, q2, q3, q4, q5, q6, q7, q8, q9, q10, q11, q12⟩ := hSw
      go_simp
      try with_reducible rfl
    simp only [Act.put, List.setIfInBounds_toArray, List.set_cons_zero, List.set_cons_succ]
    refine wpAnyH_take (i := 26) (oi := ?oi56_26) (v := ?vv56_26) ?hi56_26 (by kernel_rfl) (by kernel_rfl) (by kernel_rfl) ?hq56_26 ?hy56_26 hHeld ?rest56_26
    case hi56_26 => (simp only [List.getElem?_toArray, List.getElem?_cons_succ, List.getElem?_cons_zero]; rfl)
    case hq56_26 => exact fun _ _ _ h => h
    case hy56_26 =>
      refine Or.inl ⟨by rfl, ?_⟩
      intro wS hSw
      try dsimp only at hSw
      obtain ⟨q0, q1, q2, q3, q4, q5, q6, q7, q8, q9, q10, q11, q12⟩ := hSw
      go_simp
      try with_reducible rfl
    simp only [Act.put, List.setIfInBounds_toArray, List.set_cons_zero, List.set_cons_succ]
    refine wpAnyH_take (i := 27) (oi := ?oi57_27) (v := ?vv57_27) ?hi57_27 (by kernel_rfl) (by kernel_rfl) (by kernel_rfl) ?hq57_27 ?hy57_27 hHeld ?rest57_27
    case hi57_27 => (simp only [List.getElem?_toArray, List.getElem?_cons_succ, List.getElem?_cons_zero]; rfl)
    case hq57_27 => exact fun _ _ _ h => h
    case hy57_27 =>
      refine Or.inl ⟨by rfl, ?_⟩
      intro wS hSw
      try dsimp only at hSw
      obtain ⟨q0, q1, q2, q3, q4, q5, q6, q7, q8, q9, q10, q11, q12⟩ := hSw
      go_simp
      try with_reducible rfl
    simp only [Act.put, List.setIfInBounds_toArray, List.set_cons_zero, List.set_cons_succ]
    refine wpAnyH_take (i := 28) (oi := ?oi58_28) (v := ?vv58_28) ?hi58_28 (by kernel_rfl) (by kernel_rfl) (by kernel_rfl) ?hq58_28 ?hy58_28 hHeld ?rest58_28
    case hi58_28 => (simp only [List.getElem?_toArray, List.getElem?_cons_succ, List.getElem?_cons_zero]; rfl)
    case hq58_28 => exact fun _ _ _ h => h
    case hy58_28 =>
      refine Or.inl ⟨by rfl, ?_⟩
      intro wS hSw
      try dsimp only at hSw
      obtain ⟨q0, q1, q2, q3, q4, q5, q6, q7, q8, q9, q10, q11, q12⟩ := hSw
      go_simp
      try with_reducible rfl
    simp only [Act.put, List.setIfInBounds_toArray, List.set_cons_zero, List.set_cons_succ]
    refine wpAnyH_take (i := 29) (oi := ?oi59_29) (v := ?vv59_29) ?hi59_29 (by kernel_rfl) (by kernel_rfl) (by kernel_rfl) ?hq59_29 ?hy59_29 hHeld ?rest59_29
    case hi59_29 => (simp only [List.getElem?_toArray, List.getElem?_cons_succ, List.getElem?_cons_zero]; rfl)
    case hq59_29 => exact fun _ _ _ h => h
    case hy59_29 =>
      refine Or.inl ⟨by rfl, ?_⟩
      intro wS hSw
      try dsimp only at hSw
      obtain ⟨q0, q1, q2, q3, q4, q5, q6, q7, q8, q9, q10, q11, q12⟩ := hSw
      go_simp
      try with_reducible rfl
    simp only [Act.put, List.setIfInBounds_toArray, List.set_cons_zero, List.set_cons_succ]
    refine wpAnyH_take (i := 30) (oi := ?oi60_30) (v := ?vv60_30) ?hi60_30 (by kernel_rfl) (by kernel_rfl) (by kernel_rfl) ?hq60_30 ?hy60_30 hHeld ?rest60_30
    case hi60_30 => (simp only [List.getElem?_toArray, List.getElem?_cons_succ, List.getElem?_cons_zero]; rfl)
    case hq60_30 => exact fun _ _ _ h => h
    case hy60_30 =>
      refine Or.inl ⟨by rfl, ?_⟩
      intro wS hSw
      try dsimp only at hSw
      obtain ⟨q0, q1, q2, q3, q4, q5, q6, q7, q8, q9, q10, q11, q12⟩ := hSw
      go_simp
      try with_reducible rfl
    simp only [Act.put, List.setIfInBounds_toArray, List.set_cons_zero, List.set_cons_succ]
    refine wpAnyH_take (i := 31) (oi := ?oi61_31) (v := ?vv61_31) ?hi61_31 (by kernel_rfl) (by kernel_rfl) (by kernel_rfl) ?hq61_31 ?hy61_31 hHeld ?rest61_31
    case hi61_31 => (simp only [List.getElem?_toArray, List.getElem?_cons_succ, List.getElem?_cons_zero]; rfl)
    case hq61_31 => exact fun _ _ _ h => h
    case hy61_31 =>
      refine Or.inl ⟨by rfl, ?_⟩
      intro wS hSw
      try dsimp only at hSw
      obtain ⟨q0, q1, q2, q3, q4, q5, q6, q7, q8, q9, q10, q11, q12⟩ := hSw
      go_simp
      try with_reducible rfl
    simp only [Act.put, List.setIfInBounds_toArray, List.set_cons_zero, List.set_cons_succ]
    refine wpAnyH_ready (rs := [32]) (by kernel_rfl) (by simp) ?_
    refine AllReadyH.cons rfl (fun K hK => ?_) AllReadyH.nil
    go_simp
    refine (dh _ _ hF HX.out).mono ?_
    rintro e w54 ⟨rfl, hf54⟩
    have HV' := hid (RV.fwd HV.out hf54)
    clear HV
    have HV := HV'
    clear HV'
    have HX' := hid (RV.fwd HX.out hf54)
    clear HX
    have HX := HX'
    clear HX'
    replace kA := kA.fwd hf54
    replace kT := kT.fwd hf54
    replace kI := kI.fwd hf54
    replace kX := kX.fwd hf54
    replace kJ := kJ.fwd hf54
    replace hF := hF.trans hf54
    clear hf54
    clear ac0 ac1 ac2
    clear tc0 tc1 tc2
    clear ic0 ic1
    clear xc0 xc1 xc2
    clear jc0 jc1
    have ac0 := BlkV.cell kA 0 rfl
    have ac1 := BlkV.cell kA 1 rfl
    have ac2 := BlkV.cell kA 2 rfl
    have tc0 := BlkV.cell kT 0 rfl
    have tc1 := BlkV.cell kT 1 rfl
    have tc2 := BlkV.cell kT 2 rfl
    have ic0 := BlkV.cell kI 0 rfl
    have ic1 := BlkV.cell kI 1 rfl
    have xc0 := BlkV.cell kX 0 rfl
    have xc1 := BlkV.cell kX 1 rfl
    have xc2 := BlkV.cell kX 2 rfl
    have jc0 := BlkV.cell kJ 0 rfl
    have jc1 := BlkV.cell kJ 1 rfl
    go_wp2_with fail
    clear hHeld
    refine hK.out _ _ ⟨by with_reducible assumption, by with_reducible assumption, by with_reducible assumption, by with_reducible assumption, by with_reducible assumption, by with_reducible assumption, by with_reducible assumption, by with_reducible assumption, by with_reducible assumption, by with_reducible assumption, by with_reducible assumption, by with_reducible assumption, by with_reducible assumption⟩ (fun hHeld => ?_)
    clear hK K
    try simp only [Act.put, List.setIfInBounds_toArray, List.set_cons_zero, List.set_cons_succ]
    refine wpAnyH_take (i := 33) (oi := ?oi62_33) (v := ?vv62_33) ?hi62_33 (by kernel_rfl) (by kernel_rfl) (by kernel_rfl) ?hq62_33 ?hy62_33 hHeld ?rest62_33
    case hi62_33 => (simp only [List.getElem?_toArray, List.getElem?_cons_succ, List.getElem?_cons_zero]; rfl)
    case hq62_33 => exact fun _ _ _ h => h
    case hy62_33 =>
      refine Or.inl ⟨by rfl, ?_⟩
      intro wS hSw
      try dsimp only at hSw
      obtain ⟨q0, q1, q2, q3, q4, q5, q6, q7, q8, q9, q10, q11, q12⟩ := hSw
      go_simp
      try with_reducible rfl
    simp only [Act.put, List.setIfInBounds_toArray, List.set_cons_zero, List.set_cons_succ]
    refine wpAnyH_take (i := 34) (oi := ?oi63_34) (v := ?vv63_34) ?hi63_34 (by kernel_rfl) (by kernel_rfl) (by kernel_rfl) ?hq63_34 ?hy63_34 hHeld ?rest63_34
    case hi63_34 => (simp only [List.getElem?_toArray, List.getElem?_cons_succ, List.getElem?_cons_zero]; rfl)
    case hq63_34 => exact fun _ _ _ h => h
    case hy63_34 =>
      refine Or.inl ⟨by rfl, ?_⟩
      intro wS hSw
      try dsimp only at hSw
      obtain ⟨q0, q1, q2, q3, q4, q5, q6, q7, q8, q9, q10, q11, q12⟩ := hSw
      go_simp
      try with_reducible rfl
    simp only [Act.put, List.setIfInBounds_toArray, List.set_cons_zero, List.set_cons_succ]
    refine wpAnyH_done (by kernel_rfl) ?_ _
    go_wp2
    go_ret
    exact ⟨rfl, hF⟩
end Go.Proofs.YtfaklfceanfkeaaDoor
