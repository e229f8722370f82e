/- The laws of enclosures: End, known. -/
import Derived.Test.YtfaklfceanfkeaaDoorXF32
import Derived.Test.YtfaklfceanfkeaaDoorXF28
import Derived.Test.YtfaklfceanfkeaaDoorXF20
import Derived.Test.YtfaklfceanfkeaaDoorXF17
import Derived.Test.YtfaklfceanfkeaaDoorXFV
import Derived.Test.YtfaklfceanfkeaaDoorXFB
import Derived.Test.YtfaklfceanfkeaaDoorXU1
import Derived.Test.YtfaklfceanfkeaaDoorKI
namespace Go.Proofs.YtfaklfceanfkeaaDoor
open Go.RowKit
set_option linter.unusedVariables false
set_option linter.unusedSimpArgs false

theorem and60 (x : Nat) (hx : x < 18446744073709551616) : bits .and .u64 (x : Int) 1152921504606846975 = ((x % 1152921504606846976 : Nat) : Int) := by
  have h := bits_and_u64_nat x 1152921504606846975 hx (by decide)
  rw [show (1152921504606846975 : Nat) = 2 ^ 60 - 1 from rfl, Nat.and_two_pow_sub_one_eq_mod] at h
  exact h

set_option maxHeartbeats 4000000 in
set_option maxRecDepth 100000 in
theorem end4_any {w : World} (f : Nat) (n : Int) (hf : f < 18446744073709551616) (n1 : -9223372036854775808 ≤ n) (n2 : n ≤ 9223372036854775807) :
    Calls Tryd.prog 8 #[.int .u64 f, .int .i64 n] w fun e w' => ∃ y : Nat, e = .returned (.int .u64 y) ∧ (y < 18446744073709551616 ∧ fsz y < 9218868437227405312) ∧ Fwd w w' := by
  have ha := and60 f hf
  have hm : f % 1152921504606846976 < 1152921504606846976 := Nat.mod_lt _ (by omega)
  go_enter Tryd.func8, Tryd.ntmps8
  go_wp2_with fail
  refine (make3_any _ f n hf n1 n2).mono ?_
  rintro e wq ⟨x, hx, rfl, rfl⟩
  clear n1 n2
  by_cases hi : fsz x < 9218868437227405312
  · have cr := fun w => refRat_any (w := w) x hx hi
    go_wp2_with fail
    refine (cr _).mono ?_
    rintro e w2 ⟨v, rfl, hv, hf2⟩
    obtain ⟨po, pc, qo, qc, rfl, p1, p2, p3, p4, -, -⟩ := RW.open hv
    have hF := hf2.alloc (.cells #[.bool (negQ (mkQ (fneg x) (ratA x) (ratB x))), .slice po (nl (mkQ (fneg x) (ratA x) (ratB x)).num.natAbs) pc, .slice qo (nl (mkQ (fneg x) (ratA x) (ratB x)).den) qc] 24)
    clear hv cr
    go_wp2
    go_ret
    exact ⟨x, rfl, ⟨hx, hi⟩, hF⟩
  · have cr := fun w => refRat_range (w := w) x hx (by omega)
    unfold ratZero at cr
    go_wp2_with fail
    refine (cr _).mono ?_
    rintro e w2 ⟨rfl, hf2⟩
    have hF := hf2.alloc (.cells #[.bool false, .slice none 0 0, .slice none 0 0] 24)
    clear cr
    generalize hM : f % 1152921504606846976 = M at *
    go_wp2
    go_ret
    exact ⟨M, rfl, ⟨by omega, by unfold fsz; omega⟩, hF⟩

theorem third_q : mkQ (!(decide ((1 : Int) < 0) == decide ((3 : Int) < 0))) (1 : Int).natAbs (3 : Int).natAbs = mkRat 1 3 := rfl
theorem third_parts : negQ (mkRat 1 3) = false ∧ (mkRat 1 3).num.natAbs = 1 ∧ (mkRat 1 3).den = 3 := by decide +kernel
theorem third_lo : ofQ 2 false 1 3 = (4599676419421066581, 1) := by decide +kernel
theorem third_hi : ofQ 3 false 1 3 = (4599676419421066582, 1) := by decide +kernel
theorem jo_same {f : Nat} (h : fsz f ≤ 9218868437227405312) : joL f f = f ∧ joH f f = f := by
  unfold joL joH
  exact ⟨by split <;> rfl, by split <;> rfl⟩

set_option maxHeartbeats 8000000 in
set_option maxRecDepth 100000 in
theorem known4_any {w : World} (hR : Ru w) : Calls Tryd.prog 4 #[] w fun e w' => e = .returned (.bool true) ∧ Fwd w w' := by
  have co := fun (w : World) => of2_any w 1 3 (by omega) (by omega) (by omega) (by omega) (by omega)
  rw [third_q] at co
  have t := third_parts
  have hF : Fwd w w := Fwd.refl w
  have ci : ∀ (w' : World) (v : Value), Fwd w w' → RV w' v (mkRat 1 3) → Calls Tryd.prog 6 #[v] w' fun e w'' => e = .returned (.agg #[.int .u64 4599676419421066581, .int .u64 4599676419421066582]) ∧ Fwd w' w'' := fun w' v g hv => by
    unfold RV at hv
    rw [t.1, t.2.1, t.2.2] at hv
    have := ivOf_any (hR.fwd g) hv (Nat.le_trans (nl_two' (by decide)) (by decide)) (Nat.le_trans (nl_two' (by decide)) (by decide)) (by decide)
    rw [third_lo, third_hi] at this
    exact this
  have ch : ∀ (w' : World) (v : Value), Fwd w w' → RV w' v (mkRat 1 3) → Calls Tryd.prog 10 #[.agg #[.int .u64 4599676419421066581, .int .u64 4599676419421066582], v] w' fun e w'' => e = .returned (.bool true) ∧ Fwd w' w'' := fun w' v g hv => by
    unfold RV at hv
    rw [t.1, t.2.1, t.2.2] at hv
    exact ivHas_in (lo := 4599676419421066581) (hi := 4599676419421066582) (hR.fwd g) hv (Nat.le_trans (nl_two' (by decide)) (by decide)) (Nat.le_trans (nl_two' (by decide)) (by decide)) (by decide) (by decide) (by decide) (by decide) (by decide) (by rw [third_lo]) (by rw [third_hi]) (jo_same (by decide +kernel)).1 (jo_same (by decide +kernel)).2
  have c1 : ∀ (w' : World), Calls Tryd.prog 9 #[.agg #[.int .u64 4599676419421066581, .int .u64 4599676419421066582]] w' fun e w'' => e = .returned (.bool true) ∧ Fwd w' w'' := fun w' => by
    have := ivRight_any (w := w') 4599676419421066581 4599676419421066582 (by decide) (by decide)
    rw [show ((cmpF 4599676419421066581 4599676419421066582).2 && decide ((cmpF 4599676419421066581 4599676419421066582).1 ≤ 0)) = true by decide +kernel] at this
    exact this
  have c2 : ∀ (w' : World), Calls Tryd.prog 9 #[.agg #[.int .u64 1, .int .u64 0]] w' fun e w'' => e = .returned (.bool false) ∧ Fwd w' w'' := fun w' => by
    have := ivRight_any (w := w') 1 0 (by decide) (by decide)
    rw [show ((cmpF 1 0).2 && decide ((cmpF 1 0).1 ≤ 0)) = false by decide +kernel] at this
    exact this
  obtain ⟨Q, hQ⟩ : ∃ q, q = mkRat 1 3 := ⟨_, rfl⟩
  rw [← hQ] at co ci ch
  clear t hQ hR
  go_enter Tryd.func4, Tryd.ntmps4
  go_wp2_with fail
  refine (co _).mono ?_
  rintro e u1 ⟨v, rfl, hv, hf⟩
  replace hF := hF.trans hf
  clear hf co
  have HV := hid hv
  obtain ⟨po, pc, qo, qc, rfl, p1, p2, p3, p4, -, -⟩ := RW.open hv
  clear hv
  have hfB : Fwd u1 (u1.alloc (.cells #[.bool (negQ Q), .slice po (nl Q.num.natAbs) pc, .slice qo (nl Q.den) qc] 24)) := (Fwd.refl _).alloc _
  have HV' := hid (RV.fwd HV.out hfB)
  clear HV
  have HV := HV'
  clear HV'
  replace hF := hF.trans hfB
  clear hfB
  have kT := BlkV.made u1 24 [.bool (negQ Q), .slice po (nl Q.num.natAbs) pc, .slice qo (nl Q.den) qc]
  go_upto_region 2 with fail
  generalize (u1.alloc (.cells #[.bool (negQ Q), .slice po (nl Q.num.natAbs) pc, .slice qo (nl Q.den) qc] 24)) = u1' at kT  HV hF ⊢
  have tc0 := BlkV.cell kT 0 rfl
  have tz0 := BlkV.frozen kT 0
  have tc1 := BlkV.cell kT 1 rfl
  have tz1 := BlkV.frozen kT 1
  have tc2 := BlkV.cell kT 2 rfl
  have tz2 := BlkV.frozen kT 2
  go_wp2_with fail
  refine (ci _ _ hF HV.out).mono ?_
  rintro e u2 ⟨rfl, hfC⟩
  replace kT := kT.fwd hfC
  have HV' := hid (RV.fwd HV.out hfC)
  clear HV
  have HV := HV'
  clear HV'
  replace hF := hF.trans hfC
  clear hfC
  clear tc0 tz0 tc1 tz1 tc2 tz2
  have tc0 := BlkV.cell kT 0 rfl
  have tz0 := BlkV.frozen kT 0
  have tc1 := BlkV.cell kT 1 rfl
  have tz1 := BlkV.frozen kT 1
  have tc2 := BlkV.cell kT 2 rfl
  have tz2 := BlkV.frozen kT 2
  have hfB : Fwd u2 (u2.alloc (.cells #[.int .u64 4599676419421066581, .int .u64 4599676419421066582] 29)) := (Fwd.refl _).alloc _
  have ltTI := BlkV.lt kT
  replace kT := kT.fwd hfB
  have HV' := hid (RV.fwd HV.out hfB)
  clear HV
  have HV := HV'
  clear HV'
  replace hF := hF.trans hfB
  clear hfB
  have kI := BlkV.made u2 29 [.int .u64 4599676419421066581, .int .u64 4599676419421066582]
  go_upto_region 3 with fail
  clear tc0 tz0 tc1 tz1 tc2 tz2
  generalize (u2.alloc (.cells #[.int .u64 4599676419421066581, .int .u64 4599676419421066582] 29)) = u2' at kI kT HV hF ⊢
  have tc0 := BlkV.cell kT 0 rfl
  have tz0 := BlkV.frozen kT 0
  have tc1 := BlkV.cell kT 1 rfl
  have tz1 := BlkV.frozen kT 1
  have tc2 := BlkV.cell kT 2 rfl
  have tz2 := BlkV.frozen kT 2
  have ic0 := BlkV.cell kI 0 rfl
  have iz0 := BlkV.frozen kI 0
  have ic1 := BlkV.cell kI 1 rfl
  have iz1 := BlkV.frozen kI 1
  go_wp2_with fail
  refine (ch _ _ hF HV.out).mono ?_
  rintro e u3 ⟨rfl, hfC⟩
  replace kT := kT.fwd hfC
  replace kI := kI.fwd hfC
  replace hF := hF.trans hfC
  clear hfC
  clear tc0 tz0 tc1 tz1 tc2 tz2
  clear ic0 iz0 ic1 iz1
  have tc0 := BlkV.cell kT 0 rfl
  have tz0 := BlkV.frozen kT 0
  have tc1 := BlkV.cell kT 1 rfl
  have tz1 := BlkV.frozen kT 1
  have tc2 := BlkV.cell kT 2 rfl
  have tz2 := BlkV.frozen kT 2
  have ic0 := BlkV.cell kI 0 rfl
  have iz0 := BlkV.frozen kI 0
  have ic1 := BlkV.cell kI 1 rfl
  have iz1 := BlkV.frozen kI 1
  go_wp2_with fail
  refine (c1 _).mono ?_
  rintro e u4 ⟨rfl, hfC⟩
  replace kT := kT.fwd hfC
  replace kI := kI.fwd hfC
  replace hF := hF.trans hfC
  clear hfC
  clear tc0 tz0 tc1 tz1 tc2 tz2
  clear ic0 iz0 ic1 iz1
  have tc0 := BlkV.cell kT 0 rfl
  have tz0 := BlkV.frozen kT 0
  have tc1 := BlkV.cell kT 1 rfl
  have tz1 := BlkV.frozen kT 1
  have tc2 := BlkV.cell kT 2 rfl
  have tz2 := BlkV.frozen kT 2
  have ic0 := BlkV.cell kI 0 rfl
  have iz0 := BlkV.frozen kI 0
  have ic1 := BlkV.cell kI 1 rfl
  have iz1 := BlkV.frozen kI 1
  go_wp2_with fail
  refine (c2 _).mono ?_
  rintro e u5 ⟨rfl, hfC⟩
  replace kT := kT.fwd hfC
  replace kI := kI.fwd hfC
  replace hF := hF.trans hfC
  clear hfC
  clear tc0 tz0 tc1 tz1 tc2 tz2
  clear ic0 iz0 ic1 iz1
  have tc0 := BlkV.cell kT 0 rfl
  have tz0 := BlkV.frozen kT 0
  have tc1 := BlkV.cell kT 1 rfl
  have tz1 := BlkV.frozen kT 1
  have tc2 := BlkV.cell kT 2 rfl
  have tz2 := BlkV.frozen kT 2
  have ic0 := BlkV.cell kI 0 rfl
  have iz0 := BlkV.frozen kI 0
  have ic1 := BlkV.cell kI 1 rfl
  have iz1 := BlkV.frozen kI 1
  go_wp2
  go_ret
  exact ⟨rfl, hF⟩
end Go.Proofs.YtfaklfceanfkeaaDoor
