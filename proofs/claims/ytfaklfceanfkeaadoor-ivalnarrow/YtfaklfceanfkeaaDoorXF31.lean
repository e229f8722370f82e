/- ival's Of, Right, below. -/
import Derived.Test.YtfaklfceanfkeaaDoorXF26
import Derived.Test.YtfaklfceanfkeaaDoorXF18
namespace Go.Proofs.YtfaklfceanfkeaaDoor
open Go.RowKit
set_option linter.unusedVariables false
set_option linter.unusedSimpArgs false

set_option maxHeartbeats 4000000 in
set_option maxRecDepth 100000 in
theorem ivOf_any {w : World} {v : Value} {s : Bool} {N D : Nat} (hR : Ru w) (h : RW w v s N D) (bN : nl N ≤ 10000) (bD : nl D ≤ 10000) (hD0 : D ≠ 0) :
    Calls Tryd.prog 6 #[v] w fun e w' => e = .returned (.agg #[.int .u64 ((ofQ 2 s N D).1 : Nat), .int .u64 ((ofQ 3 s N D).1 : Nat)]) ∧ Fwd w w' := by
  have c2 := fun (w' : World) (g : Fwd w w') => ofQ_any (hR.fwd g) 2 (h.fwd g) bN bD hD0
  have c3 := fun (w' : World) (g : Fwd w w') => ofQ_any (hR.fwd g) 3 (h.fwd g) bN bD hD0
  generalize ofQ 2 s N D = Z2 at *
  generalize ofQ 3 s N D = Z3 at *
  obtain ⟨lo, f2⟩ := Z2
  obtain ⟨hi, f3⟩ := Z3
  obtain ⟨xo, xc, yo, yc, rfl, x1, x2, x3, x4, -, -⟩ := RW.open h
  clear h hR
  have kA : BlkV ((w.alloc (.cells #[.bool s, .slice xo (nl N) xc, .slice yo (nl D) yc] 24)).alloc (.cells #[.int .u64 0, .int .u64 0] 29)) (w.heap.size) 24 [.bool s, .slice xo (nl N) xc, .slice yo (nl D) yc] := (BlkV.made' w (w.heap.size) (by simp) 24 [.bool s, .slice xo (nl N) xc, .slice yo (nl D) yc]).alloc _
  have kR : BlkV ((w.alloc (.cells #[.bool s, .slice xo (nl N) xc, .slice yo (nl D) yc] 24)).alloc (.cells #[.int .u64 0, .int .u64 0] 29)) (w.heap.size + 1) 29 [.int .u64 0, .int .u64 0] := BlkV.made' (w.alloc (.cells #[.bool s, .slice xo (nl N) xc, .slice yo (nl D) yc] 24)) (w.heap.size + 1) (by simp) 29 [.int .u64 0, .int .u64 0]
  have hF : Fwd w ((w.alloc (.cells #[.bool s, .slice xo (nl N) xc, .slice yo (nl D) yc] 24)).alloc (.cells #[.int .u64 0, .int .u64 0] 29)) := ((Fwd.refl w).alloc _).alloc _
  go_enter Tryd.func6, Tryd.ntmps6
  have ac0 := BlkV.cell kA 0 rfl
  have az0 := BlkV.frozen kA 0
  have ac1 := BlkV.cell kA 1 rfl
  have az1 := BlkV.frozen kA 1
  have ac2 := BlkV.cell kA 2 rfl
  have az2 := BlkV.frozen kA 2
  have rc0 := BlkV.cell kR 0 rfl
  have rz0 := BlkV.frozen kR 0
  have rc1 := BlkV.cell kR 1 rfl
  have rz1 := BlkV.frozen kR 1
  go_wp2_with fail
  refine (c2 _ hF).mono ?_
  rintro e w1 ⟨rfl, hf1⟩
  replace kA := kA.fwd hf1
  replace kR := kR.fwd hf1
  replace hF := hF.trans hf1
  clear hf1
  clear ac0 az0 ac1 az1 ac2 az2
  clear rc0 rz0 rc1 rz1
  have ac0 := BlkV.cell kA 0 rfl
  have az0 := BlkV.frozen kA 0
  have ac1 := BlkV.cell kA 1 rfl
  have az1 := BlkV.frozen kA 1
  have ac2 := BlkV.cell kA 2 rfl
  have az2 := BlkV.frozen kA 2
  have rc0 := BlkV.cell kR 0 rfl
  have rz0 := BlkV.frozen kR 0
  have rc1 := BlkV.cell kR 1 rfl
  have rz1 := BlkV.frozen kR 1
  go_wp2_with fail
  refine (c3 _ hF).mono ?_
  rintro e w2 ⟨rfl, hf2⟩
  replace kA := kA.fwd hf2
  replace kR := kR.fwd hf2
  replace hF := hF.trans hf2
  clear hf2
  clear ac0 az0 ac1 az1 ac2 az2
  clear rc0 rz0 rc1 rz1
  have ac0 := BlkV.cell kA 0 rfl
  have az0 := BlkV.frozen kA 0
  have ac1 := BlkV.cell kA 1 rfl
  have az1 := BlkV.frozen kA 1
  have ac2 := BlkV.cell kA 2 rfl
  have az2 := BlkV.frozen kA 2
  have rc0 := BlkV.cell kR 0 rfl
  have rz0 := BlkV.frozen kR 0
  have rc1 := BlkV.cell kR 1 rfl
  have rz1 := BlkV.frozen kR 1
  clear c2 c3
  go_wp2
  have r0 := BlkV.set kR 0 (.int .u64 lo)
  have rs0 := BlkV.cell r0 0 rfl
  have r1 := BlkV.set r0 1 (.int .u64 hi)
  have rs1 := BlkV.cell r1 1 rfl
  refine bodyPost_ret (by simp [results, Tryd.results6, go_sem, rs0, rs1]; try rfl) rfl ?_
  exact ⟨rfl, (hF.set (by omega)).set (by omega)⟩

set_option maxHeartbeats 4000000 in
theorem below_any {w : World} (f g : Nat) (hf : f < 18446744073709551616) (hg : g < 18446744073709551616) : Calls Tryd.prog 42 #[.int .u64 f, .int .u64 g] w fun e w' => e = .returned (.bool (decide ((cmpF f g).1 < 0))) ∧ w' = w := by
  have cc := fun w => cmpF_any (w := w) f g hf hg
  generalize cmpF f g = C at *
  obtain ⟨o, is⟩ := C
  go_enter Tryd.func42, Tryd.ntmps42
  go_wp2_with fail
  refine (cc _).mono ?_
  rintro e wq ⟨rfl, rfl⟩
  go_wp2
  go_ret
  exact ⟨rfl, rfl⟩

set_option maxHeartbeats 4000000 in
theorem ivRight_any {w : World} (f g : Nat) (hf : f < 18446744073709551616) (hg : g < 18446744073709551616) : Calls Tryd.prog 9 #[.agg #[.int .u64 f, .int .u64 g]] w fun e w' => e = .returned (.bool ((cmpF f g).2 && decide ((cmpF f g).1 ≤ 0))) ∧ Fwd w w' := by
  have cc := fun w => cmpF_any (w := w) f g hf hg
  generalize cmpF f g = C at *
  obtain ⟨o, is⟩ := C
  cases is
  · have kA : BlkV (w.alloc (.cells #[.int .u64 f, .int .u64 g] 29)) (w.heap.size) 29 [.int .u64 f, .int .u64 g] := BlkV.made' w (w.heap.size) (by simp) 29 [.int .u64 f, .int .u64 g]
    have hF : Fwd w (w.alloc (.cells #[.int .u64 f, .int .u64 g] 29)) := (Fwd.refl w).alloc _
    go_enter Tryd.func9, Tryd.ntmps9
    have ac0 := BlkV.cell kA 0 rfl
    have az0 := BlkV.frozen kA 0
    have ac1 := BlkV.cell kA 1 rfl
    have az1 := BlkV.frozen kA 1
    go_wp2_with fail
    refine (cc _).mono ?_
    rintro e wq ⟨rfl, rfl⟩
    go_wp2
    go_ret
    exact ⟨rfl, hF⟩
  · have kA : BlkV (w.alloc (.cells #[.int .u64 f, .int .u64 g] 29)) (w.heap.size) 29 [.int .u64 f, .int .u64 g] := BlkV.made' w (w.heap.size) (by simp) 29 [.int .u64 f, .int .u64 g]
    have hF : Fwd w (w.alloc (.cells #[.int .u64 f, .int .u64 g] 29)) := (Fwd.refl w).alloc _
    go_enter Tryd.func9, Tryd.ntmps9
    have ac0 := BlkV.cell kA 0 rfl
    have az0 := BlkV.frozen kA 0
    have ac1 := BlkV.cell kA 1 rfl
    have az1 := BlkV.frozen kA 1
    go_wp2_with fail
    refine (cc _).mono ?_
    rintro e wq ⟨rfl, rfl⟩
    go_wp2
    go_ret
    exact ⟨rfl, hF⟩
end Go.Proofs.YtfaklfceanfkeaaDoor
