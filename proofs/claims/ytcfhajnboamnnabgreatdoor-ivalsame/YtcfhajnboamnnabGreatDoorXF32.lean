/- ival's join of one other, Has. -/
import Derived.Test.YtcfhajnboamnnabGreatDoorYXF26
namespace Go.Proofs.YtcfhajnboamnnabGreatDoor
open Go.RowKit
set_option linter.unusedVariables false
set_option linter.unusedSimpArgs false

/-- The lower end, the upper end, of both. -/
def joL (lo lo' : Nat) : Nat := if (cmpF lo' lo).1 < 0 then lo' else lo
def joH (hi hi' : Nat) : Nat := if (cmpF hi hi').1 < 0 then hi' else hi

theorem fwd_is {w w' : World} (h : w' = w) : Fwd w w' := h ▸ Fwd.refl _

set_option maxHeartbeats 8000000 in
set_option maxRecDepth 100000 in
theorem join1_any {w : World} {g : Nat} {lo hi lo' hi' : Nat} (h1 : lo < 18446744073709551616) (h2 : hi < 18446744073709551616) (h3 : lo' < 18446744073709551616) (h4 : hi' < 18446744073709551616) (kB : BlkV w g 24 [.int .u64 lo', .int .u64 hi']) :
    Calls Tryz.prog 53 #[.agg #[.int .u64 lo, .int .u64 hi], .slice (some ⟨g, 0, none⟩) 1 1] w fun e w' => e = .returned (.agg #[.int .u64 (joL lo lo' : Nat), .int .u64 (joH hi hi' : Nat)]) ∧ Fwd w w' := by
  have b1 := fun w => (below_any (w := w) lo' lo h3 h1).mono (fun e w' h => And.intro h.1 (fwd_is h.2))
  have b2 := fun w => (below_any (w := w) hi hi' h2 h4).mono (fun e w' h => And.intro h.1 (fwd_is h.2))
  have hlt := BlkV.lt kB
  unfold joL joH
  by_cases d1 : (cmpF lo' lo).1 < 0
  · by_cases d2 : (cmpF hi hi').1 < 0
    · rw [if_pos d1, if_pos d2]
      rw [decide_eq_true d1] at b1
      rw [decide_eq_true d2] at b2
      clear d1 d2 h1 h2 h3 h4
      have kV : BlkV ((w.alloc (.cells #[.int .u64 lo, .int .u64 hi] 24)).alloc (.cells #[.int .u64 0, .int .u64 0] 24)) (w.heap.size) 24 [.int .u64 lo, .int .u64 hi] := (BlkV.made' w (w.heap.size) (by simp) 24 [.int .u64 lo, .int .u64 hi]).alloc _
      have kR : BlkV ((w.alloc (.cells #[.int .u64 lo, .int .u64 hi] 24)).alloc (.cells #[.int .u64 0, .int .u64 0] 24)) (w.heap.size + 1) 24 [.int .u64 0, .int .u64 0] := BlkV.made' (w.alloc (.cells #[.int .u64 lo, .int .u64 hi] 24)) (w.heap.size + 1) (by simp) 24 [.int .u64 0, .int .u64 0]
      have hF : Fwd w ((w.alloc (.cells #[.int .u64 lo, .int .u64 hi] 24)).alloc (.cells #[.int .u64 0, .int .u64 0] 24)) := ((Fwd.refl w).alloc _).alloc _
      replace kB : BlkV ((w.alloc (.cells #[.int .u64 lo, .int .u64 hi] 24)).alloc (.cells #[.int .u64 0, .int .u64 0] 24)) g 24 [.int .u64 lo', .int .u64 hi'] := (kB.alloc _).alloc _
      go_enter Tryz.func53, Tryz.ntmps53
      have vc0 := BlkV.cell kV 0 rfl
      have vz0 := BlkV.frozen kV 0
      have vc1 := BlkV.cell kV 1 rfl
      have vz1 := BlkV.frozen kV 1
      have rc0 := BlkV.cell kR 0 rfl
      have rz0 := BlkV.frozen kR 0
      have rc1 := BlkV.cell kR 1 rfl
      have rz1 := BlkV.frozen kR 1
      have bc0 := BlkV.cell kB 0 rfl
      have bz0 := BlkV.frozen kB 0
      have bc1 := BlkV.cell kB 1 rfl
      have bz1 := BlkV.frozen kB 1
      go_wp2_with fail
      generalize ((w.alloc (.cells #[.int .u64 lo, .int .u64 hi] 24)).alloc (.cells #[.int .u64 0, .int .u64 0] 24)) = w0 at *
      refine wp_loop_rounds 2 ?_
      rw [rounds_succ]
      have ltV0 := BlkV.lt kV
      have ltR0 := BlkV.lt kR
      have ltB0 := BlkV.lt kB
      have hfB : Fwd w0 (w0.alloc (.cells #[.int .u64 lo', .int .u64 hi'] 24)) := (Fwd.refl _).alloc _
      replace kV := kV.fwd hfB
      replace kR := kR.fwd hfB
      replace kB := kB.fwd hfB
      replace hF := hF.trans hfB
      clear hfB
      have kI := BlkV.made w0 24 [.int .u64 lo', .int .u64 hi']
      go_upto_region 4 with fail
      clear vc0 vz0 vc1 vz1 rc0 rz0 rc1 rz1 bc0 bz0 bc1 bz1
      generalize (w0.alloc (.cells #[.int .u64 lo', .int .u64 hi'] 24)) = w1 at kI kV kR kB hF ⊢
      have vc0 := BlkV.cell kV 0 rfl
      have vz0 := BlkV.frozen kV 0
      have vc1 := BlkV.cell kV 1 rfl
      have vz1 := BlkV.frozen kV 1
      have rc0 := BlkV.cell kR 0 rfl
      have rz0 := BlkV.frozen kR 0
      have rc1 := BlkV.cell kR 1 rfl
      have rz1 := BlkV.frozen kR 1
      have bc0 := BlkV.cell kB 0 rfl
      have bz0 := BlkV.frozen kB 0
      have bc1 := BlkV.cell kB 1 rfl
      have bz1 := BlkV.frozen kB 1
      have ic0 := BlkV.cell kI 0 rfl
      have iz0 := BlkV.frozen kI 0
      have ic1 := BlkV.cell kI 1 rfl
      have iz1 := BlkV.frozen kI 1
      go_wp2_with fail
      refine (b1 _).mono ?_
      rintro e w2 ⟨rfl, hf2⟩
      clear b1
      replace kV := kV.fwd hf2
      replace kR := kR.fwd hf2
      replace kB := kB.fwd hf2
      replace kI := kI.fwd hf2
      replace hF := hF.trans hf2
      clear hf2
      clear vc0 vz0 vc1 vz1
      clear rc0 rz0 rc1 rz1
      clear bc0 bz0 bc1 bz1
      clear ic0 iz0 ic1 iz1
      have vc0 := BlkV.cell kV 0 rfl
      have vz0 := BlkV.frozen kV 0
      have vc1 := BlkV.cell kV 1 rfl
      have vz1 := BlkV.frozen kV 1
      have rc0 := BlkV.cell kR 0 rfl
      have rz0 := BlkV.frozen kR 0
      have rc1 := BlkV.cell kR 1 rfl
      have rz1 := BlkV.frozen kR 1
      have bc0 := BlkV.cell kB 0 rfl
      have bz0 := BlkV.frozen kB 0
      have bc1 := BlkV.cell kB 1 rfl
      have bz1 := BlkV.frozen kB 1
      have ic0 := BlkV.cell kI 0 rfl
      have iz0 := BlkV.frozen kI 0
      have ic1 := BlkV.cell kI 1 rfl
      have iz1 := BlkV.frozen kI 1
      go_wp2_with fail
      have t5 := BlkV.set kV 0 (.int .u64 lo')
      have o5 := BlkV.on kV 0 (.int .u64 lo')
      replace kR := BlkV.only kR o5 (by omega)
      replace kB := BlkV.only kB o5 (by omega)
      replace kI := BlkV.only kI o5 (by omega)
      replace hF := hF.wrote o5 (by omega)
      have kV := t5
      clear o5
      refine (b2 _).mono ?_
      rintro e w3 ⟨rfl, hf3⟩
      clear b2
      replace kV := kV.fwd hf3
      replace kR := kR.fwd hf3
      replace kB := kB.fwd hf3
      replace kI := kI.fwd hf3
      replace hF := hF.trans hf3
      clear hf3
      clear vc0 vz0 vc1 vz1
      clear rc0 rz0 rc1 rz1
      clear bc0 bz0 bc1 bz1
      clear ic0 iz0 ic1 iz1
      have vc0 := BlkV.cell kV 0 rfl
      have vz0 := BlkV.frozen kV 0
      have vc1 := BlkV.cell kV 1 rfl
      have vz1 := BlkV.frozen kV 1
      have rc0 := BlkV.cell kR 0 rfl
      have rz0 := BlkV.frozen kR 0
      have rc1 := BlkV.cell kR 1 rfl
      have rz1 := BlkV.frozen kR 1
      have bc0 := BlkV.cell kB 0 rfl
      have bz0 := BlkV.frozen kB 0
      have bc1 := BlkV.cell kB 1 rfl
      have bz1 := BlkV.frozen kB 1
      have ic0 := BlkV.cell kI 0 rfl
      have iz0 := BlkV.frozen kI 0
      have ic1 := BlkV.cell kI 1 rfl
      have iz1 := BlkV.frozen kI 1
      go_wp2_with fail
      have t7 := BlkV.set kV 1 (.int .u64 hi')
      have o7 := BlkV.on kV 1 (.int .u64 hi')
      replace kR := BlkV.only kR o7 (by omega)
      replace kB := BlkV.only kB o7 (by omega)
      replace kI := BlkV.only kI o7 (by omega)
      replace hF := hF.wrote o7 (by omega)
      have kV := t7
      clear o7
      clear vc0 vz0 vc1 vz1
      clear rc0 rz0 rc1 rz1
      clear bc0 bz0 bc1 bz1
      clear ic0 iz0 ic1 iz1
      have vc0 := BlkV.cell kV 0 rfl
      have vz0 := BlkV.frozen kV 0
      have vc1 := BlkV.cell kV 1 rfl
      have vz1 := BlkV.frozen kV 1
      have rc0 := BlkV.cell kR 0 rfl
      have rz0 := BlkV.frozen kR 0
      have rc1 := BlkV.cell kR 1 rfl
      have rz1 := BlkV.frozen kR 1
      have bc0 := BlkV.cell kB 0 rfl
      have bz0 := BlkV.frozen kB 0
      have bc1 := BlkV.cell kB 1 rfl
      have bz1 := BlkV.frozen kB 1
      have ic0 := BlkV.cell kI 0 rfl
      have iz0 := BlkV.frozen kI 0
      have ic1 := BlkV.cell kI 1 rfl
      have iz1 := BlkV.frozen kI 1
      rw [rounds_succ]
      go_wp2
      have r0 := BlkV.set kR 0 (.int .u64 lo')
      have rs0 := BlkV.cell r0 0 rfl
      have r1 := BlkV.set r0 1 (.int .u64 hi')
      have rs1 := BlkV.cell r1 1 rfl
      refine bodyPost_ret (by simp [results, Tryz.results53, go_sem, rs0, rs1]; try rfl) rfl ?_
      exact ⟨rfl, (hF.set (by omega)).set (by omega)⟩
    · rw [if_pos d1, if_neg d2]
      rw [decide_eq_true d1] at b1
      rw [decide_eq_false d2] at b2
      clear d1 d2 h1 h2 h3 h4
      have kV : BlkV ((w.alloc (.cells #[.int .u64 lo, .int .u64 hi] 24)).alloc (.cells #[.int .u64 0, .int .u64 0] 24)) (w.heap.size) 24 [.int .u64 lo, .int .u64 hi] := (BlkV.made' w (w.heap.size) (by simp) 24 [.int .u64 lo, .int .u64 hi]).alloc _
      have kR : BlkV ((w.alloc (.cells #[.int .u64 lo, .int .u64 hi] 24)).alloc (.cells #[.int .u64 0, .int .u64 0] 24)) (w.heap.size + 1) 24 [.int .u64 0, .int .u64 0] := BlkV.made' (w.alloc (.cells #[.int .u64 lo, .int .u64 hi] 24)) (w.heap.size + 1) (by simp) 24 [.int .u64 0, .int .u64 0]
      have hF : Fwd w ((w.alloc (.cells #[.int .u64 lo, .int .u64 hi] 24)).alloc (.cells #[.int .u64 0, .int .u64 0] 24)) := ((Fwd.refl w).alloc _).alloc _
      replace kB : BlkV ((w.alloc (.cells #[.int .u64 lo, .int .u64 hi] 24)).alloc (.cells #[.int .u64 0, .int .u64 0] 24)) g 24 [.int .u64 lo', .int .u64 hi'] := (kB.alloc _).alloc _
      go_enter Tryz.func53, Tryz.ntmps53
      have vc0 := BlkV.cell kV 0 rfl
      have vz0 := BlkV.frozen kV 0
      have vc1 := BlkV.cell kV 1 rfl
      have vz1 := BlkV.frozen kV 1
      have rc0 := BlkV.cell kR 0 rfl
      have rz0 := BlkV.frozen kR 0
      have rc1 := BlkV.cell kR 1 rfl
      have rz1 := BlkV.frozen kR 1
      have bc0 := BlkV.cell kB 0 rfl
      have bz0 := BlkV.frozen kB 0
      have bc1 := BlkV.cell kB 1 rfl
      have bz1 := BlkV.frozen kB 1
      go_wp2_with fail
      generalize ((w.alloc (.cells #[.int .u64 lo, .int .u64 hi] 24)).alloc (.cells #[.int .u64 0, .int .u64 0] 24)) = w0 at *
      refine wp_loop_rounds 2 ?_
      rw [rounds_succ]
      have ltV0 := BlkV.lt kV
      have ltR0 := BlkV.lt kR
      have ltB0 := BlkV.lt kB
      have hfB : Fwd w0 (w0.alloc (.cells #[.int .u64 lo', .int .u64 hi'] 24)) := (Fwd.refl _).alloc _
      replace kV := kV.fwd hfB
      replace kR := kR.fwd hfB
      replace kB := kB.fwd hfB
      replace hF := hF.trans hfB
      clear hfB
      have kI := BlkV.made w0 24 [.int .u64 lo', .int .u64 hi']
      go_upto_region 4 with fail
      clear vc0 vz0 vc1 vz1 rc0 rz0 rc1 rz1 bc0 bz0 bc1 bz1
      generalize (w0.alloc (.cells #[.int .u64 lo', .int .u64 hi'] 24)) = w1 at kI kV kR kB hF ⊢
      have vc0 := BlkV.cell kV 0 rfl
      have vz0 := BlkV.frozen kV 0
      have vc1 := BlkV.cell kV 1 rfl
      have vz1 := BlkV.frozen kV 1
      have rc0 := BlkV.cell kR 0 rfl
      have rz0 := BlkV.frozen kR 0
      have rc1 := BlkV.cell kR 1 rfl
      have rz1 := BlkV.frozen kR 1
      have bc0 := BlkV.cell kB 0 rfl
      have bz0 := BlkV.frozen kB 0
      have bc1 := BlkV.cell kB 1 rfl
      have bz1 := BlkV.frozen kB 1
      have ic0 := BlkV.cell kI 0 rfl
      have iz0 := BlkV.frozen kI 0
      have ic1 := BlkV.cell kI 1 rfl
      have iz1 := BlkV.frozen kI 1
      go_wp2_with fail
      refine (b1 _).mono ?_
      rintro e w2 ⟨rfl, hf2⟩
      clear b1
      replace kV := kV.fwd hf2
      replace kR := kR.fwd hf2
      replace kB := kB.fwd hf2
      replace kI := kI.fwd hf2
      replace hF := hF.trans hf2
      clear hf2
      clear vc0 vz0 vc1 vz1
      clear rc0 rz0 rc1 rz1
      clear bc0 bz0 bc1 bz1
      clear ic0 iz0 ic1 iz1
      have vc0 := BlkV.cell kV 0 rfl
      have vz0 := BlkV.frozen kV 0
      have vc1 := BlkV.cell kV 1 rfl
      have vz1 := BlkV.frozen kV 1
      have rc0 := BlkV.cell kR 0 rfl
      have rz0 := BlkV.frozen kR 0
      have rc1 := BlkV.cell kR 1 rfl
      have rz1 := BlkV.frozen kR 1
      have bc0 := BlkV.cell kB 0 rfl
      have bz0 := BlkV.frozen kB 0
      have bc1 := BlkV.cell kB 1 rfl
      have bz1 := BlkV.frozen kB 1
      have ic0 := BlkV.cell kI 0 rfl
      have iz0 := BlkV.frozen kI 0
      have ic1 := BlkV.cell kI 1 rfl
      have iz1 := BlkV.frozen kI 1
      go_wp2_with fail
      have t5 := BlkV.set kV 0 (.int .u64 lo')
      have o5 := BlkV.on kV 0 (.int .u64 lo')
      replace kR := BlkV.only kR o5 (by omega)
      replace kB := BlkV.only kB o5 (by omega)
      replace kI := BlkV.only kI o5 (by omega)
      replace hF := hF.wrote o5 (by omega)
      have kV := t5
      clear o5
      refine (b2 _).mono ?_
      rintro e w3 ⟨rfl, hf3⟩
      clear b2
      replace kV := kV.fwd hf3
      replace kR := kR.fwd hf3
      replace kB := kB.fwd hf3
      replace kI := kI.fwd hf3
      replace hF := hF.trans hf3
      clear hf3
      clear vc0 vz0 vc1 vz1
      clear rc0 rz0 rc1 rz1
      clear bc0 bz0 bc1 bz1
      clear ic0 iz0 ic1 iz1
      have vc0 := BlkV.cell kV 0 rfl
      have vz0 := BlkV.frozen kV 0
      have vc1 := BlkV.cell kV 1 rfl
      have vz1 := BlkV.frozen kV 1
      have rc0 := BlkV.cell kR 0 rfl
      have rz0 := BlkV.frozen kR 0
      have rc1 := BlkV.cell kR 1 rfl
      have rz1 := BlkV.frozen kR 1
      have bc0 := BlkV.cell kB 0 rfl
      have bz0 := BlkV.frozen kB 0
      have bc1 := BlkV.cell kB 1 rfl
      have bz1 := BlkV.frozen kB 1
      have ic0 := BlkV.cell kI 0 rfl
      have iz0 := BlkV.frozen kI 0
      have ic1 := BlkV.cell kI 1 rfl
      have iz1 := BlkV.frozen kI 1
      go_wp2_with fail
      rw [rounds_succ]
      go_wp2
      have r0 := BlkV.set kR 0 (.int .u64 lo')
      have rs0 := BlkV.cell r0 0 rfl
      have r1 := BlkV.set r0 1 (.int .u64 hi)
      have rs1 := BlkV.cell r1 1 rfl
      refine bodyPost_ret (by simp [results, Tryz.results53, go_sem, rs0, rs1]; try rfl) rfl ?_
      exact ⟨rfl, (hF.set (by omega)).set (by omega)⟩
  · by_cases d2 : (cmpF hi hi').1 < 0
    · rw [if_neg d1, if_pos d2]
      rw [decide_eq_false d1] at b1
      rw [decide_eq_true d2] at b2
      clear d1 d2 h1 h2 h3 h4
      have kV : BlkV ((w.alloc (.cells #[.int .u64 lo, .int .u64 hi] 24)).alloc (.cells #[.int .u64 0, .int .u64 0] 24)) (w.heap.size) 24 [.int .u64 lo, .int .u64 hi] := (BlkV.made' w (w.heap.size) (by simp) 24 [.int .u64 lo, .int .u64 hi]).alloc _
      have kR : BlkV ((w.alloc (.cells #[.int .u64 lo, .int .u64 hi] 24)).alloc (.cells #[.int .u64 0, .int .u64 0] 24)) (w.heap.size + 1) 24 [.int .u64 0, .int .u64 0] := BlkV.made' (w.alloc (.cells #[.int .u64 lo, .int .u64 hi] 24)) (w.heap.size + 1) (by simp) 24 [.int .u64 0, .int .u64 0]
      have hF : Fwd w ((w.alloc (.cells #[.int .u64 lo, .int .u64 hi] 24)).alloc (.cells #[.int .u64 0, .int .u64 0] 24)) := ((Fwd.refl w).alloc _).alloc _
      replace kB : BlkV ((w.alloc (.cells #[.int .u64 lo, .int .u64 hi] 24)).alloc (.cells #[.int .u64 0, .int .u64 0] 24)) g 24 [.int .u64 lo', .int .u64 hi'] := (kB.alloc _).alloc _
      go_enter Tryz.func53, Tryz.ntmps53
      have vc0 := BlkV.cell kV 0 rfl
      have vz0 := BlkV.frozen kV 0
      have vc1 := BlkV.cell kV 1 rfl
      have vz1 := BlkV.frozen kV 1
      have rc0 := BlkV.cell kR 0 rfl
      have rz0 := BlkV.frozen kR 0
      have rc1 := BlkV.cell kR 1 rfl
      have rz1 := BlkV.frozen kR 1
      have bc0 := BlkV.cell kB 0 rfl
      have bz0 := BlkV.frozen kB 0
      have bc1 := BlkV.cell kB 1 rfl
      have bz1 := BlkV.frozen kB 1
      go_wp2_with fail
      generalize ((w.alloc (.cells #[.int .u64 lo, .int .u64 hi] 24)).alloc (.cells #[.int .u64 0, .int .u64 0] 24)) = w0 at *
      refine wp_loop_rounds 2 ?_
      rw [rounds_succ]
      have ltV0 := BlkV.lt kV
      have ltR0 := BlkV.lt kR
      have ltB0 := BlkV.lt kB
      have hfB : Fwd w0 (w0.alloc (.cells #[.int .u64 lo', .int .u64 hi'] 24)) := (Fwd.refl _).alloc _
      replace kV := kV.fwd hfB
      replace kR := kR.fwd hfB
      replace kB := kB.fwd hfB
      replace hF := hF.trans hfB
      clear hfB
      have kI := BlkV.made w0 24 [.int .u64 lo', .int .u64 hi']
      go_upto_region 4 with fail
      clear vc0 vz0 vc1 vz1 rc0 rz0 rc1 rz1 bc0 bz0 bc1 bz1
      generalize (w0.alloc (.cells #[.int .u64 lo', .int .u64 hi'] 24)) = w1 at kI kV kR kB hF ⊢
      have vc0 := BlkV.cell kV 0 rfl
      have vz0 := BlkV.frozen kV 0
      have vc1 := BlkV.cell kV 1 rfl
      have vz1 := BlkV.frozen kV 1
      have rc0 := BlkV.cell kR 0 rfl
      have rz0 := BlkV.frozen kR 0
      have rc1 := BlkV.cell kR 1 rfl
      have rz1 := BlkV.frozen kR 1
      have bc0 := BlkV.cell kB 0 rfl
      have bz0 := BlkV.frozen kB 0
      have bc1 := BlkV.cell kB 1 rfl
      have bz1 := BlkV.frozen kB 1
      have ic0 := BlkV.cell kI 0 rfl
      have iz0 := BlkV.frozen kI 0
      have ic1 := BlkV.cell kI 1 rfl
      have iz1 := BlkV.frozen kI 1
      go_wp2_with fail
      refine (b1 _).mono ?_
      rintro e w2 ⟨rfl, hf2⟩
      clear b1
      replace kV := kV.fwd hf2
      replace kR := kR.fwd hf2
      replace kB := kB.fwd hf2
      replace kI := kI.fwd hf2
      replace hF := hF.trans hf2
      clear hf2
      clear vc0 vz0 vc1 vz1
      clear rc0 rz0 rc1 rz1
      clear bc0 bz0 bc1 bz1
      clear ic0 iz0 ic1 iz1
      have vc0 := BlkV.cell kV 0 rfl
      have vz0 := BlkV.frozen kV 0
      have vc1 := BlkV.cell kV 1 rfl
      have vz1 := BlkV.frozen kV 1
      have rc0 := BlkV.cell kR 0 rfl
      have rz0 := BlkV.frozen kR 0
      have rc1 := BlkV.cell kR 1 rfl
      have rz1 := BlkV.frozen kR 1
      have bc0 := BlkV.cell kB 0 rfl
      have bz0 := BlkV.frozen kB 0
      have bc1 := BlkV.cell kB 1 rfl
      have bz1 := BlkV.frozen kB 1
      have ic0 := BlkV.cell kI 0 rfl
      have iz0 := BlkV.frozen kI 0
      have ic1 := BlkV.cell kI 1 rfl
      have iz1 := BlkV.frozen kI 1
      go_wp2_with fail
      refine (b2 _).mono ?_
      rintro e w3 ⟨rfl, hf3⟩
      clear b2
      replace kV := kV.fwd hf3
      replace kR := kR.fwd hf3
      replace kB := kB.fwd hf3
      replace kI := kI.fwd hf3
      replace hF := hF.trans hf3
      clear hf3
      clear vc0 vz0 vc1 vz1
      clear rc0 rz0 rc1 rz1
      clear bc0 bz0 bc1 bz1
      clear ic0 iz0 ic1 iz1
      have vc0 := BlkV.cell kV 0 rfl
      have vz0 := BlkV.frozen kV 0
      have vc1 := BlkV.cell kV 1 rfl
      have vz1 := BlkV.frozen kV 1
      have rc0 := BlkV.cell kR 0 rfl
      have rz0 := BlkV.frozen kR 0
      have rc1 := BlkV.cell kR 1 rfl
      have rz1 := BlkV.frozen kR 1
      have bc0 := BlkV.cell kB 0 rfl
      have bz0 := BlkV.frozen kB 0
      have bc1 := BlkV.cell kB 1 rfl
      have bz1 := BlkV.frozen kB 1
      have ic0 := BlkV.cell kI 0 rfl
      have iz0 := BlkV.frozen kI 0
      have ic1 := BlkV.cell kI 1 rfl
      have iz1 := BlkV.frozen kI 1
      go_wp2_with fail
      have t5 := BlkV.set kV 1 (.int .u64 hi')
      have o5 := BlkV.on kV 1 (.int .u64 hi')
      replace kR := BlkV.only kR o5 (by omega)
      replace kB := BlkV.only kB o5 (by omega)
      replace kI := BlkV.only kI o5 (by omega)
      replace hF := hF.wrote o5 (by omega)
      have kV := t5
      clear o5
      clear vc0 vz0 vc1 vz1
      clear rc0 rz0 rc1 rz1
      clear bc0 bz0 bc1 bz1
      clear ic0 iz0 ic1 iz1
      have vc0 := BlkV.cell kV 0 rfl
      have vz0 := BlkV.frozen kV 0
      have vc1 := BlkV.cell kV 1 rfl
      have vz1 := BlkV.frozen kV 1
      have rc0 := BlkV.cell kR 0 rfl
      have rz0 := BlkV.frozen kR 0
      have rc1 := BlkV.cell kR 1 rfl
      have rz1 := BlkV.frozen kR 1
      have bc0 := BlkV.cell kB 0 rfl
      have bz0 := BlkV.frozen kB 0
      have bc1 := BlkV.cell kB 1 rfl
      have bz1 := BlkV.frozen kB 1
      have ic0 := BlkV.cell kI 0 rfl
      have iz0 := BlkV.frozen kI 0
      have ic1 := BlkV.cell kI 1 rfl
      have iz1 := BlkV.frozen kI 1
      rw [rounds_succ]
      go_wp2
      have r0 := BlkV.set kR 0 (.int .u64 lo)
      have rs0 := BlkV.cell r0 0 rfl
      have r1 := BlkV.set r0 1 (.int .u64 hi')
      have rs1 := BlkV.cell r1 1 rfl
      refine bodyPost_ret (by simp [results, Tryz.results53, go_sem, rs0, rs1]; try rfl) rfl ?_
      exact ⟨rfl, (hF.set (by omega)).set (by omega)⟩
    · rw [if_neg d1, if_neg d2]
      rw [decide_eq_false d1] at b1
      rw [decide_eq_false d2] at b2
      clear d1 d2 h1 h2 h3 h4
      have kV : BlkV ((w.alloc (.cells #[.int .u64 lo, .int .u64 hi] 24)).alloc (.cells #[.int .u64 0, .int .u64 0] 24)) (w.heap.size) 24 [.int .u64 lo, .int .u64 hi] := (BlkV.made' w (w.heap.size) (by simp) 24 [.int .u64 lo, .int .u64 hi]).alloc _
      have kR : BlkV ((w.alloc (.cells #[.int .u64 lo, .int .u64 hi] 24)).alloc (.cells #[.int .u64 0, .int .u64 0] 24)) (w.heap.size + 1) 24 [.int .u64 0, .int .u64 0] := BlkV.made' (w.alloc (.cells #[.int .u64 lo, .int .u64 hi] 24)) (w.heap.size + 1) (by simp) 24 [.int .u64 0, .int .u64 0]
      have hF : Fwd w ((w.alloc (.cells #[.int .u64 lo, .int .u64 hi] 24)).alloc (.cells #[.int .u64 0, .int .u64 0] 24)) := ((Fwd.refl w).alloc _).alloc _
      replace kB : BlkV ((w.alloc (.cells #[.int .u64 lo, .int .u64 hi] 24)).alloc (.cells #[.int .u64 0, .int .u64 0] 24)) g 24 [.int .u64 lo', .int .u64 hi'] := (kB.alloc _).alloc _
      go_enter Tryz.func53, Tryz.ntmps53
      have vc0 := BlkV.cell kV 0 rfl
      have vz0 := BlkV.frozen kV 0
      have vc1 := BlkV.cell kV 1 rfl
      have vz1 := BlkV.frozen kV 1
      have rc0 := BlkV.cell kR 0 rfl
      have rz0 := BlkV.frozen kR 0
      have rc1 := BlkV.cell kR 1 rfl
      have rz1 := BlkV.frozen kR 1
      have bc0 := BlkV.cell kB 0 rfl
      have bz0 := BlkV.frozen kB 0
      have bc1 := BlkV.cell kB 1 rfl
      have bz1 := BlkV.frozen kB 1
      go_wp2_with fail
      generalize ((w.alloc (.cells #[.int .u64 lo, .int .u64 hi] 24)).alloc (.cells #[.int .u64 0, .int .u64 0] 24)) = w0 at *
      refine wp_loop_rounds 2 ?_
      rw [rounds_succ]
      have ltV0 := BlkV.lt kV
      have ltR0 := BlkV.lt kR
      have ltB0 := BlkV.lt kB
      have hfB : Fwd w0 (w0.alloc (.cells #[.int .u64 lo', .int .u64 hi'] 24)) := (Fwd.refl _).alloc _
      replace kV := kV.fwd hfB
      replace kR := kR.fwd hfB
      replace kB := kB.fwd hfB
      replace hF := hF.trans hfB
      clear hfB
      have kI := BlkV.made w0 24 [.int .u64 lo', .int .u64 hi']
      go_upto_region 4 with fail
      clear vc0 vz0 vc1 vz1 rc0 rz0 rc1 rz1 bc0 bz0 bc1 bz1
      generalize (w0.alloc (.cells #[.int .u64 lo', .int .u64 hi'] 24)) = w1 at kI kV kR kB hF ⊢
      have vc0 := BlkV.cell kV 0 rfl
      have vz0 := BlkV.frozen kV 0
      have vc1 := BlkV.cell kV 1 rfl
      have vz1 := BlkV.frozen kV 1
      have rc0 := BlkV.cell kR 0 rfl
      have rz0 := BlkV.frozen kR 0
      have rc1 := BlkV.cell kR 1 rfl
      have rz1 := BlkV.frozen kR 1
      have bc0 := BlkV.cell kB 0 rfl
      have bz0 := BlkV.frozen kB 0
      have bc1 := BlkV.cell kB 1 rfl
      have bz1 := BlkV.frozen kB 1
      have ic0 := BlkV.cell kI 0 rfl
      have iz0 := BlkV.frozen kI 0
      have ic1 := BlkV.cell kI 1 rfl
      have iz1 := BlkV.frozen kI 1
      go_wp2_with fail
      refine (b1 _).mono ?_
      rintro e w2 ⟨rfl, hf2⟩
      clear b1
      replace kV := kV.fwd hf2
      replace kR := kR.fwd hf2
      replace kB := kB.fwd hf2
      replace kI := kI.fwd hf2
      replace hF := hF.trans hf2
      clear hf2
      clear vc0 vz0 vc1 vz1
      clear rc0 rz0 rc1 rz1
      clear bc0 bz0 bc1 bz1
      clear ic0 iz0 ic1 iz1
      have vc0 := BlkV.cell kV 0 rfl
      have vz0 := BlkV.frozen kV 0
      have vc1 := BlkV.cell kV 1 rfl
      have vz1 := BlkV.frozen kV 1
      have rc0 := BlkV.cell kR 0 rfl
      have rz0 := BlkV.frozen kR 0
      have rc1 := BlkV.cell kR 1 rfl
      have rz1 := BlkV.frozen kR 1
      have bc0 := BlkV.cell kB 0 rfl
      have bz0 := BlkV.frozen kB 0
      have bc1 := BlkV.cell kB 1 rfl
      have bz1 := BlkV.frozen kB 1
      have ic0 := BlkV.cell kI 0 rfl
      have iz0 := BlkV.frozen kI 0
      have ic1 := BlkV.cell kI 1 rfl
      have iz1 := BlkV.frozen kI 1
      go_wp2_with fail
      refine (b2 _).mono ?_
      rintro e w3 ⟨rfl, hf3⟩
      clear b2
      replace kV := kV.fwd hf3
      replace kR := kR.fwd hf3
      replace kB := kB.fwd hf3
      replace kI := kI.fwd hf3
      replace hF := hF.trans hf3
      clear hf3
      clear vc0 vz0 vc1 vz1
      clear rc0 rz0 rc1 rz1
      clear bc0 bz0 bc1 bz1
      clear ic0 iz0 ic1 iz1
      have vc0 := BlkV.cell kV 0 rfl
      have vz0 := BlkV.frozen kV 0
      have vc1 := BlkV.cell kV 1 rfl
      have vz1 := BlkV.frozen kV 1
      have rc0 := BlkV.cell kR 0 rfl
      have rz0 := BlkV.frozen kR 0
      have rc1 := BlkV.cell kR 1 rfl
      have rz1 := BlkV.frozen kR 1
      have bc0 := BlkV.cell kB 0 rfl
      have bz0 := BlkV.frozen kB 0
      have bc1 := BlkV.cell kB 1 rfl
      have bz1 := BlkV.frozen kB 1
      have ic0 := BlkV.cell kI 0 rfl
      have iz0 := BlkV.frozen kI 0
      have ic1 := BlkV.cell kI 1 rfl
      have iz1 := BlkV.frozen kI 1
      go_wp2_with fail
      rw [rounds_succ]
      go_wp2
      have r0 := BlkV.set kR 0 (.int .u64 lo)
      have rs0 := BlkV.cell r0 0 rfl
      have r1 := BlkV.set r0 1 (.int .u64 hi)
      have rs1 := BlkV.cell r1 1 rfl
      refine bodyPost_ret (by simp [results, Tryz.results53, go_sem, rs0, rs1]; try rfl) rfl ?_
      exact ⟨rfl, (hF.set (by omega)).set (by omega)⟩

set_option maxHeartbeats 8000000 in
set_option maxRecDepth 100000 in
/-- Has of what changes nothing. -/
theorem ivHas_in {w : World} {v : Value} {s : Bool} {N D lo hi lo' hi' : Nat} (hR : Ru w) (h : RW w v s N D) (bN : nl N ≤ 10000) (bD : nl D ≤ 10000) (hD0 : D ≠ 0) (h1 : lo < 18446744073709551616) (h2 : hi < 18446744073709551616) (h3 : lo' < 18446744073709551616) (h4 : hi' < 18446744073709551616) (g1 : (ofQ 2 s N D).1 = lo') (g2 : (ofQ 3 s N D).1 = hi') (e1 : joL lo lo' = lo) (e2 : joH hi hi' = hi) :
    Calls Tryz.prog 16 #[.agg #[.int .u64 lo, .int .u64 hi], v] w fun e w' => e = .returned (.bool true) ∧ Fwd w w' := by
  have c1 := fun (w' : World) (g : Fwd w w') => ivOf_any (hR.fwd g) (h.fwd g) bN bD hD0
  rw [g1, g2] at c1
  have c2 := fun (w' : World) (g : Nat) (k : BlkV w' g 24 [.int .u64 lo', .int .u64 hi']) => join1_any (w := w') (g := g) h1 h2 h3 h4 k
  rw [e1, e2] at c2
  obtain ⟨xo, xc, yo, yc, rfl, x1, x2, x3, x4, -, -⟩ := RW.open h
  clear h hR e1 e2 g1 g2 h1 h2 h3 h4
  have kI : BlkV ((w.alloc (.cells #[.int .u64 lo, .int .u64 hi] 24)).alloc (.cells #[.bool s, .slice xo (nl N) xc, .slice yo (nl D) yc] 27)) (w.heap.size) 24 [.int .u64 lo, .int .u64 hi] := (BlkV.made' w (w.heap.size) (by simp) 24 [.int .u64 lo, .int .u64 hi]).alloc _
  have kA : BlkV ((w.alloc (.cells #[.int .u64 lo, .int .u64 hi] 24)).alloc (.cells #[.bool s, .slice xo (nl N) xc, .slice yo (nl D) yc] 27)) (w.heap.size + 1) 27 [.bool s, .slice xo (nl N) xc, .slice yo (nl D) yc] := BlkV.made' (w.alloc (.cells #[.int .u64 lo, .int .u64 hi] 24)) (w.heap.size + 1) (by simp) 27 [.bool s, .slice xo (nl N) xc, .slice yo (nl D) yc]
  have hF : Fwd w ((w.alloc (.cells #[.int .u64 lo, .int .u64 hi] 24)).alloc (.cells #[.bool s, .slice xo (nl N) xc, .slice yo (nl D) yc] 27)) := ((Fwd.refl w).alloc _).alloc _
  go_enter Tryz.func16, Tryz.ntmps16
  have ic0 := BlkV.cell kI 0 rfl
  have iz0 := BlkV.frozen kI 0
  have ic1 := BlkV.cell kI 1 rfl
  have iz1 := BlkV.frozen kI 1
  have ac0 := BlkV.cell kA 0 rfl
  have az0 := BlkV.frozen kA 0
  have ac1 := BlkV.cell kA 1 rfl
  have az1 := BlkV.frozen kA 1
  have ac2 := BlkV.cell kA 2 rfl
  have az2 := BlkV.frozen kA 2
  go_wp2_with fail
  replace kI := kI.drew
  replace kA := kA.drew
  replace hF := hF.drew
  clear ic0 iz0 ic1 iz1
  clear ac0 az0 ac1 az1 ac2 az2
  have ic0 := BlkV.cell kI 0 rfl
  have iz0 := BlkV.frozen kI 0
  have ic1 := BlkV.cell kI 1 rfl
  have iz1 := BlkV.frozen kI 1
  have ac0 := BlkV.cell kA 0 rfl
  have az0 := BlkV.frozen kA 0
  have ac1 := BlkV.cell kA 1 rfl
  have az1 := BlkV.frozen kA 1
  have ac2 := BlkV.cell kA 2 rfl
  have az2 := BlkV.frozen kA 2
  refine wp_region_held_drew (S := fun w' => w'.cell? ⟨w.heap.size, 0, none⟩ = some (.int .u64 lo) ∧ w'.cell? ⟨w.heap.size, 1, none⟩ = some (.int .u64 hi) ∧ w'.cell? ⟨w.heap.size + 1, 0, none⟩ = some (.bool s) ∧ w'.cell? ⟨w.heap.size + 1, 1, none⟩ = some (.slice xo (nl N) xc) ∧ w'.cell? ⟨w.heap.size + 1, 2, none⟩ = some (.slice yo (nl D) yc)) (by kernel_rfl) ⟨by with_reducible assumption, by with_reducible assumption, by with_reducible assumption, by with_reducible assumption, by with_reducible assumption⟩ (fun hHeld => ?_)
  refine wpAnyH_take (i := 0) (oi := ?oi1_0) (v := ?vv1_0) ?hi1_0 (by kernel_rfl) (by kernel_rfl) (by kernel_rfl) ?hq1_0 ?hy1_0 hHeld ?rest1_0
  case hi1_0 => (simp only [List.getElem?_toArray, List.getElem?_cons_succ, List.getElem?_cons_zero]; rfl)
  case hq1_0 => exact fun _ _ _ h => h
  case hy1_0 =>
    refine Or.inl ⟨by rfl, ?_⟩
    intro wS hSw
    try dsimp only at hSw
    obtain ⟨q0, q1, q2, q3, q4⟩ := hSw
    go_simp
    try with_reducible rfl
  simp only [Act.put, List.setIfInBounds_toArray, List.set_cons_zero, List.set_cons_succ]
  refine wpAnyH_take (i := 1) (oi := ?oi2_1) (v := ?vv2_1) ?hi2_1 (by kernel_rfl) (by kernel_rfl) (by kernel_rfl) ?hq2_1 ?hy2_1 hHeld ?rest2_1
  case hi2_1 => (simp only [List.getElem?_toArray, List.getElem?_cons_succ, List.getElem?_cons_zero]; rfl)
  case hq2_1 => exact fun _ _ _ h => h
  case hy2_1 =>
    refine Or.inl ⟨by rfl, ?_⟩
    intro wS hSw
    try dsimp only at hSw
    obtain ⟨q0, q1, q2, q3, q4⟩ := hSw
    go_simp
    try with_reducible rfl
  simp only [Act.put, List.setIfInBounds_toArray, List.set_cons_zero, List.set_cons_succ]
  refine wpAnyH_take (i := 5) (oi := ?oi3_5) (v := ?vv3_5) ?hi3_5 (by kernel_rfl) (by kernel_rfl) (by kernel_rfl) ?hq3_5 ?hy3_5 hHeld ?rest3_5
  case hi3_5 => (simp only [List.getElem?_toArray, List.getElem?_cons_succ, List.getElem?_cons_zero]; rfl)
  case hq3_5 => exact fun _ _ _ h => h
  case hy3_5 =>
    refine Or.inl ⟨by rfl, ?_⟩
    intro wS hSw
    try dsimp only at hSw
    obtain ⟨q0, q1, q2, q3, q4⟩ := hSw
    go_simp
    try with_reducible rfl
  simp only [Act.put, List.setIfInBounds_toArray, List.set_cons_zero, List.set_cons_succ]
  refine wpAnyH_ready (rs := [2]) (by kernel_rfl) (by simp) ?_
  refine AllReadyH.cons rfl (fun K hK => ?_) AllReadyH.nil
  go_simp
  refine (c1 _ hF).mono ?_
  rintro e w1 ⟨rfl, hf1⟩
  clear c1
  replace kI := kI.fwd hf1
  replace kA := kA.fwd hf1
  replace hF := hF.trans hf1
  clear hf1
  clear ic0 iz0 ic1 iz1
  clear ac0 az0 ac1 az1 ac2 az2
  have ic0 := BlkV.cell kI 0 rfl
  have iz0 := BlkV.frozen kI 0
  have ic1 := BlkV.cell kI 1 rfl
  have iz1 := BlkV.frozen kI 1
  have ac0 := BlkV.cell kA 0 rfl
  have az0 := BlkV.frozen kA 0
  have ac1 := BlkV.cell kA 1 rfl
  have az1 := BlkV.frozen kA 1
  have ac2 := BlkV.cell kA 2 rfl
  have az2 := BlkV.frozen kA 2
  go_wp2_with fail
  clear hHeld
  refine hK.out _ _ ⟨by with_reducible assumption, by with_reducible assumption, by with_reducible assumption, by with_reducible assumption, by with_reducible assumption⟩ (fun hHeld => ?_)
  clear hK K
  try simp only [Act.put, List.setIfInBounds_toArray, List.set_cons_zero, List.set_cons_succ]
  refine wpAnyH_ready (rs := [3]) (by kernel_rfl) (by simp) ?_
  refine AllReadyH.cons rfl (fun K hK => ?_) AllReadyH.nil
  have hfS1 : Fwd w1 (w1.alloc (.cells #[.int .u64 lo', .int .u64 hi'] 24)) := (Fwd.refl _).alloc _
  have kB := BlkV.made w1 24 [.int .u64 lo', .int .u64 hi']
  replace kI := kI.fwd hfS1
  replace kA := kA.fwd hfS1
  replace hF := hF.trans hfS1
  clear hfS1
  clear ic0 iz0 ic1 iz1
  clear ac0 az0 ac1 az1 ac2 az2
  have ic0 := BlkV.cell kI 0 rfl
  have iz0 := BlkV.frozen kI 0
  have ic1 := BlkV.cell kI 1 rfl
  have iz1 := BlkV.frozen kI 1
  have ac0 := BlkV.cell kA 0 rfl
  have az0 := BlkV.frozen kA 0
  have ac1 := BlkV.cell kA 1 rfl
  have az1 := BlkV.frozen kA 1
  have ac2 := BlkV.cell kA 2 rfl
  have az2 := BlkV.frozen kA 2
  go_wp2_with fail
  clear hHeld
  refine hK.out _ _ ⟨by with_reducible assumption, by with_reducible assumption, by with_reducible assumption, by with_reducible assumption, by with_reducible assumption⟩ (fun hHeld => ?_)
  clear hK K
  try simp only [Act.put, List.setIfInBounds_toArray, List.set_cons_zero, List.set_cons_succ]
  refine wpAnyH_ready (rs := [4]) (by kernel_rfl) (by simp) ?_
  refine AllReadyH.cons rfl (fun K hK => ?_) AllReadyH.nil
  go_simp
  refine (c2 _ _ kB).mono ?_
  rintro e w2 ⟨rfl, hf2⟩
  clear c2
  replace kI := kI.fwd hf2
  replace kA := kA.fwd hf2
  replace hF := hF.trans hf2
  clear hf2
  clear ic0 iz0 ic1 iz1
  clear ac0 az0 ac1 az1 ac2 az2
  have ic0 := BlkV.cell kI 0 rfl
  have iz0 := BlkV.frozen kI 0
  have ic1 := BlkV.cell kI 1 rfl
  have iz1 := BlkV.frozen kI 1
  have ac0 := BlkV.cell kA 0 rfl
  have az0 := BlkV.frozen kA 0
  have ac1 := BlkV.cell kA 1 rfl
  have az1 := BlkV.frozen kA 1
  have ac2 := BlkV.cell kA 2 rfl
  have az2 := BlkV.frozen kA 2
  go_wp2_with fail
  clear hHeld
  refine hK.out _ _ ⟨by with_reducible assumption, by with_reducible assumption, by with_reducible assumption, by with_reducible assumption, by with_reducible assumption⟩ (fun hHeld => ?_)
  clear hK K
  try simp only [Act.put, List.setIfInBounds_toArray, List.set_cons_zero, List.set_cons_succ]
  refine wpAnyH_take (i := 6) (oi := ?oi4_6) (v := ?vv4_6) ?hi4_6 (by kernel_rfl) (by kernel_rfl) (by kernel_rfl) ?hq4_6 ?hy4_6 hHeld ?rest4_6
  case hi4_6 => (simp only [List.getElem?_toArray, List.getElem?_cons_succ, List.getElem?_cons_zero]; rfl)
  case hq4_6 => exact fun _ _ _ h => h
  case hy4_6 =>
    refine Or.inl ⟨by rfl, ?_⟩
    intro wS hSw
    try dsimp only at hSw
    obtain ⟨q0, q1, q2, q3, q4⟩ := hSw
    go_simp
    try with_reducible rfl
  simp only [Act.put, List.setIfInBounds_toArray, List.set_cons_zero, List.set_cons_succ]
  refine wpAnyH_take (i := 7) (oi := ?oi5_7) (v := ?vv5_7) ?hi5_7 (by kernel_rfl) (by kernel_rfl) (by kernel_rfl) ?hq5_7 ?hy5_7 hHeld ?rest5_7
  case hi5_7 => (simp only [List.getElem?_toArray, List.getElem?_cons_succ, List.getElem?_cons_zero]; rfl)
  case hq5_7 => exact fun _ _ _ h => h
  case hy5_7 =>
    refine Or.inl ⟨by rfl, ?_⟩
    intro wS hSw
    try dsimp only at hSw
    obtain ⟨q0, q1, q2, q3, q4⟩ := hSw
    go_simp
    try with_reducible rfl
  simp only [Act.put, List.setIfInBounds_toArray, List.set_cons_zero, List.set_cons_succ]
  refine wpAnyH_done (by kernel_rfl) ?_ _
  go_wp2
  go_ret
  exact ⟨rfl, hF⟩
end Go.Proofs.YtcfhajnboamnnabGreatDoor
