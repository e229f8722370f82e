/- The second telling's Int. -/
import Derived.Test.YtfegepkhfckamaaGreatDoorKI
import Derived.Test.YtfegepkhfckamaaGreatDoorKL
import Derived.Deep.DeepCutAuto
namespace Go.Proofs.YtfegepkhfckamaaGreatDoor
open Go.RowKit
set_option linter.unusedVariables false

theorem mkQ_int (n : Int) : mkQ (!(decide (n < 0) == decide ((1 : Int) < 0))) n.natAbs (1 : Int).natAbs = (n : Rat) := by
  have h1 : decide ((1 : Int) < 0) = false := by decide
  have h2 : (1 : Int).natAbs = 1 := rfl
  have h3 : sgQ (!(decide (n < 0) == false)) n.natAbs = n := by
    by_cases h : n < 0
    · simp [sgQ, h]; omega
    · simp [sgQ, h]; omega
  unfold mkQ
  rw [h1, h2, h3, Rat.mkRat_one]

set_option maxHeartbeats 4000000 in
set_option maxRecDepth 20000 in
theorem int2_any (w : World) (n : Int) (n1 : -9223372036854775808 ≤ n) (n2 : n ≤ 9223372036854775807) :
    Calls Tryz.prog 13 #[.int .i64 n] w fun e w' => ∃ v, e = .returned v ∧ RV w' v (n : Rat) ∧ Fwd w w' := by
  have HQ := hid (mkQ_int n)
  have kR : BlkV (w.alloc (.cells #[.bool false, .slice none 0 0, .slice none 0 0] 37)) (w.heap.size) 37 [.bool false, .slice none 0 0, .slice none 0 0] := BlkV.made' w (w.heap.size) (by simp) 37 [.bool false, .slice none 0 0, .slice none 0 0]
  have hF : Fwd w (w.alloc (.cells #[.bool false, .slice none 0 0, .slice none 0 0] 37)) := (Fwd.refl w).alloc _
  go_enter Tryz.func13, Tryz.ntmps13
  have rc0 := BlkV.cell kR 0 rfl
  have rz0 := BlkV.frozen kR 0
  have rc1 := BlkV.cell kR 1 rfl
  have rz1 := BlkV.frozen kR 1
  have rc2 := BlkV.cell kR 2 rfl
  have rz2 := BlkV.frozen kR 2
  go_wp2_with fail
  refine (of2_any _ n 1 n1 n2 (by omega) (by omega) (by omega)).mono ?_
  rintro e w1 ⟨v, rfl, rQ, hf1⟩
  replace kR := kR.fwd hf1
  replace hF := hF.trans hf1
  clear hf1
  clear rc0 rz0 rc1 rz1 rc2 rz2
  have rc0 := BlkV.cell kR 0 rfl
  have rz0 := BlkV.frozen kR 0
  have rc1 := BlkV.cell kR 1 rfl
  have rz1 := BlkV.frozen kR 1
  have rc2 := BlkV.cell kR 2 rfl
  have rz2 := BlkV.frozen kR 2
  rw [HQ.out] at rQ
  generalize hq : ((n : Int) : Rat) = q at rQ
  have HN := hid hq
  clear hq
  have HV := hid rQ
  obtain ⟨poQ, pcQ, qoQ, qcQ, rfl, p1Q, p2Q, p3Q, p4Q, -, -⟩ := RW.open rQ.rw'
  clear rQ
  have rQ : RW _ _ _ _ _ := HV.out
  clear HV
  generalize hqs : negQ q = sq at rQ ⊢
  generalize hqn : q.num.natAbs = qn at rQ p1Q p2Q ⊢
  generalize hqd : q.den = qd at rQ p3Q p4Q ⊢
  have HQS := hid hqs
  have HQN := hid hqn
  have HQD := hid hqd
  clear hqs hqn hqd
  have ltR1 := BlkV.lt kR
  have hfB : Fwd w1 (w1.alloc (.cells #[.bool sq, .slice poQ (nl qn) pcQ, .slice qoQ (nl qd) qcQ] 37)) := (Fwd.refl _).alloc _
  replace rQ := rQ.fwd hfB
  replace kR := kR.fwd hfB
  replace hF := hF.trans hfB
  clear hfB
  clear rc0 rz0 rc1 rz1 rc2 rz2
  have rc0 := BlkV.cell kR 0 rfl
  have rz0 := BlkV.frozen kR 0
  have rc1 := BlkV.cell kR 1 rfl
  have rz1 := BlkV.frozen kR 1
  have rc2 := BlkV.cell kR 2 rfl
  have rz2 := BlkV.frozen kR 2
  have kT := BlkV.made w1 37 [.bool sq, .slice poQ (nl qn) pcQ, .slice qoQ (nl qd) qcQ]
  go_upto_region 2 with fail
  generalize (w1.alloc (.cells #[.bool sq, .slice poQ (nl qn) pcQ, .slice qoQ (nl qd) qcQ] 37)) = w2 at kT rQ kR hF ⊢
  clear rc0 rz0 rc1 rz1 rc2 rz2
  have rc0 := BlkV.cell kR 0 rfl
  have rz0 := BlkV.frozen kR 0
  have rc1 := BlkV.cell kR 1 rfl
  have rz1 := BlkV.frozen kR 1
  have rc2 := BlkV.cell kR 2 rfl
  have rz2 := BlkV.frozen kR 2
  have tc0 := BlkV.cell kT 0 rfl
  have tc1 := BlkV.cell kT 1 rfl
  have tc2 := BlkV.cell kT 2 rfl
  go_wp2_with (with_reducible refine stop_here ?_)
  refine ⟨?_⟩
  have hz : BlkV (((w2.setCell ⟨w.heap.size, 0, none⟩ (.bool sq)).setCell ⟨w.heap.size, 1, none⟩ (.slice poQ (nl qn) pcQ)).setCell ⟨w.heap.size, 2, none⟩ (.slice qoQ (nl qd) qcQ)) (w.heap.size) 37 [.bool sq, .slice poQ (nl qn) pcQ, .slice qoQ (nl qd) qcQ] := ((BlkV.set kR 0 (.bool sq)).set 1 (.slice poQ (nl qn) pcQ)).set 2 (.slice qoQ (nl qd) qcQ)
  have hon : Only (w.heap.size) w2 (((w2.setCell ⟨w.heap.size, 0, none⟩ (.bool sq)).setCell ⟨w.heap.size, 1, none⟩ (.slice poQ (nl qn) pcQ)).setCell ⟨w.heap.size, 2, none⟩ (.slice qoQ (nl qd) qcQ)) := ((Only.set (w.heap.size) w2 0 (.bool sq)).setv 1 (.slice poQ (nl qn) pcQ)).setv 2 (.slice qoQ (nl qd) qcQ)
  replace rQ := rQ.keepV kR (by simp) hon
  replace kT := BlkV.only kT hon (by omega)
  replace hF := hF.wrote hon (by omega)
  clear kR
  have kR := hz
  clear hz hon
  generalize (((w2.setCell ⟨w.heap.size, 0, none⟩ (.bool sq)).setCell ⟨w.heap.size, 1, none⟩ (.slice poQ (nl qn) pcQ)).setCell ⟨w.heap.size, 2, none⟩ (.slice qoQ (nl qd) qcQ)) = w3 at rQ kR kT hF ⊢
  clear rc0 rz0 rc1 rz1 rc2 rz2
  have rc0 := BlkV.cell kR 0 rfl
  have rz0 := BlkV.frozen kR 0
  have rc1 := BlkV.cell kR 1 rfl
  have rz1 := BlkV.frozen kR 1
  have rc2 := BlkV.cell kR 2 rfl
  have rz2 := BlkV.frozen kR 2
  clear tc0 tc1 tc2
  have tc0 := BlkV.cell kT 0 rfl
  have tc1 := BlkV.cell kT 1 rfl
  have tc2 := BlkV.cell kT 2 rfl
  refine bodyPost_ret (by simp [results, Tryz.results13, go_sem, rc0, rc1, rc2]; try rfl) rfl ?_
  refine ⟨_, rfl, ?_, hF⟩
  rw [HN.out]
  unfold RV
  rw [HQS.out, HQN.out, HQD.out]
  exact rQ

end Go.Proofs.YtfegepkhfckamaaGreatDoor
