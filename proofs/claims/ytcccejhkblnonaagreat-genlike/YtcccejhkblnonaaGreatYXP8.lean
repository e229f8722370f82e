/- The program's rational numbers: Add, Sub. -/
/- The second telling's Int. -/
import Derived.Test.YtcccejhkblnonaaGreatXP7
import Derived.Test.YtcccejhkblnonaaGreatKI
import Derived.Test.YtcccejhkblnonaaGreatKL
import Derived.Deep.DeepCutAuto
namespace Go.Proofs.YtcccejhkblnonaaGreat
open Go.RowKit
set_option linter.unusedVariables false

set_option maxHeartbeats 4000000 in
set_option maxRecDepth 20000 in
theorem radd_raw {w : World} {a b : Value} {sa sb : Bool} {ma da mb db : Nat} (ha : RW w a sa ma da) (bam : nl ma ≤ 10000) (bad : nl da ≤ 10000) (hb : RW w b sb mb db) (bbm : nl mb ≤ 10000) (bbd : nl db ≤ 10000) (za : da ≠ 0) (zb : db ≠ 0) {S : Bool} {Z G rA rB L : Nat} (hG : G = Nat.gcd da db) (hA : rA = da / G) (hB : rB = db / G) (hS : S = plusS sa (ma * rB) sb (mb * rA)) (hZ : Z = plusN sa (ma * rB) sb (mb * rA)) (hL : L = Nat.gcd Z G) :
    Calls Tryz.prog 79 #[a, b] w fun e w' => ∃ v, e = .returned v ∧ RW w' v (S && !(Z / L == 0)) (Z / L) (rA * (db / L)) ∧ Fwd w w' := by
  obtain ⟨ao, ac, ap, ae, rfl, a1, a2, a3, a4, aN, aD⟩ := RW.open ha
  clear ha
  obtain ⟨bo, bc, bp, be, rfl, b1, b2, b3, b4, bN, bD⟩ := RW.open hb
  clear hb
  have kA : BlkV (((w.alloc (.cells #[.bool sa, .slice ao (nl (ma)) ac, .slice ap (nl (da)) ae] 34)).alloc (.cells #[.bool sb, .slice bo (nl (mb)) bc, .slice bp (nl (db)) be] 34)).alloc (.cells #[.bool false, .slice none 0 0, .slice none 0 0] 34)) (w.heap.size) 34 [.bool sa, .slice ao (nl (ma)) ac, .slice ap (nl (da)) ae] := ((BlkV.made' w (w.heap.size) (by simp) 34 [.bool sa, .slice ao (nl (ma)) ac, .slice ap (nl (da)) ae]).alloc _).alloc _
  have kB : BlkV (((w.alloc (.cells #[.bool sa, .slice ao (nl (ma)) ac, .slice ap (nl (da)) ae] 34)).alloc (.cells #[.bool sb, .slice bo (nl (mb)) bc, .slice bp (nl (db)) be] 34)).alloc (.cells #[.bool false, .slice none 0 0, .slice none 0 0] 34)) (w.heap.size + 1) 34 [.bool sb, .slice bo (nl (mb)) bc, .slice bp (nl (db)) be] := (BlkV.made' (w.alloc (.cells #[.bool sa, .slice ao (nl (ma)) ac, .slice ap (nl (da)) ae] 34)) (w.heap.size + 1) (by simp) 34 [.bool sb, .slice bo (nl (mb)) bc, .slice bp (nl (db)) be]).alloc _
  have kR : BlkV (((w.alloc (.cells #[.bool sa, .slice ao (nl (ma)) ac, .slice ap (nl (da)) ae] 34)).alloc (.cells #[.bool sb, .slice bo (nl (mb)) bc, .slice bp (nl (db)) be] 34)).alloc (.cells #[.bool false, .slice none 0 0, .slice none 0 0] 34)) (w.heap.size + 1 + 1) 34 [.bool false, .slice none 0 0, .slice none 0 0] := BlkV.made' ((w.alloc (.cells #[.bool sa, .slice ao (nl (ma)) ac, .slice ap (nl (da)) ae] 34)).alloc (.cells #[.bool sb, .slice bo (nl (mb)) bc, .slice bp (nl (db)) be] 34)) (w.heap.size + 1 + 1) (by simp) 34 [.bool false, .slice none 0 0, .slice none 0 0]
  have hF : Fwd w (((w.alloc (.cells #[.bool sa, .slice ao (nl (ma)) ac, .slice ap (nl (da)) ae] 34)).alloc (.cells #[.bool sb, .slice bo (nl (mb)) bc, .slice bp (nl (db)) be] 34)).alloc (.cells #[.bool false, .slice none 0 0, .slice none 0 0] 34)) := (((Fwd.refl w).alloc _).alloc _).alloc _
  replace aN := aN.fwd hF
  replace aD := aD.fwd hF
  replace bN := bN.fwd hF
  replace bD := bD.fwd hF
  go_enter Tryz.func79, Tryz.ntmps79
  have ac0 := BlkV.cell kA 0 rfl
  have ac1 := BlkV.cell kA 1 rfl
  have ac2 := BlkV.cell kA 2 rfl
  have bc0 := BlkV.cell kB 0 rfl
  have bc1 := BlkV.cell kB 1 rfl
  have bc2 := BlkV.cell kB 2 rfl
  have rc0 := BlkV.cell kR 0 rfl
  have rz0 := BlkV.frozen kR 0
  have rc1 := BlkV.cell kR 1 rfl
  have rz1 := BlkV.frozen kR 1
  have rc2 := BlkV.cell kR 2 rfl
  have rz2 := BlkV.frozen kR 2
  have ha' : RW (((w.alloc (.cells #[.bool sa, .slice ao (nl (ma)) ac, .slice ap (nl (da)) ae] 34)).alloc (.cells #[.bool sb, .slice bo (nl (mb)) bc, .slice bp (nl (db)) be] 34)).alloc (.cells #[.bool false, .slice none 0 0, .slice none 0 0] 34)) (.agg #[.bool sa, .slice ao (nl ma) ac, .slice ap (nl da) ae]) sa ma da := ⟨_, _, rfl, aN, aD⟩
  have hb' : RW (((w.alloc (.cells #[.bool sa, .slice ao (nl (ma)) ac, .slice ap (nl (da)) ae] 34)).alloc (.cells #[.bool sb, .slice bo (nl (mb)) bc, .slice bp (nl (db)) be] 34)).alloc (.cells #[.bool false, .slice none 0 0, .slice none 0 0] 34)) (.agg #[.bool sb, .slice bo (nl mb) bc, .slice bp (nl db) be]) sb mb db := ⟨_, _, rfl, bN, bD⟩
  clear aN aD bN bD
  go_wp2_with fail
  refine (join_plus ha' bam bad hb' bbm bbd za zb hG hA hB hS hZ hL).mono ?_
  rintro e w1 ⟨v, rfl, hv, hf1⟩
  replace ha' := ha'.fwd hf1
  replace hb' := hb'.fwd hf1
  replace kA := kA.fwd hf1
  replace kB := kB.fwd hf1
  replace kR := kR.fwd hf1
  replace hF := hF.trans hf1
  clear hf1
  clear ac0 ac1 ac2
  have ac0 := BlkV.cell kA 0 rfl
  have ac1 := BlkV.cell kA 1 rfl
  have ac2 := BlkV.cell kA 2 rfl
  clear bc0 bc1 bc2
  have bc0 := BlkV.cell kB 0 rfl
  have bc1 := BlkV.cell kB 1 rfl
  have bc2 := BlkV.cell kB 2 rfl
  clear rc0 rz0 rc1 rz1 rc2 rz2
  have rc0 := BlkV.cell kR 0 rfl
  have rz0 := BlkV.frozen kR 0
  have rc1 := BlkV.cell kR 1 rfl
  have rz1 := BlkV.frozen kR 1
  have rc2 := BlkV.cell kR 2 rfl
  have rz2 := BlkV.frozen kR 2
  have HV := hid hv
  obtain ⟨xo, xc, yo, yc, rfl, x1, x2, x3, x4, xN, xD⟩ := RW.open hv
  clear hv xN xD
  have hv := HV.out
  clear HV
  clear ha' hb'
  generalize hsq : (S && !(Z / L == 0)) = sq at hv ⊢
  have HSQ := hid hsq
  clear hsq
  generalize hn : Z / L = N at hv ⊢
  generalize hd : rA * (db / L) = D at hv ⊢
  have HN := hid hn
  have HD := hid hd
  clear hn hd hG hA hB hS hZ hL
  go_wp2_with (with_reducible refine stop_here ?_)
  refine ⟨?_⟩
  have hz : BlkV (((w1.setCell ⟨w.heap.size + 1 + 1, 0, none⟩ (.bool sq)).setCell ⟨w.heap.size + 1 + 1, 1, none⟩ (.slice xo (nl N) xc)).setCell ⟨w.heap.size + 1 + 1, 2, none⟩ (.slice yo (nl D) yc)) (w.heap.size + 1 + 1) 34 [.bool sq, .slice xo (nl N) xc, .slice yo (nl D) yc] := ((BlkV.set kR 0 (.bool sq)).set 1 (.slice xo (nl N) xc)).set 2 (.slice yo (nl D) yc)
  have hon : Only (w.heap.size + 1 + 1) w1 (((w1.setCell ⟨w.heap.size + 1 + 1, 0, none⟩ (.bool sq)).setCell ⟨w.heap.size + 1 + 1, 1, none⟩ (.slice xo (nl N) xc)).setCell ⟨w.heap.size + 1 + 1, 2, none⟩ (.slice yo (nl D) yc)) := ((Only.set (w.heap.size + 1 + 1) w1 0 (.bool sq)).setv 1 (.slice xo (nl N) xc)).setv 2 (.slice yo (nl D) yc)
  replace hv := hv.keepV kR (by simp) hon
  replace kA := BlkV.only kA hon (by omega)
  replace kB := BlkV.only kB hon (by omega)
  replace hF := hF.wrote hon (by omega)
  clear kR
  have kR := hz
  clear hz hon
  generalize (((w1.setCell ⟨w.heap.size + 1 + 1, 0, none⟩ (.bool sq)).setCell ⟨w.heap.size + 1 + 1, 1, none⟩ (.slice xo (nl N) xc)).setCell ⟨w.heap.size + 1 + 1, 2, none⟩ (.slice yo (nl D) yc)) = w2 at hv kA kB kR hF ⊢
  clear ac0 ac1 ac2
  have ac0 := BlkV.cell kA 0 rfl
  have ac1 := BlkV.cell kA 1 rfl
  have ac2 := BlkV.cell kA 2 rfl
  clear bc0 bc1 bc2
  have bc0 := BlkV.cell kB 0 rfl
  have bc1 := BlkV.cell kB 1 rfl
  have bc2 := BlkV.cell kB 2 rfl
  clear rc0 rz0 rc1 rz1 rc2 rz2
  have rc0 := BlkV.cell kR 0 rfl
  have rz0 := BlkV.frozen kR 0
  have rc1 := BlkV.cell kR 1 rfl
  have rz1 := BlkV.frozen kR 1
  have rc2 := BlkV.cell kR 2 rfl
  have rz2 := BlkV.frozen kR 2
  refine bodyPost_ret (by simp [results, Tryz.results79, go_sem, rc0, rc1, rc2]; try rfl) rfl ?_
  refine ⟨_, rfl, ?_, hF⟩
  rw [HSQ.out, HN.out, HD.out]
  exact hv

set_option maxHeartbeats 4000000 in
set_option maxRecDepth 20000 in
theorem rsub_raw {w : World} {a b : Value} {sa sb : Bool} {ma da mb db : Nat} (ha : RW w a sa ma da) (bam : nl ma ≤ 10000) (bad : nl da ≤ 10000) (hb : RW w b sb mb db) (bbm : nl mb ≤ 10000) (bbd : nl db ≤ 10000) (za : da ≠ 0) (zb : db ≠ 0) {S : Bool} {Z G rA rB L : Nat} (hG : G = Nat.gcd da db) (hA : rA = da / G) (hB : rB = db / G) (hS : S = plusS sa (ma * rB) (!sb) (mb * rA)) (hZ : Z = plusN sa (ma * rB) (!sb) (mb * rA)) (hL : L = Nat.gcd Z G) :
    Calls Tryz.prog 78 #[a, b] w fun e w' => ∃ v, e = .returned v ∧ RW w' v (S && !(Z / L == 0)) (Z / L) (rA * (db / L)) ∧ Fwd w w' := by
  obtain ⟨ao, ac, ap, ae, rfl, a1, a2, a3, a4, aN, aD⟩ := RW.open ha
  clear ha
  obtain ⟨bo, bc, bp, be, rfl, b1, b2, b3, b4, bN, bD⟩ := RW.open hb
  clear hb
  have kA : BlkV (((w.alloc (.cells #[.bool sa, .slice ao (nl (ma)) ac, .slice ap (nl (da)) ae] 34)).alloc (.cells #[.bool sb, .slice bo (nl (mb)) bc, .slice bp (nl (db)) be] 34)).alloc (.cells #[.bool false, .slice none 0 0, .slice none 0 0] 34)) (w.heap.size) 34 [.bool sa, .slice ao (nl (ma)) ac, .slice ap (nl (da)) ae] := ((BlkV.made' w (w.heap.size) (by simp) 34 [.bool sa, .slice ao (nl (ma)) ac, .slice ap (nl (da)) ae]).alloc _).alloc _
  have kB : BlkV (((w.alloc (.cells #[.bool sa, .slice ao (nl (ma)) ac, .slice ap (nl (da)) ae] 34)).alloc (.cells #[.bool sb, .slice bo (nl (mb)) bc, .slice bp (nl (db)) be] 34)).alloc (.cells #[.bool false, .slice none 0 0, .slice none 0 0] 34)) (w.heap.size + 1) 34 [.bool sb, .slice bo (nl (mb)) bc, .slice bp (nl (db)) be] := (BlkV.made' (w.alloc (.cells #[.bool sa, .slice ao (nl (ma)) ac, .slice ap (nl (da)) ae] 34)) (w.heap.size + 1) (by simp) 34 [.bool sb, .slice bo (nl (mb)) bc, .slice bp (nl (db)) be]).alloc _
  have kR : BlkV (((w.alloc (.cells #[.bool sa, .slice ao (nl (ma)) ac, .slice ap (nl (da)) ae] 34)).alloc (.cells #[.bool sb, .slice bo (nl (mb)) bc, .slice bp (nl (db)) be] 34)).alloc (.cells #[.bool false, .slice none 0 0, .slice none 0 0] 34)) (w.heap.size + 1 + 1) 34 [.bool false, .slice none 0 0, .slice none 0 0] := BlkV.made' ((w.alloc (.cells #[.bool sa, .slice ao (nl (ma)) ac, .slice ap (nl (da)) ae] 34)).alloc (.cells #[.bool sb, .slice bo (nl (mb)) bc, .slice bp (nl (db)) be] 34)) (w.heap.size + 1 + 1) (by simp) 34 [.bool false, .slice none 0 0, .slice none 0 0]
  have hF : Fwd w (((w.alloc (.cells #[.bool sa, .slice ao (nl (ma)) ac, .slice ap (nl (da)) ae] 34)).alloc (.cells #[.bool sb, .slice bo (nl (mb)) bc, .slice bp (nl (db)) be] 34)).alloc (.cells #[.bool false, .slice none 0 0, .slice none 0 0] 34)) := (((Fwd.refl w).alloc _).alloc _).alloc _
  replace aN := aN.fwd hF
  replace aD := aD.fwd hF
  replace bN := bN.fwd hF
  replace bD := bD.fwd hF
  go_enter Tryz.func78, Tryz.ntmps78
  have ac0 := BlkV.cell kA 0 rfl
  have ac1 := BlkV.cell kA 1 rfl
  have ac2 := BlkV.cell kA 2 rfl
  have bc0 := BlkV.cell kB 0 rfl
  have bc1 := BlkV.cell kB 1 rfl
  have bc2 := BlkV.cell kB 2 rfl
  have rc0 := BlkV.cell kR 0 rfl
  have rz0 := BlkV.frozen kR 0
  have rc1 := BlkV.cell kR 1 rfl
  have rz1 := BlkV.frozen kR 1
  have rc2 := BlkV.cell kR 2 rfl
  have rz2 := BlkV.frozen kR 2
  have ha' : RW (((w.alloc (.cells #[.bool sa, .slice ao (nl (ma)) ac, .slice ap (nl (da)) ae] 34)).alloc (.cells #[.bool sb, .slice bo (nl (mb)) bc, .slice bp (nl (db)) be] 34)).alloc (.cells #[.bool false, .slice none 0 0, .slice none 0 0] 34)) (.agg #[.bool sa, .slice ao (nl ma) ac, .slice ap (nl da) ae]) sa ma da := ⟨_, _, rfl, aN, aD⟩
  have hb' : RW (((w.alloc (.cells #[.bool sa, .slice ao (nl (ma)) ac, .slice ap (nl (da)) ae] 34)).alloc (.cells #[.bool sb, .slice bo (nl (mb)) bc, .slice bp (nl (db)) be] 34)).alloc (.cells #[.bool false, .slice none 0 0, .slice none 0 0] 34)) (.agg #[.bool sb, .slice bo (nl mb) bc, .slice bp (nl db) be]) sb mb db := ⟨_, _, rfl, bN, bD⟩
  clear aN aD bN bD
  go_wp2_with fail
  refine (join_minus ha' bam bad hb' bbm bbd za zb hG hA hB hS hZ hL).mono ?_
  rintro e w1 ⟨v, rfl, hv, hf1⟩
  replace ha' := ha'.fwd hf1
  replace hb' := hb'.fwd hf1
  replace kA := kA.fwd hf1
  replace kB := kB.fwd hf1
  replace kR := kR.fwd hf1
  replace hF := hF.trans hf1
  clear hf1
  clear ac0 ac1 ac2
  have ac0 := BlkV.cell kA 0 rfl
  have ac1 := BlkV.cell kA 1 rfl
  have ac2 := BlkV.cell kA 2 rfl
  clear bc0 bc1 bc2
  have bc0 := BlkV.cell kB 0 rfl
  have bc1 := BlkV.cell kB 1 rfl
  have bc2 := BlkV.cell kB 2 rfl
  clear rc0 rz0 rc1 rz1 rc2 rz2
  have rc0 := BlkV.cell kR 0 rfl
  have rz0 := BlkV.frozen kR 0
  have rc1 := BlkV.cell kR 1 rfl
  have rz1 := BlkV.frozen kR 1
  have rc2 := BlkV.cell kR 2 rfl
  have rz2 := BlkV.frozen kR 2
  have HV := hid hv
  obtain ⟨xo, xc, yo, yc, rfl, x1, x2, x3, x4, xN, xD⟩ := RW.open hv
  clear hv xN xD
  have hv := HV.out
  clear HV
  clear ha' hb'
  generalize hsq : (S && !(Z / L == 0)) = sq at hv ⊢
  have HSQ := hid hsq
  clear hsq
  generalize hn : Z / L = N at hv ⊢
  generalize hd : rA * (db / L) = D at hv ⊢
  have HN := hid hn
  have HD := hid hd
  clear hn hd hG hA hB hS hZ hL
  go_wp2_with (with_reducible refine stop_here ?_)
  refine ⟨?_⟩
  have hz : BlkV (((w1.setCell ⟨w.heap.size + 1 + 1, 0, none⟩ (.bool sq)).setCell ⟨w.heap.size + 1 + 1, 1, none⟩ (.slice xo (nl N) xc)).setCell ⟨w.heap.size + 1 + 1, 2, none⟩ (.slice yo (nl D) yc)) (w.heap.size + 1 + 1) 34 [.bool sq, .slice xo (nl N) xc, .slice yo (nl D) yc] := ((BlkV.set kR 0 (.bool sq)).set 1 (.slice xo (nl N) xc)).set 2 (.slice yo (nl D) yc)
  have hon : Only (w.heap.size + 1 + 1) w1 (((w1.setCell ⟨w.heap.size + 1 + 1, 0, none⟩ (.bool sq)).setCell ⟨w.heap.size + 1 + 1, 1, none⟩ (.slice xo (nl N) xc)).setCell ⟨w.heap.size + 1 + 1, 2, none⟩ (.slice yo (nl D) yc)) := ((Only.set (w.heap.size + 1 + 1) w1 0 (.bool sq)).setv 1 (.slice xo (nl N) xc)).setv 2 (.slice yo (nl D) yc)
  replace hv := hv.keepV kR (by simp) hon
  replace kA := BlkV.only kA hon (by omega)
  replace kB := BlkV.only kB hon (by omega)
  replace hF := hF.wrote hon (by omega)
  clear kR
  have kR := hz
  clear hz hon
  generalize (((w1.setCell ⟨w.heap.size + 1 + 1, 0, none⟩ (.bool sq)).setCell ⟨w.heap.size + 1 + 1, 1, none⟩ (.slice xo (nl N) xc)).setCell ⟨w.heap.size + 1 + 1, 2, none⟩ (.slice yo (nl D) yc)) = w2 at hv kA kB kR hF ⊢
  clear ac0 ac1 ac2
  have ac0 := BlkV.cell kA 0 rfl
  have ac1 := BlkV.cell kA 1 rfl
  have ac2 := BlkV.cell kA 2 rfl
  clear bc0 bc1 bc2
  have bc0 := BlkV.cell kB 0 rfl
  have bc1 := BlkV.cell kB 1 rfl
  have bc2 := BlkV.cell kB 2 rfl
  clear rc0 rz0 rc1 rz1 rc2 rz2
  have rc0 := BlkV.cell kR 0 rfl
  have rz0 := BlkV.frozen kR 0
  have rc1 := BlkV.cell kR 1 rfl
  have rz1 := BlkV.frozen kR 1
  have rc2 := BlkV.cell kR 2 rfl
  have rz2 := BlkV.frozen kR 2
  refine bodyPost_ret (by simp [results, Tryz.results78, go_sem, rc0, rc1, rc2]; try rfl) rfl ?_
  refine ⟨_, rfl, ?_, hF⟩
  rw [HSQ.out, HN.out, HD.out]
  exact hv

theorem sgQ_not (s : Bool) (n : Nat) : sgQ (!s) n = - sgQ s n := by cases s <;> simp [sgQ]
theorem radd_any {w : World} {a b : Value} {p q : Rat} (ha : RV w a p) (hb : RV w b q) (bp : nr p ≤ 10000) (bq : nr q ≤ 10000) :
    Calls Tryz.prog 79 #[a, b] w fun e w' => ∃ v, e = .returned v ∧ RV w' v (p + q) ∧ Fwd w w' := by
  refine (radd_raw ha.rw' (nr_le bp).1 (nr_le bp).2 hb.rw' (nr_le bq).1 (nr_le bq).2 p.den_nz q.den_nz rfl rfl rfl rfl rfl rfl).mono ?_
  rintro e w' ⟨v, rfl, hv, hf⟩
  refine ⟨v, rfl, ?_, hf⟩
  obtain ⟨e1, e2, e3⟩ := Q_sum p q _ _ ((plus_sgn (negQ p) (p.num.natAbs * (q.den / Nat.gcd p.den q.den)) (negQ q) (q.num.natAbs * (p.den / Nat.gcd p.den q.den))).trans (by rw [← sgQ_nat, ← sgQ_nat, sgQ_self, sgQ_self]))
  unfold RV
  rw [e1, e2, e3]
  exact hv

theorem rsub_any {w : World} {a b : Value} {p q : Rat} (ha : RV w a p) (hb : RV w b q) (bp : nr p ≤ 10000) (bq : nr q ≤ 10000) :
    Calls Tryz.prog 78 #[a, b] w fun e w' => ∃ v, e = .returned v ∧ RV w' v (p - q) ∧ Fwd w w' := by
  refine (rsub_raw ha.rw' (nr_le bp).1 (nr_le bp).2 hb.rw' (nr_le bq).1 (nr_le bq).2 p.den_nz q.den_nz rfl rfl rfl rfl rfl rfl).mono ?_
  rintro e w' ⟨v, rfl, hv, hf⟩
  refine ⟨v, rfl, ?_, hf⟩
  obtain ⟨e1, e2, e3⟩ := Q_sum p (-q) (plusS (negQ p) (p.num.natAbs * (q.den / Nat.gcd p.den q.den)) (!negQ q) (q.num.natAbs * (p.den / Nat.gcd p.den q.den))) (plusN (negQ p) (p.num.natAbs * (q.den / Nat.gcd p.den q.den)) (!negQ q) (q.num.natAbs * (p.den / Nat.gcd p.den q.den)))
    ((plus_sgn (negQ p) (p.num.natAbs * (q.den / Nat.gcd p.den q.den)) (!negQ q) (q.num.natAbs * (p.den / Nat.gcd p.den q.den))).trans (by rw [sgQ_not, ← sgQ_nat, ← sgQ_nat, sgQ_self, sgQ_self, Rat.neg_num, Rat.neg_den, Int.neg_mul]))
  rw [Rat.neg_den] at e1 e2 e3
  unfold RV
  rw [Rat.sub_eq_add_neg, e1, e2, e3]
  exact hv

end Go.Proofs.YtcccejhkblnonaaGreat

namespace Go.Proofs.YtcccejhkblnonaaGreat
open Go.RowKit
set_option linter.unusedVariables false

theorem mkQ_int (n : Int) : mkQ (!(decide (n < 0) == decide ((1 : Int) < 0))) n.natAbs (1 : Int).natAbs = (n : Rat) := by
  have h1 : decide ((1 : Int) < 0) = false := by decide
  have h2 : (1 : Int).natAbs = 1 := rfl
  have h3 : sgQ (!(decide (n < 0) == false)) n.natAbs = n := by
    by_cases h : n < 0
    · simp [sgQ, h]; omega
    · simp [sgQ, h]; omega
  unfold mkQ
  rw [h1, h2, h3, Rat.mkRat_one]

set_option maxHeartbeats 4000000 in
set_option maxRecDepth 20000 in
theorem int2_any (w : World) (n : Int) (n1 : -9223372036854775808 ≤ n) (n2 : n ≤ 9223372036854775807) :
    Calls Tryz.prog 17 #[.int .i64 n] w fun e w' => ∃ v, e = .returned v ∧ RV w' v (n : Rat) ∧ Fwd w w' := by
  have HQ := hid (mkQ_int n)
  have kR : BlkV (w.alloc (.cells #[.bool false, .slice none 0 0, .slice none 0 0] 34)) (w.heap.size) 34 [.bool false, .slice none 0 0, .slice none 0 0] := BlkV.made' w (w.heap.size) (by simp) 34 [.bool false, .slice none 0 0, .slice none 0 0]
  have hF : Fwd w (w.alloc (.cells #[.bool false, .slice none 0 0, .slice none 0 0] 34)) := (Fwd.refl w).alloc _
  go_enter Tryz.func17, Tryz.ntmps17
  have rc0 := BlkV.cell kR 0 rfl
  have rz0 := BlkV.frozen kR 0
  have rc1 := BlkV.cell kR 1 rfl
  have rz1 := BlkV.frozen kR 1
  have rc2 := BlkV.cell kR 2 rfl
  have rz2 := BlkV.frozen kR 2
  go_wp2_with fail
  refine (of2_any _ n 1 n1 n2 (by omega) (by omega) (by omega)).mono ?_
  rintro e w1 ⟨v, rfl, rQ, hf1⟩
  replace kR := kR.fwd hf1
  replace hF := hF.trans hf1
  clear hf1
  clear rc0 rz0 rc1 rz1 rc2 rz2
  have rc0 := BlkV.cell kR 0 rfl
  have rz0 := BlkV.frozen kR 0
  have rc1 := BlkV.cell kR 1 rfl
  have rz1 := BlkV.frozen kR 1
  have rc2 := BlkV.cell kR 2 rfl
  have rz2 := BlkV.frozen kR 2
  rw [HQ.out] at rQ
  generalize hq : ((n : Int) : Rat) = q at rQ
  have HN := hid hq
  clear hq
  have HV := hid rQ
  obtain ⟨poQ, pcQ, qoQ, qcQ, rfl, p1Q, p2Q, p3Q, p4Q, -, -⟩ := RW.open rQ.rw'
  clear rQ
  have rQ : RW _ _ _ _ _ := HV.out
  clear HV
  generalize hqs : negQ q = sq at rQ ⊢
  generalize hqn : q.num.natAbs = qn at rQ p1Q p2Q ⊢
  generalize hqd : q.den = qd at rQ p3Q p4Q ⊢
  have HQS := hid hqs
  have HQN := hid hqn
  have HQD := hid hqd
  clear hqs hqn hqd
  have ltR1 := BlkV.lt kR
  have hfB : Fwd w1 (w1.alloc (.cells #[.bool sq, .slice poQ (nl qn) pcQ, .slice qoQ (nl qd) qcQ] 34)) := (Fwd.refl _).alloc _
  replace rQ := rQ.fwd hfB
  replace kR := kR.fwd hfB
  replace hF := hF.trans hfB
  clear hfB
  clear rc0 rz0 rc1 rz1 rc2 rz2
  have rc0 := BlkV.cell kR 0 rfl
  have rz0 := BlkV.frozen kR 0
  have rc1 := BlkV.cell kR 1 rfl
  have rz1 := BlkV.frozen kR 1
  have rc2 := BlkV.cell kR 2 rfl
  have rz2 := BlkV.frozen kR 2
  have kT := BlkV.made w1 34 [.bool sq, .slice poQ (nl qn) pcQ, .slice qoQ (nl qd) qcQ]
  go_upto_region 2 with fail
  generalize (w1.alloc (.cells #[.bool sq, .slice poQ (nl qn) pcQ, .slice qoQ (nl qd) qcQ] 34)) = w2 at kT rQ kR hF ⊢
  clear rc0 rz0 rc1 rz1 rc2 rz2
  have rc0 := BlkV.cell kR 0 rfl
  have rz0 := BlkV.frozen kR 0
  have rc1 := BlkV.cell kR 1 rfl
  have rz1 := BlkV.frozen kR 1
  have rc2 := BlkV.cell kR 2 rfl
  have rz2 := BlkV.frozen kR 2
  have tc0 := BlkV.cell kT 0 rfl
  have tc1 := BlkV.cell kT 1 rfl
  have tc2 := BlkV.cell kT 2 rfl
  go_wp2_with (with_reducible refine stop_here ?_)
  refine ⟨?_⟩
  have hz : BlkV (((w2.setCell ⟨w.heap.size, 0, none⟩ (.bool sq)).setCell ⟨w.heap.size, 1, none⟩ (.slice poQ (nl qn) pcQ)).setCell ⟨w.heap.size, 2, none⟩ (.slice qoQ (nl qd) qcQ)) (w.heap.size) 34 [.bool sq, .slice poQ (nl qn) pcQ, .slice qoQ (nl qd) qcQ] := ((BlkV.set kR 0 (.bool sq)).set 1 (.slice poQ (nl qn) pcQ)).set 2 (.slice qoQ (nl qd) qcQ)
  have hon : Only (w.heap.size) w2 (((w2.setCell ⟨w.heap.size, 0, none⟩ (.bool sq)).setCell ⟨w.heap.size, 1, none⟩ (.slice poQ (nl qn) pcQ)).setCell ⟨w.heap.size, 2, none⟩ (.slice qoQ (nl qd) qcQ)) := ((Only.set (w.heap.size) w2 0 (.bool sq)).setv 1 (.slice poQ (nl qn) pcQ)).setv 2 (.slice qoQ (nl qd) qcQ)
  replace rQ := rQ.keepV kR (by simp) hon
  replace kT := BlkV.only kT hon (by omega)
  replace hF := hF.wrote hon (by omega)
  clear kR
  have kR := hz
  clear hz hon
  generalize (((w2.setCell ⟨w.heap.size, 0, none⟩ (.bool sq)).setCell ⟨w.heap.size, 1, none⟩ (.slice poQ (nl qn) pcQ)).setCell ⟨w.heap.size, 2, none⟩ (.slice qoQ (nl qd) qcQ)) = w3 at rQ kR kT hF ⊢
  clear rc0 rz0 rc1 rz1 rc2 rz2
  have rc0 := BlkV.cell kR 0 rfl
  have rz0 := BlkV.frozen kR 0
  have rc1 := BlkV.cell kR 1 rfl
  have rz1 := BlkV.frozen kR 1
  have rc2 := BlkV.cell kR 2 rfl
  have rz2 := BlkV.frozen kR 2
  clear tc0 tc1 tc2
  have tc0 := BlkV.cell kT 0 rfl
  have tc1 := BlkV.cell kT 1 rfl
  have tc2 := BlkV.cell kT 2 rfl
  refine bodyPost_ret (by simp [results, Tryz.results17, go_sem, rc0, rc1, rc2]; try rfl) rfl ?_
  refine ⟨_, rfl, ?_, hF⟩
  rw [HN.out]
  unfold RV
  rw [HQS.out, HQN.out, HQD.out]
  exact rQ

end Go.Proofs.YtcccejhkblnonaaGreat
