/- The program's rational numbers: Mul, Quo as numbers; slices.Clone; Neg, Abs, turn, Cmp. -/
import Derived.Test.YtjkoiocemolcbaaDoorXP4
namespace Go.Proofs.YtjkoiocemolcbaaDoor
open Go.RowKit
set_option linter.unusedVariables false

theorem RV.rw' {w : World} {v : Value} {q : Rat} (h : RV w v q) : RW w v (negQ q) q.num.natAbs q.den := h
theorem RV.drew {w : World} {v : Value} {q : Rat} (h : RV w v q) : RV w.drew v q := h
theorem RV.keepV {w w' : World} {v : Value} {q : Rat} {g : Nat} {T : TypeId} {cs : List Value} (h : RV w v q) (hb : BlkV w g T cs) (hcs : ∀ c ∈ cs, ∀ x, c ≠ .int .u32 x) (k : Only g w w') : RV w' v q := RW.keepV h hb hcs k
theorem nr_le {q : Rat} {B : Nat} (h : nr q ≤ B) : nl q.num.natAbs ≤ B ∧ nl q.den ≤ B := ⟨Nat.le_trans (nr_num q) h, Nat.le_trans (nr_den q) h⟩

theorem rmul_any {w : World} {a b : Value} {p q : Rat} (ha : RV w a p) (hb : RV w b q) (bp : nr p ≤ 10000) (bq : nr q ≤ 10000) :
    Calls Tryd.prog 26 #[a, b] w fun e w' => ∃ v, e = .returned v ∧ RV w' v (p * q) ∧ Fwd w w' := by
  refine (rmul_raw ha.rw' (nr_le bp).1 (nr_le bp).2 hb.rw' (nr_le bq).1 (nr_le bq).2 p.den_nz q.den_nz).mono ?_
  rintro e w' ⟨v, rfl, hv, hf⟩
  obtain ⟨e1, e2, e3⟩ := Q_times p q
  refine ⟨v, rfl, ?_, hf⟩
  unfold RV
  rw [e1, e2, e3]
  exact hv

theorem rquo_any {w : World} {a b : Value} {p q : Rat} (ha : RV w a p) (hb : RV w b q) (bp : nr p ≤ 10000) (bq : nr q ≤ 10000) (hq : q ≠ 0) :
    Calls Tryd.prog 30 #[a, b] w fun e w' => ∃ v, e = .returned (.tuple #[v, .int .i64 0]) ∧ RV w' v (p / q) ∧ Fwd w w' := by
  have hq0 : q.num.natAbs ≠ 0 := fun h => hq ((natAbs_zero_iff q).1 h)
  refine (rquo_raw ha.rw' (nr_le bp).1 (nr_le bp).2 hb.rw' (nr_le bq).1 (nr_le bq).2 p.den_nz hq0).mono ?_
  rintro e w' ⟨v, rfl, hv, hf⟩
  obtain ⟨e1, e2, e3⟩ := Q_times p q⁻¹
  obtain ⟨i1, i2, i3⟩ := Q_inv hq
  rw [i2, i3] at e1 e2 e3
  rw [i1] at e3
  refine ⟨v, rfl, ?_, hf⟩
  unfold RV
  rw [Rat.div_def, e1, e2, e3]
  exact hv

theorem rquo_nought {w : World} {a b : Value} {p q : Rat} (ha : RV w a p) (hb : RV w b q) (bp : nr p ≤ 10000) (bq : nr q ≤ 10000) (hq : q = 0) :
    Calls Tryd.prog 30 #[a, b] w fun e w' => e = .returned (.tuple #[ratZero, .int .i64 5]) ∧ Fwd w w' :=
  rquo_zero ha.rw' (nr_le bp).1 (nr_le bp).2 hb.rw' (nr_le bq).1 (nr_le bq).2 ((natAbs_zero_iff q).2 hq)

set_option maxHeartbeats 4000000 in
set_option maxRecDepth 20000 in
theorem rclone_any {w : World} {a : Value} {n : Nat} (ha : Num w a n) (hn : nl n ≤ 1000000) :
    Calls Tryd.prog 62 #[a] w fun e w' => ∃ v, e = .returned v ∧ Num w' v n ∧ Fwd w w' := by
  have hnum := ha
  rcases ha.2 with ⟨rfl, h0⟩ | ⟨b, off, cap, rfl, h1, h2, h3, h4⟩
  · have hnil := fun wx => Lib.run_eql_slice_nil (P := Tryd.prog) wx 22 40 none 0 0 0 0 Tryd.underlying22
    go_enter Tryd.func62, Tryd.ntmps62
    go_wp2
    go_ret
    exact ⟨_, rfl, ha, Fwd.refl w⟩
  · have hll : (lim n).length ≤ 1000000000 := by show nl n ≤ _; omega
    have hg : (w.alloc (.cells #[] 40)).heap[w.heap.size]? = some (.cells #[] 40 (0, 0)) := heap_alloc_new w _
    have HG := hid hg
    have hf3 : Fwd w (w.alloc (.cells #[] 40)) := (Fwd.refl w).alloc _
    have HA : Hid (Arg (w.alloc (.cells #[] 40)) (.slice (some ⟨b, off, none⟩) (lim n).length cap) (lim n)) := hid (.inl (hnum.fwd hf3))
    have HF3 := hid hf3
    have hnil := fun wx => Lib.run_eql_slice_nil (P := Tryd.prog) wx 22 40 (some ⟨b, off, none⟩) (lim n).length cap 0 0 Tryd.underlying22
    clear hg hf3 h3 hnum ha
    go_enter Tryd.func62, Tryd.ntmps62
    go_wp2_with (at_builtin; refine law_append0 rfl (.tmp 5) (.tmp 6) rfl w.heap.size rfl HG.out _ (lim n) rfl HA.out hll ?_)
    intro v' w4 hr hne hon4 hbl
    have hF4 : Fwd w w4 := HF3.out.wrote hon4 (Nat.le_refl _)
    clear hne hon4 hbl HA HG
    go_wp2_with fail
    go_ret
    exact ⟨_, rfl, hr, hF4⟩

theorem signed_abs {w : World} {n d : Value} {N D : Nat} (hn : Num w n N) (hd : Num w d D) (hN : nl N ≤ 1000000) :
    Calls Tryd.prog 37 #[.bool false, n, d] w fun e w' => ∃ v, e = .returned v ∧ RW w' v false N D ∧ Fwd w w' := signed_raw false hn hd hN

/-- What holds of sizes, turned about below nought. -/
def turnI (s : Bool) (n : Int) : Int := if s then -n else n

set_option maxHeartbeats 4000000 in
set_option maxRecDepth 20000 in
theorem rneg_raw {w : World} {a : Value} {sa : Bool} {ma da : Nat} (ha : RW w a sa ma da) (bam : nl ma ≤ 10000) (bad : nl da ≤ 10000) :
    Calls Tryd.prog 28 #[a] w fun e w' => ∃ v, e = .returned v ∧ RW w' v (!sa && !(ma == 0)) ma da ∧ Fwd w w' := by
  obtain ⟨ao, ac, ap, ae, rfl, a1, a2, a3, a4, aN, aD⟩ := RW.open ha
  clear ha
  have kA : BlkV ((w.alloc (.cells #[.bool sa, .slice ao (nl (ma)) ac, .slice ap (nl (da)) ae] 24)).alloc (.cells #[.bool false, .slice none 0 0, .slice none 0 0] 24)) (w.heap.size) 24 [.bool sa, .slice ao (nl (ma)) ac, .slice ap (nl (da)) ae] := (BlkV.made' w (w.heap.size) (by simp) 24 [.bool sa, .slice ao (nl (ma)) ac, .slice ap (nl (da)) ae]).alloc _
  have kR : BlkV ((w.alloc (.cells #[.bool sa, .slice ao (nl (ma)) ac, .slice ap (nl (da)) ae] 24)).alloc (.cells #[.bool false, .slice none 0 0, .slice none 0 0] 24)) (w.heap.size + 1) 24 [.bool false, .slice none 0 0, .slice none 0 0] := BlkV.made' (w.alloc (.cells #[.bool sa, .slice ao (nl (ma)) ac, .slice ap (nl (da)) ae] 24)) (w.heap.size + 1) (by simp) 24 [.bool false, .slice none 0 0, .slice none 0 0]
  have hF : Fwd w ((w.alloc (.cells #[.bool sa, .slice ao (nl (ma)) ac, .slice ap (nl (da)) ae] 24)).alloc (.cells #[.bool false, .slice none 0 0, .slice none 0 0] 24)) := ((Fwd.refl w).alloc _).alloc _
  replace aN := aN.fwd hF
  replace aD := aD.fwd hF
  go_enter Tryd.func28, Tryd.ntmps28
  go_wp2_with fail
  replace aN := aN.drew
  replace aD := aD.drew
  replace kA := kA.drew
  replace kR := kR.drew
  replace hF := hF.drew
  have ac0 := BlkV.cell kA 0 rfl
  have ac1 := BlkV.cell kA 1 rfl
  have ac2 := BlkV.cell kA 2 rfl
  have rc0 := BlkV.cell kR 0 rfl
  have rz0 := BlkV.frozen kR 0
  have rc1 := BlkV.cell kR 1 rfl
  have rz1 := BlkV.frozen kR 1
  have rc2 := BlkV.cell kR 2 rfl
  have rz2 := BlkV.frozen kR 2
  go_region_held3 (fun w' => w'.cell? ⟨w.heap.size, 0, none⟩ = some (.bool sa) ∧ w'.cell? ⟨w.heap.size, 1, none⟩ = some (.slice ao (nl (ma)) ac) ∧ w'.cell? ⟨w.heap.size, 2, none⟩ = some (.slice ap (nl (da)) ae))
    (first | exact ⟨by with_reducible assumption, by with_reducible assumption, by with_reducible assumption⟩ | exact ⟨(farset (by simp; try omega) (farset (by simp; try omega) (farset (by simp; try omega) (by with_reducible assumption)))), (farset (by simp; try omega) (farset (by simp; try omega) (farset (by simp; try omega) (by with_reducible assumption)))), (farset (by simp; try omega) (farset (by simp; try omega) (farset (by simp; try omega) (by with_reducible assumption))))⟩)
    (first
      | (go_at_call 37
         have _ := mk2
         refine (signed_raw (!sa) h1 h2 (by omega)).mono ?_
         rintro e w3 ⟨v, rfl, hv, hf3⟩
         replace aN := aN.fwd hf3
         replace aD := aD.fwd hf3
         replace h1 := h1.fwd hf3
         replace h2 := h2.fwd hf3
         replace kA := kA.fwd hf3
         replace kR := kR.fwd hf3
         replace hF := hF.trans hf3
         clear hf3
         have HV := hid hv
         obtain ⟨xo, xc, yo, yc, rfl, x1, x2, x3, x4, xN, xD⟩ := RW.open hv
         clear hv xN xD
         have hv := HV.out
         clear HV
         clear ac0 ac1 ac2
         have ac0 := BlkV.cell kA 0 rfl
         have ac1 := BlkV.cell kA 1 rfl
         have ac2 := BlkV.cell kA 2 rfl
         clear rc0 rz0 rc1 rz1 rc2 rz2
         have rc0 := BlkV.cell kR 0 rfl
         have rz0 := BlkV.frozen kR 0
         have rc1 := BlkV.cell kR 1 rfl
         have rz1 := BlkV.frozen kR 1
         have rc2 := BlkV.cell kR 2 rfl
         have rz2 := BlkV.frozen kR 2
         have mk3 : True := trivial)
      | (go_at_call 62
         have _ := mk1
         refine (rclone_any aD (by omega)).mono ?_
         rintro e w2 ⟨v2, rfl, h2, hf2⟩
         replace aN := aN.fwd hf2
         replace aD := aD.fwd hf2
         replace h1 := h1.fwd hf2
         replace kA := kA.fwd hf2
         replace kR := kR.fwd hf2
         replace hF := hF.trans hf2
         clear hf2
         clear ac0 ac1 ac2
         have ac0 := BlkV.cell kA 0 rfl
         have ac1 := BlkV.cell kA 1 rfl
         have ac2 := BlkV.cell kA 2 rfl
         clear rc0 rz0 rc1 rz1 rc2 rz2
         have rc0 := BlkV.cell kR 0 rfl
         have rz0 := BlkV.frozen kR 0
         have rc1 := BlkV.cell kR 1 rfl
         have rz1 := BlkV.frozen kR 1
         have rc2 := BlkV.cell kR 2 rfl
         have rz2 := BlkV.frozen kR 2
         have mk2 : True := trivial)
      | (go_at_call 62
         refine (rclone_any aN (by omega)).mono ?_
         rintro e w1 ⟨v1, rfl, h1, hf1⟩
         replace aN := aN.fwd hf1
         replace aD := aD.fwd hf1
         replace kA := kA.fwd hf1
         replace kR := kR.fwd hf1
         replace hF := hF.trans hf1
         clear hf1
         clear ac0 ac1 ac2
         have ac0 := BlkV.cell kA 0 rfl
         have ac1 := BlkV.cell kA 1 rfl
         have ac2 := BlkV.cell kA 2 rfl
         clear rc0 rz0 rc1 rz1 rc2 rz2
         have rc0 := BlkV.cell kR 0 rfl
         have rz0 := BlkV.frozen kR 0
         have rc1 := BlkV.cell kR 1 rfl
         have rz1 := BlkV.frozen kR 1
         have rc2 := BlkV.cell kR 2 rfl
         have rz2 := BlkV.frozen kR 2
         have mk1 : True := trivial))
  clear aN aD h1 h2
  generalize hsq : ((!sa) && !(ma == 0)) = sq at hv ⊢
  have HSQ := hid hsq
  clear hsq
  go_wp2_with (with_reducible refine stop_here ?_)
  refine ⟨?_⟩
  have hz : BlkV (((w3.setCell ⟨w.heap.size + 1, 0, none⟩ (.bool sq)).setCell ⟨w.heap.size + 1, 1, none⟩ (.slice xo (nl ma) xc)).setCell ⟨w.heap.size + 1, 2, none⟩ (.slice yo (nl da) yc)) (w.heap.size + 1) 24 [.bool sq, .slice xo (nl ma) xc, .slice yo (nl da) yc] := ((BlkV.set kR 0 (.bool sq)).set 1 (.slice xo (nl ma) xc)).set 2 (.slice yo (nl da) yc)
  have hon : Only (w.heap.size + 1) w3 (((w3.setCell ⟨w.heap.size + 1, 0, none⟩ (.bool sq)).setCell ⟨w.heap.size + 1, 1, none⟩ (.slice xo (nl ma) xc)).setCell ⟨w.heap.size + 1, 2, none⟩ (.slice yo (nl da) yc)) := ((Only.set (w.heap.size + 1) w3 0 (.bool sq)).setv 1 (.slice xo (nl ma) xc)).setv 2 (.slice yo (nl da) yc)
  replace hv := hv.keepV kR (by simp) hon
  replace kA := BlkV.only kA hon (by omega)
  replace hF := hF.wrote hon (by omega)
  clear kR
  have kR := hz
  clear hz hon
  generalize (((w3.setCell ⟨w.heap.size + 1, 0, none⟩ (.bool sq)).setCell ⟨w.heap.size + 1, 1, none⟩ (.slice xo (nl ma) xc)).setCell ⟨w.heap.size + 1, 2, none⟩ (.slice yo (nl da) yc)) = w4 at hv kA kR hF ⊢
  clear ac0 ac1 ac2
  have ac0 := BlkV.cell kA 0 rfl
  have ac1 := BlkV.cell kA 1 rfl
  have ac2 := BlkV.cell kA 2 rfl
  clear rc0 rz0 rc1 rz1 rc2 rz2
  have rc0 := BlkV.cell kR 0 rfl
  have rz0 := BlkV.frozen kR 0
  have rc1 := BlkV.cell kR 1 rfl
  have rz1 := BlkV.frozen kR 1
  have rc2 := BlkV.cell kR 2 rfl
  have rz2 := BlkV.frozen kR 2
  refine bodyPost_ret (by simp [results, Tryd.results28, go_sem, rc0, rc1, rc2]; try rfl) rfl ?_
  refine ⟨_, rfl, ?_, hF⟩
  rw [HSQ.out]
  exact hv

set_option maxHeartbeats 4000000 in
set_option maxRecDepth 20000 in
theorem rabs_raw {w : World} {a : Value} {sa : Bool} {ma da : Nat} (ha : RW w a sa ma da) (bam : nl ma ≤ 10000) (bad : nl da ≤ 10000) :
    Calls Tryd.prog 34 #[a] w fun e w' => ∃ v, e = .returned v ∧ RW w' v false ma da ∧ Fwd w w' := by
  obtain ⟨ao, ac, ap, ae, rfl, a1, a2, a3, a4, aN, aD⟩ := RW.open ha
  clear ha
  have kA : BlkV ((w.alloc (.cells #[.bool sa, .slice ao (nl (ma)) ac, .slice ap (nl (da)) ae] 24)).alloc (.cells #[.bool false, .slice none 0 0, .slice none 0 0] 24)) (w.heap.size) 24 [.bool sa, .slice ao (nl (ma)) ac, .slice ap (nl (da)) ae] := (BlkV.made' w (w.heap.size) (by simp) 24 [.bool sa, .slice ao (nl (ma)) ac, .slice ap (nl (da)) ae]).alloc _
  have kR : BlkV ((w.alloc (.cells #[.bool sa, .slice ao (nl (ma)) ac, .slice ap (nl (da)) ae] 24)).alloc (.cells #[.bool false, .slice none 0 0, .slice none 0 0] 24)) (w.heap.size + 1) 24 [.bool false, .slice none 0 0, .slice none 0 0] := BlkV.made' (w.alloc (.cells #[.bool sa, .slice ao (nl (ma)) ac, .slice ap (nl (da)) ae] 24)) (w.heap.size + 1) (by simp) 24 [.bool false, .slice none 0 0, .slice none 0 0]
  have hF : Fwd w ((w.alloc (.cells #[.bool sa, .slice ao (nl (ma)) ac, .slice ap (nl (da)) ae] 24)).alloc (.cells #[.bool false, .slice none 0 0, .slice none 0 0] 24)) := ((Fwd.refl w).alloc _).alloc _
  replace aN := aN.fwd hF
  replace aD := aD.fwd hF
  go_enter Tryd.func34, Tryd.ntmps34
  go_wp2_with fail
  replace aN := aN.drew
  replace aD := aD.drew
  replace kA := kA.drew
  replace kR := kR.drew
  replace hF := hF.drew
  have ac0 := BlkV.cell kA 0 rfl
  have ac1 := BlkV.cell kA 1 rfl
  have ac2 := BlkV.cell kA 2 rfl
  have rc0 := BlkV.cell kR 0 rfl
  have rz0 := BlkV.frozen kR 0
  have rc1 := BlkV.cell kR 1 rfl
  have rz1 := BlkV.frozen kR 1
  have rc2 := BlkV.cell kR 2 rfl
  have rz2 := BlkV.frozen kR 2
  go_region_held3 (fun w' => w'.cell? ⟨w.heap.size, 0, none⟩ = some (.bool sa) ∧ w'.cell? ⟨w.heap.size, 1, none⟩ = some (.slice ao (nl (ma)) ac) ∧ w'.cell? ⟨w.heap.size, 2, none⟩ = some (.slice ap (nl (da)) ae))
    (first | exact ⟨by with_reducible assumption, by with_reducible assumption, by with_reducible assumption⟩ | exact ⟨(farset (by simp; try omega) (farset (by simp; try omega) (farset (by simp; try omega) (by with_reducible assumption)))), (farset (by simp; try omega) (farset (by simp; try omega) (farset (by simp; try omega) (by with_reducible assumption)))), (farset (by simp; try omega) (farset (by simp; try omega) (farset (by simp; try omega) (by with_reducible assumption))))⟩)
    (first
      | (go_at_call 37
         have _ := mk2
         refine (signed_abs h1 h2 (by omega)).mono ?_
         rintro e w3 ⟨v, rfl, hv, hf3⟩
         replace aN := aN.fwd hf3
         replace aD := aD.fwd hf3
         replace h1 := h1.fwd hf3
         replace h2 := h2.fwd hf3
         replace kA := kA.fwd hf3
         replace kR := kR.fwd hf3
         replace hF := hF.trans hf3
         clear hf3
         have HV := hid hv
         obtain ⟨xo, xc, yo, yc, rfl, x1, x2, x3, x4, xN, xD⟩ := RW.open hv
         clear hv xN xD
         have hv := HV.out
         clear HV
         clear ac0 ac1 ac2
         have ac0 := BlkV.cell kA 0 rfl
         have ac1 := BlkV.cell kA 1 rfl
         have ac2 := BlkV.cell kA 2 rfl
         clear rc0 rz0 rc1 rz1 rc2 rz2
         have rc0 := BlkV.cell kR 0 rfl
         have rz0 := BlkV.frozen kR 0
         have rc1 := BlkV.cell kR 1 rfl
         have rz1 := BlkV.frozen kR 1
         have rc2 := BlkV.cell kR 2 rfl
         have rz2 := BlkV.frozen kR 2
         have mk3 : True := trivial)
      | (go_at_call 62
         have _ := mk1
         refine (rclone_any aD (by omega)).mono ?_
         rintro e w2 ⟨v2, rfl, h2, hf2⟩
         replace aN := aN.fwd hf2
         replace aD := aD.fwd hf2
         replace h1 := h1.fwd hf2
         replace kA := kA.fwd hf2
         replace kR := kR.fwd hf2
         replace hF := hF.trans hf2
         clear hf2
         clear ac0 ac1 ac2
         have ac0 := BlkV.cell kA 0 rfl
         have ac1 := BlkV.cell kA 1 rfl
         have ac2 := BlkV.cell kA 2 rfl
         clear rc0 rz0 rc1 rz1 rc2 rz2
         have rc0 := BlkV.cell kR 0 rfl
         have rz0 := BlkV.frozen kR 0
         have rc1 := BlkV.cell kR 1 rfl
         have rz1 := BlkV.frozen kR 1
         have rc2 := BlkV.cell kR 2 rfl
         have rz2 := BlkV.frozen kR 2
         have mk2 : True := trivial)
      | (go_at_call 62
         refine (rclone_any aN (by omega)).mono ?_
         rintro e w1 ⟨v1, rfl, h1, hf1⟩
         replace aN := aN.fwd hf1
         replace aD := aD.fwd hf1
         replace kA := kA.fwd hf1
         replace kR := kR.fwd hf1
         replace hF := hF.trans hf1
         clear hf1
         clear ac0 ac1 ac2
         have ac0 := BlkV.cell kA 0 rfl
         have ac1 := BlkV.cell kA 1 rfl
         have ac2 := BlkV.cell kA 2 rfl
         clear rc0 rz0 rc1 rz1 rc2 rz2
         have rc0 := BlkV.cell kR 0 rfl
         have rz0 := BlkV.frozen kR 0
         have rc1 := BlkV.cell kR 1 rfl
         have rz1 := BlkV.frozen kR 1
         have rc2 := BlkV.cell kR 2 rfl
         have rz2 := BlkV.frozen kR 2
         have mk1 : True := trivial))
  clear aN aD h1 h2
  go_wp2_with (with_reducible refine stop_here ?_)
  refine ⟨?_⟩
  have hz : BlkV (((w3.setCell ⟨w.heap.size + 1, 0, none⟩ (.bool false)).setCell ⟨w.heap.size + 1, 1, none⟩ (.slice xo (nl ma) xc)).setCell ⟨w.heap.size + 1, 2, none⟩ (.slice yo (nl da) yc)) (w.heap.size + 1) 24 [.bool false, .slice xo (nl ma) xc, .slice yo (nl da) yc] := ((BlkV.set kR 0 (.bool false)).set 1 (.slice xo (nl ma) xc)).set 2 (.slice yo (nl da) yc)
  have hon : Only (w.heap.size + 1) w3 (((w3.setCell ⟨w.heap.size + 1, 0, none⟩ (.bool false)).setCell ⟨w.heap.size + 1, 1, none⟩ (.slice xo (nl ma) xc)).setCell ⟨w.heap.size + 1, 2, none⟩ (.slice yo (nl da) yc)) := ((Only.set (w.heap.size + 1) w3 0 (.bool false)).setv 1 (.slice xo (nl ma) xc)).setv 2 (.slice yo (nl da) yc)
  replace hv := hv.keepV kR (by simp) hon
  replace kA := BlkV.only kA hon (by omega)
  replace hF := hF.wrote hon (by omega)
  clear kR
  have kR := hz
  clear hz hon
  generalize (((w3.setCell ⟨w.heap.size + 1, 0, none⟩ (.bool false)).setCell ⟨w.heap.size + 1, 1, none⟩ (.slice xo (nl ma) xc)).setCell ⟨w.heap.size + 1, 2, none⟩ (.slice yo (nl da) yc)) = w4 at hv kA kR hF ⊢
  clear ac0 ac1 ac2
  have ac0 := BlkV.cell kA 0 rfl
  have ac1 := BlkV.cell kA 1 rfl
  have ac2 := BlkV.cell kA 2 rfl
  clear rc0 rz0 rc1 rz1 rc2 rz2
  have rc0 := BlkV.cell kR 0 rfl
  have rz0 := BlkV.frozen kR 0
  have rc1 := BlkV.cell kR 1 rfl
  have rz1 := BlkV.frozen kR 1
  have rc2 := BlkV.cell kR 2 rfl
  have rz2 := BlkV.frozen kR 2
  refine bodyPost_ret (by simp [results, Tryd.results34, go_sem, rc0, rc1, rc2]; try rfl) rfl ?_
  refine ⟨_, rfl, ?_, hF⟩
  exact hv

theorem rneg_any {w : World} {a : Value} {p : Rat} (ha : RV w a p) (bp : nr p ≤ 10000) :
    Calls Tryd.prog 28 #[a] w fun e w' => ∃ v, e = .returned v ∧ RV w' v (-p) ∧ Fwd w w' := by
  refine (rneg_raw ha.rw' (nr_le bp).1 (nr_le bp).2).mono ?_
  rintro e w' ⟨v, rfl, hv, hf⟩
  refine ⟨v, rfl, ?_, hf⟩
  unfold RV
  rw [negQ_neg, Rat.neg_num, Int.natAbs_neg, Rat.neg_den]
  exact hv

theorem rabs_any {w : World} {a : Value} {p : Rat} (ha : RV w a p) (bp : nr p ≤ 10000) :
    Calls Tryd.prog 34 #[a] w fun e w' => ∃ v, e = .returned v ∧ RV w' v (absQ p) ∧ Fwd w w' := by
  refine (rabs_raw ha.rw' (nr_le bp).1 (nr_le bp).2).mono ?_
  rintro e w' ⟨v, rfl, hv, hf⟩
  obtain ⟨e1, e2, e3⟩ := absQ_parts p
  refine ⟨v, rfl, ?_, hf⟩
  unfold RV
  rw [e1, e2, e3]
  exact hv

set_option maxHeartbeats 1000000 in
theorem turn_any (w : World) (n : Int) (s : Bool) (h1 : -1 ≤ n) (h2 : n ≤ 1) :
    Calls Tryd.prog 63 #[.int .i64 n, .bool s] w fun e w' => e = .returned (.int .i64 (turnI s n)) ∧ w = w' := by
  cases s
  · go_enter Tryd.func63, Tryd.ntmps63
    go_wp2
    go_ret
    exact ⟨rfl, rfl⟩
  · go_enter Tryd.func63, Tryd.ntmps63
    go_wp2
    go_ret
    exact ⟨rfl, rfl⟩

theorem turn_fwd (w : World) (n : Int) (s : Bool) (h1 : -1 ≤ n) (h2 : n ≤ 1) :
    Calls Tryd.prog 63 #[.int .i64 n, .bool s] w fun e w' => e = .returned (.int .i64 (turnI s n)) ∧ Fwd w w' :=
  (turn_any w n s h1 h2).mono fun e w' h => ⟨h.1, h.2 ▸ Fwd.refl w⟩

set_option maxHeartbeats 4000000 in
set_option maxRecDepth 20000 in
theorem rcmp_raw {w : World} {a b : Value} {sa sb : Bool} {ma da mb db : Nat} (ha : RW w a sa ma da) (bam : nl ma ≤ 10000) (bad : nl da ≤ 10000) (hb : RW w b sb mb db) (bbm : nl mb ≤ 10000) (bbd : nl db ≤ 10000) :
    Calls Tryd.prog 32 #[a, b] w fun e w' => e = .returned (.int .i64 (cmpS sa ma da sb mb db)) ∧ Fwd w w' := by
  have e1 := nl_mul ma db
  have e2 := nl_mul mb da
  by_cases hst : sa = sb
  · subst hst
    have HP : Hid (cmpS sa ma da sa mb db = turnI sa (cmpI ((ma * db : Nat) : Int) ((mb * da : Nat) : Int))) := hid (by simp [cmpS, turnI])
    have hss : (sa == sa) = true := by simp
    obtain ⟨ci, hci⟩ : ∃ ci, ci = cmpI ((ma * db : Nat) : Int) ((mb * da : Nat) : Int) := ⟨_, rfl⟩
    have hc1 := cmpI_cast ((ma * db : Nat) : Int) ((mb * da : Nat) : Int)
    rw [← hci] at hc1 HP
    have HCI := hid hci
    clear hci
    obtain ⟨⟨_, hc2⟩, hc3⟩ := hc1
    obtain ⟨ao, ac, ap, ae, rfl, a1, a2, a3, a4, aN, aD⟩ := RW.open ha
    clear ha
    obtain ⟨bo, bc, bp, be, rfl, b1, b2, b3, b4, bN, bD⟩ := RW.open hb
    clear hb
    have kA : BlkV ((w.alloc (.cells #[.bool sa, .slice ao (nl (ma)) ac, .slice ap (nl (da)) ae] 24)).alloc (.cells #[.bool sa, .slice bo (nl (mb)) bc, .slice bp (nl (db)) be] 24)) (w.heap.size) 24 [.bool sa, .slice ao (nl (ma)) ac, .slice ap (nl (da)) ae] := (BlkV.made' w (w.heap.size) (by simp) 24 [.bool sa, .slice ao (nl (ma)) ac, .slice ap (nl (da)) ae]).alloc _
    have kB : BlkV ((w.alloc (.cells #[.bool sa, .slice ao (nl (ma)) ac, .slice ap (nl (da)) ae] 24)).alloc (.cells #[.bool sa, .slice bo (nl (mb)) bc, .slice bp (nl (db)) be] 24)) (w.heap.size + 1) 24 [.bool sa, .slice bo (nl (mb)) bc, .slice bp (nl (db)) be] := BlkV.made' (w.alloc (.cells #[.bool sa, .slice ao (nl (ma)) ac, .slice ap (nl (da)) ae] 24)) (w.heap.size + 1) (by simp) 24 [.bool sa, .slice bo (nl (mb)) bc, .slice bp (nl (db)) be]
    have hF : Fwd w ((w.alloc (.cells #[.bool sa, .slice ao (nl (ma)) ac, .slice ap (nl (da)) ae] 24)).alloc (.cells #[.bool sa, .slice bo (nl (mb)) bc, .slice bp (nl (db)) be] 24)) := ((Fwd.refl w).alloc _).alloc _
    replace aN := aN.fwd hF
    replace aD := aD.fwd hF
    replace bN := bN.fwd hF
    replace bD := bD.fwd hF
    go_enter Tryd.func32, Tryd.ntmps32
    go_wp2_with fail
    replace aN := aN.drew
    replace aD := aD.drew
    replace bN := bN.drew
    replace bD := bD.drew
    replace kA := kA.drew
    replace kB := kB.drew
    replace hF := hF.drew
    have ac0 := BlkV.cell kA 0 rfl
    have ac1 := BlkV.cell kA 1 rfl
    have ac2 := BlkV.cell kA 2 rfl
    have bc0 := BlkV.cell kB 0 rfl
    have bc1 := BlkV.cell kB 1 rfl
    have bc2 := BlkV.cell kB 2 rfl
    go_region_held3 (fun w' => w'.cell? ⟨w.heap.size, 0, none⟩ = some (.bool sa) ∧ w'.cell? ⟨w.heap.size, 1, none⟩ = some (.slice ao (nl (ma)) ac) ∧ w'.cell? ⟨w.heap.size, 2, none⟩ = some (.slice ap (nl (da)) ae) ∧ w'.cell? ⟨w.heap.size + 1, 0, none⟩ = some (.bool sa) ∧ w'.cell? ⟨w.heap.size + 1, 1, none⟩ = some (.slice bo (nl (mb)) bc) ∧ w'.cell? ⟨w.heap.size + 1, 2, none⟩ = some (.slice bp (nl (db)) be))
      (first | exact ⟨by with_reducible assumption, by with_reducible assumption, by with_reducible assumption, by with_reducible assumption, by with_reducible assumption, by with_reducible assumption⟩ | exact ⟨(farset (by simp; try omega) (by with_reducible assumption)), (farset (by simp; try omega) (by with_reducible assumption)), (farset (by simp; try omega) (by with_reducible assumption)), (farset (by simp; try omega) (by with_reducible assumption)), (farset (by simp; try omega) (by with_reducible assumption)), (farset (by simp; try omega) (by with_reducible assumption))⟩)
      (first
        | (go_at_call 63
           have _ := mk3
           refine (turn_fwd _ ci sa (by omega) (by omega)).mono ?_
           rintro e w4 ⟨rfl, hf4⟩
           replace aN := aN.fwd hf4
           replace aD := aD.fwd hf4
           replace bN := bN.fwd hf4
           replace bD := bD.fwd hf4
           replace h1 := h1.fwd hf4
           replace h2 := h2.fwd hf4
           replace kA := kA.fwd hf4
           replace kB := kB.fwd hf4
           replace hF := hF.trans hf4
           clear hf4
           clear ac0 ac1 ac2
           have ac0 := BlkV.cell kA 0 rfl
           have ac1 := BlkV.cell kA 1 rfl
           have ac2 := BlkV.cell kA 2 rfl
           clear bc0 bc1 bc2
           have bc0 := BlkV.cell kB 0 rfl
           have bc1 := BlkV.cell kB 1 rfl
           have bc2 := BlkV.cell kB 2 rfl
           have mk4 : True := trivial)
        | (go_at_call 64
           have _ := mk2
           refine (cmp_any h1 h2 (by omega) (by omega)).mono ?_
           rintro e w3 ⟨rfl, hf3⟩
           replace aN := aN.fwd hf3
           replace aD := aD.fwd hf3
           replace bN := bN.fwd hf3
           replace bD := bD.fwd hf3
           replace h1 := h1.fwd hf3
           replace h2 := h2.fwd hf3
           replace kA := kA.fwd hf3
           replace kB := kB.fwd hf3
           replace hF := hF.trans hf3
           clear hf3
           rw [← HCI.out]
           clear ac0 ac1 ac2
           have ac0 := BlkV.cell kA 0 rfl
           have ac1 := BlkV.cell kA 1 rfl
           have ac2 := BlkV.cell kA 2 rfl
           clear bc0 bc1 bc2
           have bc0 := BlkV.cell kB 0 rfl
           have bc1 := BlkV.cell kB 1 rfl
           have bc2 := BlkV.cell kB 2 rfl
           have mk3 : True := trivial)
        | (go_at_call 60
           have _ := mk1
           refine (mul_any bN aD (by omega) (by omega)).mono ?_
           rintro e w2 ⟨v2, rfl, h2, hf2⟩
           replace aN := aN.fwd hf2
           replace aD := aD.fwd hf2
           replace bN := bN.fwd hf2
           replace bD := bD.fwd hf2
           replace h1 := h1.fwd hf2
           replace kA := kA.fwd hf2
           replace kB := kB.fwd hf2
           replace hF := hF.trans hf2
           clear hf2
           clear ac0 ac1 ac2
           have ac0 := BlkV.cell kA 0 rfl
           have ac1 := BlkV.cell kA 1 rfl
           have ac2 := BlkV.cell kA 2 rfl
           clear bc0 bc1 bc2
           have bc0 := BlkV.cell kB 0 rfl
           have bc1 := BlkV.cell kB 1 rfl
           have bc2 := BlkV.cell kB 2 rfl
           have mk2 : True := trivial)
        | (go_at_call 60
           refine (mul_any aN bD (by omega) (by omega)).mono ?_
           rintro e w1 ⟨v1, rfl, h1, hf1⟩
           replace aN := aN.fwd hf1
           replace aD := aD.fwd hf1
           replace bN := bN.fwd hf1
           replace bD := bD.fwd hf1
           replace kA := kA.fwd hf1
           replace kB := kB.fwd hf1
           replace hF := hF.trans hf1
           clear hf1
           clear ac0 ac1 ac2
           have ac0 := BlkV.cell kA 0 rfl
           have ac1 := BlkV.cell kA 1 rfl
           have ac2 := BlkV.cell kA 2 rfl
           clear bc0 bc1 bc2
           have bc0 := BlkV.cell kB 0 rfl
           have bc1 := BlkV.cell kB 1 rfl
           have bc2 := BlkV.cell kB 2 rfl
           have mk1 : True := trivial))
    go_wp2_with fail
    go_ret
    rw [HP.out]
    exact ⟨rfl, hF⟩
  · have HP : Hid (cmpS sa ma da sb mb db = turnI sa 1) := hid (by simp [cmpS, turnI, hst])
    have hss : (sa == sb) = false := by simpa using hst
    have HST := hid hst
    clear hst
    obtain ⟨ao, ac, ap, ae, rfl, a1, a2, a3, a4, aN, aD⟩ := RW.open ha
    clear ha
    obtain ⟨bo, bc, bp, be, rfl, b1, b2, b3, b4, bN, bD⟩ := RW.open hb
    clear hb
    have kA : BlkV ((w.alloc (.cells #[.bool sa, .slice ao (nl (ma)) ac, .slice ap (nl (da)) ae] 24)).alloc (.cells #[.bool sb, .slice bo (nl (mb)) bc, .slice bp (nl (db)) be] 24)) (w.heap.size) 24 [.bool sa, .slice ao (nl (ma)) ac, .slice ap (nl (da)) ae] := (BlkV.made' w (w.heap.size) (by simp) 24 [.bool sa, .slice ao (nl (ma)) ac, .slice ap (nl (da)) ae]).alloc _
    have kB : BlkV ((w.alloc (.cells #[.bool sa, .slice ao (nl (ma)) ac, .slice ap (nl (da)) ae] 24)).alloc (.cells #[.bool sb, .slice bo (nl (mb)) bc, .slice bp (nl (db)) be] 24)) (w.heap.size + 1) 24 [.bool sb, .slice bo (nl (mb)) bc, .slice bp (nl (db)) be] := BlkV.made' (w.alloc (.cells #[.bool sa, .slice ao (nl (ma)) ac, .slice ap (nl (da)) ae] 24)) (w.heap.size + 1) (by simp) 24 [.bool sb, .slice bo (nl (mb)) bc, .slice bp (nl (db)) be]
    have hF : Fwd w ((w.alloc (.cells #[.bool sa, .slice ao (nl (ma)) ac, .slice ap (nl (da)) ae] 24)).alloc (.cells #[.bool sb, .slice bo (nl (mb)) bc, .slice bp (nl (db)) be] 24)) := ((Fwd.refl w).alloc _).alloc _
    replace aN := aN.fwd hF
    replace aD := aD.fwd hF
    replace bN := bN.fwd hF
    replace bD := bD.fwd hF
    go_enter Tryd.func32, Tryd.ntmps32
    have ac0 := BlkV.cell kA 0 rfl
    have ac1 := BlkV.cell kA 1 rfl
    have ac2 := BlkV.cell kA 2 rfl
    have bc0 := BlkV.cell kB 0 rfl
    have bc1 := BlkV.cell kB 1 rfl
    have bc2 := BlkV.cell kB 2 rfl
    go_wp2_with fail
    refine (turn_any _ 1 sa (by omega) (by omega)).mono ?_
    rintro e wq ⟨rfl, rfl⟩
    go_wp2_with fail
    go_ret
    rw [HP.out]
    exact ⟨rfl, hF⟩

theorem rcmp_any {w : World} {a b : Value} {p q : Rat} (ha : RV w a p) (hb : RV w b q) (bp : nr p ≤ 10000) (bq : nr q ≤ 10000) :
    Calls Tryd.prog 32 #[a, b] w fun e w' => e = .returned (.int .i64 (cmpQ p q)) ∧ Fwd w w' := by
  rw [← cmpS_eq]
  exact rcmp_raw ha.rw' (nr_le bp).1 (nr_le bp).2 hb.rw' (nr_le bq).1 (nr_le bq).2

end Go.Proofs.YtjkoiocemolcbaaDoor
