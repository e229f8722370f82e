/- Rational numbers: Text, both ways of telling it. -/
/- The law's own helpers, chapter 2: known, within, Make. -/
/- The laws of enclosures: End, known. -/
import Derived.Test.YtcfhajnboamnnabGreatDoorYXFS
import Derived.Test.YtcfhajnboamnnabGreatDoorKI
import Derived.Test.YtcfhajnboamnnabGreatDoorKF
import Derived.Test.YtcfhajnboamnnabGreatDoorKD
import Derived.Deep.DeepCutAuto
import Derived.Test.YtcfhajnboamnnabGreatDoorXF32
import Derived.Test.YtcfhajnboamnnabGreatDoorYXF19
import Derived.Test.YtcfhajnboamnnabGreatDoorYXF17
namespace Go.Proofs.YtcfhajnboamnnabGreatDoor
open Go.RowKit
set_option linter.unusedVariables false

/-- A number's text. -/
def textS (s : Bool) (m : Nat) : ByteArray := if s then ⟨#[45]⟩ ++ textOf m else textOf m
def textR (s : Bool) (m d : Nat) : ByteArray := if d = 1 then textS s m else textS s m ++ ⟨#[47]⟩ ++ textOf d
theorem size_textOf (n : Nat) (h : nl n ≤ 100000) : (textOf n).size ≤ 1000001 := by
  rw [show (textOf n).size = (asc (dec n)).length from str_size rfl, len_asc]
  have := len_dec n
  omega
theorem size_dash (b : ByteArray) : (⟨#[45]⟩ ++ b : ByteArray).size = 1 + b.size := by rw [ByteArray.size_append]; rfl
theorem size_slash (b : ByteArray) : (b ++ ⟨#[47]⟩ : ByteArray).size = b.size + 1 := by rw [ByteArray.size_append]; rfl
theorem size_textR (s : Bool) (m d : Nat) (h1 : nl m ≤ 100000) (h2 : nl d ≤ 100000) : (textR s m d).size ≤ 2000004 := by
  have z1 := size_textOf m h1
  have z2 := size_textOf d h2
  have z3 : (textS s m).size ≤ 1000002 := by
    unfold textS
    cases s
    · rw [if_neg (by simp)]; omega
    · rw [if_pos rfl, size_dash]; omega
  unfold textR
  split
  · omega
  · rw [ByteArray.size_append, size_slash]; omega

end Go.Proofs.YtcfhajnboamnnabGreatDoor

namespace Go.Proofs.YtcfhajnboamnnabGreatDoor
open Go.RowKit
set_option linter.unusedVariables false

theorem textR_known : textR (negQ (mkQ true 6 4)) (mkQ true 6 4).num.natAbs (mkQ true 6 4).den = ⟨#[45, 51, 47, 50]⟩ := by
  rw [mkQ_sign (by decide), mkQ_abs (by decide), mkQ_den (by decide)]
  decide +kernel

/-- What the law makes of a raw number. -/
def rawQ (s : Bool) (xs ys : List Nat) : Rat := mkQ s (val (xs.take 3)) (if val (ys.take 3) = 0 then 1 + nl (val (xs.take 3)) else val (ys.take 3))
theorem nr_rawQ (s : Bool) {xs ys : List Nat} (h1 : Ok xs) (h2 : Ok ys) : nr (rawQ s xs ys) ≤ 3 := by
  have b1 := nl_take h1 3
  have b2 := nl_take h2 3
  unfold rawQ
  refine Nat.le_trans (nr_mkQ _ _ _ (by split <;> omega)) ?_
  split
  · have := nl_one (show 1 + nl (val (xs.take 3)) < 4294967296 by omega)
    omega
  · omega
/-- A raw number of the arguments. -/
def RawA (w : World) (v : Value) (s : Bool) (xs ys : List Nat) : Prop := ∃ vN vD, v = .agg #[.bool s, vN, vD] ∧ Rd w vN xs ∧ Rd w vD ys
theorem RawA.fwd {w w' : World} {v : Value} {s : Bool} {xs ys : List Nat} (h : RawA w v s xs ys) (k : Fwd w w') : RawA w' v s xs ys := by
  obtain ⟨vN, vD, e, h1, h2⟩ := h
  exact ⟨vN, vD, e, h1.fwd k, h2.fwd k⟩
theorem RawA.ok {w : World} {v : Value} {s : Bool} {xs ys : List Nat} (h : RawA w v s xs ys) : Ok xs ∧ Ok ys := by
  obtain ⟨vN, vD, e, h1, h2⟩ := h
  exact ⟨h1.ok, h2.ok⟩
theorem Rd.drew {w : World} {v : Value} {xs : List Nat} (h : Rd w v xs) : Rd w.drew v xs := h
theorem Rd.keepV {w w' : World} {v : Value} {xs : List Nat} {g : Nat} {T : TypeId} {cs : List Value} (h : Rd w v xs) (hb : BlkV w g T cs) (hcs : ∀ c ∈ cs, ∀ x, c ≠ .int .u32 x) (k : Only g w w') : Rd w' v xs := by
  refine ⟨h.1, ?_⟩
  rcases h.2 with e | ⟨b, off, cap, rfl, hc1, hc2, hc3, hc4⟩
  · exact .inl e
  · refine .inr ⟨b, off, cap, rfl, hc1, hc2, fun i hi => ?_, Nat.lt_of_lt_of_le hc4 k.size⟩
    have hc := hc3 i hi
    by_cases hbg : b = g
    · exfalso
      subst hbg
      unfold BlkV at hb
      simp only [World.cell?, hb] at hc
      have hm : ∃ c ∈ cs, c = .int .u32 ((xs.getD i 0 : Nat) : Int) := by
        rw [List.getElem?_toArray] at hc
        exact ⟨_, List.mem_of_getElem? hc, rfl⟩
      obtain ⟨c, hm1, hm2⟩ := hm
      exact hcs c hm1 _ hm2
    · exact k.cell hc hbg

theorem lim_small {x : Nat} (h0 : x ≠ 0) (h : x < 4294967296) : [x] = lim x := by
  rw [lim_pos h0, Nat.mod_eq_of_lt h, Nat.div_eq_of_lt h, lim_zero]

set_option maxHeartbeats 4000000 in
set_option maxRecDepth 20000 in
theorem make2law_any {w : World} {a : Value} {s : Bool} {xs ys : List Nat} (ha : RawA w a s xs ys) :
    Calls Tryz.prog 10 #[a] w fun e w' => ∃ v, e = .returned v ∧ RV w' v (rawQ s xs ys) ∧ Fwd w w' := by
  obtain ⟨vN, vD, rfl, aN, aD⟩ := ha
  obtain ⟨ao, ac, rfl, a1, a2, _, _⟩ := Rd.parts aN
  obtain ⟨ap, ae, rfl, a3, a4, _, _⟩ := Rd.parts aD
  unfold maxLen at a2 a4
  have bX := nl_take aN.ok 3
  have bY := nl_take aD.ok 3
  have kA : BlkV ((w.alloc (.cells #[.bool s, .slice ao xs.length ac, .slice ap ys.length ae] 27)).alloc (.cells #[.bool false, .slice none 0 0, .slice none 0 0] 27)) (w.heap.size) 27 [.bool s, .slice ao xs.length ac, .slice ap ys.length ae] := (BlkV.made' w (w.heap.size) (by simp) 27 [.bool s, .slice ao xs.length ac, .slice ap ys.length ae]).alloc _
  have kR : BlkV ((w.alloc (.cells #[.bool s, .slice ao xs.length ac, .slice ap ys.length ae] 27)).alloc (.cells #[.bool false, .slice none 0 0, .slice none 0 0] 27)) (w.heap.size + 1) 27 [.bool false, .slice none 0 0, .slice none 0 0] := BlkV.made' (w.alloc (.cells #[.bool s, .slice ao xs.length ac, .slice ap ys.length ae] 27)) (w.heap.size + 1) (by simp) 27 [.bool false, .slice none 0 0, .slice none 0 0]
  have hF : Fwd w ((w.alloc (.cells #[.bool s, .slice ao xs.length ac, .slice ap ys.length ae] 27)).alloc (.cells #[.bool false, .slice none 0 0, .slice none 0 0] 27)) := ((Fwd.refl w).alloc _).alloc _
  replace aN := aN.fwd hF
  replace aD := aD.fwd hF
  go_enter Tryz.func10, Tryz.ntmps10
  obtain ⟨X, hX⟩ : ∃ X, X = val (xs.take 3) := ⟨_, rfl⟩
  obtain ⟨Y, hY⟩ : ∃ Y, Y = val (ys.take 3) := ⟨_, rfl⟩
  have HX := hid hX
  have HY := hid hY
  rw [← hX] at bX
  rw [← hY] at bY
  clear hX hY
  go_wp2_with fail
  replace aN := aN.drew
  replace aD := aD.drew
  replace kA := kA.drew
  replace kR := kR.drew
  replace hF := hF.drew
  have ac0 := BlkV.cell kA 0 rfl
  have ac1 := BlkV.cell kA 1 rfl
  have ac2 := BlkV.cell kA 2 rfl
  have rc0 := BlkV.cell kR 0 rfl
  have rz0 := BlkV.frozen kR 0
  have rc1 := BlkV.cell kR 1 rfl
  have rz1 := BlkV.frozen kR 1
  have rc2 := BlkV.cell kR 2 rfl
  have rz2 := BlkV.frozen kR 2
  go_region_held3 (fun w' => w'.cell? ⟨w.heap.size, 0, none⟩ = some (.bool s) ∧ w'.cell? ⟨w.heap.size, 1, none⟩ = some (.slice ao xs.length ac) ∧ w'.cell? ⟨w.heap.size, 2, none⟩ = some (.slice ap ys.length ae))
    (first | exact ⟨by with_reducible assumption, by with_reducible assumption, by with_reducible assumption⟩ | exact ⟨(farset (by simp; try omega) (farset (by simp; try omega) (farset (by simp; try omega) (by with_reducible assumption)))), (farset (by simp; try omega) (farset (by simp; try omega) (farset (by simp; try omega) (by with_reducible assumption)))), (farset (by simp; try omega) (farset (by simp; try omega) (farset (by simp; try omega) (by with_reducible assumption))))⟩)
    (first
      | (go_at_call 45
         have _ := mk1
         refine (make_any 3 (.inl aD) (by omega) (by omega)).mono ?_
         rintro e w2 ⟨v2, rfl, h2, hf2⟩
         replace aN := aN.fwd hf2
         replace aD := aD.fwd hf2
         replace h1 := h1.fwd hf2
         replace kA := kA.fwd hf2
         replace kR := kR.fwd hf2
         replace hF := hF.trans hf2
         clear hf2
         rw [← HY.out] at h2
         clear ac0 ac1 ac2
         have ac0 := BlkV.cell kA 0 rfl
         have ac1 := BlkV.cell kA 1 rfl
         have ac2 := BlkV.cell kA 2 rfl
         clear rc0 rz0 rc1 rz1 rc2 rz2
         have rc0 := BlkV.cell kR 0 rfl
         have rz0 := BlkV.frozen kR 0
         have rc1 := BlkV.cell kR 1 rfl
         have rz1 := BlkV.frozen kR 1
         have rc2 := BlkV.cell kR 2 rfl
         have rz2 := BlkV.frozen kR 2
         have mk2 : True := trivial)
      | (go_at_call 45
         refine (make_any 3 (.inl aN) (by omega) (by omega)).mono ?_
         rintro e w1 ⟨v1, rfl, h1, hf1⟩
         replace aN := aN.fwd hf1
         replace aD := aD.fwd hf1
         replace kA := kA.fwd hf1
         replace kR := kR.fwd hf1
         replace hF := hF.trans hf1
         clear hf1
         rw [← HX.out] at h1
         clear ac0 ac1 ac2
         have ac0 := BlkV.cell kA 0 rfl
         have ac1 := BlkV.cell kA 1 rfl
         have ac2 := BlkV.cell kA 2 rfl
         clear rc0 rz0 rc1 rz1 rc2 rz2
         have rc0 := BlkV.cell kR 0 rfl
         have rz0 := BlkV.frozen kR 0
         have rc1 := BlkV.cell kR 1 rfl
         have rz1 := BlkV.frozen kR 1
         have rc2 := BlkV.cell kR 2 rfl
         have rz2 := BlkV.frozen kR 2
         have mk1 : True := trivial))
  obtain ⟨xo, xc, rfl, x1, x2, _⟩ := h1.parts
  obtain ⟨yo, yc, rfl, y1, y2, _⟩ := h2.parts
  unfold maxLen at x2 y2
  by_cases hY0 : Y = 0
  · have HQ : Hid (rawQ s xs ys = mkQ s X (1 + nl X)) := hid (by unfold rawQ; rw [← HX.out, ← HY.out, if_pos hY0])
    have hy0 : nl Y = 0 := by rw [hY0, nl_zero]
    rw [hy0]
    clear hY0 h2
    have bD := nl_one (show 1 + nl X < 4294967296 by omega)
    have hlit := num_lit w2 [1 + nl X] (1 + nl X) (lim_small (by omega) (by omega)) 1 rfl (by omega) #[.int .u32 (1 + (nl X : Int))] (by simp [cellsOf])
    have hfl : Fwd w2 (w2.alloc (.cells #[.int .u32 (1 + (nl X : Int))] 65)) := (Fwd.refl _).alloc _
    replace aN := aN.fwd hfl
    replace aD := aD.fwd hfl
    replace h1 := h1.fwd hfl
    replace kA := kA.fwd hfl
    replace kR := kR.fwd hfl
    replace hF := hF.trans hfl
    clear hfl
    clear ac0 ac1 ac2
    have ac0 := BlkV.cell kA 0 rfl
    have ac1 := BlkV.cell kA 1 rfl
    have ac2 := BlkV.cell kA 2 rfl
    clear rc0 rz0 rc1 rz1 rc2 rz2
    have rc0 := BlkV.cell kR 0 rfl
    have rz0 := BlkV.frozen kR 0
    have rc1 := BlkV.cell kR 1 rfl
    have rz1 := BlkV.frozen kR 1
    have rc2 := BlkV.cell kR 2 rfl
    have rz2 := BlkV.frozen kR 2
    go_wp2_with fail
    refine (make2_any s h1 hlit (by omega) (by omega) (by omega)).mono ?_
    rintro e w4 ⟨v, rfl, hv, hf4⟩
    replace aN := aN.fwd hf4
    replace aD := aD.fwd hf4
    replace h1 := h1.fwd hf4
    replace hlit := hlit.fwd hf4
    replace kA := kA.fwd hf4
    replace kR := kR.fwd hf4
    replace hF := hF.trans hf4
    clear hf4
    clear ac0 ac1 ac2
    have ac0 := BlkV.cell kA 0 rfl
    have ac1 := BlkV.cell kA 1 rfl
    have ac2 := BlkV.cell kA 2 rfl
    clear rc0 rz0 rc1 rz1 rc2 rz2
    have rc0 := BlkV.cell kR 0 rfl
    have rz0 := BlkV.frozen kR 0
    have rc1 := BlkV.cell kR 1 rfl
    have rz1 := BlkV.frozen kR 1
    have rc2 := BlkV.cell kR 2 rfl
    have rz2 := BlkV.frozen kR 2
    have HV := hid hv.rw'
    obtain ⟨po, pc, qo, qc, rfl, p1, p2, p3, p4, pN, pD⟩ := RW.open hv.rw'
    clear hv pN pD
    have hv := HV.out
    clear HV
    clear aN aD h1 hlit
    generalize hq : mkQ s X (1 + nl X) = q at hv ⊢
    have HQ2 := hid hq
    clear hq
    generalize hqs : negQ q = sq at hv ⊢
    generalize hqn : q.num.natAbs = qn at hv p1 p2 ⊢
    generalize hqd : q.den = qd at hv p3 p4 ⊢
    have HQS := hid hqs
    have HQN := hid hqn
    have HQD := hid hqd
    clear hqs hqn hqd
    have hfB : Fwd w4 (w4.alloc (.cells #[.bool sq, .slice po (nl qn) pc, .slice qo (nl qd) qc] 27)) := (Fwd.refl _).alloc _
    have hlt := kR.lt
    replace hv := hv.fwd hfB
    replace kA := kA.fwd hfB
    replace kR := kR.fwd hfB
    replace hF := hF.trans hfB
    clear hfB
    clear ac0 ac1 ac2
    have ac0 := BlkV.cell kA 0 rfl
    have ac1 := BlkV.cell kA 1 rfl
    have ac2 := BlkV.cell kA 2 rfl
    clear rc0 rz0 rc1 rz1 rc2 rz2
    have rc0 := BlkV.cell kR 0 rfl
    have rz0 := BlkV.frozen kR 0
    have rc1 := BlkV.cell kR 1 rfl
    have rz1 := BlkV.frozen kR 1
    have rc2 := BlkV.cell kR 2 rfl
    have rz2 := BlkV.frozen kR 2
    have kT := BlkV.made w4 27 [.bool sq, .slice po (nl qn) pc, .slice qo (nl qd) qc]
    have htr := kA.lt
    go_upto_region 5 with fail
    generalize (w4.alloc (.cells #[.bool sq, .slice po (nl qn) pc, .slice qo (nl qd) qc] 27)) = w5 at kT hv kA kR hF ⊢
    clear ac0 ac1 ac2 rc0 rz0 rc1 rz1 rc2 rz2
    have ac0 := BlkV.cell kA 0 rfl
    have ac1 := BlkV.cell kA 1 rfl
    have ac2 := BlkV.cell kA 2 rfl
    have rc0 := BlkV.cell kR 0 rfl
    have rz0 := BlkV.frozen kR 0
    have rc1 := BlkV.cell kR 1 rfl
    have rz1 := BlkV.frozen kR 1
    have rc2 := BlkV.cell kR 2 rfl
    have rz2 := BlkV.frozen kR 2
    have tc0 := BlkV.cell kT 0 rfl
    have tc1 := BlkV.cell kT 1 rfl
    have tc2 := BlkV.cell kT 2 rfl
    go_wp2_with (with_reducible refine stop_here ?_)
    refine ⟨?_⟩
    have hz : BlkV (((w5.setCell ⟨w.heap.size + 1, 0, none⟩ (.bool sq)).setCell ⟨w.heap.size + 1, 1, none⟩ (.slice po (nl qn) pc)).setCell ⟨w.heap.size + 1, 2, none⟩ (.slice qo (nl qd) qc)) (w.heap.size + 1) 27 [.bool sq, .slice po (nl qn) pc, .slice qo (nl qd) qc] := ((BlkV.set kR 0 (.bool sq)).set 1 (.slice po (nl qn) pc)).set 2 (.slice qo (nl qd) qc)
    have hon : Only (w.heap.size + 1) w5 (((w5.setCell ⟨w.heap.size + 1, 0, none⟩ (.bool sq)).setCell ⟨w.heap.size + 1, 1, none⟩ (.slice po (nl qn) pc)).setCell ⟨w.heap.size + 1, 2, none⟩ (.slice qo (nl qd) qc)) := ((Only.set (w.heap.size + 1) w5 0 (.bool sq)).setv 1 (.slice po (nl qn) pc)).setv 2 (.slice qo (nl qd) qc)
    replace hv := hv.keepV kR (by simp) hon
    replace kA := BlkV.only kA hon (by omega)
    replace kT := BlkV.only kT hon (by omega)
    replace hF := hF.wrote hon (by omega)
    clear kR
    have kR := hz
    clear hz hon
    generalize (((w5.setCell ⟨w.heap.size + 1, 0, none⟩ (.bool sq)).setCell ⟨w.heap.size + 1, 1, none⟩ (.slice po (nl qn) pc)).setCell ⟨w.heap.size + 1, 2, none⟩ (.slice qo (nl qd) qc)) = w6 at hv kA kR kT hF ⊢
    clear ac0 ac1 ac2
    have ac0 := BlkV.cell kA 0 rfl
    have ac1 := BlkV.cell kA 1 rfl
    have ac2 := BlkV.cell kA 2 rfl
    clear rc0 rz0 rc1 rz1 rc2 rz2
    have rc0 := BlkV.cell kR 0 rfl
    have rz0 := BlkV.frozen kR 0
    have rc1 := BlkV.cell kR 1 rfl
    have rz1 := BlkV.frozen kR 1
    have rc2 := BlkV.cell kR 2 rfl
    have rz2 := BlkV.frozen kR 2
    clear tc0 tc1 tc2
    have tc0 := BlkV.cell kT 0 rfl
    have tc1 := BlkV.cell kT 1 rfl
    have tc2 := BlkV.cell kT 2 rfl
    refine bodyPost_ret (by simp [results, Tryz.results10, go_sem, rc0, rc1, rc2]; try rfl) rfl ?_
    refine ⟨_, rfl, ?_, hF⟩
    rw [HQ.out, HQ2.out]
    unfold RV
    rw [HQS.out, HQN.out, HQD.out]
    exact hv
  · have HQ : Hid (rawQ s xs ys = mkQ s X Y) := hid (by unfold rawQ; rw [← HX.out, ← HY.out, if_neg hY0])
    have hyp : 0 < nl Y := by rw [nl_pos hY0]; omega
    have hyne : ((nl Y : Int) == 0) = false := by simp; omega
    go_wp2_with fail
    refine (make2_any s h1 h2 (by omega) (by omega) (by omega)).mono ?_
    rintro e w3 ⟨v, rfl, hv, hf3⟩
    replace aN := aN.fwd hf3
    replace aD := aD.fwd hf3
    replace h1 := h1.fwd hf3
    replace h2 := h2.fwd hf3
    replace kA := kA.fwd hf3
    replace kR := kR.fwd hf3
    replace hF := hF.trans hf3
    clear hf3
    clear ac0 ac1 ac2
    have ac0 := BlkV.cell kA 0 rfl
    have ac1 := BlkV.cell kA 1 rfl
    have ac2 := BlkV.cell kA 2 rfl
    clear rc0 rz0 rc1 rz1 rc2 rz2
    have rc0 := BlkV.cell kR 0 rfl
    have rz0 := BlkV.frozen kR 0
    have rc1 := BlkV.cell kR 1 rfl
    have rz1 := BlkV.frozen kR 1
    have rc2 := BlkV.cell kR 2 rfl
    have rz2 := BlkV.frozen kR 2
    have HV := hid hv.rw'
    obtain ⟨po, pc, qo, qc, rfl, p1, p2, p3, p4, pN, pD⟩ := RW.open hv.rw'
    clear hv pN pD
    have hv := HV.out
    clear HV
    clear aN aD h1 h2
    generalize hq : mkQ s X (Y) = q at hv ⊢
    have HQ2 := hid hq
    clear hq
    generalize hqs : negQ q = sq at hv ⊢
    generalize hqn : q.num.natAbs = qn at hv p1 p2 ⊢
    generalize hqd : q.den = qd at hv p3 p4 ⊢
    have HQS := hid hqs
    have HQN := hid hqn
    have HQD := hid hqd
    clear hqs hqn hqd
    have hfB : Fwd w3 (w3.alloc (.cells #[.bool sq, .slice po (nl qn) pc, .slice qo (nl qd) qc] 27)) := (Fwd.refl _).alloc _
    have hlt := kR.lt
    replace hv := hv.fwd hfB
    replace kA := kA.fwd hfB
    replace kR := kR.fwd hfB
    replace hF := hF.trans hfB
    clear hfB
    clear ac0 ac1 ac2
    have ac0 := BlkV.cell kA 0 rfl
    have ac1 := BlkV.cell kA 1 rfl
    have ac2 := BlkV.cell kA 2 rfl
    clear rc0 rz0 rc1 rz1 rc2 rz2
    have rc0 := BlkV.cell kR 0 rfl
    have rz0 := BlkV.frozen kR 0
    have rc1 := BlkV.cell kR 1 rfl
    have rz1 := BlkV.frozen kR 1
    have rc2 := BlkV.cell kR 2 rfl
    have rz2 := BlkV.frozen kR 2
    have kT := BlkV.made w3 27 [.bool sq, .slice po (nl qn) pc, .slice qo (nl qd) qc]
    have htr := kA.lt
    go_upto_region 5 with fail
    generalize (w3.alloc (.cells #[.bool sq, .slice po (nl qn) pc, .slice qo (nl qd) qc] 27)) = w4 at kT hv kA kR hF ⊢
    clear ac0 ac1 ac2 rc0 rz0 rc1 rz1 rc2 rz2
    have ac0 := BlkV.cell kA 0 rfl
    have ac1 := BlkV.cell kA 1 rfl
    have ac2 := BlkV.cell kA 2 rfl
    have rc0 := BlkV.cell kR 0 rfl
    have rz0 := BlkV.frozen kR 0
    have rc1 := BlkV.cell kR 1 rfl
    have rz1 := BlkV.frozen kR 1
    have rc2 := BlkV.cell kR 2 rfl
    have rz2 := BlkV.frozen kR 2
    have tc0 := BlkV.cell kT 0 rfl
    have tc1 := BlkV.cell kT 1 rfl
    have tc2 := BlkV.cell kT 2 rfl
    go_wp2_with (with_reducible refine stop_here ?_)
    refine ⟨?_⟩
    have hz : BlkV (((w4.setCell ⟨w.heap.size + 1, 0, none⟩ (.bool sq)).setCell ⟨w.heap.size + 1, 1, none⟩ (.slice po (nl qn) pc)).setCell ⟨w.heap.size + 1, 2, none⟩ (.slice qo (nl qd) qc)) (w.heap.size + 1) 27 [.bool sq, .slice po (nl qn) pc, .slice qo (nl qd) qc] := ((BlkV.set kR 0 (.bool sq)).set 1 (.slice po (nl qn) pc)).set 2 (.slice qo (nl qd) qc)
    have hon : Only (w.heap.size + 1) w4 (((w4.setCell ⟨w.heap.size + 1, 0, none⟩ (.bool sq)).setCell ⟨w.heap.size + 1, 1, none⟩ (.slice po (nl qn) pc)).setCell ⟨w.heap.size + 1, 2, none⟩ (.slice qo (nl qd) qc)) := ((Only.set (w.heap.size + 1) w4 0 (.bool sq)).setv 1 (.slice po (nl qn) pc)).setv 2 (.slice qo (nl qd) qc)
    replace hv := hv.keepV kR (by simp) hon
    replace kA := BlkV.only kA hon (by omega)
    replace kT := BlkV.only kT hon (by omega)
    replace hF := hF.wrote hon (by omega)
    clear kR
    have kR := hz
    clear hz hon
    generalize (((w4.setCell ⟨w.heap.size + 1, 0, none⟩ (.bool sq)).setCell ⟨w.heap.size + 1, 1, none⟩ (.slice po (nl qn) pc)).setCell ⟨w.heap.size + 1, 2, none⟩ (.slice qo (nl qd) qc)) = w5 at hv kA kR kT hF ⊢
    clear ac0 ac1 ac2
    have ac0 := BlkV.cell kA 0 rfl
    have ac1 := BlkV.cell kA 1 rfl
    have ac2 := BlkV.cell kA 2 rfl
    clear rc0 rz0 rc1 rz1 rc2 rz2
    have rc0 := BlkV.cell kR 0 rfl
    have rz0 := BlkV.frozen kR 0
    have rc1 := BlkV.cell kR 1 rfl
    have rz1 := BlkV.frozen kR 1
    have rc2 := BlkV.cell kR 2 rfl
    have rz2 := BlkV.frozen kR 2
    clear tc0 tc1 tc2
    have tc0 := BlkV.cell kT 0 rfl
    have tc1 := BlkV.cell kT 1 rfl
    have tc2 := BlkV.cell kT 2 rfl
    refine bodyPost_ret (by simp [results, Tryz.results10, go_sem, rc0, rc1, rc2]; try rfl) rfl ?_
    refine ⟨_, rfl, ?_, hF⟩
    rw [HQ.out, HQ2.out]
    unfold RV
    rw [HQS.out, HQN.out, HQD.out]
    exact hv

end Go.Proofs.YtcfhajnboamnnabGreatDoor

namespace Go.Proofs.YtcfhajnboamnnabGreatDoor
open Go.RowKit
set_option linter.unusedVariables false
set_option linter.unusedSimpArgs false

theorem and60 (x : Nat) (hx : x < 18446744073709551616) : bits .and .u64 (x : Int) 1152921504606846975 = ((x % 1152921504606846976 : Nat) : Int) := by
  have h := bits_and_u64_nat x 1152921504606846975 hx (by decide)
  rw [show (1152921504606846975 : Nat) = 2 ^ 60 - 1 from rfl, Nat.and_two_pow_sub_one_eq_mod] at h
  exact h

set_option maxHeartbeats 4000000 in
set_option maxRecDepth 100000 in
theorem end4_any {w : World} (f : Nat) (n : Int) (hf : f < 18446744073709551616) (n1 : -9223372036854775808 ≤ n) (n2 : n ≤ 9223372036854775807) :
    Calls Tryz.prog 43 #[.int .u64 f, .int .i64 n] w fun e w' => ∃ y : Nat, e = .returned (.int .u64 y) ∧ (y < 18446744073709551616 ∧ fsz y < 9218868437227405312) ∧ Fwd w w' := by
  have ha := and60 f hf
  have hm : f % 1152921504606846976 < 1152921504606846976 := Nat.mod_lt _ (by omega)
  go_enter Tryz.func43, Tryz.ntmps43
  go_wp2_with fail
  refine (make3_any _ f n hf n1 n2).mono ?_
  rintro e wq ⟨x, hx, rfl, rfl⟩
  clear n1 n2
  by_cases hi : fsz x < 9218868437227405312
  · have cr := fun w => refRat_any (w := w) x hx hi
    go_wp2_with fail
    refine (cr _).mono ?_
    rintro e w2 ⟨v, rfl, hv, hf2⟩
    obtain ⟨po, pc, qo, qc, rfl, p1, p2, p3, p4, -, -⟩ := RW.open hv
    have hF := hf2.alloc (.cells #[.bool (negQ (mkQ (fneg x) (ratA x) (ratB x))), .slice po (nl (mkQ (fneg x) (ratA x) (ratB x)).num.natAbs) pc, .slice qo (nl (mkQ (fneg x) (ratA x) (ratB x)).den) qc] 27)
    clear hv cr
    go_wp2
    go_ret
    exact ⟨x, rfl, ⟨hx, hi⟩, hF⟩
  · have cr := fun w => refRat_range (w := w) x hx (by omega)
    unfold ratZero at cr
    go_wp2_with fail
    refine (cr _).mono ?_
    rintro e w2 ⟨rfl, hf2⟩
    have hF := hf2.alloc (.cells #[.bool false, .slice none 0 0, .slice none 0 0] 27)
    clear cr
    generalize hM : f % 1152921504606846976 = M at *
    go_wp2
    go_ret
    exact ⟨M, rfl, ⟨by omega, by unfold fsz; omega⟩, hF⟩

theorem third_q : mkQ (!(decide ((1 : Int) < 0) == decide ((3 : Int) < 0))) (1 : Int).natAbs (3 : Int).natAbs = mkRat 1 3 := rfl
theorem third_parts : negQ (mkRat 1 3) = false ∧ (mkRat 1 3).num.natAbs = 1 ∧ (mkRat 1 3).den = 3 := by decide +kernel
theorem third_lo : ofQ 2 false 1 3 = (4599676419421066581, 1) := by decide +kernel
theorem third_hi : ofQ 3 false 1 3 = (4599676419421066582, 1) := by decide +kernel
theorem jo_same {f : Nat} (h : fsz f ≤ 9218868437227405312) : joL f f = f ∧ joH f f = f := by
  unfold joL joH
  exact ⟨by split <;> rfl, by split <;> rfl⟩

set_option maxHeartbeats 8000000 in
set_option maxRecDepth 100000 in
theorem known4_any {w : World} (hR : Ru w) : Calls Tryz.prog 8 #[] w fun e w' => e = .returned (.bool true) ∧ Fwd w w' := by
  have co := fun (w : World) => of2_any w 1 3 (by omega) (by omega) (by omega) (by omega) (by omega)
  rw [third_q] at co
  have t := third_parts
  have hF : Fwd w w := Fwd.refl w
  have ci : ∀ (w' : World) (v : Value), Fwd w w' → RV w' v (mkRat 1 3) → Calls Tryz.prog 18 #[v] w' fun e w'' => e = .returned (.agg #[.int .u64 4599676419421066581, .int .u64 4599676419421066582]) ∧ Fwd w' w'' := fun w' v g hv => by
    unfold RV at hv
    rw [t.1, t.2.1, t.2.2] at hv
    have := ivOf_any (hR.fwd g) hv (Nat.le_trans (nl_two' (by decide)) (by decide)) (Nat.le_trans (nl_two' (by decide)) (by decide)) (by decide)
    rw [third_lo, third_hi] at this
    exact this
  have ch : ∀ (w' : World) (v : Value), Fwd w w' → RV w' v (mkRat 1 3) → Calls Tryz.prog 16 #[.agg #[.int .u64 4599676419421066581, .int .u64 4599676419421066582], v] w' fun e w'' => e = .returned (.bool true) ∧ Fwd w' w'' := fun w' v g hv => by
    unfold RV at hv
    rw [t.1, t.2.1, t.2.2] at hv
    exact ivHas_in (lo := 4599676419421066581) (hi := 4599676419421066582) (hR.fwd g) hv (Nat.le_trans (nl_two' (by decide)) (by decide)) (Nat.le_trans (nl_two' (by decide)) (by decide)) (by decide) (by decide) (by decide) (by decide) (by decide) (by rw [third_lo]) (by rw [third_hi]) (jo_same (by decide +kernel)).1 (jo_same (by decide +kernel)).2
  have c1 : ∀ (w' : World), Calls Tryz.prog 14 #[.agg #[.int .u64 4599676419421066581, .int .u64 4599676419421066582]] w' fun e w'' => e = .returned (.bool true) ∧ Fwd w' w'' := fun w' => by
    have := ivRight_any (w := w') 4599676419421066581 4599676419421066582 (by decide) (by decide)
    rw [show ((cmpF 4599676419421066581 4599676419421066582).2 && decide ((cmpF 4599676419421066581 4599676419421066582).1 ≤ 0)) = true by decide +kernel] at this
    exact this
  have c2 : ∀ (w' : World), Calls Tryz.prog 14 #[.agg #[.int .u64 1, .int .u64 0]] w' fun e w'' => e = .returned (.bool false) ∧ Fwd w' w'' := fun w' => by
    have := ivRight_any (w := w') 1 0 (by decide) (by decide)
    rw [show ((cmpF 1 0).2 && decide ((cmpF 1 0).1 ≤ 0)) = false by decide +kernel] at this
    exact this
  obtain ⟨Q, hQ⟩ : ∃ q, q = mkRat 1 3 := ⟨_, rfl⟩
  rw [← hQ] at co ci ch
  clear t hQ hR
  go_enter Tryz.func8, Tryz.ntmps8
  go_wp2_with fail
  refine (co _).mono ?_
  rintro e u1 ⟨v, rfl, hv, hf⟩
  replace hF := hF.trans hf
  clear hf co
  have HV := hid hv
  obtain ⟨po, pc, qo, qc, rfl, p1, p2, p3, p4, -, -⟩ := RW.open hv
  clear hv
  have hfB : Fwd u1 (u1.alloc (.cells #[.bool (negQ Q), .slice po (nl Q.num.natAbs) pc, .slice qo (nl Q.den) qc] 27)) := (Fwd.refl _).alloc _
  have HV' := hid (RV.fwd HV.out hfB)
  clear HV
  have HV := HV'
  clear HV'
  replace hF := hF.trans hfB
  clear hfB
  have kT := BlkV.made u1 27 [.bool (negQ Q), .slice po (nl Q.num.natAbs) pc, .slice qo (nl Q.den) qc]
  go_upto_region 2 with fail
  generalize (u1.alloc (.cells #[.bool (negQ Q), .slice po (nl Q.num.natAbs) pc, .slice qo (nl Q.den) qc] 27)) = u1' at kT  HV hF ⊢
  have tc0 := BlkV.cell kT 0 rfl
  have tz0 := BlkV.frozen kT 0
  have tc1 := BlkV.cell kT 1 rfl
  have tz1 := BlkV.frozen kT 1
  have tc2 := BlkV.cell kT 2 rfl
  have tz2 := BlkV.frozen kT 2
  go_wp2_with fail
  refine (ci _ _ hF HV.out).mono ?_
  rintro e u2 ⟨rfl, hfC⟩
  replace kT := kT.fwd hfC
  have HV' := hid (RV.fwd HV.out hfC)
  clear HV
  have HV := HV'
  clear HV'
  replace hF := hF.trans hfC
  clear hfC
  clear tc0 tz0 tc1 tz1 tc2 tz2
  have tc0 := BlkV.cell kT 0 rfl
  have tz0 := BlkV.frozen kT 0
  have tc1 := BlkV.cell kT 1 rfl
  have tz1 := BlkV.frozen kT 1
  have tc2 := BlkV.cell kT 2 rfl
  have tz2 := BlkV.frozen kT 2
  have hfB : Fwd u2 (u2.alloc (.cells #[.int .u64 4599676419421066581, .int .u64 4599676419421066582] 24)) := (Fwd.refl _).alloc _
  have ltTI := BlkV.lt kT
  replace kT := kT.fwd hfB
  have HV' := hid (RV.fwd HV.out hfB)
  clear HV
  have HV := HV'
  clear HV'
  replace hF := hF.trans hfB
  clear hfB
  have kI := BlkV.made u2 24 [.int .u64 4599676419421066581, .int .u64 4599676419421066582]
  go_upto_region 3 with fail
  clear tc0 tz0 tc1 tz1 tc2 tz2
  generalize (u2.alloc (.cells #[.int .u64 4599676419421066581, .int .u64 4599676419421066582] 24)) = u2' at kI kT HV hF ⊢
  have tc0 := BlkV.cell kT 0 rfl
  have tz0 := BlkV.frozen kT 0
  have tc1 := BlkV.cell kT 1 rfl
  have tz1 := BlkV.frozen kT 1
  have tc2 := BlkV.cell kT 2 rfl
  have tz2 := BlkV.frozen kT 2
  have ic0 := BlkV.cell kI 0 rfl
  have iz0 := BlkV.frozen kI 0
  have ic1 := BlkV.cell kI 1 rfl
  have iz1 := BlkV.frozen kI 1
  go_wp2_with fail
  refine (ch _ _ hF HV.out).mono ?_
  rintro e u3 ⟨rfl, hfC⟩
  replace kT := kT.fwd hfC
  replace kI := kI.fwd hfC
  replace hF := hF.trans hfC
  clear hfC
  clear tc0 tz0 tc1 tz1 tc2 tz2
  clear ic0 iz0 ic1 iz1
  have tc0 := BlkV.cell kT 0 rfl
  have tz0 := BlkV.frozen kT 0
  have tc1 := BlkV.cell kT 1 rfl
  have tz1 := BlkV.frozen kT 1
  have tc2 := BlkV.cell kT 2 rfl
  have tz2 := BlkV.frozen kT 2
  have ic0 := BlkV.cell kI 0 rfl
  have iz0 := BlkV.frozen kI 0
  have ic1 := BlkV.cell kI 1 rfl
  have iz1 := BlkV.frozen kI 1
  go_wp2_with fail
  refine (c1 _).mono ?_
  rintro e u4 ⟨rfl, hfC⟩
  replace kT := kT.fwd hfC
  replace kI := kI.fwd hfC
  replace hF := hF.trans hfC
  clear hfC
  clear tc0 tz0 tc1 tz1 tc2 tz2
  clear ic0 iz0 ic1 iz1
  have tc0 := BlkV.cell kT 0 rfl
  have tz0 := BlkV.frozen kT 0
  have tc1 := BlkV.cell kT 1 rfl
  have tz1 := BlkV.frozen kT 1
  have tc2 := BlkV.cell kT 2 rfl
  have tz2 := BlkV.frozen kT 2
  have ic0 := BlkV.cell kI 0 rfl
  have iz0 := BlkV.frozen kI 0
  have ic1 := BlkV.cell kI 1 rfl
  have iz1 := BlkV.frozen kI 1
  go_wp2_with fail
  refine (c2 _).mono ?_
  rintro e u5 ⟨rfl, hfC⟩
  replace kT := kT.fwd hfC
  replace kI := kI.fwd hfC
  replace hF := hF.trans hfC
  clear hfC
  clear tc0 tz0 tc1 tz1 tc2 tz2
  clear ic0 iz0 ic1 iz1
  have tc0 := BlkV.cell kT 0 rfl
  have tz0 := BlkV.frozen kT 0
  have tc1 := BlkV.cell kT 1 rfl
  have tz1 := BlkV.frozen kT 1
  have tc2 := BlkV.cell kT 2 rfl
  have tz2 := BlkV.frozen kT 2
  have ic0 := BlkV.cell kI 0 rfl
  have iz0 := BlkV.frozen kI 0
  have ic1 := BlkV.cell kI 1 rfl
  have iz1 := BlkV.frozen kI 1
  go_wp2
  go_ret
  exact ⟨rfl, hF⟩
end Go.Proofs.YtcfhajnboamnnabGreatDoor
