/- FloatSame: sums and products do not depend on their order; a difference is a sum with the other sign; with a nought, or by one, they are what they are: the law's walk. -/
import Derived.Test.YtmidccmehpjjlabDoorF17
import Derived.OpenShut
namespace Go.Proofs.YtmidccmehpjjlabDoor
open Go.RowKit
set_option linter.unusedVariables false
set_option linter.unusedSimpArgs false

set_option maxHeartbeats 8000000 in
set_option maxRecDepth 100000 in
theorem floatSame_walk {w : World} {a b n m mode : Int} (hR : Ru w) (ha : (Lit.int .u64 a).wf = true) (hb : (Lit.int .u64 b).wf = true) (hn : (Lit.int .i64 n).wf = true) (hm : (Lit.int .i64 m).wf = true) (hk : (Lit.int .i64 mode).wf = true) :
    Calls Tryd.prog 4 #[.int .u64 a, .int .u64 b, .int .i64 n, .int .i64 m, .int .i64 mode] w fun e w' => e = .returned (.bool true) ∧ Below w.heap.size w w' := by
  obtain ⟨a1, a2⟩ := bounds_u64 ha
  obtain ⟨b1, b2⟩ := bounds_u64 hb
  obtain ⟨n1, n2⟩ := bounds_i64 hn
  obtain ⟨m1, m2⟩ := bounds_i64 hm
  obtain ⟨k1, k2⟩ := bounds_i64 hk
  obtain ⟨a, rfl⟩ : ∃ a' : Nat, a = (a' : Int) := ⟨a.toNat, by omega⟩
  obtain ⟨b, rfl⟩ : ∃ b' : Nat, b = (b' : Int) := ⟨b.toNat, by omega⟩
  clear ha hb hn hm hk
  have hF : Fwd w w := Fwd.refl w
  go_enter Tryd.func4, Tryd.ntmps4
  go_wp2_with fail
  refine (known3_any hR).mono ?_
  rintro e w1 ⟨rfl, hf1⟩
  replace hR := hR.fwd hf1
  replace hF := hF.trans hf1
  clear hf1
  go_wp2_with fail
  refine (make3_any _ a n (by omega) n1 n2).mono ?_
  rintro e wq ⟨x, hx, rfl, rfl⟩
  go_wp2_with fail
  refine (make3_any _ b m (by omega) m1 m2).mono ?_
  rintro e wq ⟨y, hy, rfl, rfl⟩
  go_wp2_with fail
  refine (within3_any _ mode 5 (by omega) (by omega) k1 k2).mono ?_
  rintro e wq ⟨k, hk, rfl, rfl⟩
  clear a1 a2 b1 b2 n1 n2 m1 m2 k1 k2
  have hxor := xor_sign y hy
  have hand := andNot_sign x hx
  have hfy := flip_lt hy
  have e1 : addF k y x = addF k x y := addF_comm _ _ _
  have e2 : mulF k y x = mulF k x y := mulF_comm _ _ _
  have e3 : fmaF k x 4607182418800017408 y = addF k x y := fma_one _ _ _
  have e4 := mul_one (k : Int) hx
  generalize hy' : flipF y = y' at *
  have HY := hid hy'
  clear hy'
  have c := addF_any hR k x y hx hy
  go_wp2_with fail
  refine c.mono ?_
  rintro e v0 ⟨rfl, hf⟩
  clear c
  replace hR := hR.fwd hf
  replace hF := hF.trans hf
  clear hf
  have c := addF_any hR k y x hy hx
  rw [e1] at c
  go_wp2_with fail
  refine c.mono ?_
  rintro e v1 ⟨rfl, hf⟩
  clear c
  replace hR := hR.fwd hf
  replace hF := hF.trans hf
  clear hf
  have c := mulF_any hR k x y hx hy
  go_wp2_with fail
  refine c.mono ?_
  rintro e v2 ⟨rfl, hf⟩
  clear c
  replace hR := hR.fwd hf
  replace hF := hF.trans hf
  clear hf
  have c := mulF_any hR k y x hy hx
  rw [e2] at c
  go_wp2_with fail
  refine c.mono ?_
  rintro e v3 ⟨rfl, hf⟩
  clear c
  replace hR := hR.fwd hf
  replace hF := hF.trans hf
  clear hf
  have c := subF_any hR k x y hx hy
  rw [HY.out] at c
  go_wp2_with fail
  refine c.mono ?_
  rintro e v4 ⟨rfl, hf⟩
  clear c
  replace hR := hR.fwd hf
  replace hF := hF.trans hf
  clear hf
  have c := addF_any hR k x y' hx hfy
  go_wp2_with fail
  refine c.mono ?_
  rintro e v5 ⟨rfl, hf⟩
  clear c
  replace hR := hR.fwd hf
  replace hF := hF.trans hf
  clear hf
  have c := fmaF_any hR k x 4607182418800017408 y hx (by decide) hy
  rw [e3] at c
  go_wp2_with fail
  refine c.mono ?_
  rintro e v6 ⟨rfl, hf⟩
  clear c
  replace hR := hR.fwd hf
  replace hF := hF.trans hf
  clear hf
  have c := mulF_any hR k x 4607182418800017408 hx (by decide)
  rw [e4] at c
  go_wp2_with fail
  refine c.mono ?_
  rintro e v7 ⟨rfl, hf⟩
  clear c
  replace hR := hR.fwd hf
  replace hF := hF.trans hf
  clear hf
  clear hR e1 e2 e3 e4
  generalize addF k x y = S at *
  generalize mulF k x y = T at *
  generalize addF k x y' = U at *
  obtain ⟨s1, s2⟩ := S
  obtain ⟨t1, t2⟩ := T
  obtain ⟨u1, u2⟩ := U
  by_cases c : isNan x = true
  · have i1 : decide (9218868437227405312 < (fsz x : Int)) = true := decide_eq_true (by have := of_decide_eq_true c; omega)
    rw [if_pos c] at *
    clear c
    go_wp2
    go_ret
    exact ⟨rfl, hF⟩
  · have i1 : decide (9218868437227405312 < (fsz x : Int)) = false := decide_eq_false (by have : ¬ 9218868437227405312 < fsz x := fun h => c (decide_eq_true h); omega)
    rw [if_neg c] at *
    clear c
    go_wp2
    go_ret
    exact ⟨rfl, hF⟩
end Go.Proofs.YtmidccmehpjjlabDoor
