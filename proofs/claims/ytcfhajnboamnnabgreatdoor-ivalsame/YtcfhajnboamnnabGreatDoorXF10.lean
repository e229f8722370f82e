/- sfloat's round of any value; add. -/
import Derived.Test.YtcfhajnboamnnabGreatDoorXF8
import Derived.Test.YtcfhajnboamnnabGreatDoorXF9
namespace Go.Proofs.YtcfhajnboamnnabGreatDoor
open Go.RowKit
set_option linter.unusedVariables false

theorem round_any {w : World} {v : Value} {s en : Bool} {n : Nat} {x : Int} (m : Int) (h : VV v s en n x) (hx1 : -1000000 ≤ x) (hx2 : x ≤ 1000000) :
    Calls Tryz.prog 92 #[ruleV m, v] w fun e w' => e = .returned (.tuple #[.int .u64 ((rdV m (s, en, n, x)).1 : Nat), .int .i64 ((rdV m (s, en, n, x)).2 : Nat)]) ∧ Fwd w w' := by
  unfold rdV
  cases en
  · by_cases c : n = 0
    · subst c; simp only [Bool.false_eq_true, if_false, if_true]; exact round_nought m h
    · simp only [Bool.false_eq_true, if_false, if_neg c]
      by_cases c1 : hiP n x < -1074
      · exact round_a m h c hx1 hx2 c1
      · by_cases c2 : hiP n x + 1074 ≤ 2046
        · exact round_b m h c hx1 hx2 (by omega) c2
        · exact round_c m h c hx1 hx2 (by omega) (by omega)
  · simp only [if_true]; exact round_end m h

theorem plusV_exp (s : Bool) (n : Nat) (x : Int) (t : Bool) (k : Nat) (y : Int) (hx1 : -100000 ≤ x) (hx2 : x ≤ 100000) (hy1 : -100000 ≤ y) (hy2 : y ≤ 100000) :
    -1000000 ≤ (plusV (s, false, n, x) (t, false, k, y)).2.2.2 ∧ (plusV (s, false, n, x) (t, false, k, y)).2.2.2 ≤ 1000000 := by
  have h1 : lsh n 1 ≤ 128 := by unfold lsh; omega
  have h2 : lsh k 1 ≤ 128 := by unfold lsh; omega
  unfold plusV pl2
  simp only
  repeat' split
  all_goals simp only
  all_goals omega

set_option maxHeartbeats 8000000 in
set_option maxRecDepth 100000 in
theorem add_any {w : World} {u v : Value} {s en t em : Bool} {n k : Nat} {x y : Int} (m : Int) (h : VV u s en n x) (g : VV v t em k y) (hn : blen n ≤ 127) (hk : blen k ≤ 127) (hx1 : -100000 ≤ x) (hx2 : x ≤ 100000) (hy1 : -100000 ≤ y) (hy2 : y ≤ 100000) :
    Calls Tryz.prog 122 #[ruleV m, u, v] w fun e w' => e = .returned (.tuple #[.int .u64 ((addV m (s, en, n, x) (t, em, k, y)).1 : Nat), .int .i64 ((addV m (s, en, n, x) (t, em, k, y)).2 : Nat)]) ∧ Fwd w w' := by
  have r1 := fun w => round_any (w := w) m h (by omega) (by omega)
  have r2 := fun w => round_any (w := w) m g (by omega) (by omega)
  have h0 := h
  have g0 := g
  obtain ⟨a, b, rfl, h1, h2, hab⟩ := h
  obtain ⟨c, d, rfl, g1, g2, hcd⟩ := g
  clear hab hcd
  cases en <;> cases em
  · have pl := fun w => plus_any (w := w) h0 g0 hn hk hx1 hx2 hy1 hy2
    have hb := plusV_exp s n x t k y hx1 hx2 hy1 hy2
    have he := plusV_en (s, false, n, x) (t, false, k, y) rfl rfl
    have HV : Hid (addV m (s, false, n, x) (t, false, k, y) = if (plusV (s, false, n, x) (t, false, k, y)).2.2.1 = 0 ∧ s ≠ t then (sgn (rMinus m), 0) else rdV m (plusV (s, false, n, x) (t, false, k, y))) := hid (by unfold addV; simp)
    generalize addV m (s, false, n, x) (t, false, k, y) = S at *
    generalize plusV (s, false, n, x) (t, false, k, y) = P at *
    obtain ⟨ps, pe, pn, px⟩ := P
    obtain rfl : pe = false := he
    simp only at hb HV
    clear h0 g0 r1 r2
    unfold ruleV
    have kQ : BlkV (((w.alloc (.cells #[.int .u8 (rAbove m), .int .u8 (rBelow m), .bool (rMinus m)] 97)).alloc (.cells #[.bool s, .bool false, .int .u64 (a), .int .u64 (b), .int .i64 (x)] 107)).alloc (.cells #[.bool t, .bool false, .int .u64 (c), .int .u64 (d), .int .i64 (y)] 107)) (w.heap.size) 97 [.int .u8 (rAbove m), .int .u8 (rBelow m), .bool (rMinus m)] := ((BlkV.made' w (w.heap.size) (by simp) 97 [.int .u8 (rAbove m), .int .u8 (rBelow m), .bool (rMinus m)]).alloc _).alloc _
    have kA : BlkV (((w.alloc (.cells #[.int .u8 (rAbove m), .int .u8 (rBelow m), .bool (rMinus m)] 97)).alloc (.cells #[.bool s, .bool false, .int .u64 (a), .int .u64 (b), .int .i64 (x)] 107)).alloc (.cells #[.bool t, .bool false, .int .u64 (c), .int .u64 (d), .int .i64 (y)] 107)) (w.heap.size + 1) 107 [.bool s, .bool false, .int .u64 (a), .int .u64 (b), .int .i64 (x)] := (BlkV.made' (w.alloc (.cells #[.int .u8 (rAbove m), .int .u8 (rBelow m), .bool (rMinus m)] 97)) (w.heap.size + 1) (by simp) 107 [.bool s, .bool false, .int .u64 (a), .int .u64 (b), .int .i64 (x)]).alloc _
    have kB : BlkV (((w.alloc (.cells #[.int .u8 (rAbove m), .int .u8 (rBelow m), .bool (rMinus m)] 97)).alloc (.cells #[.bool s, .bool false, .int .u64 (a), .int .u64 (b), .int .i64 (x)] 107)).alloc (.cells #[.bool t, .bool false, .int .u64 (c), .int .u64 (d), .int .i64 (y)] 107)) (w.heap.size + 1 + 1) 107 [.bool t, .bool false, .int .u64 (c), .int .u64 (d), .int .i64 (y)] := BlkV.made' ((w.alloc (.cells #[.int .u8 (rAbove m), .int .u8 (rBelow m), .bool (rMinus m)] 97)).alloc (.cells #[.bool s, .bool false, .int .u64 (a), .int .u64 (b), .int .i64 (x)] 107)) (w.heap.size + 1 + 1) (by simp) 107 [.bool t, .bool false, .int .u64 (c), .int .u64 (d), .int .i64 (y)]
    have hF : Fwd w (((w.alloc (.cells #[.int .u8 (rAbove m), .int .u8 (rBelow m), .bool (rMinus m)] 97)).alloc (.cells #[.bool s, .bool false, .int .u64 (a), .int .u64 (b), .int .i64 (x)] 107)).alloc (.cells #[.bool t, .bool false, .int .u64 (c), .int .u64 (d), .int .i64 (y)] 107)) := (((Fwd.refl w).alloc _).alloc _).alloc _
    go_enter Tryz.func122, Tryz.ntmps122
    have qc0 := BlkV.cell kQ 0 rfl
    have qz0 := BlkV.frozen kQ 0
    have qc1 := BlkV.cell kQ 1 rfl
    have qz1 := BlkV.frozen kQ 1
    have qc2 := BlkV.cell kQ 2 rfl
    have qz2 := BlkV.frozen kQ 2
    have ac0 := BlkV.cell kA 0 rfl
    have az0 := BlkV.frozen kA 0
    have ac1 := BlkV.cell kA 1 rfl
    have az1 := BlkV.frozen kA 1
    have ac2 := BlkV.cell kA 2 rfl
    have az2 := BlkV.frozen kA 2
    have ac3 := BlkV.cell kA 3 rfl
    have az3 := BlkV.frozen kA 3
    have ac4 := BlkV.cell kA 4 rfl
    have az4 := BlkV.frozen kA 4
    have bc0 := BlkV.cell kB 0 rfl
    have bz0 := BlkV.frozen kB 0
    have bc1 := BlkV.cell kB 1 rfl
    have bz1 := BlkV.frozen kB 1
    have bc2 := BlkV.cell kB 2 rfl
    have bz2 := BlkV.frozen kB 2
    have bc3 := BlkV.cell kB 3 rfl
    have bz3 := BlkV.frozen kB 3
    have bc4 := BlkV.cell kB 4 rfl
    have bz4 := BlkV.frozen kB 4
    go_wp2_with fail
    refine (pl _).mono ?_
    rintro e w1 ⟨r, rfl, hf1, a', b', rfl, p1, p2, hp⟩
    have hr : VV (.agg #[.bool ps, .bool false, .int .u64 a', .int .u64 b', .int .i64 px]) ps false pn px := ⟨a', b', rfl, p1, p2, hp⟩
    clear hp pl
    replace kQ := kQ.fwd hf1
    replace kA := kA.fwd hf1
    replace kB := kB.fwd hf1
    replace hF := hF.trans hf1
    clear hf1
    clear qc0 qz0 qc1 qz1 qc2 qz2
    clear ac0 az0 ac1 az1 ac2 az2 ac3 az3 ac4 az4
    clear bc0 bz0 bc1 bz1 bc2 bz2 bc3 bz3 bc4 bz4
    have qc0 := BlkV.cell kQ 0 rfl
    have qz0 := BlkV.frozen kQ 0
    have qc1 := BlkV.cell kQ 1 rfl
    have qz1 := BlkV.frozen kQ 1
    have qc2 := BlkV.cell kQ 2 rfl
    have qz2 := BlkV.frozen kQ 2
    have ac0 := BlkV.cell kA 0 rfl
    have az0 := BlkV.frozen kA 0
    have ac1 := BlkV.cell kA 1 rfl
    have az1 := BlkV.frozen kA 1
    have ac2 := BlkV.cell kA 2 rfl
    have az2 := BlkV.frozen kA 2
    have ac3 := BlkV.cell kA 3 rfl
    have az3 := BlkV.frozen kA 3
    have ac4 := BlkV.cell kA 4 rfl
    have az4 := BlkV.frozen kA 4
    have bc0 := BlkV.cell kB 0 rfl
    have bz0 := BlkV.frozen kB 0
    have bc1 := BlkV.cell kB 1 rfl
    have bz1 := BlkV.frozen kB 1
    have bc2 := BlkV.cell kB 2 rfl
    have bz2 := BlkV.frozen kB 2
    have bc3 := BlkV.cell kB 3 rfl
    have bz3 := BlkV.frozen kB 3
    have bc4 := BlkV.cell kB 4 rfl
    have bz4 := BlkV.frozen kB 4
    have ltQ1 := BlkV.lt kQ
    have ltA1 := BlkV.lt kA
    have ltB1 := BlkV.lt kB
    have hfB : Fwd w1 (w1.alloc (.cells #[.bool ps, .bool false, .int .u64 (a'), .int .u64 (b'), .int .i64 (px)] 107)) := (Fwd.refl _).alloc _
    replace kQ := kQ.fwd hfB
    replace kA := kA.fwd hfB
    replace kB := kB.fwd hfB
    replace hF := hF.trans hfB
    clear hfB
    have kS := BlkV.made w1 107 [.bool ps, .bool false, .int .u64 (a'), .int .u64 (b'), .int .i64 (px)]
    go_upto_region 8 with fail
    clear qc0 qz0 qc1 qz1 qc2 qz2 ac0 az0 ac1 az1 ac2 az2 ac3 az3 ac4 az4 bc0 bz0 bc1 bz1 bc2 bz2 bc3 bz3 bc4 bz4
    generalize (w1.alloc (.cells #[.bool ps, .bool false, .int .u64 (a'), .int .u64 (b'), .int .i64 (px)] 107)) = w2 at kS kQ kA kB hF ⊢
    have qc0 := BlkV.cell kQ 0 rfl
    have qz0 := BlkV.frozen kQ 0
    have qc1 := BlkV.cell kQ 1 rfl
    have qz1 := BlkV.frozen kQ 1
    have qc2 := BlkV.cell kQ 2 rfl
    have qz2 := BlkV.frozen kQ 2
    have ac0 := BlkV.cell kA 0 rfl
    have az0 := BlkV.frozen kA 0
    have ac1 := BlkV.cell kA 1 rfl
    have az1 := BlkV.frozen kA 1
    have ac2 := BlkV.cell kA 2 rfl
    have az2 := BlkV.frozen kA 2
    have ac3 := BlkV.cell kA 3 rfl
    have az3 := BlkV.frozen kA 3
    have ac4 := BlkV.cell kA 4 rfl
    have az4 := BlkV.frozen kA 4
    have bc0 := BlkV.cell kB 0 rfl
    have bz0 := BlkV.frozen kB 0
    have bc1 := BlkV.cell kB 1 rfl
    have bz1 := BlkV.frozen kB 1
    have bc2 := BlkV.cell kB 2 rfl
    have bz2 := BlkV.frozen kB 2
    have bc3 := BlkV.cell kB 3 rfl
    have bz3 := BlkV.frozen kB 3
    have bc4 := BlkV.cell kB 4 rfl
    have bz4 := BlkV.frozen kB 4
    have sc0 := BlkV.cell kS 0 rfl
    have sz0 := BlkV.frozen kS 0
    have sc1 := BlkV.cell kS 1 rfl
    have sz1 := BlkV.frozen kS 1
    have sc2 := BlkV.cell kS 2 rfl
    have sz2 := BlkV.frozen kS 2
    have sc3 := BlkV.cell kS 3 rfl
    have sz3 := BlkV.frozen kS 3
    have sc4 := BlkV.cell kS 4 rfl
    have sz4 := BlkV.frozen kS 4
    have i1 := fun w => visNought_any (w := w) hr
    by_cases c0 : pn = 0
    · have e0 : (!false && pn == 0) = true := by simp [c0]
      simp only [e0] at i1
      clear e0
      by_cases c1 : s = t
      · subst c1
        have rr := fun w => round_any (w := w) m hr hb.1 hb.2
        unfold ruleV at rr
        rw [if_neg (fun hh => hh.2 rfl)] at HV
        generalize rdV m (ps, false, pn, px) = Z at *
        obtain ⟨z1, z2⟩ := Z
        clear hr c0
        go_wp2_with fail
        refine (i1 _).mono ?_
        rintro e w3 ⟨rfl, hf3⟩
        replace kQ := kQ.fwd hf3
        replace kA := kA.fwd hf3
        replace kB := kB.fwd hf3
        replace kS := kS.fwd hf3
        replace hF := hF.trans hf3
        clear hf3
        clear qc0 qz0 qc1 qz1 qc2 qz2
        clear ac0 az0 ac1 az1 ac2 az2 ac3 az3 ac4 az4
        clear bc0 bz0 bc1 bz1 bc2 bz2 bc3 bz3 bc4 bz4
        clear sc0 sz0 sc1 sz1 sc2 sz2 sc3 sz3 sc4 sz4
        have qc0 := BlkV.cell kQ 0 rfl
        have qz0 := BlkV.frozen kQ 0
        have qc1 := BlkV.cell kQ 1 rfl
        have qz1 := BlkV.frozen kQ 1
        have qc2 := BlkV.cell kQ 2 rfl
        have qz2 := BlkV.frozen kQ 2
        have ac0 := BlkV.cell kA 0 rfl
        have az0 := BlkV.frozen kA 0
        have ac1 := BlkV.cell kA 1 rfl
        have az1 := BlkV.frozen kA 1
        have ac2 := BlkV.cell kA 2 rfl
        have az2 := BlkV.frozen kA 2
        have ac3 := BlkV.cell kA 3 rfl
        have az3 := BlkV.frozen kA 3
        have ac4 := BlkV.cell kA 4 rfl
        have az4 := BlkV.frozen kA 4
        have bc0 := BlkV.cell kB 0 rfl
        have bz0 := BlkV.frozen kB 0
        have bc1 := BlkV.cell kB 1 rfl
        have bz1 := BlkV.frozen kB 1
        have bc2 := BlkV.cell kB 2 rfl
        have bz2 := BlkV.frozen kB 2
        have bc3 := BlkV.cell kB 3 rfl
        have bz3 := BlkV.frozen kB 3
        have bc4 := BlkV.cell kB 4 rfl
        have bz4 := BlkV.frozen kB 4
        have sc0 := BlkV.cell kS 0 rfl
        have sz0 := BlkV.frozen kS 0
        have sc1 := BlkV.cell kS 1 rfl
        have sz1 := BlkV.frozen kS 1
        have sc2 := BlkV.cell kS 2 rfl
        have sz2 := BlkV.frozen kS 2
        have sc3 := BlkV.cell kS 3 rfl
        have sz3 := BlkV.frozen kS 3
        have sc4 := BlkV.cell kS 4 rfl
        have sz4 := BlkV.frozen kS 4
        go_wp2_with fail
        refine (rr _).mono ?_
        rintro e w4 ⟨rfl, hf4⟩
        replace kQ := kQ.fwd hf4
        replace kA := kA.fwd hf4
        replace kB := kB.fwd hf4
        replace kS := kS.fwd hf4
        replace hF := hF.trans hf4
        clear hf4
        clear qc0 qz0 qc1 qz1 qc2 qz2
        clear ac0 az0 ac1 az1 ac2 az2 ac3 az3 ac4 az4
        clear bc0 bz0 bc1 bz1 bc2 bz2 bc3 bz3 bc4 bz4
        clear sc0 sz0 sc1 sz1 sc2 sz2 sc3 sz3 sc4 sz4
        have qc0 := BlkV.cell kQ 0 rfl
        have qz0 := BlkV.frozen kQ 0
        have qc1 := BlkV.cell kQ 1 rfl
        have qz1 := BlkV.frozen kQ 1
        have qc2 := BlkV.cell kQ 2 rfl
        have qz2 := BlkV.frozen kQ 2
        have ac0 := BlkV.cell kA 0 rfl
        have az0 := BlkV.frozen kA 0
        have ac1 := BlkV.cell kA 1 rfl
        have az1 := BlkV.frozen kA 1
        have ac2 := BlkV.cell kA 2 rfl
        have az2 := BlkV.frozen kA 2
        have ac3 := BlkV.cell kA 3 rfl
        have az3 := BlkV.frozen kA 3
        have ac4 := BlkV.cell kA 4 rfl
        have az4 := BlkV.frozen kA 4
        have bc0 := BlkV.cell kB 0 rfl
        have bz0 := BlkV.frozen kB 0
        have bc1 := BlkV.cell kB 1 rfl
        have bz1 := BlkV.frozen kB 1
        have bc2 := BlkV.cell kB 2 rfl
        have bz2 := BlkV.frozen kB 2
        have bc3 := BlkV.cell kB 3 rfl
        have bz3 := BlkV.frozen kB 3
        have bc4 := BlkV.cell kB 4 rfl
        have bz4 := BlkV.frozen kB 4
        have sc0 := BlkV.cell kS 0 rfl
        have sz0 := BlkV.frozen kS 0
        have sc1 := BlkV.cell kS 1 rfl
        have sz1 := BlkV.frozen kS 1
        have sc2 := BlkV.cell kS 2 rfl
        have sz2 := BlkV.frozen kS 2
        have sc3 := BlkV.cell kS 3 rfl
        have sz3 := BlkV.frozen kS 3
        have sc4 := BlkV.cell kS 4 rfl
        have sz4 := BlkV.frozen kS 4
        go_wp2
        go_ret2
        exact ⟨ret_pair (by rw [HV.out]; try rfl) (by rw [HV.out]; try rfl), hF⟩
      · have i2 : (s == t) = false := by simpa using c1
        rw [if_pos ⟨c0, c1⟩] at HV
        subst c0
        have rr := fun w => round_any (w := w) (v := .agg #[.bool (rMinus m), .bool false, .int .u64 a', .int .u64 b', .int .i64 px]) (s := rMinus m) (en := false) (n := 0) m (by obtain ⟨q1, q2, q3, q4, q5, q6⟩ := hr; simp only [Value.agg.injEq, Array.mk.injEq, List.cons.injEq, Value.int.injEq, true_and, and_true, Int.ofNat_inj] at q3; obtain ⟨rfl, rfl⟩ := q3; exact ⟨_, _, rfl, q4, q5, q6⟩) hb.1 hb.2
        rw [show rdV m (rMinus m, false, 0, px) = (sgn (rMinus m), 0) by simp [rdV]] at rr
        unfold ruleV at rr
        generalize hz : sgn (rMinus m) = z1 at *
        clear hr c1 hz
        go_wp2_with fail
        refine (i1 _).mono ?_
        rintro e w3 ⟨rfl, hf3⟩
        replace kQ := kQ.fwd hf3
        replace kA := kA.fwd hf3
        replace kB := kB.fwd hf3
        replace kS := kS.fwd hf3
        replace hF := hF.trans hf3
        clear hf3
        clear qc0 qz0 qc1 qz1 qc2 qz2
        clear ac0 az0 ac1 az1 ac2 az2 ac3 az3 ac4 az4
        clear bc0 bz0 bc1 bz1 bc2 bz2 bc3 bz3 bc4 bz4
        clear sc0 sz0 sc1 sz1 sc2 sz2 sc3 sz3 sc4 sz4
        have qc0 := BlkV.cell kQ 0 rfl
        have qz0 := BlkV.frozen kQ 0
        have qc1 := BlkV.cell kQ 1 rfl
        have qz1 := BlkV.frozen kQ 1
        have qc2 := BlkV.cell kQ 2 rfl
        have qz2 := BlkV.frozen kQ 2
        have ac0 := BlkV.cell kA 0 rfl
        have az0 := BlkV.frozen kA 0
        have ac1 := BlkV.cell kA 1 rfl
        have az1 := BlkV.frozen kA 1
        have ac2 := BlkV.cell kA 2 rfl
        have az2 := BlkV.frozen kA 2
        have ac3 := BlkV.cell kA 3 rfl
        have az3 := BlkV.frozen kA 3
        have ac4 := BlkV.cell kA 4 rfl
        have az4 := BlkV.frozen kA 4
        have bc0 := BlkV.cell kB 0 rfl
        have bz0 := BlkV.frozen kB 0
        have bc1 := BlkV.cell kB 1 rfl
        have bz1 := BlkV.frozen kB 1
        have bc2 := BlkV.cell kB 2 rfl
        have bz2 := BlkV.frozen kB 2
        have bc3 := BlkV.cell kB 3 rfl
        have bz3 := BlkV.frozen kB 3
        have bc4 := BlkV.cell kB 4 rfl
        have bz4 := BlkV.frozen kB 4
        have sc0 := BlkV.cell kS 0 rfl
        have sz0 := BlkV.frozen kS 0
        have sc1 := BlkV.cell kS 1 rfl
        have sz1 := BlkV.frozen kS 1
        have sc2 := BlkV.cell kS 2 rfl
        have sz2 := BlkV.frozen kS 2
        have sc3 := BlkV.cell kS 3 rfl
        have sz3 := BlkV.frozen kS 3
        have sc4 := BlkV.cell kS 4 rfl
        have sz4 := BlkV.frozen kS 4
        go_wp2_with fail
        have t6 := BlkV.set kS 0 (.bool (rMinus m))
        have o6 := BlkV.on kS 0 (.bool (rMinus m))
        replace kQ := BlkV.only kQ o6 (by omega)
        replace kA := BlkV.only kA o6 (by omega)
        replace kB := BlkV.only kB o6 (by omega)
        replace hF := hF.wrote o6 (by omega)
        have kS := t6
        clear o6
        refine (rr _).mono ?_
        rintro e w4 ⟨rfl, hf4⟩
        replace kQ := kQ.fwd hf4
        replace kA := kA.fwd hf4
        replace kB := kB.fwd hf4
        replace kS := kS.fwd hf4
        replace hF := hF.trans hf4
        clear hf4
        clear qc0 qz0 qc1 qz1 qc2 qz2
        clear ac0 az0 ac1 az1 ac2 az2 ac3 az3 ac4 az4
        clear bc0 bz0 bc1 bz1 bc2 bz2 bc3 bz3 bc4 bz4
        clear sc0 sz0 sc1 sz1 sc2 sz2 sc3 sz3 sc4 sz4
        have qc0 := BlkV.cell kQ 0 rfl
        have qz0 := BlkV.frozen kQ 0
        have qc1 := BlkV.cell kQ 1 rfl
        have qz1 := BlkV.frozen kQ 1
        have qc2 := BlkV.cell kQ 2 rfl
        have qz2 := BlkV.frozen kQ 2
        have ac0 := BlkV.cell kA 0 rfl
        have az0 := BlkV.frozen kA 0
        have ac1 := BlkV.cell kA 1 rfl
        have az1 := BlkV.frozen kA 1
        have ac2 := BlkV.cell kA 2 rfl
        have az2 := BlkV.frozen kA 2
        have ac3 := BlkV.cell kA 3 rfl
        have az3 := BlkV.frozen kA 3
        have ac4 := BlkV.cell kA 4 rfl
        have az4 := BlkV.frozen kA 4
        have bc0 := BlkV.cell kB 0 rfl
        have bz0 := BlkV.frozen kB 0
        have bc1 := BlkV.cell kB 1 rfl
        have bz1 := BlkV.frozen kB 1
        have bc2 := BlkV.cell kB 2 rfl
        have bz2 := BlkV.frozen kB 2
        have bc3 := BlkV.cell kB 3 rfl
        have bz3 := BlkV.frozen kB 3
        have bc4 := BlkV.cell kB 4 rfl
        have bz4 := BlkV.frozen kB 4
        have sc0 := BlkV.cell kS 0 rfl
        have sz0 := BlkV.frozen kS 0
        have sc1 := BlkV.cell kS 1 rfl
        have sz1 := BlkV.frozen kS 1
        have sc2 := BlkV.cell kS 2 rfl
        have sz2 := BlkV.frozen kS 2
        have sc3 := BlkV.cell kS 3 rfl
        have sz3 := BlkV.frozen kS 3
        have sc4 := BlkV.cell kS 4 rfl
        have sz4 := BlkV.frozen kS 4
        go_wp2
        go_ret2
        exact ⟨ret_pair (by rw [HV.out]; try rfl) (by rw [HV.out]; try rfl), hF⟩
    · have e0 : (!false && pn == 0) = false := by simp [c0]
      simp only [e0] at i1
      clear e0
      have rr := fun w => round_any (w := w) m hr hb.1 hb.2
      unfold ruleV at rr
      rw [if_neg (fun hh => c0 hh.1)] at HV
      generalize rdV m (ps, false, pn, px) = Z at *
      obtain ⟨z1, z2⟩ := Z
      clear hr c0
      go_wp2_with fail
      refine (i1 _).mono ?_
      rintro e w3 ⟨rfl, hf3⟩
      replace kQ := kQ.fwd hf3
      replace kA := kA.fwd hf3
      replace kB := kB.fwd hf3
      replace kS := kS.fwd hf3
      replace hF := hF.trans hf3
      clear hf3
      clear qc0 qz0 qc1 qz1 qc2 qz2
      clear ac0 az0 ac1 az1 ac2 az2 ac3 az3 ac4 az4
      clear bc0 bz0 bc1 bz1 bc2 bz2 bc3 bz3 bc4 bz4
      clear sc0 sz0 sc1 sz1 sc2 sz2 sc3 sz3 sc4 sz4
      have qc0 := BlkV.cell kQ 0 rfl
      have qz0 := BlkV.frozen kQ 0
      have qc1 := BlkV.cell kQ 1 rfl
      have qz1 := BlkV.frozen kQ 1
      have qc2 := BlkV.cell kQ 2 rfl
      have qz2 := BlkV.frozen kQ 2
      have ac0 := BlkV.cell kA 0 rfl
      have az0 := BlkV.frozen kA 0
      have ac1 := BlkV.cell kA 1 rfl
      have az1 := BlkV.frozen kA 1
      have ac2 := BlkV.cell kA 2 rfl
      have az2 := BlkV.frozen kA 2
      have ac3 := BlkV.cell kA 3 rfl
      have az3 := BlkV.frozen kA 3
      have ac4 := BlkV.cell kA 4 rfl
      have az4 := BlkV.frozen kA 4
      have bc0 := BlkV.cell kB 0 rfl
      have bz0 := BlkV.frozen kB 0
      have bc1 := BlkV.cell kB 1 rfl
      have bz1 := BlkV.frozen kB 1
      have bc2 := BlkV.cell kB 2 rfl
      have bz2 := BlkV.frozen kB 2
      have bc3 := BlkV.cell kB 3 rfl
      have bz3 := BlkV.frozen kB 3
      have bc4 := BlkV.cell kB 4 rfl
      have bz4 := BlkV.frozen kB 4
      have sc0 := BlkV.cell kS 0 rfl
      have sz0 := BlkV.frozen kS 0
      have sc1 := BlkV.cell kS 1 rfl
      have sz1 := BlkV.frozen kS 1
      have sc2 := BlkV.cell kS 2 rfl
      have sz2 := BlkV.frozen kS 2
      have sc3 := BlkV.cell kS 3 rfl
      have sz3 := BlkV.frozen kS 3
      have sc4 := BlkV.cell kS 4 rfl
      have sz4 := BlkV.frozen kS 4
      go_wp2_with fail
      refine (rr _).mono ?_
      rintro e w4 ⟨rfl, hf4⟩
      replace kQ := kQ.fwd hf4
      replace kA := kA.fwd hf4
      replace kB := kB.fwd hf4
      replace kS := kS.fwd hf4
      replace hF := hF.trans hf4
      clear hf4
      clear qc0 qz0 qc1 qz1 qc2 qz2
      clear ac0 az0 ac1 az1 ac2 az2 ac3 az3 ac4 az4
      clear bc0 bz0 bc1 bz1 bc2 bz2 bc3 bz3 bc4 bz4
      clear sc0 sz0 sc1 sz1 sc2 sz2 sc3 sz3 sc4 sz4
      have qc0 := BlkV.cell kQ 0 rfl
      have qz0 := BlkV.frozen kQ 0
      have qc1 := BlkV.cell kQ 1 rfl
      have qz1 := BlkV.frozen kQ 1
      have qc2 := BlkV.cell kQ 2 rfl
      have qz2 := BlkV.frozen kQ 2
      have ac0 := BlkV.cell kA 0 rfl
      have az0 := BlkV.frozen kA 0
      have ac1 := BlkV.cell kA 1 rfl
      have az1 := BlkV.frozen kA 1
      have ac2 := BlkV.cell kA 2 rfl
      have az2 := BlkV.frozen kA 2
      have ac3 := BlkV.cell kA 3 rfl
      have az3 := BlkV.frozen kA 3
      have ac4 := BlkV.cell kA 4 rfl
      have az4 := BlkV.frozen kA 4
      have bc0 := BlkV.cell kB 0 rfl
      have bz0 := BlkV.frozen kB 0
      have bc1 := BlkV.cell kB 1 rfl
      have bz1 := BlkV.frozen kB 1
      have bc2 := BlkV.cell kB 2 rfl
      have bz2 := BlkV.frozen kB 2
      have bc3 := BlkV.cell kB 3 rfl
      have bz3 := BlkV.frozen kB 3
      have bc4 := BlkV.cell kB 4 rfl
      have bz4 := BlkV.frozen kB 4
      have sc0 := BlkV.cell kS 0 rfl
      have sz0 := BlkV.frozen kS 0
      have sc1 := BlkV.cell kS 1 rfl
      have sz1 := BlkV.frozen kS 1
      have sc2 := BlkV.cell kS 2 rfl
      have sz2 := BlkV.frozen kS 2
      have sc3 := BlkV.cell kS 3 rfl
      have sz3 := BlkV.frozen kS 3
      have sc4 := BlkV.cell kS 4 rfl
      have sz4 := BlkV.frozen kS 4
      go_wp2
      go_ret2
      exact ⟨ret_pair (by rw [HV.out]; try rfl) (by rw [HV.out]; try rfl), hF⟩
  · have HV : Hid (addV m (s, false, n, x) (t, true, k, y) = rdV m (t, true, k, y)) := hid (by unfold addV; simp)
    generalize rdV m (t, true, k, y) = Z at *
    generalize addV m (s, false, n, x) (t, true, k, y) = S at *
    obtain ⟨z1, z2⟩ := Z
    clear r1
    unfold ruleV at *
    have kQ : BlkV (((w.alloc (.cells #[.int .u8 (rAbove m), .int .u8 (rBelow m), .bool (rMinus m)] 97)).alloc (.cells #[.bool s, .bool false, .int .u64 (a), .int .u64 (b), .int .i64 (x)] 107)).alloc (.cells #[.bool t, .bool true, .int .u64 (c), .int .u64 (d), .int .i64 (y)] 107)) (w.heap.size) 97 [.int .u8 (rAbove m), .int .u8 (rBelow m), .bool (rMinus m)] := ((BlkV.made' w (w.heap.size) (by simp) 97 [.int .u8 (rAbove m), .int .u8 (rBelow m), .bool (rMinus m)]).alloc _).alloc _
    have kA : BlkV (((w.alloc (.cells #[.int .u8 (rAbove m), .int .u8 (rBelow m), .bool (rMinus m)] 97)).alloc (.cells #[.bool s, .bool false, .int .u64 (a), .int .u64 (b), .int .i64 (x)] 107)).alloc (.cells #[.bool t, .bool true, .int .u64 (c), .int .u64 (d), .int .i64 (y)] 107)) (w.heap.size + 1) 107 [.bool s, .bool false, .int .u64 (a), .int .u64 (b), .int .i64 (x)] := (BlkV.made' (w.alloc (.cells #[.int .u8 (rAbove m), .int .u8 (rBelow m), .bool (rMinus m)] 97)) (w.heap.size + 1) (by simp) 107 [.bool s, .bool false, .int .u64 (a), .int .u64 (b), .int .i64 (x)]).alloc _
    have kB : BlkV (((w.alloc (.cells #[.int .u8 (rAbove m), .int .u8 (rBelow m), .bool (rMinus m)] 97)).alloc (.cells #[.bool s, .bool false, .int .u64 (a), .int .u64 (b), .int .i64 (x)] 107)).alloc (.cells #[.bool t, .bool true, .int .u64 (c), .int .u64 (d), .int .i64 (y)] 107)) (w.heap.size + 1 + 1) 107 [.bool t, .bool true, .int .u64 (c), .int .u64 (d), .int .i64 (y)] := BlkV.made' ((w.alloc (.cells #[.int .u8 (rAbove m), .int .u8 (rBelow m), .bool (rMinus m)] 97)).alloc (.cells #[.bool s, .bool false, .int .u64 (a), .int .u64 (b), .int .i64 (x)] 107)) (w.heap.size + 1 + 1) (by simp) 107 [.bool t, .bool true, .int .u64 (c), .int .u64 (d), .int .i64 (y)]
    have hF : Fwd w (((w.alloc (.cells #[.int .u8 (rAbove m), .int .u8 (rBelow m), .bool (rMinus m)] 97)).alloc (.cells #[.bool s, .bool false, .int .u64 (a), .int .u64 (b), .int .i64 (x)] 107)).alloc (.cells #[.bool t, .bool true, .int .u64 (c), .int .u64 (d), .int .i64 (y)] 107)) := (((Fwd.refl w).alloc _).alloc _).alloc _
    go_enter Tryz.func122, Tryz.ntmps122
    have qc0 := BlkV.cell kQ 0 rfl
    have qz0 := BlkV.frozen kQ 0
    have qc1 := BlkV.cell kQ 1 rfl
    have qz1 := BlkV.frozen kQ 1
    have qc2 := BlkV.cell kQ 2 rfl
    have qz2 := BlkV.frozen kQ 2
    have ac0 := BlkV.cell kA 0 rfl
    have az0 := BlkV.frozen kA 0
    have ac1 := BlkV.cell kA 1 rfl
    have az1 := BlkV.frozen kA 1
    have ac2 := BlkV.cell kA 2 rfl
    have az2 := BlkV.frozen kA 2
    have ac3 := BlkV.cell kA 3 rfl
    have az3 := BlkV.frozen kA 3
    have ac4 := BlkV.cell kA 4 rfl
    have az4 := BlkV.frozen kA 4
    have bc0 := BlkV.cell kB 0 rfl
    have bz0 := BlkV.frozen kB 0
    have bc1 := BlkV.cell kB 1 rfl
    have bz1 := BlkV.frozen kB 1
    have bc2 := BlkV.cell kB 2 rfl
    have bz2 := BlkV.frozen kB 2
    have bc3 := BlkV.cell kB 3 rfl
    have bz3 := BlkV.frozen kB 3
    have bc4 := BlkV.cell kB 4 rfl
    have bz4 := BlkV.frozen kB 4
    go_wp2_with fail
    refine (r2 _).mono ?_
    rintro e w1 ⟨rfl, hf1⟩
    replace kQ := kQ.fwd hf1
    replace kA := kA.fwd hf1
    replace kB := kB.fwd hf1
    replace hF := hF.trans hf1
    clear hf1
    clear qc0 qz0 qc1 qz1 qc2 qz2
    clear ac0 az0 ac1 az1 ac2 az2 ac3 az3 ac4 az4
    clear bc0 bz0 bc1 bz1 bc2 bz2 bc3 bz3 bc4 bz4
    have qc0 := BlkV.cell kQ 0 rfl
    have qz0 := BlkV.frozen kQ 0
    have qc1 := BlkV.cell kQ 1 rfl
    have qz1 := BlkV.frozen kQ 1
    have qc2 := BlkV.cell kQ 2 rfl
    have qz2 := BlkV.frozen kQ 2
    have ac0 := BlkV.cell kA 0 rfl
    have az0 := BlkV.frozen kA 0
    have ac1 := BlkV.cell kA 1 rfl
    have az1 := BlkV.frozen kA 1
    have ac2 := BlkV.cell kA 2 rfl
    have az2 := BlkV.frozen kA 2
    have ac3 := BlkV.cell kA 3 rfl
    have az3 := BlkV.frozen kA 3
    have ac4 := BlkV.cell kA 4 rfl
    have az4 := BlkV.frozen kA 4
    have bc0 := BlkV.cell kB 0 rfl
    have bz0 := BlkV.frozen kB 0
    have bc1 := BlkV.cell kB 1 rfl
    have bz1 := BlkV.frozen kB 1
    have bc2 := BlkV.cell kB 2 rfl
    have bz2 := BlkV.frozen kB 2
    have bc3 := BlkV.cell kB 3 rfl
    have bz3 := BlkV.frozen kB 3
    have bc4 := BlkV.cell kB 4 rfl
    have bz4 := BlkV.frozen kB 4
    go_wp2
    go_ret2
    exact ⟨ret_pair (by rw [HV.out]; try rfl) (by rw [HV.out]; try rfl), hF⟩
  · have HV : Hid (addV m (s, true, n, x) (t, false, k, y) = rdV m (s, true, n, x)) := hid (by unfold addV; simp)
    generalize rdV m (s, true, n, x) = Z at *
    generalize addV m (s, true, n, x) (t, false, k, y) = S at *
    obtain ⟨z1, z2⟩ := Z
    clear r2
    unfold ruleV at *
    have kQ : BlkV (((w.alloc (.cells #[.int .u8 (rAbove m), .int .u8 (rBelow m), .bool (rMinus m)] 97)).alloc (.cells #[.bool s, .bool true, .int .u64 (a), .int .u64 (b), .int .i64 (x)] 107)).alloc (.cells #[.bool t, .bool false, .int .u64 (c), .int .u64 (d), .int .i64 (y)] 107)) (w.heap.size) 97 [.int .u8 (rAbove m), .int .u8 (rBelow m), .bool (rMinus m)] := ((BlkV.made' w (w.heap.size) (by simp) 97 [.int .u8 (rAbove m), .int .u8 (rBelow m), .bool (rMinus m)]).alloc _).alloc _
    have kA : BlkV (((w.alloc (.cells #[.int .u8 (rAbove m), .int .u8 (rBelow m), .bool (rMinus m)] 97)).alloc (.cells #[.bool s, .bool true, .int .u64 (a), .int .u64 (b), .int .i64 (x)] 107)).alloc (.cells #[.bool t, .bool false, .int .u64 (c), .int .u64 (d), .int .i64 (y)] 107)) (w.heap.size + 1) 107 [.bool s, .bool true, .int .u64 (a), .int .u64 (b), .int .i64 (x)] := (BlkV.made' (w.alloc (.cells #[.int .u8 (rAbove m), .int .u8 (rBelow m), .bool (rMinus m)] 97)) (w.heap.size + 1) (by simp) 107 [.bool s, .bool true, .int .u64 (a), .int .u64 (b), .int .i64 (x)]).alloc _
    have kB : BlkV (((w.alloc (.cells #[.int .u8 (rAbove m), .int .u8 (rBelow m), .bool (rMinus m)] 97)).alloc (.cells #[.bool s, .bool true, .int .u64 (a), .int .u64 (b), .int .i64 (x)] 107)).alloc (.cells #[.bool t, .bool false, .int .u64 (c), .int .u64 (d), .int .i64 (y)] 107)) (w.heap.size + 1 + 1) 107 [.bool t, .bool false, .int .u64 (c), .int .u64 (d), .int .i64 (y)] := BlkV.made' ((w.alloc (.cells #[.int .u8 (rAbove m), .int .u8 (rBelow m), .bool (rMinus m)] 97)).alloc (.cells #[.bool s, .bool true, .int .u64 (a), .int .u64 (b), .int .i64 (x)] 107)) (w.heap.size + 1 + 1) (by simp) 107 [.bool t, .bool false, .int .u64 (c), .int .u64 (d), .int .i64 (y)]
    have hF : Fwd w (((w.alloc (.cells #[.int .u8 (rAbove m), .int .u8 (rBelow m), .bool (rMinus m)] 97)).alloc (.cells #[.bool s, .bool true, .int .u64 (a), .int .u64 (b), .int .i64 (x)] 107)).alloc (.cells #[.bool t, .bool false, .int .u64 (c), .int .u64 (d), .int .i64 (y)] 107)) := (((Fwd.refl w).alloc _).alloc _).alloc _
    go_enter Tryz.func122, Tryz.ntmps122
    have qc0 := BlkV.cell kQ 0 rfl
    have qz0 := BlkV.frozen kQ 0
    have qc1 := BlkV.cell kQ 1 rfl
    have qz1 := BlkV.frozen kQ 1
    have qc2 := BlkV.cell kQ 2 rfl
    have qz2 := BlkV.frozen kQ 2
    have ac0 := BlkV.cell kA 0 rfl
    have az0 := BlkV.frozen kA 0
    have ac1 := BlkV.cell kA 1 rfl
    have az1 := BlkV.frozen kA 1
    have ac2 := BlkV.cell kA 2 rfl
    have az2 := BlkV.frozen kA 2
    have ac3 := BlkV.cell kA 3 rfl
    have az3 := BlkV.frozen kA 3
    have ac4 := BlkV.cell kA 4 rfl
    have az4 := BlkV.frozen kA 4
    have bc0 := BlkV.cell kB 0 rfl
    have bz0 := BlkV.frozen kB 0
    have bc1 := BlkV.cell kB 1 rfl
    have bz1 := BlkV.frozen kB 1
    have bc2 := BlkV.cell kB 2 rfl
    have bz2 := BlkV.frozen kB 2
    have bc3 := BlkV.cell kB 3 rfl
    have bz3 := BlkV.frozen kB 3
    have bc4 := BlkV.cell kB 4 rfl
    have bz4 := BlkV.frozen kB 4
    go_wp2_with fail
    refine (r1 _).mono ?_
    rintro e w1 ⟨rfl, hf1⟩
    replace kQ := kQ.fwd hf1
    replace kA := kA.fwd hf1
    replace kB := kB.fwd hf1
    replace hF := hF.trans hf1
    clear hf1
    clear qc0 qz0 qc1 qz1 qc2 qz2
    clear ac0 az0 ac1 az1 ac2 az2 ac3 az3 ac4 az4
    clear bc0 bz0 bc1 bz1 bc2 bz2 bc3 bz3 bc4 bz4
    have qc0 := BlkV.cell kQ 0 rfl
    have qz0 := BlkV.frozen kQ 0
    have qc1 := BlkV.cell kQ 1 rfl
    have qz1 := BlkV.frozen kQ 1
    have qc2 := BlkV.cell kQ 2 rfl
    have qz2 := BlkV.frozen kQ 2
    have ac0 := BlkV.cell kA 0 rfl
    have az0 := BlkV.frozen kA 0
    have ac1 := BlkV.cell kA 1 rfl
    have az1 := BlkV.frozen kA 1
    have ac2 := BlkV.cell kA 2 rfl
    have az2 := BlkV.frozen kA 2
    have ac3 := BlkV.cell kA 3 rfl
    have az3 := BlkV.frozen kA 3
    have ac4 := BlkV.cell kA 4 rfl
    have az4 := BlkV.frozen kA 4
    have bc0 := BlkV.cell kB 0 rfl
    have bz0 := BlkV.frozen kB 0
    have bc1 := BlkV.cell kB 1 rfl
    have bz1 := BlkV.frozen kB 1
    have bc2 := BlkV.cell kB 2 rfl
    have bz2 := BlkV.frozen kB 2
    have bc3 := BlkV.cell kB 3 rfl
    have bz3 := BlkV.frozen kB 3
    have bc4 := BlkV.cell kB 4 rfl
    have bz4 := BlkV.frozen kB 4
    go_wp2
    go_ret2
    exact ⟨ret_pair (by rw [HV.out]; try rfl) (by rw [HV.out]; try rfl), hF⟩
  · by_cases c1 : s = t
    · subst c1
      have HV : Hid (addV m (s, true, n, x) (s, true, k, y) = rdV m (s, true, n, x)) := hid (by unfold addV; simp)
      generalize rdV m (s, true, n, x) = Z at *
      generalize addV m (s, true, n, x) (s, true, k, y) = S at *
      obtain ⟨z1, z2⟩ := Z
      clear r2
      unfold ruleV at *
      have kQ : BlkV (((w.alloc (.cells #[.int .u8 (rAbove m), .int .u8 (rBelow m), .bool (rMinus m)] 97)).alloc (.cells #[.bool s, .bool true, .int .u64 (a), .int .u64 (b), .int .i64 (x)] 107)).alloc (.cells #[.bool s, .bool true, .int .u64 (c), .int .u64 (d), .int .i64 (y)] 107)) (w.heap.size) 97 [.int .u8 (rAbove m), .int .u8 (rBelow m), .bool (rMinus m)] := ((BlkV.made' w (w.heap.size) (by simp) 97 [.int .u8 (rAbove m), .int .u8 (rBelow m), .bool (rMinus m)]).alloc _).alloc _
      have kA : BlkV (((w.alloc (.cells #[.int .u8 (rAbove m), .int .u8 (rBelow m), .bool (rMinus m)] 97)).alloc (.cells #[.bool s, .bool true, .int .u64 (a), .int .u64 (b), .int .i64 (x)] 107)).alloc (.cells #[.bool s, .bool true, .int .u64 (c), .int .u64 (d), .int .i64 (y)] 107)) (w.heap.size + 1) 107 [.bool s, .bool true, .int .u64 (a), .int .u64 (b), .int .i64 (x)] := (BlkV.made' (w.alloc (.cells #[.int .u8 (rAbove m), .int .u8 (rBelow m), .bool (rMinus m)] 97)) (w.heap.size + 1) (by simp) 107 [.bool s, .bool true, .int .u64 (a), .int .u64 (b), .int .i64 (x)]).alloc _
      have kB : BlkV (((w.alloc (.cells #[.int .u8 (rAbove m), .int .u8 (rBelow m), .bool (rMinus m)] 97)).alloc (.cells #[.bool s, .bool true, .int .u64 (a), .int .u64 (b), .int .i64 (x)] 107)).alloc (.cells #[.bool s, .bool true, .int .u64 (c), .int .u64 (d), .int .i64 (y)] 107)) (w.heap.size + 1 + 1) 107 [.bool s, .bool true, .int .u64 (c), .int .u64 (d), .int .i64 (y)] := BlkV.made' ((w.alloc (.cells #[.int .u8 (rAbove m), .int .u8 (rBelow m), .bool (rMinus m)] 97)).alloc (.cells #[.bool s, .bool true, .int .u64 (a), .int .u64 (b), .int .i64 (x)] 107)) (w.heap.size + 1 + 1) (by simp) 107 [.bool s, .bool true, .int .u64 (c), .int .u64 (d), .int .i64 (y)]
      have hF : Fwd w (((w.alloc (.cells #[.int .u8 (rAbove m), .int .u8 (rBelow m), .bool (rMinus m)] 97)).alloc (.cells #[.bool s, .bool true, .int .u64 (a), .int .u64 (b), .int .i64 (x)] 107)).alloc (.cells #[.bool s, .bool true, .int .u64 (c), .int .u64 (d), .int .i64 (y)] 107)) := (((Fwd.refl w).alloc _).alloc _).alloc _
      go_enter Tryz.func122, Tryz.ntmps122
      have qc0 := BlkV.cell kQ 0 rfl
      have qz0 := BlkV.frozen kQ 0
      have qc1 := BlkV.cell kQ 1 rfl
      have qz1 := BlkV.frozen kQ 1
      have qc2 := BlkV.cell kQ 2 rfl
      have qz2 := BlkV.frozen kQ 2
      have ac0 := BlkV.cell kA 0 rfl
      have az0 := BlkV.frozen kA 0
      have ac1 := BlkV.cell kA 1 rfl
      have az1 := BlkV.frozen kA 1
      have ac2 := BlkV.cell kA 2 rfl
      have az2 := BlkV.frozen kA 2
      have ac3 := BlkV.cell kA 3 rfl
      have az3 := BlkV.frozen kA 3
      have ac4 := BlkV.cell kA 4 rfl
      have az4 := BlkV.frozen kA 4
      have bc0 := BlkV.cell kB 0 rfl
      have bz0 := BlkV.frozen kB 0
      have bc1 := BlkV.cell kB 1 rfl
      have bz1 := BlkV.frozen kB 1
      have bc2 := BlkV.cell kB 2 rfl
      have bz2 := BlkV.frozen kB 2
      have bc3 := BlkV.cell kB 3 rfl
      have bz3 := BlkV.frozen kB 3
      have bc4 := BlkV.cell kB 4 rfl
      have bz4 := BlkV.frozen kB 4
      go_wp2_with fail
      refine (r1 _).mono ?_
      rintro e w1 ⟨rfl, hf1⟩
      replace kQ := kQ.fwd hf1
      replace kA := kA.fwd hf1
      replace kB := kB.fwd hf1
      replace hF := hF.trans hf1
      clear hf1
      clear qc0 qz0 qc1 qz1 qc2 qz2
      clear ac0 az0 ac1 az1 ac2 az2 ac3 az3 ac4 az4
      clear bc0 bz0 bc1 bz1 bc2 bz2 bc3 bz3 bc4 bz4
      have qc0 := BlkV.cell kQ 0 rfl
      have qz0 := BlkV.frozen kQ 0
      have qc1 := BlkV.cell kQ 1 rfl
      have qz1 := BlkV.frozen kQ 1
      have qc2 := BlkV.cell kQ 2 rfl
      have qz2 := BlkV.frozen kQ 2
      have ac0 := BlkV.cell kA 0 rfl
      have az0 := BlkV.frozen kA 0
      have ac1 := BlkV.cell kA 1 rfl
      have az1 := BlkV.frozen kA 1
      have ac2 := BlkV.cell kA 2 rfl
      have az2 := BlkV.frozen kA 2
      have ac3 := BlkV.cell kA 3 rfl
      have az3 := BlkV.frozen kA 3
      have ac4 := BlkV.cell kA 4 rfl
      have az4 := BlkV.frozen kA 4
      have bc0 := BlkV.cell kB 0 rfl
      have bz0 := BlkV.frozen kB 0
      have bc1 := BlkV.cell kB 1 rfl
      have bz1 := BlkV.frozen kB 1
      have bc2 := BlkV.cell kB 2 rfl
      have bz2 := BlkV.frozen kB 2
      have bc3 := BlkV.cell kB 3 rfl
      have bz3 := BlkV.frozen kB 3
      have bc4 := BlkV.cell kB 4 rfl
      have bz4 := BlkV.frozen kB 4
      go_wp2
      go_ret2
      exact ⟨ret_pair (by rw [HV.out]; try rfl) (by rw [HV.out]; try rfl), hF⟩
    · have i2 : (s == t) = false := by simpa using c1
      have HV : Hid (addV m (s, true, n, x) (t, true, k, y) = (9221120237041090560, 16)) := hid (by unfold addV; simp [c1])
      generalize addV m (s, true, n, x) (t, true, k, y) = S at *
      clear r1 r2 c1
      unfold ruleV at *
      have kQ : BlkV (((w.alloc (.cells #[.int .u8 (rAbove m), .int .u8 (rBelow m), .bool (rMinus m)] 97)).alloc (.cells #[.bool s, .bool true, .int .u64 (a), .int .u64 (b), .int .i64 (x)] 107)).alloc (.cells #[.bool t, .bool true, .int .u64 (c), .int .u64 (d), .int .i64 (y)] 107)) (w.heap.size) 97 [.int .u8 (rAbove m), .int .u8 (rBelow m), .bool (rMinus m)] := ((BlkV.made' w (w.heap.size) (by simp) 97 [.int .u8 (rAbove m), .int .u8 (rBelow m), .bool (rMinus m)]).alloc _).alloc _
      have kA : BlkV (((w.alloc (.cells #[.int .u8 (rAbove m), .int .u8 (rBelow m), .bool (rMinus m)] 97)).alloc (.cells #[.bool s, .bool true, .int .u64 (a), .int .u64 (b), .int .i64 (x)] 107)).alloc (.cells #[.bool t, .bool true, .int .u64 (c), .int .u64 (d), .int .i64 (y)] 107)) (w.heap.size + 1) 107 [.bool s, .bool true, .int .u64 (a), .int .u64 (b), .int .i64 (x)] := (BlkV.made' (w.alloc (.cells #[.int .u8 (rAbove m), .int .u8 (rBelow m), .bool (rMinus m)] 97)) (w.heap.size + 1) (by simp) 107 [.bool s, .bool true, .int .u64 (a), .int .u64 (b), .int .i64 (x)]).alloc _
      have kB : BlkV (((w.alloc (.cells #[.int .u8 (rAbove m), .int .u8 (rBelow m), .bool (rMinus m)] 97)).alloc (.cells #[.bool s, .bool true, .int .u64 (a), .int .u64 (b), .int .i64 (x)] 107)).alloc (.cells #[.bool t, .bool true, .int .u64 (c), .int .u64 (d), .int .i64 (y)] 107)) (w.heap.size + 1 + 1) 107 [.bool t, .bool true, .int .u64 (c), .int .u64 (d), .int .i64 (y)] := BlkV.made' ((w.alloc (.cells #[.int .u8 (rAbove m), .int .u8 (rBelow m), .bool (rMinus m)] 97)).alloc (.cells #[.bool s, .bool true, .int .u64 (a), .int .u64 (b), .int .i64 (x)] 107)) (w.heap.size + 1 + 1) (by simp) 107 [.bool t, .bool true, .int .u64 (c), .int .u64 (d), .int .i64 (y)]
      have hF : Fwd w (((w.alloc (.cells #[.int .u8 (rAbove m), .int .u8 (rBelow m), .bool (rMinus m)] 97)).alloc (.cells #[.bool s, .bool true, .int .u64 (a), .int .u64 (b), .int .i64 (x)] 107)).alloc (.cells #[.bool t, .bool true, .int .u64 (c), .int .u64 (d), .int .i64 (y)] 107)) := (((Fwd.refl w).alloc _).alloc _).alloc _
      go_enter Tryz.func122, Tryz.ntmps122
      go_wp2
      go_ret2
      exact ⟨ret_pair (by rw [HV.out]; rfl) (by rw [HV.out]; rfl), hF⟩
end Go.Proofs.YtcfhajnboamnnabGreatDoor
