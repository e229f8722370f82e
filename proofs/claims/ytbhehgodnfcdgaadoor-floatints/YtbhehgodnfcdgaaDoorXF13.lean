/- sfloat's ofNumbers: floats are taken apart, and handed on. -/
import Derived.Test.YtbhehgodnfcdgaaDoorXF12
import Derived.LoopN
namespace Go.Proofs.YtbhehgodnfcdgaaDoor
open Go.RowKit
set_option linter.unusedVariables false
set_option linter.unusedSimpArgs false

theorem valueOf_val {w : World} (f : Nat) (hf : f < 18446744073709551616) : Calls Tryd.prog 33 #[.int .u64 f] w fun e w' => ∃ v, e = .returned v ∧ Fwd w w' ∧ VT v (valF f) := by
  refine (valueOf_any f hf).mono ?_
  rintro e w' ⟨v, rfl, hF, hv⟩
  refine ⟨v, rfl, hF, ?_⟩
  unfold VT valF
  split at hv
  · rename_i c; rw [if_pos c]; exact hv
  · rename_i c; rw [if_neg c]; exact hv

theorem make_values1 (w : World) : (Instr.makeSlice 80 (.int .i64 1) (.int .i64 1)).run Tryd.prog w = .ok (.slice (some ⟨w.heap.size, 0, none⟩) 1 1) (w.alloc (.cells #[.bool false, .bool false, .int .u64 0, .int .u64 0, .int .i64 0] 65)) := by kernel_rfl

theorem make_values2 (w : World) : (Instr.makeSlice 80 (.int .i64 2) (.int .i64 2)).run Tryd.prog w = .ok (.slice (some ⟨w.heap.size, 0, none⟩) 2 2) (w.alloc (.cells #[.bool false, .bool false, .int .u64 0, .int .u64 0, .int .i64 0, .bool false, .bool false, .int .u64 0, .int .u64 0, .int .i64 0] 65)) := by kernel_rfl

theorem make_values3 (w : World) : (Instr.makeSlice 80 (.int .i64 3) (.int .i64 3)).run Tryd.prog w = .ok (.slice (some ⟨w.heap.size, 0, none⟩) 3 3) (w.alloc (.cells #[.bool false, .bool false, .int .u64 0, .int .u64 0, .int .i64 0, .bool false, .bool false, .int .u64 0, .int .u64 0, .int .i64 0, .bool false, .bool false, .int .u64 0, .int .u64 0, .int .i64 0] 65)) := by kernel_rfl

theorem valF_small (f : Nat) : (valF f).2.2.1 < 9007199254740992 ∧ -10000 ≤ (valF f).2.2.2 ∧ (valF f).2.2.2 ≤ 10000 := by
  have h1 := vsz_lt f
  have h2 := vex_ge f
  have h3 : vex f ≤ 10000 := by have := fsz_lt f; unfold vex; split <;> omega
  unfold valF
  split
  · exact ⟨by simp, by simp, by simp⟩
  · exact ⟨h1, by simp only; omega, h3⟩

theorem isNone_nan {w : World} (f : Nat) (hf : f < 18446744073709551616) : Calls Tryd.prog 29 #[.int .u64 f] w fun e w' => e = .returned (.bool (isNan f)) ∧ w' = w := isNone_any f hf

set_option maxHeartbeats 8000000 in
set_option maxRecDepth 100000 in
theorem ofNumbers_sum {w : World} {gf : Nat} {Tf : TypeId} (m : Int) (f h : Nat) (hf' : f < 18446744073709551616) (hh' : h < 18446744073709551616) (hB : BlkV w gf Tf [.int .u64 f, .int .u64 h]) :
    Calls Tryd.prog 24 #[.func (.func 26) #[ruleV m] #[], .slice (some ⟨gf, 0, none⟩) 2 2] w fun e w' => e = .returned (.tuple #[.int .u64 ((if isNan f || isNan h then ((9221120237041090560 : Nat), (0 : Nat)) else addV m (valF f) (valF h)).1 : Nat), .int .i64 ((if isNan f || isNan h then ((9221120237041090560 : Nat), (0 : Nat)) else addV m (valF f) (valF h)).2 : Nat)]) ∧ Fwd w w' := by
  have hmk := make_values2
  have hlt := BlkV.lt hB
  have hne1 : (gf = w.heap.size) = False := by simp; omega
  have hne2 : (w.heap.size = gf) = False := by simp; omega
  have nf := fun w => isNone_nan (w := w) f hf'
  have vf := fun w => valueOf_val (w := w) f hf'
  have bf := valF_small f
  have nh := fun w => isNone_nan (w := w) h hh'
  have vh := fun w => valueOf_val (w := w) h hh'
  have bh := valF_small h
  generalize hZ : (if isNan f || isNan h then ((9221120237041090560 : Nat), (0 : Nat)) else addV m (valF f) (valF h)) = Z
  obtain ⟨z1, z2⟩ := Z
  have HZ := hid hZ
  clear hZ
  by_cases cf' : isNan f = true
  · have cf := cf'
    clear cf'
    simp only [cf] at nf
    have hF : Fwd w (w.alloc (.cells #[.bool false, .bool false, .int .u64 0, .int .u64 0, .int .i64 0, .bool false, .bool false, .int .u64 0, .int .u64 0, .int .i64 0] 65)) := (Fwd.refl w).alloc _
    have kF : BlkV (w.alloc (.cells #[.bool false, .bool false, .int .u64 0, .int .u64 0, .int .i64 0, .bool false, .bool false, .int .u64 0, .int .u64 0, .int .i64 0] 65)) gf Tf [.int .u64 f, .int .u64 h] := hB.fwd hF
    have kV : BlkV (w.alloc (.cells #[.bool false, .bool false, .int .u64 0, .int .u64 0, .int .i64 0, .bool false, .bool false, .int .u64 0, .int .u64 0, .int .i64 0] 65)) w.heap.size 65 [.bool false, .bool false, .int .u64 0, .int .u64 0, .int .i64 0, .bool false, .bool false, .int .u64 0, .int .u64 0, .int .i64 0] := BlkV.made w _ _
    clear hB
    have fc0 := BlkV.cell kF 0 rfl
    have fz0 := BlkV.frozen kF 0
    have fc1 := BlkV.cell kF 1 rfl
    have fz1 := BlkV.frozen kF 1
    have vc0 := BlkV.cell kV 0 rfl
    have vz0 := BlkV.frozen kV 0
    have vc1 := BlkV.cell kV 1 rfl
    have vz1 := BlkV.frozen kV 1
    have vc2 := BlkV.cell kV 2 rfl
    have vz2 := BlkV.frozen kV 2
    have vc3 := BlkV.cell kV 3 rfl
    have vz3 := BlkV.frozen kV 3
    have vc4 := BlkV.cell kV 4 rfl
    have vz4 := BlkV.frozen kV 4
    have vc5 := BlkV.cell kV 5 rfl
    have vz5 := BlkV.frozen kV 5
    have vc6 := BlkV.cell kV 6 rfl
    have vz6 := BlkV.frozen kV 6
    have vc7 := BlkV.cell kV 7 rfl
    have vz7 := BlkV.frozen kV 7
    have vc8 := BlkV.cell kV 8 rfl
    have vz8 := BlkV.frozen kV 8
    have vc9 := BlkV.cell kV 9 rfl
    have vz9 := BlkV.frozen kV 9
    go_enter Tryd.func24, Tryd.ntmps24
    go_wp2_with fail
    refine wp_loop_rounds 3 ?_
    rw [rounds_succ]
    go_wp2_with fail
    refine (nf _).mono ?_
    rintro e wn ⟨rfl, rfl⟩
    go_wp2
    go_ret2
    have hz := HZ.out
    simp only [cf, Bool.true_or, Bool.or_true, Bool.false_or, Bool.or_false, if_true, Prod.mk.injEq] at hz
    obtain ⟨rfl, rfl⟩ := hz
    exact ⟨ret_pair rfl rfl, hF⟩
  · have cf : isNan f = false := by simpa using cf'
    clear cf'
    simp only [cf] at nf
    by_cases ch' : isNan h = true
    · have ch := ch'
      clear ch'
      simp only [ch] at nh
      generalize valF f = Ff at *
      obtain ⟨s, en, n, x⟩ := Ff
      simp only at bf
      have hF : Fwd w (w.alloc (.cells #[.bool false, .bool false, .int .u64 0, .int .u64 0, .int .i64 0, .bool false, .bool false, .int .u64 0, .int .u64 0, .int .i64 0] 65)) := (Fwd.refl w).alloc _
      have kF : BlkV (w.alloc (.cells #[.bool false, .bool false, .int .u64 0, .int .u64 0, .int .i64 0, .bool false, .bool false, .int .u64 0, .int .u64 0, .int .i64 0] 65)) gf Tf [.int .u64 f, .int .u64 h] := hB.fwd hF
      have kV : BlkV (w.alloc (.cells #[.bool false, .bool false, .int .u64 0, .int .u64 0, .int .i64 0, .bool false, .bool false, .int .u64 0, .int .u64 0, .int .i64 0] 65)) w.heap.size 65 [.bool false, .bool false, .int .u64 0, .int .u64 0, .int .i64 0, .bool false, .bool false, .int .u64 0, .int .u64 0, .int .i64 0] := BlkV.made w _ _
      clear hB
      have fc0 := BlkV.cell kF 0 rfl
      have fz0 := BlkV.frozen kF 0
      have fc1 := BlkV.cell kF 1 rfl
      have fz1 := BlkV.frozen kF 1
      have vc0 := BlkV.cell kV 0 rfl
      have vz0 := BlkV.frozen kV 0
      have vc1 := BlkV.cell kV 1 rfl
      have vz1 := BlkV.frozen kV 1
      have vc2 := BlkV.cell kV 2 rfl
      have vz2 := BlkV.frozen kV 2
      have vc3 := BlkV.cell kV 3 rfl
      have vz3 := BlkV.frozen kV 3
      have vc4 := BlkV.cell kV 4 rfl
      have vz4 := BlkV.frozen kV 4
      have vc5 := BlkV.cell kV 5 rfl
      have vz5 := BlkV.frozen kV 5
      have vc6 := BlkV.cell kV 6 rfl
      have vz6 := BlkV.frozen kV 6
      have vc7 := BlkV.cell kV 7 rfl
      have vz7 := BlkV.frozen kV 7
      have vc8 := BlkV.cell kV 8 rfl
      have vz8 := BlkV.frozen kV 8
      have vc9 := BlkV.cell kV 9 rfl
      have vz9 := BlkV.frozen kV 9
      go_enter Tryd.func24, Tryd.ntmps24
      go_wp2_with fail
      refine wp_loop_rounds 3 ?_
      rw [rounds_succ]
      go_wp2_with fail
      refine (nf _).mono ?_
      rintro e wn ⟨rfl, rfl⟩
      go_wp2_with fail
      refine (vf _).mono ?_
      rintro e w1 ⟨v, rfl, hf1, a, b, rfl, a1, b2, hp⟩
      have Vf : VV (.agg #[.bool s, .bool en, .int .u64 (a), .int .u64 (b), .int .i64 (x)]) s en n x := ⟨_, _, rfl, a1, b2, hp⟩
      clear hp vf nf
      replace kF := kF.fwd hf1
      replace kV := kV.fwd hf1
      replace hF := hF.trans hf1
      clear hf1
      clear fc0 fz0 fc1 fz1
      clear vc0 vz0 vc1 vz1 vc2 vz2 vc3 vz3 vc4 vz4 vc5 vz5 vc6 vz6 vc7 vz7 vc8 vz8 vc9 vz9
      have fc0 := BlkV.cell kF 0 rfl
      have fz0 := BlkV.frozen kF 0
      have fc1 := BlkV.cell kF 1 rfl
      have fz1 := BlkV.frozen kF 1
      have vc0 := BlkV.cell kV 0 rfl
      have vz0 := BlkV.frozen kV 0
      have vc1 := BlkV.cell kV 1 rfl
      have vz1 := BlkV.frozen kV 1
      have vc2 := BlkV.cell kV 2 rfl
      have vz2 := BlkV.frozen kV 2
      have vc3 := BlkV.cell kV 3 rfl
      have vz3 := BlkV.frozen kV 3
      have vc4 := BlkV.cell kV 4 rfl
      have vz4 := BlkV.frozen kV 4
      have vc5 := BlkV.cell kV 5 rfl
      have vz5 := BlkV.frozen kV 5
      have vc6 := BlkV.cell kV 6 rfl
      have vz6 := BlkV.frozen kV 6
      have vc7 := BlkV.cell kV 7 rfl
      have vz7 := BlkV.frozen kV 7
      have vc8 := BlkV.cell kV 8 rfl
      have vz8 := BlkV.frozen kV 8
      have vc9 := BlkV.cell kV 9 rfl
      have vz9 := BlkV.frozen kV 9
      go_wp2_with fail
      rw [rounds_succ]
      go_wp2_with fail
      refine (nh _).mono ?_
      rintro e wn ⟨rfl, rfl⟩
      go_wp2
      have t3 := BlkV.set kV 0 (.bool s)
      have t4 := BlkV.set t3 1 (.bool en)
      have t5 := BlkV.set t4 2 (.int .u64 (a))
      have t6 := BlkV.set t5 3 (.int .u64 (b))
      have t7 := BlkV.set t6 4 (.int .i64 (x))
      have o7 := ((((BlkV.on kV 0 (.bool s)).setv 1 (.bool en)).setv 2 (.int .u64 (a))).setv 3 (.int .u64 (b))).setv 4 (.int .i64 (x))
      replace kF := BlkV.only kF o7 (by omega)
      replace hF := hF.wrote o7 (by omega)
      have kV := t7
      clear o7
      go_ret2
      have hz := HZ.out
      simp only [cf, ch, Bool.true_or, Bool.or_true, Bool.false_or, Bool.or_false, if_true, Prod.mk.injEq] at hz
      obtain ⟨rfl, rfl⟩ := hz
      exact ⟨ret_pair rfl rfl, hF⟩
    · have ch : isNan h = false := by simpa using ch'
      clear ch'
      simp only [ch] at nh
      generalize valF f = Ff at *
      obtain ⟨s, en, n, x⟩ := Ff
      simp only at bf
      generalize valF h = Fh at *
      obtain ⟨t, em, k, y⟩ := Fh
      simp only at bh
      have hF : Fwd w (w.alloc (.cells #[.bool false, .bool false, .int .u64 0, .int .u64 0, .int .i64 0, .bool false, .bool false, .int .u64 0, .int .u64 0, .int .i64 0] 65)) := (Fwd.refl w).alloc _
      have kF : BlkV (w.alloc (.cells #[.bool false, .bool false, .int .u64 0, .int .u64 0, .int .i64 0, .bool false, .bool false, .int .u64 0, .int .u64 0, .int .i64 0] 65)) gf Tf [.int .u64 f, .int .u64 h] := hB.fwd hF
      have kV : BlkV (w.alloc (.cells #[.bool false, .bool false, .int .u64 0, .int .u64 0, .int .i64 0, .bool false, .bool false, .int .u64 0, .int .u64 0, .int .i64 0] 65)) w.heap.size 65 [.bool false, .bool false, .int .u64 0, .int .u64 0, .int .i64 0, .bool false, .bool false, .int .u64 0, .int .u64 0, .int .i64 0] := BlkV.made w _ _
      clear hB
      have fc0 := BlkV.cell kF 0 rfl
      have fz0 := BlkV.frozen kF 0
      have fc1 := BlkV.cell kF 1 rfl
      have fz1 := BlkV.frozen kF 1
      have vc0 := BlkV.cell kV 0 rfl
      have vz0 := BlkV.frozen kV 0
      have vc1 := BlkV.cell kV 1 rfl
      have vz1 := BlkV.frozen kV 1
      have vc2 := BlkV.cell kV 2 rfl
      have vz2 := BlkV.frozen kV 2
      have vc3 := BlkV.cell kV 3 rfl
      have vz3 := BlkV.frozen kV 3
      have vc4 := BlkV.cell kV 4 rfl
      have vz4 := BlkV.frozen kV 4
      have vc5 := BlkV.cell kV 5 rfl
      have vz5 := BlkV.frozen kV 5
      have vc6 := BlkV.cell kV 6 rfl
      have vz6 := BlkV.frozen kV 6
      have vc7 := BlkV.cell kV 7 rfl
      have vz7 := BlkV.frozen kV 7
      have vc8 := BlkV.cell kV 8 rfl
      have vz8 := BlkV.frozen kV 8
      have vc9 := BlkV.cell kV 9 rfl
      have vz9 := BlkV.frozen kV 9
      go_enter Tryd.func24, Tryd.ntmps24
      go_wp2_with fail
      refine wp_loop_rounds 3 ?_
      rw [rounds_succ]
      go_wp2_with fail
      refine (nf _).mono ?_
      rintro e wn ⟨rfl, rfl⟩
      go_wp2_with fail
      refine (vf _).mono ?_
      rintro e w1 ⟨v, rfl, hf1, a, b, rfl, a1, b2, hp⟩
      have Vf : VV (.agg #[.bool s, .bool en, .int .u64 (a), .int .u64 (b), .int .i64 (x)]) s en n x := ⟨_, _, rfl, a1, b2, hp⟩
      clear hp vf nf
      replace kF := kF.fwd hf1
      replace kV := kV.fwd hf1
      replace hF := hF.trans hf1
      clear hf1
      clear fc0 fz0 fc1 fz1
      clear vc0 vz0 vc1 vz1 vc2 vz2 vc3 vz3 vc4 vz4 vc5 vz5 vc6 vz6 vc7 vz7 vc8 vz8 vc9 vz9
      have fc0 := BlkV.cell kF 0 rfl
      have fz0 := BlkV.frozen kF 0
      have fc1 := BlkV.cell kF 1 rfl
      have fz1 := BlkV.frozen kF 1
      have vc0 := BlkV.cell kV 0 rfl
      have vz0 := BlkV.frozen kV 0
      have vc1 := BlkV.cell kV 1 rfl
      have vz1 := BlkV.frozen kV 1
      have vc2 := BlkV.cell kV 2 rfl
      have vz2 := BlkV.frozen kV 2
      have vc3 := BlkV.cell kV 3 rfl
      have vz3 := BlkV.frozen kV 3
      have vc4 := BlkV.cell kV 4 rfl
      have vz4 := BlkV.frozen kV 4
      have vc5 := BlkV.cell kV 5 rfl
      have vz5 := BlkV.frozen kV 5
      have vc6 := BlkV.cell kV 6 rfl
      have vz6 := BlkV.frozen kV 6
      have vc7 := BlkV.cell kV 7 rfl
      have vz7 := BlkV.frozen kV 7
      have vc8 := BlkV.cell kV 8 rfl
      have vz8 := BlkV.frozen kV 8
      have vc9 := BlkV.cell kV 9 rfl
      have vz9 := BlkV.frozen kV 9
      go_wp2_with fail
      rw [rounds_succ]
      go_wp2_with fail
      refine (nh _).mono ?_
      rintro e wn ⟨rfl, rfl⟩
      go_wp2_with fail
      have t4 := BlkV.set kV 0 (.bool s)
      have t5 := BlkV.set t4 1 (.bool en)
      have t6 := BlkV.set t5 2 (.int .u64 (a))
      have t7 := BlkV.set t6 3 (.int .u64 (b))
      have t8 := BlkV.set t7 4 (.int .i64 (x))
      have o8 := ((((BlkV.on kV 0 (.bool s)).setv 1 (.bool en)).setv 2 (.int .u64 (a))).setv 3 (.int .u64 (b))).setv 4 (.int .i64 (x))
      replace kF := BlkV.only kF o8 (by omega)
      replace hF := hF.wrote o8 (by omega)
      have kV := t8
      clear o8
      refine (vh _).mono ?_
      rintro e w2 ⟨v, rfl, hf2, c, d, rfl, c1, d2, hp⟩
      have Vh : VV (.agg #[.bool t, .bool em, .int .u64 (c), .int .u64 (d), .int .i64 (y)]) t em k y := ⟨_, _, rfl, c1, d2, hp⟩
      clear hp vh nh
      replace kF := kF.fwd hf2
      replace kV := kV.fwd hf2
      replace hF := hF.trans hf2
      clear hf2
      clear fc0 fz0 fc1 fz1
      clear vc0 vz0 vc1 vz1 vc2 vz2 vc3 vz3 vc4 vz4 vc5 vz5 vc6 vz6 vc7 vz7 vc8 vz8 vc9 vz9
      have fc0 := BlkV.cell kF 0 rfl
      have fz0 := BlkV.frozen kF 0
      have fc1 := BlkV.cell kF 1 rfl
      have fz1 := BlkV.frozen kF 1
      have vc0 := BlkV.cell kV 0 rfl
      have vz0 := BlkV.frozen kV 0
      have vc1 := BlkV.cell kV 1 rfl
      have vz1 := BlkV.frozen kV 1
      have vc2 := BlkV.cell kV 2 rfl
      have vz2 := BlkV.frozen kV 2
      have vc3 := BlkV.cell kV 3 rfl
      have vz3 := BlkV.frozen kV 3
      have vc4 := BlkV.cell kV 4 rfl
      have vz4 := BlkV.frozen kV 4
      have vc5 := BlkV.cell kV 5 rfl
      have vz5 := BlkV.frozen kV 5
      have vc6 := BlkV.cell kV 6 rfl
      have vz6 := BlkV.frozen kV 6
      have vc7 := BlkV.cell kV 7 rfl
      have vz7 := BlkV.frozen kV 7
      have vc8 := BlkV.cell kV 8 rfl
      have vz8 := BlkV.frozen kV 8
      have vc9 := BlkV.cell kV 9 rfl
      have vz9 := BlkV.frozen kV 9
      go_wp2_with fail
      rw [rounds_succ]
      go_wp2_with fail
      have t10 := BlkV.set kV 5 (.bool t)
      have t11 := BlkV.set t10 6 (.bool em)
      have t12 := BlkV.set t11 7 (.int .u64 (c))
      have t13 := BlkV.set t12 8 (.int .u64 (d))
      have t14 := BlkV.set t13 9 (.int .i64 (y))
      have o14 := ((((BlkV.on kV 5 (.bool t)).setv 6 (.bool em)).setv 7 (.int .u64 (c))).setv 8 (.int .u64 (d))).setv 9 (.int .i64 (y))
      replace kF := BlkV.only kF o14 (by omega)
      replace hF := hF.wrote o14 (by omega)
      have kV := t14
      clear o14
      have hz := HZ.out
      simp only [cf, ch, Bool.or_self, Bool.false_eq_true, if_false] at hz
      have dd := sum_any (T := 65) m Vf Vh kV bf.1 bf.2.1 bf.2.2 bh.1 bh.2.1 bh.2.2
      rw [hz] at dd
      clear hz HZ
      refine (dd).mono ?_
      rintro e w9 ⟨rfl, hf9⟩
      go_wp2
      go_ret2
      exact ⟨ret_pair rfl rfl, hF.trans hf9⟩

set_option maxHeartbeats 8000000 in
set_option maxRecDepth 100000 in
theorem ofNumbers_product {w : World} {gf : Nat} {Tf : TypeId} (m : Int) (f h : Nat) (hf' : f < 18446744073709551616) (hh' : h < 18446744073709551616) (hB : BlkV w gf Tf [.int .u64 f, .int .u64 h]) :
    Calls Tryd.prog 24 #[.func (.func 27) #[ruleV m] #[], .slice (some ⟨gf, 0, none⟩) 2 2] w fun e w' => e = .returned (.tuple #[.int .u64 ((if isNan f || isNan h then ((9221120237041090560 : Nat), (0 : Nat)) else withMul (mulV (valF f) (valF h)) (rdV m)).1 : Nat), .int .i64 ((if isNan f || isNan h then ((9221120237041090560 : Nat), (0 : Nat)) else withMul (mulV (valF f) (valF h)) (rdV m)).2 : Nat)]) ∧ Fwd w w' := by
  have hmk := make_values2
  have hlt := BlkV.lt hB
  have hne1 : (gf = w.heap.size) = False := by simp; omega
  have hne2 : (w.heap.size = gf) = False := by simp; omega
  have nf := fun w => isNone_nan (w := w) f hf'
  have vf := fun w => valueOf_val (w := w) f hf'
  have bf := valF_small f
  have nh := fun w => isNone_nan (w := w) h hh'
  have vh := fun w => valueOf_val (w := w) h hh'
  have bh := valF_small h
  generalize hZ : (if isNan f || isNan h then ((9221120237041090560 : Nat), (0 : Nat)) else withMul (mulV (valF f) (valF h)) (rdV m)) = Z
  obtain ⟨z1, z2⟩ := Z
  have HZ := hid hZ
  clear hZ
  by_cases cf' : isNan f = true
  · have cf := cf'
    clear cf'
    simp only [cf] at nf
    have hF : Fwd w (w.alloc (.cells #[.bool false, .bool false, .int .u64 0, .int .u64 0, .int .i64 0, .bool false, .bool false, .int .u64 0, .int .u64 0, .int .i64 0] 65)) := (Fwd.refl w).alloc _
    have kF : BlkV (w.alloc (.cells #[.bool false, .bool false, .int .u64 0, .int .u64 0, .int .i64 0, .bool false, .bool false, .int .u64 0, .int .u64 0, .int .i64 0] 65)) gf Tf [.int .u64 f, .int .u64 h] := hB.fwd hF
    have kV : BlkV (w.alloc (.cells #[.bool false, .bool false, .int .u64 0, .int .u64 0, .int .i64 0, .bool false, .bool false, .int .u64 0, .int .u64 0, .int .i64 0] 65)) w.heap.size 65 [.bool false, .bool false, .int .u64 0, .int .u64 0, .int .i64 0, .bool false, .bool false, .int .u64 0, .int .u64 0, .int .i64 0] := BlkV.made w _ _
    clear hB
    have fc0 := BlkV.cell kF 0 rfl
    have fz0 := BlkV.frozen kF 0
    have fc1 := BlkV.cell kF 1 rfl
    have fz1 := BlkV.frozen kF 1
    have vc0 := BlkV.cell kV 0 rfl
    have vz0 := BlkV.frozen kV 0
    have vc1 := BlkV.cell kV 1 rfl
    have vz1 := BlkV.frozen kV 1
    have vc2 := BlkV.cell kV 2 rfl
    have vz2 := BlkV.frozen kV 2
    have vc3 := BlkV.cell kV 3 rfl
    have vz3 := BlkV.frozen kV 3
    have vc4 := BlkV.cell kV 4 rfl
    have vz4 := BlkV.frozen kV 4
    have vc5 := BlkV.cell kV 5 rfl
    have vz5 := BlkV.frozen kV 5
    have vc6 := BlkV.cell kV 6 rfl
    have vz6 := BlkV.frozen kV 6
    have vc7 := BlkV.cell kV 7 rfl
    have vz7 := BlkV.frozen kV 7
    have vc8 := BlkV.cell kV 8 rfl
    have vz8 := BlkV.frozen kV 8
    have vc9 := BlkV.cell kV 9 rfl
    have vz9 := BlkV.frozen kV 9
    go_enter Tryd.func24, Tryd.ntmps24
    go_wp2_with fail
    refine wp_loop_rounds 3 ?_
    rw [rounds_succ]
    go_wp2_with fail
    refine (nf _).mono ?_
    rintro e wn ⟨rfl, rfl⟩
    go_wp2
    go_ret2
    have hz := HZ.out
    simp only [cf, Bool.true_or, Bool.or_true, Bool.false_or, Bool.or_false, if_true, Prod.mk.injEq] at hz
    obtain ⟨rfl, rfl⟩ := hz
    exact ⟨ret_pair rfl rfl, hF⟩
  · have cf : isNan f = false := by simpa using cf'
    clear cf'
    simp only [cf] at nf
    by_cases ch' : isNan h = true
    · have ch := ch'
      clear ch'
      simp only [ch] at nh
      generalize valF f = Ff at *
      obtain ⟨s, en, n, x⟩ := Ff
      simp only at bf
      have hF : Fwd w (w.alloc (.cells #[.bool false, .bool false, .int .u64 0, .int .u64 0, .int .i64 0, .bool false, .bool false, .int .u64 0, .int .u64 0, .int .i64 0] 65)) := (Fwd.refl w).alloc _
      have kF : BlkV (w.alloc (.cells #[.bool false, .bool false, .int .u64 0, .int .u64 0, .int .i64 0, .bool false, .bool false, .int .u64 0, .int .u64 0, .int .i64 0] 65)) gf Tf [.int .u64 f, .int .u64 h] := hB.fwd hF
      have kV : BlkV (w.alloc (.cells #[.bool false, .bool false, .int .u64 0, .int .u64 0, .int .i64 0, .bool false, .bool false, .int .u64 0, .int .u64 0, .int .i64 0] 65)) w.heap.size 65 [.bool false, .bool false, .int .u64 0, .int .u64 0, .int .i64 0, .bool false, .bool false, .int .u64 0, .int .u64 0, .int .i64 0] := BlkV.made w _ _
      clear hB
      have fc0 := BlkV.cell kF 0 rfl
      have fz0 := BlkV.frozen kF 0
      have fc1 := BlkV.cell kF 1 rfl
      have fz1 := BlkV.frozen kF 1
      have vc0 := BlkV.cell kV 0 rfl
      have vz0 := BlkV.frozen kV 0
      have vc1 := BlkV.cell kV 1 rfl
      have vz1 := BlkV.frozen kV 1
      have vc2 := BlkV.cell kV 2 rfl
      have vz2 := BlkV.frozen kV 2
      have vc3 := BlkV.cell kV 3 rfl
      have vz3 := BlkV.frozen kV 3
      have vc4 := BlkV.cell kV 4 rfl
      have vz4 := BlkV.frozen kV 4
      have vc5 := BlkV.cell kV 5 rfl
      have vz5 := BlkV.frozen kV 5
      have vc6 := BlkV.cell kV 6 rfl
      have vz6 := BlkV.frozen kV 6
      have vc7 := BlkV.cell kV 7 rfl
      have vz7 := BlkV.frozen kV 7
      have vc8 := BlkV.cell kV 8 rfl
      have vz8 := BlkV.frozen kV 8
      have vc9 := BlkV.cell kV 9 rfl
      have vz9 := BlkV.frozen kV 9
      go_enter Tryd.func24, Tryd.ntmps24
      go_wp2_with fail
      refine wp_loop_rounds 3 ?_
      rw [rounds_succ]
      go_wp2_with fail
      refine (nf _).mono ?_
      rintro e wn ⟨rfl, rfl⟩
      go_wp2_with fail
      refine (vf _).mono ?_
      rintro e w1 ⟨v, rfl, hf1, a, b, rfl, a1, b2, hp⟩
      have Vf : VV (.agg #[.bool s, .bool en, .int .u64 (a), .int .u64 (b), .int .i64 (x)]) s en n x := ⟨_, _, rfl, a1, b2, hp⟩
      clear hp vf nf
      replace kF := kF.fwd hf1
      replace kV := kV.fwd hf1
      replace hF := hF.trans hf1
      clear hf1
      clear fc0 fz0 fc1 fz1
      clear vc0 vz0 vc1 vz1 vc2 vz2 vc3 vz3 vc4 vz4 vc5 vz5 vc6 vz6 vc7 vz7 vc8 vz8 vc9 vz9
      have fc0 := BlkV.cell kF 0 rfl
      have fz0 := BlkV.frozen kF 0
      have fc1 := BlkV.cell kF 1 rfl
      have fz1 := BlkV.frozen kF 1
      have vc0 := BlkV.cell kV 0 rfl
      have vz0 := BlkV.frozen kV 0
      have vc1 := BlkV.cell kV 1 rfl
      have vz1 := BlkV.frozen kV 1
      have vc2 := BlkV.cell kV 2 rfl
      have vz2 := BlkV.frozen kV 2
      have vc3 := BlkV.cell kV 3 rfl
      have vz3 := BlkV.frozen kV 3
      have vc4 := BlkV.cell kV 4 rfl
      have vz4 := BlkV.frozen kV 4
      have vc5 := BlkV.cell kV 5 rfl
      have vz5 := BlkV.frozen kV 5
      have vc6 := BlkV.cell kV 6 rfl
      have vz6 := BlkV.frozen kV 6
      have vc7 := BlkV.cell kV 7 rfl
      have vz7 := BlkV.frozen kV 7
      have vc8 := BlkV.cell kV 8 rfl
      have vz8 := BlkV.frozen kV 8
      have vc9 := BlkV.cell kV 9 rfl
      have vz9 := BlkV.frozen kV 9
      go_wp2_with fail
      rw [rounds_succ]
      go_wp2_with fail
      refine (nh _).mono ?_
      rintro e wn ⟨rfl, rfl⟩
      go_wp2
      have t3 := BlkV.set kV 0 (.bool s)
      have t4 := BlkV.set t3 1 (.bool en)
      have t5 := BlkV.set t4 2 (.int .u64 (a))
      have t6 := BlkV.set t5 3 (.int .u64 (b))
      have t7 := BlkV.set t6 4 (.int .i64 (x))
      have o7 := ((((BlkV.on kV 0 (.bool s)).setv 1 (.bool en)).setv 2 (.int .u64 (a))).setv 3 (.int .u64 (b))).setv 4 (.int .i64 (x))
      replace kF := BlkV.only kF o7 (by omega)
      replace hF := hF.wrote o7 (by omega)
      have kV := t7
      clear o7
      go_ret2
      have hz := HZ.out
      simp only [cf, ch, Bool.true_or, Bool.or_true, Bool.false_or, Bool.or_false, if_true, Prod.mk.injEq] at hz
      obtain ⟨rfl, rfl⟩ := hz
      exact ⟨ret_pair rfl rfl, hF⟩
    · have ch : isNan h = false := by simpa using ch'
      clear ch'
      simp only [ch] at nh
      generalize valF f = Ff at *
      obtain ⟨s, en, n, x⟩ := Ff
      simp only at bf
      generalize valF h = Fh at *
      obtain ⟨t, em, k, y⟩ := Fh
      simp only at bh
      have hF : Fwd w (w.alloc (.cells #[.bool false, .bool false, .int .u64 0, .int .u64 0, .int .i64 0, .bool false, .bool false, .int .u64 0, .int .u64 0, .int .i64 0] 65)) := (Fwd.refl w).alloc _
      have kF : BlkV (w.alloc (.cells #[.bool false, .bool false, .int .u64 0, .int .u64 0, .int .i64 0, .bool false, .bool false, .int .u64 0, .int .u64 0, .int .i64 0] 65)) gf Tf [.int .u64 f, .int .u64 h] := hB.fwd hF
      have kV : BlkV (w.alloc (.cells #[.bool false, .bool false, .int .u64 0, .int .u64 0, .int .i64 0, .bool false, .bool false, .int .u64 0, .int .u64 0, .int .i64 0] 65)) w.heap.size 65 [.bool false, .bool false, .int .u64 0, .int .u64 0, .int .i64 0, .bool false, .bool false, .int .u64 0, .int .u64 0, .int .i64 0] := BlkV.made w _ _
      clear hB
      have fc0 := BlkV.cell kF 0 rfl
      have fz0 := BlkV.frozen kF 0
      have fc1 := BlkV.cell kF 1 rfl
      have fz1 := BlkV.frozen kF 1
      have vc0 := BlkV.cell kV 0 rfl
      have vz0 := BlkV.frozen kV 0
      have vc1 := BlkV.cell kV 1 rfl
      have vz1 := BlkV.frozen kV 1
      have vc2 := BlkV.cell kV 2 rfl
      have vz2 := BlkV.frozen kV 2
      have vc3 := BlkV.cell kV 3 rfl
      have vz3 := BlkV.frozen kV 3
      have vc4 := BlkV.cell kV 4 rfl
      have vz4 := BlkV.frozen kV 4
      have vc5 := BlkV.cell kV 5 rfl
      have vz5 := BlkV.frozen kV 5
      have vc6 := BlkV.cell kV 6 rfl
      have vz6 := BlkV.frozen kV 6
      have vc7 := BlkV.cell kV 7 rfl
      have vz7 := BlkV.frozen kV 7
      have vc8 := BlkV.cell kV 8 rfl
      have vz8 := BlkV.frozen kV 8
      have vc9 := BlkV.cell kV 9 rfl
      have vz9 := BlkV.frozen kV 9
      go_enter Tryd.func24, Tryd.ntmps24
      go_wp2_with fail
      refine wp_loop_rounds 3 ?_
      rw [rounds_succ]
      go_wp2_with fail
      refine (nf _).mono ?_
      rintro e wn ⟨rfl, rfl⟩
      go_wp2_with fail
      refine (vf _).mono ?_
      rintro e w1 ⟨v, rfl, hf1, a, b, rfl, a1, b2, hp⟩
      have Vf : VV (.agg #[.bool s, .bool en, .int .u64 (a), .int .u64 (b), .int .i64 (x)]) s en n x := ⟨_, _, rfl, a1, b2, hp⟩
      clear hp vf nf
      replace kF := kF.fwd hf1
      replace kV := kV.fwd hf1
      replace hF := hF.trans hf1
      clear hf1
      clear fc0 fz0 fc1 fz1
      clear vc0 vz0 vc1 vz1 vc2 vz2 vc3 vz3 vc4 vz4 vc5 vz5 vc6 vz6 vc7 vz7 vc8 vz8 vc9 vz9
      have fc0 := BlkV.cell kF 0 rfl
      have fz0 := BlkV.frozen kF 0
      have fc1 := BlkV.cell kF 1 rfl
      have fz1 := BlkV.frozen kF 1
      have vc0 := BlkV.cell kV 0 rfl
      have vz0 := BlkV.frozen kV 0
      have vc1 := BlkV.cell kV 1 rfl
      have vz1 := BlkV.frozen kV 1
      have vc2 := BlkV.cell kV 2 rfl
      have vz2 := BlkV.frozen kV 2
      have vc3 := BlkV.cell kV 3 rfl
      have vz3 := BlkV.frozen kV 3
      have vc4 := BlkV.cell kV 4 rfl
      have vz4 := BlkV.frozen kV 4
      have vc5 := BlkV.cell kV 5 rfl
      have vz5 := BlkV.frozen kV 5
      have vc6 := BlkV.cell kV 6 rfl
      have vz6 := BlkV.frozen kV 6
      have vc7 := BlkV.cell kV 7 rfl
      have vz7 := BlkV.frozen kV 7
      have vc8 := BlkV.cell kV 8 rfl
      have vz8 := BlkV.frozen kV 8
      have vc9 := BlkV.cell kV 9 rfl
      have vz9 := BlkV.frozen kV 9
      go_wp2_with fail
      rw [rounds_succ]
      go_wp2_with fail
      refine (nh _).mono ?_
      rintro e wn ⟨rfl, rfl⟩
      go_wp2_with fail
      have t4 := BlkV.set kV 0 (.bool s)
      have t5 := BlkV.set t4 1 (.bool en)
      have t6 := BlkV.set t5 2 (.int .u64 (a))
      have t7 := BlkV.set t6 3 (.int .u64 (b))
      have t8 := BlkV.set t7 4 (.int .i64 (x))
      have o8 := ((((BlkV.on kV 0 (.bool s)).setv 1 (.bool en)).setv 2 (.int .u64 (a))).setv 3 (.int .u64 (b))).setv 4 (.int .i64 (x))
      replace kF := BlkV.only kF o8 (by omega)
      replace hF := hF.wrote o8 (by omega)
      have kV := t8
      clear o8
      refine (vh _).mono ?_
      rintro e w2 ⟨v, rfl, hf2, c, d, rfl, c1, d2, hp⟩
      have Vh : VV (.agg #[.bool t, .bool em, .int .u64 (c), .int .u64 (d), .int .i64 (y)]) t em k y := ⟨_, _, rfl, c1, d2, hp⟩
      clear hp vh nh
      replace kF := kF.fwd hf2
      replace kV := kV.fwd hf2
      replace hF := hF.trans hf2
      clear hf2
      clear fc0 fz0 fc1 fz1
      clear vc0 vz0 vc1 vz1 vc2 vz2 vc3 vz3 vc4 vz4 vc5 vz5 vc6 vz6 vc7 vz7 vc8 vz8 vc9 vz9
      have fc0 := BlkV.cell kF 0 rfl
      have fz0 := BlkV.frozen kF 0
      have fc1 := BlkV.cell kF 1 rfl
      have fz1 := BlkV.frozen kF 1
      have vc0 := BlkV.cell kV 0 rfl
      have vz0 := BlkV.frozen kV 0
      have vc1 := BlkV.cell kV 1 rfl
      have vz1 := BlkV.frozen kV 1
      have vc2 := BlkV.cell kV 2 rfl
      have vz2 := BlkV.frozen kV 2
      have vc3 := BlkV.cell kV 3 rfl
      have vz3 := BlkV.frozen kV 3
      have vc4 := BlkV.cell kV 4 rfl
      have vz4 := BlkV.frozen kV 4
      have vc5 := BlkV.cell kV 5 rfl
      have vz5 := BlkV.frozen kV 5
      have vc6 := BlkV.cell kV 6 rfl
      have vz6 := BlkV.frozen kV 6
      have vc7 := BlkV.cell kV 7 rfl
      have vz7 := BlkV.frozen kV 7
      have vc8 := BlkV.cell kV 8 rfl
      have vz8 := BlkV.frozen kV 8
      have vc9 := BlkV.cell kV 9 rfl
      have vz9 := BlkV.frozen kV 9
      go_wp2_with fail
      rw [rounds_succ]
      go_wp2_with fail
      have t10 := BlkV.set kV 5 (.bool t)
      have t11 := BlkV.set t10 6 (.bool em)
      have t12 := BlkV.set t11 7 (.int .u64 (c))
      have t13 := BlkV.set t12 8 (.int .u64 (d))
      have t14 := BlkV.set t13 9 (.int .i64 (y))
      have o14 := ((((BlkV.on kV 5 (.bool t)).setv 6 (.bool em)).setv 7 (.int .u64 (c))).setv 8 (.int .u64 (d))).setv 9 (.int .i64 (y))
      replace kF := BlkV.only kF o14 (by omega)
      replace hF := hF.wrote o14 (by omega)
      have kV := t14
      clear o14
      have hz := HZ.out
      simp only [cf, ch, Bool.or_self, Bool.false_eq_true, if_false] at hz
      have dd := product_of (T := 65) m Vf Vh kV bf.1 bf.2.1 bf.2.2 bh.1 bh.2.1 bh.2.2
      rw [hz] at dd
      clear hz HZ
      refine (dd).mono ?_
      rintro e w9 ⟨rfl, hf9⟩
      go_wp2
      go_ret2
      exact ⟨ret_pair rfl rfl, hF.trans hf9⟩

end Go.Proofs.YtbhehgodnfcdgaaDoor
