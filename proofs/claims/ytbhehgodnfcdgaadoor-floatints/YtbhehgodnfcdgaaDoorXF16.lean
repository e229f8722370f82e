/- sfloat's Div, over the quotient of what is finite and not nought. -/
import Derived.Test.YtbhehgodnfcdgaaDoorXF14
import Derived.Test.YtbhehgodnfcdgaaDoorXF15
namespace Go.Proofs.YtbhehgodnfcdgaaDoor
open Go.RowKit
set_option linter.unusedVariables false
set_option linter.unusedSimpArgs false

set_option maxHeartbeats 8000000 in
set_option maxRecDepth 100000 in
theorem ofNumbers_quot {w : World} {gf : Nat} {Tf : TypeId} (m : Int) (f h : Nat) (hf' : f < 18446744073709551616) (hh' : h < 18446744073709551616) (o : Bool × Bool × Nat × Int) (ho : -1000000 ≤ o.2.2.2 ∧ o.2.2.2 ≤ 1000000) (hov : ∀ (u v : Value), VT u (valF f) → VT v (valF h) → (valF f).2.1 = false → (valF h).2.1 = false → (valF f).2.2.1 ≠ 0 → (valF h).2.2.1 ≠ 0 → ∀ w, Calls Tryd.prog 51 #[u, v] w fun e w' => ∃ r, e = .returned r ∧ Fwd w w' ∧ VT r o) (hB : BlkV w gf Tf [.int .u64 f, .int .u64 h]) :
    Calls Tryd.prog 24 #[.func (.func 28) #[ruleV m] #[], .slice (some ⟨gf, 0, none⟩) 2 2] w fun e w' => e = .returned (.tuple #[.int .u64 ((if isNan f || isNan h then ((9221120237041090560 : Nat), (0 : Nat)) else divV m (valF f) (valF h) o).1 : Nat), .int .i64 ((if isNan f || isNan h then ((9221120237041090560 : Nat), (0 : Nat)) else divV m (valF f) (valF h) o).2 : Nat)]) ∧ Fwd w w' := by
  have hmk := make_values2
  have hlt := BlkV.lt hB
  have hne1 : (gf = w.heap.size) = False := by simp; omega
  have hne2 : (w.heap.size = gf) = False := by simp; omega
  have nf := fun w => isNone_nan (w := w) f hf'
  have vf := fun w => valueOf_val (w := w) f hf'
  have bf := valF_small f
  have nh := fun w => isNone_nan (w := w) h hh'
  have vh := fun w => valueOf_val (w := w) h hh'
  have bh := valF_small h
  generalize hZ : (if isNan f || isNan h then ((9221120237041090560 : Nat), (0 : Nat)) else divV m (valF f) (valF h) o) = Z
  obtain ⟨z1, z2⟩ := Z
  have HZ := hid hZ
  clear hZ
  by_cases cf' : isNan f = true
  · have cf := cf'
    clear cf'
    simp only [cf] at nf
    have hF : Fwd w (w.alloc (.cells #[.bool false, .bool false, .int .u64 0, .int .u64 0, .int .i64 0, .bool false, .bool false, .int .u64 0, .int .u64 0, .int .i64 0] 65)) := (Fwd.refl w).alloc _
    have kF : BlkV (w.alloc (.cells #[.bool false, .bool false, .int .u64 0, .int .u64 0, .int .i64 0, .bool false, .bool false, .int .u64 0, .int .u64 0, .int .i64 0] 65)) gf Tf [.int .u64 f, .int .u64 h] := hB.fwd hF
    have kV : BlkV (w.alloc (.cells #[.bool false, .bool false, .int .u64 0, .int .u64 0, .int .i64 0, .bool false, .bool false, .int .u64 0, .int .u64 0, .int .i64 0] 65)) w.heap.size 65 [.bool false, .bool false, .int .u64 0, .int .u64 0, .int .i64 0, .bool false, .bool false, .int .u64 0, .int .u64 0, .int .i64 0] := BlkV.made w _ _
    clear hB
    have fc0 := BlkV.cell kF 0 rfl
    have fz0 := BlkV.frozen kF 0
    have fc1 := BlkV.cell kF 1 rfl
    have fz1 := BlkV.frozen kF 1
    have vc0 := BlkV.cell kV 0 rfl
    have vz0 := BlkV.frozen kV 0
    have vc1 := BlkV.cell kV 1 rfl
    have vz1 := BlkV.frozen kV 1
    have vc2 := BlkV.cell kV 2 rfl
    have vz2 := BlkV.frozen kV 2
    have vc3 := BlkV.cell kV 3 rfl
    have vz3 := BlkV.frozen kV 3
    have vc4 := BlkV.cell kV 4 rfl
    have vz4 := BlkV.frozen kV 4
    have vc5 := BlkV.cell kV 5 rfl
    have vz5 := BlkV.frozen kV 5
    have vc6 := BlkV.cell kV 6 rfl
    have vz6 := BlkV.frozen kV 6
    have vc7 := BlkV.cell kV 7 rfl
    have vz7 := BlkV.frozen kV 7
    have vc8 := BlkV.cell kV 8 rfl
    have vz8 := BlkV.frozen kV 8
    have vc9 := BlkV.cell kV 9 rfl
    have vz9 := BlkV.frozen kV 9
    go_enter Tryd.func24, Tryd.ntmps24
    go_wp2_with fail
    refine wp_loop_rounds 3 ?_
    rw [rounds_succ]
    go_wp2_with fail
    refine (nf _).mono ?_
    rintro e wn ⟨rfl, rfl⟩
    go_wp2
    go_ret2
    have hz := HZ.out
    simp only [cf, Bool.true_or, Bool.or_true, Bool.false_or, Bool.or_false, if_true, Prod.mk.injEq] at hz
    obtain ⟨rfl, rfl⟩ := hz
    exact ⟨ret_pair rfl rfl, hF⟩
  · have cf : isNan f = false := by simpa using cf'
    clear cf'
    simp only [cf] at nf
    by_cases ch' : isNan h = true
    · have ch := ch'
      clear ch'
      simp only [ch] at nh
      generalize valF f = Ff at *
      obtain ⟨s, en, n, x⟩ := Ff
      simp only at bf
      have hF : Fwd w (w.alloc (.cells #[.bool false, .bool false, .int .u64 0, .int .u64 0, .int .i64 0, .bool false, .bool false, .int .u64 0, .int .u64 0, .int .i64 0] 65)) := (Fwd.refl w).alloc _
      have kF : BlkV (w.alloc (.cells #[.bool false, .bool false, .int .u64 0, .int .u64 0, .int .i64 0, .bool false, .bool false, .int .u64 0, .int .u64 0, .int .i64 0] 65)) gf Tf [.int .u64 f, .int .u64 h] := hB.fwd hF
      have kV : BlkV (w.alloc (.cells #[.bool false, .bool false, .int .u64 0, .int .u64 0, .int .i64 0, .bool false, .bool false, .int .u64 0, .int .u64 0, .int .i64 0] 65)) w.heap.size 65 [.bool false, .bool false, .int .u64 0, .int .u64 0, .int .i64 0, .bool false, .bool false, .int .u64 0, .int .u64 0, .int .i64 0] := BlkV.made w _ _
      clear hB
      have fc0 := BlkV.cell kF 0 rfl
      have fz0 := BlkV.frozen kF 0
      have fc1 := BlkV.cell kF 1 rfl
      have fz1 := BlkV.frozen kF 1
      have vc0 := BlkV.cell kV 0 rfl
      have vz0 := BlkV.frozen kV 0
      have vc1 := BlkV.cell kV 1 rfl
      have vz1 := BlkV.frozen kV 1
      have vc2 := BlkV.cell kV 2 rfl
      have vz2 := BlkV.frozen kV 2
      have vc3 := BlkV.cell kV 3 rfl
      have vz3 := BlkV.frozen kV 3
      have vc4 := BlkV.cell kV 4 rfl
      have vz4 := BlkV.frozen kV 4
      have vc5 := BlkV.cell kV 5 rfl
      have vz5 := BlkV.frozen kV 5
      have vc6 := BlkV.cell kV 6 rfl
      have vz6 := BlkV.frozen kV 6
      have vc7 := BlkV.cell kV 7 rfl
      have vz7 := BlkV.frozen kV 7
      have vc8 := BlkV.cell kV 8 rfl
      have vz8 := BlkV.frozen kV 8
      have vc9 := BlkV.cell kV 9 rfl
      have vz9 := BlkV.frozen kV 9
      go_enter Tryd.func24, Tryd.ntmps24
      go_wp2_with fail
      refine wp_loop_rounds 3 ?_
      rw [rounds_succ]
      go_wp2_with fail
      refine (nf _).mono ?_
      rintro e wn ⟨rfl, rfl⟩
      go_wp2_with fail
      refine (vf _).mono ?_
      rintro e w1 ⟨v, rfl, hf1, a, b, rfl, a1, b2, hp⟩
      have Vf : VV (.agg #[.bool s, .bool en, .int .u64 (a), .int .u64 (b), .int .i64 (x)]) s en n x := ⟨_, _, rfl, a1, b2, hp⟩
      clear hp vf nf
      replace kF := kF.fwd hf1
      replace kV := kV.fwd hf1
      replace hF := hF.trans hf1
      clear hf1
      clear fc0 fz0 fc1 fz1
      clear vc0 vz0 vc1 vz1 vc2 vz2 vc3 vz3 vc4 vz4 vc5 vz5 vc6 vz6 vc7 vz7 vc8 vz8 vc9 vz9
      have fc0 := BlkV.cell kF 0 rfl
      have fz0 := BlkV.frozen kF 0
      have fc1 := BlkV.cell kF 1 rfl
      have fz1 := BlkV.frozen kF 1
      have vc0 := BlkV.cell kV 0 rfl
      have vz0 := BlkV.frozen kV 0
      have vc1 := BlkV.cell kV 1 rfl
      have vz1 := BlkV.frozen kV 1
      have vc2 := BlkV.cell kV 2 rfl
      have vz2 := BlkV.frozen kV 2
      have vc3 := BlkV.cell kV 3 rfl
      have vz3 := BlkV.frozen kV 3
      have vc4 := BlkV.cell kV 4 rfl
      have vz4 := BlkV.frozen kV 4
      have vc5 := BlkV.cell kV 5 rfl
      have vz5 := BlkV.frozen kV 5
      have vc6 := BlkV.cell kV 6 rfl
      have vz6 := BlkV.frozen kV 6
      have vc7 := BlkV.cell kV 7 rfl
      have vz7 := BlkV.frozen kV 7
      have vc8 := BlkV.cell kV 8 rfl
      have vz8 := BlkV.frozen kV 8
      have vc9 := BlkV.cell kV 9 rfl
      have vz9 := BlkV.frozen kV 9
      go_wp2_with fail
      rw [rounds_succ]
      go_wp2_with fail
      refine (nh _).mono ?_
      rintro e wn ⟨rfl, rfl⟩
      go_wp2
      have t3 := BlkV.set kV 0 (.bool s)
      have t4 := BlkV.set t3 1 (.bool en)
      have t5 := BlkV.set t4 2 (.int .u64 (a))
      have t6 := BlkV.set t5 3 (.int .u64 (b))
      have t7 := BlkV.set t6 4 (.int .i64 (x))
      have o7 := ((((BlkV.on kV 0 (.bool s)).setv 1 (.bool en)).setv 2 (.int .u64 (a))).setv 3 (.int .u64 (b))).setv 4 (.int .i64 (x))
      replace kF := BlkV.only kF o7 (by omega)
      replace hF := hF.wrote o7 (by omega)
      have kV := t7
      clear o7
      go_ret2
      have hz := HZ.out
      simp only [cf, ch, Bool.true_or, Bool.or_true, Bool.false_or, Bool.or_false, if_true, Prod.mk.injEq] at hz
      obtain ⟨rfl, rfl⟩ := hz
      exact ⟨ret_pair rfl rfl, hF⟩
    · have ch : isNan h = false := by simpa using ch'
      clear ch'
      simp only [ch] at nh
      generalize valF f = Ff at *
      obtain ⟨s, en, n, x⟩ := Ff
      simp only at bf
      generalize valF h = Fh at *
      obtain ⟨t, em, k, y⟩ := Fh
      simp only at bh
      have hF : Fwd w (w.alloc (.cells #[.bool false, .bool false, .int .u64 0, .int .u64 0, .int .i64 0, .bool false, .bool false, .int .u64 0, .int .u64 0, .int .i64 0] 65)) := (Fwd.refl w).alloc _
      have kF : BlkV (w.alloc (.cells #[.bool false, .bool false, .int .u64 0, .int .u64 0, .int .i64 0, .bool false, .bool false, .int .u64 0, .int .u64 0, .int .i64 0] 65)) gf Tf [.int .u64 f, .int .u64 h] := hB.fwd hF
      have kV : BlkV (w.alloc (.cells #[.bool false, .bool false, .int .u64 0, .int .u64 0, .int .i64 0, .bool false, .bool false, .int .u64 0, .int .u64 0, .int .i64 0] 65)) w.heap.size 65 [.bool false, .bool false, .int .u64 0, .int .u64 0, .int .i64 0, .bool false, .bool false, .int .u64 0, .int .u64 0, .int .i64 0] := BlkV.made w _ _
      clear hB
      have fc0 := BlkV.cell kF 0 rfl
      have fz0 := BlkV.frozen kF 0
      have fc1 := BlkV.cell kF 1 rfl
      have fz1 := BlkV.frozen kF 1
      have vc0 := BlkV.cell kV 0 rfl
      have vz0 := BlkV.frozen kV 0
      have vc1 := BlkV.cell kV 1 rfl
      have vz1 := BlkV.frozen kV 1
      have vc2 := BlkV.cell kV 2 rfl
      have vz2 := BlkV.frozen kV 2
      have vc3 := BlkV.cell kV 3 rfl
      have vz3 := BlkV.frozen kV 3
      have vc4 := BlkV.cell kV 4 rfl
      have vz4 := BlkV.frozen kV 4
      have vc5 := BlkV.cell kV 5 rfl
      have vz5 := BlkV.frozen kV 5
      have vc6 := BlkV.cell kV 6 rfl
      have vz6 := BlkV.frozen kV 6
      have vc7 := BlkV.cell kV 7 rfl
      have vz7 := BlkV.frozen kV 7
      have vc8 := BlkV.cell kV 8 rfl
      have vz8 := BlkV.frozen kV 8
      have vc9 := BlkV.cell kV 9 rfl
      have vz9 := BlkV.frozen kV 9
      go_enter Tryd.func24, Tryd.ntmps24
      go_wp2_with fail
      refine wp_loop_rounds 3 ?_
      rw [rounds_succ]
      go_wp2_with fail
      refine (nf _).mono ?_
      rintro e wn ⟨rfl, rfl⟩
      go_wp2_with fail
      refine (vf _).mono ?_
      rintro e w1 ⟨v, rfl, hf1, a, b, rfl, a1, b2, hp⟩
      have Vf : VV (.agg #[.bool s, .bool en, .int .u64 (a), .int .u64 (b), .int .i64 (x)]) s en n x := ⟨_, _, rfl, a1, b2, hp⟩
      clear hp vf nf
      replace kF := kF.fwd hf1
      replace kV := kV.fwd hf1
      replace hF := hF.trans hf1
      clear hf1
      clear fc0 fz0 fc1 fz1
      clear vc0 vz0 vc1 vz1 vc2 vz2 vc3 vz3 vc4 vz4 vc5 vz5 vc6 vz6 vc7 vz7 vc8 vz8 vc9 vz9
      have fc0 := BlkV.cell kF 0 rfl
      have fz0 := BlkV.frozen kF 0
      have fc1 := BlkV.cell kF 1 rfl
      have fz1 := BlkV.frozen kF 1
      have vc0 := BlkV.cell kV 0 rfl
      have vz0 := BlkV.frozen kV 0
      have vc1 := BlkV.cell kV 1 rfl
      have vz1 := BlkV.frozen kV 1
      have vc2 := BlkV.cell kV 2 rfl
      have vz2 := BlkV.frozen kV 2
      have vc3 := BlkV.cell kV 3 rfl
      have vz3 := BlkV.frozen kV 3
      have vc4 := BlkV.cell kV 4 rfl
      have vz4 := BlkV.frozen kV 4
      have vc5 := BlkV.cell kV 5 rfl
      have vz5 := BlkV.frozen kV 5
      have vc6 := BlkV.cell kV 6 rfl
      have vz6 := BlkV.frozen kV 6
      have vc7 := BlkV.cell kV 7 rfl
      have vz7 := BlkV.frozen kV 7
      have vc8 := BlkV.cell kV 8 rfl
      have vz8 := BlkV.frozen kV 8
      have vc9 := BlkV.cell kV 9 rfl
      have vz9 := BlkV.frozen kV 9
      go_wp2_with fail
      rw [rounds_succ]
      go_wp2_with fail
      refine (nh _).mono ?_
      rintro e wn ⟨rfl, rfl⟩
      go_wp2_with fail
      have t4 := BlkV.set kV 0 (.bool s)
      have t5 := BlkV.set t4 1 (.bool en)
      have t6 := BlkV.set t5 2 (.int .u64 (a))
      have t7 := BlkV.set t6 3 (.int .u64 (b))
      have t8 := BlkV.set t7 4 (.int .i64 (x))
      have o8 := ((((BlkV.on kV 0 (.bool s)).setv 1 (.bool en)).setv 2 (.int .u64 (a))).setv 3 (.int .u64 (b))).setv 4 (.int .i64 (x))
      replace kF := BlkV.only kF o8 (by omega)
      replace hF := hF.wrote o8 (by omega)
      have kV := t8
      clear o8
      refine (vh _).mono ?_
      rintro e w2 ⟨v, rfl, hf2, c, d, rfl, c1, d2, hp⟩
      have Vh : VV (.agg #[.bool t, .bool em, .int .u64 (c), .int .u64 (d), .int .i64 (y)]) t em k y := ⟨_, _, rfl, c1, d2, hp⟩
      clear hp vh nh
      replace kF := kF.fwd hf2
      replace kV := kV.fwd hf2
      replace hF := hF.trans hf2
      clear hf2
      clear fc0 fz0 fc1 fz1
      clear vc0 vz0 vc1 vz1 vc2 vz2 vc3 vz3 vc4 vz4 vc5 vz5 vc6 vz6 vc7 vz7 vc8 vz8 vc9 vz9
      have fc0 := BlkV.cell kF 0 rfl
      have fz0 := BlkV.frozen kF 0
      have fc1 := BlkV.cell kF 1 rfl
      have fz1 := BlkV.frozen kF 1
      have vc0 := BlkV.cell kV 0 rfl
      have vz0 := BlkV.frozen kV 0
      have vc1 := BlkV.cell kV 1 rfl
      have vz1 := BlkV.frozen kV 1
      have vc2 := BlkV.cell kV 2 rfl
      have vz2 := BlkV.frozen kV 2
      have vc3 := BlkV.cell kV 3 rfl
      have vz3 := BlkV.frozen kV 3
      have vc4 := BlkV.cell kV 4 rfl
      have vz4 := BlkV.frozen kV 4
      have vc5 := BlkV.cell kV 5 rfl
      have vz5 := BlkV.frozen kV 5
      have vc6 := BlkV.cell kV 6 rfl
      have vz6 := BlkV.frozen kV 6
      have vc7 := BlkV.cell kV 7 rfl
      have vz7 := BlkV.frozen kV 7
      have vc8 := BlkV.cell kV 8 rfl
      have vz8 := BlkV.frozen kV 8
      have vc9 := BlkV.cell kV 9 rfl
      have vz9 := BlkV.frozen kV 9
      go_wp2_with fail
      rw [rounds_succ]
      go_wp2_with fail
      have t10 := BlkV.set kV 5 (.bool t)
      have t11 := BlkV.set t10 6 (.bool em)
      have t12 := BlkV.set t11 7 (.int .u64 (c))
      have t13 := BlkV.set t12 8 (.int .u64 (d))
      have t14 := BlkV.set t13 9 (.int .i64 (y))
      have o14 := ((((BlkV.on kV 5 (.bool t)).setv 6 (.bool em)).setv 7 (.int .u64 (c))).setv 8 (.int .u64 (d))).setv 9 (.int .i64 (y))
      replace kF := BlkV.only kF o14 (by omega)
      replace hF := hF.wrote o14 (by omega)
      have kV := t14
      clear o14
      have hz := HZ.out
      simp only [cf, ch, Bool.or_self, Bool.false_eq_true, if_false] at hz
      have dd := quotient_of (T := 65) m o ho (fun e1 e2 e3 e4 => hov _ _ Vf Vh e1 e2 e3 e4) Vf Vh kV bf.1 bf.2.1 bf.2.2 bh.1 bh.2.1 bh.2.2
      rw [hz] at dd
      clear hz HZ
      refine (dd).mono ?_
      rintro e w9 ⟨rfl, hf9⟩
      go_wp2
      go_ret2
      exact ⟨ret_pair rfl rfl, hF.trans hf9⟩

/-- A quotient of floats, over that of what is finite and not nought. -/
def divF (m : Int) (f h : Nat) (o : Bool × Bool × Nat × Int) : Nat × Nat := if isNan f || isNan h then (9221120237041090560, 0) else divV m (valF f) (valF h) o

set_option maxHeartbeats 4000000 in
set_option maxRecDepth 100000 in
theorem divF_over {w : World} (hR : Ru w) (m : Int) (f h : Nat) (hf : f < 18446744073709551616) (hh : h < 18446744073709551616) (o : Bool × Bool × Nat × Int) (ho : -1000000 ≤ o.2.2.2 ∧ o.2.2.2 ≤ 1000000) (hov : ∀ (u v : Value), VT u (valF f) → VT v (valF h) → (valF f).2.1 = false → (valF h).2.1 = false → (valF f).2.2.1 ≠ 0 → (valF h).2.2.1 ≠ 0 → ∀ w, Calls Tryd.prog 51 #[u, v] w fun e w' => ∃ r, e = .returned r ∧ Fwd w w' ∧ VT r o) :
    Calls Tryd.prog 14 #[.int .u64 f, .int .u64 h, .int .i64 m] w fun e w' => e = .returned (.tuple #[.int .u64 ((divF m f h o).1 : Nat), .int .i64 ((divF m f h o).2 : Nat)]) ∧ Fwd w w' := by
  have hmf : ∀ (fn : Fn) (first cap : Array Value) (w : World), (Instr.makeFunc fn first cap).run Tryd.prog w = .ok (.func fn first cap) w := fun _ _ _ _ => rfl
  have c1 := ruleOf_any m hR
  have c2 : ∀ (w1 : World), Calls Tryd.prog 24 #[.func (.func 28) #[ruleV m] #[], .slice (some ⟨w1.heap.size, 0, none⟩) 2 2] (w1.alloc (.cells #[.int .u64 f, .int .u64 h] 22)) fun e w' => e = .returned (.tuple #[.int .u64 ((divF m f h o).1 : Nat), .int .i64 ((divF m f h o).2 : Nat)]) ∧ Fwd (w1.alloc (.cells #[.int .u64 f, .int .u64 h] 22)) w' := fun w1 => ofNumbers_quot m f h hf hh o ho hov (BlkV.made w1 _ _)
  generalize divF m f h o = Z at *
  obtain ⟨z1, z2⟩ := Z
  generalize ruleV m = rv at *
  go_enter Tryd.func14, Tryd.ntmps14
  go_wp2_with fail
  refine c1.mono ?_
  rintro e w1 ⟨rfl, hf⟩
  go_wp2_with fail
  refine (c2 w1).mono ?_
  rintro e w2 ⟨rfl, hf2⟩
  go_wp2
  go_ret2
  exact ⟨ret_pair rfl rfl, (hf.alloc _).trans hf2⟩

end Go.Proofs.YtbhehgodnfcdgaaDoor
