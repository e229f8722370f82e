/- FloatTurned: with the signs turned, and the modes towards the ends exchanged, sums, products, quotients are turned: the law's walk. -/
import Derived.Test.YtbhehgodnfcdgaaDoorF23
import Derived.Test.YtbhehgodnfcdgaaDoorFB
import Derived.Test.YtbhehgodnfcdgaaDoorF17
import Derived.OpenShut
namespace Go.Proofs.YtbhehgodnfcdgaaDoor
open Go.RowKit
set_option linter.unusedVariables false
set_option linter.unusedSimpArgs false

theorem divG_turn (m : Int) {f g : Nat} (hf : f < 18446744073709551616) : Turned (divG m f g).1 (divG (tmode m) (flipF f) g).1 ∧ (divG m f g).2 = (divG (tmode m) (flipF f) g).2 := divF_turn m hf

theorem divG_lt (m : Int) (f g : Nat) : (divG m f g).1 < 18446744073709551616 := divF_lt m f g _

set_option maxHeartbeats 16000000 in
set_option maxRecDepth 100000 in
theorem floatTurned_walk {w : World} {a b n m mode : Int} (hR : Ru w) (ha : (Lit.int .u64 a).wf = true) (hb : (Lit.int .u64 b).wf = true) (hn : (Lit.int .i64 n).wf = true) (hm : (Lit.int .i64 m).wf = true) (hk : (Lit.int .i64 mode).wf = true) :
    Calls Tryd.prog 3 #[.int .u64 a, .int .u64 b, .int .i64 n, .int .i64 m, .int .i64 mode] w fun e w' => e = .returned (.bool true) ∧ Below w.heap.size w w' := by
  obtain ⟨a1, a2⟩ := bounds_u64 ha
  obtain ⟨b1, b2⟩ := bounds_u64 hb
  obtain ⟨n1, n2⟩ := bounds_i64 hn
  obtain ⟨m1, m2⟩ := bounds_i64 hm
  obtain ⟨k1, k2⟩ := bounds_i64 hk
  obtain ⟨a, rfl⟩ : ∃ a' : Nat, a = (a' : Int) := ⟨a.toNat, by omega⟩
  obtain ⟨b, rfl⟩ : ∃ b' : Nat, b = (b' : Int) := ⟨b.toNat, by omega⟩
  clear ha hb hn hm hk
  have hF : Fwd w w := Fwd.refl w
  go_enter Tryd.func3, Tryd.ntmps3
  go_wp2_with fail
  refine (known3_any hR).mono ?_
  rintro e w1 ⟨rfl, hf1⟩
  replace hR := hR.fwd hf1
  replace hF := hF.trans hf1
  clear hf1
  go_wp2_with fail
  refine (make3_any _ a n (by omega) n1 n2).mono ?_
  rintro e wq ⟨x, hx, rfl, rfl⟩
  go_wp2_with fail
  refine (make3_any _ b m (by omega) m1 m2).mono ?_
  rintro e wq ⟨y, hy, rfl, rfl⟩
  go_wp2_with fail
  refine (within3_any _ mode 5 (by omega) (by omega) k1 k2).mono ?_
  rintro e wq ⟨k, hk, rfl, rfl⟩
  clear a1 a2 b1 b2 n1 n2 m1 m2 k1 k2
  have hxx := xor_sign x hx
  have hxy := xor_sign y hy
  have lx := flip_lt hx
  have ly := flip_lt hy
  have T1 := fun m => addF_turn m hx hy
  have T2 := fun m => mulF_turn m (g := y) hx
  have T3 := fun m => divG_turn m (g := y) hx
  obtain ⟨x', hx'⟩ : ∃ x', x' = flipF x := ⟨_, rfl⟩
  obtain ⟨y', hy'⟩ : ∃ y', y' = flipF y := ⟨_, rfl⟩
  rw [← hx'] at hxx T1 T2 T3 lx
  rw [← hy'] at hxy T1 ly
  clear hx' hy'
  have t0 : tmode 0 = 0 := rfl
  have t1 : tmode 1 = 1 := rfl
  have t2 : tmode 2 = 3 := rfl
  have t3 : tmode 3 = 2 := rfl
  have t4 : tmode 4 = 4 := rfl
  have hk' : k = 0 ∨ k = 1 ∨ k = 2 ∨ k = 3 ∨ k = 4 := by omega
  clear hk
  rcases hk' with rfl | rfl | rfl | rfl | rfl
  · replace T1 := T1 0
    rw [t0] at T1
    replace T2 := T2 0
    rw [t0] at T2
    replace T3 := T3 0
    rw [t0] at T3
    clear t0 t1 t2 t3 t4
    go_upto_region 5 with fail
    have hA : Fwd w1 (w1.alloc (.cells #[.int .i64 0, .int .i64 1, .int .i64 3, .int .i64 2, .int .i64 4] 3)) := (Fwd.refl w1).alloc _
    generalize (w1.alloc (.cells #[.int .i64 0, .int .i64 1, .int .i64 3, .int .i64 2, .int .i64 4] 3)) = v at hA ⊢
    replace hR := hR.fwd hA
    replace hF := hF.trans hA
    clear hA
    have HT := hid (And.intro T1 (And.intro T2 T3))
    clear T1 T2 T3
    have c := addF_any hR 0 x y hx hy
    go_wp2_with fail
    refine c.mono ?_
    rintro e v0 ⟨rfl, hf⟩
    clear c
    replace hR := hR.fwd hf
    replace hF := hF.trans hf
    clear hf
    have c := addF_any hR 0 x' y' lx ly
    go_wp2_with fail
    refine c.mono ?_
    rintro e v1 ⟨rfl, hf⟩
    clear c
    replace hR := hR.fwd hf
    replace hF := hF.trans hf
    clear hf
    have c := mulF_any hR 0 x y hx hy
    go_wp2_with fail
    refine c.mono ?_
    rintro e v2 ⟨rfl, hf⟩
    clear c
    replace hR := hR.fwd hf
    replace hF := hF.trans hf
    clear hf
    have c := mulF_any hR 0 x' y lx hy
    go_wp2_with fail
    refine c.mono ?_
    rintro e v3 ⟨rfl, hf⟩
    clear c
    replace hR := hR.fwd hf
    replace hF := hF.trans hf
    clear hf
    have c := divG_any hR 0 x y hx hy
    go_wp2_with fail
    refine c.mono ?_
    rintro e v4 ⟨rfl, hf⟩
    clear c
    replace hR := hR.fwd hf
    replace hF := hF.trans hf
    clear hf
    have c := divG_any hR 0 x' y lx hy
    go_wp2_with fail
    refine c.mono ?_
    rintro e v5 ⟨rfl, hf⟩
    clear c
    replace hR := hR.fwd hf
    replace hF := hF.trans hf
    clear hf
    clear hR
    have l0 := addF_lt 0 x y
    have l1 := addF_lt 0 x' y'
    have l2 := mulF_lt 0 x y
    have l3 := mulF_lt 0 x' y
    have l4 := divG_lt 0 x y
    have l5 := divG_lt 0 x' y
    obtain ⟨⟨T1, E1⟩, ⟨T2, E2⟩, T3, E3⟩ := HT.out
    clear HT
    generalize addF 0 x y = Z0 at *
    obtain ⟨z0, q0⟩ := Z0
    generalize addF 0 x' y' = Z1 at *
    obtain ⟨z1, q1⟩ := Z1
    generalize mulF 0 x y = Z2 at *
    obtain ⟨z2, q2⟩ := Z2
    generalize mulF 0 x' y = Z3 at *
    obtain ⟨z3, q3⟩ := Z3
    generalize divG 0 x y = Z4 at *
    obtain ⟨z4, q4⟩ := Z4
    generalize divG 0 x' y = Z5 at *
    obtain ⟨z5, q5⟩ := Z5
    simp only at T1 T2 T3 E1 E2 E3 l0 l1 l2 l3 l4 l5
    subst E1
    subst E2
    subst E3
    have d0 := fun w => turned_any (w := w) z0 z1 l0 l1 T1
    have d1 := fun w => turned_any (w := w) z2 z3 l2 l3 T2
    have d2 := fun w => turned_any (w := w) z4 z5 l4 l5 T3
    clear T1 T2 T3 l0 l1 l2 l3 l4 l5
    go_wp2_with fail
    refine (d0 _).mono ?_
    rintro e u0 ⟨rfl, rfl⟩
    go_wp2_with fail
    refine (d1 _).mono ?_
    rintro e u1 ⟨rfl, rfl⟩
    go_wp2_with fail
    refine (d2 _).mono ?_
    rintro e u2 ⟨rfl, rfl⟩
    go_wp2
    go_ret
    exact ⟨rfl, hF⟩
  · replace T1 := T1 1
    rw [t1] at T1
    replace T2 := T2 1
    rw [t1] at T2
    replace T3 := T3 1
    rw [t1] at T3
    clear t0 t1 t2 t3 t4
    go_upto_region 5 with fail
    have hA : Fwd w1 (w1.alloc (.cells #[.int .i64 0, .int .i64 1, .int .i64 3, .int .i64 2, .int .i64 4] 3)) := (Fwd.refl w1).alloc _
    generalize (w1.alloc (.cells #[.int .i64 0, .int .i64 1, .int .i64 3, .int .i64 2, .int .i64 4] 3)) = v at hA ⊢
    replace hR := hR.fwd hA
    replace hF := hF.trans hA
    clear hA
    have HT := hid (And.intro T1 (And.intro T2 T3))
    clear T1 T2 T3
    have c := addF_any hR 1 x y hx hy
    go_wp2_with fail
    refine c.mono ?_
    rintro e v0 ⟨rfl, hf⟩
    clear c
    replace hR := hR.fwd hf
    replace hF := hF.trans hf
    clear hf
    have c := addF_any hR 1 x' y' lx ly
    go_wp2_with fail
    refine c.mono ?_
    rintro e v1 ⟨rfl, hf⟩
    clear c
    replace hR := hR.fwd hf
    replace hF := hF.trans hf
    clear hf
    have c := mulF_any hR 1 x y hx hy
    go_wp2_with fail
    refine c.mono ?_
    rintro e v2 ⟨rfl, hf⟩
    clear c
    replace hR := hR.fwd hf
    replace hF := hF.trans hf
    clear hf
    have c := mulF_any hR 1 x' y lx hy
    go_wp2_with fail
    refine c.mono ?_
    rintro e v3 ⟨rfl, hf⟩
    clear c
    replace hR := hR.fwd hf
    replace hF := hF.trans hf
    clear hf
    have c := divG_any hR 1 x y hx hy
    go_wp2_with fail
    refine c.mono ?_
    rintro e v4 ⟨rfl, hf⟩
    clear c
    replace hR := hR.fwd hf
    replace hF := hF.trans hf
    clear hf
    have c := divG_any hR 1 x' y lx hy
    go_wp2_with fail
    refine c.mono ?_
    rintro e v5 ⟨rfl, hf⟩
    clear c
    replace hR := hR.fwd hf
    replace hF := hF.trans hf
    clear hf
    clear hR
    have l0 := addF_lt 1 x y
    have l1 := addF_lt 1 x' y'
    have l2 := mulF_lt 1 x y
    have l3 := mulF_lt 1 x' y
    have l4 := divG_lt 1 x y
    have l5 := divG_lt 1 x' y
    obtain ⟨⟨T1, E1⟩, ⟨T2, E2⟩, T3, E3⟩ := HT.out
    clear HT
    generalize addF 1 x y = Z0 at *
    obtain ⟨z0, q0⟩ := Z0
    generalize addF 1 x' y' = Z1 at *
    obtain ⟨z1, q1⟩ := Z1
    generalize mulF 1 x y = Z2 at *
    obtain ⟨z2, q2⟩ := Z2
    generalize mulF 1 x' y = Z3 at *
    obtain ⟨z3, q3⟩ := Z3
    generalize divG 1 x y = Z4 at *
    obtain ⟨z4, q4⟩ := Z4
    generalize divG 1 x' y = Z5 at *
    obtain ⟨z5, q5⟩ := Z5
    simp only at T1 T2 T3 E1 E2 E3 l0 l1 l2 l3 l4 l5
    subst E1
    subst E2
    subst E3
    have d0 := fun w => turned_any (w := w) z0 z1 l0 l1 T1
    have d1 := fun w => turned_any (w := w) z2 z3 l2 l3 T2
    have d2 := fun w => turned_any (w := w) z4 z5 l4 l5 T3
    clear T1 T2 T3 l0 l1 l2 l3 l4 l5
    go_wp2_with fail
    refine (d0 _).mono ?_
    rintro e u0 ⟨rfl, rfl⟩
    go_wp2_with fail
    refine (d1 _).mono ?_
    rintro e u1 ⟨rfl, rfl⟩
    go_wp2_with fail
    refine (d2 _).mono ?_
    rintro e u2 ⟨rfl, rfl⟩
    go_wp2
    go_ret
    exact ⟨rfl, hF⟩
  · replace T1 := T1 2
    rw [t2] at T1
    replace T2 := T2 2
    rw [t2] at T2
    replace T3 := T3 2
    rw [t2] at T3
    clear t0 t1 t2 t3 t4
    go_upto_region 5 with fail
    have hA : Fwd w1 (w1.alloc (.cells #[.int .i64 0, .int .i64 1, .int .i64 3, .int .i64 2, .int .i64 4] 3)) := (Fwd.refl w1).alloc _
    generalize (w1.alloc (.cells #[.int .i64 0, .int .i64 1, .int .i64 3, .int .i64 2, .int .i64 4] 3)) = v at hA ⊢
    replace hR := hR.fwd hA
    replace hF := hF.trans hA
    clear hA
    have HT := hid (And.intro T1 (And.intro T2 T3))
    clear T1 T2 T3
    have c := addF_any hR 2 x y hx hy
    go_wp2_with fail
    refine c.mono ?_
    rintro e v0 ⟨rfl, hf⟩
    clear c
    replace hR := hR.fwd hf
    replace hF := hF.trans hf
    clear hf
    have c := addF_any hR 3 x' y' lx ly
    go_wp2_with fail
    refine c.mono ?_
    rintro e v1 ⟨rfl, hf⟩
    clear c
    replace hR := hR.fwd hf
    replace hF := hF.trans hf
    clear hf
    have c := mulF_any hR 2 x y hx hy
    go_wp2_with fail
    refine c.mono ?_
    rintro e v2 ⟨rfl, hf⟩
    clear c
    replace hR := hR.fwd hf
    replace hF := hF.trans hf
    clear hf
    have c := mulF_any hR 3 x' y lx hy
    go_wp2_with fail
    refine c.mono ?_
    rintro e v3 ⟨rfl, hf⟩
    clear c
    replace hR := hR.fwd hf
    replace hF := hF.trans hf
    clear hf
    have c := divG_any hR 2 x y hx hy
    go_wp2_with fail
    refine c.mono ?_
    rintro e v4 ⟨rfl, hf⟩
    clear c
    replace hR := hR.fwd hf
    replace hF := hF.trans hf
    clear hf
    have c := divG_any hR 3 x' y lx hy
    go_wp2_with fail
    refine c.mono ?_
    rintro e v5 ⟨rfl, hf⟩
    clear c
    replace hR := hR.fwd hf
    replace hF := hF.trans hf
    clear hf
    clear hR
    have l0 := addF_lt 2 x y
    have l1 := addF_lt 3 x' y'
    have l2 := mulF_lt 2 x y
    have l3 := mulF_lt 3 x' y
    have l4 := divG_lt 2 x y
    have l5 := divG_lt 3 x' y
    obtain ⟨⟨T1, E1⟩, ⟨T2, E2⟩, T3, E3⟩ := HT.out
    clear HT
    generalize addF 2 x y = Z0 at *
    obtain ⟨z0, q0⟩ := Z0
    generalize addF 3 x' y' = Z1 at *
    obtain ⟨z1, q1⟩ := Z1
    generalize mulF 2 x y = Z2 at *
    obtain ⟨z2, q2⟩ := Z2
    generalize mulF 3 x' y = Z3 at *
    obtain ⟨z3, q3⟩ := Z3
    generalize divG 2 x y = Z4 at *
    obtain ⟨z4, q4⟩ := Z4
    generalize divG 3 x' y = Z5 at *
    obtain ⟨z5, q5⟩ := Z5
    simp only at T1 T2 T3 E1 E2 E3 l0 l1 l2 l3 l4 l5
    subst E1
    subst E2
    subst E3
    have d0 := fun w => turned_any (w := w) z0 z1 l0 l1 T1
    have d1 := fun w => turned_any (w := w) z2 z3 l2 l3 T2
    have d2 := fun w => turned_any (w := w) z4 z5 l4 l5 T3
    clear T1 T2 T3 l0 l1 l2 l3 l4 l5
    go_wp2_with fail
    refine (d0 _).mono ?_
    rintro e u0 ⟨rfl, rfl⟩
    go_wp2_with fail
    refine (d1 _).mono ?_
    rintro e u1 ⟨rfl, rfl⟩
    go_wp2_with fail
    refine (d2 _).mono ?_
    rintro e u2 ⟨rfl, rfl⟩
    go_wp2
    go_ret
    exact ⟨rfl, hF⟩
  · replace T1 := T1 3
    rw [t3] at T1
    replace T2 := T2 3
    rw [t3] at T2
    replace T3 := T3 3
    rw [t3] at T3
    clear t0 t1 t2 t3 t4
    go_upto_region 5 with fail
    have hA : Fwd w1 (w1.alloc (.cells #[.int .i64 0, .int .i64 1, .int .i64 3, .int .i64 2, .int .i64 4] 3)) := (Fwd.refl w1).alloc _
    generalize (w1.alloc (.cells #[.int .i64 0, .int .i64 1, .int .i64 3, .int .i64 2, .int .i64 4] 3)) = v at hA ⊢
    replace hR := hR.fwd hA
    replace hF := hF.trans hA
    clear hA
    have HT := hid (And.intro T1 (And.intro T2 T3))
    clear T1 T2 T3
    have c := addF_any hR 3 x y hx hy
    go_wp2_with fail
    refine c.mono ?_
    rintro e v0 ⟨rfl, hf⟩
    clear c
    replace hR := hR.fwd hf
    replace hF := hF.trans hf
    clear hf
    have c := addF_any hR 2 x' y' lx ly
    go_wp2_with fail
    refine c.mono ?_
    rintro e v1 ⟨rfl, hf⟩
    clear c
    replace hR := hR.fwd hf
    replace hF := hF.trans hf
    clear hf
    have c := mulF_any hR 3 x y hx hy
    go_wp2_with fail
    refine c.mono ?_
    rintro e v2 ⟨rfl, hf⟩
    clear c
    replace hR := hR.fwd hf
    replace hF := hF.trans hf
    clear hf
    have c := mulF_any hR 2 x' y lx hy
    go_wp2_with fail
    refine c.mono ?_
    rintro e v3 ⟨rfl, hf⟩
    clear c
    replace hR := hR.fwd hf
    replace hF := hF.trans hf
    clear hf
    have c := divG_any hR 3 x y hx hy
    go_wp2_with fail
    refine c.mono ?_
    rintro e v4 ⟨rfl, hf⟩
    clear c
    replace hR := hR.fwd hf
    replace hF := hF.trans hf
    clear hf
    have c := divG_any hR 2 x' y lx hy
    go_wp2_with fail
    refine c.mono ?_
    rintro e v5 ⟨rfl, hf⟩
    clear c
    replace hR := hR.fwd hf
    replace hF := hF.trans hf
    clear hf
    clear hR
    have l0 := addF_lt 3 x y
    have l1 := addF_lt 2 x' y'
    have l2 := mulF_lt 3 x y
    have l3 := mulF_lt 2 x' y
    have l4 := divG_lt 3 x y
    have l5 := divG_lt 2 x' y
    obtain ⟨⟨T1, E1⟩, ⟨T2, E2⟩, T3, E3⟩ := HT.out
    clear HT
    generalize addF 3 x y = Z0 at *
    obtain ⟨z0, q0⟩ := Z0
    generalize addF 2 x' y' = Z1 at *
    obtain ⟨z1, q1⟩ := Z1
    generalize mulF 3 x y = Z2 at *
    obtain ⟨z2, q2⟩ := Z2
    generalize mulF 2 x' y = Z3 at *
    obtain ⟨z3, q3⟩ := Z3
    generalize divG 3 x y = Z4 at *
    obtain ⟨z4, q4⟩ := Z4
    generalize divG 2 x' y = Z5 at *
    obtain ⟨z5, q5⟩ := Z5
    simp only at T1 T2 T3 E1 E2 E3 l0 l1 l2 l3 l4 l5
    subst E1
    subst E2
    subst E3
    have d0 := fun w => turned_any (w := w) z0 z1 l0 l1 T1
    have d1 := fun w => turned_any (w := w) z2 z3 l2 l3 T2
    have d2 := fun w => turned_any (w := w) z4 z5 l4 l5 T3
    clear T1 T2 T3 l0 l1 l2 l3 l4 l5
    go_wp2_with fail
    refine (d0 _).mono ?_
    rintro e u0 ⟨rfl, rfl⟩
    go_wp2_with fail
    refine (d1 _).mono ?_
    rintro e u1 ⟨rfl, rfl⟩
    go_wp2_with fail
    refine (d2 _).mono ?_
    rintro e u2 ⟨rfl, rfl⟩
    go_wp2
    go_ret
    exact ⟨rfl, hF⟩
  · replace T1 := T1 4
    rw [t4] at T1
    replace T2 := T2 4
    rw [t4] at T2
    replace T3 := T3 4
    rw [t4] at T3
    clear t0 t1 t2 t3 t4
    go_upto_region 5 with fail
    have hA : Fwd w1 (w1.alloc (.cells #[.int .i64 0, .int .i64 1, .int .i64 3, .int .i64 2, .int .i64 4] 3)) := (Fwd.refl w1).alloc _
    generalize (w1.alloc (.cells #[.int .i64 0, .int .i64 1, .int .i64 3, .int .i64 2, .int .i64 4] 3)) = v at hA ⊢
    replace hR := hR.fwd hA
    replace hF := hF.trans hA
    clear hA
    have HT := hid (And.intro T1 (And.intro T2 T3))
    clear T1 T2 T3
    have c := addF_any hR 4 x y hx hy
    go_wp2_with fail
    refine c.mono ?_
    rintro e v0 ⟨rfl, hf⟩
    clear c
    replace hR := hR.fwd hf
    replace hF := hF.trans hf
    clear hf
    have c := addF_any hR 4 x' y' lx ly
    go_wp2_with fail
    refine c.mono ?_
    rintro e v1 ⟨rfl, hf⟩
    clear c
    replace hR := hR.fwd hf
    replace hF := hF.trans hf
    clear hf
    have c := mulF_any hR 4 x y hx hy
    go_wp2_with fail
    refine c.mono ?_
    rintro e v2 ⟨rfl, hf⟩
    clear c
    replace hR := hR.fwd hf
    replace hF := hF.trans hf
    clear hf
    have c := mulF_any hR 4 x' y lx hy
    go_wp2_with fail
    refine c.mono ?_
    rintro e v3 ⟨rfl, hf⟩
    clear c
    replace hR := hR.fwd hf
    replace hF := hF.trans hf
    clear hf
    have c := divG_any hR 4 x y hx hy
    go_wp2_with fail
    refine c.mono ?_
    rintro e v4 ⟨rfl, hf⟩
    clear c
    replace hR := hR.fwd hf
    replace hF := hF.trans hf
    clear hf
    have c := divG_any hR 4 x' y lx hy
    go_wp2_with fail
    refine c.mono ?_
    rintro e v5 ⟨rfl, hf⟩
    clear c
    replace hR := hR.fwd hf
    replace hF := hF.trans hf
    clear hf
    clear hR
    have l0 := addF_lt 4 x y
    have l1 := addF_lt 4 x' y'
    have l2 := mulF_lt 4 x y
    have l3 := mulF_lt 4 x' y
    have l4 := divG_lt 4 x y
    have l5 := divG_lt 4 x' y
    obtain ⟨⟨T1, E1⟩, ⟨T2, E2⟩, T3, E3⟩ := HT.out
    clear HT
    generalize addF 4 x y = Z0 at *
    obtain ⟨z0, q0⟩ := Z0
    generalize addF 4 x' y' = Z1 at *
    obtain ⟨z1, q1⟩ := Z1
    generalize mulF 4 x y = Z2 at *
    obtain ⟨z2, q2⟩ := Z2
    generalize mulF 4 x' y = Z3 at *
    obtain ⟨z3, q3⟩ := Z3
    generalize divG 4 x y = Z4 at *
    obtain ⟨z4, q4⟩ := Z4
    generalize divG 4 x' y = Z5 at *
    obtain ⟨z5, q5⟩ := Z5
    simp only at T1 T2 T3 E1 E2 E3 l0 l1 l2 l3 l4 l5
    subst E1
    subst E2
    subst E3
    have d0 := fun w => turned_any (w := w) z0 z1 l0 l1 T1
    have d1 := fun w => turned_any (w := w) z2 z3 l2 l3 T2
    have d2 := fun w => turned_any (w := w) z4 z5 l4 l5 T3
    clear T1 T2 T3 l0 l1 l2 l3 l4 l5
    go_wp2_with fail
    refine (d0 _).mono ?_
    rintro e u0 ⟨rfl, rfl⟩
    go_wp2_with fail
    refine (d1 _).mono ?_
    rintro e u1 ⟨rfl, rfl⟩
    go_wp2_with fail
    refine (d2 _).mono ?_
    rintro e u2 ⟨rfl, rfl⟩
    go_wp2
    go_ret
    exact ⟨rfl, hF⟩
end Go.Proofs.YtbhehgodnfcdgaaDoor
