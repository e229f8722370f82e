/- FloatModes: by any mode a sum, a product, a quotient is one of those by Down and by Up; Cut is the one that is smaller in size: the law's walk. -/
import Derived.Test.YtbhehgodnfcdgaaDoorF23
import Derived.Test.YtbhehgodnfcdgaaDoorFB
import Derived.Test.YtbhehgodnfcdgaaDoorFN
import Derived.Test.YtbhehgodnfcdgaaDoorF17
import Derived.OpenShut
import Derived.Deep.CutBlock
import Derived.Deep.QuietTactic
import Derived.Deep.DeepCutAuto
namespace Go.Proofs.YtbhehgodnfcdgaaDoor
open Go.RowKit
set_option linter.unusedVariables false
set_option linter.unusedSimpArgs false

theorem divG_modes (f g : Nat) : ModesOk (fun m => (divG m f g).1) := divF_modes f g _

theorem divG_lt (m : Int) (f g : Nat) : (divG m f g).1 < 18446744073709551616 := divF_lt m f g _

/-- What five answers say of one another. -/
def Modes5 (z0 z1 z2 z3 z4 : Nat) : Prop :=
  (z0 = z2 ∨ z0 = z3) ∧ (z1 = z2 ∨ z1 = z3) ∧ (z4 = z2 ∨ z4 = z3) ∧ (z2 = z3 ∨ ((cmpF z2 z3).2 = true ∧ (cmpF z2 z3).1 ≤ 0 ∧ (z1 = (if 9223372036854775808 ≤ z2 then z3 else z2) ∨ (cmpF z2 z3).1 = 0)))
theorem modes5 {g : Int → Nat} (h : ModesOk g) : Modes5 (g 0) (g 1) (g 2) (g 3) (g 4) := ⟨h.1 0 (by omega), h.1 1 (by omega), h.1 4 (by omega), h.2⟩

theorem fwd_same {w w' : World} (h : w' = w) : Fwd w w' := h ▸ Fwd.refl _

set_option maxHeartbeats 4000000 in
/-- within of three: just which. -/
theorem within_three (w : World) (a : Int) (ha1 : -9223372036854775808 ≤ a) (ha2 : a ≤ 9223372036854775807) :
    Calls Tryd.prog 11 #[.int .i64 a, .int .i64 3] w fun e w' => e = .returned (.int .i64 (a % 3)) ∧ Fwd w w' := by
  by_cases h0 : 0 ≤ a
  · have h3 : a.tmod 3 = a % 3 := Int.tmod_eq_emod_of_nonneg h0
    have h2 : ¬ (a % 3 < 0) := by omega
    obtain ⟨t, ht⟩ : ∃ t, t = a % 3 := ⟨_, rfl⟩
    rw [← ht] at h2 h3 ⊢
    go_enter Tryd.func11, Tryd.ntmps11
    go_wp2
    go_ret
    exact ⟨ret_int (by omega), Fwd.refl w⟩
  · obtain ⟨b, hb, hb0⟩ : ∃ b : Int, a = -b ∧ 0 < b := ⟨-a, by omega, by omega⟩
    have h3 : a.tmod 3 = -(b % 3) := by rw [hb, Int.neg_tmod, Int.tmod_eq_emod_of_nonneg (by omega)]
    obtain ⟨t, ht⟩ : ∃ t, t = b % 3 := ⟨_, rfl⟩
    obtain ⟨u, hu⟩ : ∃ u, u = a % 3 := ⟨_, rfl⟩
    rw [← ht] at h3
    rw [← hu]
    by_cases ht0 : t = 0
    · have hu0 : u = 0 := by omega
      subst ht0
      subst hu0
      clear ht hu hb
      simp only [Int.neg_zero] at h3
      go_enter Tryd.func11, Tryd.ntmps11
      go_wp2
      go_ret
      exact ⟨rfl, Fwd.refl w⟩
    · have h4 : -t < 0 := by omega
      have h5 : IntKind.i64.wrap (-t + 3) = u := by simp [IntKind.wrap, IntKind.bits, IntKind.signed]; omega
      clear ht hu hb
      go_enter Tryd.func11, Tryd.ntmps11
      go_wp2
      go_ret
      exact ⟨rfl, Fwd.refl w⟩

set_option maxHeartbeats 16000000 in
set_option maxRecDepth 100000 in
theorem floatModes_walk {w : World} {a b n m which : Int} (hR : Ru w) (ha : (Lit.int .u64 a).wf = true) (hb : (Lit.int .u64 b).wf = true) (hn : (Lit.int .i64 n).wf = true) (hm : (Lit.int .i64 m).wf = true) (hk : (Lit.int .i64 which).wf = true) :
    Calls Tryd.prog 4 #[.int .u64 a, .int .u64 b, .int .i64 n, .int .i64 m, .int .i64 which] w fun e w' => e = .returned (.bool true) ∧ Below w.heap.size w w' := by
  obtain ⟨a1, a2⟩ := bounds_u64 ha
  obtain ⟨b1, b2⟩ := bounds_u64 hb
  obtain ⟨n1, n2⟩ := bounds_i64 hn
  obtain ⟨m1, m2⟩ := bounds_i64 hm
  obtain ⟨k1, k2⟩ := bounds_i64 hk
  obtain ⟨a, rfl⟩ : ∃ a' : Nat, a = (a' : Int) := ⟨a.toNat, by omega⟩
  obtain ⟨b, rfl⟩ : ∃ b' : Nat, b = (b' : Int) := ⟨b.toNat, by omega⟩
  clear ha hb hn hm hk
  have hF : Fwd w w := Fwd.refl w
  have hW := fun w => within_three w which k1 k2
  have hT : which % 3 = 0 ∨ which % 3 = 1 ∨ which % 3 = 2 := by omega
  clear k1 k2
  generalize which % 3 = κ at *
  go_enter Tryd.func4, Tryd.ntmps4
  go_wp2_with fail
  refine (known3_any hR).mono ?_
  rintro e w1 ⟨rfl, hf1⟩
  replace hF := hF.trans hf1
  clear hf1
  go_wp2_with fail
  refine (make3_any _ a n (by omega) n1 n2).mono ?_
  rintro e wq ⟨x, hx, rfl, rfl⟩
  go_wp2_with fail
  refine (make3_any _ b m (by omega) m1 m2).mono ?_
  rintro e wq ⟨y, hy, rfl, rfl⟩
  clear a1 a2 b1 b2 n1 n2 m1 m2
  go_upto_block 0 with fail
  have hsz : w.heap.size ≤ w1.heap.size := hF.size
  have kF : BlkV ((w1.alloc (.cells #[.int .u64 0, .int .u64 0, .int .u64 0, .int .u64 0, .int .u64 0] 31)).alloc (.cells #[.int .i64 0, .int .i64 0, .int .i64 0, .int .i64 0, .int .i64 0] 32)) (w1.heap.size) 31 [.int .u64 0, .int .u64 0, .int .u64 0, .int .u64 0, .int .u64 0] := (BlkV.made w1 31 [.int .u64 0, .int .u64 0, .int .u64 0, .int .u64 0, .int .u64 0]).alloc _
  have kG : BlkV ((w1.alloc (.cells #[.int .u64 0, .int .u64 0, .int .u64 0, .int .u64 0, .int .u64 0] 31)).alloc (.cells #[.int .i64 0, .int .i64 0, .int .i64 0, .int .i64 0, .int .i64 0] 32)) (w1.heap.size + 1) 32 [.int .i64 0, .int .i64 0, .int .i64 0, .int .i64 0, .int .i64 0] := BlkV.made' (w1.alloc (.cells #[.int .u64 0, .int .u64 0, .int .u64 0, .int .u64 0, .int .u64 0] 31)) (w1.heap.size + 1) (by simp) 32 [.int .i64 0, .int .i64 0, .int .i64 0, .int .i64 0, .int .i64 0]
  replace hF : Fwd w ((w1.alloc (.cells #[.int .u64 0, .int .u64 0, .int .u64 0, .int .u64 0, .int .u64 0] 31)).alloc (.cells #[.int .i64 0, .int .i64 0, .int .i64 0, .int .i64 0, .int .i64 0] 32)) := (hF.alloc _).alloc _
  generalize ((w1.alloc (.cells #[.int .u64 0, .int .u64 0, .int .u64 0, .int .u64 0, .int .u64 0] 31)).alloc (.cells #[.int .i64 0, .int .i64 0, .int .i64 0, .int .i64 0, .int .i64 0] 32)) = w2 at kF kG hF ⊢
  generalize w1.heap.size = gF at *
  go_cut [] (fun wx => ∃ z0 z1 z2 z3 z4 : Nat, Modes5 z0 z1 z2 z3 z4 ∧ z2 < 18446744073709551616 ∧ z3 < 18446744073709551616 ∧ BlkV wx gF 31 [.int .u64 z0, .int .u64 z1, .int .u64 z2, .int .u64 z3, .int .u64 z4] ∧ Fwd w wx)
  case first =>
    rcases hT with rfl | rfl | rfl
    · have HM := hid (modes5 (addF_modes x y))
      have L2 := addF_lt 2 x y
      have L3 := addF_lt 3 x y
      have c0 := fun (w' : World) (h : Fwd w w') => addF_any (hR.fwd h) 0 x y hx hy
      have c1 := fun (w' : World) (h : Fwd w w') => addF_any (hR.fwd h) 1 x y hx hy
      have c2 := fun (w' : World) (h : Fwd w w') => addF_any (hR.fwd h) 2 x y hx hy
      have c3 := fun (w' : World) (h : Fwd w w') => addF_any (hR.fwd h) 3 x y hx hy
      have c4 := fun (w' : World) (h : Fwd w w') => addF_any (hR.fwd h) 4 x y hx hy
      obtain ⟨Z0, hZ0⟩ : ∃ Z, Z = addF 0 x y := ⟨_, rfl⟩
      rw [← hZ0] at c0
      obtain ⟨Z1, hZ1⟩ : ∃ Z, Z = addF 1 x y := ⟨_, rfl⟩
      rw [← hZ1] at c1
      obtain ⟨Z2, hZ2⟩ : ∃ Z, Z = addF 2 x y := ⟨_, rfl⟩
      rw [← hZ2] at c2
      obtain ⟨Z3, hZ3⟩ : ∃ Z, Z = addF 3 x y := ⟨_, rfl⟩
      rw [← hZ3] at c3
      obtain ⟨Z4, hZ4⟩ : ∃ Z, Z = addF 4 x y := ⟨_, rfl⟩
      rw [← hZ4] at c4
      have HM' : Hid (Modes5 Z0.1 Z1.1 Z2.1 Z3.1 Z4.1 ∧ Z2.1 < 18446744073709551616 ∧ Z3.1 < 18446744073709551616) := hid ⟨by rw [hZ0, hZ1, hZ2, hZ3, hZ4]; exact HM.out, by rw [hZ2]; exact L2, by rw [hZ3]; exact L3⟩
      clear HM L2 L3 hZ0 hZ1 hZ2 hZ3 hZ4
      obtain ⟨z0, q0⟩ := Z0
      obtain ⟨z1, q1⟩ := Z1
      obtain ⟨z2, q2⟩ := Z2
      obtain ⟨z3, q3⟩ := Z3
      obtain ⟨z4, q4⟩ := Z4
      simp only at HM' c0 c1 c2 c3 c4
      clear hR
      have fc0 := BlkV.cell kF 0 rfl
      have fz0 := BlkV.frozen kF 0
      have fc1 := BlkV.cell kF 1 rfl
      have fz1 := BlkV.frozen kF 1
      have fc2 := BlkV.cell kF 2 rfl
      have fz2 := BlkV.frozen kF 2
      have fc3 := BlkV.cell kF 3 rfl
      have fz3 := BlkV.frozen kF 3
      have fc4 := BlkV.cell kF 4 rfl
      have fz4 := BlkV.frozen kF 4
      have gc0 := BlkV.cell kG 0 rfl
      have gz0 := BlkV.frozen kG 0
      have gc1 := BlkV.cell kG 1 rfl
      have gz1 := BlkV.frozen kG 1
      have gc2 := BlkV.cell kG 2 rfl
      have gz2 := BlkV.frozen kG 2
      have gc3 := BlkV.cell kG 3 rfl
      have gz3 := BlkV.frozen kG 3
      have gc4 := BlkV.cell kG 4 rfl
      have gz4 := BlkV.frozen kG 4
      go_wp2_with fail
      refine wp_loop_rounds 6 ?_
      rw [rounds_succ]
      go_wp2_with fail
      refine (hW _).mono ?_
      rintro e w1 ⟨rfl, hf1⟩
      replace kF := kF.fwd hf1
      replace kG := kG.fwd hf1
      replace hF := hF.trans hf1
      clear hf1
      clear fc0 fz0 fc1 fz1 fc2 fz2 fc3 fz3 fc4 fz4
      clear gc0 gz0 gc1 gz1 gc2 gz2 gc3 gz3 gc4 gz4
      have fc0 := BlkV.cell kF 0 rfl
      have fz0 := BlkV.frozen kF 0
      have fc1 := BlkV.cell kF 1 rfl
      have fz1 := BlkV.frozen kF 1
      have fc2 := BlkV.cell kF 2 rfl
      have fz2 := BlkV.frozen kF 2
      have fc3 := BlkV.cell kF 3 rfl
      have fz3 := BlkV.frozen kF 3
      have fc4 := BlkV.cell kF 4 rfl
      have fz4 := BlkV.frozen kF 4
      have gc0 := BlkV.cell kG 0 rfl
      have gz0 := BlkV.frozen kG 0
      have gc1 := BlkV.cell kG 1 rfl
      have gz1 := BlkV.frozen kG 1
      have gc2 := BlkV.cell kG 2 rfl
      have gz2 := BlkV.frozen kG 2
      have gc3 := BlkV.cell kG 3 rfl
      have gz3 := BlkV.frozen kG 3
      have gc4 := BlkV.cell kG 4 rfl
      have gz4 := BlkV.frozen kG 4
      go_wp2_with fail
      refine (c0 _ hF).mono ?_
      rintro e w2 ⟨rfl, hf2⟩
      clear c0
      replace kF := kF.fwd hf2
      replace kG := kG.fwd hf2
      replace hF := hF.trans hf2
      clear hf2
      clear fc0 fz0 fc1 fz1 fc2 fz2 fc3 fz3 fc4 fz4
      clear gc0 gz0 gc1 gz1 gc2 gz2 gc3 gz3 gc4 gz4
      have fc0 := BlkV.cell kF 0 rfl
      have fz0 := BlkV.frozen kF 0
      have fc1 := BlkV.cell kF 1 rfl
      have fz1 := BlkV.frozen kF 1
      have fc2 := BlkV.cell kF 2 rfl
      have fz2 := BlkV.frozen kF 2
      have fc3 := BlkV.cell kF 3 rfl
      have fz3 := BlkV.frozen kF 3
      have fc4 := BlkV.cell kF 4 rfl
      have fz4 := BlkV.frozen kF 4
      have gc0 := BlkV.cell kG 0 rfl
      have gz0 := BlkV.frozen kG 0
      have gc1 := BlkV.cell kG 1 rfl
      have gz1 := BlkV.frozen kG 1
      have gc2 := BlkV.cell kG 2 rfl
      have gz2 := BlkV.frozen kG 2
      have gc3 := BlkV.cell kG 3 rfl
      have gz3 := BlkV.frozen kG 3
      have gc4 := BlkV.cell kG 4 rfl
      have gz4 := BlkV.frozen kG 4
      go_wp2_with fail
      rw [rounds_succ]
      go_wp2_with fail
      have t5 := BlkV.set kF 0 (.int .u64 z0)
      have o5 := BlkV.on kF 0 (.int .u64 z0)
      replace kG := BlkV.only kG o5 (by omega)
      replace hF := hF.wrote o5 (by omega)
      have kF := t5
      clear o5
      have t7 := BlkV.set kG 0 (.int .i64 q0)
      have o7 := BlkV.on kG 0 (.int .i64 q0)
      replace kF := BlkV.only kF o7 (by omega)
      replace hF := hF.wrote o7 (by omega)
      have kG := t7
      clear o7
      refine (hW _).mono ?_
      rintro e w3 ⟨rfl, hf3⟩
      replace kF := kF.fwd hf3
      replace kG := kG.fwd hf3
      replace hF := hF.trans hf3
      clear hf3
      clear fc0 fz0 fc1 fz1 fc2 fz2 fc3 fz3 fc4 fz4
      clear gc0 gz0 gc1 gz1 gc2 gz2 gc3 gz3 gc4 gz4
      have fc0 := BlkV.cell kF 0 rfl
      have fz0 := BlkV.frozen kF 0
      have fc1 := BlkV.cell kF 1 rfl
      have fz1 := BlkV.frozen kF 1
      have fc2 := BlkV.cell kF 2 rfl
      have fz2 := BlkV.frozen kF 2
      have fc3 := BlkV.cell kF 3 rfl
      have fz3 := BlkV.frozen kF 3
      have fc4 := BlkV.cell kF 4 rfl
      have fz4 := BlkV.frozen kF 4
      have gc0 := BlkV.cell kG 0 rfl
      have gz0 := BlkV.frozen kG 0
      have gc1 := BlkV.cell kG 1 rfl
      have gz1 := BlkV.frozen kG 1
      have gc2 := BlkV.cell kG 2 rfl
      have gz2 := BlkV.frozen kG 2
      have gc3 := BlkV.cell kG 3 rfl
      have gz3 := BlkV.frozen kG 3
      have gc4 := BlkV.cell kG 4 rfl
      have gz4 := BlkV.frozen kG 4
      go_wp2_with fail
      refine (c1 _ hF).mono ?_
      rintro e w8 ⟨rfl, hf8⟩
      clear c1
      replace kF := kF.fwd hf8
      replace kG := kG.fwd hf8
      replace hF := hF.trans hf8
      clear hf8
      clear fc0 fz0 fc1 fz1 fc2 fz2 fc3 fz3 fc4 fz4
      clear gc0 gz0 gc1 gz1 gc2 gz2 gc3 gz3 gc4 gz4
      have fc0 := BlkV.cell kF 0 rfl
      have fz0 := BlkV.frozen kF 0
      have fc1 := BlkV.cell kF 1 rfl
      have fz1 := BlkV.frozen kF 1
      have fc2 := BlkV.cell kF 2 rfl
      have fz2 := BlkV.frozen kF 2
      have fc3 := BlkV.cell kF 3 rfl
      have fz3 := BlkV.frozen kF 3
      have fc4 := BlkV.cell kF 4 rfl
      have fz4 := BlkV.frozen kF 4
      have gc0 := BlkV.cell kG 0 rfl
      have gz0 := BlkV.frozen kG 0
      have gc1 := BlkV.cell kG 1 rfl
      have gz1 := BlkV.frozen kG 1
      have gc2 := BlkV.cell kG 2 rfl
      have gz2 := BlkV.frozen kG 2
      have gc3 := BlkV.cell kG 3 rfl
      have gz3 := BlkV.frozen kG 3
      have gc4 := BlkV.cell kG 4 rfl
      have gz4 := BlkV.frozen kG 4
      go_wp2_with fail
      rw [rounds_succ]
      go_wp2_with fail
      have t11 := BlkV.set kF 1 (.int .u64 z1)
      have o11 := BlkV.on kF 1 (.int .u64 z1)
      replace kG := BlkV.only kG o11 (by omega)
      replace hF := hF.wrote o11 (by omega)
      have kF := t11
      clear o11
      have t13 := BlkV.set kG 1 (.int .i64 q1)
      have o13 := BlkV.on kG 1 (.int .i64 q1)
      replace kF := BlkV.only kF o13 (by omega)
      replace hF := hF.wrote o13 (by omega)
      have kG := t13
      clear o13
      refine (hW _).mono ?_
      rintro e w9 ⟨rfl, hf9⟩
      replace kF := kF.fwd hf9
      replace kG := kG.fwd hf9
      replace hF := hF.trans hf9
      clear hf9
      clear fc0 fz0 fc1 fz1 fc2 fz2 fc3 fz3 fc4 fz4
      clear gc0 gz0 gc1 gz1 gc2 gz2 gc3 gz3 gc4 gz4
      have fc0 := BlkV.cell kF 0 rfl
      have fz0 := BlkV.frozen kF 0
      have fc1 := BlkV.cell kF 1 rfl
      have fz1 := BlkV.frozen kF 1
      have fc2 := BlkV.cell kF 2 rfl
      have fz2 := BlkV.frozen kF 2
      have fc3 := BlkV.cell kF 3 rfl
      have fz3 := BlkV.frozen kF 3
      have fc4 := BlkV.cell kF 4 rfl
      have fz4 := BlkV.frozen kF 4
      have gc0 := BlkV.cell kG 0 rfl
      have gz0 := BlkV.frozen kG 0
      have gc1 := BlkV.cell kG 1 rfl
      have gz1 := BlkV.frozen kG 1
      have gc2 := BlkV.cell kG 2 rfl
      have gz2 := BlkV.frozen kG 2
      have gc3 := BlkV.cell kG 3 rfl
      have gz3 := BlkV.frozen kG 3
      have gc4 := BlkV.cell kG 4 rfl
      have gz4 := BlkV.frozen kG 4
      go_wp2_with fail
      refine (c2 _ hF).mono ?_
      rintro e w14 ⟨rfl, hf14⟩
      clear c2
      replace kF := kF.fwd hf14
      replace kG := kG.fwd hf14
      replace hF := hF.trans hf14
      clear hf14
      clear fc0 fz0 fc1 fz1 fc2 fz2 fc3 fz3 fc4 fz4
      clear gc0 gz0 gc1 gz1 gc2 gz2 gc3 gz3 gc4 gz4
      have fc0 := BlkV.cell kF 0 rfl
      have fz0 := BlkV.frozen kF 0
      have fc1 := BlkV.cell kF 1 rfl
      have fz1 := BlkV.frozen kF 1
      have fc2 := BlkV.cell kF 2 rfl
      have fz2 := BlkV.frozen kF 2
      have fc3 := BlkV.cell kF 3 rfl
      have fz3 := BlkV.frozen kF 3
      have fc4 := BlkV.cell kF 4 rfl
      have fz4 := BlkV.frozen kF 4
      have gc0 := BlkV.cell kG 0 rfl
      have gz0 := BlkV.frozen kG 0
      have gc1 := BlkV.cell kG 1 rfl
      have gz1 := BlkV.frozen kG 1
      have gc2 := BlkV.cell kG 2 rfl
      have gz2 := BlkV.frozen kG 2
      have gc3 := BlkV.cell kG 3 rfl
      have gz3 := BlkV.frozen kG 3
      have gc4 := BlkV.cell kG 4 rfl
      have gz4 := BlkV.frozen kG 4
      go_wp2_with fail
      rw [rounds_succ]
      go_wp2_with fail
      have t17 := BlkV.set kF 2 (.int .u64 z2)
      have o17 := BlkV.on kF 2 (.int .u64 z2)
      replace kG := BlkV.only kG o17 (by omega)
      replace hF := hF.wrote o17 (by omega)
      have kF := t17
      clear o17
      have t19 := BlkV.set kG 2 (.int .i64 q2)
      have o19 := BlkV.on kG 2 (.int .i64 q2)
      replace kF := BlkV.only kF o19 (by omega)
      replace hF := hF.wrote o19 (by omega)
      have kG := t19
      clear o19
      refine (hW _).mono ?_
      rintro e w15 ⟨rfl, hf15⟩
      replace kF := kF.fwd hf15
      replace kG := kG.fwd hf15
      replace hF := hF.trans hf15
      clear hf15
      clear fc0 fz0 fc1 fz1 fc2 fz2 fc3 fz3 fc4 fz4
      clear gc0 gz0 gc1 gz1 gc2 gz2 gc3 gz3 gc4 gz4
      have fc0 := BlkV.cell kF 0 rfl
      have fz0 := BlkV.frozen kF 0
      have fc1 := BlkV.cell kF 1 rfl
      have fz1 := BlkV.frozen kF 1
      have fc2 := BlkV.cell kF 2 rfl
      have fz2 := BlkV.frozen kF 2
      have fc3 := BlkV.cell kF 3 rfl
      have fz3 := BlkV.frozen kF 3
      have fc4 := BlkV.cell kF 4 rfl
      have fz4 := BlkV.frozen kF 4
      have gc0 := BlkV.cell kG 0 rfl
      have gz0 := BlkV.frozen kG 0
      have gc1 := BlkV.cell kG 1 rfl
      have gz1 := BlkV.frozen kG 1
      have gc2 := BlkV.cell kG 2 rfl
      have gz2 := BlkV.frozen kG 2
      have gc3 := BlkV.cell kG 3 rfl
      have gz3 := BlkV.frozen kG 3
      have gc4 := BlkV.cell kG 4 rfl
      have gz4 := BlkV.frozen kG 4
      go_wp2_with fail
      refine (c3 _ hF).mono ?_
      rintro e w20 ⟨rfl, hf20⟩
      clear c3
      replace kF := kF.fwd hf20
      replace kG := kG.fwd hf20
      replace hF := hF.trans hf20
      clear hf20
      clear fc0 fz0 fc1 fz1 fc2 fz2 fc3 fz3 fc4 fz4
      clear gc0 gz0 gc1 gz1 gc2 gz2 gc3 gz3 gc4 gz4
      have fc0 := BlkV.cell kF 0 rfl
      have fz0 := BlkV.frozen kF 0
      have fc1 := BlkV.cell kF 1 rfl
      have fz1 := BlkV.frozen kF 1
      have fc2 := BlkV.cell kF 2 rfl
      have fz2 := BlkV.frozen kF 2
      have fc3 := BlkV.cell kF 3 rfl
      have fz3 := BlkV.frozen kF 3
      have fc4 := BlkV.cell kF 4 rfl
      have fz4 := BlkV.frozen kF 4
      have gc0 := BlkV.cell kG 0 rfl
      have gz0 := BlkV.frozen kG 0
      have gc1 := BlkV.cell kG 1 rfl
      have gz1 := BlkV.frozen kG 1
      have gc2 := BlkV.cell kG 2 rfl
      have gz2 := BlkV.frozen kG 2
      have gc3 := BlkV.cell kG 3 rfl
      have gz3 := BlkV.frozen kG 3
      have gc4 := BlkV.cell kG 4 rfl
      have gz4 := BlkV.frozen kG 4
      go_wp2_with fail
      rw [rounds_succ]
      go_wp2_with fail
      have t23 := BlkV.set kF 3 (.int .u64 z3)
      have o23 := BlkV.on kF 3 (.int .u64 z3)
      replace kG := BlkV.only kG o23 (by omega)
      replace hF := hF.wrote o23 (by omega)
      have kF := t23
      clear o23
      have t25 := BlkV.set kG 3 (.int .i64 q3)
      have o25 := BlkV.on kG 3 (.int .i64 q3)
      replace kF := BlkV.only kF o25 (by omega)
      replace hF := hF.wrote o25 (by omega)
      have kG := t25
      clear o25
      refine (hW _).mono ?_
      rintro e w21 ⟨rfl, hf21⟩
      replace kF := kF.fwd hf21
      replace kG := kG.fwd hf21
      replace hF := hF.trans hf21
      clear hf21
      clear fc0 fz0 fc1 fz1 fc2 fz2 fc3 fz3 fc4 fz4
      clear gc0 gz0 gc1 gz1 gc2 gz2 gc3 gz3 gc4 gz4
      have fc0 := BlkV.cell kF 0 rfl
      have fz0 := BlkV.frozen kF 0
      have fc1 := BlkV.cell kF 1 rfl
      have fz1 := BlkV.frozen kF 1
      have fc2 := BlkV.cell kF 2 rfl
      have fz2 := BlkV.frozen kF 2
      have fc3 := BlkV.cell kF 3 rfl
      have fz3 := BlkV.frozen kF 3
      have fc4 := BlkV.cell kF 4 rfl
      have fz4 := BlkV.frozen kF 4
      have gc0 := BlkV.cell kG 0 rfl
      have gz0 := BlkV.frozen kG 0
      have gc1 := BlkV.cell kG 1 rfl
      have gz1 := BlkV.frozen kG 1
      have gc2 := BlkV.cell kG 2 rfl
      have gz2 := BlkV.frozen kG 2
      have gc3 := BlkV.cell kG 3 rfl
      have gz3 := BlkV.frozen kG 3
      have gc4 := BlkV.cell kG 4 rfl
      have gz4 := BlkV.frozen kG 4
      go_wp2_with fail
      refine (c4 _ hF).mono ?_
      rintro e w26 ⟨rfl, hf26⟩
      clear c4
      replace kF := kF.fwd hf26
      replace kG := kG.fwd hf26
      replace hF := hF.trans hf26
      clear hf26
      clear fc0 fz0 fc1 fz1 fc2 fz2 fc3 fz3 fc4 fz4
      clear gc0 gz0 gc1 gz1 gc2 gz2 gc3 gz3 gc4 gz4
      have fc0 := BlkV.cell kF 0 rfl
      have fz0 := BlkV.frozen kF 0
      have fc1 := BlkV.cell kF 1 rfl
      have fz1 := BlkV.frozen kF 1
      have fc2 := BlkV.cell kF 2 rfl
      have fz2 := BlkV.frozen kF 2
      have fc3 := BlkV.cell kF 3 rfl
      have fz3 := BlkV.frozen kF 3
      have fc4 := BlkV.cell kF 4 rfl
      have fz4 := BlkV.frozen kF 4
      have gc0 := BlkV.cell kG 0 rfl
      have gz0 := BlkV.frozen kG 0
      have gc1 := BlkV.cell kG 1 rfl
      have gz1 := BlkV.frozen kG 1
      have gc2 := BlkV.cell kG 2 rfl
      have gz2 := BlkV.frozen kG 2
      have gc3 := BlkV.cell kG 3 rfl
      have gz3 := BlkV.frozen kG 3
      have gc4 := BlkV.cell kG 4 rfl
      have gz4 := BlkV.frozen kG 4
      go_wp2_with fail
      rw [rounds_succ]
      go_wp2_with fail
      have t28 := BlkV.set kF 4 (.int .u64 z4)
      have o28 := BlkV.on kF 4 (.int .u64 z4)
      replace kG := BlkV.only kG o28 (by omega)
      replace hF := hF.wrote o28 (by omega)
      have kF := t28
      clear o28
      have t30 := BlkV.set kG 4 (.int .i64 q4)
      have o30 := BlkV.on kG 4 (.int .i64 q4)
      replace kF := BlkV.only kF o30 (by omega)
      replace hF := hF.wrote o30 (by omega)
      have kG := t30
      clear o30
      go_meet
      exact ⟨z0, z1, z2, z3, z4, HM'.out.1, HM'.out.2.1, HM'.out.2.2, kF, hF⟩
    · have HM := hid (modes5 (mulF_modes x y))
      have L2 := mulF_lt 2 x y
      have L3 := mulF_lt 3 x y
      have c0 := fun (w' : World) (h : Fwd w w') => mulF_any (hR.fwd h) 0 x y hx hy
      have c1 := fun (w' : World) (h : Fwd w w') => mulF_any (hR.fwd h) 1 x y hx hy
      have c2 := fun (w' : World) (h : Fwd w w') => mulF_any (hR.fwd h) 2 x y hx hy
      have c3 := fun (w' : World) (h : Fwd w w') => mulF_any (hR.fwd h) 3 x y hx hy
      have c4 := fun (w' : World) (h : Fwd w w') => mulF_any (hR.fwd h) 4 x y hx hy
      obtain ⟨Z0, hZ0⟩ : ∃ Z, Z = mulF 0 x y := ⟨_, rfl⟩
      rw [← hZ0] at c0
      obtain ⟨Z1, hZ1⟩ : ∃ Z, Z = mulF 1 x y := ⟨_, rfl⟩
      rw [← hZ1] at c1
      obtain ⟨Z2, hZ2⟩ : ∃ Z, Z = mulF 2 x y := ⟨_, rfl⟩
      rw [← hZ2] at c2
      obtain ⟨Z3, hZ3⟩ : ∃ Z, Z = mulF 3 x y := ⟨_, rfl⟩
      rw [← hZ3] at c3
      obtain ⟨Z4, hZ4⟩ : ∃ Z, Z = mulF 4 x y := ⟨_, rfl⟩
      rw [← hZ4] at c4
      have HM' : Hid (Modes5 Z0.1 Z1.1 Z2.1 Z3.1 Z4.1 ∧ Z2.1 < 18446744073709551616 ∧ Z3.1 < 18446744073709551616) := hid ⟨by rw [hZ0, hZ1, hZ2, hZ3, hZ4]; exact HM.out, by rw [hZ2]; exact L2, by rw [hZ3]; exact L3⟩
      clear HM L2 L3 hZ0 hZ1 hZ2 hZ3 hZ4
      obtain ⟨z0, q0⟩ := Z0
      obtain ⟨z1, q1⟩ := Z1
      obtain ⟨z2, q2⟩ := Z2
      obtain ⟨z3, q3⟩ := Z3
      obtain ⟨z4, q4⟩ := Z4
      simp only at HM' c0 c1 c2 c3 c4
      clear hR
      have fc0 := BlkV.cell kF 0 rfl
      have fz0 := BlkV.frozen kF 0
      have fc1 := BlkV.cell kF 1 rfl
      have fz1 := BlkV.frozen kF 1
      have fc2 := BlkV.cell kF 2 rfl
      have fz2 := BlkV.frozen kF 2
      have fc3 := BlkV.cell kF 3 rfl
      have fz3 := BlkV.frozen kF 3
      have fc4 := BlkV.cell kF 4 rfl
      have fz4 := BlkV.frozen kF 4
      have gc0 := BlkV.cell kG 0 rfl
      have gz0 := BlkV.frozen kG 0
      have gc1 := BlkV.cell kG 1 rfl
      have gz1 := BlkV.frozen kG 1
      have gc2 := BlkV.cell kG 2 rfl
      have gz2 := BlkV.frozen kG 2
      have gc3 := BlkV.cell kG 3 rfl
      have gz3 := BlkV.frozen kG 3
      have gc4 := BlkV.cell kG 4 rfl
      have gz4 := BlkV.frozen kG 4
      go_wp2_with fail
      refine wp_loop_rounds 6 ?_
      rw [rounds_succ]
      go_wp2_with fail
      refine (hW _).mono ?_
      rintro e w1 ⟨rfl, hf1⟩
      replace kF := kF.fwd hf1
      replace kG := kG.fwd hf1
      replace hF := hF.trans hf1
      clear hf1
      clear fc0 fz0 fc1 fz1 fc2 fz2 fc3 fz3 fc4 fz4
      clear gc0 gz0 gc1 gz1 gc2 gz2 gc3 gz3 gc4 gz4
      have fc0 := BlkV.cell kF 0 rfl
      have fz0 := BlkV.frozen kF 0
      have fc1 := BlkV.cell kF 1 rfl
      have fz1 := BlkV.frozen kF 1
      have fc2 := BlkV.cell kF 2 rfl
      have fz2 := BlkV.frozen kF 2
      have fc3 := BlkV.cell kF 3 rfl
      have fz3 := BlkV.frozen kF 3
      have fc4 := BlkV.cell kF 4 rfl
      have fz4 := BlkV.frozen kF 4
      have gc0 := BlkV.cell kG 0 rfl
      have gz0 := BlkV.frozen kG 0
      have gc1 := BlkV.cell kG 1 rfl
      have gz1 := BlkV.frozen kG 1
      have gc2 := BlkV.cell kG 2 rfl
      have gz2 := BlkV.frozen kG 2
      have gc3 := BlkV.cell kG 3 rfl
      have gz3 := BlkV.frozen kG 3
      have gc4 := BlkV.cell kG 4 rfl
      have gz4 := BlkV.frozen kG 4
      go_wp2_with fail
      refine (c0 _ hF).mono ?_
      rintro e w2 ⟨rfl, hf2⟩
      clear c0
      replace kF := kF.fwd hf2
      replace kG := kG.fwd hf2
      replace hF := hF.trans hf2
      clear hf2
      clear fc0 fz0 fc1 fz1 fc2 fz2 fc3 fz3 fc4 fz4
      clear gc0 gz0 gc1 gz1 gc2 gz2 gc3 gz3 gc4 gz4
      have fc0 := BlkV.cell kF 0 rfl
      have fz0 := BlkV.frozen kF 0
      have fc1 := BlkV.cell kF 1 rfl
      have fz1 := BlkV.frozen kF 1
      have fc2 := BlkV.cell kF 2 rfl
      have fz2 := BlkV.frozen kF 2
      have fc3 := BlkV.cell kF 3 rfl
      have fz3 := BlkV.frozen kF 3
      have fc4 := BlkV.cell kF 4 rfl
      have fz4 := BlkV.frozen kF 4
      have gc0 := BlkV.cell kG 0 rfl
      have gz0 := BlkV.frozen kG 0
      have gc1 := BlkV.cell kG 1 rfl
      have gz1 := BlkV.frozen kG 1
      have gc2 := BlkV.cell kG 2 rfl
      have gz2 := BlkV.frozen kG 2
      have gc3 := BlkV.cell kG 3 rfl
      have gz3 := BlkV.frozen kG 3
      have gc4 := BlkV.cell kG 4 rfl
      have gz4 := BlkV.frozen kG 4
      go_wp2_with fail
      rw [rounds_succ]
      go_wp2_with fail
      have t5 := BlkV.set kF 0 (.int .u64 z0)
      have o5 := BlkV.on kF 0 (.int .u64 z0)
      replace kG := BlkV.only kG o5 (by omega)
      replace hF := hF.wrote o5 (by omega)
      have kF := t5
      clear o5
      have t7 := BlkV.set kG 0 (.int .i64 q0)
      have o7 := BlkV.on kG 0 (.int .i64 q0)
      replace kF := BlkV.only kF o7 (by omega)
      replace hF := hF.wrote o7 (by omega)
      have kG := t7
      clear o7
      refine (hW _).mono ?_
      rintro e w3 ⟨rfl, hf3⟩
      replace kF := kF.fwd hf3
      replace kG := kG.fwd hf3
      replace hF := hF.trans hf3
      clear hf3
      clear fc0 fz0 fc1 fz1 fc2 fz2 fc3 fz3 fc4 fz4
      clear gc0 gz0 gc1 gz1 gc2 gz2 gc3 gz3 gc4 gz4
      have fc0 := BlkV.cell kF 0 rfl
      have fz0 := BlkV.frozen kF 0
      have fc1 := BlkV.cell kF 1 rfl
      have fz1 := BlkV.frozen kF 1
      have fc2 := BlkV.cell kF 2 rfl
      have fz2 := BlkV.frozen kF 2
      have fc3 := BlkV.cell kF 3 rfl
      have fz3 := BlkV.frozen kF 3
      have fc4 := BlkV.cell kF 4 rfl
      have fz4 := BlkV.frozen kF 4
      have gc0 := BlkV.cell kG 0 rfl
      have gz0 := BlkV.frozen kG 0
      have gc1 := BlkV.cell kG 1 rfl
      have gz1 := BlkV.frozen kG 1
      have gc2 := BlkV.cell kG 2 rfl
      have gz2 := BlkV.frozen kG 2
      have gc3 := BlkV.cell kG 3 rfl
      have gz3 := BlkV.frozen kG 3
      have gc4 := BlkV.cell kG 4 rfl
      have gz4 := BlkV.frozen kG 4
      go_wp2_with fail
      refine (c1 _ hF).mono ?_
      rintro e w8 ⟨rfl, hf8⟩
      clear c1
      replace kF := kF.fwd hf8
      replace kG := kG.fwd hf8
      replace hF := hF.trans hf8
      clear hf8
      clear fc0 fz0 fc1 fz1 fc2 fz2 fc3 fz3 fc4 fz4
      clear gc0 gz0 gc1 gz1 gc2 gz2 gc3 gz3 gc4 gz4
      have fc0 := BlkV.cell kF 0 rfl
      have fz0 := BlkV.frozen kF 0
      have fc1 := BlkV.cell kF 1 rfl
      have fz1 := BlkV.frozen kF 1
      have fc2 := BlkV.cell kF 2 rfl
      have fz2 := BlkV.frozen kF 2
      have fc3 := BlkV.cell kF 3 rfl
      have fz3 := BlkV.frozen kF 3
      have fc4 := BlkV.cell kF 4 rfl
      have fz4 := BlkV.frozen kF 4
      have gc0 := BlkV.cell kG 0 rfl
      have gz0 := BlkV.frozen kG 0
      have gc1 := BlkV.cell kG 1 rfl
      have gz1 := BlkV.frozen kG 1
      have gc2 := BlkV.cell kG 2 rfl
      have gz2 := BlkV.frozen kG 2
      have gc3 := BlkV.cell kG 3 rfl
      have gz3 := BlkV.frozen kG 3
      have gc4 := BlkV.cell kG 4 rfl
      have gz4 := BlkV.frozen kG 4
      go_wp2_with fail
      rw [rounds_succ]
      go_wp2_with fail
      have t11 := BlkV.set kF 1 (.int .u64 z1)
      have o11 := BlkV.on kF 1 (.int .u64 z1)
      replace kG := BlkV.only kG o11 (by omega)
      replace hF := hF.wrote o11 (by omega)
      have kF := t11
      clear o11
      have t13 := BlkV.set kG 1 (.int .i64 q1)
      have o13 := BlkV.on kG 1 (.int .i64 q1)
      replace kF := BlkV.only kF o13 (by omega)
      replace hF := hF.wrote o13 (by omega)
      have kG := t13
      clear o13
      refine (hW _).mono ?_
      rintro e w9 ⟨rfl, hf9⟩
      replace kF := kF.fwd hf9
      replace kG := kG.fwd hf9
      replace hF := hF.trans hf9
      clear hf9
      clear fc0 fz0 fc1 fz1 fc2 fz2 fc3 fz3 fc4 fz4
      clear gc0 gz0 gc1 gz1 gc2 gz2 gc3 gz3 gc4 gz4
      have fc0 := BlkV.cell kF 0 rfl
      have fz0 := BlkV.frozen kF 0
      have fc1 := BlkV.cell kF 1 rfl
      have fz1 := BlkV.frozen kF 1
      have fc2 := BlkV.cell kF 2 rfl
      have fz2 := BlkV.frozen kF 2
      have fc3 := BlkV.cell kF 3 rfl
      have fz3 := BlkV.frozen kF 3
      have fc4 := BlkV.cell kF 4 rfl
      have fz4 := BlkV.frozen kF 4
      have gc0 := BlkV.cell kG 0 rfl
      have gz0 := BlkV.frozen kG 0
      have gc1 := BlkV.cell kG 1 rfl
      have gz1 := BlkV.frozen kG 1
      have gc2 := BlkV.cell kG 2 rfl
      have gz2 := BlkV.frozen kG 2
      have gc3 := BlkV.cell kG 3 rfl
      have gz3 := BlkV.frozen kG 3
      have gc4 := BlkV.cell kG 4 rfl
      have gz4 := BlkV.frozen kG 4
      go_wp2_with fail
      refine (c2 _ hF).mono ?_
      rintro e w14 ⟨rfl, hf14⟩
      clear c2
      replace kF := kF.fwd hf14
      replace kG := kG.fwd hf14
      replace hF := hF.trans hf14
      clear hf14
      clear fc0 fz0 fc1 fz1 fc2 fz2 fc3 fz3 fc4 fz4
      clear gc0 gz0 gc1 gz1 gc2 gz2 gc3 gz3 gc4 gz4
      have fc0 := BlkV.cell kF 0 rfl
      have fz0 := BlkV.frozen kF 0
      have fc1 := BlkV.cell kF 1 rfl
      have fz1 := BlkV.frozen kF 1
      have fc2 := BlkV.cell kF 2 rfl
      have fz2 := BlkV.frozen kF 2
      have fc3 := BlkV.cell kF 3 rfl
      have fz3 := BlkV.frozen kF 3
      have fc4 := BlkV.cell kF 4 rfl
      have fz4 := BlkV.frozen kF 4
      have gc0 := BlkV.cell kG 0 rfl
      have gz0 := BlkV.frozen kG 0
      have gc1 := BlkV.cell kG 1 rfl
      have gz1 := BlkV.frozen kG 1
      have gc2 := BlkV.cell kG 2 rfl
      have gz2 := BlkV.frozen kG 2
      have gc3 := BlkV.cell kG 3 rfl
      have gz3 := BlkV.frozen kG 3
      have gc4 := BlkV.cell kG 4 rfl
      have gz4 := BlkV.frozen kG 4
      go_wp2_with fail
      rw [rounds_succ]
      go_wp2_with fail
      have t17 := BlkV.set kF 2 (.int .u64 z2)
      have o17 := BlkV.on kF 2 (.int .u64 z2)
      replace kG := BlkV.only kG o17 (by omega)
      replace hF := hF.wrote o17 (by omega)
      have kF := t17
      clear o17
      have t19 := BlkV.set kG 2 (.int .i64 q2)
      have o19 := BlkV.on kG 2 (.int .i64 q2)
      replace kF := BlkV.only kF o19 (by omega)
      replace hF := hF.wrote o19 (by omega)
      have kG := t19
      clear o19
      refine (hW _).mono ?_
      rintro e w15 ⟨rfl, hf15⟩
      replace kF := kF.fwd hf15
      replace kG := kG.fwd hf15
      replace hF := hF.trans hf15
      clear hf15
      clear fc0 fz0 fc1 fz1 fc2 fz2 fc3 fz3 fc4 fz4
      clear gc0 gz0 gc1 gz1 gc2 gz2 gc3 gz3 gc4 gz4
      have fc0 := BlkV.cell kF 0 rfl
      have fz0 := BlkV.frozen kF 0
      have fc1 := BlkV.cell kF 1 rfl
      have fz1 := BlkV.frozen kF 1
      have fc2 := BlkV.cell kF 2 rfl
      have fz2 := BlkV.frozen kF 2
      have fc3 := BlkV.cell kF 3 rfl
      have fz3 := BlkV.frozen kF 3
      have fc4 := BlkV.cell kF 4 rfl
      have fz4 := BlkV.frozen kF 4
      have gc0 := BlkV.cell kG 0 rfl
      have gz0 := BlkV.frozen kG 0
      have gc1 := BlkV.cell kG 1 rfl
      have gz1 := BlkV.frozen kG 1
      have gc2 := BlkV.cell kG 2 rfl
      have gz2 := BlkV.frozen kG 2
      have gc3 := BlkV.cell kG 3 rfl
      have gz3 := BlkV.frozen kG 3
      have gc4 := BlkV.cell kG 4 rfl
      have gz4 := BlkV.frozen kG 4
      go_wp2_with fail
      refine (c3 _ hF).mono ?_
      rintro e w20 ⟨rfl, hf20⟩
      clear c3
      replace kF := kF.fwd hf20
      replace kG := kG.fwd hf20
      replace hF := hF.trans hf20
      clear hf20
      clear fc0 fz0 fc1 fz1 fc2 fz2 fc3 fz3 fc4 fz4
      clear gc0 gz0 gc1 gz1 gc2 gz2 gc3 gz3 gc4 gz4
      have fc0 := BlkV.cell kF 0 rfl
      have fz0 := BlkV.frozen kF 0
      have fc1 := BlkV.cell kF 1 rfl
      have fz1 := BlkV.frozen kF 1
      have fc2 := BlkV.cell kF 2 rfl
      have fz2 := BlkV.frozen kF 2
      have fc3 := BlkV.cell kF 3 rfl
      have fz3 := BlkV.frozen kF 3
      have fc4 := BlkV.cell kF 4 rfl
      have fz4 := BlkV.frozen kF 4
      have gc0 := BlkV.cell kG 0 rfl
      have gz0 := BlkV.frozen kG 0
      have gc1 := BlkV.cell kG 1 rfl
      have gz1 := BlkV.frozen kG 1
      have gc2 := BlkV.cell kG 2 rfl
      have gz2 := BlkV.frozen kG 2
      have gc3 := BlkV.cell kG 3 rfl
      have gz3 := BlkV.frozen kG 3
      have gc4 := BlkV.cell kG 4 rfl
      have gz4 := BlkV.frozen kG 4
      go_wp2_with fail
      rw [rounds_succ]
      go_wp2_with fail
      have t23 := BlkV.set kF 3 (.int .u64 z3)
      have o23 := BlkV.on kF 3 (.int .u64 z3)
      replace kG := BlkV.only kG o23 (by omega)
      replace hF := hF.wrote o23 (by omega)
      have kF := t23
      clear o23
      have t25 := BlkV.set kG 3 (.int .i64 q3)
      have o25 := BlkV.on kG 3 (.int .i64 q3)
      replace kF := BlkV.only kF o25 (by omega)
      replace hF := hF.wrote o25 (by omega)
      have kG := t25
      clear o25
      refine (hW _).mono ?_
      rintro e w21 ⟨rfl, hf21⟩
      replace kF := kF.fwd hf21
      replace kG := kG.fwd hf21
      replace hF := hF.trans hf21
      clear hf21
      clear fc0 fz0 fc1 fz1 fc2 fz2 fc3 fz3 fc4 fz4
      clear gc0 gz0 gc1 gz1 gc2 gz2 gc3 gz3 gc4 gz4
      have fc0 := BlkV.cell kF 0 rfl
      have fz0 := BlkV.frozen kF 0
      have fc1 := BlkV.cell kF 1 rfl
      have fz1 := BlkV.frozen kF 1
      have fc2 := BlkV.cell kF 2 rfl
      have fz2 := BlkV.frozen kF 2
      have fc3 := BlkV.cell kF 3 rfl
      have fz3 := BlkV.frozen kF 3
      have fc4 := BlkV.cell kF 4 rfl
      have fz4 := BlkV.frozen kF 4
      have gc0 := BlkV.cell kG 0 rfl
      have gz0 := BlkV.frozen kG 0
      have gc1 := BlkV.cell kG 1 rfl
      have gz1 := BlkV.frozen kG 1
      have gc2 := BlkV.cell kG 2 rfl
      have gz2 := BlkV.frozen kG 2
      have gc3 := BlkV.cell kG 3 rfl
      have gz3 := BlkV.frozen kG 3
      have gc4 := BlkV.cell kG 4 rfl
      have gz4 := BlkV.frozen kG 4
      go_wp2_with fail
      refine (c4 _ hF).mono ?_
      rintro e w26 ⟨rfl, hf26⟩
      clear c4
      replace kF := kF.fwd hf26
      replace kG := kG.fwd hf26
      replace hF := hF.trans hf26
      clear hf26
      clear fc0 fz0 fc1 fz1 fc2 fz2 fc3 fz3 fc4 fz4
      clear gc0 gz0 gc1 gz1 gc2 gz2 gc3 gz3 gc4 gz4
      have fc0 := BlkV.cell kF 0 rfl
      have fz0 := BlkV.frozen kF 0
      have fc1 := BlkV.cell kF 1 rfl
      have fz1 := BlkV.frozen kF 1
      have fc2 := BlkV.cell kF 2 rfl
      have fz2 := BlkV.frozen kF 2
      have fc3 := BlkV.cell kF 3 rfl
      have fz3 := BlkV.frozen kF 3
      have fc4 := BlkV.cell kF 4 rfl
      have fz4 := BlkV.frozen kF 4
      have gc0 := BlkV.cell kG 0 rfl
      have gz0 := BlkV.frozen kG 0
      have gc1 := BlkV.cell kG 1 rfl
      have gz1 := BlkV.frozen kG 1
      have gc2 := BlkV.cell kG 2 rfl
      have gz2 := BlkV.frozen kG 2
      have gc3 := BlkV.cell kG 3 rfl
      have gz3 := BlkV.frozen kG 3
      have gc4 := BlkV.cell kG 4 rfl
      have gz4 := BlkV.frozen kG 4
      go_wp2_with fail
      rw [rounds_succ]
      go_wp2_with fail
      have t28 := BlkV.set kF 4 (.int .u64 z4)
      have o28 := BlkV.on kF 4 (.int .u64 z4)
      replace kG := BlkV.only kG o28 (by omega)
      replace hF := hF.wrote o28 (by omega)
      have kF := t28
      clear o28
      have t30 := BlkV.set kG 4 (.int .i64 q4)
      have o30 := BlkV.on kG 4 (.int .i64 q4)
      replace kF := BlkV.only kF o30 (by omega)
      replace hF := hF.wrote o30 (by omega)
      have kG := t30
      clear o30
      go_meet
      exact ⟨z0, z1, z2, z3, z4, HM'.out.1, HM'.out.2.1, HM'.out.2.2, kF, hF⟩
    · have HM := hid (modes5 (divG_modes x y))
      have L2 := divG_lt 2 x y
      have L3 := divG_lt 3 x y
      have c0 := fun (w' : World) (h : Fwd w w') => divG_any (hR.fwd h) 0 x y hx hy
      have c1 := fun (w' : World) (h : Fwd w w') => divG_any (hR.fwd h) 1 x y hx hy
      have c2 := fun (w' : World) (h : Fwd w w') => divG_any (hR.fwd h) 2 x y hx hy
      have c3 := fun (w' : World) (h : Fwd w w') => divG_any (hR.fwd h) 3 x y hx hy
      have c4 := fun (w' : World) (h : Fwd w w') => divG_any (hR.fwd h) 4 x y hx hy
      obtain ⟨Z0, hZ0⟩ : ∃ Z, Z = divG 0 x y := ⟨_, rfl⟩
      rw [← hZ0] at c0
      obtain ⟨Z1, hZ1⟩ : ∃ Z, Z = divG 1 x y := ⟨_, rfl⟩
      rw [← hZ1] at c1
      obtain ⟨Z2, hZ2⟩ : ∃ Z, Z = divG 2 x y := ⟨_, rfl⟩
      rw [← hZ2] at c2
      obtain ⟨Z3, hZ3⟩ : ∃ Z, Z = divG 3 x y := ⟨_, rfl⟩
      rw [← hZ3] at c3
      obtain ⟨Z4, hZ4⟩ : ∃ Z, Z = divG 4 x y := ⟨_, rfl⟩
      rw [← hZ4] at c4
      have HM' : Hid (Modes5 Z0.1 Z1.1 Z2.1 Z3.1 Z4.1 ∧ Z2.1 < 18446744073709551616 ∧ Z3.1 < 18446744073709551616) := hid ⟨by rw [hZ0, hZ1, hZ2, hZ3, hZ4]; exact HM.out, by rw [hZ2]; exact L2, by rw [hZ3]; exact L3⟩
      clear HM L2 L3 hZ0 hZ1 hZ2 hZ3 hZ4
      obtain ⟨z0, q0⟩ := Z0
      obtain ⟨z1, q1⟩ := Z1
      obtain ⟨z2, q2⟩ := Z2
      obtain ⟨z3, q3⟩ := Z3
      obtain ⟨z4, q4⟩ := Z4
      simp only at HM' c0 c1 c2 c3 c4
      clear hR
      have fc0 := BlkV.cell kF 0 rfl
      have fz0 := BlkV.frozen kF 0
      have fc1 := BlkV.cell kF 1 rfl
      have fz1 := BlkV.frozen kF 1
      have fc2 := BlkV.cell kF 2 rfl
      have fz2 := BlkV.frozen kF 2
      have fc3 := BlkV.cell kF 3 rfl
      have fz3 := BlkV.frozen kF 3
      have fc4 := BlkV.cell kF 4 rfl
      have fz4 := BlkV.frozen kF 4
      have gc0 := BlkV.cell kG 0 rfl
      have gz0 := BlkV.frozen kG 0
      have gc1 := BlkV.cell kG 1 rfl
      have gz1 := BlkV.frozen kG 1
      have gc2 := BlkV.cell kG 2 rfl
      have gz2 := BlkV.frozen kG 2
      have gc3 := BlkV.cell kG 3 rfl
      have gz3 := BlkV.frozen kG 3
      have gc4 := BlkV.cell kG 4 rfl
      have gz4 := BlkV.frozen kG 4
      go_wp2_with fail
      refine wp_loop_rounds 6 ?_
      rw [rounds_succ]
      go_wp2_with fail
      refine (hW _).mono ?_
      rintro e w1 ⟨rfl, hf1⟩
      replace kF := kF.fwd hf1
      replace kG := kG.fwd hf1
      replace hF := hF.trans hf1
      clear hf1
      clear fc0 fz0 fc1 fz1 fc2 fz2 fc3 fz3 fc4 fz4
      clear gc0 gz0 gc1 gz1 gc2 gz2 gc3 gz3 gc4 gz4
      have fc0 := BlkV.cell kF 0 rfl
      have fz0 := BlkV.frozen kF 0
      have fc1 := BlkV.cell kF 1 rfl
      have fz1 := BlkV.frozen kF 1
      have fc2 := BlkV.cell kF 2 rfl
      have fz2 := BlkV.frozen kF 2
      have fc3 := BlkV.cell kF 3 rfl
      have fz3 := BlkV.frozen kF 3
      have fc4 := BlkV.cell kF 4 rfl
      have fz4 := BlkV.frozen kF 4
      have gc0 := BlkV.cell kG 0 rfl
      have gz0 := BlkV.frozen kG 0
      have gc1 := BlkV.cell kG 1 rfl
      have gz1 := BlkV.frozen kG 1
      have gc2 := BlkV.cell kG 2 rfl
      have gz2 := BlkV.frozen kG 2
      have gc3 := BlkV.cell kG 3 rfl
      have gz3 := BlkV.frozen kG 3
      have gc4 := BlkV.cell kG 4 rfl
      have gz4 := BlkV.frozen kG 4
      go_wp2_with fail
      refine (c0 _ hF).mono ?_
      rintro e w2 ⟨rfl, hf2⟩
      clear c0
      replace kF := kF.fwd hf2
      replace kG := kG.fwd hf2
      replace hF := hF.trans hf2
      clear hf2
      clear fc0 fz0 fc1 fz1 fc2 fz2 fc3 fz3 fc4 fz4
      clear gc0 gz0 gc1 gz1 gc2 gz2 gc3 gz3 gc4 gz4
      have fc0 := BlkV.cell kF 0 rfl
      have fz0 := BlkV.frozen kF 0
      have fc1 := BlkV.cell kF 1 rfl
      have fz1 := BlkV.frozen kF 1
      have fc2 := BlkV.cell kF 2 rfl
      have fz2 := BlkV.frozen kF 2
      have fc3 := BlkV.cell kF 3 rfl
      have fz3 := BlkV.frozen kF 3
      have fc4 := BlkV.cell kF 4 rfl
      have fz4 := BlkV.frozen kF 4
      have gc0 := BlkV.cell kG 0 rfl
      have gz0 := BlkV.frozen kG 0
      have gc1 := BlkV.cell kG 1 rfl
      have gz1 := BlkV.frozen kG 1
      have gc2 := BlkV.cell kG 2 rfl
      have gz2 := BlkV.frozen kG 2
      have gc3 := BlkV.cell kG 3 rfl
      have gz3 := BlkV.frozen kG 3
      have gc4 := BlkV.cell kG 4 rfl
      have gz4 := BlkV.frozen kG 4
      go_wp2_with fail
      rw [rounds_succ]
      go_wp2_with fail
      have t5 := BlkV.set kF 0 (.int .u64 z0)
      have o5 := BlkV.on kF 0 (.int .u64 z0)
      replace kG := BlkV.only kG o5 (by omega)
      replace hF := hF.wrote o5 (by omega)
      have kF := t5
      clear o5
      have t7 := BlkV.set kG 0 (.int .i64 q0)
      have o7 := BlkV.on kG 0 (.int .i64 q0)
      replace kF := BlkV.only kF o7 (by omega)
      replace hF := hF.wrote o7 (by omega)
      have kG := t7
      clear o7
      refine (hW _).mono ?_
      rintro e w3 ⟨rfl, hf3⟩
      replace kF := kF.fwd hf3
      replace kG := kG.fwd hf3
      replace hF := hF.trans hf3
      clear hf3
      clear fc0 fz0 fc1 fz1 fc2 fz2 fc3 fz3 fc4 fz4
      clear gc0 gz0 gc1 gz1 gc2 gz2 gc3 gz3 gc4 gz4
      have fc0 := BlkV.cell kF 0 rfl
      have fz0 := BlkV.frozen kF 0
      have fc1 := BlkV.cell kF 1 rfl
      have fz1 := BlkV.frozen kF 1
      have fc2 := BlkV.cell kF 2 rfl
      have fz2 := BlkV.frozen kF 2
      have fc3 := BlkV.cell kF 3 rfl
      have fz3 := BlkV.frozen kF 3
      have fc4 := BlkV.cell kF 4 rfl
      have fz4 := BlkV.frozen kF 4
      have gc0 := BlkV.cell kG 0 rfl
      have gz0 := BlkV.frozen kG 0
      have gc1 := BlkV.cell kG 1 rfl
      have gz1 := BlkV.frozen kG 1
      have gc2 := BlkV.cell kG 2 rfl
      have gz2 := BlkV.frozen kG 2
      have gc3 := BlkV.cell kG 3 rfl
      have gz3 := BlkV.frozen kG 3
      have gc4 := BlkV.cell kG 4 rfl
      have gz4 := BlkV.frozen kG 4
      go_wp2_with fail
      refine (c1 _ hF).mono ?_
      rintro e w8 ⟨rfl, hf8⟩
      clear c1
      replace kF := kF.fwd hf8
      replace kG := kG.fwd hf8
      replace hF := hF.trans hf8
      clear hf8
      clear fc0 fz0 fc1 fz1 fc2 fz2 fc3 fz3 fc4 fz4
      clear gc0 gz0 gc1 gz1 gc2 gz2 gc3 gz3 gc4 gz4
      have fc0 := BlkV.cell kF 0 rfl
      have fz0 := BlkV.frozen kF 0
      have fc1 := BlkV.cell kF 1 rfl
      have fz1 := BlkV.frozen kF 1
      have fc2 := BlkV.cell kF 2 rfl
      have fz2 := BlkV.frozen kF 2
      have fc3 := BlkV.cell kF 3 rfl
      have fz3 := BlkV.frozen kF 3
      have fc4 := BlkV.cell kF 4 rfl
      have fz4 := BlkV.frozen kF 4
      have gc0 := BlkV.cell kG 0 rfl
      have gz0 := BlkV.frozen kG 0
      have gc1 := BlkV.cell kG 1 rfl
      have gz1 := BlkV.frozen kG 1
      have gc2 := BlkV.cell kG 2 rfl
      have gz2 := BlkV.frozen kG 2
      have gc3 := BlkV.cell kG 3 rfl
      have gz3 := BlkV.frozen kG 3
      have gc4 := BlkV.cell kG 4 rfl
      have gz4 := BlkV.frozen kG 4
      go_wp2_with fail
      rw [rounds_succ]
      go_wp2_with fail
      have t11 := BlkV.set kF 1 (.int .u64 z1)
      have o11 := BlkV.on kF 1 (.int .u64 z1)
      replace kG := BlkV.only kG o11 (by omega)
      replace hF := hF.wrote o11 (by omega)
      have kF := t11
      clear o11
      have t13 := BlkV.set kG 1 (.int .i64 q1)
      have o13 := BlkV.on kG 1 (.int .i64 q1)
      replace kF := BlkV.only kF o13 (by omega)
      replace hF := hF.wrote o13 (by omega)
      have kG := t13
      clear o13
      refine (hW _).mono ?_
      rintro e w9 ⟨rfl, hf9⟩
      replace kF := kF.fwd hf9
      replace kG := kG.fwd hf9
      replace hF := hF.trans hf9
      clear hf9
      clear fc0 fz0 fc1 fz1 fc2 fz2 fc3 fz3 fc4 fz4
      clear gc0 gz0 gc1 gz1 gc2 gz2 gc3 gz3 gc4 gz4
      have fc0 := BlkV.cell kF 0 rfl
      have fz0 := BlkV.frozen kF 0
      have fc1 := BlkV.cell kF 1 rfl
      have fz1 := BlkV.frozen kF 1
      have fc2 := BlkV.cell kF 2 rfl
      have fz2 := BlkV.frozen kF 2
      have fc3 := BlkV.cell kF 3 rfl
      have fz3 := BlkV.frozen kF 3
      have fc4 := BlkV.cell kF 4 rfl
      have fz4 := BlkV.frozen kF 4
      have gc0 := BlkV.cell kG 0 rfl
      have gz0 := BlkV.frozen kG 0
      have gc1 := BlkV.cell kG 1 rfl
      have gz1 := BlkV.frozen kG 1
      have gc2 := BlkV.cell kG 2 rfl
      have gz2 := BlkV.frozen kG 2
      have gc3 := BlkV.cell kG 3 rfl
      have gz3 := BlkV.frozen kG 3
      have gc4 := BlkV.cell kG 4 rfl
      have gz4 := BlkV.frozen kG 4
      go_wp2_with fail
      refine (c2 _ hF).mono ?_
      rintro e w14 ⟨rfl, hf14⟩
      clear c2
      replace kF := kF.fwd hf14
      replace kG := kG.fwd hf14
      replace hF := hF.trans hf14
      clear hf14
      clear fc0 fz0 fc1 fz1 fc2 fz2 fc3 fz3 fc4 fz4
      clear gc0 gz0 gc1 gz1 gc2 gz2 gc3 gz3 gc4 gz4
      have fc0 := BlkV.cell kF 0 rfl
      have fz0 := BlkV.frozen kF 0
      have fc1 := BlkV.cell kF 1 rfl
      have fz1 := BlkV.frozen kF 1
      have fc2 := BlkV.cell kF 2 rfl
      have fz2 := BlkV.frozen kF 2
      have fc3 := BlkV.cell kF 3 rfl
      have fz3 := BlkV.frozen kF 3
      have fc4 := BlkV.cell kF 4 rfl
      have fz4 := BlkV.frozen kF 4
      have gc0 := BlkV.cell kG 0 rfl
      have gz0 := BlkV.frozen kG 0
      have gc1 := BlkV.cell kG 1 rfl
      have gz1 := BlkV.frozen kG 1
      have gc2 := BlkV.cell kG 2 rfl
      have gz2 := BlkV.frozen kG 2
      have gc3 := BlkV.cell kG 3 rfl
      have gz3 := BlkV.frozen kG 3
      have gc4 := BlkV.cell kG 4 rfl
      have gz4 := BlkV.frozen kG 4
      go_wp2_with fail
      rw [rounds_succ]
      go_wp2_with fail
      have t17 := BlkV.set kF 2 (.int .u64 z2)
      have o17 := BlkV.on kF 2 (.int .u64 z2)
      replace kG := BlkV.only kG o17 (by omega)
      replace hF := hF.wrote o17 (by omega)
      have kF := t17
      clear o17
      have t19 := BlkV.set kG 2 (.int .i64 q2)
      have o19 := BlkV.on kG 2 (.int .i64 q2)
      replace kF := BlkV.only kF o19 (by omega)
      replace hF := hF.wrote o19 (by omega)
      have kG := t19
      clear o19
      refine (hW _).mono ?_
      rintro e w15 ⟨rfl, hf15⟩
      replace kF := kF.fwd hf15
      replace kG := kG.fwd hf15
      replace hF := hF.trans hf15
      clear hf15
      clear fc0 fz0 fc1 fz1 fc2 fz2 fc3 fz3 fc4 fz4
      clear gc0 gz0 gc1 gz1 gc2 gz2 gc3 gz3 gc4 gz4
      have fc0 := BlkV.cell kF 0 rfl
      have fz0 := BlkV.frozen kF 0
      have fc1 := BlkV.cell kF 1 rfl
      have fz1 := BlkV.frozen kF 1
      have fc2 := BlkV.cell kF 2 rfl
      have fz2 := BlkV.frozen kF 2
      have fc3 := BlkV.cell kF 3 rfl
      have fz3 := BlkV.frozen kF 3
      have fc4 := BlkV.cell kF 4 rfl
      have fz4 := BlkV.frozen kF 4
      have gc0 := BlkV.cell kG 0 rfl
      have gz0 := BlkV.frozen kG 0
      have gc1 := BlkV.cell kG 1 rfl
      have gz1 := BlkV.frozen kG 1
      have gc2 := BlkV.cell kG 2 rfl
      have gz2 := BlkV.frozen kG 2
      have gc3 := BlkV.cell kG 3 rfl
      have gz3 := BlkV.frozen kG 3
      have gc4 := BlkV.cell kG 4 rfl
      have gz4 := BlkV.frozen kG 4
      go_wp2_with fail
      refine (c3 _ hF).mono ?_
      rintro e w20 ⟨rfl, hf20⟩
      clear c3
      replace kF := kF.fwd hf20
      replace kG := kG.fwd hf20
      replace hF := hF.trans hf20
      clear hf20
      clear fc0 fz0 fc1 fz1 fc2 fz2 fc3 fz3 fc4 fz4
      clear gc0 gz0 gc1 gz1 gc2 gz2 gc3 gz3 gc4 gz4
      have fc0 := BlkV.cell kF 0 rfl
      have fz0 := BlkV.frozen kF 0
      have fc1 := BlkV.cell kF 1 rfl
      have fz1 := BlkV.frozen kF 1
      have fc2 := BlkV.cell kF 2 rfl
      have fz2 := BlkV.frozen kF 2
      have fc3 := BlkV.cell kF 3 rfl
      have fz3 := BlkV.frozen kF 3
      have fc4 := BlkV.cell kF 4 rfl
      have fz4 := BlkV.frozen kF 4
      have gc0 := BlkV.cell kG 0 rfl
      have gz0 := BlkV.frozen kG 0
      have gc1 := BlkV.cell kG 1 rfl
      have gz1 := BlkV.frozen kG 1
      have gc2 := BlkV.cell kG 2 rfl
      have gz2 := BlkV.frozen kG 2
      have gc3 := BlkV.cell kG 3 rfl
      have gz3 := BlkV.frozen kG 3
      have gc4 := BlkV.cell kG 4 rfl
      have gz4 := BlkV.frozen kG 4
      go_wp2_with fail
      rw [rounds_succ]
      go_wp2_with fail
      have t23 := BlkV.set kF 3 (.int .u64 z3)
      have o23 := BlkV.on kF 3 (.int .u64 z3)
      replace kG := BlkV.only kG o23 (by omega)
      replace hF := hF.wrote o23 (by omega)
      have kF := t23
      clear o23
      have t25 := BlkV.set kG 3 (.int .i64 q3)
      have o25 := BlkV.on kG 3 (.int .i64 q3)
      replace kF := BlkV.only kF o25 (by omega)
      replace hF := hF.wrote o25 (by omega)
      have kG := t25
      clear o25
      refine (hW _).mono ?_
      rintro e w21 ⟨rfl, hf21⟩
      replace kF := kF.fwd hf21
      replace kG := kG.fwd hf21
      replace hF := hF.trans hf21
      clear hf21
      clear fc0 fz0 fc1 fz1 fc2 fz2 fc3 fz3 fc4 fz4
      clear gc0 gz0 gc1 gz1 gc2 gz2 gc3 gz3 gc4 gz4
      have fc0 := BlkV.cell kF 0 rfl
      have fz0 := BlkV.frozen kF 0
      have fc1 := BlkV.cell kF 1 rfl
      have fz1 := BlkV.frozen kF 1
      have fc2 := BlkV.cell kF 2 rfl
      have fz2 := BlkV.frozen kF 2
      have fc3 := BlkV.cell kF 3 rfl
      have fz3 := BlkV.frozen kF 3
      have fc4 := BlkV.cell kF 4 rfl
      have fz4 := BlkV.frozen kF 4
      have gc0 := BlkV.cell kG 0 rfl
      have gz0 := BlkV.frozen kG 0
      have gc1 := BlkV.cell kG 1 rfl
      have gz1 := BlkV.frozen kG 1
      have gc2 := BlkV.cell kG 2 rfl
      have gz2 := BlkV.frozen kG 2
      have gc3 := BlkV.cell kG 3 rfl
      have gz3 := BlkV.frozen kG 3
      have gc4 := BlkV.cell kG 4 rfl
      have gz4 := BlkV.frozen kG 4
      go_wp2_with fail
      refine (c4 _ hF).mono ?_
      rintro e w26 ⟨rfl, hf26⟩
      clear c4
      replace kF := kF.fwd hf26
      replace kG := kG.fwd hf26
      replace hF := hF.trans hf26
      clear hf26
      clear fc0 fz0 fc1 fz1 fc2 fz2 fc3 fz3 fc4 fz4
      clear gc0 gz0 gc1 gz1 gc2 gz2 gc3 gz3 gc4 gz4
      have fc0 := BlkV.cell kF 0 rfl
      have fz0 := BlkV.frozen kF 0
      have fc1 := BlkV.cell kF 1 rfl
      have fz1 := BlkV.frozen kF 1
      have fc2 := BlkV.cell kF 2 rfl
      have fz2 := BlkV.frozen kF 2
      have fc3 := BlkV.cell kF 3 rfl
      have fz3 := BlkV.frozen kF 3
      have fc4 := BlkV.cell kF 4 rfl
      have fz4 := BlkV.frozen kF 4
      have gc0 := BlkV.cell kG 0 rfl
      have gz0 := BlkV.frozen kG 0
      have gc1 := BlkV.cell kG 1 rfl
      have gz1 := BlkV.frozen kG 1
      have gc2 := BlkV.cell kG 2 rfl
      have gz2 := BlkV.frozen kG 2
      have gc3 := BlkV.cell kG 3 rfl
      have gz3 := BlkV.frozen kG 3
      have gc4 := BlkV.cell kG 4 rfl
      have gz4 := BlkV.frozen kG 4
      go_wp2_with fail
      rw [rounds_succ]
      go_wp2_with fail
      have t28 := BlkV.set kF 4 (.int .u64 z4)
      have o28 := BlkV.on kF 4 (.int .u64 z4)
      replace kG := BlkV.only kG o28 (by omega)
      replace hF := hF.wrote o28 (by omega)
      have kF := t28
      clear o28
      have t30 := BlkV.set kG 4 (.int .i64 q4)
      have o30 := BlkV.on kG 4 (.int .i64 q4)
      replace kF := BlkV.only kF o30 (by omega)
      replace hF := hF.wrote o30 (by omega)
      have kG := t30
      clear o30
      go_meet
      exact ⟨z0, z1, z2, z3, z4, HM'.out.1, HM'.out.2.1, HM'.out.2.2, kF, hF⟩
  case rest =>
    clear kF kG hF hW hT hR hx hy
    obtain ⟨z0, z1, z2, z3, z4, ⟨M0, M1, M4, MO⟩, l2, l3, kF, hF⟩ := hcut
    have fc0 := BlkV.cell kF 0 rfl
    have fz0 := BlkV.frozen kF 0
    have fc1 := BlkV.cell kF 1 rfl
    have fz1 := BlkV.frozen kF 1
    have fc2 := BlkV.cell kF 2 rfl
    have fz2 := BlkV.frozen kF 2
    have fc3 := BlkV.cell kF 3 rfl
    have fz3 := BlkV.frozen kF 3
    have fc4 := BlkV.cell kF 4 rfl
    have fz4 := BlkV.frozen kF 4
    go_upto_region 15 with fail
    go_quiet (fail)
    have hq : Fwd wc (wc.drewN nq) := (Fwd.refl wc).drewN nq
    replace kF := kF.fwd hq
    replace hF := hF.trans hq
    clear hq
    clear fc0 fz0 fc1 fz1 fc2 fz2 fc3 fz3 fc4 fz4
    generalize wc.drewN nq = w5 at *
    have fc0 := BlkV.cell kF 0 rfl
    have fz0 := BlkV.frozen kF 0
    have fc1 := BlkV.cell kF 1 rfl
    have fz1 := BlkV.frozen kF 1
    have fc2 := BlkV.cell kF 2 rfl
    have fz2 := BlkV.frozen kF 2
    have fc3 := BlkV.cell kF 3 rfl
    have fz3 := BlkV.frozen kF 3
    have fc4 := BlkV.cell kF 4 rfl
    have fz4 := BlkV.frozen kF 4
    go_upto_block 3 with fail
    go_cut [] (fun wx => w5 = wx)
    case first =>
      clear MO l2 l3
      go_wp2_with fail
      refine wp_loop_rounds 6 ?_
      rw [rounds_succ]
      go_upto_block 4 with fail
      go_cut [] (fun wx => w5 = wx)
      case first =>
        by_cases ez0z2 : z0 = z2
        · have iz0z2 : ((z0 : Int) == (z2 : Int)) = true := by rw [ez0z2]; simp
          have jz0z2 : ((z0 : Int) != (z2 : Int)) = false := by unfold bne; rw [iz0z2]; rfl
          clear ez0z2
          go_wp2_with fail
          go_meet
          rfl
        · have iz0z2 : ((z0 : Int) == (z2 : Int)) = false := ne_beq ez0z2
          have jz0z2 : ((z0 : Int) != (z2 : Int)) = true := by unfold bne; rw [iz0z2]; rfl
          have ez0z3 : z0 = z3 := M0.resolve_left ez0z2
          have iz0z3 : ((z0 : Int) == (z3 : Int)) = true := by rw [ez0z3]; simp
          have jz0z3 : ((z0 : Int) != (z3 : Int)) = false := by unfold bne; rw [iz0z3]; rfl
          clear ez0z3
          clear ez0z2
          go_wp2_with fail
          go_meet
          rfl
      case rest =>
        subst hcut
        go_wp2_with fail
        rw [rounds_succ]
        go_upto_block 4 with fail
        go_cut [] (fun wx => w5 = wx)
        case first =>
          by_cases ez1z2 : z1 = z2
          · have iz1z2 : ((z1 : Int) == (z2 : Int)) = true := by rw [ez1z2]; simp
            have jz1z2 : ((z1 : Int) != (z2 : Int)) = false := by unfold bne; rw [iz1z2]; rfl
            clear ez1z2
            go_wp2_with fail
            go_meet
            rfl
          · have iz1z2 : ((z1 : Int) == (z2 : Int)) = false := ne_beq ez1z2
            have jz1z2 : ((z1 : Int) != (z2 : Int)) = true := by unfold bne; rw [iz1z2]; rfl
            have ez1z3 : z1 = z3 := M1.resolve_left ez1z2
            have iz1z3 : ((z1 : Int) == (z3 : Int)) = true := by rw [ez1z3]; simp
            have jz1z3 : ((z1 : Int) != (z3 : Int)) = false := by unfold bne; rw [iz1z3]; rfl
            clear ez1z3
            clear ez1z2
            go_wp2_with fail
            go_meet
            rfl
        case rest =>
          subst hcut
          go_wp2_with fail
          rw [rounds_succ]
          go_upto_block 4 with fail
          go_cut [] (fun wx => w5 = wx)
          case first =>
            go_wp2_with fail
            go_meet
            rfl
          case rest =>
            subst hcut
            go_wp2_with fail
            rw [rounds_succ]
            go_upto_block 4 with fail
            go_cut [] (fun wx => w5 = wx)
            case first =>
              by_cases ez3z2 : z3 = z2
              · have iz3z2 : ((z3 : Int) == (z2 : Int)) = true := by rw [ez3z2]; simp
                have jz3z2 : ((z3 : Int) != (z2 : Int)) = false := by unfold bne; rw [iz3z2]; rfl
                clear ez3z2
                go_wp2_with fail
                go_meet
                rfl
              · have iz3z2 : ((z3 : Int) == (z2 : Int)) = false := ne_beq ez3z2
                have jz3z2 : ((z3 : Int) != (z2 : Int)) = true := by unfold bne; rw [iz3z2]; rfl
                clear ez3z2
                go_wp2_with fail
                go_meet
                rfl
            case rest =>
              subst hcut
              go_wp2_with fail
              rw [rounds_succ]
              go_upto_block 4 with fail
              go_cut [] (fun wx => w5 = wx)
              case first =>
                by_cases ez4z2 : z4 = z2
                · have iz4z2 : ((z4 : Int) == (z2 : Int)) = true := by rw [ez4z2]; simp
                  have jz4z2 : ((z4 : Int) != (z2 : Int)) = false := by unfold bne; rw [iz4z2]; rfl
                  clear ez4z2
                  go_wp2_with fail
                  go_meet
                  rfl
                · have iz4z2 : ((z4 : Int) == (z2 : Int)) = false := ne_beq ez4z2
                  have jz4z2 : ((z4 : Int) != (z2 : Int)) = true := by unfold bne; rw [iz4z2]; rfl
                  have ez4z3 : z4 = z3 := M4.resolve_left ez4z2
                  have iz4z3 : ((z4 : Int) == (z3 : Int)) = true := by rw [ez4z3]; simp
                  have jz4z3 : ((z4 : Int) != (z3 : Int)) = false := by unfold bne; rw [iz4z3]; rfl
                  clear ez4z3
                  clear ez4z2
                  go_wp2_with fail
                  go_meet
                  rfl
              case rest =>
                subst hcut
                go_wp2_with fail
                rw [rounds_succ]
                go_wp2_with fail
                go_meet
                rfl
    case rest =>
      subst hcut
      by_cases elh : z2 = z3
      · have ilh : ((z2 : Int) == (z3 : Int)) = true := by rw [elh]; simp
        clear elh MO M0 M1 M4 l2 l3
        go_wp2
        go_ret
        exact ⟨rfl, hF⟩
      · have ilh : ((z2 : Int) == (z3 : Int)) = false := ne_beq elh
        obtain ⟨o1, o2, o3⟩ := MO.resolve_left elh
        have cc := fun w => cmpF_any (w := w) z2 z3 l2 l3
        generalize cmpF z2 z3 = CM at *
        obtain ⟨o, isn⟩ := CM
        simp only at o1 o2 o3 cc
        subst o1
        clear MO M0 M1 M4 elh
        have io : decide (o ≤ 0) = true := decide_eq_true o2
        by_cases s2 : 9223372036854775808 ≤ z2
        · rw [if_pos s2] at o3
          have is : ((z2 : Int) / 9223372036854775808 == 1) = true := by have : (z2 : Int) / 9223372036854775808 = 1 := (by omega); rw [this]; rfl
          clear s2
          by_cases e1 : z1 = z3
          · have i1 : ((z1 : Int) == (z3 : Int)) = true := by rw [e1]; simp
            clear e1 o3 l2 l3 o2
            go_wp2_with fail
            refine (cc _).mono ?_
            rintro e wq ⟨rfl, rfl⟩
            go_wp2
            go_ret
            exact ⟨rfl, hF⟩
          · have i1 : ((z1 : Int) == (z3 : Int)) = false := ne_beq e1
            have eo : o = 0 := o3.resolve_left e1
            clear e1 o3 l2 l3 o2
            subst eo
            go_wp2_with fail
            refine (cc _).mono ?_
            rintro e wq ⟨rfl, rfl⟩
            go_wp2
            go_ret
            exact ⟨rfl, hF⟩
        · rw [if_neg s2] at o3
          have is : ((z2 : Int) / 9223372036854775808 == 1) = false := by have : (z2 : Int) / 9223372036854775808 = 0 := (by omega); rw [this]; rfl
          clear s2
          by_cases e1 : z1 = z2
          · have i1 : ((z1 : Int) == (z2 : Int)) = true := by rw [e1]; simp
            clear e1 o3 l2 l3 o2
            go_wp2_with fail
            refine (cc _).mono ?_
            rintro e wq ⟨rfl, rfl⟩
            go_wp2
            go_ret
            exact ⟨rfl, hF⟩
          · have i1 : ((z1 : Int) == (z2 : Int)) = false := ne_beq e1
            have eo : o = 0 := o3.resolve_left e1
            clear e1 o3 l2 l3 o2
            subst eo
            go_wp2_with fail
            refine (cc _).mono ?_
            rintro e wq ⟨rfl, rfl⟩
            go_wp2
            go_ret
            exact ⟨rfl, hF⟩
end Go.Proofs.YtbhehgodnfcdgaaDoor
