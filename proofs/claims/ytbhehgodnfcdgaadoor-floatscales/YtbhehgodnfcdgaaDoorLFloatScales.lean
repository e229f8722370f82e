/- FloatScales: by powers of two, as long as all are of usual size, sums and products are scaled, and nothing else: the law's walk. -/
import Derived.Test.YtbhehgodnfcdgaaDoorF24
import Derived.Test.YtbhehgodnfcdgaaDoorFB
import Derived.OpenShut
namespace Go.Proofs.YtbhehgodnfcdgaaDoor
open Go.RowKit
set_option linter.unusedVariables false
set_option linter.unusedSimpArgs false

set_option maxHeartbeats 8000000 in
set_option maxRecDepth 100000 in
theorem floatScales_walk {w : World} {a b kk mode : Int} (hR : Ru w) (ha : (Lit.int .u64 a).wf = true) (hb : (Lit.int .u64 b).wf = true) (hn : (Lit.int .i64 kk).wf = true) (hk : (Lit.int .i64 mode).wf = true) :
    Calls Tryd.prog 5 #[.int .u64 a, .int .u64 b, .int .i64 kk, .int .i64 mode] w fun e w' => e = .returned (.bool true) ∧ Below w.heap.size w w' := by
  obtain ⟨a1, a2⟩ := bounds_u64 ha
  obtain ⟨b1, b2⟩ := bounds_u64 hb
  obtain ⟨n1, n2⟩ := bounds_i64 hn
  obtain ⟨k1, k2⟩ := bounds_i64 hk
  obtain ⟨a, rfl⟩ : ∃ a' : Nat, a = (a' : Int) := ⟨a.toNat, by omega⟩
  obtain ⟨b, rfl⟩ : ∃ b' : Nat, b = (b' : Int) := ⟨b.toNat, by omega⟩
  clear ha hb hn hk
  have hF : Fwd w w := Fwd.refl w
  go_enter Tryd.func5, Tryd.ntmps5
  go_wp2_with fail
  refine (known3_any hR).mono ?_
  rintro e w1 ⟨rfl, hf1⟩
  replace hR := hR.fwd hf1
  replace hF := hF.trans hf1
  clear hf1
  go_wp2_with fail
  refine (make6_any _ a (by omega)).mono ?_
  rintro e wq ⟨x, s, F, r, hx, f1, f2, rfl, rfl⟩
  go_wp2_with fail
  refine (make6_any _ b (by omega)).mono ?_
  rintro e wq ⟨y, t, G, q, hy, g1, g2, rfl, rfl⟩
  go_wp2_with fail
  refine (within3_any _ kk 400 (by omega) (by omega) n1 n2).mono ?_
  rintro e wq ⟨κ, hκ, rfl, rfl⟩
  clear a1 a2 b1 b2 n1 n2
  obtain ⟨g, hg⟩ : ∃ g : Nat, g = (823 + κ) * 4503599627370496 := ⟨_, rfl⟩
  have hz : IntKind.u64.wrap (IntKind.u64.wrap (IntKind.i64.wrap (IntKind.i64.wrap (1023 + (κ : Int)) - 200)) * 4503599627370496) = (g : Int) := by
    have e1 : IntKind.i64.wrap (1023 + (κ : Int)) = 1023 + κ := by simp [IntKind.wrap, IntKind.bits, IntKind.signed]; omega
    have e2 : IntKind.i64.wrap (1023 + (κ : Int) - 200) = 823 + κ := by simp [IntKind.wrap, IntKind.bits, IntKind.signed]; omega
    rw [e1, e2]
    simp only [IntKind.wrap_u64]
    omega
  have e1 : IntKind.i64.wrap (1023 + (κ : Int)) = 1023 + κ := by simp [IntKind.wrap, IntKind.bits, IntKind.signed]; omega
  have e2 : IntKind.i64.wrap (1023 + (κ : Int) - 200) = 1023 + (κ : Int) - 200 := by simp [IntKind.wrap, IntKind.bits, IntKind.signed]; omega
  have e3 : IntKind.u64.wrap (1023 + (κ : Int) - 200) = 1023 + (κ : Int) - 200 := by rw [IntKind.wrap_u64]; omega
  have e4 : IntKind.u64.wrap ((1023 + (κ : Int) - 200) * 4503599627370496) = (g : Int) := by rw [IntKind.wrap_u64]; omega
  have NG : NF g false (823 + κ) 0 := ⟨by rw [hg]; unfold sgn; simp, by omega, by omega, by omega⟩
  obtain ⟨u, hu⟩ : ∃ u : Nat, u = sgn s + ((F + κ - 200) * 4503599627370496 + r) := ⟨_, rfl⟩
  obtain ⟨v, hv⟩ : ∃ v : Nat, v = sgn t + ((G + κ - 200) * 4503599627370496 + q) := ⟨_, rfl⟩
  have NU : NF u s (F + κ - 200) r := ⟨hu, by omega, by omega, hx.2.2.2⟩
  have NV : NF v t (G + κ - 200) q := ⟨hv, by omega, by omega, hy.2.2.2⟩
  have M1 := mul_pow2 0 hx NG NU (by omega)
  have M2 := mul_pow2 0 hy NG NV (by omega)
  have AS := fun m => add_scale m ((κ : Int) - 200) hx hy NU NV f1 f2 g1 g2 (by omega) (by omega) (by omega) (by omega)
  have M3 := fun b => mul_nought 0 b NG
  have M4 := fun (k k' : Nat) (b : Bool) (H H' h : Nat) (h1 : NF k b H h) (h2 : NF k' b H' h) (h3 : (H' : Int) = (H : Int) + ((κ : Int) - 200)) => mul_pow2 0 h1 NG h2 (by omega)
  have lx := hx.facts.2.2.2.2
  have ly := hy.facts.2.2.2.2
  have lu := NU.facts.2.2.2.2
  have lv := NV.facts.2.2.2.2
  have lg := NG.facts.2.2.2.2
  have c := fun (w : World) (h : Ru w) => mulF_any h 0 x g lx lg
  have c' := fun (w : World) (h : Ru w) => mulF_any h 0 y g ly lg
  rw [M1] at c
  rw [M2] at c'
  clear hz hg hu hv NU NV M1 M2 hx hy f1 f2 g1 g2
  go_wp2_with fail
  refine (c _ hR).mono ?_
  rintro e v0 ⟨rfl, hf⟩
  replace hR := hR.fwd hf
  replace hF := hF.trans hf
  clear hf c e1 e2 e3 e4
  go_wp2_with fail
  refine (c' _ hR).mono ?_
  rintro e v1 ⟨rfl, hf⟩
  replace hR := hR.fwd hf
  replace hF := hF.trans hf
  clear hf c'
  go_wp2_with fail
  refine (within3_any _ mode 5 (by omega) (by omega) k1 k2).mono ?_
  rintro e wq ⟨k, hk, rfl, rfl⟩
  clear k1 k2 hk
  rcases AS k with ⟨bb, A1, A2⟩ | ⟨z, z', bb, H, H', h, cc, N1, N2, N3, A1, A2⟩
  · have MZ := M3 bb
    have lz : sgn bb < 18446744073709551616 := sgn_lt bb
    obtain ⟨Z, hZ⟩ : ∃ Z, Z = sgn bb := ⟨_, rfl⟩
    rw [← hZ] at MZ lz A1 A2
    clear hZ
    have c := addF_any hR k x y lx ly
    rw [A1] at c
    go_wp2_with fail
    refine c.mono ?_
    rintro e x0 ⟨rfl, hf⟩
    replace hR := hR.fwd hf
    replace hF := hF.trans hf
    clear hf c
    have c := addF_any hR k u v lu lv
    rw [A2] at c
    go_wp2_with fail
    refine c.mono ?_
    rintro e x1 ⟨rfl, hf⟩
    replace hR := hR.fwd hf
    replace hF := hF.trans hf
    clear hf c
    have c := mulF_any hR 0 Z g lz lg
    rw [MZ] at c
    clear A1 A2 AS M3 M4
    go_wp2_with fail
    refine c.mono ?_
    rintro e x3 ⟨rfl, hf⟩
    replace hR := hR.fwd hf
    replace hF := hF.trans hf
    clear hf c
    go_wp2
    go_ret
    exact ⟨rfl, hF⟩
  · have MZ := M4 z z' bb H H' h N1 N2 N3
    have lz := N1.facts.2.2.2.2
    clear N1 N2 N3
    obtain ⟨Z, hZ⟩ : ∃ Z, Z = z := ⟨_, rfl⟩
    rw [← hZ] at MZ lz A1
    clear hZ
    have c := addF_any hR k x y lx ly
    rw [A1] at c
    go_wp2_with fail
    refine c.mono ?_
    rintro e x0 ⟨rfl, hf⟩
    replace hR := hR.fwd hf
    replace hF := hF.trans hf
    clear hf c
    have c := addF_any hR k u v lu lv
    rw [A2] at c
    go_wp2_with fail
    refine c.mono ?_
    rintro e x1 ⟨rfl, hf⟩
    replace hR := hR.fwd hf
    replace hF := hF.trans hf
    clear hf c
    have c := mulF_any hR 0 Z g lz lg
    rw [MZ] at c
    clear A1 A2 AS M3 M4
    go_wp2_with fail
    refine c.mono ?_
    rintro e x3 ⟨rfl, hf⟩
    replace hR := hR.fwd hf
    replace hF := hF.trans hf
    clear hf c
    go_wp2
    go_ret
    exact ⟨rfl, hF⟩
end Go.Proofs.YtbhehgodnfcdgaaDoor
