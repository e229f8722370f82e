/- sfloat's times, multiply. -/
/- sfloat's sum, product, sumOfProduct: of values that lie in a row. -/
/- sfloat's ofNumbers: floats are taken apart, and handed on. -/
/- sfloat's Add, Sub, Mul, Fma. -/
/- sfloat's quotient. -/
/- sfloat's Div, over the quotient of what is finite and not nought. -/
import Derived.Test.YtcfhajnboamnnabGreatDoorXF9
import Derived.Test.YtcfhajnboamnnabGreatDoorXF10
import Derived.LoopN
namespace Go.Proofs.YtcfhajnboamnnabGreatDoor
open Go.RowKit
set_option linter.unusedVariables false

set_option maxHeartbeats 8000000 in
set_option maxRecDepth 100000 in
theorem times_any {w : World} {u v : Value} {s en t em : Bool} {n k : Nat} {x y : Int} (h : VV u s en n x) (g : VV v t em k y) (hn : n < 18446744073709551616) (hk : k < 18446744073709551616) (hx1 : -100000 ≤ x) (hx2 : x ≤ 100000) (hy1 : -100000 ≤ y) (hy2 : y ≤ 100000) :
    Calls Tryz.prog 135 #[u, v] w fun e w' => ∃ r, e = .returned r ∧ Fwd w w' ∧ VV r (s != t) false (n * k) (x + y) := by
  obtain ⟨a, b, rfl, h1, h2, hab⟩ := h
  obtain ⟨c, d, rfl, g1, g2, hcd⟩ := g
  obtain rfl : b = n := by omega
  obtain rfl : d = k := by omega
  clear hab hcd
  have pr := fun w => product_any (w := w) h2 g2
  have i2 : (!(s == t)) = (s != t) := rfl
  generalize (s != t) = st at *
  have hw : IntKind.i64.wrap (x + y) = x + y := by simp [IntKind.wrap, IntKind.bits, IntKind.signed]; omega
  have kV : BlkV (((w.alloc (.cells #[.bool s, .bool en, .int .u64 (a), .int .u64 (b), .int .i64 (x)] 107)).alloc (.cells #[.bool t, .bool em, .int .u64 (c), .int .u64 (d), .int .i64 (y)] 107)).alloc (.cells #[.bool false, .bool false, .int .u64 0, .int .u64 0, .int .i64 0] 107)) (w.heap.size) 107 [.bool s, .bool en, .int .u64 (a), .int .u64 (b), .int .i64 (x)] := ((BlkV.made' w (w.heap.size) (by simp) 107 [.bool s, .bool en, .int .u64 (a), .int .u64 (b), .int .i64 (x)]).alloc _).alloc _
  have kW : BlkV (((w.alloc (.cells #[.bool s, .bool en, .int .u64 (a), .int .u64 (b), .int .i64 (x)] 107)).alloc (.cells #[.bool t, .bool em, .int .u64 (c), .int .u64 (d), .int .i64 (y)] 107)).alloc (.cells #[.bool false, .bool false, .int .u64 0, .int .u64 0, .int .i64 0] 107)) (w.heap.size + 1) 107 [.bool t, .bool em, .int .u64 (c), .int .u64 (d), .int .i64 (y)] := (BlkV.made' (w.alloc (.cells #[.bool s, .bool en, .int .u64 (a), .int .u64 (b), .int .i64 (x)] 107)) (w.heap.size + 1) (by simp) 107 [.bool t, .bool em, .int .u64 (c), .int .u64 (d), .int .i64 (y)]).alloc _
  have kR : BlkV (((w.alloc (.cells #[.bool s, .bool en, .int .u64 (a), .int .u64 (b), .int .i64 (x)] 107)).alloc (.cells #[.bool t, .bool em, .int .u64 (c), .int .u64 (d), .int .i64 (y)] 107)).alloc (.cells #[.bool false, .bool false, .int .u64 0, .int .u64 0, .int .i64 0] 107)) (w.heap.size + 1 + 1) 107 [.bool false, .bool false, .int .u64 0, .int .u64 0, .int .i64 0] := BlkV.made' ((w.alloc (.cells #[.bool s, .bool en, .int .u64 (a), .int .u64 (b), .int .i64 (x)] 107)).alloc (.cells #[.bool t, .bool em, .int .u64 (c), .int .u64 (d), .int .i64 (y)] 107)) (w.heap.size + 1 + 1) (by simp) 107 [.bool false, .bool false, .int .u64 0, .int .u64 0, .int .i64 0]
  have hF : Fwd w (((w.alloc (.cells #[.bool s, .bool en, .int .u64 (a), .int .u64 (b), .int .i64 (x)] 107)).alloc (.cells #[.bool t, .bool em, .int .u64 (c), .int .u64 (d), .int .i64 (y)] 107)).alloc (.cells #[.bool false, .bool false, .int .u64 0, .int .u64 0, .int .i64 0] 107)) := (((Fwd.refl w).alloc _).alloc _).alloc _
  go_enter Tryz.func135, Tryz.ntmps135
  have vc0 := BlkV.cell kV 0 rfl
  have vz0 := BlkV.frozen kV 0
  have vc1 := BlkV.cell kV 1 rfl
  have vz1 := BlkV.frozen kV 1
  have vc2 := BlkV.cell kV 2 rfl
  have vz2 := BlkV.frozen kV 2
  have vc3 := BlkV.cell kV 3 rfl
  have vz3 := BlkV.frozen kV 3
  have vc4 := BlkV.cell kV 4 rfl
  have vz4 := BlkV.frozen kV 4
  have wc0 := BlkV.cell kW 0 rfl
  have wz0 := BlkV.frozen kW 0
  have wc1 := BlkV.cell kW 1 rfl
  have wz1 := BlkV.frozen kW 1
  have wc2 := BlkV.cell kW 2 rfl
  have wz2 := BlkV.frozen kW 2
  have wc3 := BlkV.cell kW 3 rfl
  have wz3 := BlkV.frozen kW 3
  have wc4 := BlkV.cell kW 4 rfl
  have wz4 := BlkV.frozen kW 4
  have rc0 := BlkV.cell kR 0 rfl
  have rz0 := BlkV.frozen kR 0
  have rc1 := BlkV.cell kR 1 rfl
  have rz1 := BlkV.frozen kR 1
  have rc2 := BlkV.cell kR 2 rfl
  have rz2 := BlkV.frozen kR 2
  have rc3 := BlkV.cell kR 3 rfl
  have rz3 := BlkV.frozen kR 3
  have rc4 := BlkV.cell kR 4 rfl
  have rz4 := BlkV.frozen kR 4
  go_wp2_with fail
  replace kV := kV.drew
  replace kW := kW.drew
  replace kR := kR.drew
  replace hF := hF.drew
  clear vc0 vz0 vc1 vz1 vc2 vz2 vc3 vz3 vc4 vz4
  clear wc0 wz0 wc1 wz1 wc2 wz2 wc3 wz3 wc4 wz4
  clear rc0 rz0 rc1 rz1 rc2 rz2 rc3 rz3 rc4 rz4
  have vc0 := BlkV.cell kV 0 rfl
  have vz0 := BlkV.frozen kV 0
  have vc1 := BlkV.cell kV 1 rfl
  have vz1 := BlkV.frozen kV 1
  have vc2 := BlkV.cell kV 2 rfl
  have vz2 := BlkV.frozen kV 2
  have vc3 := BlkV.cell kV 3 rfl
  have vz3 := BlkV.frozen kV 3
  have vc4 := BlkV.cell kV 4 rfl
  have vz4 := BlkV.frozen kV 4
  have wc0 := BlkV.cell kW 0 rfl
  have wz0 := BlkV.frozen kW 0
  have wc1 := BlkV.cell kW 1 rfl
  have wz1 := BlkV.frozen kW 1
  have wc2 := BlkV.cell kW 2 rfl
  have wz2 := BlkV.frozen kW 2
  have wc3 := BlkV.cell kW 3 rfl
  have wz3 := BlkV.frozen kW 3
  have wc4 := BlkV.cell kW 4 rfl
  have wz4 := BlkV.frozen kW 4
  have rc0 := BlkV.cell kR 0 rfl
  have rz0 := BlkV.frozen kR 0
  have rc1 := BlkV.cell kR 1 rfl
  have rz1 := BlkV.frozen kR 1
  have rc2 := BlkV.cell kR 2 rfl
  have rz2 := BlkV.frozen kR 2
  have rc3 := BlkV.cell kR 3 rfl
  have rz3 := BlkV.frozen kR 3
  have rc4 := BlkV.cell kR 4 rfl
  have rz4 := BlkV.frozen kR 4
  go_region_held3 (fun w' => w'.cell? ⟨w.heap.size, 0, none⟩ = some (.bool s) ∧ w'.cell? ⟨w.heap.size, 1, none⟩ = some (.bool en) ∧ w'.cell? ⟨w.heap.size, 2, none⟩ = some (.int .u64 (a)) ∧ w'.cell? ⟨w.heap.size, 3, none⟩ = some (.int .u64 (b)) ∧ w'.cell? ⟨w.heap.size, 4, none⟩ = some (.int .i64 (x)) ∧ w'.cell? ⟨w.heap.size + 1, 0, none⟩ = some (.bool t) ∧ w'.cell? ⟨w.heap.size + 1, 1, none⟩ = some (.bool em) ∧ w'.cell? ⟨w.heap.size + 1, 2, none⟩ = some (.int .u64 (c)) ∧ w'.cell? ⟨w.heap.size + 1, 3, none⟩ = some (.int .u64 (d)) ∧ w'.cell? ⟨w.heap.size + 1, 4, none⟩ = some (.int .i64 (y)))
    (first | exact ⟨by with_reducible assumption, by with_reducible assumption, by with_reducible assumption, by with_reducible assumption, by with_reducible assumption, by with_reducible assumption, by with_reducible assumption, by with_reducible assumption, by with_reducible assumption, by with_reducible assumption⟩ | exact ⟨(farset (by simp; try omega) (farset (by simp; try omega) (farset (by simp; try omega) (farset (by simp; try omega) (farset (by simp; try omega) (by with_reducible assumption)))))), (farset (by simp; try omega) (farset (by simp; try omega) (farset (by simp; try omega) (farset (by simp; try omega) (farset (by simp; try omega) (by with_reducible assumption)))))), (farset (by simp; try omega) (farset (by simp; try omega) (farset (by simp; try omega) (farset (by simp; try omega) (farset (by simp; try omega) (by with_reducible assumption)))))), (farset (by simp; try omega) (farset (by simp; try omega) (farset (by simp; try omega) (farset (by simp; try omega) (farset (by simp; try omega) (by with_reducible assumption)))))), (farset (by simp; try omega) (farset (by simp; try omega) (farset (by simp; try omega) (farset (by simp; try omega) (farset (by simp; try omega) (by with_reducible assumption)))))), (farset (by simp; try omega) (farset (by simp; try omega) (farset (by simp; try omega) (farset (by simp; try omega) (farset (by simp; try omega) (by with_reducible assumption)))))), (farset (by simp; try omega) (farset (by simp; try omega) (farset (by simp; try omega) (farset (by simp; try omega) (farset (by simp; try omega) (by with_reducible assumption)))))), (farset (by simp; try omega) (farset (by simp; try omega) (farset (by simp; try omega) (farset (by simp; try omega) (farset (by simp; try omega) (by with_reducible assumption)))))), (farset (by simp; try omega) (farset (by simp; try omega) (farset (by simp; try omega) (farset (by simp; try omega) (farset (by simp; try omega) (by with_reducible assumption)))))), (farset (by simp; try omega) (farset (by simp; try omega) (farset (by simp; try omega) (farset (by simp; try omega) (farset (by simp; try omega) (by with_reducible assumption))))))⟩)
    (first
      | (go_at_call 144
         refine (pr _).mono ?_
         rintro e w1 ⟨q, rfl, ⟨a4, b4, rfl, p1, p2, hp⟩, hf1⟩
         replace kV := kV.fwd hf1
         replace kW := kW.fwd hf1
         replace kR := kR.fwd hf1
         replace hF := hF.trans hf1
         clear hf1
         have HP := hid hp
         clear hp
         clear vc0 vz0 vc1 vz1 vc2 vz2 vc3 vz3 vc4 vz4
         clear wc0 wz0 wc1 wz1 wc2 wz2 wc3 wz3 wc4 wz4
         clear rc0 rz0 rc1 rz1 rc2 rz2 rc3 rz3 rc4 rz4
         have vc0 := BlkV.cell kV 0 rfl
         have vz0 := BlkV.frozen kV 0
         have vc1 := BlkV.cell kV 1 rfl
         have vz1 := BlkV.frozen kV 1
         have vc2 := BlkV.cell kV 2 rfl
         have vz2 := BlkV.frozen kV 2
         have vc3 := BlkV.cell kV 3 rfl
         have vz3 := BlkV.frozen kV 3
         have vc4 := BlkV.cell kV 4 rfl
         have vz4 := BlkV.frozen kV 4
         have wc0 := BlkV.cell kW 0 rfl
         have wz0 := BlkV.frozen kW 0
         have wc1 := BlkV.cell kW 1 rfl
         have wz1 := BlkV.frozen kW 1
         have wc2 := BlkV.cell kW 2 rfl
         have wz2 := BlkV.frozen kW 2
         have wc3 := BlkV.cell kW 3 rfl
         have wz3 := BlkV.frozen kW 3
         have wc4 := BlkV.cell kW 4 rfl
         have wz4 := BlkV.frozen kW 4
         have rc0 := BlkV.cell kR 0 rfl
         have rz0 := BlkV.frozen kR 0
         have rc1 := BlkV.cell kR 1 rfl
         have rz1 := BlkV.frozen kR 1
         have rc2 := BlkV.cell kR 2 rfl
         have rz2 := BlkV.frozen kR 2
         have rc3 := BlkV.cell kR 3 rfl
         have rz3 := BlkV.frozen kR 3
         have rc4 := BlkV.cell kR 4 rfl
         have rz4 := BlkV.frozen kR 4))
  go_wp2
  have r0 := BlkV.set kR 0 (.bool st)
  have rs0 := BlkV.cell r0 0 rfl
  have r1 := BlkV.set r0 1 (.bool false)
  have rs1 := BlkV.cell r1 1 rfl
  have r2 := BlkV.set r1 2 (.int .u64 (a4))
  have rs2 := BlkV.cell r2 2 rfl
  have r3 := BlkV.set r2 3 (.int .u64 (b4))
  have rs3 := BlkV.cell r3 3 rfl
  have r4 := BlkV.set r3 4 (.int .i64 (x + y))
  have rs4 := BlkV.cell r4 4 rfl
  refine bodyPost_ret (by simp [results, Tryz.results135, go_sem, rs0, rs1, rs2, rs3, rs4]; try rfl) rfl ?_
  exact ⟨_, rfl, (((((hF).set (by omega)).set (by omega)).set (by omega)).set (by omega)).set (by omega), ⟨a4, b4, rfl, p1, p2, HP.out⟩⟩

set_option maxHeartbeats 8000000 in
set_option maxRecDepth 100000 in
theorem multiply_any {w : World} {u v : Value} {s en t em : Bool} {n k : Nat} {x y : Int} (h : VV u s en n x) (g : VV v t em k y) (hn : n < 18446744073709551616) (hk : k < 18446744073709551616) (hx1 : -100000 ≤ x) (hx2 : x ≤ 100000) (hy1 : -100000 ≤ y) (hy2 : y ≤ 100000) :
    Calls Tryz.prog 123 #[u, v] w fun e w' => ∃ r, e = .returned (.tuple #[r, .bool (mulV (s, en, n, x) (t, em, k, y)).isSome]) ∧ Fwd w w' ∧ VT r ((mulV (s, en, n, x) (t, em, k, y)).getD (false, false, 0, 0)) := by
  have na := fun w => visNought_any (w := w) h
  have nb := fun w => visNought_any (w := w) g
  have tm := fun w => times_any (w := w) h g hn hk hx1 hx2 hy1 hy2
  obtain ⟨a, b, rfl, h1, h2, hab⟩ := h
  obtain ⟨c, d, rfl, g1, g2, hcd⟩ := g
  clear hab hcd
  have i2 : (!(s == t)) = (s != t) := rfl
  cases en <;> cases em
  · by_cases cn : n = 0
    · have ena : (!false && n == 0) = true := by simp [cn]
      simp only [ena] at na
      clear ena
      have HV : Hid (mulV (s, false, n, x) (t, false, k, y) = some (s != t, false, n * k, x + y)) := hid (by simp [mulV, cn])
      rw [HV.out]
      clear HV
      have Hn := hid cn
      clear cn
      generalize hst : (s != t) = st at *
      have kV : BlkV (((w.alloc (.cells #[.bool s, .bool false, .int .u64 (a), .int .u64 (b), .int .i64 (x)] 107)).alloc (.cells #[.bool t, .bool false, .int .u64 (c), .int .u64 (d), .int .i64 (y)] 107)).alloc (.cells #[.bool false, .bool false, .int .u64 0, .int .u64 0, .int .i64 0] 107)) (w.heap.size) 107 [.bool s, .bool false, .int .u64 (a), .int .u64 (b), .int .i64 (x)] := ((BlkV.made' w (w.heap.size) (by simp) 107 [.bool s, .bool false, .int .u64 (a), .int .u64 (b), .int .i64 (x)]).alloc _).alloc _
      have kW : BlkV (((w.alloc (.cells #[.bool s, .bool false, .int .u64 (a), .int .u64 (b), .int .i64 (x)] 107)).alloc (.cells #[.bool t, .bool false, .int .u64 (c), .int .u64 (d), .int .i64 (y)] 107)).alloc (.cells #[.bool false, .bool false, .int .u64 0, .int .u64 0, .int .i64 0] 107)) (w.heap.size + 1) 107 [.bool t, .bool false, .int .u64 (c), .int .u64 (d), .int .i64 (y)] := (BlkV.made' (w.alloc (.cells #[.bool s, .bool false, .int .u64 (a), .int .u64 (b), .int .i64 (x)] 107)) (w.heap.size + 1) (by simp) 107 [.bool t, .bool false, .int .u64 (c), .int .u64 (d), .int .i64 (y)]).alloc _
      have kR : BlkV (((w.alloc (.cells #[.bool s, .bool false, .int .u64 (a), .int .u64 (b), .int .i64 (x)] 107)).alloc (.cells #[.bool t, .bool false, .int .u64 (c), .int .u64 (d), .int .i64 (y)] 107)).alloc (.cells #[.bool false, .bool false, .int .u64 0, .int .u64 0, .int .i64 0] 107)) (w.heap.size + 1 + 1) 107 [.bool false, .bool false, .int .u64 0, .int .u64 0, .int .i64 0] := BlkV.made' ((w.alloc (.cells #[.bool s, .bool false, .int .u64 (a), .int .u64 (b), .int .i64 (x)] 107)).alloc (.cells #[.bool t, .bool false, .int .u64 (c), .int .u64 (d), .int .i64 (y)] 107)) (w.heap.size + 1 + 1) (by simp) 107 [.bool false, .bool false, .int .u64 0, .int .u64 0, .int .i64 0]
      have hF : Fwd w (((w.alloc (.cells #[.bool s, .bool false, .int .u64 (a), .int .u64 (b), .int .i64 (x)] 107)).alloc (.cells #[.bool t, .bool false, .int .u64 (c), .int .u64 (d), .int .i64 (y)] 107)).alloc (.cells #[.bool false, .bool false, .int .u64 0, .int .u64 0, .int .i64 0] 107)) := (((Fwd.refl w).alloc _).alloc _).alloc _
      go_enter Tryz.func123, Tryz.ntmps123
      have vc0 := BlkV.cell kV 0 rfl
      have vz0 := BlkV.frozen kV 0
      have vc1 := BlkV.cell kV 1 rfl
      have vz1 := BlkV.frozen kV 1
      have vc2 := BlkV.cell kV 2 rfl
      have vz2 := BlkV.frozen kV 2
      have vc3 := BlkV.cell kV 3 rfl
      have vz3 := BlkV.frozen kV 3
      have vc4 := BlkV.cell kV 4 rfl
      have vz4 := BlkV.frozen kV 4
      have wc0 := BlkV.cell kW 0 rfl
      have wz0 := BlkV.frozen kW 0
      have wc1 := BlkV.cell kW 1 rfl
      have wz1 := BlkV.frozen kW 1
      have wc2 := BlkV.cell kW 2 rfl
      have wz2 := BlkV.frozen kW 2
      have wc3 := BlkV.cell kW 3 rfl
      have wz3 := BlkV.frozen kW 3
      have wc4 := BlkV.cell kW 4 rfl
      have wz4 := BlkV.frozen kW 4
      have rc0 := BlkV.cell kR 0 rfl
      have rz0 := BlkV.frozen kR 0
      have rc1 := BlkV.cell kR 1 rfl
      have rz1 := BlkV.frozen kR 1
      have rc2 := BlkV.cell kR 2 rfl
      have rz2 := BlkV.frozen kR 2
      have rc3 := BlkV.cell kR 3 rfl
      have rz3 := BlkV.frozen kR 3
      have rc4 := BlkV.cell kR 4 rfl
      have rz4 := BlkV.frozen kR 4
      go_wp2_with fail
      refine (na _).mono ?_
      rintro e w1 ⟨rfl, hf1⟩
      replace kV := kV.fwd hf1
      replace kW := kW.fwd hf1
      replace kR := kR.fwd hf1
      replace hF := hF.trans hf1
      clear hf1
      clear vc0 vz0 vc1 vz1 vc2 vz2 vc3 vz3 vc4 vz4
      clear wc0 wz0 wc1 wz1 wc2 wz2 wc3 wz3 wc4 wz4
      clear rc0 rz0 rc1 rz1 rc2 rz2 rc3 rz3 rc4 rz4
      have vc0 := BlkV.cell kV 0 rfl
      have vz0 := BlkV.frozen kV 0
      have vc1 := BlkV.cell kV 1 rfl
      have vz1 := BlkV.frozen kV 1
      have vc2 := BlkV.cell kV 2 rfl
      have vz2 := BlkV.frozen kV 2
      have vc3 := BlkV.cell kV 3 rfl
      have vz3 := BlkV.frozen kV 3
      have vc4 := BlkV.cell kV 4 rfl
      have vz4 := BlkV.frozen kV 4
      have wc0 := BlkV.cell kW 0 rfl
      have wz0 := BlkV.frozen kW 0
      have wc1 := BlkV.cell kW 1 rfl
      have wz1 := BlkV.frozen kW 1
      have wc2 := BlkV.cell kW 2 rfl
      have wz2 := BlkV.frozen kW 2
      have wc3 := BlkV.cell kW 3 rfl
      have wz3 := BlkV.frozen kW 3
      have wc4 := BlkV.cell kW 4 rfl
      have wz4 := BlkV.frozen kW 4
      have rc0 := BlkV.cell kR 0 rfl
      have rz0 := BlkV.frozen kR 0
      have rc1 := BlkV.cell kR 1 rfl
      have rz1 := BlkV.frozen kR 1
      have rc2 := BlkV.cell kR 2 rfl
      have rz2 := BlkV.frozen kR 2
      have rc3 := BlkV.cell kR 3 rfl
      have rz3 := BlkV.frozen kR 3
      have rc4 := BlkV.cell kR 4 rfl
      have rz4 := BlkV.frozen kR 4
      go_wp2_with fail
      refine (tm _).mono ?_
      rintro e w2 ⟨r, rfl, hf2, a4, b4, rfl, p1, p2, hp⟩
      have HP := hid hp
      clear hp
      replace kV := kV.fwd hf2
      replace kW := kW.fwd hf2
      replace kR := kR.fwd hf2
      replace hF := hF.trans hf2
      clear hf2
      clear vc0 vz0 vc1 vz1 vc2 vz2 vc3 vz3 vc4 vz4
      clear wc0 wz0 wc1 wz1 wc2 wz2 wc3 wz3 wc4 wz4
      clear rc0 rz0 rc1 rz1 rc2 rz2 rc3 rz3 rc4 rz4
      have vc0 := BlkV.cell kV 0 rfl
      have vz0 := BlkV.frozen kV 0
      have vc1 := BlkV.cell kV 1 rfl
      have vz1 := BlkV.frozen kV 1
      have vc2 := BlkV.cell kV 2 rfl
      have vz2 := BlkV.frozen kV 2
      have vc3 := BlkV.cell kV 3 rfl
      have vz3 := BlkV.frozen kV 3
      have vc4 := BlkV.cell kV 4 rfl
      have vz4 := BlkV.frozen kV 4
      have wc0 := BlkV.cell kW 0 rfl
      have wz0 := BlkV.frozen kW 0
      have wc1 := BlkV.cell kW 1 rfl
      have wz1 := BlkV.frozen kW 1
      have wc2 := BlkV.cell kW 2 rfl
      have wz2 := BlkV.frozen kW 2
      have wc3 := BlkV.cell kW 3 rfl
      have wz3 := BlkV.frozen kW 3
      have wc4 := BlkV.cell kW 4 rfl
      have wz4 := BlkV.frozen kW 4
      have rc0 := BlkV.cell kR 0 rfl
      have rz0 := BlkV.frozen kR 0
      have rc1 := BlkV.cell kR 1 rfl
      have rz1 := BlkV.frozen kR 1
      have rc2 := BlkV.cell kR 2 rfl
      have rz2 := BlkV.frozen kR 2
      have rc3 := BlkV.cell kR 3 rfl
      have rz3 := BlkV.frozen kR 3
      have rc4 := BlkV.cell kR 4 rfl
      have rz4 := BlkV.frozen kR 4
      go_wp2
      have r0 := BlkV.set kR 0 (.bool st)
      have rs0 := BlkV.cell r0 0 rfl
      have r1 := BlkV.set r0 1 (.bool false)
      have rs1 := BlkV.cell r1 1 rfl
      have r2 := BlkV.set r1 2 (.int .u64 (a4))
      have rs2 := BlkV.cell r2 2 rfl
      have r3 := BlkV.set r2 3 (.int .u64 (b4))
      have rs3 := BlkV.cell r3 3 rfl
      have r4 := BlkV.set r3 4 (.int .i64 (x + y))
      have rs4 := BlkV.cell r4 4 rfl
      refine bodyPost_ret (by simp [results, Tryz.results123, go_sem, rs0, rs1, rs2, rs3, rs4]; try rfl) rfl ?_
      exact ⟨_, rfl, (((((hF).set (by omega)).set (by omega)).set (by omega)).set (by omega)).set (by omega), ⟨a4, b4, rfl, p1, p2, HP.out⟩⟩
    · have ena : (!false && n == 0) = false := by simp [cn]
      simp only [ena] at na
      clear ena
      have HV : Hid (mulV (s, false, n, x) (t, false, k, y) = some (s != t, false, n * k, x + y)) := hid (by simp [mulV, cn])
      rw [HV.out]
      clear HV
      have Hn := hid cn
      clear cn
      generalize hst : (s != t) = st at *
      have kV : BlkV (((w.alloc (.cells #[.bool s, .bool false, .int .u64 (a), .int .u64 (b), .int .i64 (x)] 107)).alloc (.cells #[.bool t, .bool false, .int .u64 (c), .int .u64 (d), .int .i64 (y)] 107)).alloc (.cells #[.bool false, .bool false, .int .u64 0, .int .u64 0, .int .i64 0] 107)) (w.heap.size) 107 [.bool s, .bool false, .int .u64 (a), .int .u64 (b), .int .i64 (x)] := ((BlkV.made' w (w.heap.size) (by simp) 107 [.bool s, .bool false, .int .u64 (a), .int .u64 (b), .int .i64 (x)]).alloc _).alloc _
      have kW : BlkV (((w.alloc (.cells #[.bool s, .bool false, .int .u64 (a), .int .u64 (b), .int .i64 (x)] 107)).alloc (.cells #[.bool t, .bool false, .int .u64 (c), .int .u64 (d), .int .i64 (y)] 107)).alloc (.cells #[.bool false, .bool false, .int .u64 0, .int .u64 0, .int .i64 0] 107)) (w.heap.size + 1) 107 [.bool t, .bool false, .int .u64 (c), .int .u64 (d), .int .i64 (y)] := (BlkV.made' (w.alloc (.cells #[.bool s, .bool false, .int .u64 (a), .int .u64 (b), .int .i64 (x)] 107)) (w.heap.size + 1) (by simp) 107 [.bool t, .bool false, .int .u64 (c), .int .u64 (d), .int .i64 (y)]).alloc _
      have kR : BlkV (((w.alloc (.cells #[.bool s, .bool false, .int .u64 (a), .int .u64 (b), .int .i64 (x)] 107)).alloc (.cells #[.bool t, .bool false, .int .u64 (c), .int .u64 (d), .int .i64 (y)] 107)).alloc (.cells #[.bool false, .bool false, .int .u64 0, .int .u64 0, .int .i64 0] 107)) (w.heap.size + 1 + 1) 107 [.bool false, .bool false, .int .u64 0, .int .u64 0, .int .i64 0] := BlkV.made' ((w.alloc (.cells #[.bool s, .bool false, .int .u64 (a), .int .u64 (b), .int .i64 (x)] 107)).alloc (.cells #[.bool t, .bool false, .int .u64 (c), .int .u64 (d), .int .i64 (y)] 107)) (w.heap.size + 1 + 1) (by simp) 107 [.bool false, .bool false, .int .u64 0, .int .u64 0, .int .i64 0]
      have hF : Fwd w (((w.alloc (.cells #[.bool s, .bool false, .int .u64 (a), .int .u64 (b), .int .i64 (x)] 107)).alloc (.cells #[.bool t, .bool false, .int .u64 (c), .int .u64 (d), .int .i64 (y)] 107)).alloc (.cells #[.bool false, .bool false, .int .u64 0, .int .u64 0, .int .i64 0] 107)) := (((Fwd.refl w).alloc _).alloc _).alloc _
      go_enter Tryz.func123, Tryz.ntmps123
      have vc0 := BlkV.cell kV 0 rfl
      have vz0 := BlkV.frozen kV 0
      have vc1 := BlkV.cell kV 1 rfl
      have vz1 := BlkV.frozen kV 1
      have vc2 := BlkV.cell kV 2 rfl
      have vz2 := BlkV.frozen kV 2
      have vc3 := BlkV.cell kV 3 rfl
      have vz3 := BlkV.frozen kV 3
      have vc4 := BlkV.cell kV 4 rfl
      have vz4 := BlkV.frozen kV 4
      have wc0 := BlkV.cell kW 0 rfl
      have wz0 := BlkV.frozen kW 0
      have wc1 := BlkV.cell kW 1 rfl
      have wz1 := BlkV.frozen kW 1
      have wc2 := BlkV.cell kW 2 rfl
      have wz2 := BlkV.frozen kW 2
      have wc3 := BlkV.cell kW 3 rfl
      have wz3 := BlkV.frozen kW 3
      have wc4 := BlkV.cell kW 4 rfl
      have wz4 := BlkV.frozen kW 4
      have rc0 := BlkV.cell kR 0 rfl
      have rz0 := BlkV.frozen kR 0
      have rc1 := BlkV.cell kR 1 rfl
      have rz1 := BlkV.frozen kR 1
      have rc2 := BlkV.cell kR 2 rfl
      have rz2 := BlkV.frozen kR 2
      have rc3 := BlkV.cell kR 3 rfl
      have rz3 := BlkV.frozen kR 3
      have rc4 := BlkV.cell kR 4 rfl
      have rz4 := BlkV.frozen kR 4
      go_wp2_with fail
      refine (na _).mono ?_
      rintro e w1 ⟨rfl, hf1⟩
      replace kV := kV.fwd hf1
      replace kW := kW.fwd hf1
      replace kR := kR.fwd hf1
      replace hF := hF.trans hf1
      clear hf1
      clear vc0 vz0 vc1 vz1 vc2 vz2 vc3 vz3 vc4 vz4
      clear wc0 wz0 wc1 wz1 wc2 wz2 wc3 wz3 wc4 wz4
      clear rc0 rz0 rc1 rz1 rc2 rz2 rc3 rz3 rc4 rz4
      have vc0 := BlkV.cell kV 0 rfl
      have vz0 := BlkV.frozen kV 0
      have vc1 := BlkV.cell kV 1 rfl
      have vz1 := BlkV.frozen kV 1
      have vc2 := BlkV.cell kV 2 rfl
      have vz2 := BlkV.frozen kV 2
      have vc3 := BlkV.cell kV 3 rfl
      have vz3 := BlkV.frozen kV 3
      have vc4 := BlkV.cell kV 4 rfl
      have vz4 := BlkV.frozen kV 4
      have wc0 := BlkV.cell kW 0 rfl
      have wz0 := BlkV.frozen kW 0
      have wc1 := BlkV.cell kW 1 rfl
      have wz1 := BlkV.frozen kW 1
      have wc2 := BlkV.cell kW 2 rfl
      have wz2 := BlkV.frozen kW 2
      have wc3 := BlkV.cell kW 3 rfl
      have wz3 := BlkV.frozen kW 3
      have wc4 := BlkV.cell kW 4 rfl
      have wz4 := BlkV.frozen kW 4
      have rc0 := BlkV.cell kR 0 rfl
      have rz0 := BlkV.frozen kR 0
      have rc1 := BlkV.cell kR 1 rfl
      have rz1 := BlkV.frozen kR 1
      have rc2 := BlkV.cell kR 2 rfl
      have rz2 := BlkV.frozen kR 2
      have rc3 := BlkV.cell kR 3 rfl
      have rz3 := BlkV.frozen kR 3
      have rc4 := BlkV.cell kR 4 rfl
      have rz4 := BlkV.frozen kR 4
      go_wp2_with fail
      refine (tm _).mono ?_
      rintro e w2 ⟨r, rfl, hf2, a4, b4, rfl, p1, p2, hp⟩
      have HP := hid hp
      clear hp
      replace kV := kV.fwd hf2
      replace kW := kW.fwd hf2
      replace kR := kR.fwd hf2
      replace hF := hF.trans hf2
      clear hf2
      clear vc0 vz0 vc1 vz1 vc2 vz2 vc3 vz3 vc4 vz4
      clear wc0 wz0 wc1 wz1 wc2 wz2 wc3 wz3 wc4 wz4
      clear rc0 rz0 rc1 rz1 rc2 rz2 rc3 rz3 rc4 rz4
      have vc0 := BlkV.cell kV 0 rfl
      have vz0 := BlkV.frozen kV 0
      have vc1 := BlkV.cell kV 1 rfl
      have vz1 := BlkV.frozen kV 1
      have vc2 := BlkV.cell kV 2 rfl
      have vz2 := BlkV.frozen kV 2
      have vc3 := BlkV.cell kV 3 rfl
      have vz3 := BlkV.frozen kV 3
      have vc4 := BlkV.cell kV 4 rfl
      have vz4 := BlkV.frozen kV 4
      have wc0 := BlkV.cell kW 0 rfl
      have wz0 := BlkV.frozen kW 0
      have wc1 := BlkV.cell kW 1 rfl
      have wz1 := BlkV.frozen kW 1
      have wc2 := BlkV.cell kW 2 rfl
      have wz2 := BlkV.frozen kW 2
      have wc3 := BlkV.cell kW 3 rfl
      have wz3 := BlkV.frozen kW 3
      have wc4 := BlkV.cell kW 4 rfl
      have wz4 := BlkV.frozen kW 4
      have rc0 := BlkV.cell kR 0 rfl
      have rz0 := BlkV.frozen kR 0
      have rc1 := BlkV.cell kR 1 rfl
      have rz1 := BlkV.frozen kR 1
      have rc2 := BlkV.cell kR 2 rfl
      have rz2 := BlkV.frozen kR 2
      have rc3 := BlkV.cell kR 3 rfl
      have rz3 := BlkV.frozen kR 3
      have rc4 := BlkV.cell kR 4 rfl
      have rz4 := BlkV.frozen kR 4
      go_wp2
      have r0 := BlkV.set kR 0 (.bool st)
      have rs0 := BlkV.cell r0 0 rfl
      have r1 := BlkV.set r0 1 (.bool false)
      have rs1 := BlkV.cell r1 1 rfl
      have r2 := BlkV.set r1 2 (.int .u64 (a4))
      have rs2 := BlkV.cell r2 2 rfl
      have r3 := BlkV.set r2 3 (.int .u64 (b4))
      have rs3 := BlkV.cell r3 3 rfl
      have r4 := BlkV.set r3 4 (.int .i64 (x + y))
      have rs4 := BlkV.cell r4 4 rfl
      refine bodyPost_ret (by simp [results, Tryz.results123, go_sem, rs0, rs1, rs2, rs3, rs4]; try rfl) rfl ?_
      exact ⟨_, rfl, (((((hF).set (by omega)).set (by omega)).set (by omega)).set (by omega)).set (by omega), ⟨a4, b4, rfl, p1, p2, HP.out⟩⟩
  · by_cases cn : n = 0
    · have ena : (!false && n == 0) = true := by simp [cn]
      simp only [ena] at na
      clear ena
      have HV : Hid (mulV (s, false, n, x) (t, true, k, y) = none) := hid (by simp [mulV, cn])
      rw [HV.out]
      clear HV
      clear tm
      have Hn := hid cn
      clear cn
      have kV : BlkV (((w.alloc (.cells #[.bool s, .bool false, .int .u64 (a), .int .u64 (b), .int .i64 (x)] 107)).alloc (.cells #[.bool t, .bool true, .int .u64 (c), .int .u64 (d), .int .i64 (y)] 107)).alloc (.cells #[.bool false, .bool false, .int .u64 0, .int .u64 0, .int .i64 0] 107)) (w.heap.size) 107 [.bool s, .bool false, .int .u64 (a), .int .u64 (b), .int .i64 (x)] := ((BlkV.made' w (w.heap.size) (by simp) 107 [.bool s, .bool false, .int .u64 (a), .int .u64 (b), .int .i64 (x)]).alloc _).alloc _
      have kW : BlkV (((w.alloc (.cells #[.bool s, .bool false, .int .u64 (a), .int .u64 (b), .int .i64 (x)] 107)).alloc (.cells #[.bool t, .bool true, .int .u64 (c), .int .u64 (d), .int .i64 (y)] 107)).alloc (.cells #[.bool false, .bool false, .int .u64 0, .int .u64 0, .int .i64 0] 107)) (w.heap.size + 1) 107 [.bool t, .bool true, .int .u64 (c), .int .u64 (d), .int .i64 (y)] := (BlkV.made' (w.alloc (.cells #[.bool s, .bool false, .int .u64 (a), .int .u64 (b), .int .i64 (x)] 107)) (w.heap.size + 1) (by simp) 107 [.bool t, .bool true, .int .u64 (c), .int .u64 (d), .int .i64 (y)]).alloc _
      have kR : BlkV (((w.alloc (.cells #[.bool s, .bool false, .int .u64 (a), .int .u64 (b), .int .i64 (x)] 107)).alloc (.cells #[.bool t, .bool true, .int .u64 (c), .int .u64 (d), .int .i64 (y)] 107)).alloc (.cells #[.bool false, .bool false, .int .u64 0, .int .u64 0, .int .i64 0] 107)) (w.heap.size + 1 + 1) 107 [.bool false, .bool false, .int .u64 0, .int .u64 0, .int .i64 0] := BlkV.made' ((w.alloc (.cells #[.bool s, .bool false, .int .u64 (a), .int .u64 (b), .int .i64 (x)] 107)).alloc (.cells #[.bool t, .bool true, .int .u64 (c), .int .u64 (d), .int .i64 (y)] 107)) (w.heap.size + 1 + 1) (by simp) 107 [.bool false, .bool false, .int .u64 0, .int .u64 0, .int .i64 0]
      have hF : Fwd w (((w.alloc (.cells #[.bool s, .bool false, .int .u64 (a), .int .u64 (b), .int .i64 (x)] 107)).alloc (.cells #[.bool t, .bool true, .int .u64 (c), .int .u64 (d), .int .i64 (y)] 107)).alloc (.cells #[.bool false, .bool false, .int .u64 0, .int .u64 0, .int .i64 0] 107)) := (((Fwd.refl w).alloc _).alloc _).alloc _
      go_enter Tryz.func123, Tryz.ntmps123
      have vc0 := BlkV.cell kV 0 rfl
      have vz0 := BlkV.frozen kV 0
      have vc1 := BlkV.cell kV 1 rfl
      have vz1 := BlkV.frozen kV 1
      have vc2 := BlkV.cell kV 2 rfl
      have vz2 := BlkV.frozen kV 2
      have vc3 := BlkV.cell kV 3 rfl
      have vz3 := BlkV.frozen kV 3
      have vc4 := BlkV.cell kV 4 rfl
      have vz4 := BlkV.frozen kV 4
      have wc0 := BlkV.cell kW 0 rfl
      have wz0 := BlkV.frozen kW 0
      have wc1 := BlkV.cell kW 1 rfl
      have wz1 := BlkV.frozen kW 1
      have wc2 := BlkV.cell kW 2 rfl
      have wz2 := BlkV.frozen kW 2
      have wc3 := BlkV.cell kW 3 rfl
      have wz3 := BlkV.frozen kW 3
      have wc4 := BlkV.cell kW 4 rfl
      have wz4 := BlkV.frozen kW 4
      have rc0 := BlkV.cell kR 0 rfl
      have rz0 := BlkV.frozen kR 0
      have rc1 := BlkV.cell kR 1 rfl
      have rz1 := BlkV.frozen kR 1
      have rc2 := BlkV.cell kR 2 rfl
      have rz2 := BlkV.frozen kR 2
      have rc3 := BlkV.cell kR 3 rfl
      have rz3 := BlkV.frozen kR 3
      have rc4 := BlkV.cell kR 4 rfl
      have rz4 := BlkV.frozen kR 4
      go_wp2_with fail
      refine (na _).mono ?_
      rintro e w1 ⟨rfl, hf1⟩
      replace kV := kV.fwd hf1
      replace kW := kW.fwd hf1
      replace kR := kR.fwd hf1
      replace hF := hF.trans hf1
      clear hf1
      clear vc0 vz0 vc1 vz1 vc2 vz2 vc3 vz3 vc4 vz4
      clear wc0 wz0 wc1 wz1 wc2 wz2 wc3 wz3 wc4 wz4
      clear rc0 rz0 rc1 rz1 rc2 rz2 rc3 rz3 rc4 rz4
      have vc0 := BlkV.cell kV 0 rfl
      have vz0 := BlkV.frozen kV 0
      have vc1 := BlkV.cell kV 1 rfl
      have vz1 := BlkV.frozen kV 1
      have vc2 := BlkV.cell kV 2 rfl
      have vz2 := BlkV.frozen kV 2
      have vc3 := BlkV.cell kV 3 rfl
      have vz3 := BlkV.frozen kV 3
      have vc4 := BlkV.cell kV 4 rfl
      have vz4 := BlkV.frozen kV 4
      have wc0 := BlkV.cell kW 0 rfl
      have wz0 := BlkV.frozen kW 0
      have wc1 := BlkV.cell kW 1 rfl
      have wz1 := BlkV.frozen kW 1
      have wc2 := BlkV.cell kW 2 rfl
      have wz2 := BlkV.frozen kW 2
      have wc3 := BlkV.cell kW 3 rfl
      have wz3 := BlkV.frozen kW 3
      have wc4 := BlkV.cell kW 4 rfl
      have wz4 := BlkV.frozen kW 4
      have rc0 := BlkV.cell kR 0 rfl
      have rz0 := BlkV.frozen kR 0
      have rc1 := BlkV.cell kR 1 rfl
      have rz1 := BlkV.frozen kR 1
      have rc2 := BlkV.cell kR 2 rfl
      have rz2 := BlkV.frozen kR 2
      have rc3 := BlkV.cell kR 3 rfl
      have rz3 := BlkV.frozen kR 3
      have rc4 := BlkV.cell kR 4 rfl
      have rz4 := BlkV.frozen kR 4
      go_wp2
      have r0 := BlkV.set kR 0 (.bool false)
      have rs0 := BlkV.cell r0 0 rfl
      have r1 := BlkV.set r0 1 (.bool false)
      have rs1 := BlkV.cell r1 1 rfl
      have r2 := BlkV.set r1 2 (.int .u64 0)
      have rs2 := BlkV.cell r2 2 rfl
      have r3 := BlkV.set r2 3 (.int .u64 0)
      have rs3 := BlkV.cell r3 3 rfl
      have r4 := BlkV.set r3 4 (.int .i64 0)
      have rs4 := BlkV.cell r4 4 rfl
      refine bodyPost_ret (by simp [results, Tryz.results123, go_sem, rs0, rs1, rs2, rs3, rs4]; try rfl) rfl ?_
      exact ⟨_, rfl, (((((hF).set (by omega)).set (by omega)).set (by omega)).set (by omega)).set (by omega), ⟨0, 0, rfl, by omega, by omega, rfl⟩⟩
    · have ena : (!false && n == 0) = false := by simp [cn]
      simp only [ena] at na
      clear ena
      have HV : Hid (mulV (s, false, n, x) (t, true, k, y) = some (s != t, true, 0, 0)) := hid (by simp [mulV, cn])
      rw [HV.out]
      clear HV
      clear tm
      have Hn := hid cn
      clear cn
      generalize hst : (s != t) = st at *
      have kV : BlkV (((w.alloc (.cells #[.bool s, .bool false, .int .u64 (a), .int .u64 (b), .int .i64 (x)] 107)).alloc (.cells #[.bool t, .bool true, .int .u64 (c), .int .u64 (d), .int .i64 (y)] 107)).alloc (.cells #[.bool false, .bool false, .int .u64 0, .int .u64 0, .int .i64 0] 107)) (w.heap.size) 107 [.bool s, .bool false, .int .u64 (a), .int .u64 (b), .int .i64 (x)] := ((BlkV.made' w (w.heap.size) (by simp) 107 [.bool s, .bool false, .int .u64 (a), .int .u64 (b), .int .i64 (x)]).alloc _).alloc _
      have kW : BlkV (((w.alloc (.cells #[.bool s, .bool false, .int .u64 (a), .int .u64 (b), .int .i64 (x)] 107)).alloc (.cells #[.bool t, .bool true, .int .u64 (c), .int .u64 (d), .int .i64 (y)] 107)).alloc (.cells #[.bool false, .bool false, .int .u64 0, .int .u64 0, .int .i64 0] 107)) (w.heap.size + 1) 107 [.bool t, .bool true, .int .u64 (c), .int .u64 (d), .int .i64 (y)] := (BlkV.made' (w.alloc (.cells #[.bool s, .bool false, .int .u64 (a), .int .u64 (b), .int .i64 (x)] 107)) (w.heap.size + 1) (by simp) 107 [.bool t, .bool true, .int .u64 (c), .int .u64 (d), .int .i64 (y)]).alloc _
      have kR : BlkV (((w.alloc (.cells #[.bool s, .bool false, .int .u64 (a), .int .u64 (b), .int .i64 (x)] 107)).alloc (.cells #[.bool t, .bool true, .int .u64 (c), .int .u64 (d), .int .i64 (y)] 107)).alloc (.cells #[.bool false, .bool false, .int .u64 0, .int .u64 0, .int .i64 0] 107)) (w.heap.size + 1 + 1) 107 [.bool false, .bool false, .int .u64 0, .int .u64 0, .int .i64 0] := BlkV.made' ((w.alloc (.cells #[.bool s, .bool false, .int .u64 (a), .int .u64 (b), .int .i64 (x)] 107)).alloc (.cells #[.bool t, .bool true, .int .u64 (c), .int .u64 (d), .int .i64 (y)] 107)) (w.heap.size + 1 + 1) (by simp) 107 [.bool false, .bool false, .int .u64 0, .int .u64 0, .int .i64 0]
      have hF : Fwd w (((w.alloc (.cells #[.bool s, .bool false, .int .u64 (a), .int .u64 (b), .int .i64 (x)] 107)).alloc (.cells #[.bool t, .bool true, .int .u64 (c), .int .u64 (d), .int .i64 (y)] 107)).alloc (.cells #[.bool false, .bool false, .int .u64 0, .int .u64 0, .int .i64 0] 107)) := (((Fwd.refl w).alloc _).alloc _).alloc _
      go_enter Tryz.func123, Tryz.ntmps123
      have vc0 := BlkV.cell kV 0 rfl
      have vz0 := BlkV.frozen kV 0
      have vc1 := BlkV.cell kV 1 rfl
      have vz1 := BlkV.frozen kV 1
      have vc2 := BlkV.cell kV 2 rfl
      have vz2 := BlkV.frozen kV 2
      have vc3 := BlkV.cell kV 3 rfl
      have vz3 := BlkV.frozen kV 3
      have vc4 := BlkV.cell kV 4 rfl
      have vz4 := BlkV.frozen kV 4
      have wc0 := BlkV.cell kW 0 rfl
      have wz0 := BlkV.frozen kW 0
      have wc1 := BlkV.cell kW 1 rfl
      have wz1 := BlkV.frozen kW 1
      have wc2 := BlkV.cell kW 2 rfl
      have wz2 := BlkV.frozen kW 2
      have wc3 := BlkV.cell kW 3 rfl
      have wz3 := BlkV.frozen kW 3
      have wc4 := BlkV.cell kW 4 rfl
      have wz4 := BlkV.frozen kW 4
      have rc0 := BlkV.cell kR 0 rfl
      have rz0 := BlkV.frozen kR 0
      have rc1 := BlkV.cell kR 1 rfl
      have rz1 := BlkV.frozen kR 1
      have rc2 := BlkV.cell kR 2 rfl
      have rz2 := BlkV.frozen kR 2
      have rc3 := BlkV.cell kR 3 rfl
      have rz3 := BlkV.frozen kR 3
      have rc4 := BlkV.cell kR 4 rfl
      have rz4 := BlkV.frozen kR 4
      go_wp2_with fail
      refine (na _).mono ?_
      rintro e w1 ⟨rfl, hf1⟩
      replace kV := kV.fwd hf1
      replace kW := kW.fwd hf1
      replace kR := kR.fwd hf1
      replace hF := hF.trans hf1
      clear hf1
      clear vc0 vz0 vc1 vz1 vc2 vz2 vc3 vz3 vc4 vz4
      clear wc0 wz0 wc1 wz1 wc2 wz2 wc3 wz3 wc4 wz4
      clear rc0 rz0 rc1 rz1 rc2 rz2 rc3 rz3 rc4 rz4
      have vc0 := BlkV.cell kV 0 rfl
      have vz0 := BlkV.frozen kV 0
      have vc1 := BlkV.cell kV 1 rfl
      have vz1 := BlkV.frozen kV 1
      have vc2 := BlkV.cell kV 2 rfl
      have vz2 := BlkV.frozen kV 2
      have vc3 := BlkV.cell kV 3 rfl
      have vz3 := BlkV.frozen kV 3
      have vc4 := BlkV.cell kV 4 rfl
      have vz4 := BlkV.frozen kV 4
      have wc0 := BlkV.cell kW 0 rfl
      have wz0 := BlkV.frozen kW 0
      have wc1 := BlkV.cell kW 1 rfl
      have wz1 := BlkV.frozen kW 1
      have wc2 := BlkV.cell kW 2 rfl
      have wz2 := BlkV.frozen kW 2
      have wc3 := BlkV.cell kW 3 rfl
      have wz3 := BlkV.frozen kW 3
      have wc4 := BlkV.cell kW 4 rfl
      have wz4 := BlkV.frozen kW 4
      have rc0 := BlkV.cell kR 0 rfl
      have rz0 := BlkV.frozen kR 0
      have rc1 := BlkV.cell kR 1 rfl
      have rz1 := BlkV.frozen kR 1
      have rc2 := BlkV.cell kR 2 rfl
      have rz2 := BlkV.frozen kR 2
      have rc3 := BlkV.cell kR 3 rfl
      have rz3 := BlkV.frozen kR 3
      have rc4 := BlkV.cell kR 4 rfl
      have rz4 := BlkV.frozen kR 4
      go_wp2
      have r0 := BlkV.set kR 0 (.bool st)
      have rs0 := BlkV.cell r0 0 rfl
      have r1 := BlkV.set r0 1 (.bool true)
      have rs1 := BlkV.cell r1 1 rfl
      have r2 := BlkV.set r1 2 (.int .u64 0)
      have rs2 := BlkV.cell r2 2 rfl
      have r3 := BlkV.set r2 3 (.int .u64 0)
      have rs3 := BlkV.cell r3 3 rfl
      have r4 := BlkV.set r3 4 (.int .i64 0)
      have rs4 := BlkV.cell r4 4 rfl
      refine bodyPost_ret (by simp [results, Tryz.results123, go_sem, rs0, rs1, rs2, rs3, rs4]; try rfl) rfl ?_
      exact ⟨_, rfl, (((((hF).set (by omega)).set (by omega)).set (by omega)).set (by omega)).set (by omega), ⟨0, 0, rfl, by omega, by omega, rfl⟩⟩
  · by_cases ck : k = 0
    · have enb : (!false && k == 0) = true := by simp [ck]
      simp only [enb] at nb
      clear enb
      have HV : Hid (mulV (s, true, n, x) (t, false, k, y) = none) := hid (by simp [mulV, ck])
      rw [HV.out]
      clear HV
      clear tm
      have Hk := hid ck
      clear ck
      have kV : BlkV (((w.alloc (.cells #[.bool s, .bool true, .int .u64 (a), .int .u64 (b), .int .i64 (x)] 107)).alloc (.cells #[.bool t, .bool false, .int .u64 (c), .int .u64 (d), .int .i64 (y)] 107)).alloc (.cells #[.bool false, .bool false, .int .u64 0, .int .u64 0, .int .i64 0] 107)) (w.heap.size) 107 [.bool s, .bool true, .int .u64 (a), .int .u64 (b), .int .i64 (x)] := ((BlkV.made' w (w.heap.size) (by simp) 107 [.bool s, .bool true, .int .u64 (a), .int .u64 (b), .int .i64 (x)]).alloc _).alloc _
      have kW : BlkV (((w.alloc (.cells #[.bool s, .bool true, .int .u64 (a), .int .u64 (b), .int .i64 (x)] 107)).alloc (.cells #[.bool t, .bool false, .int .u64 (c), .int .u64 (d), .int .i64 (y)] 107)).alloc (.cells #[.bool false, .bool false, .int .u64 0, .int .u64 0, .int .i64 0] 107)) (w.heap.size + 1) 107 [.bool t, .bool false, .int .u64 (c), .int .u64 (d), .int .i64 (y)] := (BlkV.made' (w.alloc (.cells #[.bool s, .bool true, .int .u64 (a), .int .u64 (b), .int .i64 (x)] 107)) (w.heap.size + 1) (by simp) 107 [.bool t, .bool false, .int .u64 (c), .int .u64 (d), .int .i64 (y)]).alloc _
      have kR : BlkV (((w.alloc (.cells #[.bool s, .bool true, .int .u64 (a), .int .u64 (b), .int .i64 (x)] 107)).alloc (.cells #[.bool t, .bool false, .int .u64 (c), .int .u64 (d), .int .i64 (y)] 107)).alloc (.cells #[.bool false, .bool false, .int .u64 0, .int .u64 0, .int .i64 0] 107)) (w.heap.size + 1 + 1) 107 [.bool false, .bool false, .int .u64 0, .int .u64 0, .int .i64 0] := BlkV.made' ((w.alloc (.cells #[.bool s, .bool true, .int .u64 (a), .int .u64 (b), .int .i64 (x)] 107)).alloc (.cells #[.bool t, .bool false, .int .u64 (c), .int .u64 (d), .int .i64 (y)] 107)) (w.heap.size + 1 + 1) (by simp) 107 [.bool false, .bool false, .int .u64 0, .int .u64 0, .int .i64 0]
      have hF : Fwd w (((w.alloc (.cells #[.bool s, .bool true, .int .u64 (a), .int .u64 (b), .int .i64 (x)] 107)).alloc (.cells #[.bool t, .bool false, .int .u64 (c), .int .u64 (d), .int .i64 (y)] 107)).alloc (.cells #[.bool false, .bool false, .int .u64 0, .int .u64 0, .int .i64 0] 107)) := (((Fwd.refl w).alloc _).alloc _).alloc _
      go_enter Tryz.func123, Tryz.ntmps123
      have vc0 := BlkV.cell kV 0 rfl
      have vz0 := BlkV.frozen kV 0
      have vc1 := BlkV.cell kV 1 rfl
      have vz1 := BlkV.frozen kV 1
      have vc2 := BlkV.cell kV 2 rfl
      have vz2 := BlkV.frozen kV 2
      have vc3 := BlkV.cell kV 3 rfl
      have vz3 := BlkV.frozen kV 3
      have vc4 := BlkV.cell kV 4 rfl
      have vz4 := BlkV.frozen kV 4
      have wc0 := BlkV.cell kW 0 rfl
      have wz0 := BlkV.frozen kW 0
      have wc1 := BlkV.cell kW 1 rfl
      have wz1 := BlkV.frozen kW 1
      have wc2 := BlkV.cell kW 2 rfl
      have wz2 := BlkV.frozen kW 2
      have wc3 := BlkV.cell kW 3 rfl
      have wz3 := BlkV.frozen kW 3
      have wc4 := BlkV.cell kW 4 rfl
      have wz4 := BlkV.frozen kW 4
      have rc0 := BlkV.cell kR 0 rfl
      have rz0 := BlkV.frozen kR 0
      have rc1 := BlkV.cell kR 1 rfl
      have rz1 := BlkV.frozen kR 1
      have rc2 := BlkV.cell kR 2 rfl
      have rz2 := BlkV.frozen kR 2
      have rc3 := BlkV.cell kR 3 rfl
      have rz3 := BlkV.frozen kR 3
      have rc4 := BlkV.cell kR 4 rfl
      have rz4 := BlkV.frozen kR 4
      go_wp2_with fail
      refine (nb _).mono ?_
      rintro e w1 ⟨rfl, hf1⟩
      replace kV := kV.fwd hf1
      replace kW := kW.fwd hf1
      replace kR := kR.fwd hf1
      replace hF := hF.trans hf1
      clear hf1
      clear vc0 vz0 vc1 vz1 vc2 vz2 vc3 vz3 vc4 vz4
      clear wc0 wz0 wc1 wz1 wc2 wz2 wc3 wz3 wc4 wz4
      clear rc0 rz0 rc1 rz1 rc2 rz2 rc3 rz3 rc4 rz4
      have vc0 := BlkV.cell kV 0 rfl
      have vz0 := BlkV.frozen kV 0
      have vc1 := BlkV.cell kV 1 rfl
      have vz1 := BlkV.frozen kV 1
      have vc2 := BlkV.cell kV 2 rfl
      have vz2 := BlkV.frozen kV 2
      have vc3 := BlkV.cell kV 3 rfl
      have vz3 := BlkV.frozen kV 3
      have vc4 := BlkV.cell kV 4 rfl
      have vz4 := BlkV.frozen kV 4
      have wc0 := BlkV.cell kW 0 rfl
      have wz0 := BlkV.frozen kW 0
      have wc1 := BlkV.cell kW 1 rfl
      have wz1 := BlkV.frozen kW 1
      have wc2 := BlkV.cell kW 2 rfl
      have wz2 := BlkV.frozen kW 2
      have wc3 := BlkV.cell kW 3 rfl
      have wz3 := BlkV.frozen kW 3
      have wc4 := BlkV.cell kW 4 rfl
      have wz4 := BlkV.frozen kW 4
      have rc0 := BlkV.cell kR 0 rfl
      have rz0 := BlkV.frozen kR 0
      have rc1 := BlkV.cell kR 1 rfl
      have rz1 := BlkV.frozen kR 1
      have rc2 := BlkV.cell kR 2 rfl
      have rz2 := BlkV.frozen kR 2
      have rc3 := BlkV.cell kR 3 rfl
      have rz3 := BlkV.frozen kR 3
      have rc4 := BlkV.cell kR 4 rfl
      have rz4 := BlkV.frozen kR 4
      go_wp2
      have r0 := BlkV.set kR 0 (.bool false)
      have rs0 := BlkV.cell r0 0 rfl
      have r1 := BlkV.set r0 1 (.bool false)
      have rs1 := BlkV.cell r1 1 rfl
      have r2 := BlkV.set r1 2 (.int .u64 0)
      have rs2 := BlkV.cell r2 2 rfl
      have r3 := BlkV.set r2 3 (.int .u64 0)
      have rs3 := BlkV.cell r3 3 rfl
      have r4 := BlkV.set r3 4 (.int .i64 0)
      have rs4 := BlkV.cell r4 4 rfl
      refine bodyPost_ret (by simp [results, Tryz.results123, go_sem, rs0, rs1, rs2, rs3, rs4]; try rfl) rfl ?_
      exact ⟨_, rfl, (((((hF).set (by omega)).set (by omega)).set (by omega)).set (by omega)).set (by omega), ⟨0, 0, rfl, by omega, by omega, rfl⟩⟩
    · have enb : (!false && k == 0) = false := by simp [ck]
      simp only [enb] at nb
      clear enb
      have ena : (!true && n == 0) = false := rfl
      simp only [ena] at na
      clear ena
      have HV : Hid (mulV (s, true, n, x) (t, false, k, y) = some (s != t, true, 0, 0)) := hid (by simp [mulV, ck])
      rw [HV.out]
      clear HV
      clear tm
      have Hk := hid ck
      clear ck
      generalize hst : (s != t) = st at *
      have kV : BlkV (((w.alloc (.cells #[.bool s, .bool true, .int .u64 (a), .int .u64 (b), .int .i64 (x)] 107)).alloc (.cells #[.bool t, .bool false, .int .u64 (c), .int .u64 (d), .int .i64 (y)] 107)).alloc (.cells #[.bool false, .bool false, .int .u64 0, .int .u64 0, .int .i64 0] 107)) (w.heap.size) 107 [.bool s, .bool true, .int .u64 (a), .int .u64 (b), .int .i64 (x)] := ((BlkV.made' w (w.heap.size) (by simp) 107 [.bool s, .bool true, .int .u64 (a), .int .u64 (b), .int .i64 (x)]).alloc _).alloc _
      have kW : BlkV (((w.alloc (.cells #[.bool s, .bool true, .int .u64 (a), .int .u64 (b), .int .i64 (x)] 107)).alloc (.cells #[.bool t, .bool false, .int .u64 (c), .int .u64 (d), .int .i64 (y)] 107)).alloc (.cells #[.bool false, .bool false, .int .u64 0, .int .u64 0, .int .i64 0] 107)) (w.heap.size + 1) 107 [.bool t, .bool false, .int .u64 (c), .int .u64 (d), .int .i64 (y)] := (BlkV.made' (w.alloc (.cells #[.bool s, .bool true, .int .u64 (a), .int .u64 (b), .int .i64 (x)] 107)) (w.heap.size + 1) (by simp) 107 [.bool t, .bool false, .int .u64 (c), .int .u64 (d), .int .i64 (y)]).alloc _
      have kR : BlkV (((w.alloc (.cells #[.bool s, .bool true, .int .u64 (a), .int .u64 (b), .int .i64 (x)] 107)).alloc (.cells #[.bool t, .bool false, .int .u64 (c), .int .u64 (d), .int .i64 (y)] 107)).alloc (.cells #[.bool false, .bool false, .int .u64 0, .int .u64 0, .int .i64 0] 107)) (w.heap.size + 1 + 1) 107 [.bool false, .bool false, .int .u64 0, .int .u64 0, .int .i64 0] := BlkV.made' ((w.alloc (.cells #[.bool s, .bool true, .int .u64 (a), .int .u64 (b), .int .i64 (x)] 107)).alloc (.cells #[.bool t, .bool false, .int .u64 (c), .int .u64 (d), .int .i64 (y)] 107)) (w.heap.size + 1 + 1) (by simp) 107 [.bool false, .bool false, .int .u64 0, .int .u64 0, .int .i64 0]
      have hF : Fwd w (((w.alloc (.cells #[.bool s, .bool true, .int .u64 (a), .int .u64 (b), .int .i64 (x)] 107)).alloc (.cells #[.bool t, .bool false, .int .u64 (c), .int .u64 (d), .int .i64 (y)] 107)).alloc (.cells #[.bool false, .bool false, .int .u64 0, .int .u64 0, .int .i64 0] 107)) := (((Fwd.refl w).alloc _).alloc _).alloc _
      go_enter Tryz.func123, Tryz.ntmps123
      have vc0 := BlkV.cell kV 0 rfl
      have vz0 := BlkV.frozen kV 0
      have vc1 := BlkV.cell kV 1 rfl
      have vz1 := BlkV.frozen kV 1
      have vc2 := BlkV.cell kV 2 rfl
      have vz2 := BlkV.frozen kV 2
      have vc3 := BlkV.cell kV 3 rfl
      have vz3 := BlkV.frozen kV 3
      have vc4 := BlkV.cell kV 4 rfl
      have vz4 := BlkV.frozen kV 4
      have wc0 := BlkV.cell kW 0 rfl
      have wz0 := BlkV.frozen kW 0
      have wc1 := BlkV.cell kW 1 rfl
      have wz1 := BlkV.frozen kW 1
      have wc2 := BlkV.cell kW 2 rfl
      have wz2 := BlkV.frozen kW 2
      have wc3 := BlkV.cell kW 3 rfl
      have wz3 := BlkV.frozen kW 3
      have wc4 := BlkV.cell kW 4 rfl
      have wz4 := BlkV.frozen kW 4
      have rc0 := BlkV.cell kR 0 rfl
      have rz0 := BlkV.frozen kR 0
      have rc1 := BlkV.cell kR 1 rfl
      have rz1 := BlkV.frozen kR 1
      have rc2 := BlkV.cell kR 2 rfl
      have rz2 := BlkV.frozen kR 2
      have rc3 := BlkV.cell kR 3 rfl
      have rz3 := BlkV.frozen kR 3
      have rc4 := BlkV.cell kR 4 rfl
      have rz4 := BlkV.frozen kR 4
      go_wp2_with fail
      refine (nb _).mono ?_
      rintro e w1 ⟨rfl, hf1⟩
      replace kV := kV.fwd hf1
      replace kW := kW.fwd hf1
      replace kR := kR.fwd hf1
      replace hF := hF.trans hf1
      clear hf1
      clear vc0 vz0 vc1 vz1 vc2 vz2 vc3 vz3 vc4 vz4
      clear wc0 wz0 wc1 wz1 wc2 wz2 wc3 wz3 wc4 wz4
      clear rc0 rz0 rc1 rz1 rc2 rz2 rc3 rz3 rc4 rz4
      have vc0 := BlkV.cell kV 0 rfl
      have vz0 := BlkV.frozen kV 0
      have vc1 := BlkV.cell kV 1 rfl
      have vz1 := BlkV.frozen kV 1
      have vc2 := BlkV.cell kV 2 rfl
      have vz2 := BlkV.frozen kV 2
      have vc3 := BlkV.cell kV 3 rfl
      have vz3 := BlkV.frozen kV 3
      have vc4 := BlkV.cell kV 4 rfl
      have vz4 := BlkV.frozen kV 4
      have wc0 := BlkV.cell kW 0 rfl
      have wz0 := BlkV.frozen kW 0
      have wc1 := BlkV.cell kW 1 rfl
      have wz1 := BlkV.frozen kW 1
      have wc2 := BlkV.cell kW 2 rfl
      have wz2 := BlkV.frozen kW 2
      have wc3 := BlkV.cell kW 3 rfl
      have wz3 := BlkV.frozen kW 3
      have wc4 := BlkV.cell kW 4 rfl
      have wz4 := BlkV.frozen kW 4
      have rc0 := BlkV.cell kR 0 rfl
      have rz0 := BlkV.frozen kR 0
      have rc1 := BlkV.cell kR 1 rfl
      have rz1 := BlkV.frozen kR 1
      have rc2 := BlkV.cell kR 2 rfl
      have rz2 := BlkV.frozen kR 2
      have rc3 := BlkV.cell kR 3 rfl
      have rz3 := BlkV.frozen kR 3
      have rc4 := BlkV.cell kR 4 rfl
      have rz4 := BlkV.frozen kR 4
      go_wp2_with fail
      refine (na _).mono ?_
      rintro e w2 ⟨rfl, hf2⟩
      replace kV := kV.fwd hf2
      replace kW := kW.fwd hf2
      replace kR := kR.fwd hf2
      replace hF := hF.trans hf2
      clear hf2
      clear vc0 vz0 vc1 vz1 vc2 vz2 vc3 vz3 vc4 vz4
      clear wc0 wz0 wc1 wz1 wc2 wz2 wc3 wz3 wc4 wz4
      clear rc0 rz0 rc1 rz1 rc2 rz2 rc3 rz3 rc4 rz4
      have vc0 := BlkV.cell kV 0 rfl
      have vz0 := BlkV.frozen kV 0
      have vc1 := BlkV.cell kV 1 rfl
      have vz1 := BlkV.frozen kV 1
      have vc2 := BlkV.cell kV 2 rfl
      have vz2 := BlkV.frozen kV 2
      have vc3 := BlkV.cell kV 3 rfl
      have vz3 := BlkV.frozen kV 3
      have vc4 := BlkV.cell kV 4 rfl
      have vz4 := BlkV.frozen kV 4
      have wc0 := BlkV.cell kW 0 rfl
      have wz0 := BlkV.frozen kW 0
      have wc1 := BlkV.cell kW 1 rfl
      have wz1 := BlkV.frozen kW 1
      have wc2 := BlkV.cell kW 2 rfl
      have wz2 := BlkV.frozen kW 2
      have wc3 := BlkV.cell kW 3 rfl
      have wz3 := BlkV.frozen kW 3
      have wc4 := BlkV.cell kW 4 rfl
      have wz4 := BlkV.frozen kW 4
      have rc0 := BlkV.cell kR 0 rfl
      have rz0 := BlkV.frozen kR 0
      have rc1 := BlkV.cell kR 1 rfl
      have rz1 := BlkV.frozen kR 1
      have rc2 := BlkV.cell kR 2 rfl
      have rz2 := BlkV.frozen kR 2
      have rc3 := BlkV.cell kR 3 rfl
      have rz3 := BlkV.frozen kR 3
      have rc4 := BlkV.cell kR 4 rfl
      have rz4 := BlkV.frozen kR 4
      go_wp2
      have r0 := BlkV.set kR 0 (.bool st)
      have rs0 := BlkV.cell r0 0 rfl
      have r1 := BlkV.set r0 1 (.bool true)
      have rs1 := BlkV.cell r1 1 rfl
      have r2 := BlkV.set r1 2 (.int .u64 0)
      have rs2 := BlkV.cell r2 2 rfl
      have r3 := BlkV.set r2 3 (.int .u64 0)
      have rs3 := BlkV.cell r3 3 rfl
      have r4 := BlkV.set r3 4 (.int .i64 0)
      have rs4 := BlkV.cell r4 4 rfl
      refine bodyPost_ret (by simp [results, Tryz.results123, go_sem, rs0, rs1, rs2, rs3, rs4]; try rfl) rfl ?_
      exact ⟨_, rfl, (((((hF).set (by omega)).set (by omega)).set (by omega)).set (by omega)).set (by omega), ⟨0, 0, rfl, by omega, by omega, rfl⟩⟩
  · have enb : (!true && k == 0) = false := rfl
    simp only [enb] at nb
    clear enb
    have ena : (!true && n == 0) = false := rfl
    simp only [ena] at na
    clear ena
    have HV : Hid (mulV (s, true, n, x) (t, true, k, y) = some (s != t, true, 0, 0)) := hid (by simp [mulV])
    rw [HV.out]
    clear HV
    clear tm
    generalize hst : (s != t) = st at *
    have kV : BlkV (((w.alloc (.cells #[.bool s, .bool true, .int .u64 (a), .int .u64 (b), .int .i64 (x)] 107)).alloc (.cells #[.bool t, .bool true, .int .u64 (c), .int .u64 (d), .int .i64 (y)] 107)).alloc (.cells #[.bool false, .bool false, .int .u64 0, .int .u64 0, .int .i64 0] 107)) (w.heap.size) 107 [.bool s, .bool true, .int .u64 (a), .int .u64 (b), .int .i64 (x)] := ((BlkV.made' w (w.heap.size) (by simp) 107 [.bool s, .bool true, .int .u64 (a), .int .u64 (b), .int .i64 (x)]).alloc _).alloc _
    have kW : BlkV (((w.alloc (.cells #[.bool s, .bool true, .int .u64 (a), .int .u64 (b), .int .i64 (x)] 107)).alloc (.cells #[.bool t, .bool true, .int .u64 (c), .int .u64 (d), .int .i64 (y)] 107)).alloc (.cells #[.bool false, .bool false, .int .u64 0, .int .u64 0, .int .i64 0] 107)) (w.heap.size + 1) 107 [.bool t, .bool true, .int .u64 (c), .int .u64 (d), .int .i64 (y)] := (BlkV.made' (w.alloc (.cells #[.bool s, .bool true, .int .u64 (a), .int .u64 (b), .int .i64 (x)] 107)) (w.heap.size + 1) (by simp) 107 [.bool t, .bool true, .int .u64 (c), .int .u64 (d), .int .i64 (y)]).alloc _
    have kR : BlkV (((w.alloc (.cells #[.bool s, .bool true, .int .u64 (a), .int .u64 (b), .int .i64 (x)] 107)).alloc (.cells #[.bool t, .bool true, .int .u64 (c), .int .u64 (d), .int .i64 (y)] 107)).alloc (.cells #[.bool false, .bool false, .int .u64 0, .int .u64 0, .int .i64 0] 107)) (w.heap.size + 1 + 1) 107 [.bool false, .bool false, .int .u64 0, .int .u64 0, .int .i64 0] := BlkV.made' ((w.alloc (.cells #[.bool s, .bool true, .int .u64 (a), .int .u64 (b), .int .i64 (x)] 107)).alloc (.cells #[.bool t, .bool true, .int .u64 (c), .int .u64 (d), .int .i64 (y)] 107)) (w.heap.size + 1 + 1) (by simp) 107 [.bool false, .bool false, .int .u64 0, .int .u64 0, .int .i64 0]
    have hF : Fwd w (((w.alloc (.cells #[.bool s, .bool true, .int .u64 (a), .int .u64 (b), .int .i64 (x)] 107)).alloc (.cells #[.bool t, .bool true, .int .u64 (c), .int .u64 (d), .int .i64 (y)] 107)).alloc (.cells #[.bool false, .bool false, .int .u64 0, .int .u64 0, .int .i64 0] 107)) := (((Fwd.refl w).alloc _).alloc _).alloc _
    go_enter Tryz.func123, Tryz.ntmps123
    have vc0 := BlkV.cell kV 0 rfl
    have vz0 := BlkV.frozen kV 0
    have vc1 := BlkV.cell kV 1 rfl
    have vz1 := BlkV.frozen kV 1
    have vc2 := BlkV.cell kV 2 rfl
    have vz2 := BlkV.frozen kV 2
    have vc3 := BlkV.cell kV 3 rfl
    have vz3 := BlkV.frozen kV 3
    have vc4 := BlkV.cell kV 4 rfl
    have vz4 := BlkV.frozen kV 4
    have wc0 := BlkV.cell kW 0 rfl
    have wz0 := BlkV.frozen kW 0
    have wc1 := BlkV.cell kW 1 rfl
    have wz1 := BlkV.frozen kW 1
    have wc2 := BlkV.cell kW 2 rfl
    have wz2 := BlkV.frozen kW 2
    have wc3 := BlkV.cell kW 3 rfl
    have wz3 := BlkV.frozen kW 3
    have wc4 := BlkV.cell kW 4 rfl
    have wz4 := BlkV.frozen kW 4
    have rc0 := BlkV.cell kR 0 rfl
    have rz0 := BlkV.frozen kR 0
    have rc1 := BlkV.cell kR 1 rfl
    have rz1 := BlkV.frozen kR 1
    have rc2 := BlkV.cell kR 2 rfl
    have rz2 := BlkV.frozen kR 2
    have rc3 := BlkV.cell kR 3 rfl
    have rz3 := BlkV.frozen kR 3
    have rc4 := BlkV.cell kR 4 rfl
    have rz4 := BlkV.frozen kR 4
    go_wp2_with fail
    refine (nb _).mono ?_
    rintro e w1 ⟨rfl, hf1⟩
    replace kV := kV.fwd hf1
    replace kW := kW.fwd hf1
    replace kR := kR.fwd hf1
    replace hF := hF.trans hf1
    clear hf1
    clear vc0 vz0 vc1 vz1 vc2 vz2 vc3 vz3 vc4 vz4
    clear wc0 wz0 wc1 wz1 wc2 wz2 wc3 wz3 wc4 wz4
    clear rc0 rz0 rc1 rz1 rc2 rz2 rc3 rz3 rc4 rz4
    have vc0 := BlkV.cell kV 0 rfl
    have vz0 := BlkV.frozen kV 0
    have vc1 := BlkV.cell kV 1 rfl
    have vz1 := BlkV.frozen kV 1
    have vc2 := BlkV.cell kV 2 rfl
    have vz2 := BlkV.frozen kV 2
    have vc3 := BlkV.cell kV 3 rfl
    have vz3 := BlkV.frozen kV 3
    have vc4 := BlkV.cell kV 4 rfl
    have vz4 := BlkV.frozen kV 4
    have wc0 := BlkV.cell kW 0 rfl
    have wz0 := BlkV.frozen kW 0
    have wc1 := BlkV.cell kW 1 rfl
    have wz1 := BlkV.frozen kW 1
    have wc2 := BlkV.cell kW 2 rfl
    have wz2 := BlkV.frozen kW 2
    have wc3 := BlkV.cell kW 3 rfl
    have wz3 := BlkV.frozen kW 3
    have wc4 := BlkV.cell kW 4 rfl
    have wz4 := BlkV.frozen kW 4
    have rc0 := BlkV.cell kR 0 rfl
    have rz0 := BlkV.frozen kR 0
    have rc1 := BlkV.cell kR 1 rfl
    have rz1 := BlkV.frozen kR 1
    have rc2 := BlkV.cell kR 2 rfl
    have rz2 := BlkV.frozen kR 2
    have rc3 := BlkV.cell kR 3 rfl
    have rz3 := BlkV.frozen kR 3
    have rc4 := BlkV.cell kR 4 rfl
    have rz4 := BlkV.frozen kR 4
    go_wp2_with fail
    refine (na _).mono ?_
    rintro e w2 ⟨rfl, hf2⟩
    replace kV := kV.fwd hf2
    replace kW := kW.fwd hf2
    replace kR := kR.fwd hf2
    replace hF := hF.trans hf2
    clear hf2
    clear vc0 vz0 vc1 vz1 vc2 vz2 vc3 vz3 vc4 vz4
    clear wc0 wz0 wc1 wz1 wc2 wz2 wc3 wz3 wc4 wz4
    clear rc0 rz0 rc1 rz1 rc2 rz2 rc3 rz3 rc4 rz4
    have vc0 := BlkV.cell kV 0 rfl
    have vz0 := BlkV.frozen kV 0
    have vc1 := BlkV.cell kV 1 rfl
    have vz1 := BlkV.frozen kV 1
    have vc2 := BlkV.cell kV 2 rfl
    have vz2 := BlkV.frozen kV 2
    have vc3 := BlkV.cell kV 3 rfl
    have vz3 := BlkV.frozen kV 3
    have vc4 := BlkV.cell kV 4 rfl
    have vz4 := BlkV.frozen kV 4
    have wc0 := BlkV.cell kW 0 rfl
    have wz0 := BlkV.frozen kW 0
    have wc1 := BlkV.cell kW 1 rfl
    have wz1 := BlkV.frozen kW 1
    have wc2 := BlkV.cell kW 2 rfl
    have wz2 := BlkV.frozen kW 2
    have wc3 := BlkV.cell kW 3 rfl
    have wz3 := BlkV.frozen kW 3
    have wc4 := BlkV.cell kW 4 rfl
    have wz4 := BlkV.frozen kW 4
    have rc0 := BlkV.cell kR 0 rfl
    have rz0 := BlkV.frozen kR 0
    have rc1 := BlkV.cell kR 1 rfl
    have rz1 := BlkV.frozen kR 1
    have rc2 := BlkV.cell kR 2 rfl
    have rz2 := BlkV.frozen kR 2
    have rc3 := BlkV.cell kR 3 rfl
    have rz3 := BlkV.frozen kR 3
    have rc4 := BlkV.cell kR 4 rfl
    have rz4 := BlkV.frozen kR 4
    go_wp2
    have r0 := BlkV.set kR 0 (.bool st)
    have rs0 := BlkV.cell r0 0 rfl
    have r1 := BlkV.set r0 1 (.bool true)
    have rs1 := BlkV.cell r1 1 rfl
    have r2 := BlkV.set r1 2 (.int .u64 0)
    have rs2 := BlkV.cell r2 2 rfl
    have r3 := BlkV.set r2 3 (.int .u64 0)
    have rs3 := BlkV.cell r3 3 rfl
    have r4 := BlkV.set r3 4 (.int .i64 0)
    have rs4 := BlkV.cell r4 4 rfl
    refine bodyPost_ret (by simp [results, Tryz.results123, go_sem, rs0, rs1, rs2, rs3, rs4]; try rfl) rfl ?_
    exact ⟨_, rfl, (((((hF).set (by omega)).set (by omega)).set (by omega)).set (by omega)).set (by omega), ⟨0, 0, rfl, by omega, by omega, rfl⟩⟩
end Go.Proofs.YtcfhajnboamnnabGreatDoor

namespace Go.Proofs.YtcfhajnboamnnabGreatDoor
open Go.RowKit
set_option linter.unusedVariables false

theorem Fwd.undrew' {a w : World} (h : Fwd a w) : Fwd a.drew w := ⟨h.os, h.tape, h.output, h.size, h.block⟩
theorem cell_drew_alloc' {w : World} {o : Obj} {p : Addr} {v : Value} (h : w.drew.cell? p = some v) : (w.alloc o).drew.cell? p = some v := Fwd.cell ((Fwd.refl w).alloc o) h
theorem farset5 {w : World} {g : Nat} {a b c d e v : Value} {p : Addr} (h : p.block ≠ g) (hc : w.cell? p = some v) : (((((w.setCell ⟨g, 0, none⟩ a).setCell ⟨g, 1, none⟩ b).setCell ⟨g, 2, none⟩ c).setCell ⟨g, 3, none⟩ d).setCell ⟨g, 4, none⟩ e).cell? p = some v :=
  farset h (farset h (farset h (farset h (farset h hc))))
theorem mulV_small {s en : Bool} {n : Nat} {x : Int} {t em : Bool} {k : Nat} {y : Int} (hn : n < 9007199254740992) (hk : k < 9007199254740992) (h1 : -10000 ≤ x) (h2 : x ≤ 10000) (h3 : -10000 ≤ y) (h4 : y ≤ 10000) :
    blen ((mulV (s, en, n, x) (t, em, k, y)).getD (false, false, 0, 0)).2.2.1 ≤ 127 ∧ -20000 ≤ ((mulV (s, en, n, x) (t, em, k, y)).getD (false, false, 0, 0)).2.2.2 ∧ ((mulV (s, en, n, x) (t, em, k, y)).getD (false, false, 0, 0)).2.2.2 ≤ 20000 := by
  have hz : blen 0 ≤ 127 := by decide
  have hp : blen (n * k) ≤ 127 := by
    refine blen_of_lt (Nat.lt_of_le_of_lt (Nat.mul_le_mul (Nat.le_of_lt_succ hn) (Nat.le_of_lt_succ hk)) (by decide))
  unfold mulV
  split
  · exact ⟨hz, by decide, by decide⟩
  · split
    · exact ⟨hz, by simp, by simp⟩
    · exact ⟨hp, by simp; omega, by simp; omega⟩

set_option maxHeartbeats 8000000 in
set_option maxRecDepth 100000 in
theorem sum_any {w : World} {g : Nat} {T : TypeId} {s en t em : Bool} {a b n c d k : Nat} {x y : Int} (m : Int) (hn : VV (.agg #[.bool s, .bool en, .int .u64 (a), .int .u64 (b), .int .i64 (x)]) s en n x) (hk : VV (.agg #[.bool t, .bool em, .int .u64 (c), .int .u64 (d), .int .i64 (y)]) t em k y) (hB : BlkV w g T [.bool s, .bool en, .int .u64 (a), .int .u64 (b), .int .i64 (x), .bool t, .bool em, .int .u64 (c), .int .u64 (d), .int .i64 (y)]) (hn0 : n < 9007199254740992) (hn1 : -10000 ≤ x) (hn2 : x ≤ 10000) (hk0 : k < 9007199254740992) (hk1 : -10000 ≤ y) (hk2 : y ≤ 10000) :
    Calls Tryz.prog 100 #[ruleV m, .slice (some ⟨g, 0, none⟩) 2 2] w fun e w' => e = .returned (.tuple #[.int .u64 ((addV m (s, en, n, x) (t, em, k, y)).1 : Nat), .int .i64 ((addV m (s, en, n, x) (t, em, k, y)).2 : Nat)]) ∧ Fwd w w' := by
  have ad := fun w => add_any (w := w) m hn hk (blen_of_lt (k := 127) (Nat.lt_trans hn0 (by decide))) (blen_of_lt (k := 127) (Nat.lt_trans hk0 (by decide))) (by omega) (by omega) (by omega) (by omega)
  unfold ruleV at ad
  generalize addV m (s, en, n, x) (t, em, k, y) = A at *
  obtain ⟨z1, z2⟩ := A
  have hlt := BlkV.lt hB
  unfold ruleV
  have kQ : BlkV (w.alloc (.cells #[.int .u8 (rAbove m), .int .u8 (rBelow m), .bool (rMinus m)] 97)) (w.heap.size) 97 [.int .u8 (rAbove m), .int .u8 (rBelow m), .bool (rMinus m)] := BlkV.made' w (w.heap.size) (by simp) 97 [.int .u8 (rAbove m), .int .u8 (rBelow m), .bool (rMinus m)]
  have hF : Fwd w (w.alloc (.cells #[.int .u8 (rAbove m), .int .u8 (rBelow m), .bool (rMinus m)] 97)) := (Fwd.refl w).alloc _
  have kB : BlkV (w.alloc (.cells #[.int .u8 (rAbove m), .int .u8 (rBelow m), .bool (rMinus m)] 97)) g T [.bool s, .bool en, .int .u64 (a), .int .u64 (b), .int .i64 (x), .bool t, .bool em, .int .u64 (c), .int .u64 (d), .int .i64 (y)] := hB.fwd hF
  clear hB
  go_enter Tryz.func100, Tryz.ntmps100
  have qc0 := BlkV.cell kQ 0 rfl
  have qz0 := BlkV.frozen kQ 0
  have qc1 := BlkV.cell kQ 1 rfl
  have qz1 := BlkV.frozen kQ 1
  have qc2 := BlkV.cell kQ 2 rfl
  have qz2 := BlkV.frozen kQ 2
  have bc0 := BlkV.cell kB 0 rfl
  have bz0 := BlkV.frozen kB 0
  have bc1 := BlkV.cell kB 1 rfl
  have bz1 := BlkV.frozen kB 1
  have bc2 := BlkV.cell kB 2 rfl
  have bz2 := BlkV.frozen kB 2
  have bc3 := BlkV.cell kB 3 rfl
  have bz3 := BlkV.frozen kB 3
  have bc4 := BlkV.cell kB 4 rfl
  have bz4 := BlkV.frozen kB 4
  have bc5 := BlkV.cell kB 5 rfl
  have bz5 := BlkV.frozen kB 5
  have bc6 := BlkV.cell kB 6 rfl
  have bz6 := BlkV.frozen kB 6
  have bc7 := BlkV.cell kB 7 rfl
  have bz7 := BlkV.frozen kB 7
  have bc8 := BlkV.cell kB 8 rfl
  have bz8 := BlkV.frozen kB 8
  have bc9 := BlkV.cell kB 9 rfl
  have bz9 := BlkV.frozen kB 9
  go_wp2_with fail
  replace kQ := kQ.drew
  replace kB := kB.drew
  replace hF := hF.drew
  clear qc0 qz0 qc1 qz1 qc2 qz2
  clear bc0 bz0 bc1 bz1 bc2 bz2 bc3 bz3 bc4 bz4 bc5 bz5 bc6 bz6 bc7 bz7 bc8 bz8 bc9 bz9
  have qc0 := BlkV.cell kQ 0 rfl
  have qz0 := BlkV.frozen kQ 0
  have qc1 := BlkV.cell kQ 1 rfl
  have qz1 := BlkV.frozen kQ 1
  have qc2 := BlkV.cell kQ 2 rfl
  have qz2 := BlkV.frozen kQ 2
  have bc0 := BlkV.cell kB 0 rfl
  have bz0 := BlkV.frozen kB 0
  have bc1 := BlkV.cell kB 1 rfl
  have bz1 := BlkV.frozen kB 1
  have bc2 := BlkV.cell kB 2 rfl
  have bz2 := BlkV.frozen kB 2
  have bc3 := BlkV.cell kB 3 rfl
  have bz3 := BlkV.frozen kB 3
  have bc4 := BlkV.cell kB 4 rfl
  have bz4 := BlkV.frozen kB 4
  have bc5 := BlkV.cell kB 5 rfl
  have bz5 := BlkV.frozen kB 5
  have bc6 := BlkV.cell kB 6 rfl
  have bz6 := BlkV.frozen kB 6
  have bc7 := BlkV.cell kB 7 rfl
  have bz7 := BlkV.frozen kB 7
  have bc8 := BlkV.cell kB 8 rfl
  have bz8 := BlkV.frozen kB 8
  have bc9 := BlkV.cell kB 9 rfl
  have bz9 := BlkV.frozen kB 9
  go_region_held3 (fun w' => w'.cell? ⟨w.heap.size, 0, none⟩ = some (.int .u8 (rAbove m)) ∧ w'.cell? ⟨w.heap.size, 1, none⟩ = some (.int .u8 (rBelow m)) ∧ w'.cell? ⟨w.heap.size, 2, none⟩ = some (.bool (rMinus m)) ∧ w'.cell? ⟨g, 0, none⟩ = some (.bool s) ∧ w'.cell? ⟨g, 1, none⟩ = some (.bool en) ∧ w'.cell? ⟨g, 2, none⟩ = some (.int .u64 (a)) ∧ w'.cell? ⟨g, 3, none⟩ = some (.int .u64 (b)) ∧ w'.cell? ⟨g, 4, none⟩ = some (.int .i64 (x)) ∧ w'.cell? ⟨g, 5, none⟩ = some (.bool t) ∧ w'.cell? ⟨g, 6, none⟩ = some (.bool em) ∧ w'.cell? ⟨g, 7, none⟩ = some (.int .u64 (c)) ∧ w'.cell? ⟨g, 8, none⟩ = some (.int .u64 (d)) ∧ w'.cell? ⟨g, 9, none⟩ = some (.int .i64 (y)))
    (first | exact ⟨by with_reducible assumption, by with_reducible assumption, by with_reducible assumption, by with_reducible assumption, by with_reducible assumption, by with_reducible assumption, by with_reducible assumption, by with_reducible assumption, by with_reducible assumption, by with_reducible assumption, by with_reducible assumption, by with_reducible assumption, by with_reducible assumption⟩ | exact ⟨(farset (by simp; try omega) (farset (by simp; try omega) (farset (by simp; try omega) (farset (by simp; try omega) (farset (by simp; try omega) (by with_reducible assumption)))))), (farset (by simp; try omega) (farset (by simp; try omega) (farset (by simp; try omega) (farset (by simp; try omega) (farset (by simp; try omega) (by with_reducible assumption)))))), (farset (by simp; try omega) (farset (by simp; try omega) (farset (by simp; try omega) (farset (by simp; try omega) (farset (by simp; try omega) (by with_reducible assumption)))))), (farset (by simp; try omega) (farset (by simp; try omega) (farset (by simp; try omega) (farset (by simp; try omega) (farset (by simp; try omega) (by with_reducible assumption)))))), (farset (by simp; try omega) (farset (by simp; try omega) (farset (by simp; try omega) (farset (by simp; try omega) (farset (by simp; try omega) (by with_reducible assumption)))))), (farset (by simp; try omega) (farset (by simp; try omega) (farset (by simp; try omega) (farset (by simp; try omega) (farset (by simp; try omega) (by with_reducible assumption)))))), (farset (by simp; try omega) (farset (by simp; try omega) (farset (by simp; try omega) (farset (by simp; try omega) (farset (by simp; try omega) (by with_reducible assumption)))))), (farset (by simp; try omega) (farset (by simp; try omega) (farset (by simp; try omega) (farset (by simp; try omega) (farset (by simp; try omega) (by with_reducible assumption)))))), (farset (by simp; try omega) (farset (by simp; try omega) (farset (by simp; try omega) (farset (by simp; try omega) (farset (by simp; try omega) (by with_reducible assumption)))))), (farset (by simp; try omega) (farset (by simp; try omega) (farset (by simp; try omega) (farset (by simp; try omega) (farset (by simp; try omega) (by with_reducible assumption)))))), (farset (by simp; try omega) (farset (by simp; try omega) (farset (by simp; try omega) (farset (by simp; try omega) (farset (by simp; try omega) (by with_reducible assumption)))))), (farset (by simp; try omega) (farset (by simp; try omega) (farset (by simp; try omega) (farset (by simp; try omega) (farset (by simp; try omega) (by with_reducible assumption)))))), (farset (by simp; try omega) (farset (by simp; try omega) (farset (by simp; try omega) (farset (by simp; try omega) (farset (by simp; try omega) (by with_reducible assumption))))))⟩)
    (first
      | (go_at_call 122
         refine (ad _).mono ?_
         rintro e w1 ⟨rfl, hf1⟩
         replace kQ := kQ.fwd hf1
         replace kB := kB.fwd hf1
         replace hF := hF.trans hf1
         clear hf1
         clear qc0 qz0 qc1 qz1 qc2 qz2
         clear bc0 bz0 bc1 bz1 bc2 bz2 bc3 bz3 bc4 bz4 bc5 bz5 bc6 bz6 bc7 bz7 bc8 bz8 bc9 bz9
         have qc0 := BlkV.cell kQ 0 rfl
         have qz0 := BlkV.frozen kQ 0
         have qc1 := BlkV.cell kQ 1 rfl
         have qz1 := BlkV.frozen kQ 1
         have qc2 := BlkV.cell kQ 2 rfl
         have qz2 := BlkV.frozen kQ 2
         have bc0 := BlkV.cell kB 0 rfl
         have bz0 := BlkV.frozen kB 0
         have bc1 := BlkV.cell kB 1 rfl
         have bz1 := BlkV.frozen kB 1
         have bc2 := BlkV.cell kB 2 rfl
         have bz2 := BlkV.frozen kB 2
         have bc3 := BlkV.cell kB 3 rfl
         have bz3 := BlkV.frozen kB 3
         have bc4 := BlkV.cell kB 4 rfl
         have bz4 := BlkV.frozen kB 4
         have bc5 := BlkV.cell kB 5 rfl
         have bz5 := BlkV.frozen kB 5
         have bc6 := BlkV.cell kB 6 rfl
         have bz6 := BlkV.frozen kB 6
         have bc7 := BlkV.cell kB 7 rfl
         have bz7 := BlkV.frozen kB 7
         have bc8 := BlkV.cell kB 8 rfl
         have bz8 := BlkV.frozen kB 8
         have bc9 := BlkV.cell kB 9 rfl
         have bz9 := BlkV.frozen kB 9))
  go_wp2
  go_ret2
  exact ⟨ret_pair rfl rfl, hF⟩

set_option maxHeartbeats 8000000 in
set_option maxRecDepth 100000 in
theorem product_of {w : World} {g : Nat} {T : TypeId} {s en t em : Bool} {a b n c d k : Nat} {x y : Int} (m : Int) (hn : VV (.agg #[.bool s, .bool en, .int .u64 (a), .int .u64 (b), .int .i64 (x)]) s en n x) (hk : VV (.agg #[.bool t, .bool em, .int .u64 (c), .int .u64 (d), .int .i64 (y)]) t em k y) (hB : BlkV w g T [.bool s, .bool en, .int .u64 (a), .int .u64 (b), .int .i64 (x), .bool t, .bool em, .int .u64 (c), .int .u64 (d), .int .i64 (y)]) (hn0 : n < 9007199254740992) (hn1 : -10000 ≤ x) (hn2 : x ≤ 10000) (hk0 : k < 9007199254740992) (hk1 : -10000 ≤ y) (hk2 : y ≤ 10000) :
    Calls Tryz.prog 103 #[ruleV m, .slice (some ⟨g, 0, none⟩) 2 2] w fun e w' => e = .returned (.tuple #[.int .u64 ((withMul (mulV (s, en, n, x) (t, em, k, y)) (rdV m)).1 : Nat), .int .i64 ((withMul (mulV (s, en, n, x) (t, em, k, y)) (rdV m)).2 : Nat)]) ∧ Fwd w w' := by
  have mu := fun w => multiply_any (w := w) hn hk (by omega) (by omega) (by omega) (by omega) (by omega) (by omega)
  have hb : blen ((mulV (s, en, n, x) (t, em, k, y)).getD (false, false, 0, 0)).2.2.1 ≤ 127 ∧ -20000 ≤ ((mulV (s, en, n, x) (t, em, k, y)).getD (false, false, 0, 0)).2.2.2 ∧ ((mulV (s, en, n, x) (t, em, k, y)).getD (false, false, 0, 0)).2.2.2 ≤ 20000 := mulV_small hn0 hk0 (by omega) (by omega) (by omega) (by omega)
  have HV : Hid (withMul (mulV (s, en, n, x) (t, em, k, y)) (rdV m) = if (mulV (s, en, n, x) (t, em, k, y)).isSome then rdV m ((mulV (s, en, n, x) (t, em, k, y)).getD (false, false, 0, 0)) else ((9221120237041090560 : Nat), (16 : Nat))) := hid (by cases mulV (s, en, n, x) (t, em, k, y) <;> rfl)
  generalize withMul (mulV (s, en, n, x) (t, em, k, y)) (rdV m) = Z at *
  generalize (mulV (s, en, n, x) (t, em, k, y)).getD (false, false, 0, 0) = P at *
  generalize (mulV (s, en, n, x) (t, em, k, y)).isSome = is at *
  obtain ⟨ps, pe, pn, px⟩ := P
  obtain ⟨z1, z2⟩ := Z
  simp only at hb HV
  have hlt := BlkV.lt hB
  unfold ruleV
  have kQ : BlkV (w.alloc (.cells #[.int .u8 (rAbove m), .int .u8 (rBelow m), .bool (rMinus m)] 97)) (w.heap.size) 97 [.int .u8 (rAbove m), .int .u8 (rBelow m), .bool (rMinus m)] := BlkV.made' w (w.heap.size) (by simp) 97 [.int .u8 (rAbove m), .int .u8 (rBelow m), .bool (rMinus m)]
  have hF : Fwd w (w.alloc (.cells #[.int .u8 (rAbove m), .int .u8 (rBelow m), .bool (rMinus m)] 97)) := (Fwd.refl w).alloc _
  have kB : BlkV (w.alloc (.cells #[.int .u8 (rAbove m), .int .u8 (rBelow m), .bool (rMinus m)] 97)) g T [.bool s, .bool en, .int .u64 (a), .int .u64 (b), .int .i64 (x), .bool t, .bool em, .int .u64 (c), .int .u64 (d), .int .i64 (y)] := hB.fwd hF
  clear hB
  go_enter Tryz.func103, Tryz.ntmps103
  have qc0 := BlkV.cell kQ 0 rfl
  have qz0 := BlkV.frozen kQ 0
  have qc1 := BlkV.cell kQ 1 rfl
  have qz1 := BlkV.frozen kQ 1
  have qc2 := BlkV.cell kQ 2 rfl
  have qz2 := BlkV.frozen kQ 2
  have bc0 := BlkV.cell kB 0 rfl
  have bz0 := BlkV.frozen kB 0
  have bc1 := BlkV.cell kB 1 rfl
  have bz1 := BlkV.frozen kB 1
  have bc2 := BlkV.cell kB 2 rfl
  have bz2 := BlkV.frozen kB 2
  have bc3 := BlkV.cell kB 3 rfl
  have bz3 := BlkV.frozen kB 3
  have bc4 := BlkV.cell kB 4 rfl
  have bz4 := BlkV.frozen kB 4
  have bc5 := BlkV.cell kB 5 rfl
  have bz5 := BlkV.frozen kB 5
  have bc6 := BlkV.cell kB 6 rfl
  have bz6 := BlkV.frozen kB 6
  have bc7 := BlkV.cell kB 7 rfl
  have bz7 := BlkV.frozen kB 7
  have bc8 := BlkV.cell kB 8 rfl
  have bz8 := BlkV.frozen kB 8
  have bc9 := BlkV.cell kB 9 rfl
  have bz9 := BlkV.frozen kB 9
  go_upto_region 1 with fail
  go_cut [6, 7] (fun pX qX wx => ∃ (gx a' b' : Nat), pX = .pointer (some ⟨gx, 0, none⟩) ∧ qX = .bool is ∧ w.heap.size + 1 ≤ gx ∧ (a' < 18446744073709551616 ∧ b' < 18446744073709551616 ∧ Hid (pn = a' * 18446744073709551616 + b')) ∧ BlkV wx gx 107 [.bool ps, .bool pe, .int .u64 (a'), .int .u64 (b'), .int .i64 (px)] ∧ BlkV wx w.heap.size 97 [.int .u8 (rAbove m), .int .u8 (rBelow m), .bool (rMinus m)] ∧ BlkV wx g T [.bool s, .bool en, .int .u64 (a), .int .u64 (b), .int .i64 (x), .bool t, .bool em, .int .u64 (c), .int .u64 (d), .int .i64 (y)] ∧ Fwd w wx)
  case first =>
    replace kQ := kQ.drew
    replace kB := kB.drew
    replace hF := hF.drew
    clear qc0 qz0 qc1 qz1 qc2 qz2
    clear bc0 bz0 bc1 bz1 bc2 bz2 bc3 bz3 bc4 bz4 bc5 bz5 bc6 bz6 bc7 bz7 bc8 bz8 bc9 bz9
    have qc0 := BlkV.cell kQ 0 rfl
    have qc1 := BlkV.cell kQ 1 rfl
    have qc2 := BlkV.cell kQ 2 rfl
    have bc0 := BlkV.cell kB 0 rfl
    have bc1 := BlkV.cell kB 1 rfl
    have bc2 := BlkV.cell kB 2 rfl
    have bc3 := BlkV.cell kB 3 rfl
    have bc4 := BlkV.cell kB 4 rfl
    have bc5 := BlkV.cell kB 5 rfl
    have bc6 := BlkV.cell kB 6 rfl
    have bc7 := BlkV.cell kB 7 rfl
    have bc8 := BlkV.cell kB 8 rfl
    have bc9 := BlkV.cell kB 9 rfl
    have neQ : w.heap.size ≠ w.heap.size + 1 := by omega
    have neB : g ≠ w.heap.size + 1 := by omega
    go_region_held3 (fun w' => w'.cell? ⟨w.heap.size, 0, none⟩ = some (.int .u8 (rAbove m)) ∧ w'.cell? ⟨w.heap.size, 1, none⟩ = some (.int .u8 (rBelow m)) ∧ w'.cell? ⟨w.heap.size, 2, none⟩ = some (.bool (rMinus m)) ∧ w'.cell? ⟨g, 0, none⟩ = some (.bool s) ∧ w'.cell? ⟨g, 1, none⟩ = some (.bool en) ∧ w'.cell? ⟨g, 2, none⟩ = some (.int .u64 (a)) ∧ w'.cell? ⟨g, 3, none⟩ = some (.int .u64 (b)) ∧ w'.cell? ⟨g, 4, none⟩ = some (.int .i64 (x)) ∧ w'.cell? ⟨g, 5, none⟩ = some (.bool t) ∧ w'.cell? ⟨g, 6, none⟩ = some (.bool em) ∧ w'.cell? ⟨g, 7, none⟩ = some (.int .u64 (c)) ∧ w'.cell? ⟨g, 8, none⟩ = some (.int .u64 (d)) ∧ w'.cell? ⟨g, 9, none⟩ = some (.int .i64 (y)))
      (refine ⟨?_, ?_, ?_, ?_, ?_, ?_, ?_, ?_, ?_, ?_, ?_, ?_, ?_⟩ <;> first | with_reducible assumption | with_reducible exact Fwd.cell ((Fwd.refl _).alloc _) (by with_reducible assumption) | with_reducible exact cell_drew_alloc' (by with_reducible assumption) | exact farset5 neQ (by with_reducible assumption) | exact farset5 neB (by with_reducible assumption))
      (first
        | (go_at_call 123
           refine (mu _).mono ?_
           rintro e w1 ⟨r, rfl, hf, a', b', rfl, p1, p2, hp⟩
           have HP := hid hp
           clear hp
           first
           | (have hfJ : Fwd (w.alloc (.cells #[.int .u8 (rAbove m), .int .u8 (rBelow m), .bool (rMinus m)] 97)).drew ((w.alloc (.cells #[.int .u8 (rAbove m), .int .u8 (rBelow m), .bool (rMinus m)] 97)).alloc (.cells #[.bool false, .bool false, .int .u64 0, .int .u64 0, .int .i64 0] 107)).drew := ((Fwd.refl _).alloc _).undrew'.drew
              have kJ := (BlkV.drew (BlkV.made' (w.alloc (.cells #[.int .u8 (rAbove m), .int .u8 (rBelow m), .bool (rMinus m)] 97)) (w.heap.size + 1) (by simp) 107 [.bool false, .bool false, .int .u64 0, .int .u64 0, .int .i64 0])).fwd hf
              replace hf := hfJ.trans hf
              clear hfJ
              replace kQ := kQ.fwd hf
              replace kB := kB.fwd hf
              replace hF := hF.trans hf
              clear hf
              clear qc0 qc1 qc2
              clear bc0 bc1 bc2 bc3 bc4 bc5 bc6 bc7 bc8 bc9
              have qc0 := BlkV.cell kQ 0 rfl
              have qc1 := BlkV.cell kQ 1 rfl
              have qc2 := BlkV.cell kQ 2 rfl
              have bc0 := BlkV.cell kB 0 rfl
              have bc1 := BlkV.cell kB 1 rfl
              have bc2 := BlkV.cell kB 2 rfl
              have bc3 := BlkV.cell kB 3 rfl
              have bc4 := BlkV.cell kB 4 rfl
              have bc5 := BlkV.cell kB 5 rfl
              have bc6 := BlkV.cell kB 6 rfl
              have bc7 := BlkV.cell kB 7 rfl
              have bc8 := BlkV.cell kB 8 rfl
              have bc9 := BlkV.cell kB 9 rfl
              have jc0 := BlkV.cell kJ 0 rfl
              have jc1 := BlkV.cell kJ 1 rfl
              have jc2 := BlkV.cell kJ 2 rfl
              have jc3 := BlkV.cell kJ 3 rfl
              have jc4 := BlkV.cell kJ 4 rfl
              have jz0 := BlkV.frozen kJ 0
              have jz1 := BlkV.frozen kJ 1
              have jz2 := BlkV.frozen kJ 2
              have jz3 := BlkV.frozen kJ 3
              have jz4 := BlkV.frozen kJ 4)
           | (replace kQ := kQ.fwd hf
              replace kB := kB.fwd hf
              replace hF := hF.trans hf
              clear hf
              clear qc0 qc1 qc2
              clear bc0 bc1 bc2 bc3 bc4 bc5 bc6 bc7 bc8 bc9
              have qc0 := BlkV.cell kQ 0 rfl
              have qc1 := BlkV.cell kQ 1 rfl
              have qc2 := BlkV.cell kQ 2 rfl
              have bc0 := BlkV.cell kB 0 rfl
              have bc1 := BlkV.cell kB 1 rfl
              have bc2 := BlkV.cell kB 2 rfl
              have bc3 := BlkV.cell kB 3 rfl
              have bc4 := BlkV.cell kB 4 rfl
              have bc5 := BlkV.cell kB 5 rfl
              have bc6 := BlkV.cell kB 6 rfl
              have bc7 := BlkV.cell kB 7 rfl
              have bc8 := BlkV.cell kB 8 rfl
              have bc9 := BlkV.cell kB 9 rfl
              have ltQ := BlkV.lt kQ
              have ltB := BlkV.lt kB)))
    all_goals
      first
      | (have _ := kJ
         have hz := ((((BlkV.set kJ 0 (.bool ps)).set 1 (.bool pe)).set 2 (.int .u64 (a'))).set 3 (.int .u64 (b'))).set 4 (.int .i64 (px))
         have hon := ((((BlkV.on kJ 0 (.bool ps)).setv 1 (.bool pe)).setv 2 (.int .u64 (a'))).setv 3 (.int .u64 (b'))).setv 4 (.int .i64 (px))
         replace kQ := BlkV.only kQ hon (by omega)
         replace kB := BlkV.only kB hon (by omega)
         replace hF := hF.wrote hon (by omega)
         go_wp2_with fail
         go_meet
         exact ⟨_, a', b', rfl, rfl, by omega, ⟨p1, p2, HP⟩, hz, kQ, kB, hF⟩)
      | (have hsz := hF.size
         have hltQ := BlkV.lt kQ
         have hfJ : Fwd w1 (w1.alloc (.cells #[.bool ps, .bool pe, .int .u64 (a'), .int .u64 (b'), .int .i64 (px)] 107)) := (Fwd.refl _).alloc _
         have hz := BlkV.made w1 107 [.bool ps, .bool pe, .int .u64 (a'), .int .u64 (b'), .int .i64 (px)]
         replace kQ := kQ.fwd hfJ
         replace kB := kB.fwd hfJ
         replace hF := hF.trans hfJ
         go_wp2_with fail
         go_meet
         exact ⟨_, a', b', rfl, rfl, by omega, ⟨p1, p2, HP⟩, hz, kQ, kB, hF⟩)
  case rest =>
  clear hF kQ kB mu qc0 qz0 qc1 qz1 qc2 qz2 bc0 bz0 bc1 bz1 bc2 bz2 bc3 bz3 bc4 bz4 bc5 bz5 bc6 bz6 bc7 bz7 bc8 bz8 bc9 bz9
  obtain ⟨gx, a', b', rfl, rfl, hgx, ⟨p1, p2, HP⟩, kX, kQ, kB, hF⟩ := hcut
  have qc0 := BlkV.cell kQ 0 rfl
  have qz0 := BlkV.frozen kQ 0
  have qc1 := BlkV.cell kQ 1 rfl
  have qz1 := BlkV.frozen kQ 1
  have qc2 := BlkV.cell kQ 2 rfl
  have qz2 := BlkV.frozen kQ 2
  have bc0 := BlkV.cell kB 0 rfl
  have bz0 := BlkV.frozen kB 0
  have bc1 := BlkV.cell kB 1 rfl
  have bz1 := BlkV.frozen kB 1
  have bc2 := BlkV.cell kB 2 rfl
  have bz2 := BlkV.frozen kB 2
  have bc3 := BlkV.cell kB 3 rfl
  have bz3 := BlkV.frozen kB 3
  have bc4 := BlkV.cell kB 4 rfl
  have bz4 := BlkV.frozen kB 4
  have bc5 := BlkV.cell kB 5 rfl
  have bz5 := BlkV.frozen kB 5
  have bc6 := BlkV.cell kB 6 rfl
  have bz6 := BlkV.frozen kB 6
  have bc7 := BlkV.cell kB 7 rfl
  have bz7 := BlkV.frozen kB 7
  have bc8 := BlkV.cell kB 8 rfl
  have bz8 := BlkV.frozen kB 8
  have bc9 := BlkV.cell kB 9 rfl
  have bz9 := BlkV.frozen kB 9
  have xc0 := BlkV.cell kX 0 rfl
  have xz0 := BlkV.frozen kX 0
  have xc1 := BlkV.cell kX 1 rfl
  have xz1 := BlkV.frozen kX 1
  have xc2 := BlkV.cell kX 2 rfl
  have xz2 := BlkV.frozen kX 2
  have xc3 := BlkV.cell kX 3 rfl
  have xz3 := BlkV.frozen kX 3
  have xc4 := BlkV.cell kX 4 rfl
  have xz4 := BlkV.frozen kX 4
  cases is
  · have hz := HV.out
    simp only [Bool.false_eq_true, if_false, Prod.mk.injEq] at hz
    obtain ⟨rfl, rfl⟩ := hz
    go_wp2
    go_ret2
    exact ⟨ret_pair rfl rfl, hF⟩
  · have rr := fun w => round_any (w := w) (v := .agg #[.bool ps, .bool pe, .int .u64 (a'), .int .u64 (b'), .int .i64 (px)]) (s := ps) (en := pe) (n := pn) (x := px) m ⟨a', b', rfl, p1, p2, HP.out⟩ (by omega) (by omega)
    have hz := HV.out
    simp only [if_true] at hz
    rw [← hz] at rr
    clear hz
    unfold ruleV at rr
    go_wp2_with fail
    refine (rr _).mono ?_
    rintro e w1 ⟨rfl, hf1⟩
    replace kQ := kQ.fwd hf1
    replace kB := kB.fwd hf1
    replace kX := kX.fwd hf1
    replace hF := hF.trans hf1
    clear hf1
    clear qc0 qz0 qc1 qz1 qc2 qz2
    clear bc0 bz0 bc1 bz1 bc2 bz2 bc3 bz3 bc4 bz4 bc5 bz5 bc6 bz6 bc7 bz7 bc8 bz8 bc9 bz9
    clear xc0 xz0 xc1 xz1 xc2 xz2 xc3 xz3 xc4 xz4
    have qc0 := BlkV.cell kQ 0 rfl
    have qz0 := BlkV.frozen kQ 0
    have qc1 := BlkV.cell kQ 1 rfl
    have qz1 := BlkV.frozen kQ 1
    have qc2 := BlkV.cell kQ 2 rfl
    have qz2 := BlkV.frozen kQ 2
    have bc0 := BlkV.cell kB 0 rfl
    have bz0 := BlkV.frozen kB 0
    have bc1 := BlkV.cell kB 1 rfl
    have bz1 := BlkV.frozen kB 1
    have bc2 := BlkV.cell kB 2 rfl
    have bz2 := BlkV.frozen kB 2
    have bc3 := BlkV.cell kB 3 rfl
    have bz3 := BlkV.frozen kB 3
    have bc4 := BlkV.cell kB 4 rfl
    have bz4 := BlkV.frozen kB 4
    have bc5 := BlkV.cell kB 5 rfl
    have bz5 := BlkV.frozen kB 5
    have bc6 := BlkV.cell kB 6 rfl
    have bz6 := BlkV.frozen kB 6
    have bc7 := BlkV.cell kB 7 rfl
    have bz7 := BlkV.frozen kB 7
    have bc8 := BlkV.cell kB 8 rfl
    have bz8 := BlkV.frozen kB 8
    have bc9 := BlkV.cell kB 9 rfl
    have bz9 := BlkV.frozen kB 9
    have xc0 := BlkV.cell kX 0 rfl
    have xz0 := BlkV.frozen kX 0
    have xc1 := BlkV.cell kX 1 rfl
    have xz1 := BlkV.frozen kX 1
    have xc2 := BlkV.cell kX 2 rfl
    have xz2 := BlkV.frozen kX 2
    have xc3 := BlkV.cell kX 3 rfl
    have xz3 := BlkV.frozen kX 3
    have xc4 := BlkV.cell kX 4 rfl
    have xz4 := BlkV.frozen kX 4
    go_wp2
    go_ret2
    exact ⟨ret_pair rfl rfl, hF⟩

end Go.Proofs.YtcfhajnboamnnabGreatDoor

namespace Go.Proofs.YtcfhajnboamnnabGreatDoor
open Go.RowKit
set_option linter.unusedVariables false
set_option linter.unusedSimpArgs false

theorem valueOf_val {w : World} (f : Nat) (hf : f < 18446744073709551616) : Calls Tryz.prog 108 #[.int .u64 f] w fun e w' => ∃ v, e = .returned v ∧ Fwd w w' ∧ VT v (valF f) := by
  refine (valueOf_any f hf).mono ?_
  rintro e w' ⟨v, rfl, hF, hv⟩
  refine ⟨v, rfl, hF, ?_⟩
  unfold VT valF
  split at hv
  · rename_i c; rw [if_pos c]; exact hv
  · rename_i c; rw [if_neg c]; exact hv

theorem make_values1 (w : World) : (Instr.makeSlice 119 (.int .i64 1) (.int .i64 1)).run Tryz.prog w = .ok (.slice (some ⟨w.heap.size, 0, none⟩) 1 1) (w.alloc (.cells #[.bool false, .bool false, .int .u64 0, .int .u64 0, .int .i64 0] 107)) := by kernel_rfl

theorem make_values2 (w : World) : (Instr.makeSlice 119 (.int .i64 2) (.int .i64 2)).run Tryz.prog w = .ok (.slice (some ⟨w.heap.size, 0, none⟩) 2 2) (w.alloc (.cells #[.bool false, .bool false, .int .u64 0, .int .u64 0, .int .i64 0, .bool false, .bool false, .int .u64 0, .int .u64 0, .int .i64 0] 107)) := by kernel_rfl

theorem make_values3 (w : World) : (Instr.makeSlice 119 (.int .i64 3) (.int .i64 3)).run Tryz.prog w = .ok (.slice (some ⟨w.heap.size, 0, none⟩) 3 3) (w.alloc (.cells #[.bool false, .bool false, .int .u64 0, .int .u64 0, .int .i64 0, .bool false, .bool false, .int .u64 0, .int .u64 0, .int .i64 0, .bool false, .bool false, .int .u64 0, .int .u64 0, .int .i64 0] 107)) := by kernel_rfl

theorem valF_small (f : Nat) : (valF f).2.2.1 < 9007199254740992 ∧ -10000 ≤ (valF f).2.2.2 ∧ (valF f).2.2.2 ≤ 10000 := by
  have h1 := vsz_lt f
  have h2 := vex_ge f
  have h3 : vex f ≤ 10000 := by have := fsz_lt f; unfold vex; split <;> omega
  unfold valF
  split
  · exact ⟨by simp, by simp, by simp⟩
  · exact ⟨h1, by simp only; omega, h3⟩

theorem isNone_nan {w : World} (f : Nat) (hf : f < 18446744073709551616) : Calls Tryz.prog 88 #[.int .u64 f] w fun e w' => e = .returned (.bool (isNan f)) ∧ w' = w := isNone_any f hf

set_option maxHeartbeats 8000000 in
set_option maxRecDepth 100000 in
theorem ofNumbers_sum {w : World} {gf : Nat} {Tf : TypeId} (m : Int) (f h : Nat) (hf' : f < 18446744073709551616) (hh' : h < 18446744073709551616) (hB : BlkV w gf Tf [.int .u64 f, .int .u64 h]) :
    Calls Tryz.prog 83 #[.func (.func 100) #[ruleV m] #[], .slice (some ⟨gf, 0, none⟩) 2 2] w fun e w' => e = .returned (.tuple #[.int .u64 ((if isNan f || isNan h then ((9221120237041090560 : Nat), (0 : Nat)) else addV m (valF f) (valF h)).1 : Nat), .int .i64 ((if isNan f || isNan h then ((9221120237041090560 : Nat), (0 : Nat)) else addV m (valF f) (valF h)).2 : Nat)]) ∧ Fwd w w' := by
  have hmk := make_values2
  have hlt := BlkV.lt hB
  have hne1 : (gf = w.heap.size) = False := by simp; omega
  have hne2 : (w.heap.size = gf) = False := by simp; omega
  have nf := fun w => isNone_nan (w := w) f hf'
  have vf := fun w => valueOf_val (w := w) f hf'
  have bf := valF_small f
  have nh := fun w => isNone_nan (w := w) h hh'
  have vh := fun w => valueOf_val (w := w) h hh'
  have bh := valF_small h
  generalize hZ : (if isNan f || isNan h then ((9221120237041090560 : Nat), (0 : Nat)) else addV m (valF f) (valF h)) = Z
  obtain ⟨z1, z2⟩ := Z
  have HZ := hid hZ
  clear hZ
  by_cases cf' : isNan f = true
  · have cf := cf'
    clear cf'
    simp only [cf] at nf
    have hF : Fwd w (w.alloc (.cells #[.bool false, .bool false, .int .u64 0, .int .u64 0, .int .i64 0, .bool false, .bool false, .int .u64 0, .int .u64 0, .int .i64 0] 107)) := (Fwd.refl w).alloc _
    have kF : BlkV (w.alloc (.cells #[.bool false, .bool false, .int .u64 0, .int .u64 0, .int .i64 0, .bool false, .bool false, .int .u64 0, .int .u64 0, .int .i64 0] 107)) gf Tf [.int .u64 f, .int .u64 h] := hB.fwd hF
    have kV : BlkV (w.alloc (.cells #[.bool false, .bool false, .int .u64 0, .int .u64 0, .int .i64 0, .bool false, .bool false, .int .u64 0, .int .u64 0, .int .i64 0] 107)) w.heap.size 107 [.bool false, .bool false, .int .u64 0, .int .u64 0, .int .i64 0, .bool false, .bool false, .int .u64 0, .int .u64 0, .int .i64 0] := BlkV.made w _ _
    clear hB
    have fc0 := BlkV.cell kF 0 rfl
    have fz0 := BlkV.frozen kF 0
    have fc1 := BlkV.cell kF 1 rfl
    have fz1 := BlkV.frozen kF 1
    have vc0 := BlkV.cell kV 0 rfl
    have vz0 := BlkV.frozen kV 0
    have vc1 := BlkV.cell kV 1 rfl
    have vz1 := BlkV.frozen kV 1
    have vc2 := BlkV.cell kV 2 rfl
    have vz2 := BlkV.frozen kV 2
    have vc3 := BlkV.cell kV 3 rfl
    have vz3 := BlkV.frozen kV 3
    have vc4 := BlkV.cell kV 4 rfl
    have vz4 := BlkV.frozen kV 4
    have vc5 := BlkV.cell kV 5 rfl
    have vz5 := BlkV.frozen kV 5
    have vc6 := BlkV.cell kV 6 rfl
    have vz6 := BlkV.frozen kV 6
    have vc7 := BlkV.cell kV 7 rfl
    have vz7 := BlkV.frozen kV 7
    have vc8 := BlkV.cell kV 8 rfl
    have vz8 := BlkV.frozen kV 8
    have vc9 := BlkV.cell kV 9 rfl
    have vz9 := BlkV.frozen kV 9
    go_enter Tryz.func83, Tryz.ntmps83
    go_wp2_with fail
    refine wp_loop_rounds 3 ?_
    rw [rounds_succ]
    go_wp2_with fail
    refine (nf _).mono ?_
    rintro e wn ⟨rfl, rfl⟩
    go_wp2
    go_ret2
    have hz := HZ.out
    simp only [cf, Bool.true_or, Bool.or_true, Bool.false_or, Bool.or_false, if_true, Prod.mk.injEq] at hz
    obtain ⟨rfl, rfl⟩ := hz
    exact ⟨ret_pair rfl rfl, hF⟩
  · have cf : isNan f = false := by simpa using cf'
    clear cf'
    simp only [cf] at nf
    by_cases ch' : isNan h = true
    · have ch := ch'
      clear ch'
      simp only [ch] at nh
      generalize valF f = Ff at *
      obtain ⟨s, en, n, x⟩ := Ff
      simp only at bf
      have hF : Fwd w (w.alloc (.cells #[.bool false, .bool false, .int .u64 0, .int .u64 0, .int .i64 0, .bool false, .bool false, .int .u64 0, .int .u64 0, .int .i64 0] 107)) := (Fwd.refl w).alloc _
      have kF : BlkV (w.alloc (.cells #[.bool false, .bool false, .int .u64 0, .int .u64 0, .int .i64 0, .bool false, .bool false, .int .u64 0, .int .u64 0, .int .i64 0] 107)) gf Tf [.int .u64 f, .int .u64 h] := hB.fwd hF
      have kV : BlkV (w.alloc (.cells #[.bool false, .bool false, .int .u64 0, .int .u64 0, .int .i64 0, .bool false, .bool false, .int .u64 0, .int .u64 0, .int .i64 0] 107)) w.heap.size 107 [.bool false, .bool false, .int .u64 0, .int .u64 0, .int .i64 0, .bool false, .bool false, .int .u64 0, .int .u64 0, .int .i64 0] := BlkV.made w _ _
      clear hB
      have fc0 := BlkV.cell kF 0 rfl
      have fz0 := BlkV.frozen kF 0
      have fc1 := BlkV.cell kF 1 rfl
      have fz1 := BlkV.frozen kF 1
      have vc0 := BlkV.cell kV 0 rfl
      have vz0 := BlkV.frozen kV 0
      have vc1 := BlkV.cell kV 1 rfl
      have vz1 := BlkV.frozen kV 1
      have vc2 := BlkV.cell kV 2 rfl
      have vz2 := BlkV.frozen kV 2
      have vc3 := BlkV.cell kV 3 rfl
      have vz3 := BlkV.frozen kV 3
      have vc4 := BlkV.cell kV 4 rfl
      have vz4 := BlkV.frozen kV 4
      have vc5 := BlkV.cell kV 5 rfl
      have vz5 := BlkV.frozen kV 5
      have vc6 := BlkV.cell kV 6 rfl
      have vz6 := BlkV.frozen kV 6
      have vc7 := BlkV.cell kV 7 rfl
      have vz7 := BlkV.frozen kV 7
      have vc8 := BlkV.cell kV 8 rfl
      have vz8 := BlkV.frozen kV 8
      have vc9 := BlkV.cell kV 9 rfl
      have vz9 := BlkV.frozen kV 9
      go_enter Tryz.func83, Tryz.ntmps83
      go_wp2_with fail
      refine wp_loop_rounds 3 ?_
      rw [rounds_succ]
      go_wp2_with fail
      refine (nf _).mono ?_
      rintro e wn ⟨rfl, rfl⟩
      go_wp2_with fail
      refine (vf _).mono ?_
      rintro e w1 ⟨v, rfl, hf1, a, b, rfl, a1, b2, hp⟩
      have Vf : VV (.agg #[.bool s, .bool en, .int .u64 (a), .int .u64 (b), .int .i64 (x)]) s en n x := ⟨_, _, rfl, a1, b2, hp⟩
      clear hp vf nf
      replace kF := kF.fwd hf1
      replace kV := kV.fwd hf1
      replace hF := hF.trans hf1
      clear hf1
      clear fc0 fz0 fc1 fz1
      clear vc0 vz0 vc1 vz1 vc2 vz2 vc3 vz3 vc4 vz4 vc5 vz5 vc6 vz6 vc7 vz7 vc8 vz8 vc9 vz9
      have fc0 := BlkV.cell kF 0 rfl
      have fz0 := BlkV.frozen kF 0
      have fc1 := BlkV.cell kF 1 rfl
      have fz1 := BlkV.frozen kF 1
      have vc0 := BlkV.cell kV 0 rfl
      have vz0 := BlkV.frozen kV 0
      have vc1 := BlkV.cell kV 1 rfl
      have vz1 := BlkV.frozen kV 1
      have vc2 := BlkV.cell kV 2 rfl
      have vz2 := BlkV.frozen kV 2
      have vc3 := BlkV.cell kV 3 rfl
      have vz3 := BlkV.frozen kV 3
      have vc4 := BlkV.cell kV 4 rfl
      have vz4 := BlkV.frozen kV 4
      have vc5 := BlkV.cell kV 5 rfl
      have vz5 := BlkV.frozen kV 5
      have vc6 := BlkV.cell kV 6 rfl
      have vz6 := BlkV.frozen kV 6
      have vc7 := BlkV.cell kV 7 rfl
      have vz7 := BlkV.frozen kV 7
      have vc8 := BlkV.cell kV 8 rfl
      have vz8 := BlkV.frozen kV 8
      have vc9 := BlkV.cell kV 9 rfl
      have vz9 := BlkV.frozen kV 9
      go_wp2_with fail
      rw [rounds_succ]
      go_wp2_with fail
      refine (nh _).mono ?_
      rintro e wn ⟨rfl, rfl⟩
      go_wp2
      have t3 := BlkV.set kV 0 (.bool s)
      have t4 := BlkV.set t3 1 (.bool en)
      have t5 := BlkV.set t4 2 (.int .u64 (a))
      have t6 := BlkV.set t5 3 (.int .u64 (b))
      have t7 := BlkV.set t6 4 (.int .i64 (x))
      have o7 := ((((BlkV.on kV 0 (.bool s)).setv 1 (.bool en)).setv 2 (.int .u64 (a))).setv 3 (.int .u64 (b))).setv 4 (.int .i64 (x))
      replace kF := BlkV.only kF o7 (by omega)
      replace hF := hF.wrote o7 (by omega)
      have kV := t7
      clear o7
      go_ret2
      have hz := HZ.out
      simp only [cf, ch, Bool.true_or, Bool.or_true, Bool.false_or, Bool.or_false, if_true, Prod.mk.injEq] at hz
      obtain ⟨rfl, rfl⟩ := hz
      exact ⟨ret_pair rfl rfl, hF⟩
    · have ch : isNan h = false := by simpa using ch'
      clear ch'
      simp only [ch] at nh
      generalize valF f = Ff at *
      obtain ⟨s, en, n, x⟩ := Ff
      simp only at bf
      generalize valF h = Fh at *
      obtain ⟨t, em, k, y⟩ := Fh
      simp only at bh
      have hF : Fwd w (w.alloc (.cells #[.bool false, .bool false, .int .u64 0, .int .u64 0, .int .i64 0, .bool false, .bool false, .int .u64 0, .int .u64 0, .int .i64 0] 107)) := (Fwd.refl w).alloc _
      have kF : BlkV (w.alloc (.cells #[.bool false, .bool false, .int .u64 0, .int .u64 0, .int .i64 0, .bool false, .bool false, .int .u64 0, .int .u64 0, .int .i64 0] 107)) gf Tf [.int .u64 f, .int .u64 h] := hB.fwd hF
      have kV : BlkV (w.alloc (.cells #[.bool false, .bool false, .int .u64 0, .int .u64 0, .int .i64 0, .bool false, .bool false, .int .u64 0, .int .u64 0, .int .i64 0] 107)) w.heap.size 107 [.bool false, .bool false, .int .u64 0, .int .u64 0, .int .i64 0, .bool false, .bool false, .int .u64 0, .int .u64 0, .int .i64 0] := BlkV.made w _ _
      clear hB
      have fc0 := BlkV.cell kF 0 rfl
      have fz0 := BlkV.frozen kF 0
      have fc1 := BlkV.cell kF 1 rfl
      have fz1 := BlkV.frozen kF 1
      have vc0 := BlkV.cell kV 0 rfl
      have vz0 := BlkV.frozen kV 0
      have vc1 := BlkV.cell kV 1 rfl
      have vz1 := BlkV.frozen kV 1
      have vc2 := BlkV.cell kV 2 rfl
      have vz2 := BlkV.frozen kV 2
      have vc3 := BlkV.cell kV 3 rfl
      have vz3 := BlkV.frozen kV 3
      have vc4 := BlkV.cell kV 4 rfl
      have vz4 := BlkV.frozen kV 4
      have vc5 := BlkV.cell kV 5 rfl
      have vz5 := BlkV.frozen kV 5
      have vc6 := BlkV.cell kV 6 rfl
      have vz6 := BlkV.frozen kV 6
      have vc7 := BlkV.cell kV 7 rfl
      have vz7 := BlkV.frozen kV 7
      have vc8 := BlkV.cell kV 8 rfl
      have vz8 := BlkV.frozen kV 8
      have vc9 := BlkV.cell kV 9 rfl
      have vz9 := BlkV.frozen kV 9
      go_enter Tryz.func83, Tryz.ntmps83
      go_wp2_with fail
      refine wp_loop_rounds 3 ?_
      rw [rounds_succ]
      go_wp2_with fail
      refine (nf _).mono ?_
      rintro e wn ⟨rfl, rfl⟩
      go_wp2_with fail
      refine (vf _).mono ?_
      rintro e w1 ⟨v, rfl, hf1, a, b, rfl, a1, b2, hp⟩
      have Vf : VV (.agg #[.bool s, .bool en, .int .u64 (a), .int .u64 (b), .int .i64 (x)]) s en n x := ⟨_, _, rfl, a1, b2, hp⟩
      clear hp vf nf
      replace kF := kF.fwd hf1
      replace kV := kV.fwd hf1
      replace hF := hF.trans hf1
      clear hf1
      clear fc0 fz0 fc1 fz1
      clear vc0 vz0 vc1 vz1 vc2 vz2 vc3 vz3 vc4 vz4 vc5 vz5 vc6 vz6 vc7 vz7 vc8 vz8 vc9 vz9
      have fc0 := BlkV.cell kF 0 rfl
      have fz0 := BlkV.frozen kF 0
      have fc1 := BlkV.cell kF 1 rfl
      have fz1 := BlkV.frozen kF 1
      have vc0 := BlkV.cell kV 0 rfl
      have vz0 := BlkV.frozen kV 0
      have vc1 := BlkV.cell kV 1 rfl
      have vz1 := BlkV.frozen kV 1
      have vc2 := BlkV.cell kV 2 rfl
      have vz2 := BlkV.frozen kV 2
      have vc3 := BlkV.cell kV 3 rfl
      have vz3 := BlkV.frozen kV 3
      have vc4 := BlkV.cell kV 4 rfl
      have vz4 := BlkV.frozen kV 4
      have vc5 := BlkV.cell kV 5 rfl
      have vz5 := BlkV.frozen kV 5
      have vc6 := BlkV.cell kV 6 rfl
      have vz6 := BlkV.frozen kV 6
      have vc7 := BlkV.cell kV 7 rfl
      have vz7 := BlkV.frozen kV 7
      have vc8 := BlkV.cell kV 8 rfl
      have vz8 := BlkV.frozen kV 8
      have vc9 := BlkV.cell kV 9 rfl
      have vz9 := BlkV.frozen kV 9
      go_wp2_with fail
      rw [rounds_succ]
      go_wp2_with fail
      refine (nh _).mono ?_
      rintro e wn ⟨rfl, rfl⟩
      go_wp2_with fail
      have t4 := BlkV.set kV 0 (.bool s)
      have t5 := BlkV.set t4 1 (.bool en)
      have t6 := BlkV.set t5 2 (.int .u64 (a))
      have t7 := BlkV.set t6 3 (.int .u64 (b))
      have t8 := BlkV.set t7 4 (.int .i64 (x))
      have o8 := ((((BlkV.on kV 0 (.bool s)).setv 1 (.bool en)).setv 2 (.int .u64 (a))).setv 3 (.int .u64 (b))).setv 4 (.int .i64 (x))
      replace kF := BlkV.only kF o8 (by omega)
      replace hF := hF.wrote o8 (by omega)
      have kV := t8
      clear o8
      refine (vh _).mono ?_
      rintro e w2 ⟨v, rfl, hf2, c, d, rfl, c1, d2, hp⟩
      have Vh : VV (.agg #[.bool t, .bool em, .int .u64 (c), .int .u64 (d), .int .i64 (y)]) t em k y := ⟨_, _, rfl, c1, d2, hp⟩
      clear hp vh nh
      replace kF := kF.fwd hf2
      replace kV := kV.fwd hf2
      replace hF := hF.trans hf2
      clear hf2
      clear fc0 fz0 fc1 fz1
      clear vc0 vz0 vc1 vz1 vc2 vz2 vc3 vz3 vc4 vz4 vc5 vz5 vc6 vz6 vc7 vz7 vc8 vz8 vc9 vz9
      have fc0 := BlkV.cell kF 0 rfl
      have fz0 := BlkV.frozen kF 0
      have fc1 := BlkV.cell kF 1 rfl
      have fz1 := BlkV.frozen kF 1
      have vc0 := BlkV.cell kV 0 rfl
      have vz0 := BlkV.frozen kV 0
      have vc1 := BlkV.cell kV 1 rfl
      have vz1 := BlkV.frozen kV 1
      have vc2 := BlkV.cell kV 2 rfl
      have vz2 := BlkV.frozen kV 2
      have vc3 := BlkV.cell kV 3 rfl
      have vz3 := BlkV.frozen kV 3
      have vc4 := BlkV.cell kV 4 rfl
      have vz4 := BlkV.frozen kV 4
      have vc5 := BlkV.cell kV 5 rfl
      have vz5 := BlkV.frozen kV 5
      have vc6 := BlkV.cell kV 6 rfl
      have vz6 := BlkV.frozen kV 6
      have vc7 := BlkV.cell kV 7 rfl
      have vz7 := BlkV.frozen kV 7
      have vc8 := BlkV.cell kV 8 rfl
      have vz8 := BlkV.frozen kV 8
      have vc9 := BlkV.cell kV 9 rfl
      have vz9 := BlkV.frozen kV 9
      go_wp2_with fail
      rw [rounds_succ]
      go_wp2_with fail
      have t10 := BlkV.set kV 5 (.bool t)
      have t11 := BlkV.set t10 6 (.bool em)
      have t12 := BlkV.set t11 7 (.int .u64 (c))
      have t13 := BlkV.set t12 8 (.int .u64 (d))
      have t14 := BlkV.set t13 9 (.int .i64 (y))
      have o14 := ((((BlkV.on kV 5 (.bool t)).setv 6 (.bool em)).setv 7 (.int .u64 (c))).setv 8 (.int .u64 (d))).setv 9 (.int .i64 (y))
      replace kF := BlkV.only kF o14 (by omega)
      replace hF := hF.wrote o14 (by omega)
      have kV := t14
      clear o14
      have hz := HZ.out
      simp only [cf, ch, Bool.or_self, Bool.false_eq_true, if_false] at hz
      have dd := sum_any (T := 107) m Vf Vh kV bf.1 bf.2.1 bf.2.2 bh.1 bh.2.1 bh.2.2
      rw [hz] at dd
      clear hz HZ
      refine (dd).mono ?_
      rintro e w9 ⟨rfl, hf9⟩
      go_wp2
      go_ret2
      exact ⟨ret_pair rfl rfl, hF.trans hf9⟩

set_option maxHeartbeats 8000000 in
set_option maxRecDepth 100000 in
theorem ofNumbers_product {w : World} {gf : Nat} {Tf : TypeId} (m : Int) (f h : Nat) (hf' : f < 18446744073709551616) (hh' : h < 18446744073709551616) (hB : BlkV w gf Tf [.int .u64 f, .int .u64 h]) :
    Calls Tryz.prog 83 #[.func (.func 103) #[ruleV m] #[], .slice (some ⟨gf, 0, none⟩) 2 2] w fun e w' => e = .returned (.tuple #[.int .u64 ((if isNan f || isNan h then ((9221120237041090560 : Nat), (0 : Nat)) else withMul (mulV (valF f) (valF h)) (rdV m)).1 : Nat), .int .i64 ((if isNan f || isNan h then ((9221120237041090560 : Nat), (0 : Nat)) else withMul (mulV (valF f) (valF h)) (rdV m)).2 : Nat)]) ∧ Fwd w w' := by
  have hmk := make_values2
  have hlt := BlkV.lt hB
  have hne1 : (gf = w.heap.size) = False := by simp; omega
  have hne2 : (w.heap.size = gf) = False := by simp; omega
  have nf := fun w => isNone_nan (w := w) f hf'
  have vf := fun w => valueOf_val (w := w) f hf'
  have bf := valF_small f
  have nh := fun w => isNone_nan (w := w) h hh'
  have vh := fun w => valueOf_val (w := w) h hh'
  have bh := valF_small h
  generalize hZ : (if isNan f || isNan h then ((9221120237041090560 : Nat), (0 : Nat)) else withMul (mulV (valF f) (valF h)) (rdV m)) = Z
  obtain ⟨z1, z2⟩ := Z
  have HZ := hid hZ
  clear hZ
  by_cases cf' : isNan f = true
  · have cf := cf'
    clear cf'
    simp only [cf] at nf
    have hF : Fwd w (w.alloc (.cells #[.bool false, .bool false, .int .u64 0, .int .u64 0, .int .i64 0, .bool false, .bool false, .int .u64 0, .int .u64 0, .int .i64 0] 107)) := (Fwd.refl w).alloc _
    have kF : BlkV (w.alloc (.cells #[.bool false, .bool false, .int .u64 0, .int .u64 0, .int .i64 0, .bool false, .bool false, .int .u64 0, .int .u64 0, .int .i64 0] 107)) gf Tf [.int .u64 f, .int .u64 h] := hB.fwd hF
    have kV : BlkV (w.alloc (.cells #[.bool false, .bool false, .int .u64 0, .int .u64 0, .int .i64 0, .bool false, .bool false, .int .u64 0, .int .u64 0, .int .i64 0] 107)) w.heap.size 107 [.bool false, .bool false, .int .u64 0, .int .u64 0, .int .i64 0, .bool false, .bool false, .int .u64 0, .int .u64 0, .int .i64 0] := BlkV.made w _ _
    clear hB
    have fc0 := BlkV.cell kF 0 rfl
    have fz0 := BlkV.frozen kF 0
    have fc1 := BlkV.cell kF 1 rfl
    have fz1 := BlkV.frozen kF 1
    have vc0 := BlkV.cell kV 0 rfl
    have vz0 := BlkV.frozen kV 0
    have vc1 := BlkV.cell kV 1 rfl
    have vz1 := BlkV.frozen kV 1
    have vc2 := BlkV.cell kV 2 rfl
    have vz2 := BlkV.frozen kV 2
    have vc3 := BlkV.cell kV 3 rfl
    have vz3 := BlkV.frozen kV 3
    have vc4 := BlkV.cell kV 4 rfl
    have vz4 := BlkV.frozen kV 4
    have vc5 := BlkV.cell kV 5 rfl
    have vz5 := BlkV.frozen kV 5
    have vc6 := BlkV.cell kV 6 rfl
    have vz6 := BlkV.frozen kV 6
    have vc7 := BlkV.cell kV 7 rfl
    have vz7 := BlkV.frozen kV 7
    have vc8 := BlkV.cell kV 8 rfl
    have vz8 := BlkV.frozen kV 8
    have vc9 := BlkV.cell kV 9 rfl
    have vz9 := BlkV.frozen kV 9
    go_enter Tryz.func83, Tryz.ntmps83
    go_wp2_with fail
    refine wp_loop_rounds 3 ?_
    rw [rounds_succ]
    go_wp2_with fail
    refine (nf _).mono ?_
    rintro e wn ⟨rfl, rfl⟩
    go_wp2
    go_ret2
    have hz := HZ.out
    simp only [cf, Bool.true_or, Bool.or_true, Bool.false_or, Bool.or_false, if_true, Prod.mk.injEq] at hz
    obtain ⟨rfl, rfl⟩ := hz
    exact ⟨ret_pair rfl rfl, hF⟩
  · have cf : isNan f = false := by simpa using cf'
    clear cf'
    simp only [cf] at nf
    by_cases ch' : isNan h = true
    · have ch := ch'
      clear ch'
      simp only [ch] at nh
      generalize valF f = Ff at *
      obtain ⟨s, en, n, x⟩ := Ff
      simp only at bf
      have hF : Fwd w (w.alloc (.cells #[.bool false, .bool false, .int .u64 0, .int .u64 0, .int .i64 0, .bool false, .bool false, .int .u64 0, .int .u64 0, .int .i64 0] 107)) := (Fwd.refl w).alloc _
      have kF : BlkV (w.alloc (.cells #[.bool false, .bool false, .int .u64 0, .int .u64 0, .int .i64 0, .bool false, .bool false, .int .u64 0, .int .u64 0, .int .i64 0] 107)) gf Tf [.int .u64 f, .int .u64 h] := hB.fwd hF
      have kV : BlkV (w.alloc (.cells #[.bool false, .bool false, .int .u64 0, .int .u64 0, .int .i64 0, .bool false, .bool false, .int .u64 0, .int .u64 0, .int .i64 0] 107)) w.heap.size 107 [.bool false, .bool false, .int .u64 0, .int .u64 0, .int .i64 0, .bool false, .bool false, .int .u64 0, .int .u64 0, .int .i64 0] := BlkV.made w _ _
      clear hB
      have fc0 := BlkV.cell kF 0 rfl
      have fz0 := BlkV.frozen kF 0
      have fc1 := BlkV.cell kF 1 rfl
      have fz1 := BlkV.frozen kF 1
      have vc0 := BlkV.cell kV 0 rfl
      have vz0 := BlkV.frozen kV 0
      have vc1 := BlkV.cell kV 1 rfl
      have vz1 := BlkV.frozen kV 1
      have vc2 := BlkV.cell kV 2 rfl
      have vz2 := BlkV.frozen kV 2
      have vc3 := BlkV.cell kV 3 rfl
      have vz3 := BlkV.frozen kV 3
      have vc4 := BlkV.cell kV 4 rfl
      have vz4 := BlkV.frozen kV 4
      have vc5 := BlkV.cell kV 5 rfl
      have vz5 := BlkV.frozen kV 5
      have vc6 := BlkV.cell kV 6 rfl
      have vz6 := BlkV.frozen kV 6
      have vc7 := BlkV.cell kV 7 rfl
      have vz7 := BlkV.frozen kV 7
      have vc8 := BlkV.cell kV 8 rfl
      have vz8 := BlkV.frozen kV 8
      have vc9 := BlkV.cell kV 9 rfl
      have vz9 := BlkV.frozen kV 9
      go_enter Tryz.func83, Tryz.ntmps83
      go_wp2_with fail
      refine wp_loop_rounds 3 ?_
      rw [rounds_succ]
      go_wp2_with fail
      refine (nf _).mono ?_
      rintro e wn ⟨rfl, rfl⟩
      go_wp2_with fail
      refine (vf _).mono ?_
      rintro e w1 ⟨v, rfl, hf1, a, b, rfl, a1, b2, hp⟩
      have Vf : VV (.agg #[.bool s, .bool en, .int .u64 (a), .int .u64 (b), .int .i64 (x)]) s en n x := ⟨_, _, rfl, a1, b2, hp⟩
      clear hp vf nf
      replace kF := kF.fwd hf1
      replace kV := kV.fwd hf1
      replace hF := hF.trans hf1
      clear hf1
      clear fc0 fz0 fc1 fz1
      clear vc0 vz0 vc1 vz1 vc2 vz2 vc3 vz3 vc4 vz4 vc5 vz5 vc6 vz6 vc7 vz7 vc8 vz8 vc9 vz9
      have fc0 := BlkV.cell kF 0 rfl
      have fz0 := BlkV.frozen kF 0
      have fc1 := BlkV.cell kF 1 rfl
      have fz1 := BlkV.frozen kF 1
      have vc0 := BlkV.cell kV 0 rfl
      have vz0 := BlkV.frozen kV 0
      have vc1 := BlkV.cell kV 1 rfl
      have vz1 := BlkV.frozen kV 1
      have vc2 := BlkV.cell kV 2 rfl
      have vz2 := BlkV.frozen kV 2
      have vc3 := BlkV.cell kV 3 rfl
      have vz3 := BlkV.frozen kV 3
      have vc4 := BlkV.cell kV 4 rfl
      have vz4 := BlkV.frozen kV 4
      have vc5 := BlkV.cell kV 5 rfl
      have vz5 := BlkV.frozen kV 5
      have vc6 := BlkV.cell kV 6 rfl
      have vz6 := BlkV.frozen kV 6
      have vc7 := BlkV.cell kV 7 rfl
      have vz7 := BlkV.frozen kV 7
      have vc8 := BlkV.cell kV 8 rfl
      have vz8 := BlkV.frozen kV 8
      have vc9 := BlkV.cell kV 9 rfl
      have vz9 := BlkV.frozen kV 9
      go_wp2_with fail
      rw [rounds_succ]
      go_wp2_with fail
      refine (nh _).mono ?_
      rintro e wn ⟨rfl, rfl⟩
      go_wp2
      have t3 := BlkV.set kV 0 (.bool s)
      have t4 := BlkV.set t3 1 (.bool en)
      have t5 := BlkV.set t4 2 (.int .u64 (a))
      have t6 := BlkV.set t5 3 (.int .u64 (b))
      have t7 := BlkV.set t6 4 (.int .i64 (x))
      have o7 := ((((BlkV.on kV 0 (.bool s)).setv 1 (.bool en)).setv 2 (.int .u64 (a))).setv 3 (.int .u64 (b))).setv 4 (.int .i64 (x))
      replace kF := BlkV.only kF o7 (by omega)
      replace hF := hF.wrote o7 (by omega)
      have kV := t7
      clear o7
      go_ret2
      have hz := HZ.out
      simp only [cf, ch, Bool.true_or, Bool.or_true, Bool.false_or, Bool.or_false, if_true, Prod.mk.injEq] at hz
      obtain ⟨rfl, rfl⟩ := hz
      exact ⟨ret_pair rfl rfl, hF⟩
    · have ch : isNan h = false := by simpa using ch'
      clear ch'
      simp only [ch] at nh
      generalize valF f = Ff at *
      obtain ⟨s, en, n, x⟩ := Ff
      simp only at bf
      generalize valF h = Fh at *
      obtain ⟨t, em, k, y⟩ := Fh
      simp only at bh
      have hF : Fwd w (w.alloc (.cells #[.bool false, .bool false, .int .u64 0, .int .u64 0, .int .i64 0, .bool false, .bool false, .int .u64 0, .int .u64 0, .int .i64 0] 107)) := (Fwd.refl w).alloc _
      have kF : BlkV (w.alloc (.cells #[.bool false, .bool false, .int .u64 0, .int .u64 0, .int .i64 0, .bool false, .bool false, .int .u64 0, .int .u64 0, .int .i64 0] 107)) gf Tf [.int .u64 f, .int .u64 h] := hB.fwd hF
      have kV : BlkV (w.alloc (.cells #[.bool false, .bool false, .int .u64 0, .int .u64 0, .int .i64 0, .bool false, .bool false, .int .u64 0, .int .u64 0, .int .i64 0] 107)) w.heap.size 107 [.bool false, .bool false, .int .u64 0, .int .u64 0, .int .i64 0, .bool false, .bool false, .int .u64 0, .int .u64 0, .int .i64 0] := BlkV.made w _ _
      clear hB
      have fc0 := BlkV.cell kF 0 rfl
      have fz0 := BlkV.frozen kF 0
      have fc1 := BlkV.cell kF 1 rfl
      have fz1 := BlkV.frozen kF 1
      have vc0 := BlkV.cell kV 0 rfl
      have vz0 := BlkV.frozen kV 0
      have vc1 := BlkV.cell kV 1 rfl
      have vz1 := BlkV.frozen kV 1
      have vc2 := BlkV.cell kV 2 rfl
      have vz2 := BlkV.frozen kV 2
      have vc3 := BlkV.cell kV 3 rfl
      have vz3 := BlkV.frozen kV 3
      have vc4 := BlkV.cell kV 4 rfl
      have vz4 := BlkV.frozen kV 4
      have vc5 := BlkV.cell kV 5 rfl
      have vz5 := BlkV.frozen kV 5
      have vc6 := BlkV.cell kV 6 rfl
      have vz6 := BlkV.frozen kV 6
      have vc7 := BlkV.cell kV 7 rfl
      have vz7 := BlkV.frozen kV 7
      have vc8 := BlkV.cell kV 8 rfl
      have vz8 := BlkV.frozen kV 8
      have vc9 := BlkV.cell kV 9 rfl
      have vz9 := BlkV.frozen kV 9
      go_enter Tryz.func83, Tryz.ntmps83
      go_wp2_with fail
      refine wp_loop_rounds 3 ?_
      rw [rounds_succ]
      go_wp2_with fail
      refine (nf _).mono ?_
      rintro e wn ⟨rfl, rfl⟩
      go_wp2_with fail
      refine (vf _).mono ?_
      rintro e w1 ⟨v, rfl, hf1, a, b, rfl, a1, b2, hp⟩
      have Vf : VV (.agg #[.bool s, .bool en, .int .u64 (a), .int .u64 (b), .int .i64 (x)]) s en n x := ⟨_, _, rfl, a1, b2, hp⟩
      clear hp vf nf
      replace kF := kF.fwd hf1
      replace kV := kV.fwd hf1
      replace hF := hF.trans hf1
      clear hf1
      clear fc0 fz0 fc1 fz1
      clear vc0 vz0 vc1 vz1 vc2 vz2 vc3 vz3 vc4 vz4 vc5 vz5 vc6 vz6 vc7 vz7 vc8 vz8 vc9 vz9
      have fc0 := BlkV.cell kF 0 rfl
      have fz0 := BlkV.frozen kF 0
      have fc1 := BlkV.cell kF 1 rfl
      have fz1 := BlkV.frozen kF 1
      have vc0 := BlkV.cell kV 0 rfl
      have vz0 := BlkV.frozen kV 0
      have vc1 := BlkV.cell kV 1 rfl
      have vz1 := BlkV.frozen kV 1
      have vc2 := BlkV.cell kV 2 rfl
      have vz2 := BlkV.frozen kV 2
      have vc3 := BlkV.cell kV 3 rfl
      have vz3 := BlkV.frozen kV 3
      have vc4 := BlkV.cell kV 4 rfl
      have vz4 := BlkV.frozen kV 4
      have vc5 := BlkV.cell kV 5 rfl
      have vz5 := BlkV.frozen kV 5
      have vc6 := BlkV.cell kV 6 rfl
      have vz6 := BlkV.frozen kV 6
      have vc7 := BlkV.cell kV 7 rfl
      have vz7 := BlkV.frozen kV 7
      have vc8 := BlkV.cell kV 8 rfl
      have vz8 := BlkV.frozen kV 8
      have vc9 := BlkV.cell kV 9 rfl
      have vz9 := BlkV.frozen kV 9
      go_wp2_with fail
      rw [rounds_succ]
      go_wp2_with fail
      refine (nh _).mono ?_
      rintro e wn ⟨rfl, rfl⟩
      go_wp2_with fail
      have t4 := BlkV.set kV 0 (.bool s)
      have t5 := BlkV.set t4 1 (.bool en)
      have t6 := BlkV.set t5 2 (.int .u64 (a))
      have t7 := BlkV.set t6 3 (.int .u64 (b))
      have t8 := BlkV.set t7 4 (.int .i64 (x))
      have o8 := ((((BlkV.on kV 0 (.bool s)).setv 1 (.bool en)).setv 2 (.int .u64 (a))).setv 3 (.int .u64 (b))).setv 4 (.int .i64 (x))
      replace kF := BlkV.only kF o8 (by omega)
      replace hF := hF.wrote o8 (by omega)
      have kV := t8
      clear o8
      refine (vh _).mono ?_
      rintro e w2 ⟨v, rfl, hf2, c, d, rfl, c1, d2, hp⟩
      have Vh : VV (.agg #[.bool t, .bool em, .int .u64 (c), .int .u64 (d), .int .i64 (y)]) t em k y := ⟨_, _, rfl, c1, d2, hp⟩
      clear hp vh nh
      replace kF := kF.fwd hf2
      replace kV := kV.fwd hf2
      replace hF := hF.trans hf2
      clear hf2
      clear fc0 fz0 fc1 fz1
      clear vc0 vz0 vc1 vz1 vc2 vz2 vc3 vz3 vc4 vz4 vc5 vz5 vc6 vz6 vc7 vz7 vc8 vz8 vc9 vz9
      have fc0 := BlkV.cell kF 0 rfl
      have fz0 := BlkV.frozen kF 0
      have fc1 := BlkV.cell kF 1 rfl
      have fz1 := BlkV.frozen kF 1
      have vc0 := BlkV.cell kV 0 rfl
      have vz0 := BlkV.frozen kV 0
      have vc1 := BlkV.cell kV 1 rfl
      have vz1 := BlkV.frozen kV 1
      have vc2 := BlkV.cell kV 2 rfl
      have vz2 := BlkV.frozen kV 2
      have vc3 := BlkV.cell kV 3 rfl
      have vz3 := BlkV.frozen kV 3
      have vc4 := BlkV.cell kV 4 rfl
      have vz4 := BlkV.frozen kV 4
      have vc5 := BlkV.cell kV 5 rfl
      have vz5 := BlkV.frozen kV 5
      have vc6 := BlkV.cell kV 6 rfl
      have vz6 := BlkV.frozen kV 6
      have vc7 := BlkV.cell kV 7 rfl
      have vz7 := BlkV.frozen kV 7
      have vc8 := BlkV.cell kV 8 rfl
      have vz8 := BlkV.frozen kV 8
      have vc9 := BlkV.cell kV 9 rfl
      have vz9 := BlkV.frozen kV 9
      go_wp2_with fail
      rw [rounds_succ]
      go_wp2_with fail
      have t10 := BlkV.set kV 5 (.bool t)
      have t11 := BlkV.set t10 6 (.bool em)
      have t12 := BlkV.set t11 7 (.int .u64 (c))
      have t13 := BlkV.set t12 8 (.int .u64 (d))
      have t14 := BlkV.set t13 9 (.int .i64 (y))
      have o14 := ((((BlkV.on kV 5 (.bool t)).setv 6 (.bool em)).setv 7 (.int .u64 (c))).setv 8 (.int .u64 (d))).setv 9 (.int .i64 (y))
      replace kF := BlkV.only kF o14 (by omega)
      replace hF := hF.wrote o14 (by omega)
      have kV := t14
      clear o14
      have hz := HZ.out
      simp only [cf, ch, Bool.or_self, Bool.false_eq_true, if_false] at hz
      have dd := product_of (T := 107) m Vf Vh kV bf.1 bf.2.1 bf.2.2 bh.1 bh.2.1 bh.2.2
      rw [hz] at dd
      clear hz HZ
      refine (dd).mono ?_
      rintro e w9 ⟨rfl, hf9⟩
      go_wp2
      go_ret2
      exact ⟨ret_pair rfl rfl, hF.trans hf9⟩

end Go.Proofs.YtcfhajnboamnnabGreatDoor

namespace Go.Proofs.YtcfhajnboamnnabGreatDoor
open Go.RowKit
set_option linter.unusedVariables false

set_option maxHeartbeats 4000000 in
set_option maxRecDepth 100000 in
theorem addF_any {w : World} (hR : Ru w) (m : Int) (f h : Nat) (hf : f < 18446744073709551616) (hh : h < 18446744073709551616) :
    Calls Tryz.prog 57 #[.int .u64 f, .int .u64 h, .int .i64 m] w fun e w' => e = .returned (.tuple #[.int .u64 ((addF m f h).1 : Nat), .int .i64 ((addF m f h).2 : Nat)]) ∧ Fwd w w' := by
  have hmf : ∀ (fn : Fn) (first cap : Array Value) (w : World), (Instr.makeFunc fn first cap).run Tryz.prog w = .ok (.func fn first cap) w := fun _ _ _ _ => rfl
  have c1 := ruleOf_any m hR
  have c2 : ∀ (w1 : World), Calls Tryz.prog 83 #[.func (.func 100) #[ruleV m] #[], .slice (some ⟨w1.heap.size, 0, none⟩) 2 2] (w1.alloc (.cells #[.int .u64 f, .int .u64 h] 22)) fun e w' => e = .returned (.tuple #[.int .u64 ((addF m f h).1 : Nat), .int .i64 ((addF m f h).2 : Nat)]) ∧ Fwd (w1.alloc (.cells #[.int .u64 f, .int .u64 h] 22)) w' := fun w1 => ofNumbers_sum m f h hf hh (BlkV.made w1 _ _)
  generalize addF m f h = Z at *
  obtain ⟨z1, z2⟩ := Z
  generalize ruleV m = rv at *
  go_enter Tryz.func57, Tryz.ntmps57
  go_wp2_with fail
  refine c1.mono ?_
  rintro e w1 ⟨rfl, hf⟩
  go_wp2_with fail
  refine (c2 w1).mono ?_
  rintro e w2 ⟨rfl, hf2⟩
  go_wp2
  go_ret2
  exact ⟨ret_pair rfl rfl, (hf.alloc _).trans hf2⟩

set_option maxHeartbeats 4000000 in
set_option maxRecDepth 100000 in
theorem mulF_any {w : World} (hR : Ru w) (m : Int) (f h : Nat) (hf : f < 18446744073709551616) (hh : h < 18446744073709551616) :
    Calls Tryz.prog 59 #[.int .u64 f, .int .u64 h, .int .i64 m] w fun e w' => e = .returned (.tuple #[.int .u64 ((mulF m f h).1 : Nat), .int .i64 ((mulF m f h).2 : Nat)]) ∧ Fwd w w' := by
  have hmf : ∀ (fn : Fn) (first cap : Array Value) (w : World), (Instr.makeFunc fn first cap).run Tryz.prog w = .ok (.func fn first cap) w := fun _ _ _ _ => rfl
  have c1 := ruleOf_any m hR
  have c2 : ∀ (w1 : World), Calls Tryz.prog 83 #[.func (.func 103) #[ruleV m] #[], .slice (some ⟨w1.heap.size, 0, none⟩) 2 2] (w1.alloc (.cells #[.int .u64 f, .int .u64 h] 22)) fun e w' => e = .returned (.tuple #[.int .u64 ((mulF m f h).1 : Nat), .int .i64 ((mulF m f h).2 : Nat)]) ∧ Fwd (w1.alloc (.cells #[.int .u64 f, .int .u64 h] 22)) w' := fun w1 => ofNumbers_product m f h hf hh (BlkV.made w1 _ _)
  generalize mulF m f h = Z at *
  obtain ⟨z1, z2⟩ := Z
  generalize ruleV m = rv at *
  go_enter Tryz.func59, Tryz.ntmps59
  go_wp2_with fail
  refine c1.mono ?_
  rintro e w1 ⟨rfl, hf⟩
  go_wp2_with fail
  refine (c2 w1).mono ?_
  rintro e w2 ⟨rfl, hf2⟩
  go_wp2
  go_ret2
  exact ⟨ret_pair rfl rfl, (hf.alloc _).trans hf2⟩

/-- A float with the other sign. -/
def flipF (f : Nat) : Nat := if 9223372036854775808 ≤ f then f - 9223372036854775808 else f + 9223372036854775808
theorem flip_lt {f : Nat} (h : f < 18446744073709551616) : flipF f < 18446744073709551616 := by unfold flipF; split <;> omega
theorem xor_top (g : Nat) (h : g < 2 ^ 63) : g ^^^ 2 ^ 63 = 2 ^ 63 + g := by
  apply Nat.eq_of_testBit_eq
  intro i
  rw [Nat.testBit_xor, Nat.testBit_two_pow]
  by_cases h1 : i = 63
  · subst h1
    rw [Nat.testBit_two_pow_add_eq]; simp
  · by_cases h2 : i < 63
    · rw [Nat.testBit_two_pow_add_gt h2]
      have : ¬ 63 = i := fun e => h1 e.symm
      simp [this]
    · have a : g.testBit i = false := Nat.testBit_lt_two_pow (Nat.lt_of_lt_of_le h (Nat.pow_le_pow_right (by omega) (by omega)))
      have b : (2 ^ 63 + g).testBit i = false := Nat.testBit_lt_two_pow (Nat.lt_of_lt_of_le (show 2 ^ 63 + g < 2 ^ 64 by omega) (Nat.pow_le_pow_right (by omega) (by omega)))
      have : ¬ 63 = i := fun e => h1 e.symm
      rw [a, b]; simp [this]
theorem xor_flip (f : Nat) (hf : f < 18446744073709551616) : f ^^^ 9223372036854775808 = flipF f := by
  unfold flipF
  by_cases c : 9223372036854775808 ≤ f
  · rw [if_pos c]
    have e := xor_top (f - 9223372036854775808) (by show _ < 9223372036854775808; omega)
    rw [show (2 : Nat) ^ 63 = 9223372036854775808 from rfl, show 9223372036854775808 + (f - 9223372036854775808) = f by omega] at e
    have e2 : f ^^^ 9223372036854775808 = ((f - 9223372036854775808) ^^^ 9223372036854775808) ^^^ 9223372036854775808 := by rw [e]
    rw [e2, Nat.xor_assoc, Nat.xor_self, Nat.xor_zero]
  · rw [if_neg c]
    have e := xor_top f (by show _ < 9223372036854775808; omega)
    rw [show (2 : Nat) ^ 63 = 9223372036854775808 from rfl] at e
    rw [e]; omega
theorem xor_sign (f : Nat) (hf : f < 18446744073709551616) : bits .xor .u64 (f : Int) 9223372036854775808 = (flipF f : Int) := by
  have h := bits_xor_u64_nat f 9223372036854775808 hf (by decide)
  rw [xor_flip f hf] at h
  exact h

end Go.Proofs.YtcfhajnboamnnabGreatDoor

namespace Go.Proofs.YtcfhajnboamnnabGreatDoor
open Go.RowKit
set_option linter.unusedVariables false
set_option linter.unusedSimpArgs false

/-- A quotient, rounded: o is the quotient of what is finite and not nought. -/
def divV (m : Int) (v w o : Bool × Bool × Nat × Int) : Nat × Nat :=
  if (v.2.1 = true ∧ w.2.1 = true) ∨ ((v.2.1 = false ∧ v.2.2.1 = 0) ∧ w.2.1 = false ∧ w.2.2.1 = 0) then (9221120237041090560, 16) else
  if v.2.1 = true then rdV m (v.1 != w.1, true, 0, 0) else
  if w.2.1 = true ∨ v.2.2.1 = 0 then rdV m (v.1 != w.1, false, 0, 0) else
  if w.2.2.1 = 0 then ((rdV m (v.1 != w.1, true, 0, 0)).1, 8) else rdV m o

set_option maxHeartbeats 8000000 in
set_option maxRecDepth 100000 in
theorem quotient_of {w : World} {g : Nat} {T : TypeId} {s en t em : Bool} {a b n c d k : Nat} {x y : Int} (m : Int) (o : Bool × Bool × Nat × Int) (ho : -1000000 ≤ o.2.2.2 ∧ o.2.2.2 ≤ 1000000) (hov : en = false → em = false → n ≠ 0 → k ≠ 0 → ∀ w, Calls Tryz.prog 110 #[.agg #[.bool s, .bool en, .int .u64 (a), .int .u64 (b), .int .i64 (x)], .agg #[.bool t, .bool em, .int .u64 (c), .int .u64 (d), .int .i64 (y)]] w fun e w' => ∃ r, e = .returned r ∧ Fwd w w' ∧ VT r o) (hn : VV (.agg #[.bool s, .bool en, .int .u64 (a), .int .u64 (b), .int .i64 (x)]) s en n x) (hk : VV (.agg #[.bool t, .bool em, .int .u64 (c), .int .u64 (d), .int .i64 (y)]) t em k y) (hB : BlkV w g T [.bool s, .bool en, .int .u64 (a), .int .u64 (b), .int .i64 (x), .bool t, .bool em, .int .u64 (c), .int .u64 (d), .int .i64 (y)]) (hn0 : n < 9007199254740992) (hn1 : -10000 ≤ x) (hn2 : x ≤ 10000) (hk0 : k < 9007199254740992) (hk1 : -10000 ≤ y) (hk2 : y ≤ 10000) :
    Calls Tryz.prog 85 #[ruleV m, .slice (some ⟨g, 0, none⟩) 2 2] w fun e w' => e = .returned (.tuple #[.int .u64 ((divV m (s, en, n, x) (t, em, k, y) o).1 : Nat), .int .i64 ((divV m (s, en, n, x) (t, em, k, y) o).2 : Nat)]) ∧ Fwd w w' := by
  have na := fun w => visNought_any (w := w) hn
  have nb := fun w => visNought_any (w := w) hk
  have ri := fun w => round_any (w := w) (v := .agg #[.bool (s != t), .bool true, .int .u64 ((0 : Nat) : Int), .int .u64 ((0 : Nat) : Int), .int .i64 0]) (s := s != t) (en := true) (n := 0) (x := 0) m ⟨0, 0, rfl, by omega, by omega, rfl⟩ (by omega) (by omega)
  have rz := fun w => round_any (w := w) (v := .agg #[.bool (s != t), .bool false, .int .u64 ((0 : Nat) : Int), .int .u64 ((0 : Nat) : Int), .int .i64 0]) (s := s != t) (en := false) (n := 0) (x := 0) m ⟨0, 0, rfl, by omega, by omega, rfl⟩ (by omega) (by omega)
  unfold ruleV at ri rz
  have i2 : (!(s == t)) = (s != t) := rfl
  have hlt := BlkV.lt hB
  unfold ruleV
  have kQ : BlkV (w.alloc (.cells #[.int .u8 (rAbove m), .int .u8 (rBelow m), .bool (rMinus m)] 97)) (w.heap.size) 97 [.int .u8 (rAbove m), .int .u8 (rBelow m), .bool (rMinus m)] := BlkV.made' w (w.heap.size) (by simp) 97 [.int .u8 (rAbove m), .int .u8 (rBelow m), .bool (rMinus m)]
  have hF : Fwd w (w.alloc (.cells #[.int .u8 (rAbove m), .int .u8 (rBelow m), .bool (rMinus m)] 97)) := (Fwd.refl w).alloc _
  have kB : BlkV (w.alloc (.cells #[.int .u8 (rAbove m), .int .u8 (rBelow m), .bool (rMinus m)] 97)) g T [.bool s, .bool en, .int .u64 (a), .int .u64 (b), .int .i64 (x), .bool t, .bool em, .int .u64 (c), .int .u64 (d), .int .i64 (y)] := hB.fwd hF
  clear hB
  go_enter Tryz.func85, Tryz.ntmps85
  have qc0 := BlkV.cell kQ 0 rfl
  have qz0 := BlkV.frozen kQ 0
  have qc1 := BlkV.cell kQ 1 rfl
  have qz1 := BlkV.frozen kQ 1
  have qc2 := BlkV.cell kQ 2 rfl
  have qz2 := BlkV.frozen kQ 2
  have bc0 := BlkV.cell kB 0 rfl
  have bz0 := BlkV.frozen kB 0
  have bc1 := BlkV.cell kB 1 rfl
  have bz1 := BlkV.frozen kB 1
  have bc2 := BlkV.cell kB 2 rfl
  have bz2 := BlkV.frozen kB 2
  have bc3 := BlkV.cell kB 3 rfl
  have bz3 := BlkV.frozen kB 3
  have bc4 := BlkV.cell kB 4 rfl
  have bz4 := BlkV.frozen kB 4
  have bc5 := BlkV.cell kB 5 rfl
  have bz5 := BlkV.frozen kB 5
  have bc6 := BlkV.cell kB 6 rfl
  have bz6 := BlkV.frozen kB 6
  have bc7 := BlkV.cell kB 7 rfl
  have bz7 := BlkV.frozen kB 7
  have bc8 := BlkV.cell kB 8 rfl
  have bz8 := BlkV.frozen kB 8
  have bc9 := BlkV.cell kB 9 rfl
  have bz9 := BlkV.frozen kB 9
  go_upto_region 1 with fail
  go_cut [6, 7] (fun pX qX wx => ∃ (gA gB : Nat), pX = .pointer (some ⟨gA, 0, none⟩) ∧ qX = .pointer (some ⟨gB, 0, none⟩) ∧ gA ≠ gB ∧ w.heap.size + 1 ≤ gA ∧ w.heap.size + 1 ≤ gB ∧ BlkV wx gA 107 [.bool s, .bool en, .int .u64 (a), .int .u64 (b), .int .i64 (x)] ∧ BlkV wx gB 107 [.bool t, .bool em, .int .u64 (c), .int .u64 (d), .int .i64 (y)] ∧ BlkV wx w.heap.size 97 [.int .u8 (rAbove m), .int .u8 (rBelow m), .bool (rMinus m)] ∧ Fwd w wx)
  case first =>
    replace kQ := kQ.drew
    replace kB := kB.drew
    replace hF := hF.drew
    clear qc0 qz0 qc1 qz1 qc2 qz2
    clear bc0 bz0 bc1 bz1 bc2 bz2 bc3 bz3 bc4 bz4 bc5 bz5 bc6 bz6 bc7 bz7 bc8 bz8 bc9 bz9
    have qc0 := BlkV.cell kQ 0 rfl
    have qc1 := BlkV.cell kQ 1 rfl
    have qc2 := BlkV.cell kQ 2 rfl
    have bc0 := BlkV.cell kB 0 rfl
    have bc1 := BlkV.cell kB 1 rfl
    have bc2 := BlkV.cell kB 2 rfl
    have bc3 := BlkV.cell kB 3 rfl
    have bc4 := BlkV.cell kB 4 rfl
    have bc5 := BlkV.cell kB 5 rfl
    have bc6 := BlkV.cell kB 6 rfl
    have bc7 := BlkV.cell kB 7 rfl
    have bc8 := BlkV.cell kB 8 rfl
    have bc9 := BlkV.cell kB 9 rfl
    have ne1 : g ≠ w.heap.size + 1 := by omega
    have ne2 : g ≠ w.heap.size + 1 + 1 := by omega
    go_region_held3 (fun w' => w'.cell? ⟨g, 0, none⟩ = some (.bool s) ∧ w'.cell? ⟨g, 1, none⟩ = some (.bool en) ∧ w'.cell? ⟨g, 2, none⟩ = some (.int .u64 (a)) ∧ w'.cell? ⟨g, 3, none⟩ = some (.int .u64 (b)) ∧ w'.cell? ⟨g, 4, none⟩ = some (.int .i64 (x)) ∧ w'.cell? ⟨g, 5, none⟩ = some (.bool t) ∧ w'.cell? ⟨g, 6, none⟩ = some (.bool em) ∧ w'.cell? ⟨g, 7, none⟩ = some (.int .u64 (c)) ∧ w'.cell? ⟨g, 8, none⟩ = some (.int .u64 (d)) ∧ w'.cell? ⟨g, 9, none⟩ = some (.int .i64 (y)))
      (refine ⟨?_, ?_, ?_, ?_, ?_, ?_, ?_, ?_, ?_, ?_⟩ <;> first | with_reducible assumption | with_reducible exact Fwd.cell ((Fwd.refl _).alloc _) (by with_reducible assumption) | with_reducible exact cell_drew_alloc' (by with_reducible assumption) | with_reducible exact cell_drew_alloc' (cell_drew_alloc' (by with_reducible assumption)) | exact farset5 ne1 (by with_reducible assumption) | exact farset5 ne2 (by with_reducible assumption))
      (fail)
    all_goals (go_wp2_with fail; go_meet)
    · exact ⟨_, _, rfl, rfl, by omega, by omega, by omega, BlkV.drew ((BlkV.made' (w.alloc (.cells #[.int .u8 (rAbove m), .int .u8 (rBelow m), .bool (rMinus m)] 97)) (w.heap.size + 1) (by simp) 107 [.bool s, .bool en, .int .u64 (a), .int .u64 (b), .int .i64 (x)]).alloc _), BlkV.drew (BlkV.made' ((w.alloc (.cells #[.int .u8 (rAbove m), .int .u8 (rBelow m), .bool (rMinus m)] 97)).alloc (.cells #[.bool s, .bool en, .int .u64 (a), .int .u64 (b), .int .i64 (x)] 107)) (w.heap.size + 1 + 1) (by simp) 107 [.bool t, .bool em, .int .u64 (c), .int .u64 (d), .int .i64 (y)]), BlkV.drew (((BlkV.made w 97 [.int .u8 (rAbove m), .int .u8 (rBelow m), .bool (rMinus m)]).alloc _).alloc _), ((((Fwd.refl w).alloc _).alloc _).alloc _).drew⟩
    · exact ⟨_, _, rfl, rfl, by omega, by omega, by omega, BlkV.drew (BlkV.made' ((w.alloc (.cells #[.int .u8 (rAbove m), .int .u8 (rBelow m), .bool (rMinus m)] 97)).alloc (.cells #[.bool t, .bool em, .int .u64 (c), .int .u64 (d), .int .i64 (y)] 107)) (w.heap.size + 1 + 1) (by simp) 107 [.bool s, .bool en, .int .u64 (a), .int .u64 (b), .int .i64 (x)]), BlkV.drew ((BlkV.made' (w.alloc (.cells #[.int .u8 (rAbove m), .int .u8 (rBelow m), .bool (rMinus m)] 97)) (w.heap.size + 1) (by simp) 107 [.bool t, .bool em, .int .u64 (c), .int .u64 (d), .int .i64 (y)]).alloc _), BlkV.drew (((BlkV.made w 97 [.int .u8 (rAbove m), .int .u8 (rBelow m), .bool (rMinus m)]).alloc _).alloc _), ((((Fwd.refl w).alloc _).alloc _).alloc _).drew⟩
  case rest =>
  clear hF kQ kB hlt qc0 qz0 qc1 qz1 qc2 qz2 bc0 bz0 bc1 bz1 bc2 bz2 bc3 bz3 bc4 bz4 bc5 bz5 bc6 bz6 bc7 bz7 bc8 bz8 bc9 bz9
  obtain ⟨gA, gB, rfl, rfl, hAB, hgA, hgB, kA, kB, kQ, hF⟩ := hcut
  have qc0 := BlkV.cell kQ 0 rfl
  have qc1 := BlkV.cell kQ 1 rfl
  have qc2 := BlkV.cell kQ 2 rfl
  have ac0 := BlkV.cell kA 0 rfl
  have ac1 := BlkV.cell kA 1 rfl
  have ac2 := BlkV.cell kA 2 rfl
  have ac3 := BlkV.cell kA 3 rfl
  have ac4 := BlkV.cell kA 4 rfl
  have bc0 := BlkV.cell kB 0 rfl
  have bc1 := BlkV.cell kB 1 rfl
  have bc2 := BlkV.cell kB 2 rfl
  have bc3 := BlkV.cell kB 3 rfl
  have bc4 := BlkV.cell kB 4 rfl
  cases en <;> cases em
  · by_cases cn : n = 0
    · by_cases ck : k = 0
      · have HV : Hid (divV m (s, false, n, x) (t, false, k, y) o = (9221120237041090560, 16)) := hid (by simp [divV, cn, ck])
        have ena : (!false && n == 0) = true := by simp [cn]
        simp only [ena] at na
        clear ena
        have enb : (!false && k == 0) = true := by simp [ck]
        simp only [enb] at nb
        clear enb
        clear hov
        clear cn
        clear ck
        clear ri rz
        go_wp2_with fail
        refine (na _).mono ?_
        rintro e w1 ⟨rfl, hf1⟩
        replace kQ := kQ.fwd hf1
        replace kA := kA.fwd hf1
        replace kB := kB.fwd hf1
        replace hF := hF.trans hf1
        clear hf1
        clear qc0 qc1 qc2
        clear ac0 ac1 ac2 ac3 ac4
        clear bc0 bc1 bc2 bc3 bc4
        have qc0 := BlkV.cell kQ 0 rfl
        have qz0 := BlkV.frozen kQ 0
        have qc1 := BlkV.cell kQ 1 rfl
        have qz1 := BlkV.frozen kQ 1
        have qc2 := BlkV.cell kQ 2 rfl
        have qz2 := BlkV.frozen kQ 2
        have ac0 := BlkV.cell kA 0 rfl
        have az0 := BlkV.frozen kA 0
        have ac1 := BlkV.cell kA 1 rfl
        have az1 := BlkV.frozen kA 1
        have ac2 := BlkV.cell kA 2 rfl
        have az2 := BlkV.frozen kA 2
        have ac3 := BlkV.cell kA 3 rfl
        have az3 := BlkV.frozen kA 3
        have ac4 := BlkV.cell kA 4 rfl
        have az4 := BlkV.frozen kA 4
        have bc0 := BlkV.cell kB 0 rfl
        have bz0 := BlkV.frozen kB 0
        have bc1 := BlkV.cell kB 1 rfl
        have bz1 := BlkV.frozen kB 1
        have bc2 := BlkV.cell kB 2 rfl
        have bz2 := BlkV.frozen kB 2
        have bc3 := BlkV.cell kB 3 rfl
        have bz3 := BlkV.frozen kB 3
        have bc4 := BlkV.cell kB 4 rfl
        have bz4 := BlkV.frozen kB 4
        go_wp2_with fail
        refine (nb _).mono ?_
        rintro e w2 ⟨rfl, hf2⟩
        replace kQ := kQ.fwd hf2
        replace kA := kA.fwd hf2
        replace kB := kB.fwd hf2
        replace hF := hF.trans hf2
        clear hf2
        clear qc0 qz0 qc1 qz1 qc2 qz2
        clear ac0 az0 ac1 az1 ac2 az2 ac3 az3 ac4 az4
        clear bc0 bz0 bc1 bz1 bc2 bz2 bc3 bz3 bc4 bz4
        have qc0 := BlkV.cell kQ 0 rfl
        have qz0 := BlkV.frozen kQ 0
        have qc1 := BlkV.cell kQ 1 rfl
        have qz1 := BlkV.frozen kQ 1
        have qc2 := BlkV.cell kQ 2 rfl
        have qz2 := BlkV.frozen kQ 2
        have ac0 := BlkV.cell kA 0 rfl
        have az0 := BlkV.frozen kA 0
        have ac1 := BlkV.cell kA 1 rfl
        have az1 := BlkV.frozen kA 1
        have ac2 := BlkV.cell kA 2 rfl
        have az2 := BlkV.frozen kA 2
        have ac3 := BlkV.cell kA 3 rfl
        have az3 := BlkV.frozen kA 3
        have ac4 := BlkV.cell kA 4 rfl
        have az4 := BlkV.frozen kA 4
        have bc0 := BlkV.cell kB 0 rfl
        have bz0 := BlkV.frozen kB 0
        have bc1 := BlkV.cell kB 1 rfl
        have bz1 := BlkV.frozen kB 1
        have bc2 := BlkV.cell kB 2 rfl
        have bz2 := BlkV.frozen kB 2
        have bc3 := BlkV.cell kB 3 rfl
        have bz3 := BlkV.frozen kB 3
        have bc4 := BlkV.cell kB 4 rfl
        have bz4 := BlkV.frozen kB 4
        go_wp2
        go_ret2
        exact ⟨ret_pair (by rw [HV.out]; rfl) (by rw [HV.out]; rfl), hF⟩
      · have HV : Hid (divV m (s, false, n, x) (t, false, k, y) o = rdV m (s != t, false, 0, 0)) := hid (by simp [divV, cn, ck])
        have ena : (!false && n == 0) = true := by simp [cn]
        simp only [ena] at na
        clear ena
        have enb : (!false && k == 0) = false := by simp [ck]
        simp only [enb] at nb
        clear enb
        clear hov
        clear cn
        clear ck
        generalize rdV m (s != t, false, 0, 0) = Y at *
        obtain ⟨y1, y2⟩ := Y
        clear ri
        generalize (s != t) = st at *
        go_wp2_with fail
        refine (na _).mono ?_
        rintro e w1 ⟨rfl, hf1⟩
        replace kQ := kQ.fwd hf1
        replace kA := kA.fwd hf1
        replace kB := kB.fwd hf1
        replace hF := hF.trans hf1
        clear hf1
        clear qc0 qc1 qc2
        clear ac0 ac1 ac2 ac3 ac4
        clear bc0 bc1 bc2 bc3 bc4
        have qc0 := BlkV.cell kQ 0 rfl
        have qz0 := BlkV.frozen kQ 0
        have qc1 := BlkV.cell kQ 1 rfl
        have qz1 := BlkV.frozen kQ 1
        have qc2 := BlkV.cell kQ 2 rfl
        have qz2 := BlkV.frozen kQ 2
        have ac0 := BlkV.cell kA 0 rfl
        have az0 := BlkV.frozen kA 0
        have ac1 := BlkV.cell kA 1 rfl
        have az1 := BlkV.frozen kA 1
        have ac2 := BlkV.cell kA 2 rfl
        have az2 := BlkV.frozen kA 2
        have ac3 := BlkV.cell kA 3 rfl
        have az3 := BlkV.frozen kA 3
        have ac4 := BlkV.cell kA 4 rfl
        have az4 := BlkV.frozen kA 4
        have bc0 := BlkV.cell kB 0 rfl
        have bz0 := BlkV.frozen kB 0
        have bc1 := BlkV.cell kB 1 rfl
        have bz1 := BlkV.frozen kB 1
        have bc2 := BlkV.cell kB 2 rfl
        have bz2 := BlkV.frozen kB 2
        have bc3 := BlkV.cell kB 3 rfl
        have bz3 := BlkV.frozen kB 3
        have bc4 := BlkV.cell kB 4 rfl
        have bz4 := BlkV.frozen kB 4
        go_wp2_with fail
        refine (nb _).mono ?_
        rintro e w2 ⟨rfl, hf2⟩
        replace kQ := kQ.fwd hf2
        replace kA := kA.fwd hf2
        replace kB := kB.fwd hf2
        replace hF := hF.trans hf2
        clear hf2
        clear qc0 qz0 qc1 qz1 qc2 qz2
        clear ac0 az0 ac1 az1 ac2 az2 ac3 az3 ac4 az4
        clear bc0 bz0 bc1 bz1 bc2 bz2 bc3 bz3 bc4 bz4
        have qc0 := BlkV.cell kQ 0 rfl
        have qz0 := BlkV.frozen kQ 0
        have qc1 := BlkV.cell kQ 1 rfl
        have qz1 := BlkV.frozen kQ 1
        have qc2 := BlkV.cell kQ 2 rfl
        have qz2 := BlkV.frozen kQ 2
        have ac0 := BlkV.cell kA 0 rfl
        have az0 := BlkV.frozen kA 0
        have ac1 := BlkV.cell kA 1 rfl
        have az1 := BlkV.frozen kA 1
        have ac2 := BlkV.cell kA 2 rfl
        have az2 := BlkV.frozen kA 2
        have ac3 := BlkV.cell kA 3 rfl
        have az3 := BlkV.frozen kA 3
        have ac4 := BlkV.cell kA 4 rfl
        have az4 := BlkV.frozen kA 4
        have bc0 := BlkV.cell kB 0 rfl
        have bz0 := BlkV.frozen kB 0
        have bc1 := BlkV.cell kB 1 rfl
        have bz1 := BlkV.frozen kB 1
        have bc2 := BlkV.cell kB 2 rfl
        have bz2 := BlkV.frozen kB 2
        have bc3 := BlkV.cell kB 3 rfl
        have bz3 := BlkV.frozen kB 3
        have bc4 := BlkV.cell kB 4 rfl
        have bz4 := BlkV.frozen kB 4
        go_wp2_with fail
        refine (na _).mono ?_
        rintro e w3 ⟨rfl, hf3⟩
        replace kQ := kQ.fwd hf3
        replace kA := kA.fwd hf3
        replace kB := kB.fwd hf3
        replace hF := hF.trans hf3
        clear hf3
        clear qc0 qz0 qc1 qz1 qc2 qz2
        clear ac0 az0 ac1 az1 ac2 az2 ac3 az3 ac4 az4
        clear bc0 bz0 bc1 bz1 bc2 bz2 bc3 bz3 bc4 bz4
        have qc0 := BlkV.cell kQ 0 rfl
        have qz0 := BlkV.frozen kQ 0
        have qc1 := BlkV.cell kQ 1 rfl
        have qz1 := BlkV.frozen kQ 1
        have qc2 := BlkV.cell kQ 2 rfl
        have qz2 := BlkV.frozen kQ 2
        have ac0 := BlkV.cell kA 0 rfl
        have az0 := BlkV.frozen kA 0
        have ac1 := BlkV.cell kA 1 rfl
        have az1 := BlkV.frozen kA 1
        have ac2 := BlkV.cell kA 2 rfl
        have az2 := BlkV.frozen kA 2
        have ac3 := BlkV.cell kA 3 rfl
        have az3 := BlkV.frozen kA 3
        have ac4 := BlkV.cell kA 4 rfl
        have az4 := BlkV.frozen kA 4
        have bc0 := BlkV.cell kB 0 rfl
        have bz0 := BlkV.frozen kB 0
        have bc1 := BlkV.cell kB 1 rfl
        have bz1 := BlkV.frozen kB 1
        have bc2 := BlkV.cell kB 2 rfl
        have bz2 := BlkV.frozen kB 2
        have bc3 := BlkV.cell kB 3 rfl
        have bz3 := BlkV.frozen kB 3
        have bc4 := BlkV.cell kB 4 rfl
        have bz4 := BlkV.frozen kB 4
        go_wp2_with fail
        refine (rz _).mono ?_
        rintro e w4 ⟨rfl, hf4⟩
        replace kQ := kQ.fwd hf4
        replace kA := kA.fwd hf4
        replace kB := kB.fwd hf4
        replace hF := hF.trans hf4
        clear hf4
        clear qc0 qz0 qc1 qz1 qc2 qz2
        clear ac0 az0 ac1 az1 ac2 az2 ac3 az3 ac4 az4
        clear bc0 bz0 bc1 bz1 bc2 bz2 bc3 bz3 bc4 bz4
        have qc0 := BlkV.cell kQ 0 rfl
        have qz0 := BlkV.frozen kQ 0
        have qc1 := BlkV.cell kQ 1 rfl
        have qz1 := BlkV.frozen kQ 1
        have qc2 := BlkV.cell kQ 2 rfl
        have qz2 := BlkV.frozen kQ 2
        have ac0 := BlkV.cell kA 0 rfl
        have az0 := BlkV.frozen kA 0
        have ac1 := BlkV.cell kA 1 rfl
        have az1 := BlkV.frozen kA 1
        have ac2 := BlkV.cell kA 2 rfl
        have az2 := BlkV.frozen kA 2
        have ac3 := BlkV.cell kA 3 rfl
        have az3 := BlkV.frozen kA 3
        have ac4 := BlkV.cell kA 4 rfl
        have az4 := BlkV.frozen kA 4
        have bc0 := BlkV.cell kB 0 rfl
        have bz0 := BlkV.frozen kB 0
        have bc1 := BlkV.cell kB 1 rfl
        have bz1 := BlkV.frozen kB 1
        have bc2 := BlkV.cell kB 2 rfl
        have bz2 := BlkV.frozen kB 2
        have bc3 := BlkV.cell kB 3 rfl
        have bz3 := BlkV.frozen kB 3
        have bc4 := BlkV.cell kB 4 rfl
        have bz4 := BlkV.frozen kB 4
        go_wp2
        go_ret2
        exact ⟨ret_pair (by rw [HV.out]; try rfl) (by rw [HV.out]; try rfl), hF⟩
    · by_cases ck : k = 0
      · have HV : Hid (divV m (s, false, n, x) (t, false, k, y) o = ((rdV m (s != t, true, 0, 0)).1, 8)) := hid (by simp [divV, cn, ck])
        have ena : (!false && n == 0) = false := by simp [cn]
        simp only [ena] at na
        clear ena
        have enb : (!false && k == 0) = true := by simp [ck]
        simp only [enb] at nb
        clear enb
        clear hov
        clear cn
        clear ck
        generalize rdV m (s != t, true, 0, 0) = Y at *
        obtain ⟨y1, y2⟩ := Y
        clear rz
        generalize (s != t) = st at *
        go_wp2_with fail
        refine (na _).mono ?_
        rintro e w1 ⟨rfl, hf1⟩
        replace kQ := kQ.fwd hf1
        replace kA := kA.fwd hf1
        replace kB := kB.fwd hf1
        replace hF := hF.trans hf1
        clear hf1
        clear qc0 qc1 qc2
        clear ac0 ac1 ac2 ac3 ac4
        clear bc0 bc1 bc2 bc3 bc4
        have qc0 := BlkV.cell kQ 0 rfl
        have qz0 := BlkV.frozen kQ 0
        have qc1 := BlkV.cell kQ 1 rfl
        have qz1 := BlkV.frozen kQ 1
        have qc2 := BlkV.cell kQ 2 rfl
        have qz2 := BlkV.frozen kQ 2
        have ac0 := BlkV.cell kA 0 rfl
        have az0 := BlkV.frozen kA 0
        have ac1 := BlkV.cell kA 1 rfl
        have az1 := BlkV.frozen kA 1
        have ac2 := BlkV.cell kA 2 rfl
        have az2 := BlkV.frozen kA 2
        have ac3 := BlkV.cell kA 3 rfl
        have az3 := BlkV.frozen kA 3
        have ac4 := BlkV.cell kA 4 rfl
        have az4 := BlkV.frozen kA 4
        have bc0 := BlkV.cell kB 0 rfl
        have bz0 := BlkV.frozen kB 0
        have bc1 := BlkV.cell kB 1 rfl
        have bz1 := BlkV.frozen kB 1
        have bc2 := BlkV.cell kB 2 rfl
        have bz2 := BlkV.frozen kB 2
        have bc3 := BlkV.cell kB 3 rfl
        have bz3 := BlkV.frozen kB 3
        have bc4 := BlkV.cell kB 4 rfl
        have bz4 := BlkV.frozen kB 4
        go_wp2_with fail
        refine (na _).mono ?_
        rintro e w2 ⟨rfl, hf2⟩
        replace kQ := kQ.fwd hf2
        replace kA := kA.fwd hf2
        replace kB := kB.fwd hf2
        replace hF := hF.trans hf2
        clear hf2
        clear qc0 qz0 qc1 qz1 qc2 qz2
        clear ac0 az0 ac1 az1 ac2 az2 ac3 az3 ac4 az4
        clear bc0 bz0 bc1 bz1 bc2 bz2 bc3 bz3 bc4 bz4
        have qc0 := BlkV.cell kQ 0 rfl
        have qz0 := BlkV.frozen kQ 0
        have qc1 := BlkV.cell kQ 1 rfl
        have qz1 := BlkV.frozen kQ 1
        have qc2 := BlkV.cell kQ 2 rfl
        have qz2 := BlkV.frozen kQ 2
        have ac0 := BlkV.cell kA 0 rfl
        have az0 := BlkV.frozen kA 0
        have ac1 := BlkV.cell kA 1 rfl
        have az1 := BlkV.frozen kA 1
        have ac2 := BlkV.cell kA 2 rfl
        have az2 := BlkV.frozen kA 2
        have ac3 := BlkV.cell kA 3 rfl
        have az3 := BlkV.frozen kA 3
        have ac4 := BlkV.cell kA 4 rfl
        have az4 := BlkV.frozen kA 4
        have bc0 := BlkV.cell kB 0 rfl
        have bz0 := BlkV.frozen kB 0
        have bc1 := BlkV.cell kB 1 rfl
        have bz1 := BlkV.frozen kB 1
        have bc2 := BlkV.cell kB 2 rfl
        have bz2 := BlkV.frozen kB 2
        have bc3 := BlkV.cell kB 3 rfl
        have bz3 := BlkV.frozen kB 3
        have bc4 := BlkV.cell kB 4 rfl
        have bz4 := BlkV.frozen kB 4
        go_wp2_with fail
        refine (nb _).mono ?_
        rintro e w3 ⟨rfl, hf3⟩
        replace kQ := kQ.fwd hf3
        replace kA := kA.fwd hf3
        replace kB := kB.fwd hf3
        replace hF := hF.trans hf3
        clear hf3
        clear qc0 qz0 qc1 qz1 qc2 qz2
        clear ac0 az0 ac1 az1 ac2 az2 ac3 az3 ac4 az4
        clear bc0 bz0 bc1 bz1 bc2 bz2 bc3 bz3 bc4 bz4
        have qc0 := BlkV.cell kQ 0 rfl
        have qz0 := BlkV.frozen kQ 0
        have qc1 := BlkV.cell kQ 1 rfl
        have qz1 := BlkV.frozen kQ 1
        have qc2 := BlkV.cell kQ 2 rfl
        have qz2 := BlkV.frozen kQ 2
        have ac0 := BlkV.cell kA 0 rfl
        have az0 := BlkV.frozen kA 0
        have ac1 := BlkV.cell kA 1 rfl
        have az1 := BlkV.frozen kA 1
        have ac2 := BlkV.cell kA 2 rfl
        have az2 := BlkV.frozen kA 2
        have ac3 := BlkV.cell kA 3 rfl
        have az3 := BlkV.frozen kA 3
        have ac4 := BlkV.cell kA 4 rfl
        have az4 := BlkV.frozen kA 4
        have bc0 := BlkV.cell kB 0 rfl
        have bz0 := BlkV.frozen kB 0
        have bc1 := BlkV.cell kB 1 rfl
        have bz1 := BlkV.frozen kB 1
        have bc2 := BlkV.cell kB 2 rfl
        have bz2 := BlkV.frozen kB 2
        have bc3 := BlkV.cell kB 3 rfl
        have bz3 := BlkV.frozen kB 3
        have bc4 := BlkV.cell kB 4 rfl
        have bz4 := BlkV.frozen kB 4
        go_wp2_with fail
        refine (ri _).mono ?_
        rintro e w4 ⟨rfl, hf4⟩
        replace kQ := kQ.fwd hf4
        replace kA := kA.fwd hf4
        replace kB := kB.fwd hf4
        replace hF := hF.trans hf4
        clear hf4
        clear qc0 qz0 qc1 qz1 qc2 qz2
        clear ac0 az0 ac1 az1 ac2 az2 ac3 az3 ac4 az4
        clear bc0 bz0 bc1 bz1 bc2 bz2 bc3 bz3 bc4 bz4
        have qc0 := BlkV.cell kQ 0 rfl
        have qz0 := BlkV.frozen kQ 0
        have qc1 := BlkV.cell kQ 1 rfl
        have qz1 := BlkV.frozen kQ 1
        have qc2 := BlkV.cell kQ 2 rfl
        have qz2 := BlkV.frozen kQ 2
        have ac0 := BlkV.cell kA 0 rfl
        have az0 := BlkV.frozen kA 0
        have ac1 := BlkV.cell kA 1 rfl
        have az1 := BlkV.frozen kA 1
        have ac2 := BlkV.cell kA 2 rfl
        have az2 := BlkV.frozen kA 2
        have ac3 := BlkV.cell kA 3 rfl
        have az3 := BlkV.frozen kA 3
        have ac4 := BlkV.cell kA 4 rfl
        have az4 := BlkV.frozen kA 4
        have bc0 := BlkV.cell kB 0 rfl
        have bz0 := BlkV.frozen kB 0
        have bc1 := BlkV.cell kB 1 rfl
        have bz1 := BlkV.frozen kB 1
        have bc2 := BlkV.cell kB 2 rfl
        have bz2 := BlkV.frozen kB 2
        have bc3 := BlkV.cell kB 3 rfl
        have bz3 := BlkV.frozen kB 3
        have bc4 := BlkV.cell kB 4 rfl
        have bz4 := BlkV.frozen kB 4
        go_wp2
        go_ret2
        exact ⟨ret_pair (by rw [HV.out]; try rfl) (by rw [HV.out]; try rfl), hF⟩
      · have HV : Hid (divV m (s, false, n, x) (t, false, k, y) o = rdV m o) := hid (by simp [divV, cn, ck])
        have ena : (!false && n == 0) = false := by simp [cn]
        simp only [ena] at na
        clear ena
        have enb : (!false && k == 0) = false := by simp [ck]
        simp only [enb] at nb
        clear enb
        have ov := hov rfl rfl cn ck
        clear hov
        clear cn
        clear ck
        obtain ⟨os, oe, on, ox⟩ := o
        simp only at ho
        clear ri rz
        generalize (s != t) = st at *
        go_wp2_with fail
        refine (na _).mono ?_
        rintro e w1 ⟨rfl, hf1⟩
        replace kQ := kQ.fwd hf1
        replace kA := kA.fwd hf1
        replace kB := kB.fwd hf1
        replace hF := hF.trans hf1
        clear hf1
        clear qc0 qc1 qc2
        clear ac0 ac1 ac2 ac3 ac4
        clear bc0 bc1 bc2 bc3 bc4
        have qc0 := BlkV.cell kQ 0 rfl
        have qz0 := BlkV.frozen kQ 0
        have qc1 := BlkV.cell kQ 1 rfl
        have qz1 := BlkV.frozen kQ 1
        have qc2 := BlkV.cell kQ 2 rfl
        have qz2 := BlkV.frozen kQ 2
        have ac0 := BlkV.cell kA 0 rfl
        have az0 := BlkV.frozen kA 0
        have ac1 := BlkV.cell kA 1 rfl
        have az1 := BlkV.frozen kA 1
        have ac2 := BlkV.cell kA 2 rfl
        have az2 := BlkV.frozen kA 2
        have ac3 := BlkV.cell kA 3 rfl
        have az3 := BlkV.frozen kA 3
        have ac4 := BlkV.cell kA 4 rfl
        have az4 := BlkV.frozen kA 4
        have bc0 := BlkV.cell kB 0 rfl
        have bz0 := BlkV.frozen kB 0
        have bc1 := BlkV.cell kB 1 rfl
        have bz1 := BlkV.frozen kB 1
        have bc2 := BlkV.cell kB 2 rfl
        have bz2 := BlkV.frozen kB 2
        have bc3 := BlkV.cell kB 3 rfl
        have bz3 := BlkV.frozen kB 3
        have bc4 := BlkV.cell kB 4 rfl
        have bz4 := BlkV.frozen kB 4
        go_wp2_with fail
        refine (na _).mono ?_
        rintro e w2 ⟨rfl, hf2⟩
        replace kQ := kQ.fwd hf2
        replace kA := kA.fwd hf2
        replace kB := kB.fwd hf2
        replace hF := hF.trans hf2
        clear hf2
        clear qc0 qz0 qc1 qz1 qc2 qz2
        clear ac0 az0 ac1 az1 ac2 az2 ac3 az3 ac4 az4
        clear bc0 bz0 bc1 bz1 bc2 bz2 bc3 bz3 bc4 bz4
        have qc0 := BlkV.cell kQ 0 rfl
        have qz0 := BlkV.frozen kQ 0
        have qc1 := BlkV.cell kQ 1 rfl
        have qz1 := BlkV.frozen kQ 1
        have qc2 := BlkV.cell kQ 2 rfl
        have qz2 := BlkV.frozen kQ 2
        have ac0 := BlkV.cell kA 0 rfl
        have az0 := BlkV.frozen kA 0
        have ac1 := BlkV.cell kA 1 rfl
        have az1 := BlkV.frozen kA 1
        have ac2 := BlkV.cell kA 2 rfl
        have az2 := BlkV.frozen kA 2
        have ac3 := BlkV.cell kA 3 rfl
        have az3 := BlkV.frozen kA 3
        have ac4 := BlkV.cell kA 4 rfl
        have az4 := BlkV.frozen kA 4
        have bc0 := BlkV.cell kB 0 rfl
        have bz0 := BlkV.frozen kB 0
        have bc1 := BlkV.cell kB 1 rfl
        have bz1 := BlkV.frozen kB 1
        have bc2 := BlkV.cell kB 2 rfl
        have bz2 := BlkV.frozen kB 2
        have bc3 := BlkV.cell kB 3 rfl
        have bz3 := BlkV.frozen kB 3
        have bc4 := BlkV.cell kB 4 rfl
        have bz4 := BlkV.frozen kB 4
        go_wp2_with fail
        refine (nb _).mono ?_
        rintro e w3 ⟨rfl, hf3⟩
        replace kQ := kQ.fwd hf3
        replace kA := kA.fwd hf3
        replace kB := kB.fwd hf3
        replace hF := hF.trans hf3
        clear hf3
        clear qc0 qz0 qc1 qz1 qc2 qz2
        clear ac0 az0 ac1 az1 ac2 az2 ac3 az3 ac4 az4
        clear bc0 bz0 bc1 bz1 bc2 bz2 bc3 bz3 bc4 bz4
        have qc0 := BlkV.cell kQ 0 rfl
        have qz0 := BlkV.frozen kQ 0
        have qc1 := BlkV.cell kQ 1 rfl
        have qz1 := BlkV.frozen kQ 1
        have qc2 := BlkV.cell kQ 2 rfl
        have qz2 := BlkV.frozen kQ 2
        have ac0 := BlkV.cell kA 0 rfl
        have az0 := BlkV.frozen kA 0
        have ac1 := BlkV.cell kA 1 rfl
        have az1 := BlkV.frozen kA 1
        have ac2 := BlkV.cell kA 2 rfl
        have az2 := BlkV.frozen kA 2
        have ac3 := BlkV.cell kA 3 rfl
        have az3 := BlkV.frozen kA 3
        have ac4 := BlkV.cell kA 4 rfl
        have az4 := BlkV.frozen kA 4
        have bc0 := BlkV.cell kB 0 rfl
        have bz0 := BlkV.frozen kB 0
        have bc1 := BlkV.cell kB 1 rfl
        have bz1 := BlkV.frozen kB 1
        have bc2 := BlkV.cell kB 2 rfl
        have bz2 := BlkV.frozen kB 2
        have bc3 := BlkV.cell kB 3 rfl
        have bz3 := BlkV.frozen kB 3
        have bc4 := BlkV.cell kB 4 rfl
        have bz4 := BlkV.frozen kB 4
        go_wp2_with fail
        replace kQ := kQ.drew
        replace kA := kA.drew
        replace kB := kB.drew
        replace hF := hF.drew
        clear qc0 qz0 qc1 qz1 qc2 qz2
        clear ac0 az0 ac1 az1 ac2 az2 ac3 az3 ac4 az4
        clear bc0 bz0 bc1 bz1 bc2 bz2 bc3 bz3 bc4 bz4
        have qc0 := BlkV.cell kQ 0 rfl
        have qz0 := BlkV.frozen kQ 0
        have qc1 := BlkV.cell kQ 1 rfl
        have qz1 := BlkV.frozen kQ 1
        have qc2 := BlkV.cell kQ 2 rfl
        have qz2 := BlkV.frozen kQ 2
        have ac0 := BlkV.cell kA 0 rfl
        have az0 := BlkV.frozen kA 0
        have ac1 := BlkV.cell kA 1 rfl
        have az1 := BlkV.frozen kA 1
        have ac2 := BlkV.cell kA 2 rfl
        have az2 := BlkV.frozen kA 2
        have ac3 := BlkV.cell kA 3 rfl
        have az3 := BlkV.frozen kA 3
        have ac4 := BlkV.cell kA 4 rfl
        have az4 := BlkV.frozen kA 4
        have bc0 := BlkV.cell kB 0 rfl
        have bz0 := BlkV.frozen kB 0
        have bc1 := BlkV.cell kB 1 rfl
        have bz1 := BlkV.frozen kB 1
        have bc2 := BlkV.cell kB 2 rfl
        have bz2 := BlkV.frozen kB 2
        have bc3 := BlkV.cell kB 3 rfl
        have bz3 := BlkV.frozen kB 3
        have bc4 := BlkV.cell kB 4 rfl
        have bz4 := BlkV.frozen kB 4
        go_region_held3 (fun w' => w'.cell? ⟨w.heap.size, 0, none⟩ = some (.int .u8 (rAbove m)) ∧ w'.cell? ⟨w.heap.size, 1, none⟩ = some (.int .u8 (rBelow m)) ∧ w'.cell? ⟨w.heap.size, 2, none⟩ = some (.bool (rMinus m)) ∧ w'.cell? ⟨gA, 0, none⟩ = some (.bool s) ∧ w'.cell? ⟨gA, 1, none⟩ = some (.bool false) ∧ w'.cell? ⟨gA, 2, none⟩ = some (.int .u64 (a)) ∧ w'.cell? ⟨gA, 3, none⟩ = some (.int .u64 (b)) ∧ w'.cell? ⟨gA, 4, none⟩ = some (.int .i64 (x)) ∧ w'.cell? ⟨gB, 0, none⟩ = some (.bool t) ∧ w'.cell? ⟨gB, 1, none⟩ = some (.bool false) ∧ w'.cell? ⟨gB, 2, none⟩ = some (.int .u64 (c)) ∧ w'.cell? ⟨gB, 3, none⟩ = some (.int .u64 (d)) ∧ w'.cell? ⟨gB, 4, none⟩ = some (.int .i64 (y)))
          (first | exact ⟨by with_reducible assumption, by with_reducible assumption, by with_reducible assumption, by with_reducible assumption, by with_reducible assumption, by with_reducible assumption, by with_reducible assumption, by with_reducible assumption, by with_reducible assumption, by with_reducible assumption, by with_reducible assumption, by with_reducible assumption, by with_reducible assumption⟩ | exact ⟨(farset (by simp; try omega) (farset (by simp; try omega) (farset (by simp; try omega) (farset (by simp; try omega) (farset (by simp; try omega) (by with_reducible assumption)))))), (farset (by simp; try omega) (farset (by simp; try omega) (farset (by simp; try omega) (farset (by simp; try omega) (farset (by simp; try omega) (by with_reducible assumption)))))), (farset (by simp; try omega) (farset (by simp; try omega) (farset (by simp; try omega) (farset (by simp; try omega) (farset (by simp; try omega) (by with_reducible assumption)))))), (farset (by simp; try omega) (farset (by simp; try omega) (farset (by simp; try omega) (farset (by simp; try omega) (farset (by simp; try omega) (by with_reducible assumption)))))), (farset (by simp; try omega) (farset (by simp; try omega) (farset (by simp; try omega) (farset (by simp; try omega) (farset (by simp; try omega) (by with_reducible assumption)))))), (farset (by simp; try omega) (farset (by simp; try omega) (farset (by simp; try omega) (farset (by simp; try omega) (farset (by simp; try omega) (by with_reducible assumption)))))), (farset (by simp; try omega) (farset (by simp; try omega) (farset (by simp; try omega) (farset (by simp; try omega) (farset (by simp; try omega) (by with_reducible assumption)))))), (farset (by simp; try omega) (farset (by simp; try omega) (farset (by simp; try omega) (farset (by simp; try omega) (farset (by simp; try omega) (by with_reducible assumption)))))), (farset (by simp; try omega) (farset (by simp; try omega) (farset (by simp; try omega) (farset (by simp; try omega) (farset (by simp; try omega) (by with_reducible assumption)))))), (farset (by simp; try omega) (farset (by simp; try omega) (farset (by simp; try omega) (farset (by simp; try omega) (farset (by simp; try omega) (by with_reducible assumption)))))), (farset (by simp; try omega) (farset (by simp; try omega) (farset (by simp; try omega) (farset (by simp; try omega) (farset (by simp; try omega) (by with_reducible assumption)))))), (farset (by simp; try omega) (farset (by simp; try omega) (farset (by simp; try omega) (farset (by simp; try omega) (farset (by simp; try omega) (by with_reducible assumption)))))), (farset (by simp; try omega) (farset (by simp; try omega) (farset (by simp; try omega) (farset (by simp; try omega) (farset (by simp; try omega) (by with_reducible assumption))))))⟩)
          (first
            | (go_at_call 92
               refine (rr _).mono ?_
               rintro e w8 ⟨rfl, hf8⟩
               replace kQ := kQ.fwd hf8
               replace kA := kA.fwd hf8
               replace kB := kB.fwd hf8
               replace hF := hF.trans hf8
               clear hf8
               clear qc0 qz0 qc1 qz1 qc2 qz2
               clear ac0 az0 ac1 az1 ac2 az2 ac3 az3 ac4 az4
               clear bc0 bz0 bc1 bz1 bc2 bz2 bc3 bz3 bc4 bz4
               have qc0 := BlkV.cell kQ 0 rfl
               have qz0 := BlkV.frozen kQ 0
               have qc1 := BlkV.cell kQ 1 rfl
               have qz1 := BlkV.frozen kQ 1
               have qc2 := BlkV.cell kQ 2 rfl
               have qz2 := BlkV.frozen kQ 2
               have ac0 := BlkV.cell kA 0 rfl
               have az0 := BlkV.frozen kA 0
               have ac1 := BlkV.cell kA 1 rfl
               have az1 := BlkV.frozen kA 1
               have ac2 := BlkV.cell kA 2 rfl
               have az2 := BlkV.frozen kA 2
               have ac3 := BlkV.cell kA 3 rfl
               have az3 := BlkV.frozen kA 3
               have ac4 := BlkV.cell kA 4 rfl
               have az4 := BlkV.frozen kA 4
               have bc0 := BlkV.cell kB 0 rfl
               have bz0 := BlkV.frozen kB 0
               have bc1 := BlkV.cell kB 1 rfl
               have bz1 := BlkV.frozen kB 1
               have bc2 := BlkV.cell kB 2 rfl
               have bz2 := BlkV.frozen kB 2
               have bc3 := BlkV.cell kB 3 rfl
               have bz3 := BlkV.frozen kB 3
               have bc4 := BlkV.cell kB 4 rfl
               have bz4 := BlkV.frozen kB 4)
            | (go_at_call 110
               refine (ov _).mono ?_
               rintro e w7 ⟨r, rfl, hf7, a', b', rfl, p1, p2, hp⟩
               replace kQ := kQ.fwd hf7
               replace kA := kA.fwd hf7
               replace kB := kB.fwd hf7
               replace hF := hF.trans hf7
               clear hf7
               have rr := fun w => round_any (w := w) m (⟨a', b', rfl, p1, p2, hp⟩ : VV (.agg #[.bool os, .bool oe, .int .u64 a', .int .u64 b', .int .i64 ox]) os oe on ox) ho.1 ho.2
               clear hp
               unfold ruleV at rr
               generalize rdV m (os, oe, on, ox) = Y at rr HV
               obtain ⟨y1, y2⟩ := Y
               clear qc0 qz0 qc1 qz1 qc2 qz2
               clear ac0 az0 ac1 az1 ac2 az2 ac3 az3 ac4 az4
               clear bc0 bz0 bc1 bz1 bc2 bz2 bc3 bz3 bc4 bz4
               have qc0 := BlkV.cell kQ 0 rfl
               have qz0 := BlkV.frozen kQ 0
               have qc1 := BlkV.cell kQ 1 rfl
               have qz1 := BlkV.frozen kQ 1
               have qc2 := BlkV.cell kQ 2 rfl
               have qz2 := BlkV.frozen kQ 2
               have ac0 := BlkV.cell kA 0 rfl
               have az0 := BlkV.frozen kA 0
               have ac1 := BlkV.cell kA 1 rfl
               have az1 := BlkV.frozen kA 1
               have ac2 := BlkV.cell kA 2 rfl
               have az2 := BlkV.frozen kA 2
               have ac3 := BlkV.cell kA 3 rfl
               have az3 := BlkV.frozen kA 3
               have ac4 := BlkV.cell kA 4 rfl
               have az4 := BlkV.frozen kA 4
               have bc0 := BlkV.cell kB 0 rfl
               have bz0 := BlkV.frozen kB 0
               have bc1 := BlkV.cell kB 1 rfl
               have bz1 := BlkV.frozen kB 1
               have bc2 := BlkV.cell kB 2 rfl
               have bz2 := BlkV.frozen kB 2
               have bc3 := BlkV.cell kB 3 rfl
               have bz3 := BlkV.frozen kB 3
               have bc4 := BlkV.cell kB 4 rfl
               have bz4 := BlkV.frozen kB 4))
        go_wp2
        go_ret2
        exact ⟨ret_pair (by rw [HV.out]) (by rw [HV.out]), hF⟩
  · by_cases cn : n = 0
    · have HV : Hid (divV m (s, false, n, x) (t, true, k, y) o = rdV m (s != t, false, 0, 0)) := hid (by simp [divV, cn])
      have ena : (!false && n == 0) = true := by simp [cn]
      simp only [ena] at na
      clear ena
      have enb : (!true && k == 0) = false := rfl
      simp only [enb] at nb
      clear enb
      clear hov
      clear cn
      generalize rdV m (s != t, false, 0, 0) = Y at *
      obtain ⟨y1, y2⟩ := Y
      clear ri
      generalize (s != t) = st at *
      go_wp2_with fail
      refine (na _).mono ?_
      rintro e w1 ⟨rfl, hf1⟩
      replace kQ := kQ.fwd hf1
      replace kA := kA.fwd hf1
      replace kB := kB.fwd hf1
      replace hF := hF.trans hf1
      clear hf1
      clear qc0 qc1 qc2
      clear ac0 ac1 ac2 ac3 ac4
      clear bc0 bc1 bc2 bc3 bc4
      have qc0 := BlkV.cell kQ 0 rfl
      have qz0 := BlkV.frozen kQ 0
      have qc1 := BlkV.cell kQ 1 rfl
      have qz1 := BlkV.frozen kQ 1
      have qc2 := BlkV.cell kQ 2 rfl
      have qz2 := BlkV.frozen kQ 2
      have ac0 := BlkV.cell kA 0 rfl
      have az0 := BlkV.frozen kA 0
      have ac1 := BlkV.cell kA 1 rfl
      have az1 := BlkV.frozen kA 1
      have ac2 := BlkV.cell kA 2 rfl
      have az2 := BlkV.frozen kA 2
      have ac3 := BlkV.cell kA 3 rfl
      have az3 := BlkV.frozen kA 3
      have ac4 := BlkV.cell kA 4 rfl
      have az4 := BlkV.frozen kA 4
      have bc0 := BlkV.cell kB 0 rfl
      have bz0 := BlkV.frozen kB 0
      have bc1 := BlkV.cell kB 1 rfl
      have bz1 := BlkV.frozen kB 1
      have bc2 := BlkV.cell kB 2 rfl
      have bz2 := BlkV.frozen kB 2
      have bc3 := BlkV.cell kB 3 rfl
      have bz3 := BlkV.frozen kB 3
      have bc4 := BlkV.cell kB 4 rfl
      have bz4 := BlkV.frozen kB 4
      go_wp2_with fail
      refine (nb _).mono ?_
      rintro e w2 ⟨rfl, hf2⟩
      replace kQ := kQ.fwd hf2
      replace kA := kA.fwd hf2
      replace kB := kB.fwd hf2
      replace hF := hF.trans hf2
      clear hf2
      clear qc0 qz0 qc1 qz1 qc2 qz2
      clear ac0 az0 ac1 az1 ac2 az2 ac3 az3 ac4 az4
      clear bc0 bz0 bc1 bz1 bc2 bz2 bc3 bz3 bc4 bz4
      have qc0 := BlkV.cell kQ 0 rfl
      have qz0 := BlkV.frozen kQ 0
      have qc1 := BlkV.cell kQ 1 rfl
      have qz1 := BlkV.frozen kQ 1
      have qc2 := BlkV.cell kQ 2 rfl
      have qz2 := BlkV.frozen kQ 2
      have ac0 := BlkV.cell kA 0 rfl
      have az0 := BlkV.frozen kA 0
      have ac1 := BlkV.cell kA 1 rfl
      have az1 := BlkV.frozen kA 1
      have ac2 := BlkV.cell kA 2 rfl
      have az2 := BlkV.frozen kA 2
      have ac3 := BlkV.cell kA 3 rfl
      have az3 := BlkV.frozen kA 3
      have ac4 := BlkV.cell kA 4 rfl
      have az4 := BlkV.frozen kA 4
      have bc0 := BlkV.cell kB 0 rfl
      have bz0 := BlkV.frozen kB 0
      have bc1 := BlkV.cell kB 1 rfl
      have bz1 := BlkV.frozen kB 1
      have bc2 := BlkV.cell kB 2 rfl
      have bz2 := BlkV.frozen kB 2
      have bc3 := BlkV.cell kB 3 rfl
      have bz3 := BlkV.frozen kB 3
      have bc4 := BlkV.cell kB 4 rfl
      have bz4 := BlkV.frozen kB 4
      go_wp2_with fail
      refine (rz _).mono ?_
      rintro e w3 ⟨rfl, hf3⟩
      replace kQ := kQ.fwd hf3
      replace kA := kA.fwd hf3
      replace kB := kB.fwd hf3
      replace hF := hF.trans hf3
      clear hf3
      clear qc0 qz0 qc1 qz1 qc2 qz2
      clear ac0 az0 ac1 az1 ac2 az2 ac3 az3 ac4 az4
      clear bc0 bz0 bc1 bz1 bc2 bz2 bc3 bz3 bc4 bz4
      have qc0 := BlkV.cell kQ 0 rfl
      have qz0 := BlkV.frozen kQ 0
      have qc1 := BlkV.cell kQ 1 rfl
      have qz1 := BlkV.frozen kQ 1
      have qc2 := BlkV.cell kQ 2 rfl
      have qz2 := BlkV.frozen kQ 2
      have ac0 := BlkV.cell kA 0 rfl
      have az0 := BlkV.frozen kA 0
      have ac1 := BlkV.cell kA 1 rfl
      have az1 := BlkV.frozen kA 1
      have ac2 := BlkV.cell kA 2 rfl
      have az2 := BlkV.frozen kA 2
      have ac3 := BlkV.cell kA 3 rfl
      have az3 := BlkV.frozen kA 3
      have ac4 := BlkV.cell kA 4 rfl
      have az4 := BlkV.frozen kA 4
      have bc0 := BlkV.cell kB 0 rfl
      have bz0 := BlkV.frozen kB 0
      have bc1 := BlkV.cell kB 1 rfl
      have bz1 := BlkV.frozen kB 1
      have bc2 := BlkV.cell kB 2 rfl
      have bz2 := BlkV.frozen kB 2
      have bc3 := BlkV.cell kB 3 rfl
      have bz3 := BlkV.frozen kB 3
      have bc4 := BlkV.cell kB 4 rfl
      have bz4 := BlkV.frozen kB 4
      go_wp2
      go_ret2
      exact ⟨ret_pair (by rw [HV.out]; try rfl) (by rw [HV.out]; try rfl), hF⟩
    · have HV : Hid (divV m (s, false, n, x) (t, true, k, y) o = rdV m (s != t, false, 0, 0)) := hid (by simp [divV, cn])
      have ena : (!false && n == 0) = false := by simp [cn]
      simp only [ena] at na
      clear ena
      clear hov
      clear cn
      generalize rdV m (s != t, false, 0, 0) = Y at *
      obtain ⟨y1, y2⟩ := Y
      clear ri
      generalize (s != t) = st at *
      go_wp2_with fail
      refine (na _).mono ?_
      rintro e w1 ⟨rfl, hf1⟩
      replace kQ := kQ.fwd hf1
      replace kA := kA.fwd hf1
      replace kB := kB.fwd hf1
      replace hF := hF.trans hf1
      clear hf1
      clear qc0 qc1 qc2
      clear ac0 ac1 ac2 ac3 ac4
      clear bc0 bc1 bc2 bc3 bc4
      have qc0 := BlkV.cell kQ 0 rfl
      have qz0 := BlkV.frozen kQ 0
      have qc1 := BlkV.cell kQ 1 rfl
      have qz1 := BlkV.frozen kQ 1
      have qc2 := BlkV.cell kQ 2 rfl
      have qz2 := BlkV.frozen kQ 2
      have ac0 := BlkV.cell kA 0 rfl
      have az0 := BlkV.frozen kA 0
      have ac1 := BlkV.cell kA 1 rfl
      have az1 := BlkV.frozen kA 1
      have ac2 := BlkV.cell kA 2 rfl
      have az2 := BlkV.frozen kA 2
      have ac3 := BlkV.cell kA 3 rfl
      have az3 := BlkV.frozen kA 3
      have ac4 := BlkV.cell kA 4 rfl
      have az4 := BlkV.frozen kA 4
      have bc0 := BlkV.cell kB 0 rfl
      have bz0 := BlkV.frozen kB 0
      have bc1 := BlkV.cell kB 1 rfl
      have bz1 := BlkV.frozen kB 1
      have bc2 := BlkV.cell kB 2 rfl
      have bz2 := BlkV.frozen kB 2
      have bc3 := BlkV.cell kB 3 rfl
      have bz3 := BlkV.frozen kB 3
      have bc4 := BlkV.cell kB 4 rfl
      have bz4 := BlkV.frozen kB 4
      go_wp2_with fail
      refine (rz _).mono ?_
      rintro e w2 ⟨rfl, hf2⟩
      replace kQ := kQ.fwd hf2
      replace kA := kA.fwd hf2
      replace kB := kB.fwd hf2
      replace hF := hF.trans hf2
      clear hf2
      clear qc0 qz0 qc1 qz1 qc2 qz2
      clear ac0 az0 ac1 az1 ac2 az2 ac3 az3 ac4 az4
      clear bc0 bz0 bc1 bz1 bc2 bz2 bc3 bz3 bc4 bz4
      have qc0 := BlkV.cell kQ 0 rfl
      have qz0 := BlkV.frozen kQ 0
      have qc1 := BlkV.cell kQ 1 rfl
      have qz1 := BlkV.frozen kQ 1
      have qc2 := BlkV.cell kQ 2 rfl
      have qz2 := BlkV.frozen kQ 2
      have ac0 := BlkV.cell kA 0 rfl
      have az0 := BlkV.frozen kA 0
      have ac1 := BlkV.cell kA 1 rfl
      have az1 := BlkV.frozen kA 1
      have ac2 := BlkV.cell kA 2 rfl
      have az2 := BlkV.frozen kA 2
      have ac3 := BlkV.cell kA 3 rfl
      have az3 := BlkV.frozen kA 3
      have ac4 := BlkV.cell kA 4 rfl
      have az4 := BlkV.frozen kA 4
      have bc0 := BlkV.cell kB 0 rfl
      have bz0 := BlkV.frozen kB 0
      have bc1 := BlkV.cell kB 1 rfl
      have bz1 := BlkV.frozen kB 1
      have bc2 := BlkV.cell kB 2 rfl
      have bz2 := BlkV.frozen kB 2
      have bc3 := BlkV.cell kB 3 rfl
      have bz3 := BlkV.frozen kB 3
      have bc4 := BlkV.cell kB 4 rfl
      have bz4 := BlkV.frozen kB 4
      go_wp2
      go_ret2
      exact ⟨ret_pair (by rw [HV.out]; try rfl) (by rw [HV.out]; try rfl), hF⟩
  · have HV : Hid (divV m (s, true, n, x) (t, false, k, y) o = rdV m (s != t, true, 0, 0)) := hid (by simp [divV])
    have ena : (!true && n == 0) = false := rfl
    simp only [ena] at na
    clear ena
    clear hov
    generalize rdV m (s != t, true, 0, 0) = Y at *
    obtain ⟨y1, y2⟩ := Y
    clear rz
    generalize (s != t) = st at *
    go_wp2_with fail
    refine (na _).mono ?_
    rintro e w1 ⟨rfl, hf1⟩
    replace kQ := kQ.fwd hf1
    replace kA := kA.fwd hf1
    replace kB := kB.fwd hf1
    replace hF := hF.trans hf1
    clear hf1
    clear qc0 qc1 qc2
    clear ac0 ac1 ac2 ac3 ac4
    clear bc0 bc1 bc2 bc3 bc4
    have qc0 := BlkV.cell kQ 0 rfl
    have qz0 := BlkV.frozen kQ 0
    have qc1 := BlkV.cell kQ 1 rfl
    have qz1 := BlkV.frozen kQ 1
    have qc2 := BlkV.cell kQ 2 rfl
    have qz2 := BlkV.frozen kQ 2
    have ac0 := BlkV.cell kA 0 rfl
    have az0 := BlkV.frozen kA 0
    have ac1 := BlkV.cell kA 1 rfl
    have az1 := BlkV.frozen kA 1
    have ac2 := BlkV.cell kA 2 rfl
    have az2 := BlkV.frozen kA 2
    have ac3 := BlkV.cell kA 3 rfl
    have az3 := BlkV.frozen kA 3
    have ac4 := BlkV.cell kA 4 rfl
    have az4 := BlkV.frozen kA 4
    have bc0 := BlkV.cell kB 0 rfl
    have bz0 := BlkV.frozen kB 0
    have bc1 := BlkV.cell kB 1 rfl
    have bz1 := BlkV.frozen kB 1
    have bc2 := BlkV.cell kB 2 rfl
    have bz2 := BlkV.frozen kB 2
    have bc3 := BlkV.cell kB 3 rfl
    have bz3 := BlkV.frozen kB 3
    have bc4 := BlkV.cell kB 4 rfl
    have bz4 := BlkV.frozen kB 4
    go_wp2_with fail
    refine (ri _).mono ?_
    rintro e w2 ⟨rfl, hf2⟩
    replace kQ := kQ.fwd hf2
    replace kA := kA.fwd hf2
    replace kB := kB.fwd hf2
    replace hF := hF.trans hf2
    clear hf2
    clear qc0 qz0 qc1 qz1 qc2 qz2
    clear ac0 az0 ac1 az1 ac2 az2 ac3 az3 ac4 az4
    clear bc0 bz0 bc1 bz1 bc2 bz2 bc3 bz3 bc4 bz4
    have qc0 := BlkV.cell kQ 0 rfl
    have qz0 := BlkV.frozen kQ 0
    have qc1 := BlkV.cell kQ 1 rfl
    have qz1 := BlkV.frozen kQ 1
    have qc2 := BlkV.cell kQ 2 rfl
    have qz2 := BlkV.frozen kQ 2
    have ac0 := BlkV.cell kA 0 rfl
    have az0 := BlkV.frozen kA 0
    have ac1 := BlkV.cell kA 1 rfl
    have az1 := BlkV.frozen kA 1
    have ac2 := BlkV.cell kA 2 rfl
    have az2 := BlkV.frozen kA 2
    have ac3 := BlkV.cell kA 3 rfl
    have az3 := BlkV.frozen kA 3
    have ac4 := BlkV.cell kA 4 rfl
    have az4 := BlkV.frozen kA 4
    have bc0 := BlkV.cell kB 0 rfl
    have bz0 := BlkV.frozen kB 0
    have bc1 := BlkV.cell kB 1 rfl
    have bz1 := BlkV.frozen kB 1
    have bc2 := BlkV.cell kB 2 rfl
    have bz2 := BlkV.frozen kB 2
    have bc3 := BlkV.cell kB 3 rfl
    have bz3 := BlkV.frozen kB 3
    have bc4 := BlkV.cell kB 4 rfl
    have bz4 := BlkV.frozen kB 4
    go_wp2
    go_ret2
    exact ⟨ret_pair (by rw [HV.out]; try rfl) (by rw [HV.out]; try rfl), hF⟩
  · have HV : Hid (divV m (s, true, n, x) (t, true, k, y) o = (9221120237041090560, 16)) := hid (by simp [divV])
    clear hov
    clear ri rz
    go_wp2
    go_ret2
    exact ⟨ret_pair (by rw [HV.out]; rfl) (by rw [HV.out]; rfl), hF⟩
end Go.Proofs.YtcfhajnboamnnabGreatDoor

namespace Go.Proofs.YtcfhajnboamnnabGreatDoor
open Go.RowKit
set_option linter.unusedVariables false
set_option linter.unusedSimpArgs false

set_option maxHeartbeats 8000000 in
set_option maxRecDepth 100000 in
theorem ofNumbers_quot {w : World} {gf : Nat} {Tf : TypeId} (m : Int) (f h : Nat) (hf' : f < 18446744073709551616) (hh' : h < 18446744073709551616) (o : Bool × Bool × Nat × Int) (ho : -1000000 ≤ o.2.2.2 ∧ o.2.2.2 ≤ 1000000) (hov : ∀ (u v : Value), VT u (valF f) → VT v (valF h) → (valF f).2.1 = false → (valF h).2.1 = false → (valF f).2.2.1 ≠ 0 → (valF h).2.2.1 ≠ 0 → ∀ w, Calls Tryz.prog 110 #[u, v] w fun e w' => ∃ r, e = .returned r ∧ Fwd w w' ∧ VT r o) (hB : BlkV w gf Tf [.int .u64 f, .int .u64 h]) :
    Calls Tryz.prog 83 #[.func (.func 85) #[ruleV m] #[], .slice (some ⟨gf, 0, none⟩) 2 2] w fun e w' => e = .returned (.tuple #[.int .u64 ((if isNan f || isNan h then ((9221120237041090560 : Nat), (0 : Nat)) else divV m (valF f) (valF h) o).1 : Nat), .int .i64 ((if isNan f || isNan h then ((9221120237041090560 : Nat), (0 : Nat)) else divV m (valF f) (valF h) o).2 : Nat)]) ∧ Fwd w w' := by
  have hmk := make_values2
  have hlt := BlkV.lt hB
  have hne1 : (gf = w.heap.size) = False := by simp; omega
  have hne2 : (w.heap.size = gf) = False := by simp; omega
  have nf := fun w => isNone_nan (w := w) f hf'
  have vf := fun w => valueOf_val (w := w) f hf'
  have bf := valF_small f
  have nh := fun w => isNone_nan (w := w) h hh'
  have vh := fun w => valueOf_val (w := w) h hh'
  have bh := valF_small h
  generalize hZ : (if isNan f || isNan h then ((9221120237041090560 : Nat), (0 : Nat)) else divV m (valF f) (valF h) o) = Z
  obtain ⟨z1, z2⟩ := Z
  have HZ := hid hZ
  clear hZ
  by_cases cf' : isNan f = true
  · have cf := cf'
    clear cf'
    simp only [cf] at nf
    have hF : Fwd w (w.alloc (.cells #[.bool false, .bool false, .int .u64 0, .int .u64 0, .int .i64 0, .bool false, .bool false, .int .u64 0, .int .u64 0, .int .i64 0] 107)) := (Fwd.refl w).alloc _
    have kF : BlkV (w.alloc (.cells #[.bool false, .bool false, .int .u64 0, .int .u64 0, .int .i64 0, .bool false, .bool false, .int .u64 0, .int .u64 0, .int .i64 0] 107)) gf Tf [.int .u64 f, .int .u64 h] := hB.fwd hF
    have kV : BlkV (w.alloc (.cells #[.bool false, .bool false, .int .u64 0, .int .u64 0, .int .i64 0, .bool false, .bool false, .int .u64 0, .int .u64 0, .int .i64 0] 107)) w.heap.size 107 [.bool false, .bool false, .int .u64 0, .int .u64 0, .int .i64 0, .bool false, .bool false, .int .u64 0, .int .u64 0, .int .i64 0] := BlkV.made w _ _
    clear hB
    have fc0 := BlkV.cell kF 0 rfl
    have fz0 := BlkV.frozen kF 0
    have fc1 := BlkV.cell kF 1 rfl
    have fz1 := BlkV.frozen kF 1
    have vc0 := BlkV.cell kV 0 rfl
    have vz0 := BlkV.frozen kV 0
    have vc1 := BlkV.cell kV 1 rfl
    have vz1 := BlkV.frozen kV 1
    have vc2 := BlkV.cell kV 2 rfl
    have vz2 := BlkV.frozen kV 2
    have vc3 := BlkV.cell kV 3 rfl
    have vz3 := BlkV.frozen kV 3
    have vc4 := BlkV.cell kV 4 rfl
    have vz4 := BlkV.frozen kV 4
    have vc5 := BlkV.cell kV 5 rfl
    have vz5 := BlkV.frozen kV 5
    have vc6 := BlkV.cell kV 6 rfl
    have vz6 := BlkV.frozen kV 6
    have vc7 := BlkV.cell kV 7 rfl
    have vz7 := BlkV.frozen kV 7
    have vc8 := BlkV.cell kV 8 rfl
    have vz8 := BlkV.frozen kV 8
    have vc9 := BlkV.cell kV 9 rfl
    have vz9 := BlkV.frozen kV 9
    go_enter Tryz.func83, Tryz.ntmps83
    go_wp2_with fail
    refine wp_loop_rounds 3 ?_
    rw [rounds_succ]
    go_wp2_with fail
    refine (nf _).mono ?_
    rintro e wn ⟨rfl, rfl⟩
    go_wp2
    go_ret2
    have hz := HZ.out
    simp only [cf, Bool.true_or, Bool.or_true, Bool.false_or, Bool.or_false, if_true, Prod.mk.injEq] at hz
    obtain ⟨rfl, rfl⟩ := hz
    exact ⟨ret_pair rfl rfl, hF⟩
  · have cf : isNan f = false := by simpa using cf'
    clear cf'
    simp only [cf] at nf
    by_cases ch' : isNan h = true
    · have ch := ch'
      clear ch'
      simp only [ch] at nh
      generalize valF f = Ff at *
      obtain ⟨s, en, n, x⟩ := Ff
      simp only at bf
      have hF : Fwd w (w.alloc (.cells #[.bool false, .bool false, .int .u64 0, .int .u64 0, .int .i64 0, .bool false, .bool false, .int .u64 0, .int .u64 0, .int .i64 0] 107)) := (Fwd.refl w).alloc _
      have kF : BlkV (w.alloc (.cells #[.bool false, .bool false, .int .u64 0, .int .u64 0, .int .i64 0, .bool false, .bool false, .int .u64 0, .int .u64 0, .int .i64 0] 107)) gf Tf [.int .u64 f, .int .u64 h] := hB.fwd hF
      have kV : BlkV (w.alloc (.cells #[.bool false, .bool false, .int .u64 0, .int .u64 0, .int .i64 0, .bool false, .bool false, .int .u64 0, .int .u64 0, .int .i64 0] 107)) w.heap.size 107 [.bool false, .bool false, .int .u64 0, .int .u64 0, .int .i64 0, .bool false, .bool false, .int .u64 0, .int .u64 0, .int .i64 0] := BlkV.made w _ _
      clear hB
      have fc0 := BlkV.cell kF 0 rfl
      have fz0 := BlkV.frozen kF 0
      have fc1 := BlkV.cell kF 1 rfl
      have fz1 := BlkV.frozen kF 1
      have vc0 := BlkV.cell kV 0 rfl
      have vz0 := BlkV.frozen kV 0
      have vc1 := BlkV.cell kV 1 rfl
      have vz1 := BlkV.frozen kV 1
      have vc2 := BlkV.cell kV 2 rfl
      have vz2 := BlkV.frozen kV 2
      have vc3 := BlkV.cell kV 3 rfl
      have vz3 := BlkV.frozen kV 3
      have vc4 := BlkV.cell kV 4 rfl
      have vz4 := BlkV.frozen kV 4
      have vc5 := BlkV.cell kV 5 rfl
      have vz5 := BlkV.frozen kV 5
      have vc6 := BlkV.cell kV 6 rfl
      have vz6 := BlkV.frozen kV 6
      have vc7 := BlkV.cell kV 7 rfl
      have vz7 := BlkV.frozen kV 7
      have vc8 := BlkV.cell kV 8 rfl
      have vz8 := BlkV.frozen kV 8
      have vc9 := BlkV.cell kV 9 rfl
      have vz9 := BlkV.frozen kV 9
      go_enter Tryz.func83, Tryz.ntmps83
      go_wp2_with fail
      refine wp_loop_rounds 3 ?_
      rw [rounds_succ]
      go_wp2_with fail
      refine (nf _).mono ?_
      rintro e wn ⟨rfl, rfl⟩
      go_wp2_with fail
      refine (vf _).mono ?_
      rintro e w1 ⟨v, rfl, hf1, a, b, rfl, a1, b2, hp⟩
      have Vf : VV (.agg #[.bool s, .bool en, .int .u64 (a), .int .u64 (b), .int .i64 (x)]) s en n x := ⟨_, _, rfl, a1, b2, hp⟩
      clear hp vf nf
      replace kF := kF.fwd hf1
      replace kV := kV.fwd hf1
      replace hF := hF.trans hf1
      clear hf1
      clear fc0 fz0 fc1 fz1
      clear vc0 vz0 vc1 vz1 vc2 vz2 vc3 vz3 vc4 vz4 vc5 vz5 vc6 vz6 vc7 vz7 vc8 vz8 vc9 vz9
      have fc0 := BlkV.cell kF 0 rfl
      have fz0 := BlkV.frozen kF 0
      have fc1 := BlkV.cell kF 1 rfl
      have fz1 := BlkV.frozen kF 1
      have vc0 := BlkV.cell kV 0 rfl
      have vz0 := BlkV.frozen kV 0
      have vc1 := BlkV.cell kV 1 rfl
      have vz1 := BlkV.frozen kV 1
      have vc2 := BlkV.cell kV 2 rfl
      have vz2 := BlkV.frozen kV 2
      have vc3 := BlkV.cell kV 3 rfl
      have vz3 := BlkV.frozen kV 3
      have vc4 := BlkV.cell kV 4 rfl
      have vz4 := BlkV.frozen kV 4
      have vc5 := BlkV.cell kV 5 rfl
      have vz5 := BlkV.frozen kV 5
      have vc6 := BlkV.cell kV 6 rfl
      have vz6 := BlkV.frozen kV 6
      have vc7 := BlkV.cell kV 7 rfl
      have vz7 := BlkV.frozen kV 7
      have vc8 := BlkV.cell kV 8 rfl
      have vz8 := BlkV.frozen kV 8
      have vc9 := BlkV.cell kV 9 rfl
      have vz9 := BlkV.frozen kV 9
      go_wp2_with fail
      rw [rounds_succ]
      go_wp2_with fail
      refine (nh _).mono ?_
      rintro e wn ⟨rfl, rfl⟩
      go_wp2
      have t3 := BlkV.set kV 0 (.bool s)
      have t4 := BlkV.set t3 1 (.bool en)
      have t5 := BlkV.set t4 2 (.int .u64 (a))
      have t6 := BlkV.set t5 3 (.int .u64 (b))
      have t7 := BlkV.set t6 4 (.int .i64 (x))
      have o7 := ((((BlkV.on kV 0 (.bool s)).setv 1 (.bool en)).setv 2 (.int .u64 (a))).setv 3 (.int .u64 (b))).setv 4 (.int .i64 (x))
      replace kF := BlkV.only kF o7 (by omega)
      replace hF := hF.wrote o7 (by omega)
      have kV := t7
      clear o7
      go_ret2
      have hz := HZ.out
      simp only [cf, ch, Bool.true_or, Bool.or_true, Bool.false_or, Bool.or_false, if_true, Prod.mk.injEq] at hz
      obtain ⟨rfl, rfl⟩ := hz
      exact ⟨ret_pair rfl rfl, hF⟩
    · have ch : isNan h = false := by simpa using ch'
      clear ch'
      simp only [ch] at nh
      generalize valF f = Ff at *
      obtain ⟨s, en, n, x⟩ := Ff
      simp only at bf
      generalize valF h = Fh at *
      obtain ⟨t, em, k, y⟩ := Fh
      simp only at bh
      have hF : Fwd w (w.alloc (.cells #[.bool false, .bool false, .int .u64 0, .int .u64 0, .int .i64 0, .bool false, .bool false, .int .u64 0, .int .u64 0, .int .i64 0] 107)) := (Fwd.refl w).alloc _
      have kF : BlkV (w.alloc (.cells #[.bool false, .bool false, .int .u64 0, .int .u64 0, .int .i64 0, .bool false, .bool false, .int .u64 0, .int .u64 0, .int .i64 0] 107)) gf Tf [.int .u64 f, .int .u64 h] := hB.fwd hF
      have kV : BlkV (w.alloc (.cells #[.bool false, .bool false, .int .u64 0, .int .u64 0, .int .i64 0, .bool false, .bool false, .int .u64 0, .int .u64 0, .int .i64 0] 107)) w.heap.size 107 [.bool false, .bool false, .int .u64 0, .int .u64 0, .int .i64 0, .bool false, .bool false, .int .u64 0, .int .u64 0, .int .i64 0] := BlkV.made w _ _
      clear hB
      have fc0 := BlkV.cell kF 0 rfl
      have fz0 := BlkV.frozen kF 0
      have fc1 := BlkV.cell kF 1 rfl
      have fz1 := BlkV.frozen kF 1
      have vc0 := BlkV.cell kV 0 rfl
      have vz0 := BlkV.frozen kV 0
      have vc1 := BlkV.cell kV 1 rfl
      have vz1 := BlkV.frozen kV 1
      have vc2 := BlkV.cell kV 2 rfl
      have vz2 := BlkV.frozen kV 2
      have vc3 := BlkV.cell kV 3 rfl
      have vz3 := BlkV.frozen kV 3
      have vc4 := BlkV.cell kV 4 rfl
      have vz4 := BlkV.frozen kV 4
      have vc5 := BlkV.cell kV 5 rfl
      have vz5 := BlkV.frozen kV 5
      have vc6 := BlkV.cell kV 6 rfl
      have vz6 := BlkV.frozen kV 6
      have vc7 := BlkV.cell kV 7 rfl
      have vz7 := BlkV.frozen kV 7
      have vc8 := BlkV.cell kV 8 rfl
      have vz8 := BlkV.frozen kV 8
      have vc9 := BlkV.cell kV 9 rfl
      have vz9 := BlkV.frozen kV 9
      go_enter Tryz.func83, Tryz.ntmps83
      go_wp2_with fail
      refine wp_loop_rounds 3 ?_
      rw [rounds_succ]
      go_wp2_with fail
      refine (nf _).mono ?_
      rintro e wn ⟨rfl, rfl⟩
      go_wp2_with fail
      refine (vf _).mono ?_
      rintro e w1 ⟨v, rfl, hf1, a, b, rfl, a1, b2, hp⟩
      have Vf : VV (.agg #[.bool s, .bool en, .int .u64 (a), .int .u64 (b), .int .i64 (x)]) s en n x := ⟨_, _, rfl, a1, b2, hp⟩
      clear hp vf nf
      replace kF := kF.fwd hf1
      replace kV := kV.fwd hf1
      replace hF := hF.trans hf1
      clear hf1
      clear fc0 fz0 fc1 fz1
      clear vc0 vz0 vc1 vz1 vc2 vz2 vc3 vz3 vc4 vz4 vc5 vz5 vc6 vz6 vc7 vz7 vc8 vz8 vc9 vz9
      have fc0 := BlkV.cell kF 0 rfl
      have fz0 := BlkV.frozen kF 0
      have fc1 := BlkV.cell kF 1 rfl
      have fz1 := BlkV.frozen kF 1
      have vc0 := BlkV.cell kV 0 rfl
      have vz0 := BlkV.frozen kV 0
      have vc1 := BlkV.cell kV 1 rfl
      have vz1 := BlkV.frozen kV 1
      have vc2 := BlkV.cell kV 2 rfl
      have vz2 := BlkV.frozen kV 2
      have vc3 := BlkV.cell kV 3 rfl
      have vz3 := BlkV.frozen kV 3
      have vc4 := BlkV.cell kV 4 rfl
      have vz4 := BlkV.frozen kV 4
      have vc5 := BlkV.cell kV 5 rfl
      have vz5 := BlkV.frozen kV 5
      have vc6 := BlkV.cell kV 6 rfl
      have vz6 := BlkV.frozen kV 6
      have vc7 := BlkV.cell kV 7 rfl
      have vz7 := BlkV.frozen kV 7
      have vc8 := BlkV.cell kV 8 rfl
      have vz8 := BlkV.frozen kV 8
      have vc9 := BlkV.cell kV 9 rfl
      have vz9 := BlkV.frozen kV 9
      go_wp2_with fail
      rw [rounds_succ]
      go_wp2_with fail
      refine (nh _).mono ?_
      rintro e wn ⟨rfl, rfl⟩
      go_wp2_with fail
      have t4 := BlkV.set kV 0 (.bool s)
      have t5 := BlkV.set t4 1 (.bool en)
      have t6 := BlkV.set t5 2 (.int .u64 (a))
      have t7 := BlkV.set t6 3 (.int .u64 (b))
      have t8 := BlkV.set t7 4 (.int .i64 (x))
      have o8 := ((((BlkV.on kV 0 (.bool s)).setv 1 (.bool en)).setv 2 (.int .u64 (a))).setv 3 (.int .u64 (b))).setv 4 (.int .i64 (x))
      replace kF := BlkV.only kF o8 (by omega)
      replace hF := hF.wrote o8 (by omega)
      have kV := t8
      clear o8
      refine (vh _).mono ?_
      rintro e w2 ⟨v, rfl, hf2, c, d, rfl, c1, d2, hp⟩
      have Vh : VV (.agg #[.bool t, .bool em, .int .u64 (c), .int .u64 (d), .int .i64 (y)]) t em k y := ⟨_, _, rfl, c1, d2, hp⟩
      clear hp vh nh
      replace kF := kF.fwd hf2
      replace kV := kV.fwd hf2
      replace hF := hF.trans hf2
      clear hf2
      clear fc0 fz0 fc1 fz1
      clear vc0 vz0 vc1 vz1 vc2 vz2 vc3 vz3 vc4 vz4 vc5 vz5 vc6 vz6 vc7 vz7 vc8 vz8 vc9 vz9
      have fc0 := BlkV.cell kF 0 rfl
      have fz0 := BlkV.frozen kF 0
      have fc1 := BlkV.cell kF 1 rfl
      have fz1 := BlkV.frozen kF 1
      have vc0 := BlkV.cell kV 0 rfl
      have vz0 := BlkV.frozen kV 0
      have vc1 := BlkV.cell kV 1 rfl
      have vz1 := BlkV.frozen kV 1
      have vc2 := BlkV.cell kV 2 rfl
      have vz2 := BlkV.frozen kV 2
      have vc3 := BlkV.cell kV 3 rfl
      have vz3 := BlkV.frozen kV 3
      have vc4 := BlkV.cell kV 4 rfl
      have vz4 := BlkV.frozen kV 4
      have vc5 := BlkV.cell kV 5 rfl
      have vz5 := BlkV.frozen kV 5
      have vc6 := BlkV.cell kV 6 rfl
      have vz6 := BlkV.frozen kV 6
      have vc7 := BlkV.cell kV 7 rfl
      have vz7 := BlkV.frozen kV 7
      have vc8 := BlkV.cell kV 8 rfl
      have vz8 := BlkV.frozen kV 8
      have vc9 := BlkV.cell kV 9 rfl
      have vz9 := BlkV.frozen kV 9
      go_wp2_with fail
      rw [rounds_succ]
      go_wp2_with fail
      have t10 := BlkV.set kV 5 (.bool t)
      have t11 := BlkV.set t10 6 (.bool em)
      have t12 := BlkV.set t11 7 (.int .u64 (c))
      have t13 := BlkV.set t12 8 (.int .u64 (d))
      have t14 := BlkV.set t13 9 (.int .i64 (y))
      have o14 := ((((BlkV.on kV 5 (.bool t)).setv 6 (.bool em)).setv 7 (.int .u64 (c))).setv 8 (.int .u64 (d))).setv 9 (.int .i64 (y))
      replace kF := BlkV.only kF o14 (by omega)
      replace hF := hF.wrote o14 (by omega)
      have kV := t14
      clear o14
      have hz := HZ.out
      simp only [cf, ch, Bool.or_self, Bool.false_eq_true, if_false] at hz
      have dd := quotient_of (T := 107) m o ho (fun e1 e2 e3 e4 => hov _ _ Vf Vh e1 e2 e3 e4) Vf Vh kV bf.1 bf.2.1 bf.2.2 bh.1 bh.2.1 bh.2.2
      rw [hz] at dd
      clear hz HZ
      refine (dd).mono ?_
      rintro e w9 ⟨rfl, hf9⟩
      go_wp2
      go_ret2
      exact ⟨ret_pair rfl rfl, hF.trans hf9⟩

/-- A quotient of floats, over that of what is finite and not nought. -/
def divF (m : Int) (f h : Nat) (o : Bool × Bool × Nat × Int) : Nat × Nat := if isNan f || isNan h then (9221120237041090560, 0) else divV m (valF f) (valF h) o

set_option maxHeartbeats 4000000 in
set_option maxRecDepth 100000 in
theorem divF_over {w : World} (hR : Ru w) (m : Int) (f h : Nat) (hf : f < 18446744073709551616) (hh : h < 18446744073709551616) (o : Bool × Bool × Nat × Int) (ho : -1000000 ≤ o.2.2.2 ∧ o.2.2.2 ≤ 1000000) (hov : ∀ (u v : Value), VT u (valF f) → VT v (valF h) → (valF f).2.1 = false → (valF h).2.1 = false → (valF f).2.2.1 ≠ 0 → (valF h).2.2.1 ≠ 0 → ∀ w, Calls Tryz.prog 110 #[u, v] w fun e w' => ∃ r, e = .returned r ∧ Fwd w w' ∧ VT r o) :
    Calls Tryz.prog 49 #[.int .u64 f, .int .u64 h, .int .i64 m] w fun e w' => e = .returned (.tuple #[.int .u64 ((divF m f h o).1 : Nat), .int .i64 ((divF m f h o).2 : Nat)]) ∧ Fwd w w' := by
  have hmf : ∀ (fn : Fn) (first cap : Array Value) (w : World), (Instr.makeFunc fn first cap).run Tryz.prog w = .ok (.func fn first cap) w := fun _ _ _ _ => rfl
  have c1 := ruleOf_any m hR
  have c2 : ∀ (w1 : World), Calls Tryz.prog 83 #[.func (.func 85) #[ruleV m] #[], .slice (some ⟨w1.heap.size, 0, none⟩) 2 2] (w1.alloc (.cells #[.int .u64 f, .int .u64 h] 22)) fun e w' => e = .returned (.tuple #[.int .u64 ((divF m f h o).1 : Nat), .int .i64 ((divF m f h o).2 : Nat)]) ∧ Fwd (w1.alloc (.cells #[.int .u64 f, .int .u64 h] 22)) w' := fun w1 => ofNumbers_quot m f h hf hh o ho hov (BlkV.made w1 _ _)
  generalize divF m f h o = Z at *
  obtain ⟨z1, z2⟩ := Z
  generalize ruleV m = rv at *
  go_enter Tryz.func49, Tryz.ntmps49
  go_wp2_with fail
  refine c1.mono ?_
  rintro e w1 ⟨rfl, hf⟩
  go_wp2_with fail
  refine (c2 w1).mono ?_
  rintro e w2 ⟨rfl, hf2⟩
  go_wp2
  go_ret2
  exact ⟨ret_pair rfl rfl, (hf.alloc _).trans hf2⟩

end Go.Proofs.YtcfhajnboamnnabGreatDoor
