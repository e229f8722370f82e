/- sfloat's times, multiply. -/
import Derived.Test.YtbhehgodnfcdgaaDoorXF9
namespace Go.Proofs.YtbhehgodnfcdgaaDoor
open Go.RowKit
set_option linter.unusedVariables false

set_option maxHeartbeats 8000000 in
set_option maxRecDepth 100000 in
theorem times_any {w : World} {u v : Value} {s en t em : Bool} {n k : Nat} {x y : Int} (h : VV u s en n x) (g : VV v t em k y) (hn : n < 18446744073709551616) (hk : k < 18446744073709551616) (hx1 : -100000 ≤ x) (hx2 : x ≤ 100000) (hy1 : -100000 ≤ y) (hy2 : y ≤ 100000) :
    Calls Tryd.prog 79 #[u, v] w fun e w' => ∃ r, e = .returned r ∧ Fwd w w' ∧ VV r (s != t) false (n * k) (x + y) := by
  obtain ⟨a, b, rfl, h1, h2, hab⟩ := h
  obtain ⟨c, d, rfl, g1, g2, hcd⟩ := g
  obtain rfl : b = n := by omega
  obtain rfl : d = k := by omega
  clear hab hcd
  have pr := fun w => product_any (w := w) h2 g2
  have i2 : (!(s == t)) = (s != t) := rfl
  generalize (s != t) = st at *
  have hw : IntKind.i64.wrap (x + y) = x + y := by simp [IntKind.wrap, IntKind.bits, IntKind.signed]; omega
  have kV : BlkV (((w.alloc (.cells #[.bool s, .bool en, .int .u64 (a), .int .u64 (b), .int .i64 (x)] 65)).alloc (.cells #[.bool t, .bool em, .int .u64 (c), .int .u64 (d), .int .i64 (y)] 65)).alloc (.cells #[.bool false, .bool false, .int .u64 0, .int .u64 0, .int .i64 0] 65)) (w.heap.size) 65 [.bool s, .bool en, .int .u64 (a), .int .u64 (b), .int .i64 (x)] := ((BlkV.made' w (w.heap.size) (by simp) 65 [.bool s, .bool en, .int .u64 (a), .int .u64 (b), .int .i64 (x)]).alloc _).alloc _
  have kW : BlkV (((w.alloc (.cells #[.bool s, .bool en, .int .u64 (a), .int .u64 (b), .int .i64 (x)] 65)).alloc (.cells #[.bool t, .bool em, .int .u64 (c), .int .u64 (d), .int .i64 (y)] 65)).alloc (.cells #[.bool false, .bool false, .int .u64 0, .int .u64 0, .int .i64 0] 65)) (w.heap.size + 1) 65 [.bool t, .bool em, .int .u64 (c), .int .u64 (d), .int .i64 (y)] := (BlkV.made' (w.alloc (.cells #[.bool s, .bool en, .int .u64 (a), .int .u64 (b), .int .i64 (x)] 65)) (w.heap.size + 1) (by simp) 65 [.bool t, .bool em, .int .u64 (c), .int .u64 (d), .int .i64 (y)]).alloc _
  have kR : BlkV (((w.alloc (.cells #[.bool s, .bool en, .int .u64 (a), .int .u64 (b), .int .i64 (x)] 65)).alloc (.cells #[.bool t, .bool em, .int .u64 (c), .int .u64 (d), .int .i64 (y)] 65)).alloc (.cells #[.bool false, .bool false, .int .u64 0, .int .u64 0, .int .i64 0] 65)) (w.heap.size + 1 + 1) 65 [.bool false, .bool false, .int .u64 0, .int .u64 0, .int .i64 0] := BlkV.made' ((w.alloc (.cells #[.bool s, .bool en, .int .u64 (a), .int .u64 (b), .int .i64 (x)] 65)).alloc (.cells #[.bool t, .bool em, .int .u64 (c), .int .u64 (d), .int .i64 (y)] 65)) (w.heap.size + 1 + 1) (by simp) 65 [.bool false, .bool false, .int .u64 0, .int .u64 0, .int .i64 0]
  have hF : Fwd w (((w.alloc (.cells #[.bool s, .bool en, .int .u64 (a), .int .u64 (b), .int .i64 (x)] 65)).alloc (.cells #[.bool t, .bool em, .int .u64 (c), .int .u64 (d), .int .i64 (y)] 65)).alloc (.cells #[.bool false, .bool false, .int .u64 0, .int .u64 0, .int .i64 0] 65)) := (((Fwd.refl w).alloc _).alloc _).alloc _
  go_enter Tryd.func79, Tryd.ntmps79
  have vc0 := BlkV.cell kV 0 rfl
  have vz0 := BlkV.frozen kV 0
  have vc1 := BlkV.cell kV 1 rfl
  have vz1 := BlkV.frozen kV 1
  have vc2 := BlkV.cell kV 2 rfl
  have vz2 := BlkV.frozen kV 2
  have vc3 := BlkV.cell kV 3 rfl
  have vz3 := BlkV.frozen kV 3
  have vc4 := BlkV.cell kV 4 rfl
  have vz4 := BlkV.frozen kV 4
  have wc0 := BlkV.cell kW 0 rfl
  have wz0 := BlkV.frozen kW 0
  have wc1 := BlkV.cell kW 1 rfl
  have wz1 := BlkV.frozen kW 1
  have wc2 := BlkV.cell kW 2 rfl
  have wz2 := BlkV.frozen kW 2
  have wc3 := BlkV.cell kW 3 rfl
  have wz3 := BlkV.frozen kW 3
  have wc4 := BlkV.cell kW 4 rfl
  have wz4 := BlkV.frozen kW 4
  have rc0 := BlkV.cell kR 0 rfl
  have rz0 := BlkV.frozen kR 0
  have rc1 := BlkV.cell kR 1 rfl
  have rz1 := BlkV.frozen kR 1
  have rc2 := BlkV.cell kR 2 rfl
  have rz2 := BlkV.frozen kR 2
  have rc3 := BlkV.cell kR 3 rfl
  have rz3 := BlkV.frozen kR 3
  have rc4 := BlkV.cell kR 4 rfl
  have rz4 := BlkV.frozen kR 4
  go_wp2_with fail
  replace kV := kV.drew
  replace kW := kW.drew
  replace kR := kR.drew
  replace hF := hF.drew
  clear vc0 vz0 vc1 vz1 vc2 vz2 vc3 vz3 vc4 vz4
  clear wc0 wz0 wc1 wz1 wc2 wz2 wc3 wz3 wc4 wz4
  clear rc0 rz0 rc1 rz1 rc2 rz2 rc3 rz3 rc4 rz4
  have vc0 := BlkV.cell kV 0 rfl
  have vz0 := BlkV.frozen kV 0
  have vc1 := BlkV.cell kV 1 rfl
  have vz1 := BlkV.frozen kV 1
  have vc2 := BlkV.cell kV 2 rfl
  have vz2 := BlkV.frozen kV 2
  have vc3 := BlkV.cell kV 3 rfl
  have vz3 := BlkV.frozen kV 3
  have vc4 := BlkV.cell kV 4 rfl
  have vz4 := BlkV.frozen kV 4
  have wc0 := BlkV.cell kW 0 rfl
  have wz0 := BlkV.frozen kW 0
  have wc1 := BlkV.cell kW 1 rfl
  have wz1 := BlkV.frozen kW 1
  have wc2 := BlkV.cell kW 2 rfl
  have wz2 := BlkV.frozen kW 2
  have wc3 := BlkV.cell kW 3 rfl
  have wz3 := BlkV.frozen kW 3
  have wc4 := BlkV.cell kW 4 rfl
  have wz4 := BlkV.frozen kW 4
  have rc0 := BlkV.cell kR 0 rfl
  have rz0 := BlkV.frozen kR 0
  have rc1 := BlkV.cell kR 1 rfl
  have rz1 := BlkV.frozen kR 1
  have rc2 := BlkV.cell kR 2 rfl
  have rz2 := BlkV.frozen kR 2
  have rc3 := BlkV.cell kR 3 rfl
  have rz3 := BlkV.frozen kR 3
  have rc4 := BlkV.cell kR 4 rfl
  have rz4 := BlkV.frozen kR 4
  go_region_held3 (fun w' => w'.cell? ⟨w.heap.size, 0, none⟩ = some (.bool s) ∧ w'.cell? ⟨w.heap.size, 1, none⟩ = some (.bool en) ∧ w'.cell? ⟨w.heap.size, 2, none⟩ = some (.int .u64 (a)) ∧ w'.cell? ⟨w.heap.size, 3, none⟩ = some (.int .u64 (b)) ∧ w'.cell? ⟨w.heap.size, 4, none⟩ = some (.int .i64 (x)) ∧ w'.cell? ⟨w.heap.size + 1, 0, none⟩ = some (.bool t) ∧ w'.cell? ⟨w.heap.size + 1, 1, none⟩ = some (.bool em) ∧ w'.cell? ⟨w.heap.size + 1, 2, none⟩ = some (.int .u64 (c)) ∧ w'.cell? ⟨w.heap.size + 1, 3, none⟩ = some (.int .u64 (d)) ∧ w'.cell? ⟨w.heap.size + 1, 4, none⟩ = some (.int .i64 (y)))
    (first | exact ⟨by with_reducible assumption, by with_reducible assumption, by with_reducible assumption, by with_reducible assumption, by with_reducible assumption, by with_reducible assumption, by with_reducible assumption, by with_reducible assumption, by with_reducible assumption, by with_reducible assumption⟩ | exact ⟨(farset (by simp; try omega) (farset (by simp; try omega) (farset (by simp; try omega) (farset (by simp; try omega) (farset (by simp; try omega) (by with_reducible assumption)))))), (farset (by simp; try omega) (farset (by simp; try omega) (farset (by simp; try omega) (farset (by simp; try omega) (farset (by simp; try omega) (by with_reducible assumption)))))), (farset (by simp; try omega) (farset (by simp; try omega) (farset (by simp; try omega) (farset (by simp; try omega) (farset (by simp; try omega) (by with_reducible assumption)))))), (farset (by simp; try omega) (farset (by simp; try omega) (farset (by simp; try omega) (farset (by simp; try omega) (farset (by simp; try omega) (by with_reducible assumption)))))), (farset (by simp; try omega) (farset (by simp; try omega) (farset (by simp; try omega) (farset (by simp; try omega) (farset (by simp; try omega) (by with_reducible assumption)))))), (farset (by simp; try omega) (farset (by simp; try omega) (farset (by simp; try omega) (farset (by simp; try omega) (farset (by simp; try omega) (by with_reducible assumption)))))), (farset (by simp; try omega) (farset (by simp; try omega) (farset (by simp; try omega) (farset (by simp; try omega) (farset (by simp; try omega) (by with_reducible assumption)))))), (farset (by simp; try omega) (farset (by simp; try omega) (farset (by simp; try omega) (farset (by simp; try omega) (farset (by simp; try omega) (by with_reducible assumption)))))), (farset (by simp; try omega) (farset (by simp; try omega) (farset (by simp; try omega) (farset (by simp; try omega) (farset (by simp; try omega) (by with_reducible assumption)))))), (farset (by simp; try omega) (farset (by simp; try omega) (farset (by simp; try omega) (farset (by simp; try omega) (farset (by simp; try omega) (by with_reducible assumption))))))⟩)
    (first
      | (go_at_call 84
         refine (pr _).mono ?_
         rintro e w1 ⟨q, rfl, ⟨a4, b4, rfl, p1, p2, hp⟩, hf1⟩
         replace kV := kV.fwd hf1
         replace kW := kW.fwd hf1
         replace kR := kR.fwd hf1
         replace hF := hF.trans hf1
         clear hf1
         have HP := hid hp
         clear hp
         clear vc0 vz0 vc1 vz1 vc2 vz2 vc3 vz3 vc4 vz4
         clear wc0 wz0 wc1 wz1 wc2 wz2 wc3 wz3 wc4 wz4
         clear rc0 rz0 rc1 rz1 rc2 rz2 rc3 rz3 rc4 rz4
         have vc0 := BlkV.cell kV 0 rfl
         have vz0 := BlkV.frozen kV 0
         have vc1 := BlkV.cell kV 1 rfl
         have vz1 := BlkV.frozen kV 1
         have vc2 := BlkV.cell kV 2 rfl
         have vz2 := BlkV.frozen kV 2
         have vc3 := BlkV.cell kV 3 rfl
         have vz3 := BlkV.frozen kV 3
         have vc4 := BlkV.cell kV 4 rfl
         have vz4 := BlkV.frozen kV 4
         have wc0 := BlkV.cell kW 0 rfl
         have wz0 := BlkV.frozen kW 0
         have wc1 := BlkV.cell kW 1 rfl
         have wz1 := BlkV.frozen kW 1
         have wc2 := BlkV.cell kW 2 rfl
         have wz2 := BlkV.frozen kW 2
         have wc3 := BlkV.cell kW 3 rfl
         have wz3 := BlkV.frozen kW 3
         have wc4 := BlkV.cell kW 4 rfl
         have wz4 := BlkV.frozen kW 4
         have rc0 := BlkV.cell kR 0 rfl
         have rz0 := BlkV.frozen kR 0
         have rc1 := BlkV.cell kR 1 rfl
         have rz1 := BlkV.frozen kR 1
         have rc2 := BlkV.cell kR 2 rfl
         have rz2 := BlkV.frozen kR 2
         have rc3 := BlkV.cell kR 3 rfl
         have rz3 := BlkV.frozen kR 3
         have rc4 := BlkV.cell kR 4 rfl
         have rz4 := BlkV.frozen kR 4))
  go_wp2
  have r0 := BlkV.set kR 0 (.bool st)
  have rs0 := BlkV.cell r0 0 rfl
  have r1 := BlkV.set r0 1 (.bool false)
  have rs1 := BlkV.cell r1 1 rfl
  have r2 := BlkV.set r1 2 (.int .u64 (a4))
  have rs2 := BlkV.cell r2 2 rfl
  have r3 := BlkV.set r2 3 (.int .u64 (b4))
  have rs3 := BlkV.cell r3 3 rfl
  have r4 := BlkV.set r3 4 (.int .i64 (x + y))
  have rs4 := BlkV.cell r4 4 rfl
  refine bodyPost_ret (by simp [results, Tryd.results79, go_sem, rs0, rs1, rs2, rs3, rs4]; try rfl) rfl ?_
  exact ⟨_, rfl, (((((hF).set (by omega)).set (by omega)).set (by omega)).set (by omega)).set (by omega), ⟨a4, b4, rfl, p1, p2, HP.out⟩⟩

set_option maxHeartbeats 8000000 in
set_option maxRecDepth 100000 in
theorem multiply_any {w : World} {u v : Value} {s en t em : Bool} {n k : Nat} {x y : Int} (h : VV u s en n x) (g : VV v t em k y) (hn : n < 18446744073709551616) (hk : k < 18446744073709551616) (hx1 : -100000 ≤ x) (hx2 : x ≤ 100000) (hy1 : -100000 ≤ y) (hy2 : y ≤ 100000) :
    Calls Tryd.prog 49 #[u, v] w fun e w' => ∃ r, e = .returned (.tuple #[r, .bool (mulV (s, en, n, x) (t, em, k, y)).isSome]) ∧ Fwd w w' ∧ VT r ((mulV (s, en, n, x) (t, em, k, y)).getD (false, false, 0, 0)) := by
  have na := fun w => visNought_any (w := w) h
  have nb := fun w => visNought_any (w := w) g
  have tm := fun w => times_any (w := w) h g hn hk hx1 hx2 hy1 hy2
  obtain ⟨a, b, rfl, h1, h2, hab⟩ := h
  obtain ⟨c, d, rfl, g1, g2, hcd⟩ := g
  clear hab hcd
  have i2 : (!(s == t)) = (s != t) := rfl
  cases en <;> cases em
  · by_cases cn : n = 0
    · have ena : (!false && n == 0) = true := by simp [cn]
      simp only [ena] at na
      clear ena
      have HV : Hid (mulV (s, false, n, x) (t, false, k, y) = some (s != t, false, n * k, x + y)) := hid (by simp [mulV, cn])
      rw [HV.out]
      clear HV
      have Hn := hid cn
      clear cn
      generalize hst : (s != t) = st at *
      have kV : BlkV (((w.alloc (.cells #[.bool s, .bool false, .int .u64 (a), .int .u64 (b), .int .i64 (x)] 65)).alloc (.cells #[.bool t, .bool false, .int .u64 (c), .int .u64 (d), .int .i64 (y)] 65)).alloc (.cells #[.bool false, .bool false, .int .u64 0, .int .u64 0, .int .i64 0] 65)) (w.heap.size) 65 [.bool s, .bool false, .int .u64 (a), .int .u64 (b), .int .i64 (x)] := ((BlkV.made' w (w.heap.size) (by simp) 65 [.bool s, .bool false, .int .u64 (a), .int .u64 (b), .int .i64 (x)]).alloc _).alloc _
      have kW : BlkV (((w.alloc (.cells #[.bool s, .bool false, .int .u64 (a), .int .u64 (b), .int .i64 (x)] 65)).alloc (.cells #[.bool t, .bool false, .int .u64 (c), .int .u64 (d), .int .i64 (y)] 65)).alloc (.cells #[.bool false, .bool false, .int .u64 0, .int .u64 0, .int .i64 0] 65)) (w.heap.size + 1) 65 [.bool t, .bool false, .int .u64 (c), .int .u64 (d), .int .i64 (y)] := (BlkV.made' (w.alloc (.cells #[.bool s, .bool false, .int .u64 (a), .int .u64 (b), .int .i64 (x)] 65)) (w.heap.size + 1) (by simp) 65 [.bool t, .bool false, .int .u64 (c), .int .u64 (d), .int .i64 (y)]).alloc _
      have kR : BlkV (((w.alloc (.cells #[.bool s, .bool false, .int .u64 (a), .int .u64 (b), .int .i64 (x)] 65)).alloc (.cells #[.bool t, .bool false, .int .u64 (c), .int .u64 (d), .int .i64 (y)] 65)).alloc (.cells #[.bool false, .bool false, .int .u64 0, .int .u64 0, .int .i64 0] 65)) (w.heap.size + 1 + 1) 65 [.bool false, .bool false, .int .u64 0, .int .u64 0, .int .i64 0] := BlkV.made' ((w.alloc (.cells #[.bool s, .bool false, .int .u64 (a), .int .u64 (b), .int .i64 (x)] 65)).alloc (.cells #[.bool t, .bool false, .int .u64 (c), .int .u64 (d), .int .i64 (y)] 65)) (w.heap.size + 1 + 1) (by simp) 65 [.bool false, .bool false, .int .u64 0, .int .u64 0, .int .i64 0]
      have hF : Fwd w (((w.alloc (.cells #[.bool s, .bool false, .int .u64 (a), .int .u64 (b), .int .i64 (x)] 65)).alloc (.cells #[.bool t, .bool false, .int .u64 (c), .int .u64 (d), .int .i64 (y)] 65)).alloc (.cells #[.bool false, .bool false, .int .u64 0, .int .u64 0, .int .i64 0] 65)) := (((Fwd.refl w).alloc _).alloc _).alloc _
      go_enter Tryd.func49, Tryd.ntmps49
      have vc0 := BlkV.cell kV 0 rfl
      have vz0 := BlkV.frozen kV 0
      have vc1 := BlkV.cell kV 1 rfl
      have vz1 := BlkV.frozen kV 1
      have vc2 := BlkV.cell kV 2 rfl
      have vz2 := BlkV.frozen kV 2
      have vc3 := BlkV.cell kV 3 rfl
      have vz3 := BlkV.frozen kV 3
      have vc4 := BlkV.cell kV 4 rfl
      have vz4 := BlkV.frozen kV 4
      have wc0 := BlkV.cell kW 0 rfl
      have wz0 := BlkV.frozen kW 0
      have wc1 := BlkV.cell kW 1 rfl
      have wz1 := BlkV.frozen kW 1
      have wc2 := BlkV.cell kW 2 rfl
      have wz2 := BlkV.frozen kW 2
      have wc3 := BlkV.cell kW 3 rfl
      have wz3 := BlkV.frozen kW 3
      have wc4 := BlkV.cell kW 4 rfl
      have wz4 := BlkV.frozen kW 4
      have rc0 := BlkV.cell kR 0 rfl
      have rz0 := BlkV.frozen kR 0
      have rc1 := BlkV.cell kR 1 rfl
      have rz1 := BlkV.frozen kR 1
      have rc2 := BlkV.cell kR 2 rfl
      have rz2 := BlkV.frozen kR 2
      have rc3 := BlkV.cell kR 3 rfl
      have rz3 := BlkV.frozen kR 3
      have rc4 := BlkV.cell kR 4 rfl
      have rz4 := BlkV.frozen kR 4
      go_wp2_with fail
      refine (na _).mono ?_
      rintro e w1 ⟨rfl, hf1⟩
      replace kV := kV.fwd hf1
      replace kW := kW.fwd hf1
      replace kR := kR.fwd hf1
      replace hF := hF.trans hf1
      clear hf1
      clear vc0 vz0 vc1 vz1 vc2 vz2 vc3 vz3 vc4 vz4
      clear wc0 wz0 wc1 wz1 wc2 wz2 wc3 wz3 wc4 wz4
      clear rc0 rz0 rc1 rz1 rc2 rz2 rc3 rz3 rc4 rz4
      have vc0 := BlkV.cell kV 0 rfl
      have vz0 := BlkV.frozen kV 0
      have vc1 := BlkV.cell kV 1 rfl
      have vz1 := BlkV.frozen kV 1
      have vc2 := BlkV.cell kV 2 rfl
      have vz2 := BlkV.frozen kV 2
      have vc3 := BlkV.cell kV 3 rfl
      have vz3 := BlkV.frozen kV 3
      have vc4 := BlkV.cell kV 4 rfl
      have vz4 := BlkV.frozen kV 4
      have wc0 := BlkV.cell kW 0 rfl
      have wz0 := BlkV.frozen kW 0
      have wc1 := BlkV.cell kW 1 rfl
      have wz1 := BlkV.frozen kW 1
      have wc2 := BlkV.cell kW 2 rfl
      have wz2 := BlkV.frozen kW 2
      have wc3 := BlkV.cell kW 3 rfl
      have wz3 := BlkV.frozen kW 3
      have wc4 := BlkV.cell kW 4 rfl
      have wz4 := BlkV.frozen kW 4
      have rc0 := BlkV.cell kR 0 rfl
      have rz0 := BlkV.frozen kR 0
      have rc1 := BlkV.cell kR 1 rfl
      have rz1 := BlkV.frozen kR 1
      have rc2 := BlkV.cell kR 2 rfl
      have rz2 := BlkV.frozen kR 2
      have rc3 := BlkV.cell kR 3 rfl
      have rz3 := BlkV.frozen kR 3
      have rc4 := BlkV.cell kR 4 rfl
      have rz4 := BlkV.frozen kR 4
      go_wp2_with fail
      refine (tm _).mono ?_
      rintro e w2 ⟨r, rfl, hf2, a4, b4, rfl, p1, p2, hp⟩
      have HP := hid hp
      clear hp
      replace kV := kV.fwd hf2
      replace kW := kW.fwd hf2
      replace kR := kR.fwd hf2
      replace hF := hF.trans hf2
      clear hf2
      clear vc0 vz0 vc1 vz1 vc2 vz2 vc3 vz3 vc4 vz4
      clear wc0 wz0 wc1 wz1 wc2 wz2 wc3 wz3 wc4 wz4
      clear rc0 rz0 rc1 rz1 rc2 rz2 rc3 rz3 rc4 rz4
      have vc0 := BlkV.cell kV 0 rfl
      have vz0 := BlkV.frozen kV 0
      have vc1 := BlkV.cell kV 1 rfl
      have vz1 := BlkV.frozen kV 1
      have vc2 := BlkV.cell kV 2 rfl
      have vz2 := BlkV.frozen kV 2
      have vc3 := BlkV.cell kV 3 rfl
      have vz3 := BlkV.frozen kV 3
      have vc4 := BlkV.cell kV 4 rfl
      have vz4 := BlkV.frozen kV 4
      have wc0 := BlkV.cell kW 0 rfl
      have wz0 := BlkV.frozen kW 0
      have wc1 := BlkV.cell kW 1 rfl
      have wz1 := BlkV.frozen kW 1
      have wc2 := BlkV.cell kW 2 rfl
      have wz2 := BlkV.frozen kW 2
      have wc3 := BlkV.cell kW 3 rfl
      have wz3 := BlkV.frozen kW 3
      have wc4 := BlkV.cell kW 4 rfl
      have wz4 := BlkV.frozen kW 4
      have rc0 := BlkV.cell kR 0 rfl
      have rz0 := BlkV.frozen kR 0
      have rc1 := BlkV.cell kR 1 rfl
      have rz1 := BlkV.frozen kR 1
      have rc2 := BlkV.cell kR 2 rfl
      have rz2 := BlkV.frozen kR 2
      have rc3 := BlkV.cell kR 3 rfl
      have rz3 := BlkV.frozen kR 3
      have rc4 := BlkV.cell kR 4 rfl
      have rz4 := BlkV.frozen kR 4
      go_wp2
      have r0 := BlkV.set kR 0 (.bool st)
      have rs0 := BlkV.cell r0 0 rfl
      have r1 := BlkV.set r0 1 (.bool false)
      have rs1 := BlkV.cell r1 1 rfl
      have r2 := BlkV.set r1 2 (.int .u64 (a4))
      have rs2 := BlkV.cell r2 2 rfl
      have r3 := BlkV.set r2 3 (.int .u64 (b4))
      have rs3 := BlkV.cell r3 3 rfl
      have r4 := BlkV.set r3 4 (.int .i64 (x + y))
      have rs4 := BlkV.cell r4 4 rfl
      refine bodyPost_ret (by simp [results, Tryd.results49, go_sem, rs0, rs1, rs2, rs3, rs4]; try rfl) rfl ?_
      exact ⟨_, rfl, (((((hF).set (by omega)).set (by omega)).set (by omega)).set (by omega)).set (by omega), ⟨a4, b4, rfl, p1, p2, HP.out⟩⟩
    · have ena : (!false && n == 0) = false := by simp [cn]
      simp only [ena] at na
      clear ena
      have HV : Hid (mulV (s, false, n, x) (t, false, k, y) = some (s != t, false, n * k, x + y)) := hid (by simp [mulV, cn])
      rw [HV.out]
      clear HV
      have Hn := hid cn
      clear cn
      generalize hst : (s != t) = st at *
      have kV : BlkV (((w.alloc (.cells #[.bool s, .bool false, .int .u64 (a), .int .u64 (b), .int .i64 (x)] 65)).alloc (.cells #[.bool t, .bool false, .int .u64 (c), .int .u64 (d), .int .i64 (y)] 65)).alloc (.cells #[.bool false, .bool false, .int .u64 0, .int .u64 0, .int .i64 0] 65)) (w.heap.size) 65 [.bool s, .bool false, .int .u64 (a), .int .u64 (b), .int .i64 (x)] := ((BlkV.made' w (w.heap.size) (by simp) 65 [.bool s, .bool false, .int .u64 (a), .int .u64 (b), .int .i64 (x)]).alloc _).alloc _
      have kW : BlkV (((w.alloc (.cells #[.bool s, .bool false, .int .u64 (a), .int .u64 (b), .int .i64 (x)] 65)).alloc (.cells #[.bool t, .bool false, .int .u64 (c), .int .u64 (d), .int .i64 (y)] 65)).alloc (.cells #[.bool false, .bool false, .int .u64 0, .int .u64 0, .int .i64 0] 65)) (w.heap.size + 1) 65 [.bool t, .bool false, .int .u64 (c), .int .u64 (d), .int .i64 (y)] := (BlkV.made' (w.alloc (.cells #[.bool s, .bool false, .int .u64 (a), .int .u64 (b), .int .i64 (x)] 65)) (w.heap.size + 1) (by simp) 65 [.bool t, .bool false, .int .u64 (c), .int .u64 (d), .int .i64 (y)]).alloc _
      have kR : BlkV (((w.alloc (.cells #[.bool s, .bool false, .int .u64 (a), .int .u64 (b), .int .i64 (x)] 65)).alloc (.cells #[.bool t, .bool false, .int .u64 (c), .int .u64 (d), .int .i64 (y)] 65)).alloc (.cells #[.bool false, .bool false, .int .u64 0, .int .u64 0, .int .i64 0] 65)) (w.heap.size + 1 + 1) 65 [.bool false, .bool false, .int .u64 0, .int .u64 0, .int .i64 0] := BlkV.made' ((w.alloc (.cells #[.bool s, .bool false, .int .u64 (a), .int .u64 (b), .int .i64 (x)] 65)).alloc (.cells #[.bool t, .bool false, .int .u64 (c), .int .u64 (d), .int .i64 (y)] 65)) (w.heap.size + 1 + 1) (by simp) 65 [.bool false, .bool false, .int .u64 0, .int .u64 0, .int .i64 0]
      have hF : Fwd w (((w.alloc (.cells #[.bool s, .bool false, .int .u64 (a), .int .u64 (b), .int .i64 (x)] 65)).alloc (.cells #[.bool t, .bool false, .int .u64 (c), .int .u64 (d), .int .i64 (y)] 65)).alloc (.cells #[.bool false, .bool false, .int .u64 0, .int .u64 0, .int .i64 0] 65)) := (((Fwd.refl w).alloc _).alloc _).alloc _
      go_enter Tryd.func49, Tryd.ntmps49
      have vc0 := BlkV.cell kV 0 rfl
      have vz0 := BlkV.frozen kV 0
      have vc1 := BlkV.cell kV 1 rfl
      have vz1 := BlkV.frozen kV 1
      have vc2 := BlkV.cell kV 2 rfl
      have vz2 := BlkV.frozen kV 2
      have vc3 := BlkV.cell kV 3 rfl
      have vz3 := BlkV.frozen kV 3
      have vc4 := BlkV.cell kV 4 rfl
      have vz4 := BlkV.frozen kV 4
      have wc0 := BlkV.cell kW 0 rfl
      have wz0 := BlkV.frozen kW 0
      have wc1 := BlkV.cell kW 1 rfl
      have wz1 := BlkV.frozen kW 1
      have wc2 := BlkV.cell kW 2 rfl
      have wz2 := BlkV.frozen kW 2
      have wc3 := BlkV.cell kW 3 rfl
      have wz3 := BlkV.frozen kW 3
      have wc4 := BlkV.cell kW 4 rfl
      have wz4 := BlkV.frozen kW 4
      have rc0 := BlkV.cell kR 0 rfl
      have rz0 := BlkV.frozen kR 0
      have rc1 := BlkV.cell kR 1 rfl
      have rz1 := BlkV.frozen kR 1
      have rc2 := BlkV.cell kR 2 rfl
      have rz2 := BlkV.frozen kR 2
      have rc3 := BlkV.cell kR 3 rfl
      have rz3 := BlkV.frozen kR 3
      have rc4 := BlkV.cell kR 4 rfl
      have rz4 := BlkV.frozen kR 4
      go_wp2_with fail
      refine (na _).mono ?_
      rintro e w1 ⟨rfl, hf1⟩
      replace kV := kV.fwd hf1
      replace kW := kW.fwd hf1
      replace kR := kR.fwd hf1
      replace hF := hF.trans hf1
      clear hf1
      clear vc0 vz0 vc1 vz1 vc2 vz2 vc3 vz3 vc4 vz4
      clear wc0 wz0 wc1 wz1 wc2 wz2 wc3 wz3 wc4 wz4
      clear rc0 rz0 rc1 rz1 rc2 rz2 rc3 rz3 rc4 rz4
      have vc0 := BlkV.cell kV 0 rfl
      have vz0 := BlkV.frozen kV 0
      have vc1 := BlkV.cell kV 1 rfl
      have vz1 := BlkV.frozen kV 1
      have vc2 := BlkV.cell kV 2 rfl
      have vz2 := BlkV.frozen kV 2
      have vc3 := BlkV.cell kV 3 rfl
      have vz3 := BlkV.frozen kV 3
      have vc4 := BlkV.cell kV 4 rfl
      have vz4 := BlkV.frozen kV 4
      have wc0 := BlkV.cell kW 0 rfl
      have wz0 := BlkV.frozen kW 0
      have wc1 := BlkV.cell kW 1 rfl
      have wz1 := BlkV.frozen kW 1
      have wc2 := BlkV.cell kW 2 rfl
      have wz2 := BlkV.frozen kW 2
      have wc3 := BlkV.cell kW 3 rfl
      have wz3 := BlkV.frozen kW 3
      have wc4 := BlkV.cell kW 4 rfl
      have wz4 := BlkV.frozen kW 4
      have rc0 := BlkV.cell kR 0 rfl
      have rz0 := BlkV.frozen kR 0
      have rc1 := BlkV.cell kR 1 rfl
      have rz1 := BlkV.frozen kR 1
      have rc2 := BlkV.cell kR 2 rfl
      have rz2 := BlkV.frozen kR 2
      have rc3 := BlkV.cell kR 3 rfl
      have rz3 := BlkV.frozen kR 3
      have rc4 := BlkV.cell kR 4 rfl
      have rz4 := BlkV.frozen kR 4
      go_wp2_with fail
      refine (tm _).mono ?_
      rintro e w2 ⟨r, rfl, hf2, a4, b4, rfl, p1, p2, hp⟩
      have HP := hid hp
      clear hp
      replace kV := kV.fwd hf2
      replace kW := kW.fwd hf2
      replace kR := kR.fwd hf2
      replace hF := hF.trans hf2
      clear hf2
      clear vc0 vz0 vc1 vz1 vc2 vz2 vc3 vz3 vc4 vz4
      clear wc0 wz0 wc1 wz1 wc2 wz2 wc3 wz3 wc4 wz4
      clear rc0 rz0 rc1 rz1 rc2 rz2 rc3 rz3 rc4 rz4
      have vc0 := BlkV.cell kV 0 rfl
      have vz0 := BlkV.frozen kV 0
      have vc1 := BlkV.cell kV 1 rfl
      have vz1 := BlkV.frozen kV 1
      have vc2 := BlkV.cell kV 2 rfl
      have vz2 := BlkV.frozen kV 2
      have vc3 := BlkV.cell kV 3 rfl
      have vz3 := BlkV.frozen kV 3
      have vc4 := BlkV.cell kV 4 rfl
      have vz4 := BlkV.frozen kV 4
      have wc0 := BlkV.cell kW 0 rfl
      have wz0 := BlkV.frozen kW 0
      have wc1 := BlkV.cell kW 1 rfl
      have wz1 := BlkV.frozen kW 1
      have wc2 := BlkV.cell kW 2 rfl
      have wz2 := BlkV.frozen kW 2
      have wc3 := BlkV.cell kW 3 rfl
      have wz3 := BlkV.frozen kW 3
      have wc4 := BlkV.cell kW 4 rfl
      have wz4 := BlkV.frozen kW 4
      have rc0 := BlkV.cell kR 0 rfl
      have rz0 := BlkV.frozen kR 0
      have rc1 := BlkV.cell kR 1 rfl
      have rz1 := BlkV.frozen kR 1
      have rc2 := BlkV.cell kR 2 rfl
      have rz2 := BlkV.frozen kR 2
      have rc3 := BlkV.cell kR 3 rfl
      have rz3 := BlkV.frozen kR 3
      have rc4 := BlkV.cell kR 4 rfl
      have rz4 := BlkV.frozen kR 4
      go_wp2
      have r0 := BlkV.set kR 0 (.bool st)
      have rs0 := BlkV.cell r0 0 rfl
      have r1 := BlkV.set r0 1 (.bool false)
      have rs1 := BlkV.cell r1 1 rfl
      have r2 := BlkV.set r1 2 (.int .u64 (a4))
      have rs2 := BlkV.cell r2 2 rfl
      have r3 := BlkV.set r2 3 (.int .u64 (b4))
      have rs3 := BlkV.cell r3 3 rfl
      have r4 := BlkV.set r3 4 (.int .i64 (x + y))
      have rs4 := BlkV.cell r4 4 rfl
      refine bodyPost_ret (by simp [results, Tryd.results49, go_sem, rs0, rs1, rs2, rs3, rs4]; try rfl) rfl ?_
      exact ⟨_, rfl, (((((hF).set (by omega)).set (by omega)).set (by omega)).set (by omega)).set (by omega), ⟨a4, b4, rfl, p1, p2, HP.out⟩⟩
  · by_cases cn : n = 0
    · have ena : (!false && n == 0) = true := by simp [cn]
      simp only [ena] at na
      clear ena
      have HV : Hid (mulV (s, false, n, x) (t, true, k, y) = none) := hid (by simp [mulV, cn])
      rw [HV.out]
      clear HV
      clear tm
      have Hn := hid cn
      clear cn
      have kV : BlkV (((w.alloc (.cells #[.bool s, .bool false, .int .u64 (a), .int .u64 (b), .int .i64 (x)] 65)).alloc (.cells #[.bool t, .bool true, .int .u64 (c), .int .u64 (d), .int .i64 (y)] 65)).alloc (.cells #[.bool false, .bool false, .int .u64 0, .int .u64 0, .int .i64 0] 65)) (w.heap.size) 65 [.bool s, .bool false, .int .u64 (a), .int .u64 (b), .int .i64 (x)] := ((BlkV.made' w (w.heap.size) (by simp) 65 [.bool s, .bool false, .int .u64 (a), .int .u64 (b), .int .i64 (x)]).alloc _).alloc _
      have kW : BlkV (((w.alloc (.cells #[.bool s, .bool false, .int .u64 (a), .int .u64 (b), .int .i64 (x)] 65)).alloc (.cells #[.bool t, .bool true, .int .u64 (c), .int .u64 (d), .int .i64 (y)] 65)).alloc (.cells #[.bool false, .bool false, .int .u64 0, .int .u64 0, .int .i64 0] 65)) (w.heap.size + 1) 65 [.bool t, .bool true, .int .u64 (c), .int .u64 (d), .int .i64 (y)] := (BlkV.made' (w.alloc (.cells #[.bool s, .bool false, .int .u64 (a), .int .u64 (b), .int .i64 (x)] 65)) (w.heap.size + 1) (by simp) 65 [.bool t, .bool true, .int .u64 (c), .int .u64 (d), .int .i64 (y)]).alloc _
      have kR : BlkV (((w.alloc (.cells #[.bool s, .bool false, .int .u64 (a), .int .u64 (b), .int .i64 (x)] 65)).alloc (.cells #[.bool t, .bool true, .int .u64 (c), .int .u64 (d), .int .i64 (y)] 65)).alloc (.cells #[.bool false, .bool false, .int .u64 0, .int .u64 0, .int .i64 0] 65)) (w.heap.size + 1 + 1) 65 [.bool false, .bool false, .int .u64 0, .int .u64 0, .int .i64 0] := BlkV.made' ((w.alloc (.cells #[.bool s, .bool false, .int .u64 (a), .int .u64 (b), .int .i64 (x)] 65)).alloc (.cells #[.bool t, .bool true, .int .u64 (c), .int .u64 (d), .int .i64 (y)] 65)) (w.heap.size + 1 + 1) (by simp) 65 [.bool false, .bool false, .int .u64 0, .int .u64 0, .int .i64 0]
      have hF : Fwd w (((w.alloc (.cells #[.bool s, .bool false, .int .u64 (a), .int .u64 (b), .int .i64 (x)] 65)).alloc (.cells #[.bool t, .bool true, .int .u64 (c), .int .u64 (d), .int .i64 (y)] 65)).alloc (.cells #[.bool false, .bool false, .int .u64 0, .int .u64 0, .int .i64 0] 65)) := (((Fwd.refl w).alloc _).alloc _).alloc _
      go_enter Tryd.func49, Tryd.ntmps49
      have vc0 := BlkV.cell kV 0 rfl
      have vz0 := BlkV.frozen kV 0
      have vc1 := BlkV.cell kV 1 rfl
      have vz1 := BlkV.frozen kV 1
      have vc2 := BlkV.cell kV 2 rfl
      have vz2 := BlkV.frozen kV 2
      have vc3 := BlkV.cell kV 3 rfl
      have vz3 := BlkV.frozen kV 3
      have vc4 := BlkV.cell kV 4 rfl
      have vz4 := BlkV.frozen kV 4
      have wc0 := BlkV.cell kW 0 rfl
      have wz0 := BlkV.frozen kW 0
      have wc1 := BlkV.cell kW 1 rfl
      have wz1 := BlkV.frozen kW 1
      have wc2 := BlkV.cell kW 2 rfl
      have wz2 := BlkV.frozen kW 2
      have wc3 := BlkV.cell kW 3 rfl
      have wz3 := BlkV.frozen kW 3
      have wc4 := BlkV.cell kW 4 rfl
      have wz4 := BlkV.frozen kW 4
      have rc0 := BlkV.cell kR 0 rfl
      have rz0 := BlkV.frozen kR 0
      have rc1 := BlkV.cell kR 1 rfl
      have rz1 := BlkV.frozen kR 1
      have rc2 := BlkV.cell kR 2 rfl
      have rz2 := BlkV.frozen kR 2
      have rc3 := BlkV.cell kR 3 rfl
      have rz3 := BlkV.frozen kR 3
      have rc4 := BlkV.cell kR 4 rfl
      have rz4 := BlkV.frozen kR 4
      go_wp2_with fail
      refine (na _).mono ?_
      rintro e w1 ⟨rfl, hf1⟩
      replace kV := kV.fwd hf1
      replace kW := kW.fwd hf1
      replace kR := kR.fwd hf1
      replace hF := hF.trans hf1
      clear hf1
      clear vc0 vz0 vc1 vz1 vc2 vz2 vc3 vz3 vc4 vz4
      clear wc0 wz0 wc1 wz1 wc2 wz2 wc3 wz3 wc4 wz4
      clear rc0 rz0 rc1 rz1 rc2 rz2 rc3 rz3 rc4 rz4
      have vc0 := BlkV.cell kV 0 rfl
      have vz0 := BlkV.frozen kV 0
      have vc1 := BlkV.cell kV 1 rfl
      have vz1 := BlkV.frozen kV 1
      have vc2 := BlkV.cell kV 2 rfl
      have vz2 := BlkV.frozen kV 2
      have vc3 := BlkV.cell kV 3 rfl
      have vz3 := BlkV.frozen kV 3
      have vc4 := BlkV.cell kV 4 rfl
      have vz4 := BlkV.frozen kV 4
      have wc0 := BlkV.cell kW 0 rfl
      have wz0 := BlkV.frozen kW 0
      have wc1 := BlkV.cell kW 1 rfl
      have wz1 := BlkV.frozen kW 1
      have wc2 := BlkV.cell kW 2 rfl
      have wz2 := BlkV.frozen kW 2
      have wc3 := BlkV.cell kW 3 rfl
      have wz3 := BlkV.frozen kW 3
      have wc4 := BlkV.cell kW 4 rfl
      have wz4 := BlkV.frozen kW 4
      have rc0 := BlkV.cell kR 0 rfl
      have rz0 := BlkV.frozen kR 0
      have rc1 := BlkV.cell kR 1 rfl
      have rz1 := BlkV.frozen kR 1
      have rc2 := BlkV.cell kR 2 rfl
      have rz2 := BlkV.frozen kR 2
      have rc3 := BlkV.cell kR 3 rfl
      have rz3 := BlkV.frozen kR 3
      have rc4 := BlkV.cell kR 4 rfl
      have rz4 := BlkV.frozen kR 4
      go_wp2
      have r0 := BlkV.set kR 0 (.bool false)
      have rs0 := BlkV.cell r0 0 rfl
      have r1 := BlkV.set r0 1 (.bool false)
      have rs1 := BlkV.cell r1 1 rfl
      have r2 := BlkV.set r1 2 (.int .u64 0)
      have rs2 := BlkV.cell r2 2 rfl
      have r3 := BlkV.set r2 3 (.int .u64 0)
      have rs3 := BlkV.cell r3 3 rfl
      have r4 := BlkV.set r3 4 (.int .i64 0)
      have rs4 := BlkV.cell r4 4 rfl
      refine bodyPost_ret (by simp [results, Tryd.results49, go_sem, rs0, rs1, rs2, rs3, rs4]; try rfl) rfl ?_
      exact ⟨_, rfl, (((((hF).set (by omega)).set (by omega)).set (by omega)).set (by omega)).set (by omega), ⟨0, 0, rfl, by omega, by omega, rfl⟩⟩
    · have ena : (!false && n == 0) = false := by simp [cn]
      simp only [ena] at na
      clear ena
      have HV : Hid (mulV (s, false, n, x) (t, true, k, y) = some (s != t, true, 0, 0)) := hid (by simp [mulV, cn])
      rw [HV.out]
      clear HV
      clear tm
      have Hn := hid cn
      clear cn
      generalize hst : (s != t) = st at *
      have kV : BlkV (((w.alloc (.cells #[.bool s, .bool false, .int .u64 (a), .int .u64 (b), .int .i64 (x)] 65)).alloc (.cells #[.bool t, .bool true, .int .u64 (c), .int .u64 (d), .int .i64 (y)] 65)).alloc (.cells #[.bool false, .bool false, .int .u64 0, .int .u64 0, .int .i64 0] 65)) (w.heap.size) 65 [.bool s, .bool false, .int .u64 (a), .int .u64 (b), .int .i64 (x)] := ((BlkV.made' w (w.heap.size) (by simp) 65 [.bool s, .bool false, .int .u64 (a), .int .u64 (b), .int .i64 (x)]).alloc _).alloc _
      have kW : BlkV (((w.alloc (.cells #[.bool s, .bool false, .int .u64 (a), .int .u64 (b), .int .i64 (x)] 65)).alloc (.cells #[.bool t, .bool true, .int .u64 (c), .int .u64 (d), .int .i64 (y)] 65)).alloc (.cells #[.bool false, .bool false, .int .u64 0, .int .u64 0, .int .i64 0] 65)) (w.heap.size + 1) 65 [.bool t, .bool true, .int .u64 (c), .int .u64 (d), .int .i64 (y)] := (BlkV.made' (w.alloc (.cells #[.bool s, .bool false, .int .u64 (a), .int .u64 (b), .int .i64 (x)] 65)) (w.heap.size + 1) (by simp) 65 [.bool t, .bool true, .int .u64 (c), .int .u64 (d), .int .i64 (y)]).alloc _
      have kR : BlkV (((w.alloc (.cells #[.bool s, .bool false, .int .u64 (a), .int .u64 (b), .int .i64 (x)] 65)).alloc (.cells #[.bool t, .bool true, .int .u64 (c), .int .u64 (d), .int .i64 (y)] 65)).alloc (.cells #[.bool false, .bool false, .int .u64 0, .int .u64 0, .int .i64 0] 65)) (w.heap.size + 1 + 1) 65 [.bool false, .bool false, .int .u64 0, .int .u64 0, .int .i64 0] := BlkV.made' ((w.alloc (.cells #[.bool s, .bool false, .int .u64 (a), .int .u64 (b), .int .i64 (x)] 65)).alloc (.cells #[.bool t, .bool true, .int .u64 (c), .int .u64 (d), .int .i64 (y)] 65)) (w.heap.size + 1 + 1) (by simp) 65 [.bool false, .bool false, .int .u64 0, .int .u64 0, .int .i64 0]
      have hF : Fwd w (((w.alloc (.cells #[.bool s, .bool false, .int .u64 (a), .int .u64 (b), .int .i64 (x)] 65)).alloc (.cells #[.bool t, .bool true, .int .u64 (c), .int .u64 (d), .int .i64 (y)] 65)).alloc (.cells #[.bool false, .bool false, .int .u64 0, .int .u64 0, .int .i64 0] 65)) := (((Fwd.refl w).alloc _).alloc _).alloc _
      go_enter Tryd.func49, Tryd.ntmps49
      have vc0 := BlkV.cell kV 0 rfl
      have vz0 := BlkV.frozen kV 0
      have vc1 := BlkV.cell kV 1 rfl
      have vz1 := BlkV.frozen kV 1
      have vc2 := BlkV.cell kV 2 rfl
      have vz2 := BlkV.frozen kV 2
      have vc3 := BlkV.cell kV 3 rfl
      have vz3 := BlkV.frozen kV 3
      have vc4 := BlkV.cell kV 4 rfl
      have vz4 := BlkV.frozen kV 4
      have wc0 := BlkV.cell kW 0 rfl
      have wz0 := BlkV.frozen kW 0
      have wc1 := BlkV.cell kW 1 rfl
      have wz1 := BlkV.frozen kW 1
      have wc2 := BlkV.cell kW 2 rfl
      have wz2 := BlkV.frozen kW 2
      have wc3 := BlkV.cell kW 3 rfl
      have wz3 := BlkV.frozen kW 3
      have wc4 := BlkV.cell kW 4 rfl
      have wz4 := BlkV.frozen kW 4
      have rc0 := BlkV.cell kR 0 rfl
      have rz0 := BlkV.frozen kR 0
      have rc1 := BlkV.cell kR 1 rfl
      have rz1 := BlkV.frozen kR 1
      have rc2 := BlkV.cell kR 2 rfl
      have rz2 := BlkV.frozen kR 2
      have rc3 := BlkV.cell kR 3 rfl
      have rz3 := BlkV.frozen kR 3
      have rc4 := BlkV.cell kR 4 rfl
      have rz4 := BlkV.frozen kR 4
      go_wp2_with fail
      refine (na _).mono ?_
      rintro e w1 ⟨rfl, hf1⟩
      replace kV := kV.fwd hf1
      replace kW := kW.fwd hf1
      replace kR := kR.fwd hf1
      replace hF := hF.trans hf1
      clear hf1
      clear vc0 vz0 vc1 vz1 vc2 vz2 vc3 vz3 vc4 vz4
      clear wc0 wz0 wc1 wz1 wc2 wz2 wc3 wz3 wc4 wz4
      clear rc0 rz0 rc1 rz1 rc2 rz2 rc3 rz3 rc4 rz4
      have vc0 := BlkV.cell kV 0 rfl
      have vz0 := BlkV.frozen kV 0
      have vc1 := BlkV.cell kV 1 rfl
      have vz1 := BlkV.frozen kV 1
      have vc2 := BlkV.cell kV 2 rfl
      have vz2 := BlkV.frozen kV 2
      have vc3 := BlkV.cell kV 3 rfl
      have vz3 := BlkV.frozen kV 3
      have vc4 := BlkV.cell kV 4 rfl
      have vz4 := BlkV.frozen kV 4
      have wc0 := BlkV.cell kW 0 rfl
      have wz0 := BlkV.frozen kW 0
      have wc1 := BlkV.cell kW 1 rfl
      have wz1 := BlkV.frozen kW 1
      have wc2 := BlkV.cell kW 2 rfl
      have wz2 := BlkV.frozen kW 2
      have wc3 := BlkV.cell kW 3 rfl
      have wz3 := BlkV.frozen kW 3
      have wc4 := BlkV.cell kW 4 rfl
      have wz4 := BlkV.frozen kW 4
      have rc0 := BlkV.cell kR 0 rfl
      have rz0 := BlkV.frozen kR 0
      have rc1 := BlkV.cell kR 1 rfl
      have rz1 := BlkV.frozen kR 1
      have rc2 := BlkV.cell kR 2 rfl
      have rz2 := BlkV.frozen kR 2
      have rc3 := BlkV.cell kR 3 rfl
      have rz3 := BlkV.frozen kR 3
      have rc4 := BlkV.cell kR 4 rfl
      have rz4 := BlkV.frozen kR 4
      go_wp2
      have r0 := BlkV.set kR 0 (.bool st)
      have rs0 := BlkV.cell r0 0 rfl
      have r1 := BlkV.set r0 1 (.bool true)
      have rs1 := BlkV.cell r1 1 rfl
      have r2 := BlkV.set r1 2 (.int .u64 0)
      have rs2 := BlkV.cell r2 2 rfl
      have r3 := BlkV.set r2 3 (.int .u64 0)
      have rs3 := BlkV.cell r3 3 rfl
      have r4 := BlkV.set r3 4 (.int .i64 0)
      have rs4 := BlkV.cell r4 4 rfl
      refine bodyPost_ret (by simp [results, Tryd.results49, go_sem, rs0, rs1, rs2, rs3, rs4]; try rfl) rfl ?_
      exact ⟨_, rfl, (((((hF).set (by omega)).set (by omega)).set (by omega)).set (by omega)).set (by omega), ⟨0, 0, rfl, by omega, by omega, rfl⟩⟩
  · by_cases ck : k = 0
    · have enb : (!false && k == 0) = true := by simp [ck]
      simp only [enb] at nb
      clear enb
      have HV : Hid (mulV (s, true, n, x) (t, false, k, y) = none) := hid (by simp [mulV, ck])
      rw [HV.out]
      clear HV
      clear tm
      have Hk := hid ck
      clear ck
      have kV : BlkV (((w.alloc (.cells #[.bool s, .bool true, .int .u64 (a), .int .u64 (b), .int .i64 (x)] 65)).alloc (.cells #[.bool t, .bool false, .int .u64 (c), .int .u64 (d), .int .i64 (y)] 65)).alloc (.cells #[.bool false, .bool false, .int .u64 0, .int .u64 0, .int .i64 0] 65)) (w.heap.size) 65 [.bool s, .bool true, .int .u64 (a), .int .u64 (b), .int .i64 (x)] := ((BlkV.made' w (w.heap.size) (by simp) 65 [.bool s, .bool true, .int .u64 (a), .int .u64 (b), .int .i64 (x)]).alloc _).alloc _
      have kW : BlkV (((w.alloc (.cells #[.bool s, .bool true, .int .u64 (a), .int .u64 (b), .int .i64 (x)] 65)).alloc (.cells #[.bool t, .bool false, .int .u64 (c), .int .u64 (d), .int .i64 (y)] 65)).alloc (.cells #[.bool false, .bool false, .int .u64 0, .int .u64 0, .int .i64 0] 65)) (w.heap.size + 1) 65 [.bool t, .bool false, .int .u64 (c), .int .u64 (d), .int .i64 (y)] := (BlkV.made' (w.alloc (.cells #[.bool s, .bool true, .int .u64 (a), .int .u64 (b), .int .i64 (x)] 65)) (w.heap.size + 1) (by simp) 65 [.bool t, .bool false, .int .u64 (c), .int .u64 (d), .int .i64 (y)]).alloc _
      have kR : BlkV (((w.alloc (.cells #[.bool s, .bool true, .int .u64 (a), .int .u64 (b), .int .i64 (x)] 65)).alloc (.cells #[.bool t, .bool false, .int .u64 (c), .int .u64 (d), .int .i64 (y)] 65)).alloc (.cells #[.bool false, .bool false, .int .u64 0, .int .u64 0, .int .i64 0] 65)) (w.heap.size + 1 + 1) 65 [.bool false, .bool false, .int .u64 0, .int .u64 0, .int .i64 0] := BlkV.made' ((w.alloc (.cells #[.bool s, .bool true, .int .u64 (a), .int .u64 (b), .int .i64 (x)] 65)).alloc (.cells #[.bool t, .bool false, .int .u64 (c), .int .u64 (d), .int .i64 (y)] 65)) (w.heap.size + 1 + 1) (by simp) 65 [.bool false, .bool false, .int .u64 0, .int .u64 0, .int .i64 0]
      have hF : Fwd w (((w.alloc (.cells #[.bool s, .bool true, .int .u64 (a), .int .u64 (b), .int .i64 (x)] 65)).alloc (.cells #[.bool t, .bool false, .int .u64 (c), .int .u64 (d), .int .i64 (y)] 65)).alloc (.cells #[.bool false, .bool false, .int .u64 0, .int .u64 0, .int .i64 0] 65)) := (((Fwd.refl w).alloc _).alloc _).alloc _
      go_enter Tryd.func49, Tryd.ntmps49
      have vc0 := BlkV.cell kV 0 rfl
      have vz0 := BlkV.frozen kV 0
      have vc1 := BlkV.cell kV 1 rfl
      have vz1 := BlkV.frozen kV 1
      have vc2 := BlkV.cell kV 2 rfl
      have vz2 := BlkV.frozen kV 2
      have vc3 := BlkV.cell kV 3 rfl
      have vz3 := BlkV.frozen kV 3
      have vc4 := BlkV.cell kV 4 rfl
      have vz4 := BlkV.frozen kV 4
      have wc0 := BlkV.cell kW 0 rfl
      have wz0 := BlkV.frozen kW 0
      have wc1 := BlkV.cell kW 1 rfl
      have wz1 := BlkV.frozen kW 1
      have wc2 := BlkV.cell kW 2 rfl
      have wz2 := BlkV.frozen kW 2
      have wc3 := BlkV.cell kW 3 rfl
      have wz3 := BlkV.frozen kW 3
      have wc4 := BlkV.cell kW 4 rfl
      have wz4 := BlkV.frozen kW 4
      have rc0 := BlkV.cell kR 0 rfl
      have rz0 := BlkV.frozen kR 0
      have rc1 := BlkV.cell kR 1 rfl
      have rz1 := BlkV.frozen kR 1
      have rc2 := BlkV.cell kR 2 rfl
      have rz2 := BlkV.frozen kR 2
      have rc3 := BlkV.cell kR 3 rfl
      have rz3 := BlkV.frozen kR 3
      have rc4 := BlkV.cell kR 4 rfl
      have rz4 := BlkV.frozen kR 4
      go_wp2_with fail
      refine (nb _).mono ?_
      rintro e w1 ⟨rfl, hf1⟩
      replace kV := kV.fwd hf1
      replace kW := kW.fwd hf1
      replace kR := kR.fwd hf1
      replace hF := hF.trans hf1
      clear hf1
      clear vc0 vz0 vc1 vz1 vc2 vz2 vc3 vz3 vc4 vz4
      clear wc0 wz0 wc1 wz1 wc2 wz2 wc3 wz3 wc4 wz4
      clear rc0 rz0 rc1 rz1 rc2 rz2 rc3 rz3 rc4 rz4
      have vc0 := BlkV.cell kV 0 rfl
      have vz0 := BlkV.frozen kV 0
      have vc1 := BlkV.cell kV 1 rfl
      have vz1 := BlkV.frozen kV 1
      have vc2 := BlkV.cell kV 2 rfl
      have vz2 := BlkV.frozen kV 2
      have vc3 := BlkV.cell kV 3 rfl
      have vz3 := BlkV.frozen kV 3
      have vc4 := BlkV.cell kV 4 rfl
      have vz4 := BlkV.frozen kV 4
      have wc0 := BlkV.cell kW 0 rfl
      have wz0 := BlkV.frozen kW 0
      have wc1 := BlkV.cell kW 1 rfl
      have wz1 := BlkV.frozen kW 1
      have wc2 := BlkV.cell kW 2 rfl
      have wz2 := BlkV.frozen kW 2
      have wc3 := BlkV.cell kW 3 rfl
      have wz3 := BlkV.frozen kW 3
      have wc4 := BlkV.cell kW 4 rfl
      have wz4 := BlkV.frozen kW 4
      have rc0 := BlkV.cell kR 0 rfl
      have rz0 := BlkV.frozen kR 0
      have rc1 := BlkV.cell kR 1 rfl
      have rz1 := BlkV.frozen kR 1
      have rc2 := BlkV.cell kR 2 rfl
      have rz2 := BlkV.frozen kR 2
      have rc3 := BlkV.cell kR 3 rfl
      have rz3 := BlkV.frozen kR 3
      have rc4 := BlkV.cell kR 4 rfl
      have rz4 := BlkV.frozen kR 4
      go_wp2
      have r0 := BlkV.set kR 0 (.bool false)
      have rs0 := BlkV.cell r0 0 rfl
      have r1 := BlkV.set r0 1 (.bool false)
      have rs1 := BlkV.cell r1 1 rfl
      have r2 := BlkV.set r1 2 (.int .u64 0)
      have rs2 := BlkV.cell r2 2 rfl
      have r3 := BlkV.set r2 3 (.int .u64 0)
      have rs3 := BlkV.cell r3 3 rfl
      have r4 := BlkV.set r3 4 (.int .i64 0)
      have rs4 := BlkV.cell r4 4 rfl
      refine bodyPost_ret (by simp [results, Tryd.results49, go_sem, rs0, rs1, rs2, rs3, rs4]; try rfl) rfl ?_
      exact ⟨_, rfl, (((((hF).set (by omega)).set (by omega)).set (by omega)).set (by omega)).set (by omega), ⟨0, 0, rfl, by omega, by omega, rfl⟩⟩
    · have enb : (!false && k == 0) = false := by simp [ck]
      simp only [enb] at nb
      clear enb
      have ena : (!true && n == 0) = false := rfl
      simp only [ena] at na
      clear ena
      have HV : Hid (mulV (s, true, n, x) (t, false, k, y) = some (s != t, true, 0, 0)) := hid (by simp [mulV, ck])
      rw [HV.out]
      clear HV
      clear tm
      have Hk := hid ck
      clear ck
      generalize hst : (s != t) = st at *
      have kV : BlkV (((w.alloc (.cells #[.bool s, .bool true, .int .u64 (a), .int .u64 (b), .int .i64 (x)] 65)).alloc (.cells #[.bool t, .bool false, .int .u64 (c), .int .u64 (d), .int .i64 (y)] 65)).alloc (.cells #[.bool false, .bool false, .int .u64 0, .int .u64 0, .int .i64 0] 65)) (w.heap.size) 65 [.bool s, .bool true, .int .u64 (a), .int .u64 (b), .int .i64 (x)] := ((BlkV.made' w (w.heap.size) (by simp) 65 [.bool s, .bool true, .int .u64 (a), .int .u64 (b), .int .i64 (x)]).alloc _).alloc _
      have kW : BlkV (((w.alloc (.cells #[.bool s, .bool true, .int .u64 (a), .int .u64 (b), .int .i64 (x)] 65)).alloc (.cells #[.bool t, .bool false, .int .u64 (c), .int .u64 (d), .int .i64 (y)] 65)).alloc (.cells #[.bool false, .bool false, .int .u64 0, .int .u64 0, .int .i64 0] 65)) (w.heap.size + 1) 65 [.bool t, .bool false, .int .u64 (c), .int .u64 (d), .int .i64 (y)] := (BlkV.made' (w.alloc (.cells #[.bool s, .bool true, .int .u64 (a), .int .u64 (b), .int .i64 (x)] 65)) (w.heap.size + 1) (by simp) 65 [.bool t, .bool false, .int .u64 (c), .int .u64 (d), .int .i64 (y)]).alloc _
      have kR : BlkV (((w.alloc (.cells #[.bool s, .bool true, .int .u64 (a), .int .u64 (b), .int .i64 (x)] 65)).alloc (.cells #[.bool t, .bool false, .int .u64 (c), .int .u64 (d), .int .i64 (y)] 65)).alloc (.cells #[.bool false, .bool false, .int .u64 0, .int .u64 0, .int .i64 0] 65)) (w.heap.size + 1 + 1) 65 [.bool false, .bool false, .int .u64 0, .int .u64 0, .int .i64 0] := BlkV.made' ((w.alloc (.cells #[.bool s, .bool true, .int .u64 (a), .int .u64 (b), .int .i64 (x)] 65)).alloc (.cells #[.bool t, .bool false, .int .u64 (c), .int .u64 (d), .int .i64 (y)] 65)) (w.heap.size + 1 + 1) (by simp) 65 [.bool false, .bool false, .int .u64 0, .int .u64 0, .int .i64 0]
      have hF : Fwd w (((w.alloc (.cells #[.bool s, .bool true, .int .u64 (a), .int .u64 (b), .int .i64 (x)] 65)).alloc (.cells #[.bool t, .bool false, .int .u64 (c), .int .u64 (d), .int .i64 (y)] 65)).alloc (.cells #[.bool false, .bool false, .int .u64 0, .int .u64 0, .int .i64 0] 65)) := (((Fwd.refl w).alloc _).alloc _).alloc _
      go_enter Tryd.func49, Tryd.ntmps49
      have vc0 := BlkV.cell kV 0 rfl
      have vz0 := BlkV.frozen kV 0
      have vc1 := BlkV.cell kV 1 rfl
      have vz1 := BlkV.frozen kV 1
      have vc2 := BlkV.cell kV 2 rfl
      have vz2 := BlkV.frozen kV 2
      have vc3 := BlkV.cell kV 3 rfl
      have vz3 := BlkV.frozen kV 3
      have vc4 := BlkV.cell kV 4 rfl
      have vz4 := BlkV.frozen kV 4
      have wc0 := BlkV.cell kW 0 rfl
      have wz0 := BlkV.frozen kW 0
      have wc1 := BlkV.cell kW 1 rfl
      have wz1 := BlkV.frozen kW 1
      have wc2 := BlkV.cell kW 2 rfl
      have wz2 := BlkV.frozen kW 2
      have wc3 := BlkV.cell kW 3 rfl
      have wz3 := BlkV.frozen kW 3
      have wc4 := BlkV.cell kW 4 rfl
      have wz4 := BlkV.frozen kW 4
      have rc0 := BlkV.cell kR 0 rfl
      have rz0 := BlkV.frozen kR 0
      have rc1 := BlkV.cell kR 1 rfl
      have rz1 := BlkV.frozen kR 1
      have rc2 := BlkV.cell kR 2 rfl
      have rz2 := BlkV.frozen kR 2
      have rc3 := BlkV.cell kR 3 rfl
      have rz3 := BlkV.frozen kR 3
      have rc4 := BlkV.cell kR 4 rfl
      have rz4 := BlkV.frozen kR 4
      go_wp2_with fail
      refine (nb _).mono ?_
      rintro e w1 ⟨rfl, hf1⟩
      replace kV := kV.fwd hf1
      replace kW := kW.fwd hf1
      replace kR := kR.fwd hf1
      replace hF := hF.trans hf1
      clear hf1
      clear vc0 vz0 vc1 vz1 vc2 vz2 vc3 vz3 vc4 vz4
      clear wc0 wz0 wc1 wz1 wc2 wz2 wc3 wz3 wc4 wz4
      clear rc0 rz0 rc1 rz1 rc2 rz2 rc3 rz3 rc4 rz4
      have vc0 := BlkV.cell kV 0 rfl
      have vz0 := BlkV.frozen kV 0
      have vc1 := BlkV.cell kV 1 rfl
      have vz1 := BlkV.frozen kV 1
      have vc2 := BlkV.cell kV 2 rfl
      have vz2 := BlkV.frozen kV 2
      have vc3 := BlkV.cell kV 3 rfl
      have vz3 := BlkV.frozen kV 3
      have vc4 := BlkV.cell kV 4 rfl
      have vz4 := BlkV.frozen kV 4
      have wc0 := BlkV.cell kW 0 rfl
      have wz0 := BlkV.frozen kW 0
      have wc1 := BlkV.cell kW 1 rfl
      have wz1 := BlkV.frozen kW 1
      have wc2 := BlkV.cell kW 2 rfl
      have wz2 := BlkV.frozen kW 2
      have wc3 := BlkV.cell kW 3 rfl
      have wz3 := BlkV.frozen kW 3
      have wc4 := BlkV.cell kW 4 rfl
      have wz4 := BlkV.frozen kW 4
      have rc0 := BlkV.cell kR 0 rfl
      have rz0 := BlkV.frozen kR 0
      have rc1 := BlkV.cell kR 1 rfl
      have rz1 := BlkV.frozen kR 1
      have rc2 := BlkV.cell kR 2 rfl
      have rz2 := BlkV.frozen kR 2
      have rc3 := BlkV.cell kR 3 rfl
      have rz3 := BlkV.frozen kR 3
      have rc4 := BlkV.cell kR 4 rfl
      have rz4 := BlkV.frozen kR 4
      go_wp2_with fail
      refine (na _).mono ?_
      rintro e w2 ⟨rfl, hf2⟩
      replace kV := kV.fwd hf2
      replace kW := kW.fwd hf2
      replace kR := kR.fwd hf2
      replace hF := hF.trans hf2
      clear hf2
      clear vc0 vz0 vc1 vz1 vc2 vz2 vc3 vz3 vc4 vz4
      clear wc0 wz0 wc1 wz1 wc2 wz2 wc3 wz3 wc4 wz4
      clear rc0 rz0 rc1 rz1 rc2 rz2 rc3 rz3 rc4 rz4
      have vc0 := BlkV.cell kV 0 rfl
      have vz0 := BlkV.frozen kV 0
      have vc1 := BlkV.cell kV 1 rfl
      have vz1 := BlkV.frozen kV 1
      have vc2 := BlkV.cell kV 2 rfl
      have vz2 := BlkV.frozen kV 2
      have vc3 := BlkV.cell kV 3 rfl
      have vz3 := BlkV.frozen kV 3
      have vc4 := BlkV.cell kV 4 rfl
      have vz4 := BlkV.frozen kV 4
      have wc0 := BlkV.cell kW 0 rfl
      have wz0 := BlkV.frozen kW 0
      have wc1 := BlkV.cell kW 1 rfl
      have wz1 := BlkV.frozen kW 1
      have wc2 := BlkV.cell kW 2 rfl
      have wz2 := BlkV.frozen kW 2
      have wc3 := BlkV.cell kW 3 rfl
      have wz3 := BlkV.frozen kW 3
      have wc4 := BlkV.cell kW 4 rfl
      have wz4 := BlkV.frozen kW 4
      have rc0 := BlkV.cell kR 0 rfl
      have rz0 := BlkV.frozen kR 0
      have rc1 := BlkV.cell kR 1 rfl
      have rz1 := BlkV.frozen kR 1
      have rc2 := BlkV.cell kR 2 rfl
      have rz2 := BlkV.frozen kR 2
      have rc3 := BlkV.cell kR 3 rfl
      have rz3 := BlkV.frozen kR 3
      have rc4 := BlkV.cell kR 4 rfl
      have rz4 := BlkV.frozen kR 4
      go_wp2
      have r0 := BlkV.set kR 0 (.bool st)
      have rs0 := BlkV.cell r0 0 rfl
      have r1 := BlkV.set r0 1 (.bool true)
      have rs1 := BlkV.cell r1 1 rfl
      have r2 := BlkV.set r1 2 (.int .u64 0)
      have rs2 := BlkV.cell r2 2 rfl
      have r3 := BlkV.set r2 3 (.int .u64 0)
      have rs3 := BlkV.cell r3 3 rfl
      have r4 := BlkV.set r3 4 (.int .i64 0)
      have rs4 := BlkV.cell r4 4 rfl
      refine bodyPost_ret (by simp [results, Tryd.results49, go_sem, rs0, rs1, rs2, rs3, rs4]; try rfl) rfl ?_
      exact ⟨_, rfl, (((((hF).set (by omega)).set (by omega)).set (by omega)).set (by omega)).set (by omega), ⟨0, 0, rfl, by omega, by omega, rfl⟩⟩
  · have enb : (!true && k == 0) = false := rfl
    simp only [enb] at nb
    clear enb
    have ena : (!true && n == 0) = false := rfl
    simp only [ena] at na
    clear ena
    have HV : Hid (mulV (s, true, n, x) (t, true, k, y) = some (s != t, true, 0, 0)) := hid (by simp [mulV])
    rw [HV.out]
    clear HV
    clear tm
    generalize hst : (s != t) = st at *
    have kV : BlkV (((w.alloc (.cells #[.bool s, .bool true, .int .u64 (a), .int .u64 (b), .int .i64 (x)] 65)).alloc (.cells #[.bool t, .bool true, .int .u64 (c), .int .u64 (d), .int .i64 (y)] 65)).alloc (.cells #[.bool false, .bool false, .int .u64 0, .int .u64 0, .int .i64 0] 65)) (w.heap.size) 65 [.bool s, .bool true, .int .u64 (a), .int .u64 (b), .int .i64 (x)] := ((BlkV.made' w (w.heap.size) (by simp) 65 [.bool s, .bool true, .int .u64 (a), .int .u64 (b), .int .i64 (x)]).alloc _).alloc _
    have kW : BlkV (((w.alloc (.cells #[.bool s, .bool true, .int .u64 (a), .int .u64 (b), .int .i64 (x)] 65)).alloc (.cells #[.bool t, .bool true, .int .u64 (c), .int .u64 (d), .int .i64 (y)] 65)).alloc (.cells #[.bool false, .bool false, .int .u64 0, .int .u64 0, .int .i64 0] 65)) (w.heap.size + 1) 65 [.bool t, .bool true, .int .u64 (c), .int .u64 (d), .int .i64 (y)] := (BlkV.made' (w.alloc (.cells #[.bool s, .bool true, .int .u64 (a), .int .u64 (b), .int .i64 (x)] 65)) (w.heap.size + 1) (by simp) 65 [.bool t, .bool true, .int .u64 (c), .int .u64 (d), .int .i64 (y)]).alloc _
    have kR : BlkV (((w.alloc (.cells #[.bool s, .bool true, .int .u64 (a), .int .u64 (b), .int .i64 (x)] 65)).alloc (.cells #[.bool t, .bool true, .int .u64 (c), .int .u64 (d), .int .i64 (y)] 65)).alloc (.cells #[.bool false, .bool false, .int .u64 0, .int .u64 0, .int .i64 0] 65)) (w.heap.size + 1 + 1) 65 [.bool false, .bool false, .int .u64 0, .int .u64 0, .int .i64 0] := BlkV.made' ((w.alloc (.cells #[.bool s, .bool true, .int .u64 (a), .int .u64 (b), .int .i64 (x)] 65)).alloc (.cells #[.bool t, .bool true, .int .u64 (c), .int .u64 (d), .int .i64 (y)] 65)) (w.heap.size + 1 + 1) (by simp) 65 [.bool false, .bool false, .int .u64 0, .int .u64 0, .int .i64 0]
    have hF : Fwd w (((w.alloc (.cells #[.bool s, .bool true, .int .u64 (a), .int .u64 (b), .int .i64 (x)] 65)).alloc (.cells #[.bool t, .bool true, .int .u64 (c), .int .u64 (d), .int .i64 (y)] 65)).alloc (.cells #[.bool false, .bool false, .int .u64 0, .int .u64 0, .int .i64 0] 65)) := (((Fwd.refl w).alloc _).alloc _).alloc _
    go_enter Tryd.func49, Tryd.ntmps49
    have vc0 := BlkV.cell kV 0 rfl
    have vz0 := BlkV.frozen kV 0
    have vc1 := BlkV.cell kV 1 rfl
    have vz1 := BlkV.frozen kV 1
    have vc2 := BlkV.cell kV 2 rfl
    have vz2 := BlkV.frozen kV 2
    have vc3 := BlkV.cell kV 3 rfl
    have vz3 := BlkV.frozen kV 3
    have vc4 := BlkV.cell kV 4 rfl
    have vz4 := BlkV.frozen kV 4
    have wc0 := BlkV.cell kW 0 rfl
    have wz0 := BlkV.frozen kW 0
    have wc1 := BlkV.cell kW 1 rfl
    have wz1 := BlkV.frozen kW 1
    have wc2 := BlkV.cell kW 2 rfl
    have wz2 := BlkV.frozen kW 2
    have wc3 := BlkV.cell kW 3 rfl
    have wz3 := BlkV.frozen kW 3
    have wc4 := BlkV.cell kW 4 rfl
    have wz4 := BlkV.frozen kW 4
    have rc0 := BlkV.cell kR 0 rfl
    have rz0 := BlkV.frozen kR 0
    have rc1 := BlkV.cell kR 1 rfl
    have rz1 := BlkV.frozen kR 1
    have rc2 := BlkV.cell kR 2 rfl
    have rz2 := BlkV.frozen kR 2
    have rc3 := BlkV.cell kR 3 rfl
    have rz3 := BlkV.frozen kR 3
    have rc4 := BlkV.cell kR 4 rfl
    have rz4 := BlkV.frozen kR 4
    go_wp2_with fail
    refine (nb _).mono ?_
    rintro e w1 ⟨rfl, hf1⟩
    replace kV := kV.fwd hf1
    replace kW := kW.fwd hf1
    replace kR := kR.fwd hf1
    replace hF := hF.trans hf1
    clear hf1
    clear vc0 vz0 vc1 vz1 vc2 vz2 vc3 vz3 vc4 vz4
    clear wc0 wz0 wc1 wz1 wc2 wz2 wc3 wz3 wc4 wz4
    clear rc0 rz0 rc1 rz1 rc2 rz2 rc3 rz3 rc4 rz4
    have vc0 := BlkV.cell kV 0 rfl
    have vz0 := BlkV.frozen kV 0
    have vc1 := BlkV.cell kV 1 rfl
    have vz1 := BlkV.frozen kV 1
    have vc2 := BlkV.cell kV 2 rfl
    have vz2 := BlkV.frozen kV 2
    have vc3 := BlkV.cell kV 3 rfl
    have vz3 := BlkV.frozen kV 3
    have vc4 := BlkV.cell kV 4 rfl
    have vz4 := BlkV.frozen kV 4
    have wc0 := BlkV.cell kW 0 rfl
    have wz0 := BlkV.frozen kW 0
    have wc1 := BlkV.cell kW 1 rfl
    have wz1 := BlkV.frozen kW 1
    have wc2 := BlkV.cell kW 2 rfl
    have wz2 := BlkV.frozen kW 2
    have wc3 := BlkV.cell kW 3 rfl
    have wz3 := BlkV.frozen kW 3
    have wc4 := BlkV.cell kW 4 rfl
    have wz4 := BlkV.frozen kW 4
    have rc0 := BlkV.cell kR 0 rfl
    have rz0 := BlkV.frozen kR 0
    have rc1 := BlkV.cell kR 1 rfl
    have rz1 := BlkV.frozen kR 1
    have rc2 := BlkV.cell kR 2 rfl
    have rz2 := BlkV.frozen kR 2
    have rc3 := BlkV.cell kR 3 rfl
    have rz3 := BlkV.frozen kR 3
    have rc4 := BlkV.cell kR 4 rfl
    have rz4 := BlkV.frozen kR 4
    go_wp2_with fail
    refine (na _).mono ?_
    rintro e w2 ⟨rfl, hf2⟩
    replace kV := kV.fwd hf2
    replace kW := kW.fwd hf2
    replace kR := kR.fwd hf2
    replace hF := hF.trans hf2
    clear hf2
    clear vc0 vz0 vc1 vz1 vc2 vz2 vc3 vz3 vc4 vz4
    clear wc0 wz0 wc1 wz1 wc2 wz2 wc3 wz3 wc4 wz4
    clear rc0 rz0 rc1 rz1 rc2 rz2 rc3 rz3 rc4 rz4
    have vc0 := BlkV.cell kV 0 rfl
    have vz0 := BlkV.frozen kV 0
    have vc1 := BlkV.cell kV 1 rfl
    have vz1 := BlkV.frozen kV 1
    have vc2 := BlkV.cell kV 2 rfl
    have vz2 := BlkV.frozen kV 2
    have vc3 := BlkV.cell kV 3 rfl
    have vz3 := BlkV.frozen kV 3
    have vc4 := BlkV.cell kV 4 rfl
    have vz4 := BlkV.frozen kV 4
    have wc0 := BlkV.cell kW 0 rfl
    have wz0 := BlkV.frozen kW 0
    have wc1 := BlkV.cell kW 1 rfl
    have wz1 := BlkV.frozen kW 1
    have wc2 := BlkV.cell kW 2 rfl
    have wz2 := BlkV.frozen kW 2
    have wc3 := BlkV.cell kW 3 rfl
    have wz3 := BlkV.frozen kW 3
    have wc4 := BlkV.cell kW 4 rfl
    have wz4 := BlkV.frozen kW 4
    have rc0 := BlkV.cell kR 0 rfl
    have rz0 := BlkV.frozen kR 0
    have rc1 := BlkV.cell kR 1 rfl
    have rz1 := BlkV.frozen kR 1
    have rc2 := BlkV.cell kR 2 rfl
    have rz2 := BlkV.frozen kR 2
    have rc3 := BlkV.cell kR 3 rfl
    have rz3 := BlkV.frozen kR 3
    have rc4 := BlkV.cell kR 4 rfl
    have rz4 := BlkV.frozen kR 4
    go_wp2
    have r0 := BlkV.set kR 0 (.bool st)
    have rs0 := BlkV.cell r0 0 rfl
    have r1 := BlkV.set r0 1 (.bool true)
    have rs1 := BlkV.cell r1 1 rfl
    have r2 := BlkV.set r1 2 (.int .u64 0)
    have rs2 := BlkV.cell r2 2 rfl
    have r3 := BlkV.set r2 3 (.int .u64 0)
    have rs3 := BlkV.cell r3 3 rfl
    have r4 := BlkV.set r3 4 (.int .i64 0)
    have rs4 := BlkV.cell r4 4 rfl
    refine bodyPost_ret (by simp [results, Tryd.results49, go_sem, rs0, rs1, rs2, rs3, rs4]; try rfl) rfl ?_
    exact ⟨_, rfl, (((((hF).set (by omega)).set (by omega)).set (by omega)).set (by omega)).set (by omega), ⟨0, 0, rfl, by omega, by omega, rfl⟩⟩
end Go.Proofs.YtbhehgodnfcdgaaDoor
