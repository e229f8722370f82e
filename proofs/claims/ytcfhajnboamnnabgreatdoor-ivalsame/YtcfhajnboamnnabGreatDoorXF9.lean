/- sfloat's plus. -/
import Derived.Test.YtcfhajnboamnnabGreatDoorYXFM
namespace Go.Proofs.YtcfhajnboamnnabGreatDoor
open Go.RowKit
set_option linter.unusedVariables false

/-- A value's parts, told together. -/
def VT (v : Value) (t : Bool × Bool × Nat × Int) : Prop := VV v t.1 t.2.1 t.2.2.1 t.2.2.2

theorem BlkV.on {w : World} {g : Nat} {T : TypeId} {cs : List Value} (h : BlkV w g T cs) (i : Nat) (v : Value) : Only g w (w.setCell ⟨g, i, none⟩ v) := Only.set g w i v

theorem wdown_to {w : World} {v : Value} {n k : Nat} {y : Int} (h : WV v n) (hk : k ≤ 9000000000000000000) (hy : y = (k : Int)) : Calls Tryz.prog 114 #[v, .int .i64 y] w fun e w' => ∃ x, e = .returned x ∧ WV x (dn n k) ∧ Fwd w w' := by
  subst hy; exact wdown_any h hk

theorem lifted1_any {w : World} {v : Value} {s en : Bool} {n : Nat} {x : Int} (h : VV v s en n x) (hn : n ≠ 0) (hb : blen n ≤ 127) (hx1 : -1000000 ≤ x) (hx2 : x ≤ 1000000) :
    Calls Tryz.prog 113 #[v, .int .i64 1] w fun e w' => ∃ u, e = .returned u ∧ Fwd w w' ∧ VV u s en (n * 2 ^ lsh n 1) (x - lsh n 1) :=
  lifted_any (r := 1) h hn (by omega) hx1 hx2

theorem lift1_lt {n : Nat} (h : n ≠ 0) (hb : blen n ≤ 127) : n * 2 ^ lsh n 1 < 170141183460469231731687303715884105728 := by
  have h1 := lt_blen n
  have h2 : n * 2 ^ lsh n 1 < 2 ^ blen n * 2 ^ lsh n 1 := Nat.mul_lt_mul_of_pos_right h1 (Nat.two_pow_pos _)
  rw [← Nat.pow_add] at h2
  have h3 : 2 ^ (blen n + lsh n 1) ≤ 2 ^ 127 := Nat.pow_le_pow_right (by omega) (by unfold lsh; omega)
  exact Nat.lt_of_lt_of_le h2 h3

theorem dn_le {n k : Nat} (h : n < 170141183460469231731687303715884105728) : dn n k < 170141183460469231731687303715884105728 :=
  dn_lt (j := 127) (by omega) (Nat.lt_of_lt_of_le h (Nat.pow_le_pow_right (n := 2) (i := 127) (by omega) (by omega)))

set_option maxHeartbeats 8000000 in
set_option maxRecDepth 100000 in
theorem plus_any {w : World} {u v : Value} {s t : Bool} {n k : Nat} {x y : Int} (h : VV u s false n x) (g : VV v t false k y) (hn : blen n ≤ 127) (hk : blen k ≤ 127) (hx1 : -100000 ≤ x) (hx2 : x ≤ 100000) (hy1 : -100000 ≤ y) (hy2 : y ≤ 100000) :
    Calls Tryz.prog 134 #[u, v] w fun e w' => ∃ r, e = .returned r ∧ Fwd w w' ∧ VT r (plusV (s, false, n, x) (t, false, k, y)) := by
  have i1 := fun w => visNought_any (w := w) h
  have i2 := fun w => visNought_any (w := w) g
  have q1 := fun w hn0 => lifted1_any (w := w) h hn0 hn (by omega) (by omega)
  have q2 := fun w hk0 => lifted1_any (w := w) g hk0 hk (by omega) (by omega)
  obtain ⟨a, b, rfl, h1, h2, hab⟩ := h
  obtain ⟨c, d, rfl, g1, g2, hcd⟩ := g
  have HAB := hid (And.intro hab hcd)
  clear hab hcd
  by_cases c0 : n = 0
  · have e0 : (!false && n == 0) = true := by simp [c0]
    simp only [e0] at i1
    have HP : Hid (plusV (s, false, n, x) (t, false, k, y) = (t, false, k, y)) := hid (plusV_sign0 _ _ c0)
    clear e0 c0 q1 q2 i2
    have kV : BlkV (((w.alloc (.cells #[.bool s, .bool false, .int .u64 (a), .int .u64 (b), .int .i64 (x)] 107)).alloc (.cells #[.bool t, .bool false, .int .u64 (c), .int .u64 (d), .int .i64 (y)] 107)).alloc (.cells #[.bool false, .bool false, .int .u64 0, .int .u64 0, .int .i64 0] 107)) (w.heap.size) 107 [.bool s, .bool false, .int .u64 (a), .int .u64 (b), .int .i64 (x)] := ((BlkV.made' w (w.heap.size) (by simp) 107 [.bool s, .bool false, .int .u64 (a), .int .u64 (b), .int .i64 (x)]).alloc _).alloc _
    have kW : BlkV (((w.alloc (.cells #[.bool s, .bool false, .int .u64 (a), .int .u64 (b), .int .i64 (x)] 107)).alloc (.cells #[.bool t, .bool false, .int .u64 (c), .int .u64 (d), .int .i64 (y)] 107)).alloc (.cells #[.bool false, .bool false, .int .u64 0, .int .u64 0, .int .i64 0] 107)) (w.heap.size + 1) 107 [.bool t, .bool false, .int .u64 (c), .int .u64 (d), .int .i64 (y)] := (BlkV.made' (w.alloc (.cells #[.bool s, .bool false, .int .u64 (a), .int .u64 (b), .int .i64 (x)] 107)) (w.heap.size + 1) (by simp) 107 [.bool t, .bool false, .int .u64 (c), .int .u64 (d), .int .i64 (y)]).alloc _
    have kR : BlkV (((w.alloc (.cells #[.bool s, .bool false, .int .u64 (a), .int .u64 (b), .int .i64 (x)] 107)).alloc (.cells #[.bool t, .bool false, .int .u64 (c), .int .u64 (d), .int .i64 (y)] 107)).alloc (.cells #[.bool false, .bool false, .int .u64 0, .int .u64 0, .int .i64 0] 107)) (w.heap.size + 1 + 1) 107 [.bool false, .bool false, .int .u64 0, .int .u64 0, .int .i64 0] := BlkV.made' ((w.alloc (.cells #[.bool s, .bool false, .int .u64 (a), .int .u64 (b), .int .i64 (x)] 107)).alloc (.cells #[.bool t, .bool false, .int .u64 (c), .int .u64 (d), .int .i64 (y)] 107)) (w.heap.size + 1 + 1) (by simp) 107 [.bool false, .bool false, .int .u64 0, .int .u64 0, .int .i64 0]
    have hF : Fwd w (((w.alloc (.cells #[.bool s, .bool false, .int .u64 (a), .int .u64 (b), .int .i64 (x)] 107)).alloc (.cells #[.bool t, .bool false, .int .u64 (c), .int .u64 (d), .int .i64 (y)] 107)).alloc (.cells #[.bool false, .bool false, .int .u64 0, .int .u64 0, .int .i64 0] 107)) := (((Fwd.refl w).alloc _).alloc _).alloc _
    go_enter Tryz.func134, Tryz.ntmps134
    go_wp2_with fail
    refine (i1 _).mono ?_
    rintro e w1 ⟨rfl, hf1⟩
    replace kV := kV.fwd hf1
    replace kW := kW.fwd hf1
    replace kR := kR.fwd hf1
    replace hF := hF.trans hf1
    clear hf1
    have vc0 := BlkV.cell kV 0 rfl
    have vz0 := BlkV.frozen kV 0
    have vc1 := BlkV.cell kV 1 rfl
    have vz1 := BlkV.frozen kV 1
    have vc2 := BlkV.cell kV 2 rfl
    have vz2 := BlkV.frozen kV 2
    have vc3 := BlkV.cell kV 3 rfl
    have vz3 := BlkV.frozen kV 3
    have vc4 := BlkV.cell kV 4 rfl
    have vz4 := BlkV.frozen kV 4
    have wc0 := BlkV.cell kW 0 rfl
    have wz0 := BlkV.frozen kW 0
    have wc1 := BlkV.cell kW 1 rfl
    have wz1 := BlkV.frozen kW 1
    have wc2 := BlkV.cell kW 2 rfl
    have wz2 := BlkV.frozen kW 2
    have wc3 := BlkV.cell kW 3 rfl
    have wz3 := BlkV.frozen kW 3
    have wc4 := BlkV.cell kW 4 rfl
    have wz4 := BlkV.frozen kW 4
    have rc0 := BlkV.cell kR 0 rfl
    have rz0 := BlkV.frozen kR 0
    have rc1 := BlkV.cell kR 1 rfl
    have rz1 := BlkV.frozen kR 1
    have rc2 := BlkV.cell kR 2 rfl
    have rz2 := BlkV.frozen kR 2
    have rc3 := BlkV.cell kR 3 rfl
    have rz3 := BlkV.frozen kR 3
    have rc4 := BlkV.cell kR 4 rfl
    have rz4 := BlkV.frozen kR 4
    go_wp2
    have r0 := BlkV.set kR 0 (.bool t)
    have rs0 := BlkV.cell r0 0 rfl
    have r1 := BlkV.set r0 1 (.bool false)
    have rs1 := BlkV.cell r1 1 rfl
    have r2 := BlkV.set r1 2 (.int .u64 (c))
    have rs2 := BlkV.cell r2 2 rfl
    have r3 := BlkV.set r2 3 (.int .u64 (d))
    have rs3 := BlkV.cell r3 3 rfl
    have r4 := BlkV.set r3 4 (.int .i64 (y))
    have rs4 := BlkV.cell r4 4 rfl
    refine bodyPost_ret (by simp [results, Tryz.results134, go_sem, rs0, rs1, rs2, rs3, rs4]; try rfl) rfl ?_
    exact ⟨_, rfl, (((((hF).set (by omega)).set (by omega)).set (by omega)).set (by omega)).set (by omega), (by rw [HP.out]; exact ⟨c, d, rfl, g1, g2, HAB.out.2⟩)⟩
  · have e0 : (!false && n == 0) = false := by simp [c0]
    simp only [e0] at i1
    replace q1 := fun w => q1 w c0
    clear e0
    by_cases c1 : k = 0
    · have e0 : (!false && k == 0) = true := by simp [c1]
      simp only [e0] at i2
      have HP : Hid (plusV (s, false, n, x) (t, false, k, y) = (s, false, n, x)) := hid (by unfold plusV; rw [if_neg c0, if_pos c1])
      clear e0 c0 c1 q1 q2
      have kV : BlkV (((w.alloc (.cells #[.bool s, .bool false, .int .u64 (a), .int .u64 (b), .int .i64 (x)] 107)).alloc (.cells #[.bool t, .bool false, .int .u64 (c), .int .u64 (d), .int .i64 (y)] 107)).alloc (.cells #[.bool false, .bool false, .int .u64 0, .int .u64 0, .int .i64 0] 107)) (w.heap.size) 107 [.bool s, .bool false, .int .u64 (a), .int .u64 (b), .int .i64 (x)] := ((BlkV.made' w (w.heap.size) (by simp) 107 [.bool s, .bool false, .int .u64 (a), .int .u64 (b), .int .i64 (x)]).alloc _).alloc _
      have kW : BlkV (((w.alloc (.cells #[.bool s, .bool false, .int .u64 (a), .int .u64 (b), .int .i64 (x)] 107)).alloc (.cells #[.bool t, .bool false, .int .u64 (c), .int .u64 (d), .int .i64 (y)] 107)).alloc (.cells #[.bool false, .bool false, .int .u64 0, .int .u64 0, .int .i64 0] 107)) (w.heap.size + 1) 107 [.bool t, .bool false, .int .u64 (c), .int .u64 (d), .int .i64 (y)] := (BlkV.made' (w.alloc (.cells #[.bool s, .bool false, .int .u64 (a), .int .u64 (b), .int .i64 (x)] 107)) (w.heap.size + 1) (by simp) 107 [.bool t, .bool false, .int .u64 (c), .int .u64 (d), .int .i64 (y)]).alloc _
      have kR : BlkV (((w.alloc (.cells #[.bool s, .bool false, .int .u64 (a), .int .u64 (b), .int .i64 (x)] 107)).alloc (.cells #[.bool t, .bool false, .int .u64 (c), .int .u64 (d), .int .i64 (y)] 107)).alloc (.cells #[.bool false, .bool false, .int .u64 0, .int .u64 0, .int .i64 0] 107)) (w.heap.size + 1 + 1) 107 [.bool false, .bool false, .int .u64 0, .int .u64 0, .int .i64 0] := BlkV.made' ((w.alloc (.cells #[.bool s, .bool false, .int .u64 (a), .int .u64 (b), .int .i64 (x)] 107)).alloc (.cells #[.bool t, .bool false, .int .u64 (c), .int .u64 (d), .int .i64 (y)] 107)) (w.heap.size + 1 + 1) (by simp) 107 [.bool false, .bool false, .int .u64 0, .int .u64 0, .int .i64 0]
      have hF : Fwd w (((w.alloc (.cells #[.bool s, .bool false, .int .u64 (a), .int .u64 (b), .int .i64 (x)] 107)).alloc (.cells #[.bool t, .bool false, .int .u64 (c), .int .u64 (d), .int .i64 (y)] 107)).alloc (.cells #[.bool false, .bool false, .int .u64 0, .int .u64 0, .int .i64 0] 107)) := (((Fwd.refl w).alloc _).alloc _).alloc _
      go_enter Tryz.func134, Tryz.ntmps134
      go_wp2_with fail
      refine (i1 _).mono ?_
      rintro e w1 ⟨rfl, hf1⟩
      replace kV := kV.fwd hf1
      replace kW := kW.fwd hf1
      replace kR := kR.fwd hf1
      replace hF := hF.trans hf1
      clear hf1
      have vc0 := BlkV.cell kV 0 rfl
      have vz0 := BlkV.frozen kV 0
      have vc1 := BlkV.cell kV 1 rfl
      have vz1 := BlkV.frozen kV 1
      have vc2 := BlkV.cell kV 2 rfl
      have vz2 := BlkV.frozen kV 2
      have vc3 := BlkV.cell kV 3 rfl
      have vz3 := BlkV.frozen kV 3
      have vc4 := BlkV.cell kV 4 rfl
      have vz4 := BlkV.frozen kV 4
      have wc0 := BlkV.cell kW 0 rfl
      have wz0 := BlkV.frozen kW 0
      have wc1 := BlkV.cell kW 1 rfl
      have wz1 := BlkV.frozen kW 1
      have wc2 := BlkV.cell kW 2 rfl
      have wz2 := BlkV.frozen kW 2
      have wc3 := BlkV.cell kW 3 rfl
      have wz3 := BlkV.frozen kW 3
      have wc4 := BlkV.cell kW 4 rfl
      have wz4 := BlkV.frozen kW 4
      have rc0 := BlkV.cell kR 0 rfl
      have rz0 := BlkV.frozen kR 0
      have rc1 := BlkV.cell kR 1 rfl
      have rz1 := BlkV.frozen kR 1
      have rc2 := BlkV.cell kR 2 rfl
      have rz2 := BlkV.frozen kR 2
      have rc3 := BlkV.cell kR 3 rfl
      have rz3 := BlkV.frozen kR 3
      have rc4 := BlkV.cell kR 4 rfl
      have rz4 := BlkV.frozen kR 4
      go_wp2_with fail
      refine (i2 _).mono ?_
      rintro e w2 ⟨rfl, hf2⟩
      replace kV := kV.fwd hf2
      replace kW := kW.fwd hf2
      replace kR := kR.fwd hf2
      replace hF := hF.trans hf2
      clear hf2
      clear vc0 vz0 vc1 vz1 vc2 vz2 vc3 vz3 vc4 vz4
      clear wc0 wz0 wc1 wz1 wc2 wz2 wc3 wz3 wc4 wz4
      clear rc0 rz0 rc1 rz1 rc2 rz2 rc3 rz3 rc4 rz4
      have vc0 := BlkV.cell kV 0 rfl
      have vz0 := BlkV.frozen kV 0
      have vc1 := BlkV.cell kV 1 rfl
      have vz1 := BlkV.frozen kV 1
      have vc2 := BlkV.cell kV 2 rfl
      have vz2 := BlkV.frozen kV 2
      have vc3 := BlkV.cell kV 3 rfl
      have vz3 := BlkV.frozen kV 3
      have vc4 := BlkV.cell kV 4 rfl
      have vz4 := BlkV.frozen kV 4
      have wc0 := BlkV.cell kW 0 rfl
      have wz0 := BlkV.frozen kW 0
      have wc1 := BlkV.cell kW 1 rfl
      have wz1 := BlkV.frozen kW 1
      have wc2 := BlkV.cell kW 2 rfl
      have wz2 := BlkV.frozen kW 2
      have wc3 := BlkV.cell kW 3 rfl
      have wz3 := BlkV.frozen kW 3
      have wc4 := BlkV.cell kW 4 rfl
      have wz4 := BlkV.frozen kW 4
      have rc0 := BlkV.cell kR 0 rfl
      have rz0 := BlkV.frozen kR 0
      have rc1 := BlkV.cell kR 1 rfl
      have rz1 := BlkV.frozen kR 1
      have rc2 := BlkV.cell kR 2 rfl
      have rz2 := BlkV.frozen kR 2
      have rc3 := BlkV.cell kR 3 rfl
      have rz3 := BlkV.frozen kR 3
      have rc4 := BlkV.cell kR 4 rfl
      have rz4 := BlkV.frozen kR 4
      go_wp2
      have r0 := BlkV.set kR 0 (.bool s)
      have rs0 := BlkV.cell r0 0 rfl
      have r1 := BlkV.set r0 1 (.bool false)
      have rs1 := BlkV.cell r1 1 rfl
      have r2 := BlkV.set r1 2 (.int .u64 (a))
      have rs2 := BlkV.cell r2 2 rfl
      have r3 := BlkV.set r2 3 (.int .u64 (b))
      have rs3 := BlkV.cell r3 3 rfl
      have r4 := BlkV.set r3 4 (.int .i64 (x))
      have rs4 := BlkV.cell r4 4 rfl
      refine bodyPost_ret (by simp [results, Tryz.results134, go_sem, rs0, rs1, rs2, rs3, rs4]; try rfl) rfl ?_
      exact ⟨_, rfl, (((((hF).set (by omega)).set (by omega)).set (by omega)).set (by omega)).set (by omega), (by rw [HP.out]; exact ⟨a, b, rfl, h1, h2, HAB.out.1⟩)⟩
    · have e0 : (!false && k == 0) = false := by simp [c1]
      simp only [e0] at i2
      replace q2 := fun w => q2 w c1
      clear e0
      have l1 : lsh n 1 ≤ 127 := by unfold lsh; omega
      have l2 : lsh k 1 ≤ 127 := by unfold lsh; omega
      have HL := hid (And.intro (lift1_lt c0 hn) (lift1_lt c1 hk))
      have HP : Hid (plusV (s, false, n, x) (t, false, k, y) = if x - (lsh n 1 : Int) < y - (lsh k 1 : Int) then pl2 t (k * 2 ^ lsh k 1) (y - (lsh k 1 : Int)) s (n * 2 ^ lsh n 1) (x - (lsh n 1 : Int)) else pl2 s (n * 2 ^ lsh n 1) (x - (lsh n 1 : Int)) t (k * 2 ^ lsh k 1) (y - (lsh k 1 : Int))) := hid (by unfold plusV; rw [if_neg c0, if_neg c1])
      have y1 : -101000 ≤ x - (lsh n 1 : Int) := by omega
      have y2 : x - (lsh n 1 : Int) ≤ 100000 := by omega
      have y3 : -101000 ≤ y - (lsh k 1 : Int) := by omega
      have y4 : y - (lsh k 1 : Int) ≤ 100000 := by omega
      generalize plusV (s, false, n, x) (t, false, k, y) = P at *
      generalize x - (lsh n 1 : Int) = xa at *
      generalize y - (lsh k 1 : Int) = xb at *
      generalize n * 2 ^ lsh n 1 = A at *
      generalize k * 2 ^ lsh k 1 = B at *
      clear HAB c0 c1 l1 l2 hn hk
      have kV : BlkV (((w.alloc (.cells #[.bool s, .bool false, .int .u64 (a), .int .u64 (b), .int .i64 (x)] 107)).alloc (.cells #[.bool t, .bool false, .int .u64 (c), .int .u64 (d), .int .i64 (y)] 107)).alloc (.cells #[.bool false, .bool false, .int .u64 0, .int .u64 0, .int .i64 0] 107)) (w.heap.size) 107 [.bool s, .bool false, .int .u64 (a), .int .u64 (b), .int .i64 (x)] := ((BlkV.made' w (w.heap.size) (by simp) 107 [.bool s, .bool false, .int .u64 (a), .int .u64 (b), .int .i64 (x)]).alloc _).alloc _
      have kW : BlkV (((w.alloc (.cells #[.bool s, .bool false, .int .u64 (a), .int .u64 (b), .int .i64 (x)] 107)).alloc (.cells #[.bool t, .bool false, .int .u64 (c), .int .u64 (d), .int .i64 (y)] 107)).alloc (.cells #[.bool false, .bool false, .int .u64 0, .int .u64 0, .int .i64 0] 107)) (w.heap.size + 1) 107 [.bool t, .bool false, .int .u64 (c), .int .u64 (d), .int .i64 (y)] := (BlkV.made' (w.alloc (.cells #[.bool s, .bool false, .int .u64 (a), .int .u64 (b), .int .i64 (x)] 107)) (w.heap.size + 1) (by simp) 107 [.bool t, .bool false, .int .u64 (c), .int .u64 (d), .int .i64 (y)]).alloc _
      have kR : BlkV (((w.alloc (.cells #[.bool s, .bool false, .int .u64 (a), .int .u64 (b), .int .i64 (x)] 107)).alloc (.cells #[.bool t, .bool false, .int .u64 (c), .int .u64 (d), .int .i64 (y)] 107)).alloc (.cells #[.bool false, .bool false, .int .u64 0, .int .u64 0, .int .i64 0] 107)) (w.heap.size + 1 + 1) 107 [.bool false, .bool false, .int .u64 0, .int .u64 0, .int .i64 0] := BlkV.made' ((w.alloc (.cells #[.bool s, .bool false, .int .u64 (a), .int .u64 (b), .int .i64 (x)] 107)).alloc (.cells #[.bool t, .bool false, .int .u64 (c), .int .u64 (d), .int .i64 (y)] 107)) (w.heap.size + 1 + 1) (by simp) 107 [.bool false, .bool false, .int .u64 0, .int .u64 0, .int .i64 0]
      have hF : Fwd w (((w.alloc (.cells #[.bool s, .bool false, .int .u64 (a), .int .u64 (b), .int .i64 (x)] 107)).alloc (.cells #[.bool t, .bool false, .int .u64 (c), .int .u64 (d), .int .i64 (y)] 107)).alloc (.cells #[.bool false, .bool false, .int .u64 0, .int .u64 0, .int .i64 0] 107)) := (((Fwd.refl w).alloc _).alloc _).alloc _
      go_enter Tryz.func134, Tryz.ntmps134
      go_wp2_with fail
      refine (i1 _).mono ?_
      rintro e w1 ⟨rfl, hf1⟩
      replace kV := kV.fwd hf1
      replace kW := kW.fwd hf1
      replace kR := kR.fwd hf1
      replace hF := hF.trans hf1
      clear hf1
      have vc0 := BlkV.cell kV 0 rfl
      have vz0 := BlkV.frozen kV 0
      have vc1 := BlkV.cell kV 1 rfl
      have vz1 := BlkV.frozen kV 1
      have vc2 := BlkV.cell kV 2 rfl
      have vz2 := BlkV.frozen kV 2
      have vc3 := BlkV.cell kV 3 rfl
      have vz3 := BlkV.frozen kV 3
      have vc4 := BlkV.cell kV 4 rfl
      have vz4 := BlkV.frozen kV 4
      have wc0 := BlkV.cell kW 0 rfl
      have wz0 := BlkV.frozen kW 0
      have wc1 := BlkV.cell kW 1 rfl
      have wz1 := BlkV.frozen kW 1
      have wc2 := BlkV.cell kW 2 rfl
      have wz2 := BlkV.frozen kW 2
      have wc3 := BlkV.cell kW 3 rfl
      have wz3 := BlkV.frozen kW 3
      have wc4 := BlkV.cell kW 4 rfl
      have wz4 := BlkV.frozen kW 4
      have rc0 := BlkV.cell kR 0 rfl
      have rz0 := BlkV.frozen kR 0
      have rc1 := BlkV.cell kR 1 rfl
      have rz1 := BlkV.frozen kR 1
      have rc2 := BlkV.cell kR 2 rfl
      have rz2 := BlkV.frozen kR 2
      have rc3 := BlkV.cell kR 3 rfl
      have rz3 := BlkV.frozen kR 3
      have rc4 := BlkV.cell kR 4 rfl
      have rz4 := BlkV.frozen kR 4
      go_wp2_with fail
      refine (i2 _).mono ?_
      rintro e w2 ⟨rfl, hf2⟩
      replace kV := kV.fwd hf2
      replace kW := kW.fwd hf2
      replace kR := kR.fwd hf2
      replace hF := hF.trans hf2
      clear hf2
      clear vc0 vz0 vc1 vz1 vc2 vz2 vc3 vz3 vc4 vz4
      clear wc0 wz0 wc1 wz1 wc2 wz2 wc3 wz3 wc4 wz4
      clear rc0 rz0 rc1 rz1 rc2 rz2 rc3 rz3 rc4 rz4
      have vc0 := BlkV.cell kV 0 rfl
      have vz0 := BlkV.frozen kV 0
      have vc1 := BlkV.cell kV 1 rfl
      have vz1 := BlkV.frozen kV 1
      have vc2 := BlkV.cell kV 2 rfl
      have vz2 := BlkV.frozen kV 2
      have vc3 := BlkV.cell kV 3 rfl
      have vz3 := BlkV.frozen kV 3
      have vc4 := BlkV.cell kV 4 rfl
      have vz4 := BlkV.frozen kV 4
      have wc0 := BlkV.cell kW 0 rfl
      have wz0 := BlkV.frozen kW 0
      have wc1 := BlkV.cell kW 1 rfl
      have wz1 := BlkV.frozen kW 1
      have wc2 := BlkV.cell kW 2 rfl
      have wz2 := BlkV.frozen kW 2
      have wc3 := BlkV.cell kW 3 rfl
      have wz3 := BlkV.frozen kW 3
      have wc4 := BlkV.cell kW 4 rfl
      have wz4 := BlkV.frozen kW 4
      have rc0 := BlkV.cell kR 0 rfl
      have rz0 := BlkV.frozen kR 0
      have rc1 := BlkV.cell kR 1 rfl
      have rz1 := BlkV.frozen kR 1
      have rc2 := BlkV.cell kR 2 rfl
      have rz2 := BlkV.frozen kR 2
      have rc3 := BlkV.cell kR 3 rfl
      have rz3 := BlkV.frozen kR 3
      have rc4 := BlkV.cell kR 4 rfl
      have rz4 := BlkV.frozen kR 4
      clear i1 i2
      go_upto_region 5 with fail
      go_cut [] (fun wx => ∃ a1 b1 a2 b2 : Nat, (a1 < 18446744073709551616 ∧ b1 < 18446744073709551616 ∧ A = a1 * 18446744073709551616 + b1) ∧ (a2 < 18446744073709551616 ∧ b2 < 18446744073709551616 ∧ B = a2 * 18446744073709551616 + b2) ∧ BlkV wx w.heap.size 107 [.bool s, .bool false, .int .u64 (a1), .int .u64 (b1), .int .i64 (xa)] ∧ BlkV wx (w.heap.size + 1) 107 [.bool t, .bool false, .int .u64 (a2), .int .u64 (b2), .int .i64 (xb)] ∧ BlkV wx (w.heap.size + 1 + 1) 107 [.bool false, .bool false, .int .u64 0, .int .u64 0, .int .i64 0] ∧ Fwd w wx)
      case first =>
        replace kV := kV.drew
        replace kW := kW.drew
        replace kR := kR.drew
        replace hF := hF.drew
        clear vc0 vz0 vc1 vz1 vc2 vz2 vc3 vz3 vc4 vz4
        clear wc0 wz0 wc1 wz1 wc2 wz2 wc3 wz3 wc4 wz4
        clear rc0 rz0 rc1 rz1 rc2 rz2 rc3 rz3 rc4 rz4
        have vc0 := BlkV.cell kV 0 rfl
        have vz0 := BlkV.frozen kV 0
        have vc1 := BlkV.cell kV 1 rfl
        have vz1 := BlkV.frozen kV 1
        have vc2 := BlkV.cell kV 2 rfl
        have vz2 := BlkV.frozen kV 2
        have vc3 := BlkV.cell kV 3 rfl
        have vz3 := BlkV.frozen kV 3
        have vc4 := BlkV.cell kV 4 rfl
        have vz4 := BlkV.frozen kV 4
        have wc0 := BlkV.cell kW 0 rfl
        have wz0 := BlkV.frozen kW 0
        have wc1 := BlkV.cell kW 1 rfl
        have wz1 := BlkV.frozen kW 1
        have wc2 := BlkV.cell kW 2 rfl
        have wz2 := BlkV.frozen kW 2
        have wc3 := BlkV.cell kW 3 rfl
        have wz3 := BlkV.frozen kW 3
        have wc4 := BlkV.cell kW 4 rfl
        have wz4 := BlkV.frozen kW 4
        have rc0 := BlkV.cell kR 0 rfl
        have rz0 := BlkV.frozen kR 0
        have rc1 := BlkV.cell kR 1 rfl
        have rz1 := BlkV.frozen kR 1
        have rc2 := BlkV.cell kR 2 rfl
        have rz2 := BlkV.frozen kR 2
        have rc3 := BlkV.cell kR 3 rfl
        have rz3 := BlkV.frozen kR 3
        have rc4 := BlkV.cell kR 4 rfl
        have rz4 := BlkV.frozen kR 4
        go_region_with (first
          | (go_at_call 113
             have _ := mk1
             refine (q2 _).mono ?_
             rintro e w4 ⟨u2, rfl, hf4, a2, b2, rfl, m1, m2, m3⟩
             replace kV := kV.fwd hf4
             replace kW := kW.fwd hf4
             replace kR := kR.fwd hf4
             replace hF := hF.trans hf4
             clear hf4
             clear vc0 vz0 vc1 vz1 vc2 vz2 vc3 vz3 vc4 vz4
             clear wc0 wz0 wc1 wz1 wc2 wz2 wc3 wz3 wc4 wz4
             clear rc0 rz0 rc1 rz1 rc2 rz2 rc3 rz3 rc4 rz4
             have vc0 := BlkV.cell kV 0 rfl
             have vz0 := BlkV.frozen kV 0
             have vc1 := BlkV.cell kV 1 rfl
             have vz1 := BlkV.frozen kV 1
             have vc2 := BlkV.cell kV 2 rfl
             have vz2 := BlkV.frozen kV 2
             have vc3 := BlkV.cell kV 3 rfl
             have vz3 := BlkV.frozen kV 3
             have vc4 := BlkV.cell kV 4 rfl
             have vz4 := BlkV.frozen kV 4
             have wc0 := BlkV.cell kW 0 rfl
             have wz0 := BlkV.frozen kW 0
             have wc1 := BlkV.cell kW 1 rfl
             have wz1 := BlkV.frozen kW 1
             have wc2 := BlkV.cell kW 2 rfl
             have wz2 := BlkV.frozen kW 2
             have wc3 := BlkV.cell kW 3 rfl
             have wz3 := BlkV.frozen kW 3
             have wc4 := BlkV.cell kW 4 rfl
             have wz4 := BlkV.frozen kW 4
             have rc0 := BlkV.cell kR 0 rfl
             have rz0 := BlkV.frozen kR 0
             have rc1 := BlkV.cell kR 1 rfl
             have rz1 := BlkV.frozen kR 1
             have rc2 := BlkV.cell kR 2 rfl
             have rz2 := BlkV.frozen kR 2
             have rc3 := BlkV.cell kR 3 rfl
             have rz3 := BlkV.frozen kR 3
             have rc4 := BlkV.cell kR 4 rfl
             have rz4 := BlkV.frozen kR 4
             have mk2 : True := trivial)
          | (go_at_call 113
             refine (q1 _).mono ?_
             rintro e w3 ⟨u1, rfl, hf3, a1, b1, rfl, k1, k2, k3⟩
             replace kV := kV.fwd hf3
             replace kW := kW.fwd hf3
             replace kR := kR.fwd hf3
             replace hF := hF.trans hf3
             clear hf3
             clear vc0 vz0 vc1 vz1 vc2 vz2 vc3 vz3 vc4 vz4
             clear wc0 wz0 wc1 wz1 wc2 wz2 wc3 wz3 wc4 wz4
             clear rc0 rz0 rc1 rz1 rc2 rz2 rc3 rz3 rc4 rz4
             have vc0 := BlkV.cell kV 0 rfl
             have vz0 := BlkV.frozen kV 0
             have vc1 := BlkV.cell kV 1 rfl
             have vz1 := BlkV.frozen kV 1
             have vc2 := BlkV.cell kV 2 rfl
             have vz2 := BlkV.frozen kV 2
             have vc3 := BlkV.cell kV 3 rfl
             have vz3 := BlkV.frozen kV 3
             have vc4 := BlkV.cell kV 4 rfl
             have vz4 := BlkV.frozen kV 4
             have wc0 := BlkV.cell kW 0 rfl
             have wz0 := BlkV.frozen kW 0
             have wc1 := BlkV.cell kW 1 rfl
             have wz1 := BlkV.frozen kW 1
             have wc2 := BlkV.cell kW 2 rfl
             have wz2 := BlkV.frozen kW 2
             have wc3 := BlkV.cell kW 3 rfl
             have wz3 := BlkV.frozen kW 3
             have wc4 := BlkV.cell kW 4 rfl
             have wz4 := BlkV.frozen kW 4
             have rc0 := BlkV.cell kR 0 rfl
             have rz0 := BlkV.frozen kR 0
             have rc1 := BlkV.cell kR 1 rfl
             have rz1 := BlkV.frozen kR 1
             have rc2 := BlkV.cell kR 2 rfl
             have rz2 := BlkV.frozen kR 2
             have rc3 := BlkV.cell kR 3 rfl
             have rz3 := BlkV.frozen kR 3
             have rc4 := BlkV.cell kR 4 rfl
             have rz4 := BlkV.frozen kR 4
             have mk1 : True := trivial))
        all_goals
          have t4 := BlkV.set kV 0 (.bool s)
          have st4 := BlkV.cell t4 0 rfl
          have t5 := BlkV.set t4 1 (.bool false)
          have st5 := BlkV.cell t5 1 rfl
          have t6 := BlkV.set t5 2 (.int .u64 (a1))
          have st6 := BlkV.cell t6 2 rfl
          have t7 := BlkV.set t6 3 (.int .u64 (b1))
          have st7 := BlkV.cell t7 3 rfl
          have t8 := BlkV.set t7 4 (.int .i64 (xa))
          have st8 := BlkV.cell t8 4 rfl
          have o8 := ((((BlkV.on kV 0 (.bool s)).setv 1 (.bool false)).setv 2 (.int .u64 (a1))).setv 3 (.int .u64 (b1))).setv 4 (.int .i64 (xa))
          replace kW := BlkV.only kW o8 (by omega)
          replace kR := BlkV.only kR o8 (by omega)
          replace hF := hF.wrote o8 (by omega)
          have kV := t8
          clear o8
          have t10 := BlkV.set kW 0 (.bool t)
          have st10 := BlkV.cell t10 0 rfl
          have t11 := BlkV.set t10 1 (.bool false)
          have st11 := BlkV.cell t11 1 rfl
          have t12 := BlkV.set t11 2 (.int .u64 (a2))
          have st12 := BlkV.cell t12 2 rfl
          have t13 := BlkV.set t12 3 (.int .u64 (b2))
          have st13 := BlkV.cell t13 3 rfl
          have t14 := BlkV.set t13 4 (.int .i64 (xb))
          have st14 := BlkV.cell t14 4 rfl
          have o14 := ((((BlkV.on kW 0 (.bool t)).setv 1 (.bool false)).setv 2 (.int .u64 (a2))).setv 3 (.int .u64 (b2))).setv 4 (.int .i64 (xb))
          replace kV := BlkV.only kV o14 (by omega)
          replace kR := BlkV.only kR o14 (by omega)
          replace hF := hF.wrote o14 (by omega)
          have kW := t14
          clear o14
          go_wp2_with fail
          go_meet
          exact ⟨a1, b1, a2, b2, ⟨k1, k2, k3⟩, ⟨m1, m2, m3⟩, kV, kW, kR, hF⟩
      case rest =>
        clear kV kW kR hF q1 q2 hx1 hx2 hy1 hy2 h1 h2 g1 g2
        clear vc0 vz0 vc1 vz1 vc2 vz2 vc3 vz3 vc4 vz4 wc0 wz0 wc1 wz1 wc2 wz2 wc3 wz3 wc4 wz4 rc0 rz0 rc1 rz1 rc2 rz2 rc3 rz3 rc4 rz4
        obtain ⟨a1, b1, a2, b2, ⟨h1, h2, h3⟩, ⟨g1, g2, g3⟩, kV, kW, kR, hF⟩ := hcut
        have HA := hid (And.intro h3 g3)
        clear h3 g3
        have vc0 := BlkV.cell kV 0 rfl
        have vz0 := BlkV.frozen kV 0
        have vc1 := BlkV.cell kV 1 rfl
        have vz1 := BlkV.frozen kV 1
        have vc2 := BlkV.cell kV 2 rfl
        have vz2 := BlkV.frozen kV 2
        have vc3 := BlkV.cell kV 3 rfl
        have vz3 := BlkV.frozen kV 3
        have vc4 := BlkV.cell kV 4 rfl
        have vz4 := BlkV.frozen kV 4
        have wc0 := BlkV.cell kW 0 rfl
        have wz0 := BlkV.frozen kW 0
        have wc1 := BlkV.cell kW 1 rfl
        have wz1 := BlkV.frozen kW 1
        have wc2 := BlkV.cell kW 2 rfl
        have wz2 := BlkV.frozen kW 2
        have wc3 := BlkV.cell kW 3 rfl
        have wz3 := BlkV.frozen kW 3
        have wc4 := BlkV.cell kW 4 rfl
        have wz4 := BlkV.frozen kW 4
        have rc0 := BlkV.cell kR 0 rfl
        have rz0 := BlkV.frozen kR 0
        have rc1 := BlkV.cell kR 1 rfl
        have rz1 := BlkV.frozen kR 1
        have rc2 := BlkV.cell kR 2 rfl
        have rz2 := BlkV.frozen kR 2
        have rc3 := BlkV.cell kR 3 rfl
        have rz3 := BlkV.frozen kR 3
        have rc4 := BlkV.cell kR 4 rfl
        have rz4 := BlkV.frozen kR 4
        go_upto_if 19 with fail
        go_cut [] (fun wx => ∃ (s1 : Bool) (a1 b1 : Nat) (x1 : Int) (s2 : Bool) (a2 b2 : Nat) (x2 : Int) (A1 A2 : Nat), Hid ((P = pl2 s1 A1 x1 s2 A2 x2 ∧ A1 < 170141183460469231731687303715884105728 ∧ A2 < 170141183460469231731687303715884105728) ∧ A1 = a1 * 18446744073709551616 + b1 ∧ A2 = a2 * 18446744073709551616 + b2) ∧ x2 ≤ x1 ∧ -101000 ≤ x2 ∧ x1 ≤ 100000 ∧ (a1 < 18446744073709551616 ∧ b1 < 18446744073709551616) ∧ (a2 < 18446744073709551616 ∧ b2 < 18446744073709551616) ∧ BlkV wx w.heap.size 107 [.bool s1, .bool false, .int .u64 (a1), .int .u64 (b1), .int .i64 (x1)] ∧ BlkV wx (w.heap.size + 1) 107 [.bool s2, .bool false, .int .u64 (a2), .int .u64 (b2), .int .i64 (x2)] ∧ BlkV wx (w.heap.size + 1 + 1) 107 [.bool false, .bool false, .int .u64 0, .int .u64 0, .int .i64 0] ∧ Fwd w wx)
        case first =>
          by_cases cx : xa < xb
          · have i0 : decide (xa < xb) = true := decide_eq_true cx
            have hp := HP.out
            rw [if_pos cx] at hp
            have HQ := hid (And.intro (And.intro hp (And.intro HL.out.2 HL.out.1)) (And.intro HA.out.2 HA.out.1))
            clear hp HP HL HA
            go_wp2_with fail
            go_meet
            have t4 := BlkV.set kV 0 (.bool t)
            have st4 := BlkV.cell t4 0 rfl
            have t5 := BlkV.set t4 1 (.bool false)
            have st5 := BlkV.cell t5 1 rfl
            have t6 := BlkV.set t5 2 (.int .u64 (a2))
            have st6 := BlkV.cell t6 2 rfl
            have t7 := BlkV.set t6 3 (.int .u64 (b2))
            have st7 := BlkV.cell t7 3 rfl
            have t8 := BlkV.set t7 4 (.int .i64 (xb))
            have st8 := BlkV.cell t8 4 rfl
            have o8 := ((((BlkV.on kV 0 (.bool t)).setv 1 (.bool false)).setv 2 (.int .u64 (a2))).setv 3 (.int .u64 (b2))).setv 4 (.int .i64 (xb))
            replace kW := BlkV.only kW o8 (by omega)
            replace kR := BlkV.only kR o8 (by omega)
            replace hF := hF.wrote o8 (by omega)
            have kV := t8
            clear o8
            have t10 := BlkV.set kW 0 (.bool s)
            have st10 := BlkV.cell t10 0 rfl
            have t11 := BlkV.set t10 1 (.bool false)
            have st11 := BlkV.cell t11 1 rfl
            have t12 := BlkV.set t11 2 (.int .u64 (a1))
            have st12 := BlkV.cell t12 2 rfl
            have t13 := BlkV.set t12 3 (.int .u64 (b1))
            have st13 := BlkV.cell t13 3 rfl
            have t14 := BlkV.set t13 4 (.int .i64 (xa))
            have st14 := BlkV.cell t14 4 rfl
            have o14 := ((((BlkV.on kW 0 (.bool s)).setv 1 (.bool false)).setv 2 (.int .u64 (a1))).setv 3 (.int .u64 (b1))).setv 4 (.int .i64 (xa))
            replace kV := BlkV.only kV o14 (by omega)
            replace kR := BlkV.only kR o14 (by omega)
            replace hF := hF.wrote o14 (by omega)
            have kW := t14
            clear o14
            exact ⟨t, a2, b2, xb, s, a1, b1, xa, B, A, HQ, by omega, by omega, by omega, ⟨g1, g2⟩, ⟨h1, h2⟩, kV, kW, kR, hF⟩
          · have i0 : decide (xa < xb) = false := decide_eq_false cx
            have hp := HP.out
            rw [if_neg cx] at hp
            have HQ := hid (And.intro (And.intro hp HL.out) HA.out)
            clear hp HP HL HA
            go_wp2_with fail
            go_meet
            exact ⟨s, a1, b1, xa, t, a2, b2, xb, A, B, HQ, by omega, by omega, by omega, ⟨h1, h2⟩, ⟨g1, g2⟩, kV, kW, kR, hF⟩
        case rest =>
          clear kV kW kR hF HP HL HA h1 h2 g1 g2 y1 y2 y3 y4
          clear vc0 vz0 vc1 vz1 vc2 vz2 vc3 vz3 vc4 vz4 wc0 wz0 wc1 wz1 wc2 wz2 wc3 wz3 wc4 wz4 rc0 rz0 rc1 rz1 rc2 rz2 rc3 rz3 rc4 rz4
          obtain ⟨s1, a1, b1, x1, s2, a2, b2, x2, A1, A2, HQ, hx, hx3, hx4, ⟨h1, h2⟩, ⟨g1, g2⟩, kV, kW, kR, hF⟩ := hcut
          have hWV : WV (.agg #[.int .u64 a1, .int .u64 b1]) A1 := ⟨a1, b1, rfl, h1, h2, HQ.out.2.1⟩
          have hWW : WV (.agg #[.int .u64 a2, .int .u64 b2]) A2 := ⟨a2, b2, rfl, g1, g2, HQ.out.2.2⟩
          replace HQ := hid HQ.out.1
          have HD := hid (dn_le (k := (x1 - x2).toNat) HQ.out.2.2)
          unfold pl2 at HQ
          generalize hD : dn A2 (x1 - x2).toNat = D at HQ HD
          have vc0 := BlkV.cell kV 0 rfl
          have vz0 := BlkV.frozen kV 0
          have vc1 := BlkV.cell kV 1 rfl
          have vz1 := BlkV.frozen kV 1
          have vc2 := BlkV.cell kV 2 rfl
          have vz2 := BlkV.frozen kV 2
          have vc3 := BlkV.cell kV 3 rfl
          have vz3 := BlkV.frozen kV 3
          have vc4 := BlkV.cell kV 4 rfl
          have vz4 := BlkV.frozen kV 4
          have wc0 := BlkV.cell kW 0 rfl
          have wz0 := BlkV.frozen kW 0
          have wc1 := BlkV.cell kW 1 rfl
          have wz1 := BlkV.frozen kW 1
          have wc2 := BlkV.cell kW 2 rfl
          have wz2 := BlkV.frozen kW 2
          have wc3 := BlkV.cell kW 3 rfl
          have wz3 := BlkV.frozen kW 3
          have wc4 := BlkV.cell kW 4 rfl
          have wz4 := BlkV.frozen kW 4
          have rc0 := BlkV.cell kR 0 rfl
          have rz0 := BlkV.frozen kR 0
          have rc1 := BlkV.cell kR 1 rfl
          have rz1 := BlkV.frozen kR 1
          have rc2 := BlkV.cell kR 2 rfl
          have rz2 := BlkV.frozen kR 2
          have rc3 := BlkV.cell kR 3 rfl
          have rz3 := BlkV.frozen kR 3
          have rc4 := BlkV.cell kR 4 rfl
          have rz4 := BlkV.frozen kR 4
          go_wp2_with fail
          refine (wdown_to (k := (x1 - x2).toNat) hWW (by omega) (by omega)).mono ?_
          rintro e w3 ⟨q, rfl, ⟨a3, b3, rfl, q1, q2, hq⟩, hf3⟩
          rw [hD] at hq
          clear hD hWW
          have hWD : WV (.agg #[.int .u64 a3, .int .u64 b3]) D := ⟨a3, b3, rfl, q1, q2, hq⟩
          clear hq
          replace kV := kV.fwd hf3
          replace kW := kW.fwd hf3
          replace kR := kR.fwd hf3
          replace hF := hF.trans hf3
          clear hf3
          clear vc0 vz0 vc1 vz1 vc2 vz2 vc3 vz3 vc4 vz4
          clear wc0 wz0 wc1 wz1 wc2 wz2 wc3 wz3 wc4 wz4
          clear rc0 rz0 rc1 rz1 rc2 rz2 rc3 rz3 rc4 rz4
          have vc0 := BlkV.cell kV 0 rfl
          have vz0 := BlkV.frozen kV 0
          have vc1 := BlkV.cell kV 1 rfl
          have vz1 := BlkV.frozen kV 1
          have vc2 := BlkV.cell kV 2 rfl
          have vz2 := BlkV.frozen kV 2
          have vc3 := BlkV.cell kV 3 rfl
          have vz3 := BlkV.frozen kV 3
          have vc4 := BlkV.cell kV 4 rfl
          have vz4 := BlkV.frozen kV 4
          have wc0 := BlkV.cell kW 0 rfl
          have wz0 := BlkV.frozen kW 0
          have wc1 := BlkV.cell kW 1 rfl
          have wz1 := BlkV.frozen kW 1
          have wc2 := BlkV.cell kW 2 rfl
          have wz2 := BlkV.frozen kW 2
          have wc3 := BlkV.cell kW 3 rfl
          have wz3 := BlkV.frozen kW 3
          have wc4 := BlkV.cell kW 4 rfl
          have wz4 := BlkV.frozen kW 4
          have rc0 := BlkV.cell kR 0 rfl
          have rz0 := BlkV.frozen kR 0
          have rc1 := BlkV.cell kR 1 rfl
          have rz1 := BlkV.frozen kR 1
          have rc2 := BlkV.cell kR 2 rfl
          have rz2 := BlkV.frozen kR 2
          have rc3 := BlkV.cell kR 3 rfl
          have rz3 := BlkV.frozen kR 3
          have rc4 := BlkV.cell kR 4 rfl
          have rz4 := BlkV.frozen kR 4
          by_cases cs : s1 = s2
          · subst cs
            have i0 : (s1 == s1) = true := by simp
            rw [if_pos rfl] at HQ
            go_wp2_with fail
            have t6 := BlkV.set kW 2 (.int .u64 (a3))
            have t7 := BlkV.set t6 3 (.int .u64 (b3))
            have t8 := BlkV.set t7 4 (.int .i64 (x1))
            have o8 := ((BlkV.on kW 2 (.int .u64 (a3))).setv 3 (.int .u64 (b3))).setv 4 (.int .i64 (x1))
            replace kV := BlkV.only kV o8 (by omega)
            replace kR := BlkV.only kR o8 (by omega)
            replace hF := hF.wrote o8 (by omega)
            have kW := t8
            clear o8
            refine (wplus_any hWV hWD (by have := HQ.out.2.1; have := HD.out; omega)).mono ?_
            rintro e w4 ⟨q, rfl, ⟨a4, b4, rfl, p1, p2, hp⟩, hf4⟩
            have HP := hid hp
            clear hp
            replace kV := kV.fwd hf4
            replace kW := kW.fwd hf4
            replace kR := kR.fwd hf4
            replace hF := hF.trans hf4
            clear hf4
            clear vc0 vz0 vc1 vz1 vc2 vz2 vc3 vz3 vc4 vz4
            clear wc0 wz0 wc1 wz1 wc2 wz2 wc3 wz3 wc4 wz4
            clear rc0 rz0 rc1 rz1 rc2 rz2 rc3 rz3 rc4 rz4
            have vc0 := BlkV.cell kV 0 rfl
            have vz0 := BlkV.frozen kV 0
            have vc1 := BlkV.cell kV 1 rfl
            have vz1 := BlkV.frozen kV 1
            have vc2 := BlkV.cell kV 2 rfl
            have vz2 := BlkV.frozen kV 2
            have vc3 := BlkV.cell kV 3 rfl
            have vz3 := BlkV.frozen kV 3
            have vc4 := BlkV.cell kV 4 rfl
            have vz4 := BlkV.frozen kV 4
            have wc0 := BlkV.cell kW 0 rfl
            have wz0 := BlkV.frozen kW 0
            have wc1 := BlkV.cell kW 1 rfl
            have wz1 := BlkV.frozen kW 1
            have wc2 := BlkV.cell kW 2 rfl
            have wz2 := BlkV.frozen kW 2
            have wc3 := BlkV.cell kW 3 rfl
            have wz3 := BlkV.frozen kW 3
            have wc4 := BlkV.cell kW 4 rfl
            have wz4 := BlkV.frozen kW 4
            have rc0 := BlkV.cell kR 0 rfl
            have rz0 := BlkV.frozen kR 0
            have rc1 := BlkV.cell kR 1 rfl
            have rz1 := BlkV.frozen kR 1
            have rc2 := BlkV.cell kR 2 rfl
            have rz2 := BlkV.frozen kR 2
            have rc3 := BlkV.cell kR 3 rfl
            have rz3 := BlkV.frozen kR 3
            have rc4 := BlkV.cell kR 4 rfl
            have rz4 := BlkV.frozen kR 4
            clear wc0 wz0 wc1 wz1 wc2 wz2 wc3 wz3 wc4 wz4
            go_wp2
            have t10 := BlkV.set kV 2 (.int .u64 (a4))
            have t11 := BlkV.set t10 3 (.int .u64 (b4))
            have o11 := (BlkV.on kV 2 (.int .u64 (a4))).setv 3 (.int .u64 (b4))
            replace kW := BlkV.only kW o11 (by omega)
            replace kR := BlkV.only kR o11 (by omega)
            replace hF := hF.wrote o11 (by omega)
            have kV := t11
            clear o11
            have r0 := BlkV.set kR 0 (.bool s1)
            have rs0 := BlkV.cell r0 0 rfl
            have r1 := BlkV.set r0 1 (.bool false)
            have rs1 := BlkV.cell r1 1 rfl
            have r2 := BlkV.set r1 2 (.int .u64 (a4))
            have rs2 := BlkV.cell r2 2 rfl
            have r3 := BlkV.set r2 3 (.int .u64 (b4))
            have rs3 := BlkV.cell r3 3 rfl
            have r4 := BlkV.set r3 4 (.int .i64 (x1))
            have rs4 := BlkV.cell r4 4 rfl
            refine bodyPost_ret (by simp [results, Tryz.results134, go_sem, rs0, rs1, rs2, rs3, rs4]; try rfl) rfl ?_
            exact ⟨_, rfl, (((((hF).set (by omega)).set (by omega)).set (by omega)).set (by omega)).set (by omega), (by rw [HQ.out.1]; exact ⟨a4, b4, rfl, p1, p2, HP.out⟩)⟩
          · have i0 : (s1 == s2) = false := by simpa using cs
            rw [if_neg cs] at HQ
            clear cs
            go_wp2_with fail
            have t6 := BlkV.set kW 2 (.int .u64 (a3))
            have t7 := BlkV.set t6 3 (.int .u64 (b3))
            have t8 := BlkV.set t7 4 (.int .i64 (x1))
            have o8 := ((BlkV.on kW 2 (.int .u64 (a3))).setv 3 (.int .u64 (b3))).setv 4 (.int .i64 (x1))
            replace kV := BlkV.only kV o8 (by omega)
            replace kR := BlkV.only kR o8 (by omega)
            replace hF := hF.wrote o8 (by omega)
            have kW := t8
            clear o8
            refine (wless_any hWV hWD).mono ?_
            rintro e w4 ⟨rfl, hf4⟩
            replace kV := kV.fwd hf4
            replace kW := kW.fwd hf4
            replace kR := kR.fwd hf4
            replace hF := hF.trans hf4
            clear hf4
            clear vc0 vz0 vc1 vz1 vc2 vz2 vc3 vz3 vc4 vz4
            clear wc0 wz0 wc1 wz1 wc2 wz2 wc3 wz3 wc4 wz4
            clear rc0 rz0 rc1 rz1 rc2 rz2 rc3 rz3 rc4 rz4
            have vc0 := BlkV.cell kV 0 rfl
            have vz0 := BlkV.frozen kV 0
            have vc1 := BlkV.cell kV 1 rfl
            have vz1 := BlkV.frozen kV 1
            have vc2 := BlkV.cell kV 2 rfl
            have vz2 := BlkV.frozen kV 2
            have vc3 := BlkV.cell kV 3 rfl
            have vz3 := BlkV.frozen kV 3
            have vc4 := BlkV.cell kV 4 rfl
            have vz4 := BlkV.frozen kV 4
            have wc0 := BlkV.cell kW 0 rfl
            have wz0 := BlkV.frozen kW 0
            have wc1 := BlkV.cell kW 1 rfl
            have wz1 := BlkV.frozen kW 1
            have wc2 := BlkV.cell kW 2 rfl
            have wz2 := BlkV.frozen kW 2
            have wc3 := BlkV.cell kW 3 rfl
            have wz3 := BlkV.frozen kW 3
            have wc4 := BlkV.cell kW 4 rfl
            have wz4 := BlkV.frozen kW 4
            have rc0 := BlkV.cell kR 0 rfl
            have rz0 := BlkV.frozen kR 0
            have rc1 := BlkV.cell kR 1 rfl
            have rz1 := BlkV.frozen kR 1
            have rc2 := BlkV.cell kR 2 rfl
            have rz2 := BlkV.frozen kR 2
            have rc3 := BlkV.cell kR 3 rfl
            have rz3 := BlkV.frozen kR 3
            have rc4 := BlkV.cell kR 4 rfl
            have rz4 := BlkV.frozen kR 4
            by_cases cl : A1 < D
            · have i1 : decide (A1 < D) = true := decide_eq_true cl
              rw [if_pos cl] at HQ
              have HC := hid cl
              clear cl
              go_wp2_with fail
              have t11 := BlkV.set kV 0 (.bool s2)
              have t12 := BlkV.set t11 1 (.bool false)
              have t13 := BlkV.set t12 2 (.int .u64 (a3))
              have t14 := BlkV.set t13 3 (.int .u64 (b3))
              have t15 := BlkV.set t14 4 (.int .i64 (x1))
              have o15 := ((((BlkV.on kV 0 (.bool s2)).setv 1 (.bool false)).setv 2 (.int .u64 (a3))).setv 3 (.int .u64 (b3))).setv 4 (.int .i64 (x1))
              replace kW := BlkV.only kW o15 (by omega)
              replace kR := BlkV.only kR o15 (by omega)
              replace hF := hF.wrote o15 (by omega)
              have kV := t15
              clear o15
              have t17 := BlkV.set kW 0 (.bool s1)
              have t18 := BlkV.set t17 1 (.bool false)
              have t19 := BlkV.set t18 2 (.int .u64 (a1))
              have t20 := BlkV.set t19 3 (.int .u64 (b1))
              have t21 := BlkV.set t20 4 (.int .i64 (x1))
              have o21 := ((((BlkV.on kW 0 (.bool s1)).setv 1 (.bool false)).setv 2 (.int .u64 (a1))).setv 3 (.int .u64 (b1))).setv 4 (.int .i64 (x1))
              replace kV := BlkV.only kV o21 (by omega)
              replace kR := BlkV.only kR o21 (by omega)
              replace hF := hF.wrote o21 (by omega)
              have kW := t21
              clear o21
              refine (wminus_any hWD hWV (by have := HC.out; omega)).mono ?_
              rintro e w9 ⟨q, rfl, ⟨a4, b4, rfl, p1, p2, hp⟩, hf9⟩
              have HP := hid hp
              clear hp
              replace kV := kV.fwd hf9
              replace kW := kW.fwd hf9
              replace kR := kR.fwd hf9
              replace hF := hF.trans hf9
              clear hf9
              clear vc0 vz0 vc1 vz1 vc2 vz2 vc3 vz3 vc4 vz4
              clear wc0 wz0 wc1 wz1 wc2 wz2 wc3 wz3 wc4 wz4
              clear rc0 rz0 rc1 rz1 rc2 rz2 rc3 rz3 rc4 rz4
              have vc0 := BlkV.cell kV 0 rfl
              have vz0 := BlkV.frozen kV 0
              have vc1 := BlkV.cell kV 1 rfl
              have vz1 := BlkV.frozen kV 1
              have vc2 := BlkV.cell kV 2 rfl
              have vz2 := BlkV.frozen kV 2
              have vc3 := BlkV.cell kV 3 rfl
              have vz3 := BlkV.frozen kV 3
              have vc4 := BlkV.cell kV 4 rfl
              have vz4 := BlkV.frozen kV 4
              have wc0 := BlkV.cell kW 0 rfl
              have wz0 := BlkV.frozen kW 0
              have wc1 := BlkV.cell kW 1 rfl
              have wz1 := BlkV.frozen kW 1
              have wc2 := BlkV.cell kW 2 rfl
              have wz2 := BlkV.frozen kW 2
              have wc3 := BlkV.cell kW 3 rfl
              have wz3 := BlkV.frozen kW 3
              have wc4 := BlkV.cell kW 4 rfl
              have wz4 := BlkV.frozen kW 4
              have rc0 := BlkV.cell kR 0 rfl
              have rz0 := BlkV.frozen kR 0
              have rc1 := BlkV.cell kR 1 rfl
              have rz1 := BlkV.frozen kR 1
              have rc2 := BlkV.cell kR 2 rfl
              have rz2 := BlkV.frozen kR 2
              have rc3 := BlkV.cell kR 3 rfl
              have rz3 := BlkV.frozen kR 3
              have rc4 := BlkV.cell kR 4 rfl
              have rz4 := BlkV.frozen kR 4
              clear wc0 wz0 wc1 wz1 wc2 wz2 wc3 wz3 wc4 wz4
              go_wp2
              have t23 := BlkV.set kV 2 (.int .u64 (a4))
              have t24 := BlkV.set t23 3 (.int .u64 (b4))
              have o24 := (BlkV.on kV 2 (.int .u64 (a4))).setv 3 (.int .u64 (b4))
              replace kW := BlkV.only kW o24 (by omega)
              replace kR := BlkV.only kR o24 (by omega)
              replace hF := hF.wrote o24 (by omega)
              have kV := t24
              clear o24
              have r0 := BlkV.set kR 0 (.bool s2)
              have rs0 := BlkV.cell r0 0 rfl
              have r1 := BlkV.set r0 1 (.bool false)
              have rs1 := BlkV.cell r1 1 rfl
              have r2 := BlkV.set r1 2 (.int .u64 (a4))
              have rs2 := BlkV.cell r2 2 rfl
              have r3 := BlkV.set r2 3 (.int .u64 (b4))
              have rs3 := BlkV.cell r3 3 rfl
              have r4 := BlkV.set r3 4 (.int .i64 (x1))
              have rs4 := BlkV.cell r4 4 rfl
              refine bodyPost_ret (by simp [results, Tryz.results134, go_sem, rs0, rs1, rs2, rs3, rs4]; try rfl) rfl ?_
              exact ⟨_, rfl, (((((hF).set (by omega)).set (by omega)).set (by omega)).set (by omega)).set (by omega), (by rw [HQ.out.1]; exact ⟨a4, b4, rfl, p1, p2, HP.out⟩)⟩
            · have i1 : decide (A1 < D) = false := decide_eq_false cl
              rw [if_neg cl] at HQ
              have HC := hid cl
              clear cl
              go_wp2_with fail
              refine (wminus_any hWV hWD (by have := HC.out; omega)).mono ?_
              rintro e w9 ⟨q, rfl, ⟨a4, b4, rfl, p1, p2, hp⟩, hf9⟩
              have HP := hid hp
              clear hp
              replace kV := kV.fwd hf9
              replace kW := kW.fwd hf9
              replace kR := kR.fwd hf9
              replace hF := hF.trans hf9
              clear hf9
              clear vc0 vz0 vc1 vz1 vc2 vz2 vc3 vz3 vc4 vz4
              clear wc0 wz0 wc1 wz1 wc2 wz2 wc3 wz3 wc4 wz4
              clear rc0 rz0 rc1 rz1 rc2 rz2 rc3 rz3 rc4 rz4
              have vc0 := BlkV.cell kV 0 rfl
              have vz0 := BlkV.frozen kV 0
              have vc1 := BlkV.cell kV 1 rfl
              have vz1 := BlkV.frozen kV 1
              have vc2 := BlkV.cell kV 2 rfl
              have vz2 := BlkV.frozen kV 2
              have vc3 := BlkV.cell kV 3 rfl
              have vz3 := BlkV.frozen kV 3
              have vc4 := BlkV.cell kV 4 rfl
              have vz4 := BlkV.frozen kV 4
              have wc0 := BlkV.cell kW 0 rfl
              have wz0 := BlkV.frozen kW 0
              have wc1 := BlkV.cell kW 1 rfl
              have wz1 := BlkV.frozen kW 1
              have wc2 := BlkV.cell kW 2 rfl
              have wz2 := BlkV.frozen kW 2
              have wc3 := BlkV.cell kW 3 rfl
              have wz3 := BlkV.frozen kW 3
              have wc4 := BlkV.cell kW 4 rfl
              have wz4 := BlkV.frozen kW 4
              have rc0 := BlkV.cell kR 0 rfl
              have rz0 := BlkV.frozen kR 0
              have rc1 := BlkV.cell kR 1 rfl
              have rz1 := BlkV.frozen kR 1
              have rc2 := BlkV.cell kR 2 rfl
              have rz2 := BlkV.frozen kR 2
              have rc3 := BlkV.cell kR 3 rfl
              have rz3 := BlkV.frozen kR 3
              have rc4 := BlkV.cell kR 4 rfl
              have rz4 := BlkV.frozen kR 4
              clear wc0 wz0 wc1 wz1 wc2 wz2 wc3 wz3 wc4 wz4
              go_wp2
              have t11 := BlkV.set kV 2 (.int .u64 (a4))
              have t12 := BlkV.set t11 3 (.int .u64 (b4))
              have o12 := (BlkV.on kV 2 (.int .u64 (a4))).setv 3 (.int .u64 (b4))
              replace kW := BlkV.only kW o12 (by omega)
              replace kR := BlkV.only kR o12 (by omega)
              replace hF := hF.wrote o12 (by omega)
              have kV := t12
              clear o12
              have r0 := BlkV.set kR 0 (.bool s1)
              have rs0 := BlkV.cell r0 0 rfl
              have r1 := BlkV.set r0 1 (.bool false)
              have rs1 := BlkV.cell r1 1 rfl
              have r2 := BlkV.set r1 2 (.int .u64 (a4))
              have rs2 := BlkV.cell r2 2 rfl
              have r3 := BlkV.set r2 3 (.int .u64 (b4))
              have rs3 := BlkV.cell r3 3 rfl
              have r4 := BlkV.set r3 4 (.int .i64 (x1))
              have rs4 := BlkV.cell r4 4 rfl
              refine bodyPost_ret (by simp [results, Tryz.results134, go_sem, rs0, rs1, rs2, rs3, rs4]; try rfl) rfl ?_
              exact ⟨_, rfl, (((((hF).set (by omega)).set (by omega)).set (by omega)).set (by omega)).set (by omega), (by rw [HQ.out.1]; exact ⟨a4, b4, rfl, p1, p2, HP.out⟩)⟩
end Go.Proofs.YtcfhajnboamnnabGreatDoor
