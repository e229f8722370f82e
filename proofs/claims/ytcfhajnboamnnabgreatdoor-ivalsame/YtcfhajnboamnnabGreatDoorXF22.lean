/- sfloat's over: the quotient of what is finite and not nought. -/
import Derived.Test.YtcfhajnboamnnabGreatDoorXF9
import Derived.Test.YtcfhajnboamnnabGreatDoorXF21
import Derived.Test.YtcfhajnboamnnabGreatDoorYXFM
namespace Go.Proofs.YtcfhajnboamnnabGreatDoor
open Go.RowKit
set_option linter.unusedVariables false
set_option linter.unusedSimpArgs false

theorem lifted0_to {w : World} {v : Value} {s en : Bool} {n : Nat} {x : Int} (h : VV v s en n x) (hn : n ≠ 0) (hx1 : -1000000 ≤ x) (hx2 : x ≤ 1000000) :
    Calls Tryz.prog 113 #[v, .int .i64 0] w fun e w' => ∃ u, e = .returned u ∧ Fwd w w' ∧ VV u s en (n * 2 ^ lsh n 0) (x - lsh n 0) :=
  lifted_any (r := 0) h hn (by have := (blen_le_iff n 128).2 h.lt; omega) hx1 hx2

theorem fwd_of_eq {w w' : World} (h : w' = w) : Fwd w w' := h ▸ Fwd.refl _

theorem wdown_one {w : World} {v : Value} {n : Nat} (h : WV v n) : Calls Tryz.prog 114 #[v, .int .i64 1] w fun e w' => ∃ x, e = .returned x ∧ WV x (dn n 1) ∧ Fwd w w' := wdown_any (k := 1) h (by omega)

set_option maxHeartbeats 8000000 in
set_option maxRecDepth 100000 in
theorem over_any {w : World} {u v : Value} {s t : Bool} {n k : Nat} {x y : Int} (h : VV u s false n x) (g : VV v t false k y) (hn0 : n ≠ 0) (hk0 : k ≠ 0) (hn : n < 9007199254740992) (hk : k < 9007199254740992) (hx1 : -100000 ≤ x) (hx2 : x ≤ 100000) (hy1 : -100000 ≤ y) (hy2 : y ≤ 100000) :
    Calls Tryz.prog 110 #[u, v] w fun e w' => ∃ r, e = .returned r ∧ Fwd w w' ∧ VT r (overV (s, false, n, x) (t, false, k, y)) := by
  have q1 := fun w => lifted0_to (w := w) h hn0 (by omega) (by omega)
  have q2 := fun w => lifted0_to (w := w) g hk0 (by omega) (by omega)
  obtain ⟨a, b, rfl, h1, h2, hab⟩ := h
  obtain ⟨c, d, rfl, g1, g2, hcd⟩ := g
  clear hab hcd
  have l1 : lsh n 0 ≤ 128 := by unfold lsh; omega
  have l2 : lsh k 0 ≤ 128 := by unfold lsh; omega
  have HY := ovY_facts hk0 hk
  have HH := ovH_facts hn0 hn
  have HN := lift_lt (r := 0) hn0 (Nat.lt_trans hn (by decide))
  have HO : Hid (overV (s, false, n, x) (t, false, k, y) = (s != t, false, ovH n / ovY k * 18446744073709551616 + stk (ovH n % ovY k), x - (lsh n 0 : Int) + 1 - (y - (lsh k 0 : Int)) - 128)) := hid rfl
  have hH : dn (n * 2 ^ lsh n 0) 1 = ovH n := rfl
  generalize overV (s, false, n, x) (t, false, k, y) = OV at *
  have y1 : -101000 ≤ x - (lsh n 0 : Int) := by omega
  have y2 : x - (lsh n 0 : Int) ≤ 100000 := by omega
  have y3 : -101000 ≤ y - (lsh k 0 : Int) := by omega
  have y4 : y - (lsh k 0 : Int) ≤ 100000 := by omega
  generalize x - (lsh n 0 : Int) = xa at *
  generalize y - (lsh k 0 : Int) = xb at *
  generalize n * 2 ^ lsh n 0 = A at *
  generalize k * 2 ^ lsh k 0 = B at *
  generalize ovH n = HF at *
  generalize ovY k = Y at *
  clear l1 l2 hn0 hk0 hn hk hx1 hx2 hy1 hy2
  have i2 : (!(s == t)) = (s != t) := rfl
  generalize (s != t) = st at *
  have kV : BlkV (((w.alloc (.cells #[.bool s, .bool false, .int .u64 (a), .int .u64 (b), .int .i64 (x)] 107)).alloc (.cells #[.bool t, .bool false, .int .u64 (c), .int .u64 (d), .int .i64 (y)] 107)).alloc (.cells #[.bool false, .bool false, .int .u64 0, .int .u64 0, .int .i64 0] 107)) (w.heap.size) 107 [.bool s, .bool false, .int .u64 (a), .int .u64 (b), .int .i64 (x)] := ((BlkV.made' w (w.heap.size) (by simp) 107 [.bool s, .bool false, .int .u64 (a), .int .u64 (b), .int .i64 (x)]).alloc _).alloc _
  have kW : BlkV (((w.alloc (.cells #[.bool s, .bool false, .int .u64 (a), .int .u64 (b), .int .i64 (x)] 107)).alloc (.cells #[.bool t, .bool false, .int .u64 (c), .int .u64 (d), .int .i64 (y)] 107)).alloc (.cells #[.bool false, .bool false, .int .u64 0, .int .u64 0, .int .i64 0] 107)) (w.heap.size + 1) 107 [.bool t, .bool false, .int .u64 (c), .int .u64 (d), .int .i64 (y)] := (BlkV.made' (w.alloc (.cells #[.bool s, .bool false, .int .u64 (a), .int .u64 (b), .int .i64 (x)] 107)) (w.heap.size + 1) (by simp) 107 [.bool t, .bool false, .int .u64 (c), .int .u64 (d), .int .i64 (y)]).alloc _
  have kR : BlkV (((w.alloc (.cells #[.bool s, .bool false, .int .u64 (a), .int .u64 (b), .int .i64 (x)] 107)).alloc (.cells #[.bool t, .bool false, .int .u64 (c), .int .u64 (d), .int .i64 (y)] 107)).alloc (.cells #[.bool false, .bool false, .int .u64 0, .int .u64 0, .int .i64 0] 107)) (w.heap.size + 1 + 1) 107 [.bool false, .bool false, .int .u64 0, .int .u64 0, .int .i64 0] := BlkV.made' ((w.alloc (.cells #[.bool s, .bool false, .int .u64 (a), .int .u64 (b), .int .i64 (x)] 107)).alloc (.cells #[.bool t, .bool false, .int .u64 (c), .int .u64 (d), .int .i64 (y)] 107)) (w.heap.size + 1 + 1) (by simp) 107 [.bool false, .bool false, .int .u64 0, .int .u64 0, .int .i64 0]
  have hF : Fwd w (((w.alloc (.cells #[.bool s, .bool false, .int .u64 (a), .int .u64 (b), .int .i64 (x)] 107)).alloc (.cells #[.bool t, .bool false, .int .u64 (c), .int .u64 (d), .int .i64 (y)] 107)).alloc (.cells #[.bool false, .bool false, .int .u64 0, .int .u64 0, .int .i64 0] 107)) := (((Fwd.refl w).alloc _).alloc _).alloc _
  go_enter Tryz.func110, Tryz.ntmps110
  have vc0 := BlkV.cell kV 0 rfl
  have vz0 := BlkV.frozen kV 0
  have vc1 := BlkV.cell kV 1 rfl
  have vz1 := BlkV.frozen kV 1
  have vc2 := BlkV.cell kV 2 rfl
  have vz2 := BlkV.frozen kV 2
  have vc3 := BlkV.cell kV 3 rfl
  have vz3 := BlkV.frozen kV 3
  have vc4 := BlkV.cell kV 4 rfl
  have vz4 := BlkV.frozen kV 4
  have wc0 := BlkV.cell kW 0 rfl
  have wz0 := BlkV.frozen kW 0
  have wc1 := BlkV.cell kW 1 rfl
  have wz1 := BlkV.frozen kW 1
  have wc2 := BlkV.cell kW 2 rfl
  have wz2 := BlkV.frozen kW 2
  have wc3 := BlkV.cell kW 3 rfl
  have wz3 := BlkV.frozen kW 3
  have wc4 := BlkV.cell kW 4 rfl
  have wz4 := BlkV.frozen kW 4
  have rc0 := BlkV.cell kR 0 rfl
  have rz0 := BlkV.frozen kR 0
  have rc1 := BlkV.cell kR 1 rfl
  have rz1 := BlkV.frozen kR 1
  have rc2 := BlkV.cell kR 2 rfl
  have rz2 := BlkV.frozen kR 2
  have rc3 := BlkV.cell kR 3 rfl
  have rz3 := BlkV.frozen kR 3
  have rc4 := BlkV.cell kR 4 rfl
  have rz4 := BlkV.frozen kR 4
  go_upto_region 2 with fail
  go_cut [] (fun wx => ∃ a1 b1 a2 b2 : Nat, (a1 < 18446744073709551616 ∧ b1 < 18446744073709551616 ∧ A = a1 * 18446744073709551616 + b1) ∧ (a2 < 18446744073709551616 ∧ b2 < 18446744073709551616 ∧ B = a2 * 18446744073709551616 + b2) ∧ BlkV wx w.heap.size 107 [.bool s, .bool false, .int .u64 (a1), .int .u64 (b1), .int .i64 (xa)] ∧ BlkV wx (w.heap.size + 1) 107 [.bool t, .bool false, .int .u64 (a2), .int .u64 (b2), .int .i64 (xb)] ∧ BlkV wx (w.heap.size + 1 + 1) 107 [.bool false, .bool false, .int .u64 0, .int .u64 0, .int .i64 0] ∧ Fwd w wx)
  case first =>
    clear HY HH HN HO hH
    replace kV := kV.drew
    replace kW := kW.drew
    replace kR := kR.drew
    replace hF := hF.drew
    clear vc0 vz0 vc1 vz1 vc2 vz2 vc3 vz3 vc4 vz4
    clear wc0 wz0 wc1 wz1 wc2 wz2 wc3 wz3 wc4 wz4
    clear rc0 rz0 rc1 rz1 rc2 rz2 rc3 rz3 rc4 rz4
    have vc0 := BlkV.cell kV 0 rfl
    have vz0 := BlkV.frozen kV 0
    have vc1 := BlkV.cell kV 1 rfl
    have vz1 := BlkV.frozen kV 1
    have vc2 := BlkV.cell kV 2 rfl
    have vz2 := BlkV.frozen kV 2
    have vc3 := BlkV.cell kV 3 rfl
    have vz3 := BlkV.frozen kV 3
    have vc4 := BlkV.cell kV 4 rfl
    have vz4 := BlkV.frozen kV 4
    have wc0 := BlkV.cell kW 0 rfl
    have wz0 := BlkV.frozen kW 0
    have wc1 := BlkV.cell kW 1 rfl
    have wz1 := BlkV.frozen kW 1
    have wc2 := BlkV.cell kW 2 rfl
    have wz2 := BlkV.frozen kW 2
    have wc3 := BlkV.cell kW 3 rfl
    have wz3 := BlkV.frozen kW 3
    have wc4 := BlkV.cell kW 4 rfl
    have wz4 := BlkV.frozen kW 4
    have rc0 := BlkV.cell kR 0 rfl
    have rz0 := BlkV.frozen kR 0
    have rc1 := BlkV.cell kR 1 rfl
    have rz1 := BlkV.frozen kR 1
    have rc2 := BlkV.cell kR 2 rfl
    have rz2 := BlkV.frozen kR 2
    have rc3 := BlkV.cell kR 3 rfl
    have rz3 := BlkV.frozen kR 3
    have rc4 := BlkV.cell kR 4 rfl
    have rz4 := BlkV.frozen kR 4
    go_region_with (first
      | (go_at_call 113
         have _ := mk1
         refine (q2 _).mono ?_
         rintro e w4 ⟨u2, rfl, hf, a2, b2, rfl, m1, m2, m3⟩
         replace kV := kV.fwd hf
         replace kW := kW.fwd hf
         replace kR := kR.fwd hf
         replace hF := hF.trans hf
         clear hf
         clear vc0 vz0 vc1 vz1 vc2 vz2 vc3 vz3 vc4 vz4
         clear wc0 wz0 wc1 wz1 wc2 wz2 wc3 wz3 wc4 wz4
         clear rc0 rz0 rc1 rz1 rc2 rz2 rc3 rz3 rc4 rz4
         have vc0 := BlkV.cell kV 0 rfl
         have vz0 := BlkV.frozen kV 0
         have vc1 := BlkV.cell kV 1 rfl
         have vz1 := BlkV.frozen kV 1
         have vc2 := BlkV.cell kV 2 rfl
         have vz2 := BlkV.frozen kV 2
         have vc3 := BlkV.cell kV 3 rfl
         have vz3 := BlkV.frozen kV 3
         have vc4 := BlkV.cell kV 4 rfl
         have vz4 := BlkV.frozen kV 4
         have wc0 := BlkV.cell kW 0 rfl
         have wz0 := BlkV.frozen kW 0
         have wc1 := BlkV.cell kW 1 rfl
         have wz1 := BlkV.frozen kW 1
         have wc2 := BlkV.cell kW 2 rfl
         have wz2 := BlkV.frozen kW 2
         have wc3 := BlkV.cell kW 3 rfl
         have wz3 := BlkV.frozen kW 3
         have wc4 := BlkV.cell kW 4 rfl
         have wz4 := BlkV.frozen kW 4
         have rc0 := BlkV.cell kR 0 rfl
         have rz0 := BlkV.frozen kR 0
         have rc1 := BlkV.cell kR 1 rfl
         have rz1 := BlkV.frozen kR 1
         have rc2 := BlkV.cell kR 2 rfl
         have rz2 := BlkV.frozen kR 2
         have rc3 := BlkV.cell kR 3 rfl
         have rz3 := BlkV.frozen kR 3
         have rc4 := BlkV.cell kR 4 rfl
         have rz4 := BlkV.frozen kR 4
         have mk2 : True := trivial)
      | (go_at_call 113
         refine (q1 _).mono ?_
         rintro e w3 ⟨u1, rfl, hf, a1, b1, rfl, k1, k2, k3⟩
         replace kV := kV.fwd hf
         replace kW := kW.fwd hf
         replace kR := kR.fwd hf
         replace hF := hF.trans hf
         clear hf
         clear vc0 vz0 vc1 vz1 vc2 vz2 vc3 vz3 vc4 vz4
         clear wc0 wz0 wc1 wz1 wc2 wz2 wc3 wz3 wc4 wz4
         clear rc0 rz0 rc1 rz1 rc2 rz2 rc3 rz3 rc4 rz4
         have vc0 := BlkV.cell kV 0 rfl
         have vz0 := BlkV.frozen kV 0
         have vc1 := BlkV.cell kV 1 rfl
         have vz1 := BlkV.frozen kV 1
         have vc2 := BlkV.cell kV 2 rfl
         have vz2 := BlkV.frozen kV 2
         have vc3 := BlkV.cell kV 3 rfl
         have vz3 := BlkV.frozen kV 3
         have vc4 := BlkV.cell kV 4 rfl
         have vz4 := BlkV.frozen kV 4
         have wc0 := BlkV.cell kW 0 rfl
         have wz0 := BlkV.frozen kW 0
         have wc1 := BlkV.cell kW 1 rfl
         have wz1 := BlkV.frozen kW 1
         have wc2 := BlkV.cell kW 2 rfl
         have wz2 := BlkV.frozen kW 2
         have wc3 := BlkV.cell kW 3 rfl
         have wz3 := BlkV.frozen kW 3
         have wc4 := BlkV.cell kW 4 rfl
         have wz4 := BlkV.frozen kW 4
         have rc0 := BlkV.cell kR 0 rfl
         have rz0 := BlkV.frozen kR 0
         have rc1 := BlkV.cell kR 1 rfl
         have rz1 := BlkV.frozen kR 1
         have rc2 := BlkV.cell kR 2 rfl
         have rz2 := BlkV.frozen kR 2
         have rc3 := BlkV.cell kR 3 rfl
         have rz3 := BlkV.frozen kR 3
         have rc4 := BlkV.cell kR 4 rfl
         have rz4 := BlkV.frozen kR 4
         have mk1 : True := trivial))
    all_goals
      have t2 := BlkV.set kV 0 (.bool s)
      have st2 := BlkV.cell t2 0 rfl
      have t3 := BlkV.set t2 1 (.bool false)
      have st3 := BlkV.cell t3 1 rfl
      have t4 := BlkV.set t3 2 (.int .u64 (a1))
      have st4 := BlkV.cell t4 2 rfl
      have t5 := BlkV.set t4 3 (.int .u64 (b1))
      have st5 := BlkV.cell t5 3 rfl
      have t6 := BlkV.set t5 4 (.int .i64 (xa))
      have st6 := BlkV.cell t6 4 rfl
      have o6 := ((((BlkV.on kV 0 (.bool s)).setv 1 (.bool false)).setv 2 (.int .u64 (a1))).setv 3 (.int .u64 (b1))).setv 4 (.int .i64 (xa))
      replace kW := BlkV.only kW o6 (by omega)
      replace kR := BlkV.only kR o6 (by omega)
      replace hF := hF.wrote o6 (by omega)
      have kV := t6
      clear o6
      have t8 := BlkV.set kW 0 (.bool t)
      have st8 := BlkV.cell t8 0 rfl
      have t9 := BlkV.set t8 1 (.bool false)
      have st9 := BlkV.cell t9 1 rfl
      have t10 := BlkV.set t9 2 (.int .u64 (a2))
      have st10 := BlkV.cell t10 2 rfl
      have t11 := BlkV.set t10 3 (.int .u64 (b2))
      have st11 := BlkV.cell t11 3 rfl
      have t12 := BlkV.set t11 4 (.int .i64 (xb))
      have st12 := BlkV.cell t12 4 rfl
      have o12 := ((((BlkV.on kW 0 (.bool t)).setv 1 (.bool false)).setv 2 (.int .u64 (a2))).setv 3 (.int .u64 (b2))).setv 4 (.int .i64 (xb))
      replace kV := BlkV.only kV o12 (by omega)
      replace kR := BlkV.only kR o12 (by omega)
      replace hF := hF.wrote o12 (by omega)
      have kW := t12
      clear o12
      go_wp2_with fail
      go_meet
      exact ⟨a1, b1, a2, b2, ⟨k1, k2, k3⟩, ⟨m1, m2, m3⟩, kV, kW, kR, hF⟩
  case rest =>
    clear kV kW kR hF q1 q2 h1 h2 g1 g2
    clear vc0 vz0 vc1 vz1 vc2 vz2 vc3 vz3 vc4 vz4 wc0 wz0 wc1 wz1 wc2 wz2 wc3 wz3 wc4 wz4 rc0 rz0 rc1 rz1 rc2 rz2 rc3 rz3 rc4 rz4
    obtain ⟨a1, b1, a2, b2, ⟨h1, h2, h3⟩, ⟨g1, g2, g3⟩, kV, kW, kR, hF⟩ := hcut
    have hWV : WV (.agg #[.int .u64 a1, .int .u64 b1]) A := ⟨a1, b1, rfl, h1, h2, h3⟩
    obtain rfl : a2 = Y := by omega
    have hd := fun w => wdown_one (w := w) hWV
    rw [hH] at hd
    clear hWV h3 g3 hH HN
    have vc0 := BlkV.cell kV 0 rfl
    have vz0 := BlkV.frozen kV 0
    have vc1 := BlkV.cell kV 1 rfl
    have vz1 := BlkV.frozen kV 1
    have vc2 := BlkV.cell kV 2 rfl
    have vz2 := BlkV.frozen kV 2
    have vc3 := BlkV.cell kV 3 rfl
    have vz3 := BlkV.frozen kV 3
    have vc4 := BlkV.cell kV 4 rfl
    have vz4 := BlkV.frozen kV 4
    have wc0 := BlkV.cell kW 0 rfl
    have wz0 := BlkV.frozen kW 0
    have wc1 := BlkV.cell kW 1 rfl
    have wz1 := BlkV.frozen kW 1
    have wc2 := BlkV.cell kW 2 rfl
    have wz2 := BlkV.frozen kW 2
    have wc3 := BlkV.cell kW 3 rfl
    have wz3 := BlkV.frozen kW 3
    have wc4 := BlkV.cell kW 4 rfl
    have wz4 := BlkV.frozen kW 4
    have rc0 := BlkV.cell kR 0 rfl
    have rz0 := BlkV.frozen kR 0
    have rc1 := BlkV.cell kR 1 rfl
    have rz1 := BlkV.frozen kR 1
    have rc2 := BlkV.cell kR 2 rfl
    have rz2 := BlkV.frozen kR 2
    have rc3 := BlkV.cell kR 3 rfl
    have rz3 := BlkV.frozen kR 3
    have rc4 := BlkV.cell kR 4 rfl
    have rz4 := BlkV.frozen kR 4
    go_wp2_with fail
    refine (hd _).mono ?_
    rintro e w1 ⟨q, rfl, ⟨ah, bh, rfl, p1, p2, hp⟩, hf1⟩
    have dv := fun w => div64_any (w := w) ah bh a2 HY.1 HY.2.1 (by omega) (by omega) p2
    rw [← hp] at dv
    have hq : HF / a2 < 18446744073709551616 := by rw [Nat.div_lt_iff_lt_mul (by omega)]; omega
    have hr : HF % a2 < 18446744073709551616 := Nat.lt_trans (Nat.mod_lt _ (by omega)) HY.2.1
    have HQ := hid HO.out
    clear HO HY HH hp hd
    generalize HF / a2 = Q at *
    generalize HF % a2 = RM at *
    have rs' := fun w => (rest_stk w RM hr).mono (fun e w' h => And.intro h.1 (fwd_of_eq h.2))
    have hs := stk_lt RM
    replace kV := kV.fwd hf1
    replace kW := kW.fwd hf1
    replace kR := kR.fwd hf1
    replace hF := hF.trans hf1
    clear hf1
    clear vc0 vz0 vc1 vz1 vc2 vz2 vc3 vz3 vc4 vz4
    clear wc0 wz0 wc1 wz1 wc2 wz2 wc3 wz3 wc4 wz4
    clear rc0 rz0 rc1 rz1 rc2 rz2 rc3 rz3 rc4 rz4
    have vc0 := BlkV.cell kV 0 rfl
    have vz0 := BlkV.frozen kV 0
    have vc1 := BlkV.cell kV 1 rfl
    have vz1 := BlkV.frozen kV 1
    have vc2 := BlkV.cell kV 2 rfl
    have vz2 := BlkV.frozen kV 2
    have vc3 := BlkV.cell kV 3 rfl
    have vz3 := BlkV.frozen kV 3
    have vc4 := BlkV.cell kV 4 rfl
    have vz4 := BlkV.frozen kV 4
    have wc0 := BlkV.cell kW 0 rfl
    have wz0 := BlkV.frozen kW 0
    have wc1 := BlkV.cell kW 1 rfl
    have wz1 := BlkV.frozen kW 1
    have wc2 := BlkV.cell kW 2 rfl
    have wz2 := BlkV.frozen kW 2
    have wc3 := BlkV.cell kW 3 rfl
    have wz3 := BlkV.frozen kW 3
    have wc4 := BlkV.cell kW 4 rfl
    have wz4 := BlkV.frozen kW 4
    have rc0 := BlkV.cell kR 0 rfl
    have rz0 := BlkV.frozen kR 0
    have rc1 := BlkV.cell kR 1 rfl
    have rz1 := BlkV.frozen kR 1
    have rc2 := BlkV.cell kR 2 rfl
    have rz2 := BlkV.frozen kR 2
    have rc3 := BlkV.cell kR 3 rfl
    have rz3 := BlkV.frozen kR 3
    have rc4 := BlkV.cell kR 4 rfl
    have rz4 := BlkV.frozen kR 4
    have ltV1 := BlkV.lt kV
    have ltW1 := BlkV.lt kW
    have ltR1 := BlkV.lt kR
    have hfB : Fwd w1 (w1.alloc (.cells #[.int .u64 (ah), .int .u64 (bh)] 105)) := (Fwd.refl _).alloc _
    replace kV := kV.fwd hfB
    replace kW := kW.fwd hfB
    replace kR := kR.fwd hfB
    replace hF := hF.trans hfB
    clear hfB
    have kH := BlkV.made w1 105 [.int .u64 (ah), .int .u64 (bh)]
    go_upto_region 4 with fail
    clear vc0 vz0 vc1 vz1 vc2 vz2 vc3 vz3 vc4 vz4 wc0 wz0 wc1 wz1 wc2 wz2 wc3 wz3 wc4 wz4 rc0 rz0 rc1 rz1 rc2 rz2 rc3 rz3 rc4 rz4
    generalize (w1.alloc (.cells #[.int .u64 (ah), .int .u64 (bh)] 105)) = w2 at kH kV kW kR hF ⊢
    have vc0 := BlkV.cell kV 0 rfl
    have vz0 := BlkV.frozen kV 0
    have vc1 := BlkV.cell kV 1 rfl
    have vz1 := BlkV.frozen kV 1
    have vc2 := BlkV.cell kV 2 rfl
    have vz2 := BlkV.frozen kV 2
    have vc3 := BlkV.cell kV 3 rfl
    have vz3 := BlkV.frozen kV 3
    have vc4 := BlkV.cell kV 4 rfl
    have vz4 := BlkV.frozen kV 4
    have wc0 := BlkV.cell kW 0 rfl
    have wz0 := BlkV.frozen kW 0
    have wc1 := BlkV.cell kW 1 rfl
    have wz1 := BlkV.frozen kW 1
    have wc2 := BlkV.cell kW 2 rfl
    have wz2 := BlkV.frozen kW 2
    have wc3 := BlkV.cell kW 3 rfl
    have wz3 := BlkV.frozen kW 3
    have wc4 := BlkV.cell kW 4 rfl
    have wz4 := BlkV.frozen kW 4
    have rc0 := BlkV.cell kR 0 rfl
    have rz0 := BlkV.frozen kR 0
    have rc1 := BlkV.cell kR 1 rfl
    have rz1 := BlkV.frozen kR 1
    have rc2 := BlkV.cell kR 2 rfl
    have rz2 := BlkV.frozen kR 2
    have rc3 := BlkV.cell kR 3 rfl
    have rz3 := BlkV.frozen kR 3
    have rc4 := BlkV.cell kR 4 rfl
    have rz4 := BlkV.frozen kR 4
    have hc0 := BlkV.cell kH 0 rfl
    have hz0 := BlkV.frozen kH 0
    have hc1 := BlkV.cell kH 1 rfl
    have hz1 := BlkV.frozen kH 1
    replace dv := fun w => (dv w).mono (fun e w' h => And.intro h.1 (fwd_of_eq h.2))
    go_wp2_with fail
    refine (dv _).mono ?_
    rintro e w3 ⟨rfl, hf3⟩
    clear dv
    replace kV := kV.fwd hf3
    replace kW := kW.fwd hf3
    replace kR := kR.fwd hf3
    replace kH := kH.fwd hf3
    replace hF := hF.trans hf3
    clear hf3
    clear vc0 vz0 vc1 vz1 vc2 vz2 vc3 vz3 vc4 vz4
    clear wc0 wz0 wc1 wz1 wc2 wz2 wc3 wz3 wc4 wz4
    clear rc0 rz0 rc1 rz1 rc2 rz2 rc3 rz3 rc4 rz4
    clear hc0 hz0 hc1 hz1
    have vc0 := BlkV.cell kV 0 rfl
    have vz0 := BlkV.frozen kV 0
    have vc1 := BlkV.cell kV 1 rfl
    have vz1 := BlkV.frozen kV 1
    have vc2 := BlkV.cell kV 2 rfl
    have vz2 := BlkV.frozen kV 2
    have vc3 := BlkV.cell kV 3 rfl
    have vz3 := BlkV.frozen kV 3
    have vc4 := BlkV.cell kV 4 rfl
    have vz4 := BlkV.frozen kV 4
    have wc0 := BlkV.cell kW 0 rfl
    have wz0 := BlkV.frozen kW 0
    have wc1 := BlkV.cell kW 1 rfl
    have wz1 := BlkV.frozen kW 1
    have wc2 := BlkV.cell kW 2 rfl
    have wz2 := BlkV.frozen kW 2
    have wc3 := BlkV.cell kW 3 rfl
    have wz3 := BlkV.frozen kW 3
    have wc4 := BlkV.cell kW 4 rfl
    have wz4 := BlkV.frozen kW 4
    have rc0 := BlkV.cell kR 0 rfl
    have rz0 := BlkV.frozen kR 0
    have rc1 := BlkV.cell kR 1 rfl
    have rz1 := BlkV.frozen kR 1
    have rc2 := BlkV.cell kR 2 rfl
    have rz2 := BlkV.frozen kR 2
    have rc3 := BlkV.cell kR 3 rfl
    have rz3 := BlkV.frozen kR 3
    have rc4 := BlkV.cell kR 4 rfl
    have rz4 := BlkV.frozen kR 4
    have hc0 := BlkV.cell kH 0 rfl
    have hz0 := BlkV.frozen kH 0
    have hc1 := BlkV.cell kH 1 rfl
    have hz1 := BlkV.frozen kH 1
    have w1' : IntKind.i64.wrap (xa + 1) = xa + 1 := by simp [IntKind.wrap, IntKind.bits, IntKind.signed]; omega
    have w2' : IntKind.i64.wrap (xa + 1 - xb) = xa + 1 - xb := by simp [IntKind.wrap, IntKind.bits, IntKind.signed]; omega
    have w3' : IntKind.i64.wrap (xa + 1 - xb - 128) = xa + 1 - xb - 128 := by simp [IntKind.wrap, IntKind.bits, IntKind.signed]; omega
    generalize stk RM = sk at *
    go_wp2_with fail
    replace kV := kV.drew
    replace kW := kW.drew
    replace kR := kR.drew
    replace kH := kH.drew
    replace hF := hF.drew
    clear vc0 vz0 vc1 vz1 vc2 vz2 vc3 vz3 vc4 vz4
    clear wc0 wz0 wc1 wz1 wc2 wz2 wc3 wz3 wc4 wz4
    clear rc0 rz0 rc1 rz1 rc2 rz2 rc3 rz3 rc4 rz4
    clear hc0 hz0 hc1 hz1
    have vc0 := BlkV.cell kV 0 rfl
    have vz0 := BlkV.frozen kV 0
    have vc1 := BlkV.cell kV 1 rfl
    have vz1 := BlkV.frozen kV 1
    have vc2 := BlkV.cell kV 2 rfl
    have vz2 := BlkV.frozen kV 2
    have vc3 := BlkV.cell kV 3 rfl
    have vz3 := BlkV.frozen kV 3
    have vc4 := BlkV.cell kV 4 rfl
    have vz4 := BlkV.frozen kV 4
    have wc0 := BlkV.cell kW 0 rfl
    have wz0 := BlkV.frozen kW 0
    have wc1 := BlkV.cell kW 1 rfl
    have wz1 := BlkV.frozen kW 1
    have wc2 := BlkV.cell kW 2 rfl
    have wz2 := BlkV.frozen kW 2
    have wc3 := BlkV.cell kW 3 rfl
    have wz3 := BlkV.frozen kW 3
    have wc4 := BlkV.cell kW 4 rfl
    have wz4 := BlkV.frozen kW 4
    have rc0 := BlkV.cell kR 0 rfl
    have rz0 := BlkV.frozen kR 0
    have rc1 := BlkV.cell kR 1 rfl
    have rz1 := BlkV.frozen kR 1
    have rc2 := BlkV.cell kR 2 rfl
    have rz2 := BlkV.frozen kR 2
    have rc3 := BlkV.cell kR 3 rfl
    have rz3 := BlkV.frozen kR 3
    have rc4 := BlkV.cell kR 4 rfl
    have rz4 := BlkV.frozen kR 4
    have hc0 := BlkV.cell kH 0 rfl
    have hz0 := BlkV.frozen kH 0
    have hc1 := BlkV.cell kH 1 rfl
    have hz1 := BlkV.frozen kH 1
    go_region_held3 (fun w' => w'.cell? ⟨w.heap.size, 0, none⟩ = some (.bool s) ∧ w'.cell? ⟨w.heap.size, 1, none⟩ = some (.bool false) ∧ w'.cell? ⟨w.heap.size, 2, none⟩ = some (.int .u64 (a1)) ∧ w'.cell? ⟨w.heap.size, 3, none⟩ = some (.int .u64 (b1)) ∧ w'.cell? ⟨w.heap.size, 4, none⟩ = some (.int .i64 (xa)) ∧ w'.cell? ⟨(w.heap.size + 1), 0, none⟩ = some (.bool t) ∧ w'.cell? ⟨(w.heap.size + 1), 1, none⟩ = some (.bool false) ∧ w'.cell? ⟨(w.heap.size + 1), 2, none⟩ = some (.int .u64 (a2)) ∧ w'.cell? ⟨(w.heap.size + 1), 3, none⟩ = some (.int .u64 (b2)) ∧ w'.cell? ⟨(w.heap.size + 1), 4, none⟩ = some (.int .i64 (xb)))
      (first | exact ⟨by with_reducible assumption, by with_reducible assumption, by with_reducible assumption, by with_reducible assumption, by with_reducible assumption, by with_reducible assumption, by with_reducible assumption, by with_reducible assumption, by with_reducible assumption, by with_reducible assumption⟩ | exact ⟨(farset (by simp; try omega) (farset (by simp; try omega) (farset (by simp; try omega) (farset (by simp; try omega) (farset (by simp; try omega) (by with_reducible assumption)))))), (farset (by simp; try omega) (farset (by simp; try omega) (farset (by simp; try omega) (farset (by simp; try omega) (farset (by simp; try omega) (by with_reducible assumption)))))), (farset (by simp; try omega) (farset (by simp; try omega) (farset (by simp; try omega) (farset (by simp; try omega) (farset (by simp; try omega) (by with_reducible assumption)))))), (farset (by simp; try omega) (farset (by simp; try omega) (farset (by simp; try omega) (farset (by simp; try omega) (farset (by simp; try omega) (by with_reducible assumption)))))), (farset (by simp; try omega) (farset (by simp; try omega) (farset (by simp; try omega) (farset (by simp; try omega) (farset (by simp; try omega) (by with_reducible assumption)))))), (farset (by simp; try omega) (farset (by simp; try omega) (farset (by simp; try omega) (farset (by simp; try omega) (farset (by simp; try omega) (by with_reducible assumption)))))), (farset (by simp; try omega) (farset (by simp; try omega) (farset (by simp; try omega) (farset (by simp; try omega) (farset (by simp; try omega) (by with_reducible assumption)))))), (farset (by simp; try omega) (farset (by simp; try omega) (farset (by simp; try omega) (farset (by simp; try omega) (farset (by simp; try omega) (by with_reducible assumption)))))), (farset (by simp; try omega) (farset (by simp; try omega) (farset (by simp; try omega) (farset (by simp; try omega) (farset (by simp; try omega) (by with_reducible assumption)))))), (farset (by simp; try omega) (farset (by simp; try omega) (farset (by simp; try omega) (farset (by simp; try omega) (farset (by simp; try omega) (by with_reducible assumption))))))⟩)
      (first
        | (go_at_call 121
           refine (rs' _).mono ?_
           rintro e w90 ⟨rfl, hf90⟩
           replace kV := kV.fwd hf90
           replace kW := kW.fwd hf90
           replace kR := kR.fwd hf90
           replace kH := kH.fwd hf90
           replace hF := hF.trans hf90
           clear hf90
           clear vc0 vz0 vc1 vz1 vc2 vz2 vc3 vz3 vc4 vz4
           clear wc0 wz0 wc1 wz1 wc2 wz2 wc3 wz3 wc4 wz4
           clear rc0 rz0 rc1 rz1 rc2 rz2 rc3 rz3 rc4 rz4
           clear hc0 hz0 hc1 hz1
           have vc0 := BlkV.cell kV 0 rfl
           have vz0 := BlkV.frozen kV 0
           have vc1 := BlkV.cell kV 1 rfl
           have vz1 := BlkV.frozen kV 1
           have vc2 := BlkV.cell kV 2 rfl
           have vz2 := BlkV.frozen kV 2
           have vc3 := BlkV.cell kV 3 rfl
           have vz3 := BlkV.frozen kV 3
           have vc4 := BlkV.cell kV 4 rfl
           have vz4 := BlkV.frozen kV 4
           have wc0 := BlkV.cell kW 0 rfl
           have wz0 := BlkV.frozen kW 0
           have wc1 := BlkV.cell kW 1 rfl
           have wz1 := BlkV.frozen kW 1
           have wc2 := BlkV.cell kW 2 rfl
           have wz2 := BlkV.frozen kW 2
           have wc3 := BlkV.cell kW 3 rfl
           have wz3 := BlkV.frozen kW 3
           have wc4 := BlkV.cell kW 4 rfl
           have wz4 := BlkV.frozen kW 4
           have rc0 := BlkV.cell kR 0 rfl
           have rz0 := BlkV.frozen kR 0
           have rc1 := BlkV.cell kR 1 rfl
           have rz1 := BlkV.frozen kR 1
           have rc2 := BlkV.cell kR 2 rfl
           have rz2 := BlkV.frozen kR 2
           have rc3 := BlkV.cell kR 3 rfl
           have rz3 := BlkV.frozen kR 3
           have rc4 := BlkV.cell kR 4 rfl
           have rz4 := BlkV.frozen kR 4
           have hc0 := BlkV.cell kH 0 rfl
           have hz0 := BlkV.frozen kH 0
           have hc1 := BlkV.cell kH 1 rfl
           have hz1 := BlkV.frozen kH 1))
    go_wp2
    have r0 := BlkV.set kR 0 (.bool st)
    have rs0 := BlkV.cell r0 0 rfl
    have r1 := BlkV.set r0 1 (.bool false)
    have rs1 := BlkV.cell r1 1 rfl
    have r2 := BlkV.set r1 2 (.int .u64 (Q))
    have rs2 := BlkV.cell r2 2 rfl
    have r3 := BlkV.set r2 3 (.int .u64 (sk))
    have rs3 := BlkV.cell r3 3 rfl
    have r4 := BlkV.set r3 4 (.int .i64 (xa + 1 - xb - 128))
    have rs4 := BlkV.cell r4 4 rfl
    refine bodyPost_ret (by simp [results, Tryz.results110, go_sem, rs0, rs1, rs2, rs3, rs4]; try rfl) rfl ?_
    exact ⟨_, rfl, (((((hF).set (by omega)).set (by omega)).set (by omega)).set (by omega)).set (by omega), (by rw [HQ.out]; exact ⟨Q, sk, rfl, hq, by omega, rfl⟩)⟩
end Go.Proofs.YtcfhajnboamnnabGreatDoor
