/- sfloat's lifted. -/
import Derived.Test.YtfegepkhfckamaaGreatDoorXF4
namespace Go.Proofs.YtfegepkhfckamaaGreatDoor
open Go.RowKit
set_option linter.unusedVariables false

/-- The shift that leaves so much room. -/
def lsh (n r : Nat) : Nat := 128 - blen n - r
theorem blen_pos {n : Nat} (h : n ≠ 0) : 1 ≤ blen n := by unfold blen; rw [if_neg h]; omega
theorem lt_blen (n : Nat) : n < 2 ^ blen n := (blen_le_iff n _).1 (Nat.le_refl _)
theorem lift_lt {n r : Nat} (h : n ≠ 0) (hn : n < 340282366920938463463374607431768211456) : n * 2 ^ lsh n r < 340282366920938463463374607431768211456 := by
  have hb : blen n ≤ 128 := (blen_le_iff n 128).2 hn
  have h1 := lt_blen n
  have h2 : n * 2 ^ lsh n r < 2 ^ blen n * 2 ^ lsh n r := Nat.mul_lt_mul_of_pos_right h1 (Nat.two_pow_pos _)
  rw [← Nat.pow_add] at h2
  have h3 : 2 ^ (blen n + lsh n r) ≤ 2 ^ 128 := Nat.pow_le_pow_right (by omega) (by unfold lsh; omega)
  exact Nat.lt_of_lt_of_le h2 h3

set_option maxHeartbeats 4000000 in
set_option maxRecDepth 100000 in
theorem lifted_any {w : World} {v : Value} {s en : Bool} {n r : Nat} {x : Int} (h : VV v s en n x) (hn : n ≠ 0) (hr : r + blen n ≤ 128) (hx1 : -1000000 ≤ x) (hx2 : x ≤ 1000000) :
    Calls Tryz.prog 59 #[v, .int .i64 r] w fun e w' => ∃ u, e = .returned u ∧ Fwd w w' ∧ VV u s en (n * 2 ^ lsh n r) (x - lsh n r) := by
  have hlt := lift_lt (r := r) hn h.lt
  have hp := blen_pos hn
  obtain ⟨a, b, rfl, h1, h2, hab⟩ := h
  have hw : WV (.agg #[.int .u64 a, .int .u64 b]) n := ⟨a, b, rfl, h1, h2, hab⟩
  have hs : lsh n r ≤ 127 := by unfold lsh; omega
  have hsub : ((128 - blen n : Nat) : Int) - r = (lsh n r : Int) := by unfold lsh; omega
  have hlen : 128 - blen n ≤ 128 := by omega
  have hrr : r ≤ 128 := by omega
  have c1 := fun w => wfree_any (w := w) hw
  have c2 := fun w => wup_any (w := w) hw hs hlt
  generalize lsh n r = k at *
  generalize n * 2 ^ k = N at *
  generalize 128 - blen n = fr at *
  clear hw hlt hab hn hp hr
  have kB : BlkV ((w.alloc (.cells #[.bool s, .bool en, .int .u64 a, .int .u64 b, .int .i64 x] 80)).alloc (.cells #[.bool false, .bool false, .int .u64 0, .int .u64 0, .int .i64 0] 80)) w.heap.size 80 [.bool s, .bool en, .int .u64 a, .int .u64 b, .int .i64 x] := (BlkV.made w _ [.bool s, .bool en, .int .u64 a, .int .u64 b, .int .i64 x]).alloc _
  have kR : BlkV ((w.alloc (.cells #[.bool s, .bool en, .int .u64 a, .int .u64 b, .int .i64 x] 80)).alloc (.cells #[.bool false, .bool false, .int .u64 0, .int .u64 0, .int .i64 0] 80)) (w.heap.size + 1) 80 [.bool false, .bool false, .int .u64 0, .int .u64 0, .int .i64 0] := BlkV.made' _ _ (by simp) _ [.bool false, .bool false, .int .u64 0, .int .u64 0, .int .i64 0]
  have hF : Fwd w ((w.alloc (.cells #[.bool s, .bool en, .int .u64 a, .int .u64 b, .int .i64 x] 80)).alloc (.cells #[.bool false, .bool false, .int .u64 0, .int .u64 0, .int .i64 0] 80)) := ((Fwd.refl w).alloc _).alloc _
  go_enter Tryz.func59, Tryz.ntmps59
  go_wp2_with fail
  refine (c1 _).mono ?_
  rintro e w1 ⟨rfl, hf1⟩
  replace kB := kB.fwd hf1
  replace kR := kR.fwd hf1
  replace hF := hF.trans hf1
  clear hf1
  have b2 := BlkV.cell kB 2 rfl
  have b3 := BlkV.cell kB 3 rfl
  go_wp2_with fail
  refine (c2 _).mono ?_
  rintro e w2 ⟨u, rfl, ⟨a', b', rfl, g1, g2, hN⟩, hf2⟩
  replace kB := kB.fwd hf2
  replace kR := kR.fwd hf2
  replace hF := hF.trans hf2
  clear hf2 b2 b3
  have HN := hid hN
  clear hN
  have b0 := BlkV.cell kB 0 rfl
  have b1 := BlkV.cell kB 1 rfl
  have b2 := BlkV.cell kB 2 rfl
  have b3 := BlkV.cell kB 3 rfl
  have b4 := BlkV.cell kB 4 rfl
  have z2 := BlkV.frozen kB 2
  have z3 := BlkV.frozen kB 3
  have z4 := BlkV.frozen kB 4
  have r0 := BlkV.cell kR 0 rfl
  have r1 := BlkV.cell kR 1 rfl
  have r2 := BlkV.cell kR 2 rfl
  have r3 := BlkV.cell kR 3 rfl
  have r4 := BlkV.cell kR 4 rfl
  have y0 := BlkV.frozen kR 0
  have y1 := BlkV.frozen kR 1
  have y2 := BlkV.frozen kR 2
  have y3 := BlkV.frozen kR 3
  have y4 := BlkV.frozen kR 4
  go_wp2
  have o1 := ((Only.set w.heap.size w2 2 (.int .u64 (a' : Int))).setv 3 (.int .u64 (b' : Int))).setv 4 (.int .i64 (x - k))
  have kR3 := BlkV.only kR o1 (by omega)
  have t0 := BlkV.set kR3 0 (.bool s)
  have st0 := BlkV.cell t0 0 rfl
  have t1 := BlkV.set t0 1 (.bool en)
  have st1 := BlkV.cell t1 1 rfl
  have t2 := BlkV.set t1 2 (.int .u64 (a' : Int))
  have st2 := BlkV.cell t2 2 rfl
  have t3 := BlkV.set t2 3 (.int .u64 (b' : Int))
  have st3 := BlkV.cell t3 3 rfl
  have t4 := BlkV.set t3 4 (.int .i64 (x - k))
  have st4 := BlkV.cell t4 4 rfl
  refine bodyPost_ret (by simp [results, Tryz.results59, go_sem, st0, st1, st2, st3, st4]; try rfl) rfl ?_
  exact ⟨_, rfl, ((((((((hF.set (by omega)).set (by omega)).set (by omega)).set (by omega)).set (by omega)).set (by omega)).set (by omega)).set (by omega)), ⟨a', b', rfl, g1, g2, HN.out⟩⟩
end Go.Proofs.YtfegepkhfckamaaGreatDoor
