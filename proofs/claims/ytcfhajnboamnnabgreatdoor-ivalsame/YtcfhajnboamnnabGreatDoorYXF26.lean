/- sfloat's Of: a rational number, rounded. -/
/- sfloat's rank, Cmp, Next. -/
/- ival's Of, Right, below. -/
import Derived.Test.YtcfhajnboamnnabGreatDoorXF25
import Derived.Test.YtcfhajnboamnnabGreatDoorYXFM
namespace Go.Proofs.YtcfhajnboamnnabGreatDoor
open Go.RowKit
set_option linter.unusedVariables false
set_option linter.unusedSimpArgs false

theorem ratio_any {w : World} {v : Value} {s : Bool} {N D : Nat} (h : RW w v s N D) (bN : nl N ≤ 10000) (bD : nl D ≤ 10000) (hD0 : D ≠ 0) :
    Calls Tryz.prog 93 #[v] w fun e w' => ∃ r, e = .returned r ∧ Fwd w w' ∧ VT r (ratV s N D) := by
  obtain ⟨vN, vD, rfl, hN, hD⟩ := h
  by_cases c : rtS N D = 0
  · exact ratio_zero hN hD bN bD hD0 c
  · by_cases d : 0 < rtS N D
    · exact ratio_up (k := (rtS N D).toNat) hN hD bN bD hD0 (by omega) (by omega)
    · exact ratio_down (k := (-(rtS N D)).toNat) hN hD bN bD hD0 (by omega) (by omega)

/-- A number, rounded. -/
def ofQ (m : Int) (s : Bool) (N D : Nat) : Nat × Nat := rdV m (ratV s N D)

theorem ratV_ex (s : Bool) {N D : Nat} (bN : nl N ≤ 10000) (bD : nl D ≤ 10000) : -1000000 ≤ (ratV s N D).2.2.2 ∧ (ratV s N D).2.2.2 ≤ 1000000 := by
  have b1 := blen_nl N
  have b2 := blen_nl D
  show -1000000 ≤ -(rtS N D) - 64 ∧ -(rtS N D) - 64 ≤ 1000000
  unfold rtS
  omega

set_option maxHeartbeats 8000000 in
set_option maxRecDepth 100000 in
theorem ofQ_any {w : World} {v : Value} {s : Bool} {N D : Nat} (hR : Ru w) (m : Int) (h : RW w v s N D) (bN : nl N ≤ 10000) (bD : nl D ≤ 10000) (hD0 : D ≠ 0) :
    Calls Tryz.prog 55 #[v, .int .i64 m] w fun e w' => e = .returned (.tuple #[.int .u64 ((ofQ m s N D).1 : Nat), .int .i64 ((ofQ m s N D).2 : Nat)]) ∧ Fwd w w' := by
  have c1 := fun (w' : World) (h : Fwd w w') => ruleOf_any m (hR.fwd h)
  have c2 := fun (w' : World) (g : Fwd w w') => ratio_any (h.fwd g) bN bD hD0
  have hex := ratV_ex s bN bD
  have HZ : Hid (ofQ m s N D = rdV m (ratV s N D)) := hid rfl
  generalize ratV s N D = V at *
  obtain ⟨s', en', n', x'⟩ := V
  have c3 := fun (w' : World) (u : Value) (hu : VV u s' en' n' x') => round_any (w := w') m hu hex.1 hex.2
  rw [← HZ.out] at c3
  clear HZ hex hR
  generalize ofQ m s N D = Z at *
  obtain ⟨z1, z2⟩ := Z
  obtain ⟨xo, xc, yo, yc, rfl, x1, x2, x3, x4, -, -⟩ := RW.open h
  clear h
  generalize ruleV m = rv at *
  have kA : BlkV (w.alloc (.cells #[.bool s, .slice xo (nl N) xc, .slice yo (nl D) yc] 27)) (w.heap.size) 27 [.bool s, .slice xo (nl N) xc, .slice yo (nl D) yc] := BlkV.made' w (w.heap.size) (by simp) 27 [.bool s, .slice xo (nl N) xc, .slice yo (nl D) yc]
  have hF : Fwd w (w.alloc (.cells #[.bool s, .slice xo (nl N) xc, .slice yo (nl D) yc] 27)) := (Fwd.refl w).alloc _
  go_enter Tryz.func55, Tryz.ntmps55
  have ac0 := BlkV.cell kA 0 rfl
  have az0 := BlkV.frozen kA 0
  have ac1 := BlkV.cell kA 1 rfl
  have az1 := BlkV.frozen kA 1
  have ac2 := BlkV.cell kA 2 rfl
  have az2 := BlkV.frozen kA 2
  go_wp2_with fail
  replace kA := kA.drew
  replace hF := hF.drew
  clear ac0 az0 ac1 az1 ac2 az2
  have ac0 := BlkV.cell kA 0 rfl
  have az0 := BlkV.frozen kA 0
  have ac1 := BlkV.cell kA 1 rfl
  have az1 := BlkV.frozen kA 1
  have ac2 := BlkV.cell kA 2 rfl
  have az2 := BlkV.frozen kA 2
  refine wp_region_held_drew (S := fun w' => w'.cell? ⟨w.heap.size, 0, none⟩ = some (.bool s) ∧ w'.cell? ⟨w.heap.size, 1, none⟩ = some (.slice xo (nl N) xc) ∧ w'.cell? ⟨w.heap.size, 2, none⟩ = some (.slice yo (nl D) yc)) (by kernel_rfl) ⟨by with_reducible assumption, by with_reducible assumption, by with_reducible assumption⟩ (fun hHeld => ?_)
  refine wpAnyH_take (i := 0) (oi := ?oi1_0) (v := ?vv1_0) ?hi1_0 (by kernel_rfl) (by kernel_rfl) (by kernel_rfl) ?hq1_0 ?hy1_0 hHeld ?rest1_0
  case hi1_0 => (simp only [List.getElem?_toArray, List.getElem?_cons_succ, List.getElem?_cons_zero]; rfl)
  case hq1_0 => exact fun _ _ _ h => h
  case hy1_0 =>
    refine Or.inl ⟨by rfl, ?_⟩
    intro wS hSw
    try dsimp only at hSw
    obtain ⟨q0, q1, q2⟩ := hSw
    go_simp
    try with_reducible rfl
  simp only [Act.put, List.setIfInBounds_toArray, List.set_cons_zero, List.set_cons_succ]
  refine wpAnyH_take (i := 2) (oi := ?oi2_2) (v := ?vv2_2) ?hi2_2 (by kernel_rfl) (by kernel_rfl) (by kernel_rfl) ?hq2_2 ?hy2_2 hHeld ?rest2_2
  case hi2_2 => (simp only [List.getElem?_toArray, List.getElem?_cons_succ, List.getElem?_cons_zero]; rfl)
  case hq2_2 => exact fun _ _ _ h => h
  case hy2_2 =>
    refine Or.inl ⟨by rfl, ?_⟩
    intro wS hSw
    try dsimp only at hSw
    obtain ⟨q0, q1, q2⟩ := hSw
    go_simp
    try with_reducible rfl
  simp only [Act.put, List.setIfInBounds_toArray, List.set_cons_zero, List.set_cons_succ]
  refine wpAnyH_ready (rs := [1]) (by kernel_rfl) (by simp) ?_
  refine AllReadyH.cons rfl (fun K hK => ?_) AllReadyH.nil
  go_simp
  refine (c1 _ hF).mono ?_
  rintro e w1 ⟨rfl, hf1⟩
  replace kA := kA.fwd hf1
  replace hF := hF.trans hf1
  clear hf1
  clear ac0 az0 ac1 az1 ac2 az2
  have ac0 := BlkV.cell kA 0 rfl
  have az0 := BlkV.frozen kA 0
  have ac1 := BlkV.cell kA 1 rfl
  have az1 := BlkV.frozen kA 1
  have ac2 := BlkV.cell kA 2 rfl
  have az2 := BlkV.frozen kA 2
  go_wp2_with fail
  clear hHeld
  refine hK.out _ _ ⟨by with_reducible assumption, by with_reducible assumption, by with_reducible assumption⟩ (fun hHeld => ?_)
  clear hK K
  try simp only [Act.put, List.setIfInBounds_toArray, List.set_cons_zero, List.set_cons_succ]
  refine wpAnyH_ready (rs := [3]) (by kernel_rfl) (by simp) ?_
  refine AllReadyH.cons rfl (fun K hK => ?_) AllReadyH.nil
  go_simp
  refine (c2 _ hF).mono ?_
  rintro e w2 ⟨r, rfl, hf2, hV⟩
  replace kA := kA.fwd hf2
  replace hF := hF.trans hf2
  clear hf2
  clear ac0 az0 ac1 az1 ac2 az2
  have ac0 := BlkV.cell kA 0 rfl
  have az0 := BlkV.frozen kA 0
  have ac1 := BlkV.cell kA 1 rfl
  have az1 := BlkV.frozen kA 1
  have ac2 := BlkV.cell kA 2 rfl
  have az2 := BlkV.frozen kA 2
  go_wp2_with fail
  clear hHeld
  refine hK.out _ _ ⟨by with_reducible assumption, by with_reducible assumption, by with_reducible assumption⟩ (fun hHeld => ?_)
  clear hK K
  try simp only [Act.put, List.setIfInBounds_toArray, List.set_cons_zero, List.set_cons_succ]
  refine wpAnyH_ready (rs := [4]) (by kernel_rfl) (by simp) ?_
  refine AllReadyH.cons rfl (fun K hK => ?_) AllReadyH.nil
  go_simp
  refine (c3 _ r hV).mono ?_
  rintro e w3 ⟨rfl, hf3⟩
  replace kA := kA.fwd hf3
  replace hF := hF.trans hf3
  clear hf3
  clear ac0 az0 ac1 az1 ac2 az2
  have ac0 := BlkV.cell kA 0 rfl
  have az0 := BlkV.frozen kA 0
  have ac1 := BlkV.cell kA 1 rfl
  have az1 := BlkV.frozen kA 1
  have ac2 := BlkV.cell kA 2 rfl
  have az2 := BlkV.frozen kA 2
  go_wp2_with fail
  clear hHeld
  refine hK.out _ _ ⟨by with_reducible assumption, by with_reducible assumption, by with_reducible assumption⟩ (fun hHeld => ?_)
  clear hK K
  try simp only [Act.put, List.setIfInBounds_toArray, List.set_cons_zero, List.set_cons_succ]
  refine wpAnyH_take (i := 5) (oi := ?oi3_5) (v := ?vv3_5) ?hi3_5 (by kernel_rfl) (by kernel_rfl) (by kernel_rfl) ?hq3_5 ?hy3_5 hHeld ?rest3_5
  case hi3_5 => (simp only [List.getElem?_toArray, List.getElem?_cons_succ, List.getElem?_cons_zero]; rfl)
  case hq3_5 => exact fun _ _ _ h => h
  case hy3_5 =>
    refine Or.inl ⟨by rfl, ?_⟩
    intro wS hSw
    try dsimp only at hSw
    obtain ⟨q0, q1, q2⟩ := hSw
    go_simp
    try with_reducible rfl
  simp only [Act.put, List.setIfInBounds_toArray, List.set_cons_zero, List.set_cons_succ]
  refine wpAnyH_take (i := 6) (oi := ?oi4_6) (v := ?vv4_6) ?hi4_6 (by kernel_rfl) (by kernel_rfl) (by kernel_rfl) ?hq4_6 ?hy4_6 hHeld ?rest4_6
  case hi4_6 => (simp only [List.getElem?_toArray, List.getElem?_cons_succ, List.getElem?_cons_zero]; rfl)
  case hq4_6 => exact fun _ _ _ h => h
  case hy4_6 =>
    refine Or.inl ⟨by rfl, ?_⟩
    intro wS hSw
    try dsimp only at hSw
    obtain ⟨q0, q1, q2⟩ := hSw
    go_simp
    try with_reducible rfl
  simp only [Act.put, List.setIfInBounds_toArray, List.set_cons_zero, List.set_cons_succ]
  refine wpAnyH_take (i := 7) (oi := ?oi5_7) (v := ?vv5_7) ?hi5_7 (by kernel_rfl) (by kernel_rfl) (by kernel_rfl) ?hq5_7 ?hy5_7 hHeld ?rest5_7
  case hi5_7 => (simp only [List.getElem?_toArray, List.getElem?_cons_succ, List.getElem?_cons_zero]; rfl)
  case hq5_7 => exact fun _ _ _ h => h
  case hy5_7 =>
    refine Or.inl ⟨by rfl, ?_⟩
    intro wS hSw
    try dsimp only at hSw
    obtain ⟨q0, q1, q2⟩ := hSw
    go_simp
    try with_reducible rfl
  simp only [Act.put, List.setIfInBounds_toArray, List.set_cons_zero, List.set_cons_succ]
  refine wpAnyH_take (i := 8) (oi := ?oi6_8) (v := ?vv6_8) ?hi6_8 (by kernel_rfl) (by kernel_rfl) (by kernel_rfl) ?hq6_8 ?hy6_8 hHeld ?rest6_8
  case hi6_8 => (simp only [List.getElem?_toArray, List.getElem?_cons_succ, List.getElem?_cons_zero]; rfl)
  case hq6_8 => exact fun _ _ _ h => h
  case hy6_8 =>
    refine Or.inl ⟨by rfl, ?_⟩
    intro wS hSw
    try dsimp only at hSw
    obtain ⟨q0, q1, q2⟩ := hSw
    go_simp
    try with_reducible rfl
  simp only [Act.put, List.setIfInBounds_toArray, List.set_cons_zero, List.set_cons_succ]
  refine wpAnyH_done (by kernel_rfl) ?_ _
  go_wp2
  go_ret2
  exact ⟨ret_pair rfl rfl, hF⟩
end Go.Proofs.YtcfhajnboamnnabGreatDoor

namespace Go.Proofs.YtcfhajnboamnnabGreatDoor
open Go.RowKit
set_option linter.unusedVariables false
set_option linter.unusedSimpArgs false

/-- A float's place among all; the order of two numbers, of two floats; the next float. -/
def rk (f : Nat) : Int := if fneg f then -(fsz f : Int) else (fsz f : Int)
def cmpI (x y : Int) : Int := if x < y then -1 else if y < x then 1 else 0
def cmpF (f g : Nat) : Int × Bool := if isNan f || isNan g then (0, false) else (cmpI (rk f) (rk g), true)
def nxF (f : Nat) (up : Bool) : Nat := if isNan f then 9221120237041090560 else if fsz f = 0 then (if up then 1 else 9223372036854775809) else if fneg f = up then f - 1 else if fsz f = 9218868437227405312 then f else f + 1
theorem isNone_nan' {w : World} (f : Nat) (hf : f < 18446744073709551616) : Calls Tryz.prog 88 #[.int .u64 f] w fun e w' => e = .returned (.bool (isNan f)) ∧ w' = w := isNone_any f hf
theorem rk_lo (f : Nat) : -9223372036854775808 < rk f ∧ rk f < 9223372036854775808 := by
  have := fsz_lt f
  unfold rk; split <;> omega
theorem ret_ib {k : IntKind} {a c : Int} {b d : Bool} (h : a = c) (g : b = d) : Ending.returned (.tuple #[.int k a, .bool b]) = .returned (.tuple #[.int k c, .bool d]) := by rw [h, g]

set_option maxHeartbeats 4000000 in
theorem rank_any {w : World} (f : Nat) (hf : f < 18446744073709551616) : Calls Tryz.prog 90 #[.int .u64 f] w fun e w' => e = .returned (.int .i64 (rk f)) ∧ w' = w := by
  have h1 := andNot_sign f hf
  have h2 := and_sign_ne f hf
  have h3 := fsz_lt f
  unfold rk
  generalize fsz f = z at *
  generalize fneg f = s at *
  have h4 : IntKind.i64.wrap (z : Int) = z := by simp [IntKind.wrap, IntKind.bits, IntKind.signed]; omega
  cases s
  · go_enter Tryz.func90, Tryz.ntmps90
    go_wp2
    go_ret
    exact ⟨ret_int (by simp), rfl⟩
  · go_enter Tryz.func90, Tryz.ntmps90
    go_wp2
    go_ret
    exact ⟨ret_int (by simp), rfl⟩

set_option maxHeartbeats 4000000 in
theorem compare_any {w : World} (x y : Int) : Calls Tryz.prog 89 #[.int .i64 x, .int .i64 y] w fun e w' => e = .returned (.int .i64 (cmpI x y)) ∧ w' = w := by
  unfold cmpI
  by_cases c : x < y
  · have i1 : decide (x < y) = true := decide_eq_true c
    rw [if_pos c]
    go_enter Tryz.func89, Tryz.ntmps89
    go_wp2
    go_ret
    exact ⟨rfl, rfl⟩
  · have i1 : decide (x < y) = false := decide_eq_false c
    rw [if_neg c]
    by_cases d : y < x
    · have i2 : decide (y < x) = true := decide_eq_true d
      rw [if_pos d]
      go_enter Tryz.func89, Tryz.ntmps89
      go_wp2
      go_ret
      exact ⟨rfl, rfl⟩
    · have i2 : decide (y < x) = false := decide_eq_false d
      rw [if_neg d]
      go_enter Tryz.func89, Tryz.ntmps89
      go_wp2
      go_ret
      exact ⟨rfl, rfl⟩

set_option maxHeartbeats 4000000 in
theorem cmpF_any {w : World} (f g : Nat) (hf : f < 18446744073709551616) (hg : g < 18446744073709551616) : Calls Tryz.prog 52 #[.int .u64 f, .int .u64 g] w fun e w' => e = .returned (.tuple #[.int .i64 (cmpF f g).1, .bool (cmpF f g).2]) ∧ w' = w := by
  have n1 := fun w => isNone_nan' (w := w) f hf
  have n2 := fun w => isNone_nan' (w := w) g hg
  have r1 := fun w => rank_any (w := w) f hf
  have r2 := fun w => rank_any (w := w) g hg
  have cc := fun w => compare_any (w := w) (rk f) (rk g)
  unfold cmpF
  generalize rk f = x at *
  generalize rk g = y at *
  generalize cmpI x y = o at *
  generalize isNan f = a at *
  generalize isNan g = b at *
  cases a
  · cases b
    · go_enter Tryz.func52, Tryz.ntmps52
      go_wp2_with fail
      refine (n1 _).mono ?_
      rintro e wq ⟨rfl, rfl⟩
      go_wp2_with fail
      refine (n2 _).mono ?_
      rintro e wq ⟨rfl, rfl⟩
      go_wp2_with fail
      refine (r1 _).mono ?_
      rintro e wq ⟨rfl, rfl⟩
      go_wp2_with fail
      refine (r2 _).mono ?_
      rintro e wq ⟨rfl, rfl⟩
      go_wp2_with fail
      refine (cc _).mono ?_
      rintro e wq ⟨rfl, rfl⟩
      go_wp2
      go_ret2
      exact ⟨ret_ib rfl rfl, rfl⟩
    · go_enter Tryz.func52, Tryz.ntmps52
      go_wp2_with fail
      refine (n1 _).mono ?_
      rintro e wq ⟨rfl, rfl⟩
      go_wp2_with fail
      refine (n2 _).mono ?_
      rintro e wq ⟨rfl, rfl⟩
      go_wp2
      go_ret2
      exact ⟨ret_ib rfl rfl, rfl⟩
  · go_enter Tryz.func52, Tryz.ntmps52
    go_wp2_with fail
    refine (n1 _).mono ?_
    rintro e wq ⟨rfl, rfl⟩
    go_wp2
    go_ret2
    exact ⟨ret_ib rfl rfl, rfl⟩

theorem nx_one {z f : Nat} (h0 : z ≠ 0) (hz : z = f % 9223372036854775808) (hf : f < 18446744073709551616) : IntKind.u64.wrap ((f : Int) - 1) = ((f - 1 : Nat) : Int) := by
  rw [IntKind.wrap_u64]; omega
theorem nx_more {f : Nat} (hf : f + 1 < 18446744073709551616) : IntKind.u64.wrap ((f : Int) + 1) = ((f + 1 : Nat) : Int) := by
  rw [IntKind.wrap_u64]; omega

end Go.Proofs.YtcfhajnboamnnabGreatDoor

namespace Go.Proofs.YtcfhajnboamnnabGreatDoor
open Go.RowKit
set_option linter.unusedVariables false
set_option linter.unusedSimpArgs false

set_option maxHeartbeats 4000000 in
set_option maxRecDepth 100000 in
theorem ivOf_any {w : World} {v : Value} {s : Bool} {N D : Nat} (hR : Ru w) (h : RW w v s N D) (bN : nl N ≤ 10000) (bD : nl D ≤ 10000) (hD0 : D ≠ 0) :
    Calls Tryz.prog 18 #[v] w fun e w' => e = .returned (.agg #[.int .u64 ((ofQ 2 s N D).1 : Nat), .int .u64 ((ofQ 3 s N D).1 : Nat)]) ∧ Fwd w w' := by
  have c2 := fun (w' : World) (g : Fwd w w') => ofQ_any (hR.fwd g) 2 (h.fwd g) bN bD hD0
  have c3 := fun (w' : World) (g : Fwd w w') => ofQ_any (hR.fwd g) 3 (h.fwd g) bN bD hD0
  generalize ofQ 2 s N D = Z2 at *
  generalize ofQ 3 s N D = Z3 at *
  obtain ⟨lo, f2⟩ := Z2
  obtain ⟨hi, f3⟩ := Z3
  obtain ⟨xo, xc, yo, yc, rfl, x1, x2, x3, x4, -, -⟩ := RW.open h
  clear h hR
  have kA : BlkV ((w.alloc (.cells #[.bool s, .slice xo (nl N) xc, .slice yo (nl D) yc] 27)).alloc (.cells #[.int .u64 0, .int .u64 0] 24)) (w.heap.size) 27 [.bool s, .slice xo (nl N) xc, .slice yo (nl D) yc] := (BlkV.made' w (w.heap.size) (by simp) 27 [.bool s, .slice xo (nl N) xc, .slice yo (nl D) yc]).alloc _
  have kR : BlkV ((w.alloc (.cells #[.bool s, .slice xo (nl N) xc, .slice yo (nl D) yc] 27)).alloc (.cells #[.int .u64 0, .int .u64 0] 24)) (w.heap.size + 1) 24 [.int .u64 0, .int .u64 0] := BlkV.made' (w.alloc (.cells #[.bool s, .slice xo (nl N) xc, .slice yo (nl D) yc] 27)) (w.heap.size + 1) (by simp) 24 [.int .u64 0, .int .u64 0]
  have hF : Fwd w ((w.alloc (.cells #[.bool s, .slice xo (nl N) xc, .slice yo (nl D) yc] 27)).alloc (.cells #[.int .u64 0, .int .u64 0] 24)) := ((Fwd.refl w).alloc _).alloc _
  go_enter Tryz.func18, Tryz.ntmps18
  have ac0 := BlkV.cell kA 0 rfl
  have az0 := BlkV.frozen kA 0
  have ac1 := BlkV.cell kA 1 rfl
  have az1 := BlkV.frozen kA 1
  have ac2 := BlkV.cell kA 2 rfl
  have az2 := BlkV.frozen kA 2
  have rc0 := BlkV.cell kR 0 rfl
  have rz0 := BlkV.frozen kR 0
  have rc1 := BlkV.cell kR 1 rfl
  have rz1 := BlkV.frozen kR 1
  go_wp2_with fail
  refine (c2 _ hF).mono ?_
  rintro e w1 ⟨rfl, hf1⟩
  replace kA := kA.fwd hf1
  replace kR := kR.fwd hf1
  replace hF := hF.trans hf1
  clear hf1
  clear ac0 az0 ac1 az1 ac2 az2
  clear rc0 rz0 rc1 rz1
  have ac0 := BlkV.cell kA 0 rfl
  have az0 := BlkV.frozen kA 0
  have ac1 := BlkV.cell kA 1 rfl
  have az1 := BlkV.frozen kA 1
  have ac2 := BlkV.cell kA 2 rfl
  have az2 := BlkV.frozen kA 2
  have rc0 := BlkV.cell kR 0 rfl
  have rz0 := BlkV.frozen kR 0
  have rc1 := BlkV.cell kR 1 rfl
  have rz1 := BlkV.frozen kR 1
  go_wp2_with fail
  refine (c3 _ hF).mono ?_
  rintro e w2 ⟨rfl, hf2⟩
  replace kA := kA.fwd hf2
  replace kR := kR.fwd hf2
  replace hF := hF.trans hf2
  clear hf2
  clear ac0 az0 ac1 az1 ac2 az2
  clear rc0 rz0 rc1 rz1
  have ac0 := BlkV.cell kA 0 rfl
  have az0 := BlkV.frozen kA 0
  have ac1 := BlkV.cell kA 1 rfl
  have az1 := BlkV.frozen kA 1
  have ac2 := BlkV.cell kA 2 rfl
  have az2 := BlkV.frozen kA 2
  have rc0 := BlkV.cell kR 0 rfl
  have rz0 := BlkV.frozen kR 0
  have rc1 := BlkV.cell kR 1 rfl
  have rz1 := BlkV.frozen kR 1
  clear c2 c3
  go_wp2
  have r0 := BlkV.set kR 0 (.int .u64 lo)
  have rs0 := BlkV.cell r0 0 rfl
  have r1 := BlkV.set r0 1 (.int .u64 hi)
  have rs1 := BlkV.cell r1 1 rfl
  refine bodyPost_ret (by simp [results, Tryz.results18, go_sem, rs0, rs1]; try rfl) rfl ?_
  exact ⟨rfl, (hF.set (by omega)).set (by omega)⟩

set_option maxHeartbeats 4000000 in
theorem below_any {w : World} (f g : Nat) (hf : f < 18446744073709551616) (hg : g < 18446744073709551616) : Calls Tryz.prog 91 #[.int .u64 f, .int .u64 g] w fun e w' => e = .returned (.bool (decide ((cmpF f g).1 < 0))) ∧ w' = w := by
  have cc := fun w => cmpF_any (w := w) f g hf hg
  generalize cmpF f g = C at *
  obtain ⟨o, is⟩ := C
  go_enter Tryz.func91, Tryz.ntmps91
  go_wp2_with fail
  refine (cc _).mono ?_
  rintro e wq ⟨rfl, rfl⟩
  go_wp2
  go_ret
  exact ⟨rfl, rfl⟩

set_option maxHeartbeats 4000000 in
theorem ivRight_any {w : World} (f g : Nat) (hf : f < 18446744073709551616) (hg : g < 18446744073709551616) : Calls Tryz.prog 14 #[.agg #[.int .u64 f, .int .u64 g]] w fun e w' => e = .returned (.bool ((cmpF f g).2 && decide ((cmpF f g).1 ≤ 0))) ∧ Fwd w w' := by
  have cc := fun w => cmpF_any (w := w) f g hf hg
  generalize cmpF f g = C at *
  obtain ⟨o, is⟩ := C
  cases is
  · have kA : BlkV (w.alloc (.cells #[.int .u64 f, .int .u64 g] 24)) (w.heap.size) 24 [.int .u64 f, .int .u64 g] := BlkV.made' w (w.heap.size) (by simp) 24 [.int .u64 f, .int .u64 g]
    have hF : Fwd w (w.alloc (.cells #[.int .u64 f, .int .u64 g] 24)) := (Fwd.refl w).alloc _
    go_enter Tryz.func14, Tryz.ntmps14
    have ac0 := BlkV.cell kA 0 rfl
    have az0 := BlkV.frozen kA 0
    have ac1 := BlkV.cell kA 1 rfl
    have az1 := BlkV.frozen kA 1
    go_wp2_with fail
    refine (cc _).mono ?_
    rintro e wq ⟨rfl, rfl⟩
    go_wp2
    go_ret
    exact ⟨rfl, hF⟩
  · have kA : BlkV (w.alloc (.cells #[.int .u64 f, .int .u64 g] 24)) (w.heap.size) 24 [.int .u64 f, .int .u64 g] := BlkV.made' w (w.heap.size) (by simp) 24 [.int .u64 f, .int .u64 g]
    have hF : Fwd w (w.alloc (.cells #[.int .u64 f, .int .u64 g] 24)) := (Fwd.refl w).alloc _
    go_enter Tryz.func14, Tryz.ntmps14
    have ac0 := BlkV.cell kA 0 rfl
    have az0 := BlkV.frozen kA 0
    have ac1 := BlkV.cell kA 1 rfl
    have az1 := BlkV.frozen kA 1
    go_wp2_with fail
    refine (cc _).mono ?_
    rintro e wq ⟨rfl, rfl⟩
    go_wp2
    go_ret
    exact ⟨rfl, hF⟩
end Go.Proofs.YtcfhajnboamnnabGreatDoor
