/- sfloat's round, of a number from 2^-1022 on. -/
import Derived.Test.YtcfhajnboamnnabGreatDoorYXFM
namespace Go.Proofs.YtcfhajnboamnnabGreatDoor
open Go.RowKit
set_option linter.unusedVariables false

set_option maxHeartbeats 8000000 in
set_option maxRecDepth 100000 in
theorem round_b {w : World} {v : Value} {s : Bool} {n : Nat} {x : Int} (m : Int) (h : VV v s false n x) (hn : n ≠ 0) (hx1 : -1000000 ≤ x) (hx2 : x ≤ 1000000) (cB : -1074 ≤ hiP n x) (cC : hiP n x + 1074 ≤ 2046) :
    Calls Tryz.prog 92 #[ruleV m, v] w fun e w' => e = .returned (.tuple #[.int .u64 (rnd m s n x : Nat), .int .i64 (rndF m s n x : Nat)]) ∧ Fwd w w' := by
  have hd := fun w => visNought_any (w := w) h
  have e0 : (!false && n == 0) = false := by simp [hn]
  simp only [e0] at hd
  clear e0
  have hc := fun w => lifted0_any (w := w) h hn hx1 hx2
  have hlt := lift_lt (r := 0) hn h.lt
  have hsh : lsh n 0 ≤ 127 := by have := blen_pos hn; unfold lsh; omega
  have hK := kpt_lt x hn h.lt
  obtain ⟨a, b, rfl, h1, h2, hab⟩ := h
  clear hab
  have hpl : plP n x = hiP n x := by unfold plP; omega
  have hS : shP n x = 73 := by unfold shP; rw [hpl]; unfold hiP; omega
  have hfd : ((fdP n x : Nat) : Int) = hiP n x + 1074 := by unfold fdP; rw [hpl]; omega
  have hKe : dn (n * 2 ^ lsh n 0) (shP n x) = kpt n x := rfl
  have HR : Hid (rnd m s n x = sgn s + (if 9218868437227405312 ≤ szP m s n x then 9218868437227405311 + grt m s 7 else szP m s n x) ∧ rndF m s n x = if 9218868437227405312 ≤ szP m s n x then 5 else if kpt n x % 4 = 0 then 0 else if hiP n x < -1074 then 3 else 1) := hid ⟨rfl, rfl⟩
  rw [if_neg (show ¬ hiP n x < -1074 by omega)] at HR
  unfold szP at HR
  have cB1 : -1074 ≤ x - (lsh n 0 : Int) + 128 - 1 - 52 := by unfold hiP at cB; omega
  have cB2 : decide (x - (lsh n 0 : Int) + 128 - 1 - 52 < -1074) = false := decide_eq_false (by omega)
  have eF : x - (lsh n 0 : Int) + 128 - 1 - 52 + 1074 = (fdP n x : Int) := by rw [hfd]; unfold hiP; omega
  have cB' : x - (lsh n 0 : Int) + 128 - 1 - 52 + 1074 ≤ 2046 := by unfold hiP at cC; omega
  have hfl2 : fdP n x ≤ 2046 := by omega
  clear hfd
  have hFS : fdP n x * 4503599627370496 ≤ 9214364837600034816 := by omega
  have eS : (fdP n x : Int) * 4503599627370496 = ((fdP n x * 4503599627370496 : Nat) : Int) := by omega
  generalize fdP n x * 4503599627370496 = FS at *
  generalize fdP n x = Fd at *
  generalize rnd m s n x = RV at *
  generalize rndF m s n x = RF at *
  generalize kpt n x = K at *
  generalize hSe : shP n x = S at *
  clear hpl hSe cB cC
  have hX1 : -2000000 ≤ x - (lsh n 0 : Int) := by omega
  have hX2 : x - (lsh n 0 : Int) ≤ 1000000 := by omega
  generalize hXe : x - (lsh n 0 : Int) = X at *
  generalize n * 2 ^ lsh n 0 = N at *
  have hg := fun w => greater_any (w := w) m s (K % 8) (by omega)
  simp only [ruleV] at hg
  have hby := fun w => beyond_any (w := w) m s
  simp only [ruleV] at hby
  have hb1 := grt_lt m s (K % 8)
  have hb2 := grt_lt m s 7
  have ha7 := and7 K (by omega)
  have ha3 := and3 (K % 8) (by omega)
  rw [Nat.mod_mod_of_dvd K (by decide : 4 ∣ 8)] at ha3
  have hsl := sgn_lt s
  have hfl := fun w => field_lo 0 K w
  have hT8 : K % 8 < 8 := by omega
  have hT4 : K % 4 < 4 := by omega
  generalize K % 8 = T at *
  generalize K % 4 = Q at *
  have hk4 : K / 4 < 9007199254740992 := by omega
  have e4 : (K : Int) / 4 = ((K / 4 : Nat) : Int) := by omega
  generalize K / 4 = k4 at *
  generalize grt m s T = g at *
  have kR := (BlkV.made w 97 [.int .u8 (rAbove m), .int .u8 (rBelow m), .bool (rMinus m)]).alloc (.cells #[.bool s, .bool false, .int .u64 a, .int .u64 b, .int .i64 x] 107)
  have kV := BlkV.made' (w.alloc (.cells #[.int .u8 (rAbove m), .int .u8 (rBelow m), .bool (rMinus m)] 97)) (w.heap.size + 1) (by simp) 107 [.bool s, .bool false, .int .u64 a, .int .u64 b, .int .i64 x]
  have hF : Fwd w ((w.alloc (.cells #[.int .u8 (rAbove m), .int .u8 (rBelow m), .bool (rMinus m)] 97)).alloc (.cells #[.bool s, .bool false, .int .u64 a, .int .u64 b, .int .i64 x] 107)) := ((Fwd.refl w).alloc _).alloc _
  unfold ruleV
  go_enter Tryz.func92, Tryz.ntmps92
  go_wp2_with fail
  refine (hd _).mono ?_
  rintro e w1 ⟨rfl, hf⟩
  replace kR := kR.fwd hf
  replace kV := kV.fwd hf
  replace hF := hF.trans hf
  clear hf
  clear hd
  have c0 := BlkV.cell kV 0 rfl
  have c1 := BlkV.cell kV 1 rfl
  have c2 := BlkV.cell kV 2 rfl
  have c3 := BlkV.cell kV 3 rfl
  have c4 := BlkV.cell kV 4 rfl
  go_wp2_with fail
  refine (hc _).mono ?_
  rintro e w2 ⟨u, rfl, hf, a', b', rfl, g1, g2, hN⟩
  clear c0 c1 c2 c3 c4
  replace kR := kR.fwd hf
  replace kV := kV.fwd hf
  replace hF := hF.trans hf
  clear hf
  have c0 := BlkV.cell kV 0 rfl
  have cz0 := BlkV.frozen kV 0
  have c1 := BlkV.cell kV 1 rfl
  have cz1 := BlkV.frozen kV 1
  have c2 := BlkV.cell kV 2 rfl
  have cz2 := BlkV.frozen kV 2
  have c3 := BlkV.cell kV 3 rfl
  have cz3 := BlkV.frozen kV 3
  have c4 := BlkV.cell kV 4 rfl
  have cz4 := BlkV.frozen kV 4
  have hW : WV (.agg #[.int .u64 a', .int .u64 b']) N := ⟨a', b', rfl, g1, g2, hN⟩
  have hsg := fun w => sign_sgn (w := w) (v := .agg #[.bool s, .bool false, .int .u64 a', .int .u64 b', .int .i64 X]) (en := false) (n := N) (x := X) ⟨a', b', rfl, g1, g2, hN⟩
  clear hN hc
  have t0 := BlkV.set kV 0 (.bool s)
  have st0 := BlkV.cell t0 0 rfl
  have t1 := BlkV.set t0 1 (.bool false)
  have st1 := BlkV.cell t1 1 rfl
  have t2 := BlkV.set t1 2 (.int .u64 (a' : Int))
  have st2 := BlkV.cell t2 2 rfl
  have t3 := BlkV.set t2 3 (.int .u64 (b' : Int))
  have st3 := BlkV.cell t3 3 rfl
  have t4 := BlkV.set t3 4 (.int .i64 X)
  have st4 := BlkV.cell t4 4 rfl
  have o1 := ((((Only.set (w.heap.size + 1) w2 0 (.bool s)).setv 1 (.bool false)).setv 2 (.int .u64 (a' : Int))).setv 3 (.int .u64 (b' : Int))).setv 4 (.int .i64 X)
  replace kR := BlkV.only kR o1 (by omega)
  replace hF := hF.wrote o1 (by omega)
  go_wp2_with fail
  refine (wdown_at (k := S) hW (by omega) (by omega)).mono ?_
  rintro e w3 ⟨q, rfl, ⟨a2, b2, rfl, q1, q2, hq⟩, hf⟩
  obtain rfl : a2 = 0 := by omega
  obtain rfl : K = b2 := by omega
  clear hq hW
  clear c0 c1 c2 c3 c4 cz0 cz1 cz2 cz3 cz4 kV st0 st1 st2 st3 st4 t0 t1 t2 t3 o1
  have kV := t4
  clear t4
  replace kR := kR.fwd hf
  replace kV := kV.fwd hf
  replace hF := hF.trans hf
  clear hf
  have c0 := BlkV.cell kV 0 rfl
  have c1 := BlkV.cell kV 1 rfl
  have c2 := BlkV.cell kV 2 rfl
  have c3 := BlkV.cell kV 3 rfl
  have c4 := BlkV.cell kV 4 rfl
  have r0 := BlkV.cell kR 0 rfl
  have r1 := BlkV.cell kR 1 rfl
  have r2 := BlkV.cell kR 2 rfl
  go_wp2_with fail
  refine (hg _).mono ?_
  rintro e w4 ⟨rfl, hf⟩
  clear c0 c1 c2 c3 c4 r0 r1 r2
  replace kR := kR.fwd hf
  replace kV := kV.fwd hf
  replace hF := hF.trans hf
  clear hf
  have c0 := BlkV.cell kV 0 rfl
  have c1 := BlkV.cell kV 1 rfl
  have c2 := BlkV.cell kV 2 rfl
  have c3 := BlkV.cell kV 3 rfl
  have c4 := BlkV.cell kV 4 rfl
  have r0 := BlkV.cell kR 0 rfl
  have r1 := BlkV.cell kR 1 rfl
  have r2 := BlkV.cell kR 2 rfl
  clear hg
  obtain ⟨Z, hZ⟩ : ∃ Z : Nat, Z = FS + k4 + g := ⟨_, rfl⟩
  obtain ⟨P, hP⟩ : ∃ P : Nat, P = FS + k4 := ⟨_, rfl⟩
  rw [← hZ] at HR
  rw [← hP] at hZ
  have e5 : (P : Int) + g = Z := by omega
  have e6 : (FS : Int) + k4 = P := by omega
  have hzl : Z < 9223372036854775809 := by omega
  have hpl2 : P < 9223372036854775809 := by omega
  have HZ := hid (And.intro hZ hP)
  have HFS := hid hFS
  clear hZ hk4 hP hFS
  by_cases co : 9218868437227405312 ≤ Z
  · have i0 : decide (9218868437227405312 ≤ (Z : Int)) = true := decide_eq_true (by omega)
    have hon : bits .or .u64 (sgn s : Int) ((9218868437227405311 + grt m s 7 : Nat) : Int) = ((sgn s + (9218868437227405311 + grt m s 7) : Nat) : Int) := or_sgn s _ (by omega)
    rw [if_pos co, if_pos co] at HR
    have HCO := hid co
    clear co
    have hy : 9218868437227405311 + grt m s 7 < 9223372036854775808 := by omega
    generalize 9218868437227405311 + grt m s 7 = y at *
    generalize sgn s + y = sy at *
    generalize sgn s = sg at *
    go_wp2_with fail
    replace kR := kR.drew
    replace kV := kV.drew
    replace hF := hF.drew
    clear c0 c1 c2 c3 c4
    have c0 := BlkV.cell kV 0 rfl
    have c1 := BlkV.cell kV 1 rfl
    have c2 := BlkV.cell kV 2 rfl
    have c3 := BlkV.cell kV 3 rfl
    have c4 := BlkV.cell kV 4 rfl
    clear r0 r1 r2
    have r0 := BlkV.cell kR 0 rfl
    have r1 := BlkV.cell kR 1 rfl
    have r2 := BlkV.cell kR 2 rfl
    go_region_held3 (fun w' => w'.cell? ⟨w.heap.size, 0, none⟩ = some (.int .u8 (rAbove m)) ∧ w'.cell? ⟨w.heap.size, 1, none⟩ = some (.int .u8 (rBelow m)) ∧ w'.cell? ⟨w.heap.size, 2, none⟩ = some (.bool (rMinus m)) ∧ w'.cell? ⟨w.heap.size + 1, 0, none⟩ = some (.bool s) ∧ w'.cell? ⟨w.heap.size + 1, 1, none⟩ = some (.bool false) ∧ w'.cell? ⟨w.heap.size + 1, 2, none⟩ = some (.int .u64 (a' : Int)) ∧ w'.cell? ⟨w.heap.size + 1, 3, none⟩ = some (.int .u64 (b' : Int)) ∧ w'.cell? ⟨w.heap.size + 1, 4, none⟩ = some (.int .i64 X))
      (first | exact ⟨by with_reducible assumption, by with_reducible assumption, by with_reducible assumption, by with_reducible assumption, by with_reducible assumption, by with_reducible assumption, by with_reducible assumption, by with_reducible assumption⟩)
      (first
        | (go_at_call 116
           have _ := mk1
           refine (hby _).mono ?_
           rintro e w6 ⟨rfl, hf6⟩
           replace kR := kR.fwd hf6
           replace kV := kV.fwd hf6
           replace hF := hF.trans hf6
           clear hf6
           clear c0 c1 c2 c3 c4
           have c0 := BlkV.cell kV 0 rfl
           have c1 := BlkV.cell kV 1 rfl
           have c2 := BlkV.cell kV 2 rfl
           have c3 := BlkV.cell kV 3 rfl
           have c4 := BlkV.cell kV 4 rfl
           clear r0 r1 r2
           have r0 := BlkV.cell kR 0 rfl
           have r1 := BlkV.cell kR 1 rfl
           have r2 := BlkV.cell kR 2 rfl
           have mk2 : True := trivial)
        | (go_at_call 112
           refine (hsg _).mono ?_
           rintro e w5 ⟨rfl, hf5⟩
           replace kR := kR.fwd hf5
           replace kV := kV.fwd hf5
           replace hF := hF.trans hf5
           clear hf5
           clear c0 c1 c2 c3 c4
           have c0 := BlkV.cell kV 0 rfl
           have c1 := BlkV.cell kV 1 rfl
           have c2 := BlkV.cell kV 2 rfl
           have c3 := BlkV.cell kV 3 rfl
           have c4 := BlkV.cell kV 4 rfl
           clear r0 r1 r2
           have r0 := BlkV.cell kR 0 rfl
           have r1 := BlkV.cell kR 1 rfl
           have r2 := BlkV.cell kR 2 rfl
           have mk1 : True := trivial))
    go_wp2
    go_ret2
    have hr := HR.out
    exact ⟨ret_pair (by omega) (by omega), hF⟩
  · have i0 : decide (9218868437227405312 ≤ (Z : Int)) = false := decide_eq_false (by omega)
    have hon := or_sgn s Z (by omega)
    rw [if_neg co, if_neg co] at HR
    have hzl2 : Z < 9218868437227405312 := by omega
    clear co
    generalize sgn s + Z = sz at *
    generalize sgn s = sg at *
    by_cases cq : Q = 0
    · have i1 : ((Q : Int) == 0) = true := by simp [cq]
      have HQ := hid cq
      clear cq
      go_wp2_with fail
      refine (hsg _).mono ?_
      rintro e w5 ⟨rfl, hf⟩
      go_wp2
      go_ret2
      have hr := HR.out
      rw [if_pos HQ.out] at hr
      exact ⟨ret_pair (by omega) (by omega), hF.trans hf⟩
    · have i1 : ((Q : Int) == 0) = false := by simp; omega
      have HQ := hid cq
      clear cq
      go_wp2_with fail
      refine (hsg _).mono ?_
      rintro e w5 ⟨rfl, hf⟩
      go_wp2
      go_ret2
      have hr := HR.out
      rw [if_neg HQ.out] at hr
      exact ⟨ret_pair (by omega) (by omega), hF.trans hf⟩

set_option maxHeartbeats 8000000 in
set_option maxRecDepth 100000 in
theorem round_c {w : World} {v : Value} {s : Bool} {n : Nat} {x : Int} (m : Int) (h : VV v s false n x) (hn : n ≠ 0) (hx1 : -1000000 ≤ x) (hx2 : x ≤ 1000000) (cB : -1074 ≤ hiP n x) (cC : 2046 < hiP n x + 1074) :
    Calls Tryz.prog 92 #[ruleV m, v] w fun e w' => e = .returned (.tuple #[.int .u64 (rnd m s n x : Nat), .int .i64 (rndF m s n x : Nat)]) ∧ Fwd w w' := by
  have hd := fun w => visNought_any (w := w) h
  have e0 : (!false && n == 0) = false := by simp [hn]
  simp only [e0] at hd
  clear e0
  have hc := fun w => lifted0_any (w := w) h hn hx1 hx2
  have hlt := lift_lt (r := 0) hn h.lt
  have hsh : lsh n 0 ≤ 127 := by have := blen_pos hn; unfold lsh; omega
  have hK := kpt_lt x hn h.lt
  obtain ⟨a, b, rfl, h1, h2, hab⟩ := h
  clear hab
  have hpl : plP n x = hiP n x := by unfold plP; omega
  have hS : shP n x = 73 := by unfold shP; rw [hpl]; unfold hiP; omega
  have hfd : fdP n x = 2046 := by unfold fdP; rw [hpl]; omega
  have hKe : dn (n * 2 ^ lsh n 0) (shP n x) = kpt n x := rfl
  have HR : Hid (rnd m s n x = sgn s + (if 9218868437227405312 ≤ szP m s n x then 9218868437227405311 + grt m s 7 else szP m s n x) ∧ rndF m s n x = if 9218868437227405312 ≤ szP m s n x then 5 else if kpt n x % 4 = 0 then 0 else if hiP n x < -1074 then 3 else 1) := hid ⟨rfl, rfl⟩
  rw [if_neg (show ¬ hiP n x < -1074 by omega)] at HR
  unfold szP at HR
  have cB1 : -1074 ≤ x - (lsh n 0 : Int) + 128 - 1 - 52 := by unfold hiP at cB; omega
  have cB2 : decide (x - (lsh n 0 : Int) + 128 - 1 - 52 < -1074) = false := decide_eq_false (by omega)
  have cB' : 2046 < x - (lsh n 0 : Int) + 128 - 1 - 52 + 1074 := by unfold hiP at cC; omega
  rw [hfd, show 2046 * 4503599627370496 = 9214364837600034816 from rfl] at HR
  clear hfd
  generalize rnd m s n x = RV at *
  generalize rndF m s n x = RF at *
  generalize kpt n x = K at *
  generalize hSe : shP n x = S at *
  clear hpl hSe cB cC
  have hX1 : -2000000 ≤ x - (lsh n 0 : Int) := by omega
  have hX2 : x - (lsh n 0 : Int) ≤ 1000000 := by omega
  generalize hXe : x - (lsh n 0 : Int) = X at *
  generalize n * 2 ^ lsh n 0 = N at *
  have hg := fun w => greater_any (w := w) m s (K % 8) (by omega)
  simp only [ruleV] at hg
  have hby := fun w => beyond_any (w := w) m s
  simp only [ruleV] at hby
  have hb1 := grt_lt m s (K % 8)
  have hb2 := grt_lt m s 7
  have ha7 := and7 K (by omega)
  have ha3 := and3 (K % 8) (by omega)
  rw [Nat.mod_mod_of_dvd K (by decide : 4 ∣ 8)] at ha3
  have hsl := sgn_lt s
  have hfl := fun w => field_lo 0 K w
  have hT8 : K % 8 < 8 := by omega
  have hT4 : K % 4 < 4 := by omega
  generalize K % 8 = T at *
  generalize K % 4 = Q at *
  have hk4 : K / 4 < 9007199254740992 := by omega
  have e4 : (K : Int) / 4 = ((K / 4 : Nat) : Int) := by omega
  generalize K / 4 = k4 at *
  generalize grt m s T = g at *
  have kR := (BlkV.made w 97 [.int .u8 (rAbove m), .int .u8 (rBelow m), .bool (rMinus m)]).alloc (.cells #[.bool s, .bool false, .int .u64 a, .int .u64 b, .int .i64 x] 107)
  have kV := BlkV.made' (w.alloc (.cells #[.int .u8 (rAbove m), .int .u8 (rBelow m), .bool (rMinus m)] 97)) (w.heap.size + 1) (by simp) 107 [.bool s, .bool false, .int .u64 a, .int .u64 b, .int .i64 x]
  have hF : Fwd w ((w.alloc (.cells #[.int .u8 (rAbove m), .int .u8 (rBelow m), .bool (rMinus m)] 97)).alloc (.cells #[.bool s, .bool false, .int .u64 a, .int .u64 b, .int .i64 x] 107)) := ((Fwd.refl w).alloc _).alloc _
  unfold ruleV
  go_enter Tryz.func92, Tryz.ntmps92
  go_wp2_with fail
  refine (hd _).mono ?_
  rintro e w1 ⟨rfl, hf⟩
  replace kR := kR.fwd hf
  replace kV := kV.fwd hf
  replace hF := hF.trans hf
  clear hf
  clear hd
  have c0 := BlkV.cell kV 0 rfl
  have c1 := BlkV.cell kV 1 rfl
  have c2 := BlkV.cell kV 2 rfl
  have c3 := BlkV.cell kV 3 rfl
  have c4 := BlkV.cell kV 4 rfl
  go_wp2_with fail
  refine (hc _).mono ?_
  rintro e w2 ⟨u, rfl, hf, a', b', rfl, g1, g2, hN⟩
  clear c0 c1 c2 c3 c4
  replace kR := kR.fwd hf
  replace kV := kV.fwd hf
  replace hF := hF.trans hf
  clear hf
  have c0 := BlkV.cell kV 0 rfl
  have cz0 := BlkV.frozen kV 0
  have c1 := BlkV.cell kV 1 rfl
  have cz1 := BlkV.frozen kV 1
  have c2 := BlkV.cell kV 2 rfl
  have cz2 := BlkV.frozen kV 2
  have c3 := BlkV.cell kV 3 rfl
  have cz3 := BlkV.frozen kV 3
  have c4 := BlkV.cell kV 4 rfl
  have cz4 := BlkV.frozen kV 4
  have hW : WV (.agg #[.int .u64 a', .int .u64 b']) N := ⟨a', b', rfl, g1, g2, hN⟩
  have hsg := fun w => sign_sgn (w := w) (v := .agg #[.bool s, .bool false, .int .u64 a', .int .u64 b', .int .i64 X]) (en := false) (n := N) (x := X) ⟨a', b', rfl, g1, g2, hN⟩
  clear hN hc
  have t0 := BlkV.set kV 0 (.bool s)
  have st0 := BlkV.cell t0 0 rfl
  have t1 := BlkV.set t0 1 (.bool false)
  have st1 := BlkV.cell t1 1 rfl
  have t2 := BlkV.set t1 2 (.int .u64 (a' : Int))
  have st2 := BlkV.cell t2 2 rfl
  have t3 := BlkV.set t2 3 (.int .u64 (b' : Int))
  have st3 := BlkV.cell t3 3 rfl
  have t4 := BlkV.set t3 4 (.int .i64 X)
  have st4 := BlkV.cell t4 4 rfl
  have o1 := ((((Only.set (w.heap.size + 1) w2 0 (.bool s)).setv 1 (.bool false)).setv 2 (.int .u64 (a' : Int))).setv 3 (.int .u64 (b' : Int))).setv 4 (.int .i64 X)
  replace kR := BlkV.only kR o1 (by omega)
  replace hF := hF.wrote o1 (by omega)
  go_wp2_with fail
  refine (wdown_at (k := S) hW (by omega) (by omega)).mono ?_
  rintro e w3 ⟨q, rfl, ⟨a2, b2, rfl, q1, q2, hq⟩, hf⟩
  obtain rfl : a2 = 0 := by omega
  obtain rfl : K = b2 := by omega
  clear hq hW
  clear c0 c1 c2 c3 c4 cz0 cz1 cz2 cz3 cz4 kV st0 st1 st2 st3 st4 t0 t1 t2 t3 o1
  have kV := t4
  clear t4
  replace kR := kR.fwd hf
  replace kV := kV.fwd hf
  replace hF := hF.trans hf
  clear hf
  have c0 := BlkV.cell kV 0 rfl
  have c1 := BlkV.cell kV 1 rfl
  have c2 := BlkV.cell kV 2 rfl
  have c3 := BlkV.cell kV 3 rfl
  have c4 := BlkV.cell kV 4 rfl
  have r0 := BlkV.cell kR 0 rfl
  have r1 := BlkV.cell kR 1 rfl
  have r2 := BlkV.cell kR 2 rfl
  go_wp2_with fail
  refine (hg _).mono ?_
  rintro e w4 ⟨rfl, hf⟩
  clear c0 c1 c2 c3 c4 r0 r1 r2
  replace kR := kR.fwd hf
  replace kV := kV.fwd hf
  replace hF := hF.trans hf
  clear hf
  have c0 := BlkV.cell kV 0 rfl
  have c1 := BlkV.cell kV 1 rfl
  have c2 := BlkV.cell kV 2 rfl
  have c3 := BlkV.cell kV 3 rfl
  have c4 := BlkV.cell kV 4 rfl
  have r0 := BlkV.cell kR 0 rfl
  have r1 := BlkV.cell kR 1 rfl
  have r2 := BlkV.cell kR 2 rfl
  clear hg
  obtain ⟨Z, hZ⟩ : ∃ Z : Nat, Z = 9214364837600034816 + k4 + g := ⟨_, rfl⟩
  obtain ⟨P, hP⟩ : ∃ P : Nat, P = 9214364837600034816 + k4 := ⟨_, rfl⟩
  rw [← hZ] at HR
  rw [← hP] at hZ
  have e5 : (P : Int) + g = Z := by omega
  have e6 : (9214364837600034816 : Int) + k4 = P := by omega
  have hzl : Z < 9223372036854775809 := by omega
  have hpl2 : P < 9223372036854775809 := by omega
  have HZ := hid (And.intro hZ hP)
  clear hZ hk4 hP
  by_cases co : 9218868437227405312 ≤ Z
  · have i0 : decide (9218868437227405312 ≤ (Z : Int)) = true := decide_eq_true (by omega)
    have hon : bits .or .u64 (sgn s : Int) ((9218868437227405311 + grt m s 7 : Nat) : Int) = ((sgn s + (9218868437227405311 + grt m s 7) : Nat) : Int) := or_sgn s _ (by omega)
    rw [if_pos co, if_pos co] at HR
    have HCO := hid co
    clear co
    have hy : 9218868437227405311 + grt m s 7 < 9223372036854775808 := by omega
    generalize 9218868437227405311 + grt m s 7 = y at *
    generalize sgn s + y = sy at *
    generalize sgn s = sg at *
    go_wp2_with fail
    replace kR := kR.drew
    replace kV := kV.drew
    replace hF := hF.drew
    clear c0 c1 c2 c3 c4
    have c0 := BlkV.cell kV 0 rfl
    have c1 := BlkV.cell kV 1 rfl
    have c2 := BlkV.cell kV 2 rfl
    have c3 := BlkV.cell kV 3 rfl
    have c4 := BlkV.cell kV 4 rfl
    clear r0 r1 r2
    have r0 := BlkV.cell kR 0 rfl
    have r1 := BlkV.cell kR 1 rfl
    have r2 := BlkV.cell kR 2 rfl
    go_region_held3 (fun w' => w'.cell? ⟨w.heap.size, 0, none⟩ = some (.int .u8 (rAbove m)) ∧ w'.cell? ⟨w.heap.size, 1, none⟩ = some (.int .u8 (rBelow m)) ∧ w'.cell? ⟨w.heap.size, 2, none⟩ = some (.bool (rMinus m)) ∧ w'.cell? ⟨w.heap.size + 1, 0, none⟩ = some (.bool s) ∧ w'.cell? ⟨w.heap.size + 1, 1, none⟩ = some (.bool false) ∧ w'.cell? ⟨w.heap.size + 1, 2, none⟩ = some (.int .u64 (a' : Int)) ∧ w'.cell? ⟨w.heap.size + 1, 3, none⟩ = some (.int .u64 (b' : Int)) ∧ w'.cell? ⟨w.heap.size + 1, 4, none⟩ = some (.int .i64 X))
      (first | exact ⟨by with_reducible assumption, by with_reducible assumption, by with_reducible assumption, by with_reducible assumption, by with_reducible assumption, by with_reducible assumption, by with_reducible assumption, by with_reducible assumption⟩)
      (first
        | (go_at_call 116
           have _ := mk1
           refine (hby _).mono ?_
           rintro e w6 ⟨rfl, hf6⟩
           replace kR := kR.fwd hf6
           replace kV := kV.fwd hf6
           replace hF := hF.trans hf6
           clear hf6
           clear c0 c1 c2 c3 c4
           have c0 := BlkV.cell kV 0 rfl
           have c1 := BlkV.cell kV 1 rfl
           have c2 := BlkV.cell kV 2 rfl
           have c3 := BlkV.cell kV 3 rfl
           have c4 := BlkV.cell kV 4 rfl
           clear r0 r1 r2
           have r0 := BlkV.cell kR 0 rfl
           have r1 := BlkV.cell kR 1 rfl
           have r2 := BlkV.cell kR 2 rfl
           have mk2 : True := trivial)
        | (go_at_call 112
           refine (hsg _).mono ?_
           rintro e w5 ⟨rfl, hf5⟩
           replace kR := kR.fwd hf5
           replace kV := kV.fwd hf5
           replace hF := hF.trans hf5
           clear hf5
           clear c0 c1 c2 c3 c4
           have c0 := BlkV.cell kV 0 rfl
           have c1 := BlkV.cell kV 1 rfl
           have c2 := BlkV.cell kV 2 rfl
           have c3 := BlkV.cell kV 3 rfl
           have c4 := BlkV.cell kV 4 rfl
           clear r0 r1 r2
           have r0 := BlkV.cell kR 0 rfl
           have r1 := BlkV.cell kR 1 rfl
           have r2 := BlkV.cell kR 2 rfl
           have mk1 : True := trivial))
    go_wp2
    go_ret2
    have hr := HR.out
    exact ⟨ret_pair (by omega) (by omega), hF⟩
  · have i0 : decide (9218868437227405312 ≤ (Z : Int)) = false := decide_eq_false (by omega)
    have hon := or_sgn s Z (by omega)
    rw [if_neg co, if_neg co] at HR
    have hzl2 : Z < 9218868437227405312 := by omega
    clear co
    generalize sgn s + Z = sz at *
    generalize sgn s = sg at *
    by_cases cq : Q = 0
    · have i1 : ((Q : Int) == 0) = true := by simp [cq]
      have HQ := hid cq
      clear cq
      go_wp2_with fail
      refine (hsg _).mono ?_
      rintro e w5 ⟨rfl, hf⟩
      go_wp2
      go_ret2
      have hr := HR.out
      rw [if_pos HQ.out] at hr
      exact ⟨ret_pair (by omega) (by omega), hF.trans hf⟩
    · have i1 : ((Q : Int) == 0) = false := by simp; omega
      have HQ := hid cq
      clear cq
      go_wp2_with fail
      refine (hsg _).mono ?_
      rintro e w5 ⟨rfl, hf⟩
      go_wp2
      go_ret2
      have hr := HR.out
      rw [if_neg HQ.out] at hr
      exact ⟨ret_pair (by omega) (by omega), hF.trans hf⟩
end Go.Proofs.YtcfhajnboamnnabGreatDoor
