/- math/bits' Div64, where the divisor's highest bit is set. -/
import Derived.Test.YtcfhajnboamnnabGreatDoorYXF2
import Derived.Deep.DeepCutAuto
namespace Go.Proofs.YtcfhajnboamnnabGreatDoor
open Go.RowKit
set_option linter.unusedVariables false
set_option linter.unusedSimpArgs false

theorem dg_start {u y yn1 yn0 un : Nat} (hy : y = yn1 * 4294967296 + yn0) (h0 : yn0 < 4294967296) (h1 : 2147483648 ≤ yn1) (hu : u < y) (hn : un < 4294967296) :
    u / yn1 ≤ 4294967297 ∧ (u * 4294967296 + un) / y ≤ u / yn1 ∧ u = u / yn1 * yn1 + (u - u / yn1 * yn1) ∧ u - u / yn1 * yn1 < yn1 := by
  have hp : 0 < yn1 := by omega
  have hm := Nat.div_add_mod u yn1
  have hl := Nat.mod_lt u hp
  rw [Nat.mul_comm] at hm
  have hu2 : u / yn1 ≤ 4294967297 := by
    rw [Nat.div_le_iff_le_mul_add_pred hp]
    omega
  refine ⟨hu2, ?_, by omega, by omega⟩
  have hq : (u * 4294967296 + un) / y < u / yn1 + 1 := by
    rw [Nat.div_lt_iff_lt_mul (by omega)]
    have : u + 1 ≤ (u / yn1 + 1) * yn1 := by rw [Nat.add_mul]; omega
    have h2 : (u + 1) * 4294967296 ≤ (u / yn1 + 1) * yn1 * 4294967296 := Nat.mul_le_mul_right _ this
    have h3 : (u / yn1 + 1) * y = (u / yn1 + 1) * yn1 * 4294967296 + (u / yn1 + 1) * yn0 := by rw [hy, Nat.mul_add, Nat.mul_assoc]
    omega
  omega
/-- Not greater: it is the digit. -/
theorem dg_done {u y yn1 yn0 un q r : Nat} (hy : y = yn1 * 4294967296 + yn0) (h1 : 0 < yn1) (hu : u = q * yn1 + r) (hq : (u * 4294967296 + un) / y ≤ q) (hc : q * yn0 ≤ 4294967296 * r + un) : q = (u * 4294967296 + un) / y := by
  have h : q ≤ (u * 4294967296 + un) / y := by
    rw [Nat.le_div_iff_mul_le (by omega)]
    have h3 : q * y = q * yn1 * 4294967296 + q * yn0 := by rw [hy, Nat.mul_add, Nat.mul_assoc]
    have h4 : u * 4294967296 = q * yn1 * 4294967296 + r * 4294967296 := by rw [hu, Nat.add_mul]
    omega
  omega
/-- Greater: it is turned down by one. -/
theorem dg_less {u y yn1 yn0 un q r : Nat} (hy : y = yn1 * 4294967296 + yn0) (h1 : 0 < yn1) (hu : u = q * yn1 + r) (hc : 4294967296 * r + un < q * yn0) : (u * 4294967296 + un) / y < q := by
  rw [Nat.div_lt_iff_lt_mul (by omega)]
  have h3 : q * y = q * yn1 * 4294967296 + q * yn0 := by rw [hy, Nat.mul_add, Nat.mul_assoc]
  have h4 : u * 4294967296 = q * yn1 * 4294967296 + r * 4294967296 := by rw [hu, Nat.add_mul]
  omega
theorem dg_lt {u y un : Nat} (hu : u < y) (hn : un < 4294967296) : (u * 4294967296 + un) / y < 4294967296 := by
  rw [Nat.div_lt_iff_lt_mul (by omega)]
  have : (u + 1) * 4294967296 ≤ y * 4294967296 := Nat.mul_le_mul_right _ hu
  omega
/-- Behind a break: what is left is so great that it is the digit. -/
theorem dg_far {u y yn1 yn0 un q r : Nat} (hy : y = yn1 * 4294967296 + yn0) (h0 : yn0 < 4294967296) (h1 : 0 < yn1) (hu : u = q * yn1 + r) (hq : (u * 4294967296 + un) / y ≤ q) (hb : q ≤ 4294967296) (hr : 4294967296 ≤ r) : q = (u * 4294967296 + un) / y := by
  refine dg_done hy h1 hu hq ?_
  have a : q * yn0 ≤ 4294967296 * yn0 := Nat.mul_le_mul_right _ hb
  have b : 4294967296 * yn0 ≤ 4294967296 * 4294967296 := Nat.mul_le_mul_left _ (by omega)
  have c : 4294967296 * 4294967296 ≤ 4294967296 * r := Nat.mul_le_mul_left _ hr
  omega
theorem dg_end {hi lo y : Nat} (hy : hi < y) (hl : lo < 18446744073709551616) :
    let un1 := lo / 4294967296; let un0 := lo % 4294967296
    let q1 := (hi * 4294967296 + un1) / y; let u2 := (hi * 4294967296 + un1) % y
    let q0 := (u2 * 4294967296 + un0) / y; let r := (u2 * 4294967296 + un0) % y
    q1 * 4294967296 + q0 = (hi * 18446744073709551616 + lo) / y ∧ r = (hi * 18446744073709551616 + lo) % y := by
  intro un1 un0 q1 u2 q0 r
  have a := Nat.div_add_mod (hi * 4294967296 + un1) y
  have b := Nat.div_add_mod (u2 * 4294967296 + un0) y
  have c : r < y := Nat.mod_lt _ (by omega)
  have e : hi * 18446744073709551616 + lo = (q1 * 4294967296 + q0) * y + r := by
    have a' : y * q1 + u2 = hi * 4294967296 + un1 := a
    have b' : y * q0 + r = u2 * 4294967296 + un0 := b
    have l : lo = un1 * 4294967296 + un0 := by omega
    have : (q1 * 4294967296 + q0) * y + r = (y * q1 + u2) * 4294967296 + un0 := by
      rw [Nat.add_mul, Nat.add_mul]
      have : q1 * 4294967296 * y = y * q1 * 4294967296 := by rw [Nat.mul_comm y q1, Nat.mul_assoc, Nat.mul_comm 4294967296 y, ← Nat.mul_assoc]
      rw [this, Nat.mul_comm q0 y]
      omega
    rw [this, a', l]
    omega
  have hp : 0 < y := by omega
  rw [e]
  constructor
  · rw [Nat.mul_comm (q1 * 4294967296 + q0) y, Nat.mul_add_div hp, Nat.div_eq_of_lt c, Nat.add_zero]
  · rw [Nat.mul_comm (q1 * 4294967296 + q0) y, Nat.mul_add_mod, Nat.mod_eq_of_lt c]

theorem wrapSub (a b : Nat) (h : b ≤ a) (ha : a < 18446744073709551616) : IntKind.u64.wrap ((a : Int) - (b : Int)) = ((a - b : Nat) : Int) := by
  rw [IntKind.wrap_u64]; omega
theorem wrapMul (a b : Nat) (h : a * b < 18446744073709551616) : IntKind.u64.wrap ((a : Int) * (b : Int)) = ((a * b : Nat) : Int) := by
  rw [← Int.natCast_mul]; exact wrapN _ h
theorem wrapAdd (a b : Nat) (h : a + b < 18446744073709551616) : IntKind.u64.wrap ((a : Int) + (b : Int)) = ((a + b : Nat) : Int) := by
  rw [← Int.natCast_add]; exact wrapN _ h
/-- A difference that fits, by words that do not. -/
theorem wrap_back (u un q y r : Nat) (h : u * 4294967296 + un = q * y + r) (hr : r < 18446744073709551616) :
    IntKind.u64.wrap (IntKind.u64.wrap (IntKind.u64.wrap ((u : Int) * 4294967296) + (un : Int)) - IntKind.u64.wrap ((q : Int) * (y : Int))) = (r : Int) := by
  simp only [IntKind.wrap_u64]
  have h3 : ((u * 4294967296 + un : Nat) : Int) = ((q * y + r : Nat) : Int) := by rw [h]
  have h2 : (u : Int) * 4294967296 + un = (q : Int) * y + r := by rwa [Int.natCast_add, Int.natCast_mul, Int.natCast_add, Int.natCast_mul] at h3
  clear h3 h
  generalize (q : Int) * y = p at *
  omega

set_option maxHeartbeats 8000000 in
set_option maxRecDepth 100000 in
theorem div64_any {w : World} (hi lo y : Nat) (hy1 : 9223372036854775808 ≤ y) (hy2 : y < 18446744073709551616) (h0 : 0 < hi) (hh : hi < y) (hl : lo < 18446744073709551616) :
    Calls Tryz.prog 125 #[.int .u64 hi, .int .u64 lo, .int .u64 y] w fun e w' => e = .returned (.tuple #[.int .u64 (((hi * 18446744073709551616 + lo) / y : Nat) : Int), .int .u64 (((hi * 18446744073709551616 + lo) % y : Nat) : Int)]) ∧ w' = w := by
  have hb : blen y = 64 := blen_eq (k := 63) hy1 hy2
  have lz := fun w => lead64_any w y hy2
  rw [hb] at lz
  have E := dg_end hh hl
  have ho : bits .or .u64 (hi : Int) 0 = (hi : Int) := by
    have := bits_or_u64_nat hi 0 (by omega) (by decide)
    simpa using this
  have a1 := and32 y hy2
  have a2 := and32 lo hl
  have q1 : (y : Int) / 4294967296 = ((y / 4294967296 : Nat) : Int) := by omega
  have q2 : (lo : Int) / 4294967296 = ((lo / 4294967296 : Nat) : Int) := by omega
  have hyy : Hid (y = y / 4294967296 * 4294967296 + y % 4294967296) := hid (by omega)
  have b1 : 2147483648 ≤ y / 4294967296 := by omega
  have b2 : y % 4294967296 < 4294967296 := by omega
  have b3 : lo / 4294967296 < 4294967296 := by omega
  have b4 : lo % 4294967296 < 4294967296 := by omega
  have i0 : ((y : Int) == 0) = false := by simp; omega
  have i1 : decide ((y : Int) ≤ (hi : Int)) = false := decide_eq_false (by omega)
  have i2 : ((hi : Int) == 0) = false := by simp; omega
  simp only at E
  have HE := hid E
  clear E
  generalize y / 4294967296 = Y1 at *
  generalize y % 4294967296 = Y0 at *
  generalize lo / 4294967296 = U1 at *
  generalize lo % 4294967296 = U0 at *
  have hz : (64 : Int) - 0 = 64 := rfl
  have hlo : (lo : Int) / 18446744073709551616 = 0 := by omega
  have QL := dg_lt hh b3
  obtain ⟨QT, hQT⟩ : ∃ QT, QT = (hi * 4294967296 + U1) / y := ⟨_, rfl⟩
  obtain ⟨R2, hR2⟩ : ∃ R2, R2 = (hi * 4294967296 + U1) % y := ⟨_, rfl⟩
  have D1 := Nat.div_add_mod (hi * 4294967296 + U1) y
  have L2 : R2 < y := by rw [hR2]; exact Nat.mod_lt _ (by omega)
  have E := HE.out
  rw [← hQT, ← hR2] at E
  rw [← hQT] at QL
  rw [← hQT, ← hR2, Nat.mul_comm] at D1
  have QL2 := dg_lt L2 b4
  obtain ⟨Q0, hQ0⟩ : ∃ Q0, Q0 = (R2 * 4294967296 + U0) / y := ⟨_, rfl⟩
  obtain ⟨RF, hRF⟩ : ∃ RF, RF = (R2 * 4294967296 + U0) % y := ⟨_, rfl⟩
  have D2 := Nat.div_add_mod (R2 * 4294967296 + U0) y
  have L3 : RF < y := by rw [hRF]; exact Nat.mod_lt _ (by omega)
  rw [← hQ0, ← hRF] at E
  rw [← hQ0] at QL2
  rw [← hQ0, ← hRF, Nat.mul_comm] at D2
  have eb := wrap_back hi U1 QT y R2 D1.symm (by omega)
  have ec := wrap_back R2 U0 Q0 y RF D2.symm (by omega)
  have ed : IntKind.u64.wrap (IntKind.u64.wrap ((QT : Int) * 4294967296) + (Q0 : Int)) = ((QT * 4294967296 + Q0 : Nat) : Int) := by simp only [IntKind.wrap_u64]; omega
  rw [← E.1, ← E.2]
  obtain ⟨ANS, hA⟩ : ∃ A, A = QT * 4294967296 + Q0 := ⟨_, rfl⟩
  rw [← hA] at ed ⊢
  have HA := hid hA
  clear hA
  have HT := hid hQT
  have HT0 := hid hQ0
  clear HE E D1 D2 hQT hR2 hQ0 hRF
  have hY : (Y1 : Int) ≠ 0 := by omega
  have Sa := dg_start (un := U1) hyy.out b2 b1 hh b3
  rw [← HT.out] at Sa
  have e1a : IntKind.u64.wrap ((hi : Int) / (Y1 : Int)) = ((hi / Y1 : Nat) : Int) := by rw [← Int.natCast_ediv]; exact wrapN _ (by omega)
  have e2a : IntKind.u64.wrap (((hi / Y1 : Nat) : Int) * (Y1 : Int)) = ((hi / Y1 * Y1 : Nat) : Int) := wrapMul _ _ (by omega)
  have e3a : IntKind.u64.wrap ((hi : Int) - ((hi / Y1 * Y1 : Nat) : Int)) = ((hi - hi / Y1 * Y1 : Nat) : Int) := wrapSub _ _ (by omega) (by omega)
  obtain ⟨Qa, hQa⟩ : ∃ Q, Q = hi / Y1 := ⟨_, rfl⟩
  rw [← hQa] at Sa e1a e2a e3a
  clear hQa
  obtain ⟨Pa, hPa⟩ : ∃ P, P = Qa * Y1 := ⟨_, rfl⟩
  rw [← hPa] at e2a e3a
  have HSa := hid (And.intro Sa hPa)
  clear Sa hPa
  have Sb := dg_start (un := U0) hyy.out b2 b1 L2 b4
  rw [← HT0.out] at Sb
  have e1b : IntKind.u64.wrap ((R2 : Int) / (Y1 : Int)) = ((R2 / Y1 : Nat) : Int) := by rw [← Int.natCast_ediv]; exact wrapN _ (by omega)
  have e2b : IntKind.u64.wrap (((R2 / Y1 : Nat) : Int) * (Y1 : Int)) = ((R2 / Y1 * Y1 : Nat) : Int) := wrapMul _ _ (by omega)
  have e3b : IntKind.u64.wrap ((R2 : Int) - ((R2 / Y1 * Y1 : Nat) : Int)) = ((R2 - R2 / Y1 * Y1 : Nat) : Int) := wrapSub _ _ (by omega) (by omega)
  obtain ⟨Qb, hQb⟩ : ∃ Q, Q = R2 / Y1 := ⟨_, rfl⟩
  rw [← hQb] at Sb e1b e2b e3b
  clear hQb
  obtain ⟨Pb, hPb⟩ : ∃ P, P = Qb * Y1 := ⟨_, rfl⟩
  rw [← hPb] at e2b e3b
  have HSb := hid (And.intro Sb hPb)
  clear Sb hPb
  go_enter Tryz.func125, Tryz.ntmps125
  go_wp2_with fail
  refine (lz _).mono ?_
  rintro e wq ⟨rfl, rfl⟩
  go_wp2_with fail
  go_loop [15, 16] (fun q r => ∃ aa ba : Nat, q = .int .u64 aa ∧ r = .int .u64 ba ∧ aa ≤ 4294967297 ∧ ba < 4294967296 ∧ Hid (QT ≤ aa ∧ hi = aa * Y1 + ba)) (fun q _ => (intOf q).toNat)
  case atStart => exact ⟨Qa, hi - Pa, rfl, rfl, HSa.out.1.1, (by have := HSa.out; omega), hid ⟨HSa.out.1.2.1, by have h := HSa.out.1.2.2.1; rw [← HSa.out.2] at h; rw [← HSa.out.2]; exact h⟩⟩
  case round =>
    obtain ⟨aa, ba, rfl, rfl, l1a, l2a, Ha⟩ := hrel
    have f2a : IntKind.u64.wrap ((ba : Int) + (Y1 : Int)) = ((ba + Y1 : Nat) : Int) := wrapAdd _ _ (by omega)
    by_cases ca : 4294967296 ≤ aa
    · have j0a : decide (4294967296 ≤ (aa : Int)) = true := decide_eq_true (by omega)
      have ga : QT < aa := (by omega)
      have f1a : IntKind.u64.wrap ((aa : Int) - 1) = ((aa - 1 : Nat) : Int) := wrapSub aa 1 (by omega) (by omega)
      have ua : hi = (aa - 1) * Y1 + (ba + Y1) := by have h := Ha.out.2; have e : aa * Y1 = (aa - 1) * Y1 + Y1 := (by rw [← Nat.succ_mul]; congr 1; omega); omega
      have HUa := hid ua
      clear ua
      obtain ⟨a', ha'⟩ : ∃ a', a' = aa - 1 := ⟨_, rfl⟩
      rw [← ha'] at f1a HUa
      obtain ⟨b', hb'⟩ : ∃ b', b' = ba + Y1 := ⟨_, rfl⟩
      rw [← hb'] at f2a HUa
      by_cases cb : 4294967296 ≤ b'
      · have j1a : decide (4294967296 ≤ (b' : Int)) = true := decide_eq_true (by omega)
        obtain rfl : a' = QT := by rw [HT.out]; exact dg_far hyy.out b2 (by omega) HUa.out (by rw [← HT.out]; omega) (by omega) cb
        clear cb ha' hb' ga
        go_wp2_with fail
        go_loop [18, 16] (fun q r => ∃ ab bb : Nat, q = .int .u64 ab ∧ r = .int .u64 bb ∧ ab ≤ 4294967297 ∧ bb < 4294967296 ∧ Hid (Q0 ≤ ab ∧ R2 = ab * Y1 + bb)) (fun q _ => (intOf q).toNat)
        case atStart => exact ⟨Qb, R2 - Pb, rfl, rfl, HSb.out.1.1, (by have := HSb.out; omega), hid ⟨HSb.out.1.2.1, by have h := HSb.out.1.2.2.1; rw [← HSb.out.2] at h; rw [← HSb.out.2]; exact h⟩⟩
        case round =>
          obtain ⟨ab, bb, rfl, rfl, l1b, l2b, Hb⟩ := hrel
          have f2b : IntKind.u64.wrap ((bb : Int) + (Y1 : Int)) = ((bb + Y1 : Nat) : Int) := wrapAdd _ _ (by omega)
          by_cases ca : 4294967296 ≤ ab
          · have j0b : decide (4294967296 ≤ (ab : Int)) = true := decide_eq_true (by omega)
            have gb : Q0 < ab := (by omega)
            have f1b : IntKind.u64.wrap ((ab : Int) - 1) = ((ab - 1 : Nat) : Int) := wrapSub ab 1 (by omega) (by omega)
            have ub : R2 = (ab - 1) * Y1 + (bb + Y1) := by have h := Hb.out.2; have e : ab * Y1 = (ab - 1) * Y1 + Y1 := (by rw [← Nat.succ_mul]; congr 1; omega); omega
            have HUb := hid ub
            clear ub
            obtain ⟨a', ha'⟩ : ∃ a', a' = ab - 1 := ⟨_, rfl⟩
            rw [← ha'] at f1b HUb
            obtain ⟨b', hb'⟩ : ∃ b', b' = bb + Y1 := ⟨_, rfl⟩
            rw [← hb'] at f2b HUb
            by_cases cb : 4294967296 ≤ b'
            · have j1b : decide (4294967296 ≤ (b' : Int)) = true := decide_eq_true (by omega)
              obtain rfl : a' = Q0 := by rw [HT0.out]; exact dg_far hyy.out b2 (by omega) HUb.out (by rw [← HT0.out]; omega) (by omega) cb
              clear cb ha' hb' gb
              go_wp2
              go_ret2
              exact ⟨ret_pair (by have h := HA.out; first | rfl | omega) (by first | rfl | exact ec | omega), rfl⟩
            · have j1b : decide (4294967296 ≤ (b' : Int)) = false := decide_eq_false (by omega)
              have HAB := hid (And.intro ha' (And.intro hb' (And.intro cb gb)))
              clear ha' hb' cb gb
              go_wp2
              go_round
              case rel => (have h := HAB.out; exact ⟨a', b', rfl, rfl, by omega, by omega, hid ⟨by omega, HUb.out⟩⟩)
              case measure => (have h := HAB.out; simp [intOf]; omega)
          · have j0b : decide (4294967296 ≤ (ab : Int)) = false := decide_eq_false (by omega)
            have p1b : ab * Y0 < 18446744073709551616 := Nat.lt_of_le_of_lt (Nat.mul_le_mul (show ab ≤ 4294967295 by omega) (show Y0 ≤ 4294967295 by omega)) (by decide)
            have f3b := wrapMul ab Y0 p1b
            by_cases cc : 4294967296 * bb + U0 < ab * Y0
            · have gt : Q0 < ab := by rw [HT0.out]; exact dg_less hyy.out (by omega) Hb.out.2 cc
              have j3b : decide (4294967296 * (bb : Int) + (U0 : Int) < ((ab * Y0 : Nat) : Int)) = true := decide_eq_true (by omega)
              obtain ⟨z2, hz2⟩ : ∃ z, z = ab * Y0 := ⟨_, rfl⟩
              rw [← hz2] at f3b j3b
              have HZ := hid hz2
              clear hz2 cc p1b
              have gb : Q0 < ab := gt
              have f1b : IntKind.u64.wrap ((ab : Int) - 1) = ((ab - 1 : Nat) : Int) := wrapSub ab 1 (by omega) (by omega)
              have ub : R2 = (ab - 1) * Y1 + (bb + Y1) := by have h := Hb.out.2; have e : ab * Y1 = (ab - 1) * Y1 + Y1 := (by rw [← Nat.succ_mul]; congr 1; omega); omega
              have HUb := hid ub
              clear ub
              obtain ⟨a', ha'⟩ : ∃ a', a' = ab - 1 := ⟨_, rfl⟩
              rw [← ha'] at f1b HUb
              obtain ⟨b', hb'⟩ : ∃ b', b' = bb + Y1 := ⟨_, rfl⟩
              rw [← hb'] at f2b HUb
              by_cases cb : 4294967296 ≤ b'
              · have j1b : decide (4294967296 ≤ (b' : Int)) = true := decide_eq_true (by omega)
                obtain rfl : a' = Q0 := by rw [HT0.out]; exact dg_far hyy.out b2 (by omega) HUb.out (by rw [← HT0.out]; omega) (by omega) cb
                clear cb ha' hb' gb
                go_wp2
                go_ret2
                exact ⟨ret_pair (by have h := HA.out; first | rfl | omega) (by first | rfl | exact ec | omega), rfl⟩
              · have j1b : decide (4294967296 ≤ (b' : Int)) = false := decide_eq_false (by omega)
                have HAB := hid (And.intro ha' (And.intro hb' (And.intro cb gb)))
                clear ha' hb' cb gb
                go_wp2
                go_round
                case rel => (have h := HAB.out; exact ⟨a', b', rfl, rfl, by omega, by omega, hid ⟨by omega, HUb.out⟩⟩)
                case measure => (have h := HAB.out; simp [intOf]; omega)
            · obtain rfl : ab = Q0 := by rw [HT0.out]; exact dg_done hyy.out (by omega) Hb.out.2 (by rw [← HT0.out]; exact Hb.out.1) (by omega)
              have j3b : decide (4294967296 * (bb : Int) + (U0 : Int) < ((ab * Y0 : Nat) : Int)) = false := decide_eq_false (by omega)
              obtain ⟨z2, hz2⟩ : ∃ z, z = ab * Y0 := ⟨_, rfl⟩
              rw [← hz2] at f3b j3b
              have HZ := hid hz2
              clear hz2 cc p1b
              clear ca
              go_wp2
              go_ret2
              exact ⟨ret_pair (by have h := HA.out; first | rfl | omega) (by first | rfl | exact ec | omega), rfl⟩
      · have j1a : decide (4294967296 ≤ (b' : Int)) = false := decide_eq_false (by omega)
        have HAB := hid (And.intro ha' (And.intro hb' (And.intro cb ga)))
        clear ha' hb' cb ga
        go_wp2
        go_round
        case rel => (have h := HAB.out; exact ⟨a', b', rfl, rfl, by omega, by omega, hid ⟨by omega, HUa.out⟩⟩)
        case measure => (have h := HAB.out; simp [intOf]; omega)
    · have j0a : decide (4294967296 ≤ (aa : Int)) = false := decide_eq_false (by omega)
      have p1a : aa * Y0 < 18446744073709551616 := Nat.lt_of_le_of_lt (Nat.mul_le_mul (show aa ≤ 4294967295 by omega) (show Y0 ≤ 4294967295 by omega)) (by decide)
      have f3a := wrapMul aa Y0 p1a
      by_cases cc : 4294967296 * ba + U1 < aa * Y0
      · have gt : QT < aa := by rw [HT.out]; exact dg_less hyy.out (by omega) Ha.out.2 cc
        have j3a : decide (4294967296 * (ba : Int) + (U1 : Int) < ((aa * Y0 : Nat) : Int)) = true := decide_eq_true (by omega)
        obtain ⟨z2, hz2⟩ : ∃ z, z = aa * Y0 := ⟨_, rfl⟩
        rw [← hz2] at f3a j3a
        have HZ := hid hz2
        clear hz2 cc p1a
        have ga : QT < aa := gt
        have f1a : IntKind.u64.wrap ((aa : Int) - 1) = ((aa - 1 : Nat) : Int) := wrapSub aa 1 (by omega) (by omega)
        have ua : hi = (aa - 1) * Y1 + (ba + Y1) := by have h := Ha.out.2; have e : aa * Y1 = (aa - 1) * Y1 + Y1 := (by rw [← Nat.succ_mul]; congr 1; omega); omega
        have HUa := hid ua
        clear ua
        obtain ⟨a', ha'⟩ : ∃ a', a' = aa - 1 := ⟨_, rfl⟩
        rw [← ha'] at f1a HUa
        obtain ⟨b', hb'⟩ : ∃ b', b' = ba + Y1 := ⟨_, rfl⟩
        rw [← hb'] at f2a HUa
        by_cases cb : 4294967296 ≤ b'
        · have j1a : decide (4294967296 ≤ (b' : Int)) = true := decide_eq_true (by omega)
          obtain rfl : a' = QT := by rw [HT.out]; exact dg_far hyy.out b2 (by omega) HUa.out (by rw [← HT.out]; omega) (by omega) cb
          clear cb ha' hb' ga
          go_wp2_with fail
          go_loop [18, 16] (fun q r => ∃ ab bb : Nat, q = .int .u64 ab ∧ r = .int .u64 bb ∧ ab ≤ 4294967297 ∧ bb < 4294967296 ∧ Hid (Q0 ≤ ab ∧ R2 = ab * Y1 + bb)) (fun q _ => (intOf q).toNat)
          case atStart => exact ⟨Qb, R2 - Pb, rfl, rfl, HSb.out.1.1, (by have := HSb.out; omega), hid ⟨HSb.out.1.2.1, by have h := HSb.out.1.2.2.1; rw [← HSb.out.2] at h; rw [← HSb.out.2]; exact h⟩⟩
          case round =>
            obtain ⟨ab, bb, rfl, rfl, l1b, l2b, Hb⟩ := hrel
            have f2b : IntKind.u64.wrap ((bb : Int) + (Y1 : Int)) = ((bb + Y1 : Nat) : Int) := wrapAdd _ _ (by omega)
            by_cases ca : 4294967296 ≤ ab
            · have j0b : decide (4294967296 ≤ (ab : Int)) = true := decide_eq_true (by omega)
              have gb : Q0 < ab := (by omega)
              have f1b : IntKind.u64.wrap ((ab : Int) - 1) = ((ab - 1 : Nat) : Int) := wrapSub ab 1 (by omega) (by omega)
              have ub : R2 = (ab - 1) * Y1 + (bb + Y1) := by have h := Hb.out.2; have e : ab * Y1 = (ab - 1) * Y1 + Y1 := (by rw [← Nat.succ_mul]; congr 1; omega); omega
              have HUb := hid ub
              clear ub
              obtain ⟨a', ha'⟩ : ∃ a', a' = ab - 1 := ⟨_, rfl⟩
              rw [← ha'] at f1b HUb
              obtain ⟨b', hb'⟩ : ∃ b', b' = bb + Y1 := ⟨_, rfl⟩
              rw [← hb'] at f2b HUb
              by_cases cb : 4294967296 ≤ b'
              · have j1b : decide (4294967296 ≤ (b' : Int)) = true := decide_eq_true (by omega)
                obtain rfl : a' = Q0 := by rw [HT0.out]; exact dg_far hyy.out b2 (by omega) HUb.out (by rw [← HT0.out]; omega) (by omega) cb
                clear cb ha' hb' gb
                go_wp2
                go_ret2
                exact ⟨ret_pair (by have h := HA.out; first | rfl | omega) (by first | rfl | exact ec | omega), rfl⟩
              · have j1b : decide (4294967296 ≤ (b' : Int)) = false := decide_eq_false (by omega)
                have HAB := hid (And.intro ha' (And.intro hb' (And.intro cb gb)))
                clear ha' hb' cb gb
                go_wp2
                go_round
                case rel => (have h := HAB.out; exact ⟨a', b', rfl, rfl, by omega, by omega, hid ⟨by omega, HUb.out⟩⟩)
                case measure => (have h := HAB.out; simp [intOf]; omega)
            · have j0b : decide (4294967296 ≤ (ab : Int)) = false := decide_eq_false (by omega)
              have p1b : ab * Y0 < 18446744073709551616 := Nat.lt_of_le_of_lt (Nat.mul_le_mul (show ab ≤ 4294967295 by omega) (show Y0 ≤ 4294967295 by omega)) (by decide)
              have f3b := wrapMul ab Y0 p1b
              by_cases cc : 4294967296 * bb + U0 < ab * Y0
              · have gt : Q0 < ab := by rw [HT0.out]; exact dg_less hyy.out (by omega) Hb.out.2 cc
                have j3b : decide (4294967296 * (bb : Int) + (U0 : Int) < ((ab * Y0 : Nat) : Int)) = true := decide_eq_true (by omega)
                obtain ⟨z2, hz2⟩ : ∃ z, z = ab * Y0 := ⟨_, rfl⟩
                rw [← hz2] at f3b j3b
                have HZ := hid hz2
                clear hz2 cc p1b
                have gb : Q0 < ab := gt
                have f1b : IntKind.u64.wrap ((ab : Int) - 1) = ((ab - 1 : Nat) : Int) := wrapSub ab 1 (by omega) (by omega)
                have ub : R2 = (ab - 1) * Y1 + (bb + Y1) := by have h := Hb.out.2; have e : ab * Y1 = (ab - 1) * Y1 + Y1 := (by rw [← Nat.succ_mul]; congr 1; omega); omega
                have HUb := hid ub
                clear ub
                obtain ⟨a', ha'⟩ : ∃ a', a' = ab - 1 := ⟨_, rfl⟩
                rw [← ha'] at f1b HUb
                obtain ⟨b', hb'⟩ : ∃ b', b' = bb + Y1 := ⟨_, rfl⟩
                rw [← hb'] at f2b HUb
                by_cases cb : 4294967296 ≤ b'
                · have j1b : decide (4294967296 ≤ (b' : Int)) = true := decide_eq_true (by omega)
                  obtain rfl : a' = Q0 := by rw [HT0.out]; exact dg_far hyy.out b2 (by omega) HUb.out (by rw [← HT0.out]; omega) (by omega) cb
                  clear cb ha' hb' gb
                  go_wp2
                  go_ret2
                  exact ⟨ret_pair (by have h := HA.out; first | rfl | omega) (by first | rfl | exact ec | omega), rfl⟩
                · have j1b : decide (4294967296 ≤ (b' : Int)) = false := decide_eq_false (by omega)
                  have HAB := hid (And.intro ha' (And.intro hb' (And.intro cb gb)))
                  clear ha' hb' cb gb
                  go_wp2
                  go_round
                  case rel => (have h := HAB.out; exact ⟨a', b', rfl, rfl, by omega, by omega, hid ⟨by omega, HUb.out⟩⟩)
                  case measure => (have h := HAB.out; simp [intOf]; omega)
              · obtain rfl : ab = Q0 := by rw [HT0.out]; exact dg_done hyy.out (by omega) Hb.out.2 (by rw [← HT0.out]; exact Hb.out.1) (by omega)
                have j3b : decide (4294967296 * (bb : Int) + (U0 : Int) < ((ab * Y0 : Nat) : Int)) = false := decide_eq_false (by omega)
                obtain ⟨z2, hz2⟩ : ∃ z, z = ab * Y0 := ⟨_, rfl⟩
                rw [← hz2] at f3b j3b
                have HZ := hid hz2
                clear hz2 cc p1b
                clear ca
                go_wp2
                go_ret2
                exact ⟨ret_pair (by have h := HA.out; first | rfl | omega) (by first | rfl | exact ec | omega), rfl⟩
        · have j1a : decide (4294967296 ≤ (b' : Int)) = false := decide_eq_false (by omega)
          have HAB := hid (And.intro ha' (And.intro hb' (And.intro cb ga)))
          clear ha' hb' cb ga
          go_wp2
          go_round
          case rel => (have h := HAB.out; exact ⟨a', b', rfl, rfl, by omega, by omega, hid ⟨by omega, HUa.out⟩⟩)
          case measure => (have h := HAB.out; simp [intOf]; omega)
      · obtain rfl : aa = QT := by rw [HT.out]; exact dg_done hyy.out (by omega) Ha.out.2 (by rw [← HT.out]; exact Ha.out.1) (by omega)
        have j3a : decide (4294967296 * (ba : Int) + (U1 : Int) < ((aa * Y0 : Nat) : Int)) = false := decide_eq_false (by omega)
        obtain ⟨z2, hz2⟩ : ∃ z, z = aa * Y0 := ⟨_, rfl⟩
        rw [← hz2] at f3a j3a
        have HZ := hid hz2
        clear hz2 cc p1a
        clear ca
        go_wp2_with fail
        go_loop [18, 16] (fun q r => ∃ ab bb : Nat, q = .int .u64 ab ∧ r = .int .u64 bb ∧ ab ≤ 4294967297 ∧ bb < 4294967296 ∧ Hid (Q0 ≤ ab ∧ R2 = ab * Y1 + bb)) (fun q _ => (intOf q).toNat)
        case atStart => exact ⟨Qb, R2 - Pb, rfl, rfl, HSb.out.1.1, (by have := HSb.out; omega), hid ⟨HSb.out.1.2.1, by have h := HSb.out.1.2.2.1; rw [← HSb.out.2] at h; rw [← HSb.out.2]; exact h⟩⟩
        case round =>
          obtain ⟨ab, bb, rfl, rfl, l1b, l2b, Hb⟩ := hrel
          have f2b : IntKind.u64.wrap ((bb : Int) + (Y1 : Int)) = ((bb + Y1 : Nat) : Int) := wrapAdd _ _ (by omega)
          by_cases ca : 4294967296 ≤ ab
          · have j0b : decide (4294967296 ≤ (ab : Int)) = true := decide_eq_true (by omega)
            have gb : Q0 < ab := (by omega)
            have f1b : IntKind.u64.wrap ((ab : Int) - 1) = ((ab - 1 : Nat) : Int) := wrapSub ab 1 (by omega) (by omega)
            have ub : R2 = (ab - 1) * Y1 + (bb + Y1) := by have h := Hb.out.2; have e : ab * Y1 = (ab - 1) * Y1 + Y1 := (by rw [← Nat.succ_mul]; congr 1; omega); omega
            have HUb := hid ub
            clear ub
            obtain ⟨a', ha'⟩ : ∃ a', a' = ab - 1 := ⟨_, rfl⟩
            rw [← ha'] at f1b HUb
            obtain ⟨b', hb'⟩ : ∃ b', b' = bb + Y1 := ⟨_, rfl⟩
            rw [← hb'] at f2b HUb
            by_cases cb : 4294967296 ≤ b'
            · have j1b : decide (4294967296 ≤ (b' : Int)) = true := decide_eq_true (by omega)
              obtain rfl : a' = Q0 := by rw [HT0.out]; exact dg_far hyy.out b2 (by omega) HUb.out (by rw [← HT0.out]; omega) (by omega) cb
              clear cb ha' hb' gb
              go_wp2
              go_ret2
              exact ⟨ret_pair (by have h := HA.out; first | rfl | omega) (by first | rfl | exact ec | omega), rfl⟩
            · have j1b : decide (4294967296 ≤ (b' : Int)) = false := decide_eq_false (by omega)
              have HAB := hid (And.intro ha' (And.intro hb' (And.intro cb gb)))
              clear ha' hb' cb gb
              go_wp2
              go_round
              case rel => (have h := HAB.out; exact ⟨a', b', rfl, rfl, by omega, by omega, hid ⟨by omega, HUb.out⟩⟩)
              case measure => (have h := HAB.out; simp [intOf]; omega)
          · have j0b : decide (4294967296 ≤ (ab : Int)) = false := decide_eq_false (by omega)
            have p1b : ab * Y0 < 18446744073709551616 := Nat.lt_of_le_of_lt (Nat.mul_le_mul (show ab ≤ 4294967295 by omega) (show Y0 ≤ 4294967295 by omega)) (by decide)
            have f3b := wrapMul ab Y0 p1b
            by_cases cc : 4294967296 * bb + U0 < ab * Y0
            · have gt : Q0 < ab := by rw [HT0.out]; exact dg_less hyy.out (by omega) Hb.out.2 cc
              have j3b : decide (4294967296 * (bb : Int) + (U0 : Int) < ((ab * Y0 : Nat) : Int)) = true := decide_eq_true (by omega)
              obtain ⟨z2, hz2⟩ : ∃ z, z = ab * Y0 := ⟨_, rfl⟩
              rw [← hz2] at f3b j3b
              have HZ := hid hz2
              clear hz2 cc p1b
              have gb : Q0 < ab := gt
              have f1b : IntKind.u64.wrap ((ab : Int) - 1) = ((ab - 1 : Nat) : Int) := wrapSub ab 1 (by omega) (by omega)
              have ub : R2 = (ab - 1) * Y1 + (bb + Y1) := by have h := Hb.out.2; have e : ab * Y1 = (ab - 1) * Y1 + Y1 := (by rw [← Nat.succ_mul]; congr 1; omega); omega
              have HUb := hid ub
              clear ub
              obtain ⟨a', ha'⟩ : ∃ a', a' = ab - 1 := ⟨_, rfl⟩
              rw [← ha'] at f1b HUb
              obtain ⟨b', hb'⟩ : ∃ b', b' = bb + Y1 := ⟨_, rfl⟩
              rw [← hb'] at f2b HUb
              by_cases cb : 4294967296 ≤ b'
              · have j1b : decide (4294967296 ≤ (b' : Int)) = true := decide_eq_true (by omega)
                obtain rfl : a' = Q0 := by rw [HT0.out]; exact dg_far hyy.out b2 (by omega) HUb.out (by rw [← HT0.out]; omega) (by omega) cb
                clear cb ha' hb' gb
                go_wp2
                go_ret2
                exact ⟨ret_pair (by have h := HA.out; first | rfl | omega) (by first | rfl | exact ec | omega), rfl⟩
              · have j1b : decide (4294967296 ≤ (b' : Int)) = false := decide_eq_false (by omega)
                have HAB := hid (And.intro ha' (And.intro hb' (And.intro cb gb)))
                clear ha' hb' cb gb
                go_wp2
                go_round
                case rel => (have h := HAB.out; exact ⟨a', b', rfl, rfl, by omega, by omega, hid ⟨by omega, HUb.out⟩⟩)
                case measure => (have h := HAB.out; simp [intOf]; omega)
            · obtain rfl : ab = Q0 := by rw [HT0.out]; exact dg_done hyy.out (by omega) Hb.out.2 (by rw [← HT0.out]; exact Hb.out.1) (by omega)
              have j3b : decide (4294967296 * (bb : Int) + (U0 : Int) < ((ab * Y0 : Nat) : Int)) = false := decide_eq_false (by omega)
              obtain ⟨z2, hz2⟩ : ∃ z, z = ab * Y0 := ⟨_, rfl⟩
              rw [← hz2] at f3b j3b
              have HZ := hid hz2
              clear hz2 cc p1b
              clear ca
              go_wp2
              go_ret2
              exact ⟨ret_pair (by have h := HA.out; first | rfl | omega) (by first | rfl | exact ec | omega), rfl⟩
end Go.Proofs.YtcfhajnboamnnabGreatDoor
