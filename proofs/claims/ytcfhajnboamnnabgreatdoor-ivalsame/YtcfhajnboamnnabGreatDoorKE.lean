/- Contract of nat's takeTimes. -/
/- Contract of nat's guess. -/
/- Contracts of nat's nextDigit and of LeadingZeros32. -/
/- Numbers of the long division. -/
/- Contract of nat's divideLong. -/
/- Contracts of nat's divide and Div. -/
/- Contract of the second telling's Div: a bit of the quotient at a time. -/
import Derived.Test.YtcfhajnboamnnabGreatDoorKD
namespace Go.Proofs.YtcfhajnboamnnabGreatDoor
open Go.RowKit
set_option linter.unusedVariables false

/-- One round: x less the low limb of s and a borrow. -/
theorem take_step {P X Y Z m c b b' x y r s : Nat} (h : X + b * P + c * P = Z + m * Y) (hs : s = c + m * y) (e : x + b' * 4294967296 = r + (b + s % 4294967296)) :
    X + P * x + b' * (P * 4294967296) + s / 4294967296 * (P * 4294967296) = Z + P * r + m * (Y + P * y) := by
  have h1 := Nat.div_add_mod s 4294967296
  have e1 : P * (x + b' * 4294967296) = P * (r + (b + s % 4294967296)) := by rw [e]
  have e2 : P * s = P * c + P * (m * y) := by rw [hs]; grind
  have e3 : P * s = P * (s % 4294967296) + s / 4294967296 * (P * 4294967296) := by
    conv => lhs; rw [← h1]
    grind
  grind

theorem sub_low (x s b : Nat) (hx : x < 4294967296) (hb : b ≤ 1) :
    ∃ r b' : Nat, r < 4294967296 ∧ b' ≤ 1 ∧ x + b' * 4294967296 = r + (b + s % 4294967296) ∧ IntKind.u64.wrap (IntKind.u64.wrap ((x : Int) - (s : Int) % 4294967296) - b) / 9223372036854775808 = (b' : Int) ∧ IntKind.u64.wrap (IntKind.u64.wrap ((x : Int) - (s : Int) % 4294967296) - b) % 4294967296 = (r : Int) := by
  have := sub_wrap2 x (s % 4294967296) b hx hb (by omega)
  simpa using this

set_option maxHeartbeats 1000000 in
theorem takeTimes_any {w : World} {len off : Nat} {g cap m : Nat} {pre xs post ys : List Nat} {v : Value} (hb : Blk w g (pre ++ (xs ++ post))) (hlen : len = xs.length) (hofs : off = pre.length) (hcap : xs.length ≤ cap) (hcm : cap ≤ maxLen)
    (hv : Rd w v ys) (hoff : Off v g) (hle : xs.length = ys.length + 1) (hs : xs.length ≤ 1000000000) (hm : m < 4294967296) :
    Calls Tryz.prog 157 #[.slice (some ⟨g, off, none⟩) len cap, v, .int .u32 m] w fun e w' =>
      ∃ (c : Nat) (zs : List Nat), e = .returned (.bool (((c : Nat) : Int) != 0)) ∧ zs.length = xs.length ∧ Blk w' g (pre ++ (zs ++ post)) ∧ Only g w w' ∧ c ≤ 1 ∧ val xs + c * 4294967296 ^ xs.length = val zs + m * val ys := by
  subst hlen hofs
  obtain ⟨ao, cap2, rfl, h1, h2, hoky, hcy⟩ := hv.parts
  unfold maxLen at hcm h2
  have hle2 : ys.length + 1 ≤ xs.length ∧ xs.length ≤ ys.length + 1 := by omega
  have HLE : Hid (xs.length = ys.length + 1) := hle
  clear hle
  obtain ⟨hle3, hle4⟩ := hle2
  go_enter Tryz.func157, Tryz.ntmps157
  go_wp2
  go_loopw [7, 8, 13] (fun c b i wr => ∃ (k : Nat) (cn bn : Nat) (zs : List Nat), k ≤ xs.length ∧ i = .int .i64 k ∧ c = .int .u64 cn ∧ b = .int .u64 bn ∧ cn < 4294967296 ∧ bn ≤ 1 ∧ zs.length = xs.length ∧ Blk wr g (pre ++ (zs ++ post)) ∧ Only g w wr ∧ zs.drop k = xs.drop k ∧
      (ys.length < k → cn = 0) ∧ val (xs.take k) + bn * 4294967296 ^ k + cn * 4294967296 ^ k = val (zs.take k) + m * val (ys.take k)) (fun _ _ i _ => xs.length - (intOf i).toNat)
  case atStart => exact ⟨0, 0, 0, xs, by omega, rfl, rfl, rfl, by omega, by omega, rfl, hb, Only.refl _ _, rfl, by omega, by simp [val]⟩
  case round =>
    obtain ⟨k, cn, bn, zs, hk, rfl, rfl, rfl, hc1, hb1, hzl, hbz, hon, hdr, hz0, hval⟩ := hrel
    have H : Hid (zs.length = xs.length ∧ Blk wr g (pre ++ (zs ++ post)) ∧ Only g w wr ∧ zs.drop k = xs.drop k ∧ (ys.length < k → cn = 0) ∧ val (xs.take k) + bn * 4294967296 ^ k + cn * 4294967296 ^ k = val (zs.take k) + m * val (ys.take k)) := ⟨hzl, hbz, hon, hdr, hz0, hval⟩
    clear hzl hbz hon hdr hval hz0
    by_cases hlt : k < xs.length
    · have hlz : k < zs.length := by rw [H.out.1]; exact hlt
      have hzk := H.out.2.1.mid k hlz
      have hfz := H.out.2.1.frozen (pre.length + k)
      rw [getD_of_drop H.out.2.2.2.1] at hzk
      obtain ⟨x, hx⟩ : ∃ x, x = xs.getD k 0 := ⟨_, rfl⟩
      have hxb : x < 4294967296 := by rw [hx]; exact hb.okMid.getD _
      rw [← hx] at hzk
      have HX : Hid (x = xs.getD k 0) := hx
      clear hx
      have HL : Hid (k < zs.length) := hlz
      clear hlz
      by_cases hly : k < ys.length
      · obtain ⟨bb, bo, rfl, hyk⟩ := hcy k hly
        obtain ⟨y, hy⟩ : ∃ y, y = ys.getD k 0 := ⟨_, rfl⟩
        have hyb : y < 4294967296 := by rw [hy]; exact hoky.getD _
        rw [← hy] at hyk
        have hyk2 := H.out.2.2.1.cell hyk (by intro e; apply hoff; simp at e; simp [Value.ownBlock, e])
        clear hyk
        have HY : Hid (y = ys.getD k 0) := hy
        clear hy
        have HW := hid <| sub_low x (cn + m * y) bn hxb hb1
        obtain ⟨hp2, hp3, hp4⟩ := mul_bd hm hyb
        go_wp2
        go_roundw
        case rel =>
          obtain ⟨q1, q2, q3, q4, q6, q5⟩ := H.out
          obtain ⟨r, c', hr, hc', hs', e1, e2⟩ := HW.out
          have e0 : ((cn : Int) + ((m : Int) * (y : Int))) = ((cn + m * y : Nat) : Int) := by simp
          rw [e0, e1, e2]
          refine ⟨k + 1, (cn + m * y) / 4294967296, c', zs.set k r, by omega, by go_num, by simp, rfl, by omega, hc', by rw [set_len]; exact q1, q2.setAt k HL.out _ _ rfl hr, q3.setv _ _, set_drop q4, by omega, ?_⟩
          rw [set_val HL.out, val_take_succ xs, val_take_succ ys, ← HX.out, ← HY.out, Nat.pow_succ]
          exact take_step q5 rfl hs'
        case measure => simp [intOf] <;> omega
      · have HW := hid <| sub_low x cn bn hxb hb1
        go_wp2
        go_roundw
        case rel =>
          obtain ⟨q1, q2, q3, q4, q6, q5⟩ := H.out
          obtain ⟨r, c', hr, hc', hs', e1, e2⟩ := HW.out
          rw [show (cn : Int) % 4294967296 = cn by omega] at e1 e2
          rw [e1, e2]
          refine ⟨k + 1, cn / 4294967296, c', zs.set k r, by omega, by go_num, by simp, rfl, by omega, hc', by rw [set_len]; exact q1, q2.setAt k HL.out _ _ rfl hr, q3.setv _ _, set_drop q4, by omega, ?_⟩
          rw [set_val HL.out, val_take_succ xs, val_take_succ ys, ← HX.out, Nat.pow_succ, List.getD_eq_getElem?_getD (l := ys), List.getElem?_eq_none (by omega)]
          exact take_step q5 (by simp) hs'
        case measure => simp [intOf] <;> omega
    · go_wp2
      go_ret
      obtain ⟨q1, q2, q3, q4, q6, q5⟩ := H.out
      have hkl : k = xs.length := by omega
      subst hkl
      have hc0 := q6 (by omega)
      subst hc0
      refine ⟨bn, zs, by congr 2, q1, q2, q3, hb1, ?_⟩
      rw [val_take_all (Nat.le_refl _), val_take_all (by omega), val_take_all (by omega)] at q5
      omega

end Go.Proofs.YtcfhajnboamnnabGreatDoor

namespace Go.Proofs.YtcfhajnboamnnabGreatDoor
open Go.RowKit
set_option linter.unusedVariables false

/-- A digit that the second limb refutes is too great. -/
theorem guess_less {V D d v1 v0 top r u0 P lo dl : Nat} (hV : V = (top * 4294967296 + u0) * P + lo) (hlo : lo < P) (hD : D = (v1 * 4294967296 + v0) * P + dl) (hr : d * v1 + r = top) (h : r * 4294967296 + u0 < d * v0) : V < d * D := by
  have h1 : top * 4294967296 + u0 + 1 ≤ d * (v1 * 4294967296 + v0) := by
    rw [Nat.mul_add, ← Nat.mul_assoc]; omega
  have h2 : (top * 4294967296 + u0 + 1) * P ≤ d * (v1 * 4294967296 + v0) * P := Nat.mul_le_mul_right _ h1
  have h3 : d * D = d * (v1 * 4294967296 + v0) * P + d * dl := by rw [hD, Nat.mul_add, Nat.mul_assoc]
  have h4 : (top * 4294967296 + u0 + 1) * P = (top * 4294967296 + u0) * P + P := by rw [Nat.add_mul, Nat.one_mul]
  omega

/-- A digit that it doesn't refute is right, or one too great. -/
theorem guess_near {V D d v1 v0 top r u0 P lo dl : Nat} (hV : V = (top * 4294967296 + u0) * P + lo) (hD : D = (v1 * 4294967296 + v0) * P + dl) (hdl : dl < P) (hr : d * v1 + r = top) (h : d * v0 ≤ r * 4294967296 + u0)
    (hd : d < 4294967296) (hv : 0 < v1) : d * D < V + D := by
  have h1 : d * (v1 * 4294967296 + v0) ≤ top * 4294967296 + u0 := by
    rw [Nat.mul_add, ← Nat.mul_assoc]; omega
  have h2 : d * (v1 * 4294967296 + v0) * P ≤ (top * 4294967296 + u0) * P := Nat.mul_le_mul_right _ h1
  have h3 : d * D = d * (v1 * 4294967296 + v0) * P + d * dl := by rw [hD, Nat.mul_add, Nat.mul_assoc]
  have h4 : d * dl ≤ d * P := Nat.mul_le_mul_left _ (by omega)
  have h5 : d * P + P ≤ 4294967296 * P := by
    have : (d + 1) * P ≤ 4294967296 * P := Nat.mul_le_mul_right _ (by omega)
    rwa [Nat.add_mul, Nat.one_mul] at this
  have h6 : 4294967296 * P ≤ (v1 * 4294967296 + v0) * P := Nat.mul_le_mul_right _ (by omega)
  omega

/-- The first guess is not too small. -/
theorem guess_start {V D v1 v0 top u0 P lo dl : Nat} (hV : V = (top * 4294967296 + u0) * P + lo) (hlo : lo < P) (hu : u0 < 4294967296) (hD : D = (v1 * 4294967296 + v0) * P + dl) (hv : 0 < v1) : V < (top / v1 + 1) * D := by
  have h0 : top + 1 ≤ (top / v1 + 1) * v1 := by
    have h1 := Nat.div_add_mod top v1
    have h2 := Nat.mod_lt top hv
    rw [Nat.add_mul, Nat.one_mul, Nat.mul_comm]; omega
  generalize top / v1 + 1 = d at *
  have h1 : (top * 4294967296 + u0 + 1) ≤ d * (v1 * 4294967296 + v0) := by
    have : (top + 1) * 4294967296 ≤ d * v1 * 4294967296 := Nat.mul_le_mul_right _ h0
    rw [Nat.mul_add, ← Nat.mul_assoc]; omega
  have h2 : (top * 4294967296 + u0 + 1) * P ≤ d * (v1 * 4294967296 + v0) * P := Nat.mul_le_mul_right _ h1
  have h3 : d * D = d * (v1 * 4294967296 + v0) * P + d * dl := by rw [hD, Nat.mul_add, Nat.mul_assoc]
  have h4 : (top * 4294967296 + u0 + 1) * P = (top * 4294967296 + u0) * P + P := by rw [Nat.add_mul, Nat.one_mul]
  omega

/-- The topmost limb is at most the divisor's. -/
theorem guess_top {V D v1 v0 u2 u1 u0 P lo dl : Nat} (hV : V = ((u2 * 4294967296 + u1) * 4294967296 + u0) * P + lo) (hD : D = (v1 * 4294967296 + v0) * P + dl) (hdl : dl < P) (hv0 : v0 < 4294967296) (h : V < 4294967296 * D) : u2 ≤ v1 := by
  rcases Nat.lt_or_ge v1 u2 with hlt | hge
  · exfalso
    have h1 : D < (v1 * 4294967296 + v0 + 1) * P := by rw [hD, Nat.add_mul (v1 * 4294967296 + v0), Nat.one_mul]; omega
    have h2 : (v1 * 4294967296 + v0 + 1) * P ≤ (u2 * 4294967296) * P := Nat.mul_le_mul_right _ (by omega)
    have h3 : 4294967296 * ((u2 * 4294967296) * P) ≤ ((u2 * 4294967296 + u1) * 4294967296 + u0) * P := by
      rw [← Nat.mul_assoc]; exact Nat.mul_le_mul_right _ (by omega)
    omega
  · exact hge

theorem u64_le {n : Nat} (h : n < 18446744073709551616) : (n : Int) ≤ 18446744073709551615 := by omega

set_option maxHeartbeats 4000000 in
theorem guess_raw {w : World} {pb po pc db dof dc n u0 u1 u2 v0 v1 : Nat} (hn : 2 ≤ n) (hn2 : n ≤ 1000000000) (hpc : n + 1 ≤ pc) (hpm : pc ≤ maxLen) (hdc : n ≤ dc) (hdm : dc ≤ maxLen)
    (c0 : w.cell? ⟨pb, po + (n - 2), none⟩ = some (.int .u32 (u0 : Int))) (c1 : w.cell? ⟨pb, po + (n - 1), none⟩ = some (.int .u32 (u1 : Int))) (c2 : w.cell? ⟨pb, po + n, none⟩ = some (.int .u32 (u2 : Int)))
    (d0 : w.cell? ⟨db, dof + (n - 2), none⟩ = some (.int .u32 (v0 : Int))) (d1 : w.cell? ⟨db, dof + (n - 1), none⟩ = some (.int .u32 (v1 : Int)))
    (hu0 : u0 < 4294967296) (hu1 : u1 < 4294967296) (hu2 : u2 < 4294967296) (hv0 : v0 < 4294967296) (hv1 : v1 < 4294967296) (hv : 0 < v1) (hle : u2 ≤ v1)
    (I : Nat → Prop) (h0 : I ((u2 * 4294967296 + u1) / v1)) (hbig : ∀ d, I (d + 1) → 4294967296 ≤ d + 1 → I d)
    (hless : ∀ d r, I (d + 1) → (d + 1) * v1 + r = u2 * 4294967296 + u1 → r * 4294967296 + u0 < (d + 1) * v0 → I d) :
    Calls Tryz.prog 156 #[.slice (some ⟨pb, po, none⟩) (n + 1) pc, .slice (some ⟨db, dof, none⟩) n dc] w fun e w' =>
      ∃ d r : Nat, e = .returned (.int .u32 d) ∧ d < 4294967296 ∧ I d ∧ d * v1 + r = u2 * 4294967296 + u1 ∧ d * v0 ≤ r * 4294967296 + u0 ∧ Fwd w w' := by
  unfold maxLen at hpm hdm
  obtain ⟨top, htop⟩ : ∃ top, top = u2 * 4294967296 + u1 := ⟨_, rfl⟩
  have hor := or_join u2 u1 hu2 hu1
  rw [← htop] at h0 hless hor ⊢
  have HI0 := hid h0
  have HB := hid hbig
  have HLS := hid hless
  clear h0 hbig hless
  have htb : top < 18446744073709551616 := by omega
  have htb2 := u64_le htb
  have HT := hid htop
  have HTB := hid htb
  clear htop htb
  have hv1i : ((v1 : Int) == 0) = false := by simp; omega
  have HF0 := hid (Fwd.refl w)
  go_enter Tryz.func156, Tryz.ntmps156
  go_wp2_with fail
  go_quiet (fail)
  go_wp2_with fail
  have hf1 := HF0.out.drewN nq
  have c01 := hf1.cell c0
  have c11 := hf1.cell c1
  have c21 := hf1.cell c2
  clear c0 c1 c2 d0 d1 HF0
  generalize w.drewN nq = wq at *
  go_quiet (fail)
  go_wp2_with fail
  have hf2 := hf1.drewN nq
  have c02 := ((Fwd.refl wq).drewN nq).cell c01
  clear c01 c11 c21 hf1
  generalize wq.drewN nq = w2 at *
  have hd0 : 0 ≤ (top : Int) / (v1 : Int) := by rw [← Int.natCast_ediv]; exact Int.natCast_nonneg _
  have hd1 : (top : Int) / (v1 : Int) ≤ 18446744073709551615 := by
    rw [← Int.natCast_ediv]
    have := Nat.div_le_self top v1
    omega
  go_quiet (fail)
  go_wp2_with fail
  have hf3 := hf2.drewN nq
  have c03 := ((Fwd.refl w2).drewN nq).cell c02
  clear c02 hf2
  generalize w2.drewN nq = w3 at *
  have C := hid c03
  clear c03
  go_loopw [9, 10] (fun x y wr => ∃ d r : Nat, x = .int .u64 d ∧ y = .int .u64 r ∧ r < 4294967296 ∧ (d : Int) ≤ 18446744073709551615 ∧ I d ∧ d * v1 + r = top ∧ Fwd w3 wr) (fun x _ _ => (intOf x).toNat)
  case atStart =>
    refine ⟨top / v1, top % v1, by rw [Int.natCast_ediv], by rw [Int.natCast_emod], ?_, ?_, HI0.out, ?_, Fwd.refl _⟩
    · have := Nat.mod_lt top hv; omega
    · rw [Int.natCast_ediv]; exact hd1
    · rw [Nat.mul_comm]; exact Nat.div_add_mod _ _
  case round =>
    obtain ⟨d, r, rfl, rfl, hr, hd, hI, heq, hfw⟩ := hrel
    have H := hid (And.intro hI (And.intro heq hfw))
    clear hI heq
    have hc := hfw.cell C.out
    clear hfw
    have hor2 := or_join r u0 hr hu0
    obtain ⟨s, hs⟩ : ∃ s, s = r * 4294967296 + u0 := ⟨_, rfl⟩
    rw [← hs] at hor2
    have HS := hid hs
    have hsb : (s : Int) ≤ 18446744073709551615 := by omega
    clear hs
    have HD : Hid (4294967296 ≤ r + v1 → 1 ≤ d → d ≤ 4294967296) := by
      intro h1 h2
      rcases Nat.lt_or_ge 4294967296 d with hlt | hge
      · exfalso
        have e := H.out.2.1
        rw [HT.out] at e
        have e2 : 4294967297 * v1 ≤ d * v1 := Nat.mul_le_mul_right _ (by omega)
        have e3 : u2 * 4294967296 ≤ v1 * 4294967296 := Nat.mul_le_mul_right _ hle
        omega
      · exact hge
    by_cases hbig : 4294967296 ≤ d
    · have hq : ((d : Int) / 4294967296 != 0) = true := by simp; omega
      by_cases hbr : 4294967296 ≤ r + v1
      · have hq2 : (((r : Int) + v1) / 4294967296 != 0) = true := by simp; omega
        have HQ := hid hbig
        have hd2 := HD.out hbr (by omega)
        have hd1 : 1 ≤ d := by omega
        have HR := hid hbr
        clear hbig hbr
        go_wp2
        go_ret
        obtain ⟨hI, heq, hfw⟩ := H.out
        obtain ⟨k, rfl⟩ : ∃ k, d = k + 1 := ⟨d - 1, by omega⟩
        have e := mul_bd (m := k) (y := v0) (by omega) hv0
        refine ⟨k, r + v1, ret_int (by omega), by omega, HB.out k hI HQ.out, by rw [← heq, Nat.add_mul, Nat.one_mul]; omega, by have := HR.out; omega, hf3.trans hfw⟩
      · have hq2 : (((r : Int) + v1) / 4294967296 != 0) = false := by simp; omega
        have HQ := hid hbig
        have HR := hid hbr
        have hd1 : 1 ≤ d := by omega
        clear hbig hbr
        go_wp2
        go_roundw
        case rel =>
          obtain ⟨hI, heq, hfw⟩ := H.out
          obtain ⟨k, rfl⟩ : ∃ k, d = k + 1 := ⟨d - 1, by omega⟩
          exact ⟨k, r + v1, by go_num, by go_num, by have := HR.out; omega, by omega, HB.out k hI HQ.out, by rw [← heq, Nat.add_mul, Nat.one_mul]; omega, hfw⟩
        case measure => simp [intOf] <;> omega
    · have hq : ((d : Int) / 4294967296 != 0) = false := by simp; omega
      have hdb : d < 4294967296 := by omega
      obtain ⟨hp2, hp3, hp4⟩ := mul_bd hdb hv0
      by_cases hcmp : s < d * v0
      · have hcmp2 : (s : Int) < (d : Int) * (v0 : Int) := by rw [← Int.natCast_mul]; omega
        have HC := hid hcmp
        clear hcmp
        have hd1 : 1 ≤ d := by
          rcases Nat.eq_zero_or_pos d with rfl | h
          · simp at hcmp2; omega
          · exact h
        by_cases hbr : 4294967296 ≤ r + v1
        · have hq2 : (((r : Int) + v1) / 4294967296 != 0) = true := by simp; omega
          have HR := hid hbr
          clear hbr
          go_wp2
          go_ret
          obtain ⟨hI, heq, hfw⟩ := H.out
          obtain ⟨k, rfl⟩ : ∃ k, d = k + 1 := ⟨d - 1, by omega⟩
          have e := mul_bd (m := k) (y := v0) (by omega) hv0
          refine ⟨k, r + v1, ret_int (by omega), by omega, HLS.out k r hI heq (by rw [← HS.out]; exact HC.out), by rw [← heq, Nat.add_mul, Nat.one_mul]; omega, by have := HR.out; omega, hf3.trans hfw⟩
        · have hq2 : (((r : Int) + v1) / 4294967296 != 0) = false := by simp; omega
          have HR := hid hbr
          clear hbr
          go_wp2
          go_roundw
          case rel =>
            obtain ⟨hI, heq, hfw⟩ := H.out
            obtain ⟨k, rfl⟩ : ∃ k, d = k + 1 := ⟨d - 1, by omega⟩
            exact ⟨k, r + v1, by go_num, by go_num, by have := HR.out; omega, by omega, HLS.out k r hI heq (by rw [← HS.out]; exact HC.out), by rw [← heq, Nat.add_mul, Nat.one_mul]; omega, hfw⟩
          case measure => simp [intOf] <;> omega
      · have hcmp2 : (d : Int) * (v0 : Int) ≤ (s : Int) := by rw [← Int.natCast_mul]; omega
        have HC := hid hcmp
        clear hcmp
        go_wp2
        go_ret
        obtain ⟨hI, heq, hfw⟩ := H.out
        exact ⟨d, r, ret_int (by omega), hdb, hI, heq, by rw [← HS.out]; have := HC.out; omega, hf3.trans hfw⟩

theorem val_top3 {xs : List Nat} {p : Nat} (h : xs.length = p + 3) : val xs = ((xs.getD (p + 2) 0 * 4294967296 + xs.getD (p + 1) 0) * 4294967296 + xs.getD p 0) * 4294967296 ^ p + val (xs.take p) := by
  rw [val_split xs p (by omega), val_drop_cons (k := p) (by omega), val_drop_cons (k := p + 1) (by omega), val_drop_cons (k := p + 2) (by omega), List.drop_eq_nil_of_le (by omega), val]
  grind
theorem val_top2 {xs : List Nat} {p : Nat} (h : xs.length = p + 2) : val xs = (xs.getD (p + 1) 0 * 4294967296 + xs.getD p 0) * 4294967296 ^ p + val (xs.take p) := by
  rw [val_split xs p (by omega), val_drop_cons (k := p) (by omega), val_drop_cons (k := p + 1) (by omega), List.drop_eq_nil_of_le (by omega), val]
  grind

/-- guess tells the digit, or one more. -/
theorem guess_any {w : World} {v u : Value} {xs ys : List Nat} {p : Nat} (hx : Rd w v xs) (hy : Rd w u ys) (hl : xs.length = p + 3) (hm : ys.length = p + 2) (hp : p ≤ 900000000) (htop : 0 < ys.getD (p + 1) 0) (hlt : val xs < 4294967296 * val ys) :
    Calls Tryz.prog 156 #[v, u] w fun e w' => ∃ d : Nat, e = .returned (.int .u32 d) ∧ d < 4294967296 ∧ val xs < (d + 1) * val ys ∧ d * val ys < val xs + val ys ∧ Fwd w w' := by
  obtain ⟨ao, c1, rfl, hc1, hm1, hok1, hcell1⟩ := hx.parts
  obtain ⟨bo, c2, rfl, hc2, hm2, hok2, hcell2⟩ := hy.parts
  have eV := val_top3 hl
  have eD := val_top2 hm
  have lx := val_take_lt hok1 p
  have ly := val_take_lt hok2 p
  obtain ⟨pb, po, rfl, a0⟩ := hcell1 p (by omega)
  obtain ⟨_, _, e1, a1⟩ := hcell1 (p + 1) (by omega)
  obtain ⟨_, _, e2, a2⟩ := hcell1 (p + 2) (by omega)
  obtain ⟨db, dof, rfl, b0⟩ := hcell2 p (by omega)
  obtain ⟨_, _, e3, b1⟩ := hcell2 (p + 1) (by omega)
  cases e1; cases e2; cases e3
  have bu0 := hok1.getD p
  have bu1 := hok1.getD (p + 1)
  have bu2 := hok1.getD (p + 2)
  have bv0 := hok2.getD p
  have bv1 := hok2.getD (p + 1)
  generalize xs.getD p 0 = u0 at *
  generalize xs.getD (p + 1) 0 = u1 at *
  generalize xs.getD (p + 2) 0 = u2 at *
  generalize ys.getD p 0 = v0 at *
  generalize ys.getD (p + 1) 0 = v1 at *
  have hle := guess_top eV eD ly bv0 hlt
  rw [hl, hm]
  refine (guess_raw (n := p + 2) (by omega) (by omega) (by omega) hm1 (by omega) hm2 a0 a1 a2 b0 b1 bu0 bu1 bu2 bv0 bv1 htop hle (fun d => val xs < (d + 1) * val ys) (guess_start eV lx bu0 eD htop) ?_ ?_).mono ?_
  · intro d h1 h2
    have : 4294967296 * val ys ≤ (d + 1) * val ys := Nat.mul_le_mul_right _ h2
    omega
  · intro d r h1 h2 h3
    exact guess_less eV lx eD h2 h3
  · rintro e w' ⟨d, r, rfl, h1, h2, h3, h4, h5⟩
    exact ⟨d, rfl, h1, h2, guess_near eV eD ly h3 h4 h1 htop, h5⟩

end Go.Proofs.YtcfhajnboamnnabGreatDoor

namespace Go.Proofs.YtcfhajnboamnnabGreatDoor
open Go.RowKit
set_option linter.unusedVariables false

theorem lead32_any (w : World) (x : Nat) (hx : x < 4294967296) : Calls Tryz.prog 148 #[.int .u32 x] w fun e w' => e = .returned (.int .i64 ((32 - blen x : Nat) : Int)) ∧ w' = w := by
  have hb : blen x ≤ 32 := (blen_le_iff x 32).2 (by omega)
  go_enter Tryz.func148, Tryz.ntmps148
  go_wp2_with fail
  refine (len32_any _ x hx).mono ?_
  rintro e w1 ⟨rfl, rfl⟩
  go_wp2
  go_ret
  exact ⟨ret_int (by omega), rfl⟩

/-- What was taken once too often, given back. -/
theorem give_back {V D d z z2 c2 T : Nat} (h1 : V + 1 * T = z + (d + 1) * D) (h2 : z + D = z2 + c2 * T) (hc : c2 ≤ 1) (hz2 : z2 < T) (hz : z < T) (hlt : (d + 1) * D < V + D) : V = d * D + z2 ∧ z2 < D := by
  rw [Nat.add_mul, Nat.one_mul] at h1 hlt
  obtain rfl | rfl : c2 = 0 ∨ c2 = 1 := by omega
  · omega
  · omega

set_option maxHeartbeats 2000000 in
theorem nextDigit_any {w : World} {len off g cap p : Nat} {pre xs post ys : List Nat} {v : Value} (hb : Blk w g (pre ++ (xs ++ post))) (hlen : len = xs.length) (hofs : off = pre.length) (hcap : xs.length ≤ cap) (hcm : cap ≤ maxLen)
    (hv : Rd w v ys) (hoff : Off v g) (hl : xs.length = p + 3) (hm : ys.length = p + 2) (hp : p ≤ 900000000) (htop : 0 < ys.getD (p + 1) 0) (hlt : val xs < 4294967296 * val ys) :
    Calls Tryz.prog 149 #[.slice (some ⟨g, off, none⟩) len cap, v] w fun e w' =>
      ∃ (d : Nat) (zs : List Nat), e = .returned (.int .u32 d) ∧ zs.length = xs.length ∧ Blk w' g (pre ++ (zs ++ post)) ∧ Only g w w' ∧ d < 4294967296 ∧ val xs = d * val ys + val zs ∧ val zs < val ys := by
  subst hlen hofs
  have hx : Rd w (.slice (some ⟨g, pre.length, none⟩) xs.length cap) xs := hb.rd cap hcap hcm
  have HL := hid (And.intro hl hm)
  have HLT := hid (And.intro htop hlt)
  clear hl hm hlt htop
  go_enter Tryz.func149, Tryz.ntmps149
  go_wp2_with fail
  refine (guess_any hx hv HL.out.1 HL.out.2 hp HLT.out.1 HLT.out.2).mono ?_
  rintro e w1 ⟨d, rfl, hd, hd1, hd2, hf1⟩
  have HD := hid (And.intro hd1 hd2)
  clear hd1 hd2
  go_wp2_with fail
  refine (takeTimes_any (hb.fwd hf1) rfl rfl hcap hcm (hv.fwd hf1) hoff (by rw [HL.out.1, HL.out.2]) (by rw [HL.out.1]; omega) hd).mono ?_
  rintro e w2 ⟨c, zs, rfl, hzl, hbz, hon, hc, hval⟩
  have HV := hid hval
  clear hval
  by_cases h0 : c = 0
  · subst h0
    go_wp2
    go_ret
    obtain ⟨h1, h2⟩ := HD.out
    have h3 := HV.out
    rw [Nat.add_mul, Nat.one_mul] at h1
    exact ⟨d, zs, rfl, hzl, hbz, (hf1.only g).trans hon, hd, by omega, by omega⟩
  · obtain rfl : c = 1 := by omega
    have hd0 : 1 ≤ d := by
      rcases Nat.eq_zero_or_pos d with rfl | h
      · exfalso
        have h3 := HV.out
        have := val_lt hbz.okMid
        rw [hzl] at this
        omega
      · exact h
    go_wp2_with fail
    refine (addTo_any hbz hzl.symm rfl (by rw [hzl]; exact hcap) hcm ((hv.fwd hf1).only hon hoff) hoff (by rw [hzl, HL.out.1, HL.out.2]; omega) (by rw [hzl, HL.out.1]; omega)).mono ?_
    rintro e w3 ⟨rfl, zs2, c2, hzl2, hbz2, hon2, hc2, hval2⟩
    have HV2 := hid hval2
    clear hval2
    go_wp2
    go_ret
    obtain ⟨k, rfl⟩ : ∃ k, d = k + 1 := ⟨d - 1, by omega⟩
    have h4 := val_lt hbz2.okMid
    have h5 := val_lt hbz.okMid
    rw [hzl2] at h4
    have h6 := HV2.out
    rw [hzl] at h4 h5 h6
    have := give_back HV.out h6 hc2 h4 h5 HD.out.2
    exact ⟨k, zs2, ret_int (by omega), by omega, hbz2, ((hf1.only g).trans hon).trans hon2, by omega, this.1, this.2⟩

end Go.Proofs.YtcfhajnboamnnabGreatDoor

namespace Go.Proofs.YtcfhajnboamnnabGreatDoor
open Go.RowKit
set_option linter.unusedVariables false

theorem fits_aux {P T U a x y D : Nat} (h : a + P * (x + T * y) < P * (4294967296 * D)) (e : T = U * 4294967296) (hD : D < U) : x < 4294967296 * D ∧ y = 0 := by
  have h1 : P * (x + T * y) < P * (4294967296 * D) := by omega
  have h2 := Nat.lt_of_mul_lt_mul_left h1
  rcases Nat.eq_zero_or_pos y with h0 | h0
  · subst h0; exact ⟨by omega, rfl⟩
  · have h3 : T * 1 ≤ T * y := Nat.mul_le_mul_left _ h0
    omega

theorem pow_next (i : Nat) : 4294967296 ^ (i + 1) = 4294967296 ^ i * 4294967296 := by rw [Nat.pow_succ]

theorem long_fits {A xs post : List Nat} {D i p : Nat} (hA : A.length = i) (hl : xs.length = p + 3) (hD : D < 4294967296 ^ (p + 2)) (h : val (A ++ (xs ++ post)) < 4294967296 ^ (i + 1) * D) : val xs < 4294967296 * D ∧ val post = 0 := by
  rw [val_append, val_append, hA, hl, pow_next i, Nat.mul_assoc] at h
  exact fits_aux h (pow_next (p + 2)) hD

theorem long_next {A xs zs post : List Nat} {D i q M d : Nat} (hA : A.length = i) (hok : Ok A) (hl : zs.length = xs.length) (hp : val post = 0) (hM : M = q * (4294967296 ^ (i + 1) * D) + val (A ++ (xs ++ post))) (hx : val xs = d * D + val zs) (hz : val zs < D) :
    M = (d + 4294967296 * q) * (4294967296 ^ i * D) + val (A ++ (zs ++ post)) ∧ val (A ++ (zs ++ post)) < 4294967296 ^ i * D := by
  rw [val_append, val_append, hA, hp, pow_next i, hx] at hM
  rw [val_append, val_append, hA, hp]
  have h1 := val_lt hok
  rw [hA] at h1
  generalize 4294967296 ^ i = P at *
  constructor
  · rw [hM]; grind
  · have : P * (val zs + 1) ≤ P * D := Nat.mul_le_mul_left _ hz
    rw [Nat.mul_add, Nat.mul_one] at this
    simp only [Nat.mul_zero, Nat.add_zero]
    omega

theorem long_start {m n k : Nat} (hn : n ≠ 0) (hle : nl n ≤ nl m) : m * 2 ^ k < 4294967296 ^ (nl m - nl n + 1) * (n * 2 ^ k) := by
  rw [← Nat.mul_assoc]
  refine Nat.mul_lt_mul_of_pos_right ?_ (Nat.two_pow_pos k)
  have h1 := lt_pow_nl m
  have h2 := nl_ge_pow hn
  have h3 : 4294967296 ^ (nl m - nl n + 1) * 4294967296 ^ (nl n - 1) ≤ 4294967296 ^ (nl m - nl n + 1) * n := Nat.mul_le_mul_left _ h2
  have hp := nl_pos hn
  rw [← Nat.pow_add, show nl m - nl n + 1 + (nl n - 1) = nl m by omega] at h3
  omega

theorem long_end {m n k q r : Nat} (h : m * 2 ^ k = q * (n * 2 ^ k) + r) (hr : r < n * 2 ^ k) : q = m / n ∧ r / 2 ^ k = m % n := by
  have hp := Nat.two_pow_pos k
  generalize 2 ^ k = P at *
  have h1 : q * n ≤ m := by
    have : q * n * P ≤ m * P := by rw [Nat.mul_assoc]; omega
    exact Nat.le_of_mul_le_mul_right this hp
  obtain ⟨s, rfl⟩ : ∃ s, m = q * n + s := ⟨m - q * n, by omega⟩
  have hs : r = s * P := by rw [Nat.add_mul, Nat.mul_assoc] at h; omega
  subst hs
  have hs : s < n := Nat.lt_of_mul_lt_mul_right hr
  rw [Nat.mul_div_cancel _ hp, Nat.mul_comm q n]
  exact ⟨by rw [Nat.mul_add_div (by omega), Nat.div_eq_of_lt hs]; rfl, by rw [Nat.mul_add_mod, Nat.mod_eq_of_lt hs]⟩

theorem top_pos {ys : List Nat} {p : Nat} (hok : Ok ys) (hl : ys.length = p + 2) (h : 4294967296 ^ (p + 1) ≤ val ys) : 0 < ys.getD (p + 1) 0 := by
  rcases Nat.eq_zero_or_pos (ys.getD (p + 1) 0) with h0 | h0
  · exfalso
    have e := val_take_succ ys (p + 1)
    rw [val_take_all (by omega), h0] at e
    have := val_take_lt hok (p + 1)
    omega
  · exact h0

theorem shift_fits {n k : Nat} (hn : n ≠ 0) (hk : k = 32 - blen ((lim n).getD (nl n - 1) 0)) : k < 32 ∧ n * 2 ^ k < 4294967296 ^ nl n := by
  have h1 := blen_limbs hn
  have h2 : 0 < blen ((lim n).getD (nl n - 1) 0) := by
    rcases Nat.eq_zero_or_pos (blen ((lim n).getD (nl n - 1) 0)) with h | h
    · exfalso
      have h3 := (blen_le_iff _ 0).1 (Nat.le_of_eq h)
      have h4 := top_limb hn
      have h5 := nl_ge_pow hn
      have h6 : 1 ≤ n / 4294967296 ^ (nl n - 1) := (Nat.le_div_iff_mul_le (Nat.pow_pos (by omega))).2 (by omega)
      omega
    · exact h
  have h3 : blen ((lim n).getD (nl n - 1) 0) ≤ 32 := (blen_le_iff _ 32).2 ((ok_lim n).getD _)
  have hp := nl_pos hn
  refine ⟨by omega, ?_⟩
  have h4 := (blen_le_iff n (blen n)).1 (Nat.le_refl _)
  have h5 : n * 2 ^ k < 2 ^ blen n * 2 ^ k := Nat.mul_lt_mul_of_pos_right h4 (Nat.two_pow_pos k)
  rw [← Nat.pow_add, show blen n + k = 32 * nl n by omega, ← pow32] at h5
  exact h5

theorem fit_more (m k : Nat) (hk : k < 32) : m * 2 ^ k < 4294967296 ^ (nl m + 1) := by
  rw [pow_next]
  have h2 : 2 ^ k ≤ 4294967296 := by
    have : 2 ^ k ≤ 2 ^ 32 := Nat.pow_le_pow_right (by omega) (by omega)
    exact this
  exact Nat.lt_of_le_of_lt (Nat.mul_le_mul_left m h2) (Nat.mul_lt_mul_of_pos_right (lt_pow_nl m) (by omega))

theorem small_take {R : List Nat} {c : Nat} (h : val R < 4294967296 ^ c) (hc : c ≤ R.length) : val (R.take c) = val R := by
  have e := val_split R c hc
  generalize 4294967296 ^ c = P at *
  rcases Nat.eq_zero_or_pos (val (R.drop c)) with h0 | h0
  · rw [h0] at e; omega
  · have : P * 1 ≤ P * val (R.drop c) := Nat.mul_le_mul_left _ h0
    omega

theorem cut3 (R : List Nat) (i c : Nat) : R.take i ++ ((R.drop i).take c ++ R.drop (i + c)) = R := by
  rw [← List.drop_drop, List.take_append_drop, List.take_append_drop]

end Go.Proofs.YtcfhajnboamnnabGreatDoor

namespace Go.Proofs.YtcfhajnboamnnabGreatDoor
open Go.RowKit
set_option linter.unusedVariables false

set_option maxHeartbeats 4000000 in
theorem divideLong_any {w : World} {a b : Value} {m n : Nat} (ha : Num w a m) (hb : Num w b n) (hm : nl m ≤ 10000000) (hn : 2 ≤ nl n) (hle : n ≤ m) :
    Calls Tryz.prog 140 #[a, b] w fun e w' => ∃ q r, e = .returned (.tuple #[q, r]) ∧ Num w' q (m / n) ∧ Num w' r (m % n) ∧ Fwd w w' := by
  have hnn : nl n ≤ nl m := nl_mono hle
  have hn0 : n ≠ 0 := by rintro rfl; rw [nl_zero] at hn; omega
  obtain ⟨ao, ca, rfl, hca, hcma, hcella⟩ := ha.parts
  obtain ⟨bo, cb, rfl, hcb, hcmb, hcellb⟩ := hb.parts
  unfold maxLen at hcma hcmb
  obtain ⟨bb, bof, rfl, hxk⟩ := hcellb (nl n - 1) (by omega)
  obtain ⟨k, hk⟩ : ∃ k, k = 32 - blen ((lim n).getD (nl n - 1) 0) := ⟨_, rfl⟩
  have hfit := shift_fits hn0 hk
  obtain ⟨x, hx⟩ : ∃ x, x = (lim n).getD (nl n - 1) 0 := ⟨_, rfl⟩
  rw [← hx] at hxk hk
  have hxb : x < 4294967296 := by rw [hx]; exact (ok_lim n).getD _
  have hk32 := hfit.1
  have HFIT := hid hfit.2
  have HK := hid hk
  have HLE := hid hle
  have HN0 := hid hn0
  clear hx hk hfit hle hn0 hcella hcellb
  go_enter Tryz.func140, Tryz.ntmps140
  go_wp2_with fail
  refine (lead32_any _ x hxb).mono ?_
  rintro e w1 ⟨rfl, hw⟩
  rw [hw, ← HK.out]
  clear hxk hw w1
  go_wp2_with fail
  refine (clone_any hb (show nl n ≤ _ by omega)).mono ?_
  rintro e w1 ⟨rfl, hblk1, hf1⟩
  have hlt1 := hblk1.lt
  have HB1 := hid hblk1
  clear hblk1
  have e0 : (lim n).length = nl n := rfl
  rw [e0]
  clear e0
  go_wp2_with fail
  refine (widen_any _ (ha.fwd hf1) (by omega) (by show nl m + _ ≤ _; omega)).mono ?_
  rintro e w2 ⟨t, ht, rfl, hblk2, hf2⟩
  have ht2 : t = nl m + 1 := ht
  subst ht2
  have hlt2 := hblk2.lt
  have HB2 : Hid (Blk w2 w1.heap.size (lim m ++ [0])) := hblk2
  have HB1a : Hid (Blk w2 w.heap.size ([] ++ (lim n ++ []))) := hid (by simpa using HB1.out.fwd hf2)
  clear hblk2 ht HB1
  have HF2 := hid (hf1.trans hf2)
  have hs2 := hf2.size
  have hs1 := hf1.size
  clear ha hb
  have hgw : w.heap.size ≤ w.heap.size := Nat.le_refl _
  have hgw2 : w.heap.size ≤ w1.heap.size := hs1
  generalize hg1 : w.heap.size = g1 at *
  generalize hg2 : w1.heap.size = g2 at *
  go_wp2_with fail
  refine (moveUp_any k HB1a.out rfl rfl (Nat.le_refl _) (le_maxLen (by show nl n ≤ _; omega)) (by show nl n ≤ _; omega) (by omega) (by show _ < nl n; omega) (by rw [val_lim]; exact HFIT.out)).mono ?_
  rintro e w3 ⟨rfl, ys, hyl, hby, hon3, hvy⟩
  have HB3 : Hid (Blk w3 g1 ys) := hid (by simpa using hby)
  have HB2a : Hid (Blk w3 g2 ([] ++ ((lim m ++ [0]) ++ []))) := hid (by simpa using HB2.out.only hon3 (by omega))
  rw [val_lim] at hvy
  have HY := hid (And.intro (show ys.length = nl n from hyl) hvy)
  have hs3 := hon3.size
  have HF3 := hid (HF2.out.wrote hon3 (by omega))
  have hl2 : (lim m ++ [0]).length = nl m + 1 := by rw [List.length_append]; rfl
  have HL2 := hid hl2
  have HVM : Hid (val (lim m ++ [0]) = m) := hid (by rw [val_append, val_lim]; simp [val])
  clear hby hyl hvy hon3 HB1a HB2 HF2 hl2
  generalize lim m ++ [0] = X0 at *
  go_wp2_with fail
  refine (moveUp_any k HB2a.out HL2.out.symm rfl (Nat.le_of_eq HL2.out) (le_maxLen (by omega)) (by rw [HL2.out]; omega) (by omega) (by rw [HL2.out]; omega) (by rw [HL2.out, HVM.out]; exact fit_more m k hk32)).mono ?_
  rintro e w4 ⟨rfl, R0, hRl, hbR, hon4, hvR⟩
  have HB4 : Hid (Blk w4 g2 R0) := hid (by simpa using hbR)
  have HB3a : Hid (Blk w4 g1 ys) := hid (HB3.out.only hon4 (by omega))
  rw [HL2.out] at hRl
  rw [HVM.out] at hvR
  have HR0 := hid (And.intro hRl hvR)
  have hs4 := hon4.size
  have HF4 := hid (HF3.out.wrote hon4 (by omega))
  clear hbR hRl hvR hon4 HB2a HB3 HF3
  go_wp2_with (first | (at_make; refine law_make rfl _ _ rfl .i64 .i64 _ _ (nl m - nl n + 1) rfl rfl (by omega) (by omega) (by omega) ?_))
  intro w5 hb5 hf5
  have HB5 := hid (And.intro hb5 (And.intro (HB4.out.fwd hf5) (HB3a.out.fwd hf5)))
  have HF5 := hid (HF4.out.trans hf5)
  have hg3 : g2 < w4.heap.size := by omega
  clear hb5 hf5 HB4 HB3a HF4
  generalize w4.heap.size = g3 at *
  have hDn : n * 2 ^ k < 4294967296 ^ nl n := HFIT.out
  have hge : 4294967296 ^ (nl n - 1) ≤ n * 2 ^ k := Nat.le_trans (nl_ge_pow HN0.out) (Nat.le_mul_of_pos_right _ (Nat.two_pow_pos k))
  have hst := long_start (k := k) HN0.out hnn
  have hend := fun q r => @long_end m n k q r
  obtain ⟨D, hD⟩ : ∃ D, D = n * 2 ^ k := ⟨_, rfl⟩
  obtain ⟨M, hM⟩ : ∃ M, M = m * 2 ^ k := ⟨_, rfl⟩
  rw [← hD] at hDn hge hst hend HY
  rw [← hM] at hst hend HR0
  have HD := hid (And.intro hDn (And.intro hge (And.intro hst hend)))
  clear hD hM hDn hge hst hend HFIT
  go_wp2
  go_loopw [10] (fun i wr => ∃ (j : Nat) (Q R : List Nat), j ≤ nl m - nl n + 1 ∧ i = .int .i64 ((j : Int) - 1) ∧ Q.length = nl m - nl n + 1 ∧ R.length = nl m + 1 ∧ Blk wr g3 Q ∧ Blk wr g2 R ∧ Blk wr g1 ys ∧ Fwd w wr ∧ val R < 4294967296 ^ j * D ∧
      M = val (Q.drop j) * (4294967296 ^ j * D) + val R) (fun i _ => (intOf i + 1).toNat)
  case atStart =>
    exact ⟨nl m - nl n + 1, List.replicate (nl m - nl n + 1) 0, R0, by omega, by go_num, by simp, HR0.out.1, HB5.out.1, HB5.out.2.1, HB5.out.2.2, HF5.out, by rw [HR0.out.2]; exact HD.out.2.2.1, by rw [List.drop_eq_nil_of_le (by simp)]; simp [val]; exact HR0.out.2.symm⟩
  case round =>
    obtain ⟨j, Q, R, hj, rfl, hQl, hRl, hbQ, hbR, hbY, hfw, hlt, hval⟩ := hrel
    cases j with
    | zero =>
      have H := hid (And.intro hQl (And.intro hRl (And.intro hbQ (And.intro hbR (And.intro hfw (And.intro hlt hval))))))
      clear hQl hRl hbQ hbR hfw hlt hval
      have hb0 : Blk wr g2 ([] ++ (R.take (nl n) ++ R.drop (nl n))) := by
        rw [List.nil_append, List.take_append_drop]; exact H.out.2.2.2.1
      have hl0 : (R.take (nl n)).length = nl n := by rw [List.length_take, H.out.2.1]; omega
      have hv0 : val (R.take (nl n)) = val R := small_take (Nat.lt_trans (by have := H.out.2.2.2.2.2.1; simpa using this) HD.out.1) (by rw [H.out.2.1]; omega)
      have HB0 := hid (And.intro hb0 (And.intro hl0 hv0))
      clear hb0 hl0 hv0 hbY
      go_wp2_with fail
      refine (moveDown_each k HB0.out.1 HB0.out.2.1.symm rfl (by rw [HB0.out.2.1]; omega) (by omega)).mono ?_
      rintro e w6 ⟨rfl, zs, hzl, hbz, hon, hvz⟩
      rw [HB0.out.2.1] at hzl
      rw [HB0.out.2.2] at hvz
      have hq := H.out.2.2.1.only hon (by omega)
      have hrq : Rd w6 (.slice (some ⟨g3, 0, none⟩) (nl m - nl n + 1) (nl m - nl n + 1)) Q := by
        have := hq.rdAll (nl m - nl n + 1) (by rw [H.out.1]; exact Nat.le_refl _) (le_maxLen (by omega))
        rwa [H.out.1] at this
      have hrr : Rd w6 (.slice (some ⟨g2, 0, none⟩) (nl n) (nl n)) zs := by
        have := Blk.rd hbz (nl n) (by rw [hzl]; exact Nat.le_refl _) (le_maxLen (by omega))
        rwa [hzl] at this
      have hE := HD.out.2.2.2 (val Q) (val R) (by have := H.out.2.2.2.2.2.2; simpa using this) (by have := H.out.2.2.2.2.2.1; simpa using this)
      have HF6 := hid (H.out.2.2.2.2.1.wrote hon (by omega))
      have HV := hid (And.intro hvz hE)
      clear hq hbz hzl hvz hE hon
      go_wp2_with fail
      refine (trim_any hrq).mono ?_
      rintro e w7 ⟨v1, rfl, hn1, _, hw7⟩
      rw [← hw7]
      clear hw7 w7
      go_wp2_with fail
      refine (trim_any hrr).mono ?_
      rintro e w7 ⟨v2, rfl, hn2, _, hw7⟩
      rw [← hw7]
      clear hw7 w7
      rw [HV.out.2.1] at hn1
      rw [HV.out.1, HV.out.2.2] at hn2
      go_wp2
      go_ret2
      exact ⟨v1, v2, rfl, hn1, hn2, HF6.out⟩
    | succ i =>
      have hij : i + nl n ≤ nl m := by omega
      have hA : (R.take i).length = i := by rw [List.length_take, hRl]; omega
      have hxl : ((R.drop i).take (nl n + 1)).length = nl n + 1 := by rw [List.length_take, List.length_drop, hRl]; omega
      have hcut := cut3 R i (nl n + 1)
      generalize R.take i = A at *
      generalize (R.drop i).take (nl n + 1) = xs at *
      generalize R.drop (i + (nl n + 1)) = post at *
      subst hcut
      have H := hid (And.intro hQl (And.intro hRl (And.intro hbQ (And.intro hbR (And.intro hbY (And.intro hfw (And.intro hlt (And.intro hval (And.intro hA hxl)))))))))
      have hff := long_fits (p := nl n - 2) hA (by rw [hxl]; omega) (by rw [show nl n - 2 + 2 = nl n by omega]; exact HD.out.1) hlt
      have HFF := hid hff
      clear hQl hRl hbQ hbR hfw hlt hval hbY hA hxl hff
      have hyr : Rd wr (.slice (some ⟨g1, 0, none⟩) (nl n) (nl n)) ys := by
        have := H.out.2.2.2.2.1.rdAll (nl n) (by rw [HY.out.1]; exact Nat.le_refl _) (le_maxLen (by omega))
        rwa [HY.out.1] at this
      have htp : 0 < ys.getD (nl n - 2 + 1) 0 := top_pos hyr.ok (by rw [HY.out.1]; omega) (by rw [HY.out.2, show nl n - 2 + 1 = nl n - 1 by omega]; exact HD.out.2.1)
      have hlx : i + nl n + 1 - i = xs.length := by rw [H.out.2.2.2.2.2.2.2.2.2]; omega
      have HP := hid (And.intro htp hlx)
      clear htp hlx
      go_wp2_with fail
      refine (nextDigit_any (p := nl n - 2) H.out.2.2.2.1 HP.out.2 H.out.2.2.2.2.2.2.2.2.1.symm (by rw [HP.out.2]; exact Nat.le_refl _) (le_maxLen (by omega)) hyr (by simp [Off, Value.ownBlock]; omega)
        (by rw [H.out.2.2.2.2.2.2.2.2.2]; omega) (by rw [HY.out.1]; omega) (by omega) HP.out.1 (by rw [HY.out.2]; exact HFF.out.1)).mono ?_
      rintro e w6 ⟨d, zs, rfl, hzl, hbz, hon, hd, hxv, hzv⟩
      rw [HY.out.2] at hxv hzv
      have hq := H.out.2.2.1.only hon (by omega)
      have hcq := hq.cell i (by rw [H.out.1]; omega)
      have hfq := hq.frozen i
      have hby6 := H.out.2.2.2.2.1.only hon (by omega)
      have HF6 := hid (H.out.2.2.2.2.2.1.wrote hon (by omega))
      have HZ := hid (And.intro hzl (And.intro hbz (And.intro hxv (And.intro hzv (And.intro hq hby6)))))
      clear hzl hbz hxv hzv hq hby6 hon hyr
      go_wp2
      go_roundw
      case rel =>
        obtain ⟨q1, q2, q3, q4, q5, q6, q7, q8, q9, q10⟩ := H.out
        obtain ⟨z1, z2, z3, z4, z5, z6⟩ := HZ.out
        have ho := Only.set g3 w6 i (.int .u32 (d : Int))
        have hok : Ok A := fun x hx => q4.2 x (by simp [hx])
        have hnx := long_next q9 hok z1 HFF.out.2 q8 z3 z4
        have hlen : i < Q.length := by rw [q1]; omega
        refine ⟨i, Q.set i d, A ++ (zs ++ post), by omega, by go_num, by rw [set_len]; exact q1, ?_, z5.set i d hd, z2.only ho (by omega), z6.only ho (by omega), HF6.out.wrote ho (by omega), hnx.2, ?_⟩
        · rw [← q2]; simp only [List.length_append]; omega
        · rw [val_drop_cons (xs := Q.set i d) (k := i) (by rw [set_len]; exact hlen), drop_set_succ, show (Q.set i d).getD i 0 = d by simp [hlen]]
          exact hnx.1
      case measure => simp [intOf] <;> omega

end Go.Proofs.YtcfhajnboamnnabGreatDoor

namespace Go.Proofs.YtcfhajnboamnnabGreatDoor
open Go.RowKit
set_option linter.unusedVariables false

theorem nl_is_one {n : Nat} (h : nl n = 1) : (lim n).getD 0 0 = n ∧ 0 < n ∧ n < 4294967296 := by
  have h1 := (nl_le_iff n 1).1 (by omega)
  have h0 : n ≠ 0 := by rintro rfl; rw [nl_zero] at h; omega
  refine ⟨?_, by omega, by simpa using h1⟩
  rw [lim_pos h0]
  simp at h1 ⊢
  omega

set_option maxHeartbeats 2000000 in
theorem divide_any {w : World} {a b : Value} {m n : Nat} (ha : Num w a m) (hb : Num w b n) (hm : nl m ≤ 10000000) (hn : nl n ≤ 10000000) (hn0 : n ≠ 0) :
    Calls Tryz.prog 133 #[a, b] w fun e w' => ∃ q r, e = .returned (.tuple #[q, r]) ∧ Num w' q (m / n) ∧ Num w' r (m % n) ∧ Fwd w w' := by
  obtain ⟨bo, cb, rfl, hcb, hcmb, hcellb⟩ := hb.parts
  unfold maxLen at hcmb
  have HN0 := hid hn0
  clear hn0
  go_enter Tryz.func133, Tryz.ntmps133
  go_wp2_with fail
  refine (cmp_any ha hb (by omega) (by omega)).mono ?_
  rintro e w1 ⟨rfl, hf1⟩
  have ha1 := ha.fwd hf1
  have hb1 := hb.fwd hf1
  by_cases hlt : m < n
  · rw [cmpI_lt (by omega)]
    have HL := hid hlt
    clear hlt
    go_wp2_with fail
    refine (clone_any ha1 (show nl m ≤ _ by omega)).mono ?_
    rintro e w2 ⟨rfl, hblk, hf2⟩
    have hr : Num w2 (.slice (some ⟨w1.heap.size, 0, none⟩) (lim m).length (lim m).length) m := Blk.rdAll hblk _ (Nat.le_refl _) (le_maxLen (by show nl m ≤ _; omega))
    clear hblk
    go_wp2
    go_ret2
    exact ⟨_, _, rfl, by rw [Nat.div_eq_of_lt HL.out]; exact Rd.nil _, by rw [Nat.mod_eq_of_lt HL.out]; exact hr, hf1.trans hf2⟩
  · have hc : 0 ≤ cmpW m n := by
      by_cases h : n < m
      · rw [cmpI_gt (by omega)]; omega
      · rw [cmpI_eq (by omega)]; omega
    have HL : Hid (n ≤ m) := hid (by omega)
    clear hlt
    generalize cmpW m n = c at *
    by_cases h1 : nl n = 1
    · obtain ⟨bb, bof, rfl, hxk⟩ := hcellb 0 (by omega)
      have hx := nl_is_one h1
      rw [hx.1] at hxk
      have hxk1 := hf1.cell hxk
      have HX := hid hx.2
      obtain ⟨hx2, hx3⟩ := hx.2
      have HN := hid h1
      have hpos : 0 < nl n := by omega
      have hnl : ((nl n : Int) == 1) = true := by simp; omega
      clear hx hxk h1
      go_wp2_with fail
      refine (clone_any ha1 (show nl m ≤ _ by omega)).mono ?_
      rintro e w2 ⟨rfl, hblk, hf2⟩
      have HB : Hid (Blk w2 w1.heap.size ([] ++ (lim m ++ []))) := hid (by simpa using hblk)
      have hxk2 := hf2.cell hxk1
      simp only [Nat.add_zero] at hxk2
      have hlm : (lim m).length ≤ 1000000000 := by show nl m ≤ _; omega
      clear hblk hxk1
      go_wp2_with fail
      refine (divideByLimb_any HB.out rfl rfl (Nat.le_refl _) (le_maxLen (by omega)) hlm hx2 hx3).mono ?_
      rintro e w3 ⟨r, zs, rfl, hzl, hbz, hon, hr, hval⟩
      have hz : Rd w3 (.slice (some ⟨w1.heap.size, 0, none⟩) (lim m).length (lim m).length) zs := by
        have h3 := Blk.rd hbz (lim m).length (by omega) (le_maxLen (by omega))
        rwa [hzl] at h3
      rw [val_lim] at hval
      have HV := hid hval
      have HF3 := hid ((hf1.trans hf2).wrote hon hf1.size)
      clear hval hbz hzl hxk2 hon
      have hr2 : r < 4294967296 := by omega
      go_wp2_with fail
      refine (trim_any hz).mono ?_
      rintro e w4 ⟨v, rfl, hn3, _, hw4⟩
      rw [← hw4]
      clear hw4 w4
      go_wp2_with fail
      refine (of_any w3 r (by omega)).mono ?_
      rintro e w4 ⟨u, rfl, hnu, hf4⟩
      go_wp2
      go_ret2
      have hq : val zs = m / n ∧ r = m % n := by
        rw [HV.out, Nat.mul_comm]
        exact ⟨by rw [Nat.mul_add_div hx2, Nat.div_eq_of_lt hr]; rfl, by rw [Nat.mul_add_mod, Nat.mod_eq_of_lt hr]⟩
      exact ⟨v, u, rfl, by rw [← hq.1]; exact hn3.fwd hf4, by rw [← hq.2]; exact hnu, HF3.out.trans hf4⟩
    · have hnl : ((nl n : Int) == 1) = false := by simp; omega
      have h2 : 2 ≤ nl n := by have := nl_pos HN0.out; omega
      clear h1
      go_wp2_with fail
      refine (divideLong_any ha1 hb1 (by omega) h2 HL.out).mono ?_
      rintro e w2 ⟨q, r, rfl, hq, hr, hf2⟩
      go_wp2
      go_ret2
      exact ⟨q, r, rfl, hq, hr, hf1.trans hf2⟩

set_option maxHeartbeats 2000000 in
theorem div_any {w : World} {a b : Value} {m n : Nat} (ha : Num w a m) (hb : Num w b n) (hm : nl m ≤ 10000000) (hn : nl n ≤ 10000000) (hn0 : n ≠ 0) :
    Calls Tryz.prog 119 #[a, b] w fun e w' => ∃ q r, e = .returned (.tuple #[q, r, .int .i64 0]) ∧ Num w' q (m / n) ∧ Num w' r (m % n) ∧ Fwd w w' := by
  have hp : 0 < nl n := by rw [nl_pos hn0]; omega
  have hne : ((nl n : Int) == 0) = false := by simp; omega
  have HN0 := hid hn0
  clear hn0
  go_enter Tryz.func119, Tryz.ntmps119
  go_wp2_with fail
  refine (trim_num ha).mono ?_
  rintro e w1 ⟨va, rfl, hna, hoa, hw⟩
  rw [← hw]
  clear hw w1
  go_wp2_with fail
  refine (trim_num hb).mono ?_
  rintro e w1 ⟨vb, rfl, hnb, hob, hw⟩
  rw [← hw]
  clear hw w1 ha hb hoa hob
  obtain ⟨bo, cb, rfl, hcb, hcmb, hcellb⟩ := hnb.parts
  unfold maxLen at hcmb
  clear hcellb
  go_wp2_with fail
  refine (divide_any hna hnb hm hn HN0.out).mono ?_
  rintro e w2 ⟨q, r, rfl, hq, hr, hf2⟩
  go_wp2
  go_ret3
  exact ⟨q, r, rfl, hq, hr, hf2⟩

set_option maxHeartbeats 2000000 in
theorem div_zero {w : World} {a b : Value} {m : Nat} (ha : Num w a m) (hb : Num w b 0) :
    Calls Tryz.prog 119 #[a, b] w fun e w' => e = .returned (.tuple #[.slice none 0 0, .slice none 0 0, .int .i64 5]) ∧ Fwd w w' := by
  go_enter Tryz.func119, Tryz.ntmps119
  go_wp2_with fail
  refine (trim_num ha).mono ?_
  rintro e w1 ⟨va, rfl, hna, hoa, hw⟩
  rw [← hw]
  clear hw w1
  go_wp2_with fail
  refine (trim_num hb).mono ?_
  rintro e w1 ⟨vb, rfl, hnb, hob, hw⟩
  rw [← hw]
  clear hw w1 ha hb hoa hob
  obtain ⟨bo, cb, rfl, hcb, hcmb, hcellb⟩ := hnb.parts
  unfold maxLen at hcmb
  clear hcellb
  have h0 : nl 0 = 0 := nl_zero
  rw [h0]
  go_wp2
  go_ret3
  exact ⟨rfl, Fwd.refl _⟩

end Go.Proofs.YtcfhajnboamnnabGreatDoor

namespace Go.Proofs.YtcfhajnboamnnabGreatDoor
open Go.RowKit
set_option linter.unusedVariables false

theorem blen_ge {n : Nat} (hn : n ≠ 0) : 2 ^ (blen n - 1) ≤ n ∧ 0 < blen n := by
  have hb : 0 < blen n := by
    rcases Nat.eq_zero_or_pos (blen n) with h | h
    · have := (blen_le_iff n 0).1 (by omega)
      simp at this; omega
    · exact h
  refine ⟨?_, hb⟩
  rcases Nat.lt_or_ge n (2 ^ (blen n - 1)) with h | h
  · have := (blen_le_iff n (blen n - 1)).2 h
    omega
  · exact h

theorem bits_start {m n k : Nat} (hn : n ≠ 0) (hk : blen m = blen n + k) : m < n * 2 ^ (k + 1) := by
  have h1 := (blen_le_iff m (blen m)).1 (Nat.le_refl _)
  obtain ⟨h2, hb⟩ := blen_ge hn
  have e : 2 ^ blen m = 2 ^ (blen n - 1) * 2 ^ (k + 1) := by rw [← Nat.pow_add]; congr 1; omega
  rw [e] at h1
  exact Nat.lt_of_lt_of_le h1 (Nat.mul_le_mul_right _ h2)

theorem val_set_add {zs : List Nat} {j d : Nat} (hj : j < zs.length) : val (zs.set j (zs.getD j 0 + d)) = val zs + 4294967296 ^ j * d := by
  rw [val_split (zs.set j _) (j + 1) (by rw [set_len]; omega), val_split zs (j + 1) (by omega), set_val hj, drop_set_succ, val_take_succ zs j, Nat.mul_add]
  omega

theorem bit_limb {zs : List Nat} (hok : Ok zs) {i : Nat} (hd : val zs % 2 ^ (i + 1) = 0) : zs.getD (i / 32) 0 % 2 ^ (i % 32 + 1) = 0 := by
  rw [← val_mod_pow zs hok, pow32]
  obtain ⟨c, hc⟩ := Nat.dvd_of_mod_eq_zero hd
  have e : val zs = 2 ^ (32 * (i / 32)) * (2 ^ (i % 32 + 1) * c) := by
    rw [hc, ← Nat.mul_assoc, ← Nat.pow_add]; congr 2; omega
  rw [e, Nat.mul_div_cancel_left _ (Nat.two_pow_pos _)]
  have hdv : 2 ^ (i % 32 + 1) ∣ 4294967296 := ⟨2 ^ (31 - i % 32), by rw [← Nat.pow_add, show i % 32 + 1 + (31 - i % 32) = 32 by omega]⟩
  rw [Nat.mod_mod_of_dvd _ hdv]; exact Nat.mul_mod_right _ _

theorem bit_room {x s : Nat} (hs : s < 32) (hx : x < 4294967296) (hd : x % 2 ^ (s + 1) = 0) : x + 2 ^ s < 4294967296 ∧ 2 ^ s < 2 ^ (s + 1) ∧ 2 ^ s < 4294967296 := by
  obtain ⟨c, rfl⟩ := Nat.dvd_of_mod_eq_zero hd
  have e : 4294967296 = 2 ^ (s + 1) * 2 ^ (31 - s) := by rw [← Nat.pow_add, show s + 1 + (31 - s) = 32 by omega]
  have hp := Nat.two_pow_pos s
  have h2 : 2 ^ (s + 1) = 2 * 2 ^ s := by rw [Nat.pow_succ, Nat.mul_comm]
  have hc : c < 2 ^ (31 - s) := by
    rw [e] at hx
    exact Nat.lt_of_mul_lt_mul_left hx
  have hm : 2 ^ (s + 1) * (c + 1) ≤ 2 ^ (s + 1) * 2 ^ (31 - s) := Nat.mul_le_mul_left _ hc
  rw [← e, Nat.mul_add, Nat.mul_one] at hm
  exact ⟨by omega, by omega, by omega⟩

theorem or_bit (x s : Nat) (hs : s < 32) (hx : x < 4294967296) (hd : x % 2 ^ (s + 1) = 0) : bits .or .u32 (x : Int) ((2 ^ s : Nat) : Int) = ((x + 2 ^ s : Nat) : Int) := by
  obtain ⟨h1, h2, h3⟩ := bit_room hs hx hd
  rw [u32_or_nat _ _ hx h3, nat_join (s + 1) _ _ hd h2]

theorem bit_yes {m n Q r i : Nat} (h : m = Q * n + r) (hd : Q % 2 ^ (i + 1) = 0) (hr : r < n * 2 ^ (i + 1)) (hle : n * 2 ^ i ≤ r) : m = (Q + 2 ^ i) * n + (r - n * 2 ^ i) ∧ (Q + 2 ^ i) % 2 ^ i = 0 ∧ r - n * 2 ^ i < n * 2 ^ i := by
  rw [Nat.pow_succ, ← Nat.mul_assoc] at hr
  refine ⟨?_, ?_, by omega⟩
  · rw [Nat.add_mul, Nat.mul_comm (2 ^ i) n]; omega
  · obtain ⟨c, rfl⟩ := Nat.dvd_of_mod_eq_zero hd
    rw [Nat.add_mod_right, Nat.pow_succ, Nat.mul_assoc]; exact Nat.mul_mod_right _ _
theorem bit_no {Q i : Nat} (hd : Q % 2 ^ (i + 1) = 0) : Q % 2 ^ i = 0 := by
  obtain ⟨c, rfl⟩ := Nat.dvd_of_mod_eq_zero hd
  rw [Nat.pow_succ, Nat.mul_assoc]; exact Nat.mul_mod_right _ _
theorem half_pow (n i : Nat) : n * 2 ^ (i + 1) / 2 = n * 2 ^ i := by
  rw [Nat.pow_succ, ← Nat.mul_assoc]; exact Nat.mul_div_cancel _ (by omega)

set_option maxHeartbeats 4000000 in
theorem refDiv_any {w : World} {a b : Value} {m n : Nat} (ha : Num w a m) (hb : Num w b n) (hm : nl m ≤ 30000) (hn : nl n ≤ 30000) (hn0 : n ≠ 0) :
    Calls Tryz.prog 81 #[a, b] w fun e w' => ∃ q r, e = .returned (.tuple #[q, r, .int .i64 0]) ∧ Num w' q (m / n) ∧ Num w' r (m % n) ∧ Fwd w w' := by
  have hp : 0 < nl n := by rw [nl_pos hn0]; omega
  have hne : ((nl n : Int) == 0) = false := by simp; omega
  obtain ⟨bo, cb, rfl, hcb, hcmb, hcellb⟩ := hb.parts
  unfold maxLen at hcmb
  clear hcellb
  have hbm := blen_nl m
  have hbn := blen_nl n
  have HN0 := hid hn0
  clear hn0
  by_cases hlt : blen m < blen n
  · have HL : Hid (m < n) := hid (by
      have h1 := (blen_le_iff m (blen n - 1)).1 (by omega)
      have h2 := blen_ge HN0.out
      omega)
    go_enter Tryz.func81, Tryz.ntmps81
    go_wp2_with fail
    refine (refBits_any ha (by omega)).mono ?_
    rintro e w1 ⟨rfl, rfl⟩
    go_wp2_with fail
    refine (refBits_any hb (by omega)).mono ?_
    rintro e w1 ⟨rfl, rfl⟩
    go_wp2_with fail
    refine (refTrim_any ha (show nl m ≤ _ by omega)).mono ?_
    rintro e w1 ⟨v, rfl, hv, hf⟩
    rw [val_lim] at hv
    go_wp2
    go_ret3
    exact ⟨_, _, rfl, by rw [Nat.div_eq_of_lt HL.out]; exact num_nil _, by rw [Nat.mod_eq_of_lt HL.out]; exact hv, hf⟩
  · obtain ⟨k, hk⟩ : ∃ k, blen m = blen n + k := ⟨blen m - blen n, by omega⟩
    have hk2 : k ≤ 1000000 := by omega
    have hst := hid (bits_start HN0.out hk)
    have hkz : (blen m : Int) - (blen n : Int) = (k : Int) := by omega
    have HK := hid hk
    clear hlt hk
    go_enter Tryz.func81, Tryz.ntmps81
    go_wp2_with fail
    refine (refBits_any ha (by omega)).mono ?_
    rintro e w1 ⟨rfl, rfl⟩
    go_wp2_with fail
    refine (refBits_any hb (by omega)).mono ?_
    rintro e w1 ⟨rfl, rfl⟩
    obtain ⟨h, hh⟩ : ∃ h, h = k / 32 := ⟨_, rfl⟩
    have ek : (k : Int) / 32 = (h : Int) := by omega
    have HH := hid hh
    have hh2 : h ≤ 40000 := by omega
    clear hh
    go_wp2_with (first | (at_make; refine law_make rfl _ _ rfl .i64 .i64 _ _ (h + 1) rfl rfl (by omega) (by omega) (by omega) ?_))
    intro w1 hb1 hf1
    have HB1 := hid hb1
    have hra := ha.fwd hf1
    have hrb := hb.fwd hf1
    clear ha hb
    go_wp2_with fail
    have hlt1 : w.heap.size < w1.heap.size := hb1.lt
    refine (refTrim_new hra (show nl m ≤ _ by omega)).mono ?_
    rintro e w2 ⟨vr, rfl, hr2, hf2, hnr⟩
    rw [val_lim] at hr2
    have hrb2 := hrb.fwd hf2
    clear hra hrb
    go_wp2_with fail
    have hor0 := hid (hnr.off hlt1)
    refine (refShl_new k hrb2 (by omega) (by omega)).mono ?_
    rintro e w3 ⟨vd, rfl, hd3, hf3, hnd⟩
    have hod0 := hid (hnd.off (Nat.lt_of_lt_of_le hlt1 hf2.size))
    have hr3 := hr2.fwd hf3
    have HB3 := hid ((HB1.out.fwd hf2).fwd hf3)
    have HF3 := hid ((hf1.trans hf2).trans hf3)
    clear hr2 hrb2 hf1 hf2 hf3 HB1 hb1 hnr hnd hlt1
    go_wp2
    go_loopw [9, 10, 11] (fun r d i wr => ∃ (t R : Nat) (zs : List Nat), t ≤ k + 1 ∧ i = .int .i64 ((t : Int) - 1) ∧ Num wr r R ∧ nl R ≤ 30000 ∧ Num wr d (n * 2 ^ t / 2) ∧ Off r w.heap.size ∧ Off d w.heap.size ∧ zs.length = h + 1 ∧ Blk wr w.heap.size ([] ++ (zs ++ [])) ∧ Fwd w wr ∧
        m = val zs * n + R ∧ val zs % 2 ^ t = 0 ∧ R < n * 2 ^ t) (fun _ _ i _ => (intOf i + 1).toNat)
    case atStart =>
      refine ⟨k + 1, m, List.replicate (h + 1) 0, by omega, by go_num, hr3, hm, by rw [half_pow]; exact hd3, hor0.out, hod0.out, by simp, by simpa using HB3.out, HF3.out, by rw [val_replicate]; omega, by rw [val_replicate]; exact Nat.zero_mod _, hst.out⟩
    case round =>
      obtain ⟨t, R, zs, ht, rfl, hr, hR, hd, hofr, hofd, hzl, hbz, hfw, hmv, hmod, hlt⟩ := hrel
      have HOF := hid (And.intro hofr hofd)
      clear hofr hofd
      have H := hid (And.intro hzl (And.intro hbz (And.intro hfw (And.intro hmv (And.intro hmod hlt)))))
      clear hzl hbz hfw hmv hmod hlt
      cases t with
      | zero =>
        have hz : Rd wr (.slice (some ⟨w.heap.size, 0, none⟩) (h + 1) (h + 1)) zs := by
          have h3 := Blk.rd H.out.2.1 (h + 1) (by rw [H.out.1]; exact Nat.le_refl _) (le_maxLen (by omega))
          rwa [H.out.1] at h3
        go_wp2_with fail
        refine (refTrim_any hz (by rw [H.out.1]; omega)).mono ?_
        rintro e w4 ⟨vq, rfl, hq, hf4⟩
        obtain ⟨q1, q2, q3, q4, q5, q6⟩ := H.out
        simp only [Nat.pow_zero, Nat.mul_one] at q6
        have hqv : val zs = m / n ∧ R = m % n := by
          have h1 : m / n = val zs := by
            rw [q4, Nat.mul_comm, Nat.mul_add_div (by omega), Nat.div_eq_of_lt q6]; rfl
          have h2 := Nat.div_add_mod m n
          rw [h1, Nat.mul_comm] at h2
          exact ⟨h1.symm, by omega⟩
        have HQ := hid (And.intro hqv.1 hqv.2)
        have HF := hid (q3.trans hf4)
        have hr4 := hr.fwd hf4
        clear hqv q1 q2 q3 q4 q5 q6 H
        go_wp2
        go_ret3
        exact ⟨_, _, rfl, by rw [← HQ.out.1]; exact hq, by rw [← HQ.out.2]; exact hr4, HF.out⟩
      | succ t =>
        rw [half_pow] at hd
        have hnd : nl (n * 2 ^ t) ≤ 100000 := by
          have h1 := nl_shl n t
          omega
        obtain ⟨D, hD⟩ : ∃ D, D = n * 2 ^ t := ⟨_, rfl⟩
        rw [← hD] at hd hnd
        have HD := hid hD
        clear hD
        by_cases hle : D ≤ R
        · have hcm : decide ((0 : Int) ≤ cmpW (R : Int) (D : Int)) = true := by
            apply decide_eq_true
            rcases Nat.lt_or_ge D R with h1 | h1
            · rw [cmpI_gt (by omega)]; omega
            · rw [cmpI_eq (by omega)]; omega
          obtain ⟨j, hj⟩ : ∃ j, j = t / 32 := ⟨_, rfl⟩
          obtain ⟨s, hs⟩ : ∃ s, s = t % 32 := ⟨_, rfl⟩
          have hs32 : s < 32 := by omega
          have hjh : j ≤ h := by have := HH.out; omega
          have et1 : (t : Int) / 32 = (j : Int) := by omega
          have et2 : (t : Int) % 32 = (s : Int) := by omega
          have HJ := hid (show t = 32 * j + s by omega)
          have hbit : zs.getD j 0 % 2 ^ (s + 1) = 0 := by
            have := bit_limb (H.out.2.1.okMid) H.out.2.2.2.2.1
            rw [hj, hs]; exact this
          have hxb : zs.getD j 0 < 4294967296 := H.out.2.1.okMid.getD _
          obtain ⟨x, hx⟩ : ∃ x, x = zs.getD j 0 := ⟨_, rfl⟩
          rw [← hx] at hbit hxb
          have hor : bits .or .u32 (x : Int) ((2 : Int) ^ s % 4294967296) = ((x + 2 ^ s : Nat) : Int) := by
            have h1 := or_bit x s hs32 hxb hbit
            have h2 := (bit_room hs32 hxb hbit).2.2
            rw [cast_pow2, show ((2 ^ s : Nat) : Int) % 4294967296 = ((2 ^ s : Nat) : Int) by omega]
            exact h1
          have HRM := hid (bit_room hs32 hxb hbit)
          have HX := hid hx
          clear hx hj hs hbit
          have HLE := hid hle
          go_wp2_with fail
          refine (refCmp_any hr hd (by omega) (by omega)).mono ?_
          rintro e w4 ⟨rfl, hf4⟩
          have hr4 := hr.fwd hf4
          have hd4 := hd.fwd hf4
          go_wp2_with fail
          refine (refLess_new hr4 hd4 (by omega) (by omega) hle).mono ?_
          rintro e w5 ⟨v5, rfl, hr5, hf5, hn5⟩
          have ho5 := hid (hn5.off (Nat.lt_of_lt_of_le H.out.2.1.lt hf4.size))
          have hd5 := hd4.fwd hf5
          have hf45 := hf4.trans hf5
          have hb5 := H.out.2.1.fwd hf45
          have hlj : j < zs.length := by rw [H.out.1]; omega
          have hzk := hb5.mid j hlj
          have hfz := hb5.frozen (0 + j)
          simp only [List.length_nil, Nat.zero_add] at hzk hfz
          rw [← HX.out] at hzk
          have HB5 := hid hb5
          have HLJ := hid hlj
          have HF5 := hid hf45
          clear hr hd hr4 hd4 hb5 hlj hf4 hf5 hf45 hn5
          go_wp2_with fail
          rw [show (x : Int) + 2 ^ s = ((x + 2 ^ s : Nat) : Int) by simp]
          have honly := Only.set w.heap.size w5 j (.int .u32 ((x + 2 ^ s : Nat) : Int))
          have hd6 := Rd.only hd5 honly HOF.out.2
          have hr6 := Rd.only hr5 honly ho5.out
          have hb6 := HB5.out.setAt j HLJ.out _ (x + 2 ^ s) rfl HRM.out.1
          simp only [List.length_nil, Nat.zero_add] at hb6
          have HF6 := hid ((H.out.2.2.1.trans HF5.out).wrote honly (Nat.le_refl _))
          have HB6 := hid hb6
          clear hb6 honly hd5 hr5 HB5
          generalize w5.setCell ⟨w.heap.size, j, none⟩ (.int .u32 ((x + 2 ^ s : Nat) : Int)) = w6 at *
          refine (refShr_new 1 hd6 (by omega) (by omega)).mono ?_
          rintro e w7 ⟨v7, rfl, hd7, hf7, hn7⟩
          have ho7 := hid (hn7.off HB6.out.lt)
          have hr7 := Num.fwd hr6 hf7
          go_wp2
          go_roundw
          case rel =>
            obtain ⟨q1, q2, q3, q4, q5, q6⟩ := H.out
            rw [HD.out] at hd7 hr7
            have hle2 := HLE.out
            rw [HD.out] at hle2
            obtain ⟨y1, y2, y3⟩ := bit_yes q4 q5 q6 hle2
            have hvs : val (zs.set j (x + 2 ^ s)) = val zs + 2 ^ t := by
              rw [HX.out, val_set_add HLJ.out, pow32, ← Nat.pow_add, HJ.out]
            refine ⟨t, R - n * 2 ^ t, zs.set j (x + 2 ^ s), by omega, by go_num, hr7, Nat.le_trans (nl_sub _ _) hR, hd7, ho5.out, ho7.out, by rw [set_len]; exact q1, HB6.out.fwd hf7, HF6.out.trans hf7, by rw [hvs]; exact y1, by rw [hvs]; exact y2, y3⟩
          case measure => simp [intOf] <;> omega
        · have hcm : decide ((0 : Int) ≤ cmpW (R : Int) (D : Int)) = false := by
            apply decide_eq_false
            rw [cmpI_lt (by omega)]; omega
          have HLE := hid hle
          clear hle
          go_wp2_with fail
          refine (refCmp_any hr hd (by omega) (by omega)).mono ?_
          rintro e w4 ⟨rfl, hf4⟩
          have hr4 := hr.fwd hf4
          have hd4 := hd.fwd hf4
          clear hr hd
          go_wp2_with fail
          refine (refShr_new 1 hd4 (by omega) (by omega)).mono ?_
          rintro e w5 ⟨v5, rfl, hd5, hf5, hn5⟩
          have ho5 := hid (hn5.off (Nat.lt_of_lt_of_le H.out.2.1.lt hf4.size))
          go_wp2
          go_roundw
          case rel =>
            obtain ⟨q1, q2, q3, q4, q5, q6⟩ := H.out
            refine ⟨t, R, zs, by omega, by go_num, hr4.fwd hf5, hR, by rw [HD.out] at hd5; exact hd5, HOF.out.1, ho5.out, q1, (q2.fwd hf4).fwd hf5, (q3.trans hf4).trans hf5, q4, bit_no q5, ?_⟩
            have := HLE.out
            rw [HD.out] at this; omega
          case measure => simp [intOf] <;> omega

end Go.Proofs.YtcfhajnboamnnabGreatDoor
