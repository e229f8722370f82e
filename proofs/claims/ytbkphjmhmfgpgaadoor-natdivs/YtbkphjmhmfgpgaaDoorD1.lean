/- Contract of nat's takeTimes. -/
import Derived.Test.YtbkphjmhmfgpgaaDoorS2
namespace Go.Proofs.YtbkphjmhmfgpgaaDoor
open Go.RowKit
set_option linter.unusedVariables false

/-- One round: x less the low limb of s and a borrow. -/
theorem take_step {P X Y Z m c b b' x y r s : Nat} (h : X + b * P + c * P = Z + m * Y) (hs : s = c + m * y) (e : x + b' * 4294967296 = r + (b + s % 4294967296)) :
    X + P * x + b' * (P * 4294967296) + s / 4294967296 * (P * 4294967296) = Z + P * r + m * (Y + P * y) := by
  have h1 := Nat.div_add_mod s 4294967296
  have e1 : P * (x + b' * 4294967296) = P * (r + (b + s % 4294967296)) := by rw [e]
  have e2 : P * s = P * c + P * (m * y) := by rw [hs]; grind
  have e3 : P * s = P * (s % 4294967296) + s / 4294967296 * (P * 4294967296) := by
    conv => lhs; rw [← h1]
    grind
  grind

theorem sub_low (x s b : Nat) (hx : x < 4294967296) (hb : b ≤ 1) :
    ∃ r b' : Nat, r < 4294967296 ∧ b' ≤ 1 ∧ x + b' * 4294967296 = r + (b + s % 4294967296) ∧ IntKind.u64.wrap (IntKind.u64.wrap ((x : Int) - (s : Int) % 4294967296) - b) / 9223372036854775808 = (b' : Int) ∧ IntKind.u64.wrap (IntKind.u64.wrap ((x : Int) - (s : Int) % 4294967296) - b) % 4294967296 = (r : Int) := by
  have := sub_wrap2 x (s % 4294967296) b hx hb (by omega)
  simpa using this

set_option maxHeartbeats 1000000 in
theorem takeTimes_any {w : World} {len off : Nat} {g cap m : Nat} {pre xs post ys : List Nat} {v : Value} (hb : Blk w g (pre ++ (xs ++ post))) (hlen : len = xs.length) (hofs : off = pre.length) (hcap : xs.length ≤ cap) (hcm : cap ≤ maxLen)
    (hv : Rd w v ys) (hoff : Off v g) (hle : xs.length = ys.length + 1) (hs : xs.length ≤ 1000000000) (hm : m < 4294967296) :
    Calls Tryd.prog 81 #[.slice (some ⟨g, off, none⟩) len cap, v, .int .u32 m] w fun e w' =>
      ∃ (c : Nat) (zs : List Nat), e = .returned (.bool (((c : Nat) : Int) != 0)) ∧ zs.length = xs.length ∧ Blk w' g (pre ++ (zs ++ post)) ∧ Only g w w' ∧ c ≤ 1 ∧ val xs + c * 4294967296 ^ xs.length = val zs + m * val ys := by
  subst hlen hofs
  obtain ⟨ao, cap2, rfl, h1, h2, hoky, hcy⟩ := hv.parts
  unfold maxLen at hcm h2
  have hle2 : ys.length + 1 ≤ xs.length ∧ xs.length ≤ ys.length + 1 := by omega
  have HLE : Hid (xs.length = ys.length + 1) := hle
  clear hle
  obtain ⟨hle3, hle4⟩ := hle2
  go_enter Tryd.func81, Tryd.ntmps81
  go_wp2
  go_loopw [7, 8, 13] (fun c b i wr => ∃ (k : Nat) (cn bn : Nat) (zs : List Nat), k ≤ xs.length ∧ i = .int .i64 k ∧ c = .int .u64 cn ∧ b = .int .u64 bn ∧ cn < 4294967296 ∧ bn ≤ 1 ∧ zs.length = xs.length ∧ Blk wr g (pre ++ (zs ++ post)) ∧ Only g w wr ∧ zs.drop k = xs.drop k ∧
      (ys.length < k → cn = 0) ∧ val (xs.take k) + bn * 4294967296 ^ k + cn * 4294967296 ^ k = val (zs.take k) + m * val (ys.take k)) (fun _ _ i _ => xs.length - (intOf i).toNat)
  case atStart => exact ⟨0, 0, 0, xs, by omega, rfl, rfl, rfl, by omega, by omega, rfl, hb, Only.refl _ _, rfl, by omega, by simp [val]⟩
  case round =>
    obtain ⟨k, cn, bn, zs, hk, rfl, rfl, rfl, hc1, hb1, hzl, hbz, hon, hdr, hz0, hval⟩ := hrel
    have H : Hid (zs.length = xs.length ∧ Blk wr g (pre ++ (zs ++ post)) ∧ Only g w wr ∧ zs.drop k = xs.drop k ∧ (ys.length < k → cn = 0) ∧ val (xs.take k) + bn * 4294967296 ^ k + cn * 4294967296 ^ k = val (zs.take k) + m * val (ys.take k)) := ⟨hzl, hbz, hon, hdr, hz0, hval⟩
    clear hzl hbz hon hdr hval hz0
    by_cases hlt : k < xs.length
    · have hlz : k < zs.length := by rw [H.out.1]; exact hlt
      have hzk := H.out.2.1.mid k hlz
      have hfz := H.out.2.1.frozen (pre.length + k)
      rw [getD_of_drop H.out.2.2.2.1] at hzk
      obtain ⟨x, hx⟩ : ∃ x, x = xs.getD k 0 := ⟨_, rfl⟩
      have hxb : x < 4294967296 := by rw [hx]; exact hb.okMid.getD _
      rw [← hx] at hzk
      have HX : Hid (x = xs.getD k 0) := hx
      clear hx
      have HL : Hid (k < zs.length) := hlz
      clear hlz
      by_cases hly : k < ys.length
      · obtain ⟨bb, bo, rfl, hyk⟩ := hcy k hly
        obtain ⟨y, hy⟩ : ∃ y, y = ys.getD k 0 := ⟨_, rfl⟩
        have hyb : y < 4294967296 := by rw [hy]; exact hoky.getD _
        rw [← hy] at hyk
        have hyk2 := H.out.2.2.1.cell hyk (by intro e; apply hoff; simp at e; simp [Value.ownBlock, e])
        clear hyk
        have HY : Hid (y = ys.getD k 0) := hy
        clear hy
        have HW := hid <| sub_low x (cn + m * y) bn hxb hb1
        obtain ⟨hp2, hp3, hp4⟩ := mul_bd hm hyb
        go_wp2
        go_roundw
        case rel =>
          obtain ⟨q1, q2, q3, q4, q6, q5⟩ := H.out
          obtain ⟨r, c', hr, hc', hs', e1, e2⟩ := HW.out
          have e0 : ((cn : Int) + ((m : Int) * (y : Int))) = ((cn + m * y : Nat) : Int) := by simp
          rw [e0, e1, e2]
          refine ⟨k + 1, (cn + m * y) / 4294967296, c', zs.set k r, by omega, by go_num, by simp, rfl, by omega, hc', by rw [set_len]; exact q1, q2.setAt k HL.out _ _ rfl hr, q3.setv _ _, set_drop q4, by omega, ?_⟩
          rw [set_val HL.out, val_take_succ xs, val_take_succ ys, ← HX.out, ← HY.out, Nat.pow_succ]
          exact take_step q5 rfl hs'
        case measure => simp [intOf] <;> omega
      · have HW := hid <| sub_low x cn bn hxb hb1
        go_wp2
        go_roundw
        case rel =>
          obtain ⟨q1, q2, q3, q4, q6, q5⟩ := H.out
          obtain ⟨r, c', hr, hc', hs', e1, e2⟩ := HW.out
          rw [show (cn : Int) % 4294967296 = cn by omega] at e1 e2
          rw [e1, e2]
          refine ⟨k + 1, cn / 4294967296, c', zs.set k r, by omega, by go_num, by simp, rfl, by omega, hc', by rw [set_len]; exact q1, q2.setAt k HL.out _ _ rfl hr, q3.setv _ _, set_drop q4, by omega, ?_⟩
          rw [set_val HL.out, val_take_succ xs, val_take_succ ys, ← HX.out, Nat.pow_succ, List.getD_eq_getElem?_getD (l := ys), List.getElem?_eq_none (by omega)]
          exact take_step q5 (by simp) hs'
        case measure => simp [intOf] <;> omega
    · go_wp2
      go_ret
      obtain ⟨q1, q2, q3, q4, q6, q5⟩ := H.out
      have hkl : k = xs.length := by omega
      subst hkl
      have hc0 := q6 (by omega)
      subst hc0
      refine ⟨bn, zs, by congr 2, q1, q2, q3, hb1, ?_⟩
      rw [val_take_all (Nat.le_refl _), val_take_all (by omega), val_take_all (by omega)] at q5
      omega

end Go.Proofs.YtbkphjmhmfgpgaaDoor
