/- Contracts of nat's loops over limbs: addTo, takeFrom, addTimes. -/
import Derived.Test.YtbkphjmhmfgpgaaDoorW1
namespace Go.Proofs.YtbkphjmhmfgpgaaDoor
open Go.RowKit
set_option linter.unusedVariables false

/-- What a slice value of limbs looks like. -/
theorem Rd.parts {w : World} {v : Value} {xs : List Nat} (h : Rd w v xs) : ∃ ao cap, v = .slice ao xs.length cap ∧ xs.length ≤ cap ∧ cap ≤ maxLen ∧ Ok xs ∧
    ∀ i, i < xs.length → ∃ b off, ao = some ⟨b, off, none⟩ ∧ w.cell? ⟨b, off + i, none⟩ = some (.int .u32 ((xs.getD i 0 : Nat) : Int)) := by
  rcases h.2 with ⟨rfl, rfl⟩ | ⟨b, off, cap, rfl, h1, h2, h3, h4⟩
  · exact ⟨none, 0, rfl, by simp, by simp, Ok.nil, by simp⟩
  · exact ⟨_, _, rfl, h1, h2, h.1, fun i hi => ⟨b, off, rfl, h3 i hi⟩⟩

set_option maxHeartbeats 1000000 in
theorem addTo_any {w : World} {len off : Nat} {g cap : Nat} {pre xs post ys : List Nat} {v : Value} (hb : Blk w g (pre ++ (xs ++ post))) (hlen : len = xs.length) (hofs : off = pre.length) (hcap : xs.length ≤ cap) (hcm : cap ≤ maxLen)
    (hv : Rd w v ys) (hoff : Off v g) (hle : ys.length ≤ xs.length) (hs : xs.length ≤ 1000000000) :
    Calls Tryd.prog 50 #[.slice (some ⟨g, off, none⟩) len cap, v] w fun e w' =>
      e = .returned (.tuple #[]) ∧ ∃ zs c, zs.length = xs.length ∧ Blk w' g (pre ++ (zs ++ post)) ∧ Only g w w' ∧ c ≤ 1 ∧ val xs + val ys = val zs + c * 4294967296 ^ xs.length := by
  subst hlen hofs
  obtain ⟨ao, cap2, rfl, h1, h2, hoky, hcy⟩ := hv.parts
  unfold maxLen at hcm h2
  go_enter Tryd.func50, Tryd.ntmps50
  go_wp2
  go_loopw [4, 8] (fun c i wr => ∃ (k : Nat) (cn : Nat) (zs : List Nat), k ≤ xs.length ∧ i = .int .i64 k ∧ c = .int .u64 cn ∧ cn ≤ 1 ∧ zs.length = xs.length ∧ Blk wr g (pre ++ (zs ++ post)) ∧ Only g w wr ∧ zs.drop k = xs.drop k ∧
      val (xs.take k) + val (ys.take k) = val (zs.take k) + cn * 4294967296 ^ k) (fun _ i _ => xs.length - (intOf i).toNat)
  case atStart => exact ⟨0, 0, xs, by omega, rfl, rfl, by omega, rfl, hb, Only.refl _ _, rfl, by simp [val]⟩
  case round =>
    obtain ⟨k, cn, zs, hk, rfl, rfl, hc1, hzl, hbz, hon, hdr, hval⟩ := hrel
    have H : Hid (zs.length = xs.length ∧ Blk wr g (pre ++ (zs ++ post)) ∧ Only g w wr ∧ zs.drop k = xs.drop k ∧ val (xs.take k) + val (ys.take k) = val (zs.take k) + cn * 4294967296 ^ k) := ⟨hzl, hbz, hon, hdr, hval⟩
    clear hzl hbz hon hdr hval
    by_cases hlt : k < xs.length
    · have hlz : k < zs.length := by rw [H.out.1]; exact hlt
      have hzk := H.out.2.1.mid k hlz
      have hfz := H.out.2.1.frozen (pre.length + k)
      rw [getD_of_drop H.out.2.2.2.1] at hzk
      obtain ⟨x, hx⟩ : ∃ x, x = xs.getD k 0 := ⟨_, rfl⟩
      have hxb : x < 4294967296 := by rw [hx]; exact hb.okMid.getD _
      rw [← hx] at hzk
      have HX : Hid (x = xs.getD k 0) := hx
      clear hx
      have HL : Hid (k < zs.length) := hlz
      clear hlz
      by_cases hly : k < ys.length
      · obtain ⟨bb, bo, rfl, hyk⟩ := hcy k hly
        obtain ⟨y, hy⟩ : ∃ y, y = ys.getD k 0 := ⟨_, rfl⟩
        have hyb : y < 4294967296 := by rw [hy]; exact hoky.getD _
        rw [← hy] at hyk
        have hyk2 := H.out.2.2.1.cell hyk (by intro e; apply hoff; simp at e; simp [Value.ownBlock, e])
        clear hyk
        have HY : Hid (y = ys.getD k 0) := hy
        clear hy
        go_wp2
        go_roundw
        case rel =>
          obtain ⟨q1, q2, q3, q4, q5⟩ := H.out
          refine ⟨k + 1, (cn + x + y) / 4294967296, zs.set k ((cn + x + y) % 4294967296), by omega, by go_num, by go_num, by omega, by rw [set_len]; exact q1, q2.setAt k HL.out _ _ (by omega) (by omega), q3.setv _ _, set_drop q4, ?_⟩
          rw [set_val HL.out, val_take_succ xs, val_take_succ ys, ← HX.out, ← HY.out, Nat.pow_succ]
          exact add_step q5 rfl
        case measure => simp [intOf] <;> omega
      · go_wp2
        · go_returns
          obtain ⟨q1, q2, q3, q4, q5⟩ := H.out
          have hc0 : ((cn : Int) == 0) = true := by assumption
          refine ⟨rfl, zs, 0, q1, q2, q3, by omega, ?_⟩
          have hc : cn = 0 := by simpa using hc0
          subst hc
          rw [val_split xs k hk, val_split zs k (by omega), q4, ← val_take_all (xs := ys) (k := k) (by omega)]
          simp at q5 ⊢
          omega
        · go_roundw
          case rel =>
            obtain ⟨q1, q2, q3, q4, q5⟩ := H.out
            refine ⟨k + 1, (cn + x) / 4294967296, zs.set k ((cn + x) % 4294967296), by omega, by go_num, by go_num, by omega, by rw [set_len]; exact q1, q2.setAt k HL.out _ _ (by omega) (by omega), q3.setv _ _, set_drop q4, ?_⟩
            rw [set_val HL.out, val_take_succ xs, val_take_succ ys, ← HX.out, Nat.pow_succ, List.getD_eq_getElem?_getD (l := ys), List.getElem?_eq_none (by omega)]
            exact add_step q5 rfl
          case measure => simp [intOf] <;> omega
    · go_wp2
      go_returns
      obtain ⟨q1, q2, q3, q4, q5⟩ := H.out
      have hkl : k = xs.length := by omega
      subst hkl
      refine ⟨rfl, zs, cn, q1, q2, q3, hc1, ?_⟩
      rw [val_take_all (Nat.le_refl _), val_take_all (by omega), val_take_all (by omega)] at q5
      exact q5

set_option maxHeartbeats 1000000 in
theorem takeFrom_any {w : World} {len off : Nat} {g cap : Nat} {pre xs post ys : List Nat} {v : Value} (hb : Blk w g (pre ++ (xs ++ post))) (hlen : len = xs.length) (hofs : off = pre.length) (hcap : xs.length ≤ cap) (hcm : cap ≤ maxLen)
    (hv : Rd w v ys) (hoff : Off v g) (hle : ys.length ≤ xs.length) (hs : xs.length ≤ 1000000000) :
    Calls Tryd.prog 43 #[.slice (some ⟨g, off, none⟩) len cap, v] w fun e w' =>
      e = .returned (.tuple #[]) ∧ ∃ zs c, zs.length = xs.length ∧ Blk w' g (pre ++ (zs ++ post)) ∧ Only g w w' ∧ c ≤ 1 ∧ val xs + c * 4294967296 ^ xs.length = val zs + val ys := by
  subst hlen hofs
  obtain ⟨ao, cap2, rfl, h1, h2, hoky, hcy⟩ := hv.parts
  unfold maxLen at hcm h2
  go_enter Tryd.func43, Tryd.ntmps43
  go_wp2
  go_loopw [4, 9] (fun c i wr => ∃ (k : Nat) (cn : Nat) (zs : List Nat), k ≤ xs.length ∧ i = .int .i64 k ∧ c = .int .u64 cn ∧ cn ≤ 1 ∧ zs.length = xs.length ∧ Blk wr g (pre ++ (zs ++ post)) ∧ Only g w wr ∧ zs.drop k = xs.drop k ∧
      val (xs.take k) + cn * 4294967296 ^ k = val (zs.take k) + val (ys.take k)) (fun _ i _ => xs.length - (intOf i).toNat)
  case atStart => exact ⟨0, 0, xs, by omega, rfl, rfl, by omega, rfl, hb, Only.refl _ _, rfl, by simp [val]⟩
  case round =>
    obtain ⟨k, cn, zs, hk, rfl, rfl, hc1, hzl, hbz, hon, hdr, hval⟩ := hrel
    have H : Hid (zs.length = xs.length ∧ Blk wr g (pre ++ (zs ++ post)) ∧ Only g w wr ∧ zs.drop k = xs.drop k ∧ val (xs.take k) + cn * 4294967296 ^ k = val (zs.take k) + val (ys.take k)) := ⟨hzl, hbz, hon, hdr, hval⟩
    clear hzl hbz hon hdr hval
    by_cases hlt : k < xs.length
    · have hlz : k < zs.length := by rw [H.out.1]; exact hlt
      have hzk := H.out.2.1.mid k hlz
      have hfz := H.out.2.1.frozen (pre.length + k)
      rw [getD_of_drop H.out.2.2.2.1] at hzk
      obtain ⟨x, hx⟩ : ∃ x, x = xs.getD k 0 := ⟨_, rfl⟩
      have hxb : x < 4294967296 := by rw [hx]; exact hb.okMid.getD _
      rw [← hx] at hzk
      have HX : Hid (x = xs.getD k 0) := hx
      clear hx
      have HL : Hid (k < zs.length) := hlz
      clear hlz
      by_cases hly : k < ys.length
      · obtain ⟨bb, bo, rfl, hyk⟩ := hcy k hly
        obtain ⟨y, hy⟩ : ∃ y, y = ys.getD k 0 := ⟨_, rfl⟩
        have hyb : y < 4294967296 := by rw [hy]; exact hoky.getD _
        rw [← hy] at hyk
        have hyk2 := H.out.2.2.1.cell hyk (by intro e; apply hoff; simp at e; simp [Value.ownBlock, e])
        clear hyk
        have HY : Hid (y = ys.getD k 0) := hy
        clear hy
        have HW := hid <| sub_wrap x cn y hxb hc1 hyb
        go_wp2
        go_roundw
        case rel =>
          obtain ⟨q1, q2, q3, q4, q5⟩ := H.out
          obtain ⟨r, c', hr, hc', hs', e1, e2⟩ := HW.out
          rw [e1, e2]
          refine ⟨k + 1, c', zs.set k r, by omega, by go_num, rfl, hc', by rw [set_len]; exact q1, q2.setAt k HL.out _ _ rfl hr, q3.setv _ _, set_drop q4, ?_⟩
          rw [set_val HL.out, val_take_succ xs, val_take_succ ys, ← HX.out, ← HY.out, Nat.pow_succ]
          exact sub_step q5 hs'
        case measure => simp [intOf] <;> omega
      · have HW := hid <| sub_wrap0 x cn hxb hc1
        go_wp2
        · go_returns
          obtain ⟨q1, q2, q3, q4, q5⟩ := H.out
          have hc0 : ((cn : Int) == 0) = true := by assumption
          refine ⟨rfl, zs, 0, q1, q2, q3, by omega, ?_⟩
          have hc : cn = 0 := by simpa using hc0
          subst hc
          rw [val_split xs k hk, val_split zs k (by omega), q4, ← val_take_all (xs := ys) (k := k) (by omega)]
          simp at q5 ⊢
          omega
        · go_roundw
          case rel =>
            obtain ⟨q1, q2, q3, q4, q5⟩ := H.out
            obtain ⟨r, c', hr, hc', hs', e1, e2⟩ := HW.out
            rw [e1, e2]
            refine ⟨k + 1, c', zs.set k r, by omega, by go_num, rfl, hc', by rw [set_len]; exact q1, q2.setAt k HL.out _ _ rfl hr, q3.setv _ _, set_drop q4, ?_⟩
            rw [set_val HL.out, val_take_succ xs, val_take_succ ys, ← HX.out, Nat.pow_succ, List.getD_eq_getElem?_getD (l := ys), List.getElem?_eq_none (by omega)]
            exact sub_step q5 hs'
          case measure => simp [intOf] <;> omega
    · go_wp2
      go_returns
      obtain ⟨q1, q2, q3, q4, q5⟩ := H.out
      have hkl : k = xs.length := by omega
      subst hkl
      refine ⟨rfl, zs, cn, q1, q2, q3, hc1, ?_⟩
      rw [val_take_all (Nat.le_refl _), val_take_all (by omega), val_take_all (by omega)] at q5
      exact q5

set_option maxHeartbeats 1000000 in
/-- addTimes adds m times b to room, as long as b, and answers what goes out on top. -/
theorem addTimes_any {w : World} {len off : Nat} {g cap m : Nat} {pre xs post ys : List Nat} {v : Value} (hb : Blk w g (pre ++ (xs ++ post))) (hlen : len = xs.length) (hofs : off = pre.length) (hcap : xs.length ≤ cap) (hcm : cap ≤ maxLen)
    (hv : Rd w v ys) (hoff : Off v g) (hle : ys.length = xs.length) (hs : xs.length ≤ 1000000000) (hm : m < 4294967296) :
    Calls Tryd.prog 52 #[.slice (some ⟨g, off, none⟩) len cap, v, .int .u32 m] w fun e w' =>
      ∃ (c : Nat) (zs : List Nat), e = .returned (.int .u32 c) ∧ zs.length = xs.length ∧ Blk w' g (pre ++ (zs ++ post)) ∧ Only g w w' ∧ c < 4294967296 ∧ val xs + m * val ys = val zs + c * 4294967296 ^ xs.length := by
  subst hlen hofs
  obtain ⟨ao, cap2, rfl, h1, h2, hoky, hcy⟩ := hv.parts
  unfold maxLen at hcm h2
  go_enter Tryd.func52, Tryd.ntmps52
  go_wp2
  go_loopw [7, 12] (fun c i wr => ∃ (k : Nat) (cn : Nat) (zs : List Nat), k ≤ xs.length ∧ i = .int .i64 k ∧ c = .int .u64 cn ∧ cn < 4294967296 ∧ zs.length = xs.length ∧ Blk wr g (pre ++ (zs ++ post)) ∧ Only g w wr ∧ zs.drop k = xs.drop k ∧
      val (xs.take k) + m * val (ys.take k) = val (zs.take k) + cn * 4294967296 ^ k) (fun _ i _ => xs.length - (intOf i).toNat)
  case atStart => exact ⟨0, 0, xs, by omega, rfl, rfl, by omega, rfl, hb, Only.refl _ _, rfl, by simp [val]⟩
  case round =>
    obtain ⟨k, cn, zs, hk, rfl, rfl, hc1, hzl, hbz, hon, hdr, hval⟩ := hrel
    have H : Hid (zs.length = xs.length ∧ Blk wr g (pre ++ (zs ++ post)) ∧ Only g w wr ∧ zs.drop k = xs.drop k ∧ val (xs.take k) + m * val (ys.take k) = val (zs.take k) + cn * 4294967296 ^ k) := ⟨hzl, hbz, hon, hdr, hval⟩
    clear hzl hbz hon hdr hval
    have hle2 : ys.length ≤ xs.length ∧ xs.length ≤ ys.length := by omega
    have HLE : Hid (ys.length = xs.length) := hle
    clear hle
    obtain ⟨hle3, hle4⟩ := hle2
    by_cases hlt : k < xs.length
    · have hlz : k < zs.length := by rw [H.out.1]; exact hlt
      have hzk := H.out.2.1.mid k hlz
      have hfz := H.out.2.1.frozen (pre.length + k)
      rw [getD_of_drop H.out.2.2.2.1] at hzk
      obtain ⟨x, hx⟩ : ∃ x, x = xs.getD k 0 := ⟨_, rfl⟩
      have hxb : x < 4294967296 := by rw [hx]; exact hb.okMid.getD _
      rw [← hx] at hzk
      have HX : Hid (x = xs.getD k 0) := hx
      clear hx
      have HL : Hid (k < zs.length) := hlz
      clear hlz
      have hly : k < ys.length := by omega
      obtain ⟨bb, bo, rfl, hyk⟩ := hcy k hly
      obtain ⟨y, hy⟩ : ∃ y, y = ys.getD k 0 := ⟨_, rfl⟩
      have hyb : y < 4294967296 := by rw [hy]; exact hoky.getD _
      rw [← hy] at hyk
      have hyk2 := H.out.2.2.1.cell hyk (by intro e; apply hoff; simp at e; simp [Value.ownBlock, e])
      clear hyk
      have HY : Hid (y = ys.getD k 0) := hy
      clear hy
      obtain ⟨hp2, hp3, hp4⟩ := mul_bd hm hyb
      go_wp2
      go_roundw
      case rel =>
        obtain ⟨q1, q2, q3, q4, q5⟩ := H.out
        have e0 : ((cn : Int) + ((m : Int) * (y : Int) + (x : Int))) = ((cn + (m * y + x) : Nat) : Int) := by simp
        rw [e0]
        refine ⟨k + 1, (cn + (m * y + x)) / 4294967296, zs.set k ((cn + (m * y + x)) % 4294967296), by omega, by go_num, by simp, by omega, by rw [set_len]; exact q1, q2.setAt k HL.out _ _ (by omega) (by omega), q3.setv _ _, set_drop q4, ?_⟩
        rw [set_val HL.out, val_take_succ xs, val_take_succ ys, ← HX.out, ← HY.out, Nat.pow_succ]
        exact mul_step q5 rfl
      case measure => simp [intOf] <;> omega
    · go_wp2
      go_returns
      obtain ⟨q1, q2, q3, q4, q5⟩ := H.out
      have hkl : k = xs.length := by omega
      subst hkl
      refine ⟨cn, zs, by congr 2, q1, q2, q3, by omega, ?_⟩
      rw [val_take_all (Nat.le_refl _), val_take_all (by omega), val_take_all (by omega)] at q5
      exact q5

end Go.Proofs.YtbkphjmhmfgpgaaDoor
