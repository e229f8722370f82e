/- Contracts of nat's divideByLimb and Of. -/
import Derived.Test.YtbkphjmhmfgpgabDoorW5
namespace Go.Proofs.YtbkphjmhmfgpgabDoor
open Go.RowKit
set_option linter.unusedVariables false

/-- One round of a division by a limb. -/
theorem div_step {x V Q d r : Nat} (h : V = Q * d + r) : x + 4294967296 * V = ((r * 4294967296 + x) / d + 4294967296 * Q) * d + (r * 4294967296 + x) % d := by
  have := Nat.div_add_mod (r * 4294967296 + x) d
  generalize (r * 4294967296 + x) / d = q at *
  generalize (r * 4294967296 + x) % d = s at *
  grind

theorem val_drop_cons {xs : List Nat} {k : Nat} (hk : k < xs.length) : val (xs.drop k) = xs.getD k 0 + 4294967296 * val (xs.drop (k + 1)) := by
  rw [List.drop_eq_getElem_cons hk, val]; simp [hk]

set_option maxHeartbeats 1000000 in
theorem divideByLimb_any {w : World} {len off g cap d : Nat} {pre xs post : List Nat} (hb : Blk w g (pre ++ (xs ++ post))) (hlen : len = xs.length) (hofs : off = pre.length) (hcap : xs.length ≤ cap) (hcm : cap ≤ maxLen)
    (hs : xs.length ≤ 1000000000) (hd0 : 0 < d) (hd : d < 4294967296) :
    Calls Tryd.prog 47 #[.slice (some ⟨g, off, none⟩) len cap, .int .u32 d] w fun e w' =>
      ∃ (r : Nat) (zs : List Nat), e = .returned (.int .u32 r) ∧ zs.length = xs.length ∧ Blk w' g (pre ++ (zs ++ post)) ∧ Only g w w' ∧ r < d ∧ val xs = val zs * d + r := by
  subst hlen hofs
  unfold maxLen at hcm
  go_enter Tryd.func47, Tryd.ntmps47
  go_wp2
  go_loopw [5, 6] (fun r i wr => ∃ (k : Nat) (rn : Nat) (zs : List Nat), k ≤ xs.length ∧ i = .int .i64 ((k : Int) - 1) ∧ r = .int .u64 rn ∧ rn < d ∧ zs.length = xs.length ∧ Blk wr g (pre ++ (zs ++ post)) ∧ Only g w wr ∧ zs.take k = xs.take k ∧
      val (xs.drop k) = val (zs.drop k) * d + rn) (fun _ i _ => (intOf i + 1).toNat)
  case atStart => exact ⟨xs.length, 0, xs, by omega, rfl, rfl, by omega, rfl, hb, Only.refl _ _, rfl, by simp [val]⟩
  case round =>
    obtain ⟨k, rn, zs, hk, rfl, rfl, hr, hzl, hbz, hon, htk, hval⟩ := hrel
    have H : Hid (zs.length = xs.length ∧ Blk wr g (pre ++ (zs ++ post)) ∧ Only g w wr ∧ zs.take k = xs.take k ∧ val (xs.drop k) = val (zs.drop k) * d + rn) := ⟨hzl, hbz, hon, htk, hval⟩
    clear hzl hbz hon htk hval
    cases k with
    | zero =>
      go_wp2
      go_ret
      obtain ⟨q1, q2, q3, q4, q5⟩ := H.out
      exact ⟨rn, zs, by congr 2, q1, q2, q3, hr, by simpa using q5⟩
    | succ k =>
      have hlz : k < zs.length := by rw [H.out.1]; omega
      have hzk := H.out.2.1.mid k hlz
      have hfz := H.out.2.1.frozen (pre.length + k)
      have e0 : zs.getD k 0 = xs.getD k 0 := by
        have h1 := congrArg (fun l => l[k]?) H.out.2.2.2.1
        simp only [List.getElem?_take] at h1
        rw [if_pos (by omega), if_pos (by omega)] at h1
        rw [List.getD_eq_getElem?_getD, List.getD_eq_getElem?_getD, h1]
      rw [e0] at hzk
      clear e0
      obtain ⟨x, hx⟩ : ∃ x, x = xs.getD k 0 := ⟨_, rfl⟩
      have hxb : x < 4294967296 := by rw [hx]; exact hb.okMid.getD _
      rw [← hx] at hzk
      have HX : Hid (x = xs.getD k 0) := hx
      clear hx
      have HL : Hid (k < zs.length) := hlz
      clear hlz
      have hor0 := or_join rn x (by omega) hxb
      obtain ⟨y, hy⟩ : ∃ y, y = rn * 4294967296 + x := ⟨_, rfl⟩
      rw [← hy] at hor0
      have HY : Hid (y = rn * 4294967296 + x) := hy
      have hyb : y < d * 4294967296 := by
        have : (rn + 1) * 4294967296 ≤ d * 4294967296 := Nat.mul_le_mul_right _ (by omega)
        rw [hy]; omega
      have hyb2 : y < 18446744073709551616 := by omega
      have hqb : y / d < 4294967296 := by rw [Nat.div_lt_iff_lt_mul hd0, Nat.mul_comm]; exact hyb
      have hqi : (y : Int) / (d : Int) < 4294967296 := by rw [← Int.natCast_ediv]; omega
      have hqi0 : 0 ≤ (y : Int) / (d : Int) := by rw [← Int.natCast_ediv]; exact Int.natCast_nonneg _
      have HB2 : Hid (y < 18446744073709551616 ∧ y / d < 4294967296) := ⟨hyb2, hqb⟩
      have hyb3 : (y : Int) ≤ 18446744073709551615 := by omega
      clear hy hyb hqb hyb2
      go_wp2
      go_roundw
      case rel =>
        obtain ⟨q1, q2, q3, q4, q5⟩ := H.out
        refine ⟨k, y % d, zs.set k (y / d), by omega, rfl, by rw [Int.natCast_emod], Nat.mod_lt _ hd0, by rw [set_len]; exact q1, q2.setAt k HL.out _ _ (by rw [Int.natCast_ediv]) HB2.out.2, q3.setv _ _, ?_, ?_⟩
        · rw [List.take_set_of_le (Nat.le_refl _)]
          have h1 := congrArg (List.take k) q4
          simpa [List.take_take] using h1
        · have e1 := val_drop_cons (xs := xs) (k := k) (by rw [← q1]; exact HL.out)
          have e2 := val_drop_cons (xs := zs.set k (y / d)) (k := k) (by rw [set_len]; exact HL.out)
          rw [e1, e2, ← HX.out, drop_set_succ, q5]
          rw [show (zs.set k (y / d)).getD k 0 = y / d by simp [HL.out]]
          rw [HY.out]
          exact div_step rfl
      case measure => simp [intOf] <;> omega

set_option maxHeartbeats 1000000 in
theorem of_any (w : World) (n : Nat) (hn : n < 18446744073709551616) :
    Calls Tryd.prog 29 #[.int .u64 n] w fun e w' => ∃ v, e = .returned v ∧ Num w' v n ∧ Fwd w w' := by
  have hn2 : (n : Int) ≤ 18446744073709551615 := by omega
  have HN := hid hn
  clear hn
  go_enter Tryd.func29, Tryd.ntmps29
  have hB : Blk (w.alloc (.cells #[.int .u32 ((n : Int) % 4294967296), .int .u32 ((n : Int) / 4294967296)] 33)) w.heap.size [n % 4294967296, n / 4294967296] :=
    Blk.lit w _ (Ok.cons (by omega) (Ok.cons (by have := HN.out; omega) Ok.nil)) _ (by simp [cellsOf])
  have hR := hid (Blk.rdAll hB 2 (by simp) (by simp [maxLen]))
  clear hB
  go_wp2_with fail
  refine (trim_any hR.out).mono ?_
  rintro e w1 ⟨v, rfl, hnv, _, rfl⟩
  have e : val [n % 4294967296, n / 4294967296] = n := by simp only [val]; omega
  rw [e] at hnv
  clear e
  go_wp2
  go_ret
  exact ⟨_, rfl, hnv, (Fwd.refl _).alloc _⟩

end Go.Proofs.YtbkphjmhmfgpgabDoor
