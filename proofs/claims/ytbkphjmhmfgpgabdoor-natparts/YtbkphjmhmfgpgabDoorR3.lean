/- The second telling of natural numbers: Mul. -/
import Derived.Test.YtbkphjmhmfgpgabDoorR2
namespace Go.Proofs.YtbkphjmhmfgpgabDoor
open Go.RowKit
set_option linter.unusedVariables false

theorem Blk.drewN {w : World} {g : Nat} {L : List Nat} (h : Blk w g L) (n : Nat) : Blk (w.drewN n) g L := h
theorem Only.drewN {g : Nat} {a w : World} (h : Only g a w) (n : Nat) : Only g a (w.drewN n) := ⟨h.os, h.tape, h.output, h.size, h.block⟩

set_option maxHeartbeats 4000000 in
theorem refMul_any {w : World} {a b : Value} {m n : Nat} (ha : Num w a m) (hb : Num w b n) (hm : nl m ≤ 10000000) (hn : nl n ≤ 10000000) :
    Calls Tryd.prog 15 #[a, b] w fun e w' => ∃ v, e = .returned v ∧ Num w' v (m * n) ∧ Fwd w w' := by
  obtain ⟨ao, ca, rfl, hca, hcma, hcella⟩ := ha.parts
  obtain ⟨bo, cb, rfl, hcb, hcmb, hcellb⟩ := hb.parts
  unfold maxLen at hcma hcmb
  go_enter Tryd.func15, Tryd.ntmps15
  go_wp2_with (first | (at_make; refine law_make rfl _ _ rfl .i64 .i64 _ _ (nl m + nl n) rfl rfl (by omega) (by omega) (by omega) ?_))
  intro w1 hb1 hf1
  have HB1 := hid hb1
  clear hb1
  go_wp2
  go_loopw [6] (fun i wr => ∃ (k : Nat) (Z : List Nat), k ≤ nl m ∧ i = .int .i64 k ∧ Z.length = nl m + nl n ∧ Blk wr w.heap.size Z ∧ Only w.heap.size w1 wr ∧ val (Z.drop (k + nl n)) = 0 ∧ val Z = val ((lim m).take k) * n) (fun i _ => nl m - (intOf i).toNat)
  case atStart => exact ⟨0, List.replicate (nl m + nl n) 0, by omega, rfl, by simp, HB1.out, Only.refl _ _, by rw [List.drop_replicate, val_replicate], by rw [val_replicate]; simp [val]⟩
  case round =>
    obtain ⟨k, Z, hk, rfl, hZl, hBZ, hon, htop, hval⟩ := hrel
    have H := hid (And.intro hZl (And.intro hBZ (And.intro hon (And.intro htop hval))))
    clear hZl hBZ hon htop hval
    by_cases hlt : k < nl m
    · obtain ⟨ab, aof, rfl, hxk⟩ := hcella k hlt
      obtain ⟨x, hx⟩ : ∃ x, x = (lim m).getD k 0 := ⟨_, rfl⟩
      rw [← hx] at hxk
      have hxb : x < 4294967296 := by rw [hx]; exact (ok_lim m).getD _
      have HX := hid hx
      clear hx
      have hab : ab ≠ w.heap.size := by have := World.block_lt_of_cell? w _ hxk; simp at this; omega
      have HBS : Hid (Blk wr w.heap.size (Z.take k ++ ((Z.drop k).take (nl n) ++ Z.drop (k + nl n)))) := by
        show Blk _ _ _
        rw [← List.drop_drop, List.take_append_drop, List.take_append_drop]; exact H.out.2.1
      have HXL : Hid ((((Z.drop k).take (nl n)).length = nl n) ∧ (Z.take k).length = k) := by
        have := H.out.1
        refine ⟨?_, ?_⟩
        · rw [List.length_take, List.length_drop]; omega
        · rw [List.length_take]; omega
      go_wp2
      go_loopw [7, 8] (fun c i wi => ∃ (j cn : Nat) (zs : List Nat), j ≤ nl n ∧ i = .int .i64 j ∧ c = .int .u64 cn ∧ cn < 4294967296 ∧ zs.length = nl n ∧ Blk wi w.heap.size (Z.take k ++ (zs ++ Z.drop (k + nl n))) ∧ Only w.heap.size w1 wi ∧
          zs.drop j = ((Z.drop k).take (nl n)).drop j ∧ val (((Z.drop k).take (nl n)).take j) + x * val ((lim n).take j) = val (zs.take j) + cn * 4294967296 ^ j) (fun _ i _ => nl n - (intOf i).toNat)
      case atStart => exact ⟨0, 0, (Z.drop k).take (nl n), by omega, rfl, rfl, by omega, HXL.out.1, HBS.out, H.out.2.2.1, rfl, by simp [val]⟩
      case round =>
        obtain ⟨j, cn, zs, hj, rfl, rfl, hcn, hzl, hbz, hon2, hdr, hv⟩ := hrel
        have H2 := hid (And.intro hzl (And.intro hbz (And.intro hon2 (And.intro hdr hv))))
        clear hzl hbz hon2 hdr hv
        by_cases hjl : j < nl n
        · obtain ⟨bb, bof, rfl, hyk⟩ := hcellb j hjl
          obtain ⟨y, hy⟩ : ∃ y, y = (lim n).getD j 0 := ⟨_, rfl⟩
          rw [← hy] at hyk
          have hyb : y < 4294967296 := by rw [hy]; exact (ok_lim n).getD _
          have HY := hid hy
          clear hy
          have hxk1 := H2.out.2.2.1.cell (hf1.cell hxk) hab
          have hyk1 := H2.out.2.2.1.cell (hf1.cell hyk) (by have := World.block_lt_of_cell? w _ hyk; simp at this; simp; omega)
          have hlz : j < zs.length := by rw [H2.out.1]; exact hjl
          have hzk := H2.out.2.1.mid j hlz
          have hfz := H2.out.2.1.frozen (k + j)
          rw [HXL.out.2, getD_of_drop H2.out.2.2.2.1] at hzk
          obtain ⟨z, hz⟩ : ∃ z, z = ((Z.drop k).take (nl n)).getD j 0 := ⟨_, rfl⟩
          rw [← hz] at hzk
          have hzb : z < 4294967296 := by rw [hz]; exact ((H.out.2.1.2.drop k).take (nl n)).getD _
          have HZ := hid hz
          have HLZ := hid hlz
          clear hz hlz
          obtain ⟨hp2, hp3, hp4⟩ := mul_bd hxb hyb
          have hkj : (k : Int) + j < (nl m : Int) + nl n := by omega
          go_wp2_with fail
          go_quiet (fail)
          go_wp2
          go_roundw
          case rel =>
            obtain ⟨q1, q2, q3, q4, q5⟩ := H2.out
            have e0 : ((cn : Int) + (x : Int) * (y : Int) + (z : Int)) = ((cn + (x * y + z) : Nat) : Int) := by simp; omega
            rw [e0]
            have hb3 := (q2.drewN nq).setAt j HLZ.out (((cn + (x * y + z) : Nat) : Int) % 4294967296) ((cn + (x * y + z)) % 4294967296) (by omega) (by omega)
            rw [HXL.out.2] at hb3
            refine ⟨j + 1, (cn + (x * y + z)) / 4294967296, zs.set j ((cn + (x * y + z)) % 4294967296), by omega, by go_num, by simp, by omega, by rw [set_len]; exact q1, hb3, (q3.drewN nq).setv _ _, set_drop q4, ?_⟩
            rw [set_val HLZ.out, val_take_succ ((Z.drop k).take (nl n)), val_take_succ (lim n), ← HZ.out, ← HY.out, Nat.pow_succ]
            exact mul_step q5 rfl
          case measure => simp [intOf] <;> omega
        · have hjn : j = nl n := by omega
          have hcv : val ((Z.drop k).take (nl n)) + x * n = val zs + cn * 4294967296 ^ nl n := by
            obtain ⟨q1, q2, q3, q4, q5⟩ := H2.out
            rw [hjn, val_take_all (xs := lim n) (k := nl n) (Nat.le_refl _), val_lim, val_take_all (xs := zs) (by omega), val_take_all (xs := (Z.drop k).take (nl n)) (by rw [HXL.out.1]; exact Nat.le_refl _)] at q5
            exact q5
          have HR := hid (mul_round (M := nl m - k - 1) (by rw [H.out.1]; omega) H.out.2.2.2.1 H2.out.1 n hcv)
          have hpl : (Z.take k ++ zs).length = k + nl n := by rw [List.length_append, HXL.out.2, H2.out.1]
          have hbz2 : Blk wr w.heap.size ((Z.take k ++ zs) ++ (Z.drop (k + nl n) ++ [])) := by simpa using H2.out.2.1
          have hcell := hbz2.mid 0 (by rw [List.length_drop, H.out.1]; omega)
          have hfro := hbz2.frozen (k + nl n)
          rw [hpl] at hcell
          simp only [Nat.add_zero] at hcell
          have HBZ := hid hbz2
          have HPL := hid hpl
          have HCV := hid hcv
          have HJN := hid hjn
          clear hbz2 hpl hcv hjn
          go_wp2
          go_roundw
          case rel =>
            have hb3 := HBZ.out.setAt 0 (by rw [List.length_drop, H.out.1]; omega) (cn : Int) cn rfl hcn
            rw [HPL.out] at hb3
            simp only [Nat.add_zero, List.append_nil, List.append_assoc] at hb3
            obtain ⟨r1, r2, r3⟩ := HR.out
            refine ⟨k + 1, _, by omega, by go_num, r3.trans H.out.1, hb3, H2.out.2.2.1.setv _ _, r2, ?_⟩
            rw [r1, H.out.2.2.2.2, val_take_succ, ← HX.out]
            grind
          case measure => simp [intOf] <;> omega
    · have hz : Rd wr (.slice (some ⟨w.heap.size, 0, none⟩) (nl m + nl n) (nl m + nl n)) Z := by
        have h3 := Blk.rdAll H.out.2.1 (nl m + nl n) (by rw [H.out.1]; exact Nat.le_refl _) (le_maxLen (by omega))
        rwa [H.out.1] at h3
      go_wp2_with fail
      refine (refTrim_any hz (by rw [H.out.1]; omega)).mono ?_
      rintro e w2 ⟨v, rfl, hnv, hf2⟩
      have hvz : val Z = m * n := by
        rw [H.out.2.2.2.2, val_take_all (show (lim m).length ≤ k by exact (show nl m ≤ k by omega)), val_lim]
      rw [hvz] at hnv
      clear hvz
      go_wp2
      go_ret
      exact ⟨_, rfl, hnv, (hf1.wrote H.out.2.2.1 (Nat.le_refl _)).trans hf2⟩

end Go.Proofs.YtbkphjmhmfgpgabDoor
