/- Contract of nat's Mul. -/
import Derived.Test.YtbkphjmhmfgpgaaDoorW4
namespace Go.Proofs.YtbkphjmhmfgpgaaDoor
open Go.RowKit
set_option linter.unusedVariables false

/-- One round of the product: a limb times b is laid upon what is there. -/
theorem mul_round {M N k limb c : Nat} {Z zs : List Nat} (hZl : Z.length = k + N + 1 + M) (htop : val (Z.drop (k + N)) = 0) (hzl : zs.length = N) (n : Nat)
    (h : val ((Z.drop k).take N) + limb * n = val zs + c * 4294967296 ^ N) :
    val (Z.take k ++ (zs ++ (Z.drop (k + N)).set 0 c)) = val Z + 4294967296 ^ k * (limb * n) ∧ val ((Z.take k ++ (zs ++ (Z.drop (k + N)).set 0 c)).drop (k + 1 + N)) = 0 ∧ (Z.take k ++ (zs ++ (Z.drop (k + N)).set 0 c)).length = Z.length := by
  have e1 : Z.drop (k + N) = (Z.drop (k + N)).getD 0 0 :: Z.drop (k + N + 1) := by
    have hlt : k + N < Z.length := by omega
    rw [List.drop_eq_getElem_cons hlt]; simp [hlt]
  generalize hr : Z.drop (k + N + 1) = rest at *
  generalize hq : (Z.drop (k + N)).getD 0 0 = q at *
  have e2 : val (q :: rest) = 0 := by rw [← e1]; exact htop
  have e3 : val rest = 0 := by simp only [val] at e2; omega
  have e4 : (Z.drop (k + N)).set 0 c = c :: rest := by rw [e1]; rfl
  have hpl : (Z.take k).length = k := by rw [List.length_take]; omega
  refine ⟨?_, ?_, ?_⟩
  · rw [e4, val_append, val_append, hpl, hzl]
    have v1 := val_split Z k (by omega)
    have v2 := val_split (Z.drop k) N (by rw [List.length_drop]; omega)
    rw [List.drop_drop, htop] at v2
    rw [v1, v2, val, e3]
    have : 4294967296 ^ k * (val ((Z.drop k).take N) + limb * n) = 4294967296 ^ k * (val zs + c * 4294967296 ^ N) := by rw [h]
    grind
  · rw [e4, show Z.take k ++ (zs ++ (c :: rest)) = (Z.take k ++ (zs ++ [c])) ++ rest by simp]
    rw [List.drop_append, List.drop_eq_nil_of_le (by simp [hzl]; omega)]
    have : (Z.take k ++ (zs ++ [c])).length = k + 1 + N := by simp [hzl]; omega
    rw [this]; simpa using e3
  · simp [hzl]; omega

set_option maxHeartbeats 1000000 in
theorem mul_any {w : World} {a b : Value} {m n : Nat} (ha : Num w a m) (hb : Num w b n) (hm : nl m ≤ 100000000) (hn : nl n ≤ 100000000) :
    Calls Tryd.prog 26 #[a, b] w fun e w' => ∃ v, e = .returned v ∧ Num w' v (m * n) ∧ Fwd w w' := by
  go_enter Tryd.func26, Tryd.ntmps26
  go_wp2_with fail
  refine (trim_num ha).mono ?_
  rintro e w1 ⟨va, rfl, hna, hoa, rfl⟩
  go_wp2_with fail
  refine (trim_num hb).mono ?_
  rintro e w1 ⟨vb, rfl, hnb, hob, rfl⟩
  clear ha hb hoa hob
  obtain ⟨ao, ca, rfl, hca, hcma, hcella⟩ := hna.parts
  obtain ⟨bo, cb, rfl, hcb, hcmb, hcellb⟩ := hnb.parts
  unfold maxLen at hcma hcmb
  clear hcellb
  go_wp2_with (first | (at_make; refine law_make rfl _ _ rfl .i64 .i64 _ _ (nl m + nl n) rfl rfl (by omega) (by omega) (by omega) ?_))
  intro w1 hb1 hf1
  have HB1 : Hid (Blk w1 w.heap.size (List.replicate (nl m + nl n) 0)) := hb1
  clear hb1
  have ho := hnb.off (Nat.le_refl w.heap.size)
  go_wp2
  go_loopw [21] (fun i wr => ∃ (k : Nat) (Z : List Nat), k ≤ nl m ∧ i = .int .i64 k ∧ Z.length = nl m + nl n ∧ Blk wr w.heap.size Z ∧ Only w.heap.size w1 wr ∧ val (Z.drop (k + nl n)) = 0 ∧ val Z = val ((lim m).take k) * n) (fun i _ => nl m - (intOf i).toNat)
  case atStart => exact ⟨0, List.replicate (nl m + nl n) 0, by omega, rfl, by simp, HB1.out, Only.refl _ _, by rw [List.drop_replicate, val_replicate], by rw [val_replicate]; simp [val]⟩
  case round =>
    obtain ⟨k, Z, hk, rfl, hZl, hBZ, hon, htop, hval⟩ := hrel
    have H : Hid (Z.length = nl m + nl n ∧ Blk wr w.heap.size Z ∧ Only w.heap.size w1 wr ∧ val (Z.drop (k + nl n)) = 0 ∧ val Z = val ((lim m).take k) * n) := ⟨hZl, hBZ, hon, htop, hval⟩
    clear hZl hBZ hon htop hval
    by_cases hlt : k < nl m
    · obtain ⟨ab, aof, rfl, hxk⟩ := hcella k hlt
      obtain ⟨x, hx⟩ : ∃ x, x = (lim m).getD k 0 := ⟨_, rfl⟩
      rw [← hx] at hxk
      have hxb : x < 4294967296 := by rw [hx]; exact (ok_lim m).getD _
      have HX : Hid (x = (lim m).getD k 0) := hx
      clear hx
      have hxk1 := H.out.2.2.1.cell (hf1.cell hxk) (by have := World.block_lt_of_cell? w _ hxk; simp at this; simp; omega)
      by_cases hn0 : n = 0
      · have hnl : nl n ≤ 0 := by rw [hn0, nl_zero]; omega
        have HN0 : Hid (n = 0) := hn0
        clear hn0 hxk
        have hr := ((Num.fwd hnb hf1).only H.out.2.2.1 ho)
        have HNL : Hid (nl n = 0) := by show _ = _; omega
        have HBS : Hid (Blk wr w.heap.size ([] ++ ([] ++ Z))) := hid (by simpa using H.out.2.1)
        have HRL : Hid (Rd wr (.slice bo (nl n) cb) []) := by
          have h5 := HN0.out
          have : lim n = [] := by rw [h5, lim_zero]
          unfold Num at hr; rw [this] at hr; exact hr
        clear hr
        go_wp2_with fail
        refine (addTimes_any HBS.out (by rw [HNL.out]; rfl) rfl (by simp) (le_maxLen (by omega)) HRL.out ho rfl (by simp) hxb).mono ?_
        rintro e w2 ⟨c, zs, rfl, hzl, hbz, hon2, hcb, hcv⟩
        have hzn : zs = [] := List.eq_nil_of_length_eq_zero hzl
        have hc0 : c = 0 := by subst hzn; simpa [val] using hcv.symm
        have hbz2 : Blk w2 w.heap.size ((Z.take k) ++ (Z.drop k ++ [])) := by subst hzn; simpa using hbz
        have hpl : (Z.take k).length = k := by rw [List.length_take, H.out.1]; omega
        have hcell := hbz2.mid 0 (by rw [List.length_drop, H.out.1]; omega)
        have hfro := hbz2.frozen k
        rw [hpl] at hcell
        simp only [Nat.add_zero] at hcell
        have ekn : k + nl n = k := by rw [HNL.out]; rfl
        rw [← ekn] at hcell hfro
        have HBZ := hid hbz2
        have HPL := hid hpl
        have HC := hid hc0
        have HCV := hid hcv
        have HEK := hid ekn
        clear hbz hbz2 hpl hcv hzl hzn hc0 ekn
        go_wp2
        go_roundw
        case rel =>
          have hb3 := HBZ.out.setAt 0 (by rw [List.length_drop, H.out.1]; omega) (c : Int) c rfl hcb
          rw [HPL.out] at hb3
          simp only [Nat.add_zero, List.append_nil] at hb3
          have r3 : (Z.take k ++ (Z.drop k).set 0 c).length = Z.length := by simp; omega
          have hv : val Z = 0 := by rw [H.out.2.2.2.2, HN0.out]; simp
          have hall : ∀ x ∈ Z.take k ++ (Z.drop k).set 0 c, x = 0 := by
            have h0 := (val_zero_iff Z).1 hv
            intro x hx
            rcases List.mem_append.1 hx with hx | hx
            · exact h0 x (List.mem_of_mem_take hx)
            · rcases List.mem_or_eq_of_mem_set hx with hx | hx
              · exact h0 x (List.mem_of_mem_drop hx)
              · rw [hx]; exact HC.out
          refine ⟨k + 1, _, by omega, by go_num, r3.trans H.out.1, (by rw [HEK.out]; exact hb3), (H.out.2.2.1.trans hon2).setv _ _, ?_, ?_⟩
          · exact (val_zero_iff _).2 fun x hx => hall x (List.mem_of_mem_drop hx)
          · rw [(val_zero_iff _).2 hall, HN0.out]; simp
        case measure => simp [intOf] <;> omega
      · have hnl : 0 < nl n := by rw [nl_pos hn0]; omega
        have HN0 : Hid (n ≠ 0) := hn0
        clear hn0 hxk
        have hr := ((Num.fwd hnb hf1).only H.out.2.2.1 ho)
        have HBS : Hid (Blk wr w.heap.size (Z.take k ++ ((Z.drop k).take (nl n) ++ Z.drop (k + nl n)))) := by
          show Blk _ _ _
          rw [← List.drop_drop, List.take_append_drop, List.take_append_drop]; exact H.out.2.1
        have HXL : Hid ((((Z.drop k).take (nl n)).length = nl n) ∧ (Z.take k).length = k) := by
          have := H.out.1
          refine ⟨?_, ?_⟩
          · rw [List.length_take, List.length_drop]; omega
          · rw [List.length_take]; omega
        go_wp2_with fail
        refine (addTimes_any HBS.out (by have := HXL.out.1; omega) HXL.out.2.symm (by rw [HXL.out.1]; exact Nat.le_of_eq (by omega)) (le_maxLen (by omega)) hr ho HXL.out.1.symm (by rw [HXL.out.1]; omega) hxb).mono ?_
        rintro e w2 ⟨c, zs, rfl, hzl, hbz, hon2, hcb, hcv⟩
        rw [HXL.out.1] at hzl hcv
        rw [val_lim] at hcv
        have HR := hid <| mul_round (M := nl m - k - 1) (by rw [H.out.1]; omega) H.out.2.2.2.1 hzl n hcv
        have hpl : (Z.take k ++ zs).length = k + nl n := by rw [List.length_append, HXL.out.2, hzl]
        have hbz2 : Blk w2 w.heap.size ((Z.take k ++ zs) ++ (Z.drop (k + nl n) ++ [])) := by simpa using hbz
        have hcell := hbz2.mid 0 (by rw [List.length_drop, H.out.1]; omega)
        have hfro := hbz2.frozen (k + nl n)
        rw [hpl] at hcell
        simp only [Nat.add_zero] at hcell
        have HBZ := hid <| hbz2
        have HPL := hid <| hpl
        have HCV := hid <| hcv
        clear hbz hbz2 hpl hcv hzl
        go_wp2
        go_roundw
        case rel =>
          have hb3 := HBZ.out.setAt 0 (by rw [List.length_drop, H.out.1]; omega) (c : Int) c rfl hcb
          rw [HPL.out] at hb3
          simp only [Nat.add_zero, List.append_nil, List.append_assoc] at hb3
          obtain ⟨r1, r2, r3⟩ := HR.out
          refine ⟨k + 1, _, by omega, by go_num, r3.trans H.out.1, hb3, (H.out.2.2.1.trans hon2).setv _ _, r2, ?_⟩
          rw [r1, H.out.2.2.2.2, val_take_succ, ← HX.out]
          grind
        case measure => simp [intOf] <;> omega
    · have hz : Rd wr (.slice (some ⟨w.heap.size, 0, none⟩) (nl m + nl n) (nl m + nl n)) Z := by
        have h3 := Blk.rdAll H.out.2.1 (nl m + nl n) (by rw [H.out.1]; exact Nat.le_refl _) (le_maxLen (by omega))
        rwa [H.out.1] at h3
      go_wp2_with fail
      refine (trim_any hz).mono ?_
      rintro e w2 ⟨v, rfl, hnv, _, rfl⟩
      have hvz : val Z = m * n := by
        rw [H.out.2.2.2.2, val_take_all (show (lim m).length ≤ k by exact (show nl m ≤ k by omega)), val_lim]
      rw [hvz] at hnv
      go_wp2
      go_ret
      exact ⟨_, rfl, hnv, hf1.wrote H.out.2.2.1 (Nat.le_refl _)⟩

end Go.Proofs.YtbkphjmhmfgpgaaDoor
