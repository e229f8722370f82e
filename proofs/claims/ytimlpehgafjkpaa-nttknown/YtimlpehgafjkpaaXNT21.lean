/- Rows that are the same, read alone; mathematics of products. -/
import Derived.Test.YtimlpehgafjkpaaXLNttTransforms
namespace Go.Proofs.Ytimlpehgafjkpaa
open Go.RowKit Go.Maps
set_option linter.unusedVariables false
set_option linter.unusedSimpArgs false

set_option maxHeartbeats 1000000 in
theorem same8q {w : World} {u v : Value} {xs ys : List Nat} (hu : Rd w u xs) (hv : Rd w v ys) (hs : xs.length ≤ 1000000000) (hs2 : ys.length ≤ 1000000000) :
    Calls Try.prog 16 #[u, v] w fun e w' => e = .returned (.bool (decide (xs = ys))) ∧ ∃ m, w' = w.drewN m := by
  obtain ⟨ao, cap, rfl, h1, h2, hok, hc⟩ := hu.parts
  obtain ⟨ap, cap2, rfl, h3, h4, hok2, hc2⟩ := hv.parts
  unfold maxLen at h2 h4
  by_cases hlen : xs.length = ys.length
  · go_enter Try.func16, Try.ntmps16
    go_wp2_with fail
    go_loopw [5] (fun i wr => ∃ k : Nat, k ≤ xs.length ∧ i = .int .i64 k ∧ (∃ nw, wr = w.drewN nw) ∧ xs.take k = ys.take k) (fun i _ => xs.length - (intOf i).toNat)
    case atStart => exact ⟨0, by omega, rfl, ⟨0, rfl⟩, rfl⟩
    case round =>
      obtain ⟨k, hk, rfl, ⟨nw, hnw⟩, hval⟩ := hrel
      have HV := hid hval
      have HF : Hid (Fwd w wr) := hid (by rw [hnw]; exact (Fwd.refl w).drewN _)
      have HN := hid hnw
      clear hval hnw
      by_cases hlt : k < xs.length
      · obtain ⟨bb, bo, rfl, hyk⟩ := hc k hlt
        obtain ⟨bb2, bo2, rfl, hyk2⟩ := hc2 k (by omega)
        have hyk := HF.out.cell hyk
        have hyk2 := HF.out.cell hyk2
        have hstep := hid (take_same HV.out hlt (by omega))
        have hbad : Hid (xs.getD k 0 ≠ ys.getD k 0 → xs ≠ ys) := hid (fun h e => h (by rw [e]))
        obtain ⟨x, hx⟩ : ∃ x, x = xs.getD k 0 := ⟨_, rfl⟩
        have hxb : x < 4294967296 := by rw [hx]; exact hok.getD _
        obtain ⟨y, hy⟩ : ∃ y, y = ys.getD k 0 := ⟨_, rfl⟩
        have hyb : y < 4294967296 := by rw [hy]; exact hok2.getD _
        rw [← hx] at hyk hstep hbad
        rw [← hy] at hyk2 hstep hbad
        clear hx hy
        by_cases hp : x = y
        · go_wp2_with fail
          go_quiet (fail)
          go_wp2_with fail
          go_roundw
          case rel => exact ⟨k + 1, by omega, by go_num, ⟨nw + nq, by rw [HN.out, World.drewN_drewN]⟩, hstep.out hp⟩
          case measure => simp [intOf]; omega
        · go_wp2_with fail
          go_quiet (fail)
          go_wp2_with fail
          go_ret
          rw [decide_eq_false (hbad.out hp)]
          exact ⟨rfl, nw + nq, by rw [HN.out, World.drewN_drewN]⟩
      · go_wp2_with fail
        go_ret
        have hkl : k = xs.length := by omega
        have := HV.out
        rw [hkl, List.take_length, hlen, List.take_length] at this
        rw [this, decide_eq_true rfl]
        exact ⟨rfl, nw, HN.out⟩
  · have hne : xs ≠ ys := fun e => hlen (by rw [e])
    rw [decide_eq_false hne]
    clear hne
    go_enter Try.func16, Try.ntmps16
    go_wp2_with fail
    go_ret
    exact ⟨rfl, 0, rfl⟩


theorem cvF_comm (f g : Nat → F) (la lb t : Nat) : cvF f la g lb t = cvF g lb f la t := by
  unfold cvF
  rw [sm_comm]
  refine sm_congr fun j _ => sm_congr fun i _ => ?_
  rw [Nat.add_comm i j]
  split
  · grind
  · rfl
theorem cvL_comm (xs ys : List Nat) : cvL xs ys = cvL ys xs := by
  unfold cvL
  rw [Nat.add_comm xs.length]
  refine List.map_congr_left fun t _ => ?_
  rw [cvF_comm]
theorem fF_cvL (xs ys : List Nat) (t : Nat) (h : t < xs.length + ys.length - 1) : fF (cvL xs ys) t = cvF (fF xs) xs.length (fF ys) ys.length t := by
  show cF ((cvL xs ys).getD t 0) = _
  rw [cvL_getD _ _ _ h, cF_v]
theorem allR_cvL (xs ys : List Nat) : allR (cvL xs ys) = true := by
  unfold allR
  rw [List.all_eq_true]
  intro x hx
  unfold cvL at hx
  obtain ⟨i, _, rfl⟩ := List.mem_map.1 hx
  exact decide_eq_true (vF_lt _)
theorem cvL_one (xs : List Nat) (hR : allR xs = true) : cvL xs [1] = xs := by
  have h1 : ([1] : List Nat).length = 1 := rfl
  refine list_ext (by rw [cvL_len, h1]; omega) fun t ht => ?_
  rw [cvL_len, h1] at ht
  have ht2 : t < xs.length := by omega
  rw [cvL_getD _ _ _ (by rw [h1]; omega)]
  refine (vF_of (allR_get hR t) ?_).symm
  unfold cvF
  rw [sm_single (j := t) ht2]
  · show fF xs t = 0 + (if t + 0 = t then fF xs t * fF [1] 0 else 0)
    rw [if_pos (by omega), show fF [1] 0 = 1 from rfl]
    grind
  · intro i _ hne
    show 0 + (if i + 0 = t then fF xs i * fF [1] 0 else 0) = 0
    rw [if_neg (by omega)]
    grind
/-- A product's transform, of lists. -/
theorem dft_cvL (xs ys : List Nat) (w : F) (n k : Nat) (h0 : 0 < xs.length) (h1 : 0 < ys.length) (h : xs.length + ys.length ≤ n + 1) : dft (fF (cvL xs ys)) w n k = dft (fF xs) w n k * dft (fF ys) w n k := by
  rw [dft_pad _ w n k (by rw [cvL_len]; omega), cvL_len, dft_pad xs w n k (by omega), dft_pad ys w n k (by omega), ← cv_dft _ _ w _ _ (xs.length + ys.length - 1) k (by omega)]
  exact dft_congr fun t ht => fF_cvL xs ys t ht
/-- Lists whose transforms are the same are the same. -/
theorem dft_inj {xs ys : List Nat} (m : Nat) (hm : m ≤ 10) (hl : xs.length = ys.length) (hn : xs.length ≤ 2 ^ m) (hx : allR xs = true) (hy : allR ys = true) (h : ∀ k, dft (fF xs) (rtF false (2 ^ m)) (2 ^ m) k = dft (fF ys) (rtF false (2 ^ m)) (2 ^ m) k) : xs = ys := by
  refine list_ext hl fun i hi => ?_
  have h1 := dft_undo (fF xs) m hm i (by omega)
  have h2 := dft_undo (fF ys) m hm i (by omega)
  rw [dft_congr (fun j _ => h j), h2] at h1
  exact cF_inj (allR_get hx i) (allR_get hy i) h1.symm
theorem cvL_assoc (xs ys zs : List Nat) (hx : 0 < xs.length) (hy : 0 < ys.length) (hz : 0 < zs.length) (hl : xs.length + ys.length + zs.length ≤ 1026) : cvL (cvL xs ys) zs = cvL xs (cvL ys zs) := by
  have l1 := cvL_len xs ys
  have l2 := cvL_len ys zs
  refine dft_inj 10 (by omega) (by rw [cvL_len, l1, cvL_len, l2]; omega) (by rw [cvL_len, l1]; omega) (allR_cvL _ _) (allR_cvL _ _) fun k => ?_
  rw [dft_cvL _ _ _ _ _ (by omega) hz (by omega), dft_cvL _ _ _ _ _ hx hy (by omega), dft_cvL _ _ _ _ _ hx (by omega) (by omega), dft_cvL _ _ _ _ _ hy hz (by omega)]
  grind
/-- The last number of a product. -/
theorem cvL_last (xs ys : List Nat) (hx : 0 < xs.length) (hy : 0 < ys.length) : (cvL xs ys).getD (xs.length + ys.length - 1 - 1) 0 = xs.getD (xs.length - 1) 0 * ys.getD (ys.length - 1) 0 % 998244353 := by
  rw [cvL_getD _ _ _ (by omega)]
  refine (vF_of (Nat.mod_lt _ (by omega)) ?_).symm
  rw [cF_mod, cF_mul]
  unfold cvF
  rw [sm_single (j := xs.length - 1) (by omega)]
  · rw [sm_single (j := ys.length - 1) (by omega)]
    · rw [if_pos (by omega)]; rfl
    · intro k hk hne
      rw [if_neg (by omega)]
  · intro i hi hne
    rw [sm_congr (g := fun _ => (0 : F)) (fun k hk => by rw [if_neg (by omega)]), sm_zero]
end Go.Proofs.Ytimlpehgafjkpaa
