/- The walk of NttEnds. -/
import Derived.Test.YtimlpehgafjkpabXNT21
namespace Go.Proofs.Ytimlpehgafjkpab
open Go.RowKit Go.Maps
set_option linter.unusedVariables false
set_option linter.unusedSimpArgs false

/-- The first sum is the sum of all. -/
theorem dft_first (l : Nat → F) (w : F) (n : Nat) : dft l w n 0 = sm l n := by
  unfold dft
  exact sm_congr fun i _ => by rw [Nat.mul_zero, rpow_zero]; grind
/-- Of a one and noughts all sums are one. -/
theorem dft_delta (l : Nat → F) (w : F) (n k : Nat) (h0 : 0 < n) (h1 : l 0 = 1) (h2 : ∀ i, 0 < i → l i = 0) : dft l w n k = 1 := by
  unfold dft
  rw [sm_single (j := 0) h0 (fun i _ hne => by rw [h2 i (by omega)]; grind), h1, Nat.zero_mul, rpow_zero]
  grind
def oneL (n : Nat) : List Nat := (List.replicate n 0).set 0 1
theorem oneL_len (n : Nat) : (oneL n).length = n := by unfold oneL; rw [List.length_set, List.length_replicate]
theorem oneL_getD (n i : Nat) (h0 : 0 < n) : (oneL n).getD i 0 = if i = 0 then 1 else 0 := by
  unfold oneL
  by_cases h : i = 0
  · subst h
    rw [if_pos rfl, getD_set_eq _ _ _ (by rw [List.length_replicate]; exact h0)]
  · rw [if_neg h, getD_set_ne _ _ _ _ (fun e => h e.symm)]
    simp [List.getD_eq_getElem?_getD, List.getElem?_replicate]
    split <;> rfl
theorem allR_oneL (n : Nat) : allR (oneL n) = true := by
  unfold allR oneL
  rw [List.all_eq_true]
  intro x hx
  rcases List.mem_or_eq_of_mem_set hx with h | h
  · rw [List.mem_replicate] at h
    exact decide_eq_true (by omega)
  · exact decide_eq_true (by omega)
theorem trF_oneL (n k : Nat) (hk : k < n) : (trF false (oneL n)).getD k 0 = 1 := by
  rw [trF_getD _ _ _ (by rw [oneL_len]; exact hk), shF_false, oneL_len, dft_delta _ _ _ _ (by omega)]
  · rw [show (1 : F) * 1 = 1 by grind]; rfl
  · show cF ((oneL n).getD 0 0) = 1
    rw [oneL_getD _ _ (by omega), if_pos rfl]; rfl
  · intro i hi
    show cF ((oneL n).getD i 0) = 0
    rw [oneL_getD _ _ (by omega), if_neg (by omega)]; rfl

set_option maxHeartbeats 8000000 in
set_option maxRecDepth 20000 in
theorem nttEnds_walk {w : World} {l : Value} {k : Int} {xl : List Nat} (hl : Arg w l xl) (hk : (Lit.int .i64 k).wf = true) :
    Calls Try.prog 4 #[l, .int .i64 k] w fun e w' => e = .returned (.bool true) ∧ Below w.heap.size w w' := by
  obtain ⟨k1, k2⟩ := bounds_i64 hk
  have HL := hid hl
  have hm8 : (k % ((8 : Nat) : Int)).toNat < 8 := by omega
  have cM : Hid (∀ w', Calls Try.prog 6 #[.int .i64 k, .int .i64 8] w' fun e w'' => e = .returned (.int .i64 ((k % ((8 : Nat) : Int)).toNat : Nat)) ∧ w'' = w') := hid fun w' => within8 w' k 8 (by omega) (by omega) k1 k2
  obtain ⟨m, hm⟩ : ∃ m, m = (k % ((8 : Nat) : Int)).toNat := ⟨_, rfl⟩
  rw [← hm] at hm8 cM
  have hp2 : 2 ^ m ≤ 2 ^ 7 := Nat.pow_le_pow_right (by omega) (by omega)
  have hp0 := Nat.two_pow_pos m
  have HW := hid (pow2_wrap (m := m) (by omega))
  have hpw := isPow_pow (m := m) (by omega)
  clear hm hk hl
  obtain ⟨n, hn⟩ : ∃ n, n = 2 ^ m := ⟨_, rfl⟩
  rw [← hn] at hp2 hp0 HW hpw
  clear hn
  obtain ⟨V, hV⟩ : ∃ V, V = rowL xl n := ⟨_, rfl⟩
  obtain ⟨T, hT⟩ : ∃ T, T = trF false V := ⟨_, rfl⟩
  obtain ⟨U, hU⟩ : ∃ U, U = trF false (oneL n) := ⟨_, rfl⟩
  have lV : V.length = n := by rw [hV, rowL_len]
  have rV : allR V = true := by rw [hV]; exact rowL_rem _ _ (by omega)
  have aT : trA false V = (T, 0) := by rw [trA_good (by rw [lV]; exact hpw) rV, hT]
  have lT : T.length = n := by rw [hT, trF_len, lV]
  have aU : trA false (oneL n) = (U, 0) := by rw [trA_good (by rw [oneL_len]; exact hpw) (allR_oneL n), hU]
  have lU : U.length = n := by rw [hU, trF_len, oneL_len]
  have cRow : Hid (∀ {w' : World}, Arg w' l xl → Calls Try.prog 7 #[l, .int .i64 (n : Int)] w' fun e w'' => ∃ u, e = .returned u ∧ Rd w'' u V ∧ Fwd w' w'') := hid fun h => by rw [hV]; exact Row_any _ h (by omega)
  have cT : Hid (∀ {w' : World} {v : Value}, Rd w' v V → Calls Try.prog 8 #[v, .bool false] w' fun e w'' => ∃ u, e = .returned (.tuple #[u, .int .i64 0]) ∧ Rd w'' u T ∧ Fwd w' w'') := hid fun h => by have := Transform_any false h; rw [aT] at this; exact this
  have cU : Hid (∀ {w' : World} {v : Value}, Rd w' v (oneL n) → Calls Try.prog 8 #[v, .bool false] w' fun e w'' => ∃ u, e = .returned (.tuple #[u, .int .i64 0]) ∧ Rd w'' u U ∧ Fwd w' w'') := hid fun h => by have := Transform_any false h; rw [aU] at this; exact this
  have hones : Hid (∀ i, i < n → U.getD i 0 = 1) := hid fun i hi => by rw [hU]; exact trF_oneL n i hi
  obtain ⟨S, hS⟩ : ∃ S, S = T.getD 0 0 := ⟨_, rfl⟩
  have hsum : Hid (∀ s, s < 998244353 → cF s = sm (fF V) n → s = S) := hid fun s h1 h2 => by
    rw [hS, hT, trF_getD _ _ _ (by rw [lV]; exact hp0), dft_first, shF_false, lV]
    refine vF_of h1 ?_
    rw [h2]; grind
  have RV := hid (allR_get rV)
  have LV := hid lV
  have LT := hid lT
  have LU := hid lU
  have HS := hid hS
  clear hV hT hU lV rV aT lT aU lU hpw hS
  go_enter Try.func4, Try.ntmps4
  go_wp2_with fail
  refine (known8_any _).mono ?_
  rintro e w1 ⟨rfl, hf⟩
  have HF := hid hf
  replace HL := hid (HL.out.fwd8 hf)
  clear hf
  go_wp2_with fail
  refine (cM.out _).mono ?_
  rintro e w2 ⟨rfl, hww⟩
  rw [hww]
  clear hww w2
  go_wp2_with fail
  rw [HW.out]
  refine (cRow.out HL.out).mono ?_
  rintro e w3 ⟨u0, rfl, hn, hf⟩
  replace HL := hid (HL.out.fwd8 hf)
  replace HF := hid (HF.out.trans hf)
  have HV := hid hn
  clear hn
  clear hf
  obtain ⟨vo, vc, rfl, _, _, _⟩ := HV.out.parts
  rw [LV.out] at HV ⊢
  go_wp2_with fail
  go_loopw [7, 8] (fun sv iv wr => ∃ (i s : Nat), i ≤ n ∧ iv = .int .i64 i ∧ sv = .int .u64 s ∧ s < 998244353 ∧ cF s = sm (fF V) i ∧ wr = w3) (fun _ iv _ => n - (intOf iv).toNat)
  case atStart => exact ⟨0, 0, by omega, rfl, rfl, by omega, rfl, rfl⟩
  case round =>
    obtain ⟨i, s, hi, rfl, rfl, hs, hcs, rfl⟩ := hrel
    have HCS := hid hcs
    clear hcs
    by_cases hin : i < n
    · obtain ⟨_, _, ev, _, _, _, hc⟩ := HV.out.parts
      rw [LV.out] at hc ev
      cases ev
      obtain ⟨b, off, rfl, hcell⟩ := hc i hin
      have hxl := RV.out i
      obtain ⟨x, hx⟩ : ∃ x, x = V.getD i 0 := ⟨_, rfl⟩
      rw [← hx] at hcell hxl
      have HX := hid hx
      clear hc hx
      go_wp2_with fail
      go_roundw
      case rel =>
        refine ⟨i + 1, (s + x) % 998244353, by omega, by go_num, by go_num, Nat.mod_lt _ (by omega), ?_, trivial⟩
        rw [cF_mod, cF_add, HCS.out, HX.out]
        rfl
      case measure => simp [intOf]; omega
    · obtain rfl : i = n := by omega
      have hsS := hsum.out s hs HCS.out
      subst hsS
      clear HCS
      go_wp2_with fail
      refine (cT.out HV.out).mono ?_
      rintro e w4 ⟨u1, rfl, hn, hf⟩
      replace HV := hid (HV.out.fwd hf)
      replace HF := hid (HF.out.trans hf)
      have HT := hid hn
      clear hn
      clear hf
      obtain ⟨to, tc, rfl, _, _, _⟩ := HT.out.parts
      rw [LT.out] at HT ⊢
      go_wp2_with (first | (at_make; refine law_make rfl _ _ rfl .i64 .i64 _ _ i rfl rfl (by omega) (by omega) (by omega) ?_))
      intro w7 hb7 hf7
      obtain ⟨g, hg⟩ : ∃ g, g = w4.heap.size := ⟨_, rfl⟩
      have hge : w4.heap.size ≤ g := by omega
      rw [← hg] at hb7 ⊢
      clear hg
      have hblk := hb7.set 0 1 (by omega)
      have hB8 : Hid (Blk (w7.setCell ⟨g, 0, none⟩ (.int .u32 1)) g (oneL i)) := hid hblk
      have c0 := hb7.cell 0 (by rw [List.length_replicate]; exact hp0)
      have f0 := hb7.frozen 0
      have hO8 := Only.set g w7 0 (.int .u32 1)
      have hF8 : Fwd w4 (w7.setCell ⟨g, 0, none⟩ (.int .u32 1)) := hf7.wrote hO8 hge
      replace HT := hid (HT.out.fwd hF8)
      replace HF := hid (HF.out.trans hF8)
      clear hb7 hf7 hblk hO8 hF8 HV
      have hlen1 : Hid ((oneL i).length = i) := hid (oneL_len i)
      go_wp2_with fail
      have hrd := hB8.out.rdAll i (by rw [hlen1.out]; exact Nat.le_refl _) (by unfold maxLen; omega)
      rw [hlen1.out] at hrd
      refine (cU.out hrd).mono ?_
      rintro e w9 ⟨u2, rfl, hn, hf⟩
      replace HT := hid (HT.out.fwd hf)
      replace HF := hid (HF.out.trans hf)
      have HU := hid hn
      clear hn hf hrd hB8 c0 f0
      obtain ⟨_, _, e1, _, _, _, hc1⟩ := HT.out.parts
      rw [LT.out] at hc1 e1
      cases e1
      obtain ⟨tb, tf, rfl, y1⟩ := hc1 0 hp0
      rw [← HS.out, Nat.add_zero] at y1
      obtain ⟨uo, uc, rfl, _, _, _⟩ := HU.out.parts
      rw [LU.out] at HU ⊢
      clear hc1
      go_wp2_with fail
      go_loopw [14] (fun jv wr => ∃ j : Nat, j ≤ i ∧ jv = .int .i64 j ∧ wr = w9) (fun jv _ => i - (intOf jv).toNat)
      case atStart => exact ⟨0, by omega, rfl, rfl⟩
      case round =>
        obtain ⟨j, hj, rfl, rfl⟩ := hrel
        by_cases hjn : j < i
        · obtain ⟨_, _, e2, _, _, _, hc2⟩ := HU.out.parts
          rw [LU.out] at hc2 e2
          cases e2
          obtain ⟨ub, uf, rfl, y2⟩ := hc2 j hjn
          rw [hones.out j hjn] at y2
          clear hc2
          go_wp2_with fail
          go_roundw
          case rel => exact ⟨j + 1, by omega, by go_num, trivial⟩
          case measure => simp [intOf]; omega
        · go_wp2_with fail
          go_ret
          exact ⟨rfl, HF.out⟩
end Go.Proofs.Ytimlpehgafjkpab
