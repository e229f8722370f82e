/- Contracts: Transform in full; the product of points. -/
import Derived.Test.YtimlpehgafjkpaaXNT14
namespace Go.Proofs.Ytimlpehgafjkpaa
open Go.RowKit Go.Maps
set_option linter.unusedVariables false
set_option linter.unusedSimpArgs false

set_option maxHeartbeats 1000000 in
theorem Transform8_bad {w : World} {v : Value} {xs : List Nat} (back : Bool) (hv : Rd w v xs) (hP : isPow xs.length = true) (hR : allR xs = false) :
    Calls Try.prog 15 #[v, .bool back] w fun e w' => e = .returned (.tuple #[.slice none 0 0, .int .i64 1]) ∧ Fwd w w' := by
  obtain ⟨h0, h1⟩ := isPow_pos hP
  have hsm := hid (small8_any hv (by omega))
  obtain ⟨ao, cap, rfl, hcl, hcm, hok, hcell⟩ := hv.parts
  unfold maxLen at hcm
  have hbt := hid (pow_bits h0 h1)
  obtain ⟨n, hn⟩ : ∃ n, n = xs.length := ⟨_, rfl⟩
  rw [← hn] at h0 h1 hcl hbt hsm ⊢
  rw [hR] at hsm
  have i0 : ((n : Int) == 0) = false := beq_eq_false_iff_ne.2 (by omega)
  have i1 : decide (1024 < (n : Int)) = false := decide_eq_false (by omega)
  have i2 : (bits .and .i64 (n : Int) ((n : Int) - 1) != 0) = false := by unfold bne; rw [hbt.out]; rw [hn, hP]; rfl
  clear hn hbt hv hcell
  go_enter Try.func15, Try.ntmps15
  go_wp2_with fail
  refine hsm.out.mono ?_
  rintro e w1 ⟨rfl, hww⟩
  rw [hww]
  clear hww w1
  go_wp2_with fail
  go_returns
  exact ⟨rfl, Fwd.refl w⟩

theorem Transform8_any {w : World} {v : Value} {xs : List Nat} (back : Bool) (hv : Rd w v xs) :
    Calls Try.prog 15 #[v, .bool back] w fun e w' => ∃ u, e = .returned (.tuple #[u, .int .i64 (((trA back xs).2 : Nat) : Int)]) ∧ Rd w' u (trA back xs).1 ∧ Fwd w w' := by
  unfold trA
  by_cases hP : isPow xs.length = true
  · rw [if_pos hP]
    by_cases hR : allR xs = true
    · rw [if_pos hR]
      exact Transform8_yes back hv hP hR
    · rw [if_neg hR]
      refine (Transform8_bad back hv hP (by simpa using hR)).mono ?_
      rintro e w1 ⟨rfl, hf⟩
      exact ⟨_, rfl, Rd.nil _, hf⟩
  · rw [if_neg hP]
    refine (Transform8_no back hv hP).mono ?_
    rintro e w1 ⟨rfl, hf⟩
    exact ⟨_, rfl, Rd.nil _, hf⟩

/-- How far the products are. -/
def PInv (n : Nat) (f h : Nat → F) (k : Nat) (M : List Nat) : Prop := ∀ i, i < n → M.getD i 0 < 998244353 ∧ fF M i = if i < k then f i * h i else f i
theorem PInv.step {n k bv : Nat} {f h : Nat → F} {M : List Nat} (hI : PInv n f h k M) (hl : M.length = 1024) (hn : n ≤ 1024) (hk : k < n) (hs : cF bv = h k) : PInv n f h (k + 1) (M.set k (M.getD k 0 * bv % 998244353)) := by
  intro i hi
  by_cases e : i = k
  · subst e
    have hg := getD_set_eq M i (M.getD i 0 * bv % 998244353) (by rw [hl]; omega)
    refine ⟨by rw [hg]; exact Nat.mod_lt _ (by omega), ?_⟩
    rw [if_pos (by omega)]
    show cF (List.getD _ i 0) = _
    rw [hg, cF_mod, cF_mul, hs]
    have := (hI i hi).2
    rw [if_neg (by omega)] at this
    rw [← this]; rfl
  · have hg := getD_set_ne M k i (M.getD k 0 * bv % 998244353) (fun h => e h.symm)
    obtain ⟨h1, h2⟩ := hI i hi
    refine ⟨by rw [hg]; exact h1, ?_⟩
    show cF (List.getD _ i 0) = _
    rw [hg]
    show fF M i = _
    rw [h2]
    by_cases hc : i < k
    · rw [if_pos hc, if_pos (by omega)]
    · rw [if_neg hc, if_neg (by omega)]

theorem shF_false (n : Nat) : shF false n = 1 := by unfold shF; rw [if_neg (by simp)]

set_option maxHeartbeats 4000000 in
set_option maxRecDepth 20000 in
theorem product_any {w : World} {A B : List Nat} (m : Nat) (hm : m ≤ 10) (la : A.length = 1024) (lb : B.length = 1024) (oa : Ok A) (ob : Ok B) (ra : ∀ i, i < 2 ^ m → A.getD i 0 < 998244353) (rb : ∀ i, i < 2 ^ m → B.getD i 0 < 998244353) :
    Calls Try.prog 28 #[ptsV A, ptsV B, .int .i64 ((2 ^ m : Nat) : Int)] w fun e w' => ∃ C, e = .returned (ptsV C) ∧ C.length = 1024 ∧ Ok C ∧ Fwd w w' ∧
      ∀ i, i < 2 ^ m → C.getD i 0 = vF (dft (fun j => dft (fF A) (rtF false (2 ^ m)) (2 ^ m) j * dft (fF B) (rtF false (2 ^ m)) (2 ^ m) j) (rtF true (2 ^ m)) (2 ^ m) i * shF true (2 ^ m)) := by
  have hp : 2 ^ m ≤ 2 ^ 10 := Nat.pow_le_pow_right (by omega) hm
  have hp0 := Nat.two_pow_pos m
  have htr : Hid (∀ (back : Bool) {w : World} {g b : Nat} {L : List Nat}, Arr w g L → Steps w b back 11 → b ≠ g → (∀ i, i < 2 ^ m → L.getD i 0 < 998244353) →
      Calls Try.prog 25 #[.pointer (some ⟨g, 0, none⟩), .int .i64 ((2 ^ m : Nat) : Int), .map (some b)] w fun e w' => e = .returned (.tuple #[]) ∧ ∃ M, Arr w' g M ∧ Only g w w' ∧
      ∀ i, i < 2 ^ m → M.getD i 0 = vF (dft (fF L) (rtF back (2 ^ m)) (2 ^ m) i * shF back (2 ^ m))) := hid fun back {w g b L} h1 h2 h3 h4 => transform_any back m hm h1 h2 h3 h4
  obtain ⟨n, hn⟩ : ∃ n, n = 2 ^ m := ⟨_, rfl⟩
  rw [← hn] at hp hp0 ra rb htr ⊢
  have RA := hid ra
  have RB := hid rb
  clear hn ra rb
  go_enter Try.func28, Try.ntmps28
  apply wp_seq_k
  intro K0 hK0
  refine wp_region_list ?_
  refine law_boxP rfl _ rfl A rfl la oa ?_
  intro w1 hA1 hF1
  refine law_boxP rfl _ rfl B rfl lb ob ?_
  intro w2 hB2 hF2
  refine law_allocP rfl rfl ?_
  intro w3 hC3 hF3
  have hA3 := (hA1.fwd hF2).fwd hF3
  have hB3 := hB2.fwd hF3
  have hFw := (hF1.trans hF2).trans hF3
  have l1 := hA1.lt
  have l2 := hB2.lt
  have s1 := hF1.size
  have s2 := hF2.size
  have s3 := hF3.size
  have l3 := hC3.lt
  clear hA1 hB2 hF1 hF2 hF3
  obtain ⟨ga, hga⟩ : ∃ ga, ga = w.heap.size := ⟨_, rfl⟩
  obtain ⟨gb, hgb⟩ : ∃ gb, gb = w1.heap.size := ⟨_, rfl⟩
  obtain ⟨gc, hgc⟩ : ∃ gc, gc = w2.heap.size := ⟨_, rfl⟩
  rw [← hga] at hA3 l1 ⊢
  rw [← hgb] at hB3 l2 ⊢
  rw [← hgc] at hC3 l3 ⊢
  have n1 : ga ≠ gb := by omega
  have n2 : ga ≠ gc := by omega
  have n3 : gb ≠ gc := by omega
  have e1 : w.heap.size ≤ ga := by omega
  have e2 : w.heap.size ≤ gb := by omega
  have e3 : w.heap.size ≤ gc := by omega
  have b1 : ga < w3.heap.size := by omega
  have b2 : gb < w3.heap.size := by omega
  have b3 : gc < w3.heap.size := by omega
  have HA3 := hid hA3
  have HB3 := hid hB3
  have HC3 := hid hC3
  have HF3 := hid hFw
  clear hA3 hB3 hC3 hFw hga hgb hgc l1 l2 l3 s1 s2 s3
  go_wp2_with fail
  refine (stepsOf_any _ false).mono ?_
  rintro e w4 ⟨bf, rfl, hS4, hF4, hbf⟩
  have HA4 := hid (HA3.out.fwd hF4)
  have HB4 := hid (HB3.out.fwd hF4)
  have HC4 := hid (HC3.out.fwd hF4)
  have HF4 := hid (HF3.out.trans hF4)
  have HS4 := hid hS4
  have m1 : bf ≠ ga := by omega
  have m2 : bf ≠ gb := by omega
  clear hF4 hS4 HA3 HB3 HC3 HF3
  go_wp2_with fail
  refine (htr.out false HA4.out HS4.out m1 RA.out).mono ?_
  rintro e w5 ⟨rfl, A2, hA5, hO5, hA2⟩
  have HA5 := hid hA5
  have HB5 := hid (HB4.out.only hO5 (Ne.symm n1))
  have HC5 := hid (HC4.out.only hO5 (Ne.symm n2))
  have HS5 := hid (HS4.out.only hO5 m1)
  have HF5 := hid (HF4.out.wrote hO5 e1)
  have HA2 := hid hA2
  clear hA5 hO5 hA2 HA4 HB4 HC4 HS4 HF4
  go_wp2_with fail
  refine (htr.out false HB5.out HS5.out m2 RB.out).mono ?_
  rintro e w6 ⟨rfl, B2, hB6, hO6, hB2⟩
  have HA6 := hid (HA5.out.only hO6 n1)
  have HB6 := hid hB6
  have HC6 := hid (HC5.out.only hO6 (Ne.symm n3))
  have HF6 := hid (HF5.out.wrote hO6 e2)
  have HB2 := hid hB2
  clear hB6 hO6 hB2 HA5 HB5 HC5 HS5 HF5
  go_wp2_with fail
  go_loopw [17] (fun kv wr => ∃ (k : Nat) (N : List Nat), k ≤ n ∧ kv = .int .i64 k ∧ Arr wr ga N ∧ Arr wr gb B2 ∧ Arr wr gc (List.replicate 1024 0) ∧ Fwd w wr ∧ PInv n (fF A2) (fF B2) k N) (fun kv _ => n - (intOf kv).toNat)
  case atStart =>
    refine ⟨0, A2, by omega, rfl, HA6.out, HB6.out, HC6.out, HF6.out, fun i hi => ⟨?_, by rw [if_neg (by omega)]⟩⟩
    rw [HA2.out i hi]
    exact vF_lt _
  case round =>
    obtain ⟨k, N, hk, rfl, hN, hBr, hCr, hFr, hI⟩ := hrel
    have HN := hid hN
    have HBr := hid hBr
    have HCr := hid hCr
    have HFr := hid hFr
    have HI := hid hI
    clear hN hBr hCr hFr hI
    by_cases hkn : k < n
    · have hst := hid (HI.out.step (bv := B2.getD k 0) HN.out.2.1 (by omega) hkn rfl)
      have hxl := (HI.out k hkn).1
      have hyl : B2.getD k 0 < 998244353 := by rw [HB2.out k hkn]; exact vF_lt _
      have hck := hid (HN.out.cell k (by omega))
      have hcb := hid (HBr.out.cell k (by omega))
      have hfo := hid (HN.out.frozen k)
      have hset := hid (HN.out.set k)
      obtain ⟨x, hx⟩ : ∃ x, x = N.getD k 0 := ⟨_, rfl⟩
      obtain ⟨y, hy⟩ : ∃ y, y = B2.getD k 0 := ⟨_, rfl⟩
      rw [← hx] at hst hxl hck
      rw [← hy] at hst hyl hcb
      have hpl : x * y % 998244353 < 998244353 := Nat.mod_lt _ (by omega)
      have hct : Hid (∀ w', Calls Try.prog 30 #[.int .u32 x, .int .u32 y] w' fun e' w'' => e' = .returned (.int .u32 ((x * y % 998244353 : Nat) : Int)) ∧ w'' = w') := hid fun w' => times_any w' x y (by omega) (by omega)
      obtain ⟨p, hp'⟩ : ∃ p, p = x * y % 998244353 := ⟨_, rfl⟩
      rw [← hp'] at hst hpl hct
      have hset2 := hid (hset.out p (by omega))
      have hb1 : k < 1024 := by omega
      clear hx hy hp' hset
      go_wp2_with fail
      have c1 := hck.out
      have c2 := hcb.out
      have f1 := hfo.out
      go_region_with (go_at_call 30; refine (hct.out _).mono ?_; rintro e1 w1 ⟨rfl, rfl⟩)
      all_goals (
        generalize hw9 : ((wr.setCell ⟨ga, k, none⟩ (.int .u32 (p : Int))).drew) = w9 at *
        have hO9 : Only ga wr w9 := by rw [← hw9]; exact ((Only.refl ga wr).setv k _).drew
        have hA9 : Hid (Arr w9 ga (N.set k p)) := by rw [← hw9]; exact hset2.out
        have hB9 := hid (HBr.out.only hO9 (Ne.symm n1))
        have hC9 := hid (HCr.out.only hO9 (Ne.symm n2))
        have hF9 := hid (HFr.out.wrote hO9 e1)
        clear hw9 hset2 hO9
        go_wp2_with fail
        go_roundw
        case rel => exact ⟨k + 1, _, by omega, by go_num, hA9.out, hB9.out, hC9.out, hF9.out, hst.out⟩
        case measure => simp [intOf]; omega)
    · obtain rfl : k = n := by omega
      go_wp2_with fail
      refine (stepsOf_any _ true).mono ?_
      rintro e w7 ⟨bt, rfl, hS7, hF7, hbt⟩
      have lt7 := HN.out.lt
      have m3 : bt ≠ ga := by omega
      have HN7 := hid (HN.out.fwd hF7)
      have HC7 := hid (HCr.out.fwd hF7)
      have HF7 := hid (HFr.out.trans hF7)
      have HS7 := hid hS7
      clear hS7 hF7 hbt lt7
      go_wp2_with fail
      refine (htr.out true HN7.out HS7.out m3 (fun i hi => (HI.out i hi).1)).mono ?_
      rintro e w8 ⟨rfl, C, hC8, hO8, hC2⟩
      have HA8 := hid hC8
      have HC8 := hid (HC7.out.only hO8 (Ne.symm n2))
      have HF8 := hid (HF7.out.wrote hO8 e1)
      have HC2 := hid hC2
      clear hC8 hO8 hC2
      go_upto_region 10 with fail
      refine wp_region_list ?_
      refine law_loadP rfl _ rfl _ _ rfl HA8.out ?_
      refine law_storeP rfl _ _ rfl _ _ _ rfl rfl HC8.out HA8.out.2.1 HA8.out.2.2 ?_
      intro w9 hA9 hO9
      have HA9 := hid hA9
      have HF9 := hid (HF8.out.wrote hO9 e3)
      clear hA9 hO9
      go_wp2_with fail
      refine bodyPost_ret (results_cell_row Try.results28 _ _ _ _ _ _ _ rfl HA9.out.1 Try.underlying57 rfl (by rw [size_pts, cells_size, HA9.out.2.1])) rfl ?_
      refine ⟨C, rfl, HA9.out.2.1, HA9.out.2.2, HF9.out, fun i hi => ?_⟩
      rw [HC2.out i hi]
      congr 2
      refine dft_congr fun j hj => ?_
      have h2 := (HI.out j hj).2
      rw [if_pos hj] at h2
      rw [h2]
      have ha : fF A2 j = dft (fF A) (rtF false k) k j := by
        show cF (A2.getD j 0) = _
        rw [HA2.out j hj, cF_v, shF_false]; grind
      have hb : fF B2 j = dft (fF B) (rtF false k) k j := by
        show cF (B2.getD j 0) = _
        rw [HB2.out j hj, cF_v, shF_false]; grind
      rw [ha, hb]
end Go.Proofs.Ytimlpehgafjkpaa
